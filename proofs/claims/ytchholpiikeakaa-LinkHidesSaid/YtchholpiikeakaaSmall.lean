/-
  Small laws for the statements' own texts: min of a length, a mask of an int, a cut's size. For every stage from 5 on.
-/
import Derived.Test.YtchholpiikeakaaSv
namespace Go.Proofs.Ytchholpiikeakaa.Sm
set_option maxRecDepth 100000
set_option linter.unusedSimpArgs false
set_option linter.unusedVariables false
open Go.RowKit Ba

theorem cut_size (s : ByteArray) (k : Nat) : (s.extract 0 k).size ≤ k := by
  rw [← size_L, L_extract, List.length_take]; omega
theorem min_any (x : Nat) (m : Nat) (M : Int) (hM : M = m) (w : World) : ∃ k : Nat, k ≤ x ∧ k ≤ m ∧ k = min x m ∧ ∀ ts t, (Builtin.min_ ts t #[.int .i64 x, .int .i64 M]).run Try.prog w = .ok (.int .i64 k) w := by
  refine ⟨min x m, by omega, by omega, rfl, fun ts t => ?_⟩
  rw [run_min_int2]
  congr 2
  split <;> omega
theorem and_small (n : Int) (m j : Nat) (hm : m < 2 ^ j) (hj : 2 ^ j ≤ 4611686018427387904) : ∃ x : Nat, x < 2 ^ j ∧ bits .and .i64 n (m : Int) = (x : Int) := by
  have hlt : (BitVec.ofInt IntKind.i64.bits n).toNat &&& m < 2 ^ j := Nat.and_lt_two_pow _ hm
  refine ⟨_, hlt, ?_⟩
  have hm' : m % 2 ^ IntKind.i64.bits = m := Nat.mod_eq_of_lt (Nat.lt_of_lt_of_le hm (Nat.le_trans hj (by decide)))
  simp only [bits, BitVec.ofInt_natCast, BitVec.toNat_and, BitVec.toNat_ofNat, hm']
  rw [IntKind.wrap_i64]
  omega
theorem size_take (s : ByteArray) (k : Nat) (h : k ≤ s.size) : (s.extract 0 k).size = k := by
  rw [← size_L, L_extract, List.length_take, List.drop_zero, size_L]; omega

end Go.Proofs.Ytchholpiikeakaa.Sm
