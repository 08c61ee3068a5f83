/-
  Walk of stage 9: boltinglaw09.fixed returns true; the contracts of link in the form that the laws use, each answer named.
-/
import Derived.Test.YtchholpiikeakaaLinkWalkD
namespace Go.Proofs.Ytchholpiikeakaa.Lk
set_option maxRecDepth 100000
set_option linter.unusedSimpArgs false
set_option linter.unusedVariables false
open Go.RowKit Ba Fm Fo

theorem scheme1 (s : ByteArray) (w : World) (hs : s.size ≤ 140737488355328) (x : ByteArray) (q : Bool) (hx : B (schemeL (L s)) = x) (hq : hasL (L s) = q) :
    Calls Try.prog 11 #[.string s] w fun e w' => e = .returned (.tuple #[.string x, .bool q]) ∧ Below w.heap.size w w' := by
  have k := scheme_any s w hs
  have hv : schemeV (schemeO (L s)) = .tuple #[.string x, .bool q] := by rw [← hx, ← hq]; rfl
  rw [hv] at k
  exact k
theorem source1 (s : ByteArray) (w : World) (hs : s.size ≤ 140737488355328) (x : ByteArray) (q : Bool) (hx : B (sourceL (L s)) = x) (hq : scriptL (L s) = q) :
    Calls Try.prog 16 #[.string s] w fun e w' => e = .returned (.tuple #[.string x, .bool q]) ∧ Below w.heap.size w w' := by
  have k := source_any s w hs
  rw [hx, hq] at k
  exact k
theorem script1 (s : ByteArray) (w : World) (hs : s.size ≤ 140737488355328) (q : Bool) (hq : scriptL (L s) = q) :
    Calls Try.prog 18 #[.string s] w fun e w' => e = .returned (.bool q) ∧ Below w.heap.size w w' := by
  have k := script_any s w hs
  rw [hq] at k
  exact k
theorem strip1 (s : ByteArray) (w : World) (hs : s.size ≤ 140737488355328) (x : ByteArray) (hx : B (stripL (L s)) = x) :
    Calls Try.prog 14 #[.string s] w fun e w' => e = .returned (.string x) ∧ Below w.heap.size w w' := by
  have k := strip_any s w hs
  rw [hx] at k
  exact k
theorem percent1 (s : ByteArray) (w : World) (hs : s.size ≤ 140737488355328) (x : ByteArray) (hx : B (pct (L s)) = x) :
    Calls Try.prog 19 #[.string s] w fun e w' => e = .returned (.string x) ∧ Below w.heap.size w w' := by
  have k := percent_any s w hs
  rw [hx] at k
  exact k

theorem f1 : B (schemeL (L ⟨#[32, 74, 97, 86, 97, 9, 83, 99, 114, 105, 112, 116, 58, 120]⟩)) = ⟨#[106, 97, 118, 97, 115, 99, 114, 105, 112, 116]⟩ := by kernel_rfl
theorem f1' : hasL (L ⟨#[32, 74, 97, 86, 97, 9, 83, 99, 114, 105, 112, 116, 58, 120]⟩) = true := by kernel_rfl
theorem f2 : B (schemeL (L ⟨#[97, 47, 98, 58, 99]⟩)) = ⟨#[]⟩ := by kernel_rfl
theorem f2' : hasL (L ⟨#[97, 47, 98, 58, 99]⟩) = false := by kernel_rfl
theorem f3 : B (sourceL (L ⟨#[106, 97, 118, 97, 115, 99, 114, 105, 112, 116, 58, 97, 37, 50, 48, 98]⟩)) = ⟨#[97, 32, 98]⟩ := by kernel_rfl
theorem f3' : scriptL (L ⟨#[106, 97, 118, 97, 115, 99, 114, 105, 112, 116, 58, 97, 37, 50, 48, 98]⟩) = true := by kernel_rfl
theorem f4 : B (sourceL (L ⟨#[104, 116, 116, 112, 115, 58, 97]⟩)) = ⟨#[]⟩ := by kernel_rfl
theorem f4' : scriptL (L ⟨#[104, 116, 116, 112, 115, 58, 97]⟩) = false := by kernel_rfl
theorem f5 : scriptL (L ⟨#[74, 65, 86, 65, 83, 67, 82, 73, 80, 84, 58]⟩) = true := by kernel_rfl
theorem f6 : scriptL (L ⟨#[106, 97, 118, 97, 115, 99, 114, 105, 112, 116]⟩) = false := by kernel_rfl
theorem f7 : B (stripL (L ⟨#[0, 32, 97, 10, 98, 32]⟩)) = ⟨#[97, 98]⟩ := by kernel_rfl
theorem f8 : B (pct (L ⟨#[37, 52, 49, 37, 52, 37, 122, 122, 37]⟩)) = ⟨#[65, 37, 52, 37, 122, 122, 37]⟩ := by kernel_rfl

theorem fixed9_any (w : World) : Calls Try.prog 13 #[] w fun e w' => e = .returned (.bool true) ∧ Below w.heap.size w w' := by
  go_enter Try.func13, Try.ntmps13
  go_wp2_with fail
  refine (scheme1 ⟨#[32, 74, 97, 86, 97, 9, 83, 99, 114, 105, 112, 116, 58, 120]⟩ w (by decide) _ _ f1 f1').mono ?_
  rintro e w1 ⟨rfl, b1⟩
  go_wp2_with fail
  refine (scheme1 ⟨#[97, 47, 98, 58, 99]⟩ w1 (by decide) _ _ f2 f2').mono ?_
  rintro e w2 ⟨rfl, b2⟩
  go_wp2_with fail
  refine (source1 ⟨#[106, 97, 118, 97, 115, 99, 114, 105, 112, 116, 58, 97, 37, 50, 48, 98]⟩ w2 (by decide) _ _ f3 f3').mono ?_
  rintro e w3 ⟨rfl, b3⟩
  go_wp2_with fail
  refine (source1 ⟨#[104, 116, 116, 112, 115, 58, 97]⟩ w3 (by decide) _ _ f4 f4').mono ?_
  rintro e w4 ⟨rfl, b4⟩
  go_wp2_with fail
  refine (script1 ⟨#[74, 65, 86, 65, 83, 67, 82, 73, 80, 84, 58]⟩ w4 (by decide) _ f5).mono ?_
  rintro e w5 ⟨rfl, b5⟩
  go_wp2_with fail
  refine (script1 ⟨#[106, 97, 118, 97, 115, 99, 114, 105, 112, 116]⟩ w5 (by decide) _ f6).mono ?_
  rintro e w6 ⟨rfl, b6⟩
  go_wp2_with fail
  refine (strip1 ⟨#[0, 32, 97, 10, 98, 32]⟩ w6 (by decide) _ f7).mono ?_
  rintro e w7 ⟨rfl, b7⟩
  go_wp2_with fail
  refine (percent1 ⟨#[37, 52, 49, 37, 52, 37, 122, 122, 37]⟩ w7 (by decide) _ f8).mono ?_
  rintro e w8 ⟨rfl, b8⟩
  go_wp2
  go_ret
  exact ⟨rfl, bt b1 (bt b2 (bt b3 (bt b4 (bt b5 (bt b6 (bt b7 b8))))))⟩

theorem cut_any (x : Nat) (m : Nat) (M : Int) (hM : M = m) (w : World) : ∃ k : Nat, k ≤ x ∧ k ≤ m ∧ k = min x m ∧ ∀ ts t, (Builtin.min_ ts t #[.int .i64 x, .int .i64 M]).run Try.prog w = .ok (.int .i64 k) w := by
  refine ⟨min x m, by omega, by omega, rfl, fun ts t => ?_⟩
  rw [run_min_int2]
  congr 2
  split <;> omega
theorem cut_le (a : ByteArray) (k : Nat) : (a.extract 0 k).size ≤ k := by
  rw [← size_L, L_extract, List.drop_zero, Nat.sub_zero, List.length_take]; omega

end Go.Proofs.Ytchholpiikeakaa.Lk
