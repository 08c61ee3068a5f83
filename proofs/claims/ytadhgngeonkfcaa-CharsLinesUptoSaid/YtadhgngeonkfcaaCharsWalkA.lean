/-
  Walks of stage 1: chars.Count, chars.startsReplaced, chars.Sample: each returns what the plain function of CharsSpec says, for every string.
-/
import Derived.Test.YtadhgngeonkfcaaRows
import Derived.Test.YtadhgngeonkfcaaCharsSpec
import Derived.WalkKit
import Derived.WalkSpells
import Derived.Lib.OthersKept
import Derived.Lib.Hide
import Derived.Lib.Strings
import Derived.OpenShut
namespace Go.Proofs.Ytadhgngeonkfcaa.Ch
open Go.RowKit

abbrev L (s : ByteArray) : List UInt8 := s.data.toList
theorem size_L (s : ByteArray) : (L s).length = s.size := by rw [Array.length_toList]; rfl
theorem drop_ne (s : ByteArray) (k : Nat) (h : k < s.size) : (L s).drop k ≠ [] := by
  intro e
  have := congrArg List.length e
  rw [List.length_drop, size_L] at this
  simp at this; omega
theorem drop_nil (s : ByteArray) (k : Nat) (h : ¬ k < s.size) : (L s).drop k = [] := List.drop_eq_nil_of_le (by rw [size_L]; omega)

theorem ret_int {k : IntKind} {a b : Int} (h : a = b) : Ending.returned (.int k a) = .returned (.int k b) := by rw [h]
theorem ret_bool {a b : Bool} (h : a = b) : Ending.returned (.bool a) = .returned (.bool b) := by rw [h]
theorem ret_str {a b : ByteArray} (h : a = b) : Ending.returned (.string a) = .returned (.string b) := by rw [h]

theorem below_iter (w : World) (s : ByteArray) (p : Nat) : Below w.heap.size w (w.iter s p) :=
  (Below.refl _ _).alloc (Nat.le_refl _) _

set_option maxHeartbeats 400000 in
theorem count_any (s : ByteArray) (w : World) (hs : s.size ≤ maxLen) :
    Calls Try.prog 17 #[.string s] w fun e w' => e = .returned (.int .i64 (cL (L s))) ∧ Below w.heap.size w w' := by
  unfold maxLen at hs
  have hle := (cL_le (L s)).1
  have hsz := size_L s
  have hle2 : cL (L s) ≤ 9223372036854775807 := by omega
  clear hle hsz
  go_enter Try.func17, Try.ntmps17
  go_wp2
  go_loopw [3] (fun n w' => ∃ (pos k : Nat), w' = w.iter s pos ∧ n = .int .i64 k ∧ k + cL ((L s).drop pos) = cL (L s)) (fun _ w' => s.size - w'.iterPos w.heap.size)
  case atStart => exact ⟨0, 0, rfl, rfl, by simp⟩
  case round =>
    obtain ⟨pos, k, rfl, rfl, hc⟩ := hrel
    by_cases hp : pos < s.size
    · have hnx : ∀ ty, (Instr.next (.pointer (some ⟨w.heap.size, 0, none⟩)) true ty).run Try.prog (w.iter s pos) = _ := fun ty => run_next_any w s pos ty hp
      have hst := cL_step _ (drop_ne s pos hp)
      have hdp := dec_pos _ (drop_ne s pos hp)
      rw [← decode_eq] at hst hdp
      have hk : k + 1 ≤ cL (L s) := by omega
      have HC := Lib.hid hc; clear hc
      have HS := Lib.hid hst; clear hst
      go_wp2
      go_roundw
      case rel =>
        refine ⟨pos + (Utf8.decode s pos).2, k + 1, rfl, by go_num, ?_⟩
        have h1 := HC.out
        have h2 := HS.out
        rw [List.drop_drop] at h2
        omega
      case measure => simp; omega
    · have hnx : ∀ ty, (Instr.next (.pointer (some ⟨w.heap.size, 0, none⟩)) true ty).run Try.prog (w.iter s pos) = _ := fun ty => run_next_end w s pos ty hp
      rw [drop_nil s pos hp, cL_nil] at hc
      have HC := Lib.hid hc; clear hc
      go_wp2
      go_ret
      exact ⟨ret_int (by have := HC.out; omega), below_iter w s pos⟩

/-- A string of these bytes. -/
def B (l : List UInt8) : ByteArray := ⟨l.toArray⟩
theorem L_B (l : List UInt8) : L (B l) = l := by simp [B]
theorem toList_B (l : List UInt8) : (B l).toList = l := by unfold B; exact ByteArray.toList_mk l
theorem size_B (l : List UInt8) : (B l).size = l.length := by rw [← size_L, L_B]
theorem B_of {s : ByteArray} {l : List UInt8} (h : L s = l) : s = B l := WideShapes.bytes_inj (h.trans (L_B l).symm)

theorem L_extract (s : ByteArray) (a b : Nat) : L (s.extract a b) = ((L s).drop a).take (b - a) := Lib.extract_data s a b
theorem L_end (s : ByteArray) (a : Nat) : L (s.extract a s.size) = (L s).drop a := by
  rw [L_extract, List.take_of_length_le]
  rw [List.length_drop, size_L]
  exact Nat.le_refl _
theorem size_extract (s : ByteArray) (a b : Nat) : (s.extract a b).size ≤ s.size := by
  rw [← size_L, ← size_L, L_extract, List.length_take, List.length_drop]; omega

theorem starts_no (s : ByteArray) (w : World) (h : ¬ 3 ≤ s.size) :
    Calls Try.prog 24 #[.string s] w fun e w' => e = .returned (.bool false) ∧ w = w' := by
  go_enter Try.func24, Try.ntmps24
  go_wp2
  go_ret
  exact ⟨rfl, rfl⟩

theorem starts_yes (s : ByteArray) (w : World) (h : 3 ≤ s.size) (hs : s.size ≤ maxLen) :
    Calls Try.prog 24 #[.string s] w fun e w' => e = .returned (.bool (decide ((L s).take 3 = F))) ∧ w = w' := by
  unfold maxLen at hs
  go_enter Try.func24, Try.ntmps24
  go_wp2
  go_ret
  refine ⟨ret_bool ?_, rfl⟩
  rw [Lib.extract_toList, Bool.eq_iff_iff]
  simp only [List.drop_zero, Nat.sub_zero, beq_iff_eq]
  exact ⟨fun h => decide_eq_true h, fun h => of_decide_eq_true h⟩

theorem starts_any (s : ByteArray) (w : World) (hs : s.size ≤ maxLen) :
    Calls Try.prog 24 #[.string s] w fun e w' => e = .returned (.bool (decide ((L s).take 3 = F))) ∧ w = w' := by
  by_cases h : 3 ≤ s.size
  · exact starts_yes s w h hs
  · refine (starts_no s w h).mono fun e w' ⟨he, hw⟩ => ⟨?_, hw⟩
    rw [he]
    refine ret_bool ?_
    symm
    rw [decide_eq_false_iff_not]
    intro e
    have := congrArg List.length e
    rw [List.length_take, size_L] at this
    simp [F] at this
    omega

set_option maxHeartbeats 400000 in
theorem sample_any (s : ByteArray) (n : Int) (w : World) (hn : (Lit.int .i64 n).wf = true) :
    Calls Try.prog 22 #[.string s, .int .i64 n] w fun e w' => e = .returned (.string (B (smp (L s) n.toNat))) ∧ Below w.heap.size w w' := by
  have hn1 : -9223372036854775808 ≤ n ∧ n ≤ 9223372036854775807 := by simpa [Lit.wf, IntKind.min, IntKind.bits, IntKind.signed] using hn
  obtain ⟨hnl, hnh⟩ := hn1
  go_enter Try.func22, Try.ntmps22
  go_wp2
  go_loopw [1] (fun v w' => ∃ (pos : Nat) (m : Int), w' = w.iter s pos ∧ v = .int .i64 m ∧ -9223372036854775808 ≤ m ∧ m ≤ 9223372036854775807 ∧ pos ≤ s.size ∧ (L s).take pos ++ smp ((L s).drop pos) m.toNat = smp (L s) n.toNat) (fun _ w' => s.size - w'.iterPos w.heap.size)
  case atStart => exact ⟨0, n, rfl, rfl, hnl, hnh, Nat.zero_le _, by simp⟩
  case round =>
    obtain ⟨pos, m, rfl, rfl, hml, hmh, hps, hc⟩ := hrel
    have HC := Lib.hid hc; clear hc
    by_cases hp : pos < s.size
    · have hnx : ∀ ty, (Instr.next (.pointer (some ⟨w.heap.size, 0, none⟩)) true ty).run Try.prog (w.iter s pos) = _ := fun ty => run_next_any w s pos ty hp
      by_cases hm : m < 1
      · go_wp2
        go_ret
        refine ⟨ret_str (B_of ?_), below_iter w s _⟩
        have h1 := HC.out
        rw [show m.toNat = 0 from by omega, smp_zero, List.append_nil] at h1
        rw [← h1, L_extract]; simp
      · have hdp := dec_pos _ (drop_ne s pos hp)
        have hdl := dec_le _ (drop_ne s pos hp)
        rw [← decode_eq] at hdp hdl
        rw [List.length_drop, size_L] at hdl
        go_wp2
        go_roundw
        case rel =>
          refine ⟨pos + (Utf8.decode s pos).2, m - 1, rfl, by go_num, by omega, by omega, by omega, ?_⟩
          rw [← HC.out, show m.toNat = (m - 1).toNat + 1 from by omega, smp_step _ (drop_ne s pos hp), ← decode_eq, List.drop_drop, ← List.append_assoc, List.take_add]
        case measure => simp; omega
    · have hnx : ∀ ty, (Instr.next (.pointer (some ⟨w.heap.size, 0, none⟩)) true ty).run Try.prog (w.iter s pos) = _ := fun ty => run_next_end w s pos ty hp
      go_wp2
      go_ret
      refine ⟨ret_str (B_of ?_), below_iter w s _⟩
      have h1 := HC.out
      rw [drop_nil s pos hp, smp_nil, List.append_nil, List.take_of_length_le (by rw [size_L]; omega)] at h1
      exact h1

set_option maxHeartbeats 400000 in
theorem right_any (s : ByteArray) (w : World) (hs : s.size ≤ maxLen) :
    Calls Try.prog 15 #[.string s] w fun e w' => e = .returned (.bool (rL (L s))) ∧ Below w.heap.size w w' := by
  unfold maxLen at hs
  go_enter Try.func15, Try.ntmps15
  go_wp2
  go_loopw [3, 4] (fun _ _ w' => ∃ (pos : Nat), w' = w.iter s pos ∧ pos ≤ s.size ∧ rL ((L s).drop pos) = rL (L s)) (fun _ _ w' => s.size - w'.iterPos w.heap.size)
  case atStart => exact ⟨0, rfl, Nat.zero_le _, by simp⟩
  case round =>
    obtain ⟨pos, rfl, hps, hc⟩ := hrel
    have HC := Lib.hid hc; clear hc
    by_cases hp : pos < s.size
    · have hnx : ∀ ty, (Instr.next (.pointer (some ⟨w.heap.size, 0, none⟩)) true ty).run Try.prog (w.iter s pos) = _ := fun ty => run_next_any w s pos ty hp
      have hdp := dec_pos _ (drop_ne s pos hp)
      have hdl := dec_le _ (drop_ne s pos hp)
      have hst := rL_step _ (drop_ne s pos hp)
      have heq := starts_eq _ (drop_ne s pos hp)
      rw [List.drop_drop, ← decode_eq] at hst
      rw [← decode_eq] at hdp hdl heq
      rw [List.length_drop, size_L] at hdl
      have HS := Lib.hid hst; clear hst
      have HE := Lib.hid heq; clear heq
      by_cases hr : (Utf8.decode s pos).1 = 65533
      · have hrb : (((Utf8.decode s pos).1 : Int) == 65533) = true := by rw [hr]; rfl
        have HR := Lib.hid hr; clear hr
        have hx : (s.extract pos s.size).size ≤ maxLen := by have := size_extract s pos s.size; unfold maxLen; omega
        go_wp2_with (go_at_call 24; refine (starts_any _ _ hx).mono ?_; rintro e w' ⟨rfl, rfl⟩)
        · have hq : (!decide (List.take 3 (L (s.extract pos s.size)) = F)) = true := by assumption
          rw [L_end] at hq
          go_ret
          refine ⟨ret_bool ?_, below_iter w s _⟩
          have h1 := HE.out HR.out
          rw [← HC.out, HS.out, okP, ← h1, HR.out]
          simp at hq
          simp [hq]
        · have hq : (!decide (List.take 3 (L (s.extract pos s.size)) = F)) = false := by assumption
          rw [L_end] at hq
          go_roundw
          case rel =>
            refine ⟨pos + (Utf8.decode s pos).2, rfl, by omega, ?_⟩
            have h1 := HE.out HR.out
            rw [← HC.out, HS.out, okP, ← h1, HR.out]
            simp at hq
            simp [hq]
          case measure => simp; omega
      · have hrb : (((Utf8.decode s pos).1 : Int) == 65533) = false := by simpa using fun h => hr (by omega)
        have HR := Lib.hid hr; clear hr
        go_wp2
        go_roundw
        case rel =>
          refine ⟨pos + (Utf8.decode s pos).2, rfl, by omega, ?_⟩
          rw [← HC.out, HS.out, okP]
          have h2 : ((Utf8.decode s pos).1 == 65533) = false := by simpa using HR.out
          simp only [h2, Bool.not_false, Bool.true_or, Bool.true_and]
        case measure => simp; omega
    · have hnx : ∀ ty, (Instr.next (.pointer (some ⟨w.heap.size, 0, none⟩)) true ty).run Try.prog (w.iter s pos) = _ := fun ty => run_next_end w s pos ty hp
      go_wp2
      go_ret
      refine ⟨ret_bool ?_, below_iter w s _⟩
      rw [← HC.out, drop_nil s pos hp, rL_nil]

end Go.Proofs.Ytadhgngeonkfcaa.Ch
