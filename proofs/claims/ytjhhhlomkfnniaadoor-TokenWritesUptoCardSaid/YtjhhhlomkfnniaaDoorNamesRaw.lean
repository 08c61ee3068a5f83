/-
  Walks of stage 5: names.among, names.Raw, Soft, the document's own.
-/
import Derived.Test.YtjhhhlomkfnniaaDoorRefHas
import Derived.Test.YtjhhhlomkfnniaaDoorNamesMath
namespace Go.Proofs.YtjhhhlomkfnniaaDoor.Na
set_option linter.unusedSimpArgs false
set_option linter.unusedVariables false
open Go.RowKit Ba Fm Fo Nm

set_option maxHeartbeats 400000 in
theorem among_any (A : Option Addr) (c N : Nat) (l : List ByteArray) (s : ByteArray) (w : World) (hr : Rd w N A l) (hl : l.length ≤ 8796093022208) :
    Calls Tryd.prog 70 #[.string s, .slice A l.length c] w fun e w' => e = .returned (.bool (isIn s l)) ∧ w = w' := by
  go_enter Tryd.func70, Tryd.ntmps70
  go_wp2
  go_loop [9] (fun i => ∃ k : Nat, i = .int .i64 k ∧ k ≤ l.length ∧ ¬ s ∈ l.take k) (fun i => l.length - (intOf i).toNat)
  case atStart => exact ⟨0, rfl, Nat.zero_le _, by simp⟩
  case round =>
    obtain ⟨k, rfl, hks, hn⟩ := hrel
    have HN := Lib.hid hn; clear hn
    by_cases hp : k < l.length
    · obtain ⟨b, off, rfl, _, hc⟩ := hr (by omega)
      have hcell := hc k hp
      clear hc hr
      have heq := eq_of_toList (a := l[k]) (b := s)
      by_cases he : l[k] = s
      · rw [decide_eq_true he] at heq
        have HE := Lib.hid he; clear he
        go_wp2
        go_ret
        exact ⟨ret_bool (isIn_yes (by have := HE.out; rw [← this]; exact List.getElem_mem _)).symm, rfl⟩
      · rw [decide_eq_false he] at heq
        have HE := Lib.hid he; clear he
        go_wp2
        go_round
        case rel => exact ⟨k + 1, by go_num, by omega, has_snoc l s k hp HN.out HE.out⟩
        case measure => simp [intOf]; omega
    · go_wp2
      go_ret
      refine ⟨ret_bool (isIn_no ?_).symm, rfl⟩
      have := HN.out
      rwa [List.take_of_length_le (by omega)] at this

theorem amongLit (w : World) (l : List ByteArray) (s : ByteArray) (hl : l.length ≤ 1000) :
    Calls Tryd.prog 70 #[.string s, .slice (some ⟨w.heap.size, 0, none⟩) l.length l.length] (w.alloc (.cells (l.map sc).toArray 9)) fun e w' => e = .returned (.bool (isIn s l)) ∧ w.alloc (.cells (l.map sc).toArray 9) = w' :=
  among_any _ _ _ l s _ (sv_lit w l).rd (by omega)
theorem sown_lit (w : World) (l : List ByteArray) (hl : l.length ≤ 1000) : Sown w.heap.size (w.alloc (.cells (l.map sc).toArray 9)) (.slice (some ⟨w.heap.size, 0, none⟩) l.length l.length) l :=
  World.ownsRow_lit w (l.map sc).toArray l.length (Nat.le_refl _) (by unfold maxLen; omega) (by simp)

theorem raw_lit (w : World) (s : ByteArray) :
    Calls Tryd.prog 70 #[.string s, .slice (some ⟨w.heap.size, 0, none⟩) 6 6] (w.alloc (.cells #[.string ⟨#[105, 102, 114, 97, 109, 101]⟩, .string ⟨#[110, 111, 101, 109, 98, 101, 100]⟩, .string ⟨#[110, 111, 102, 114, 97, 109, 101, 115]⟩, .string ⟨#[115, 99, 114, 105, 112, 116]⟩, .string ⟨#[115, 116, 121, 108, 101]⟩, .string ⟨#[120, 109, 112]⟩] 9)) fun e w' => e = .returned (.bool (isIn s rawL)) ∧ w.alloc (.cells #[.string ⟨#[105, 102, 114, 97, 109, 101]⟩, .string ⟨#[110, 111, 101, 109, 98, 101, 100]⟩, .string ⟨#[110, 111, 102, 114, 97, 109, 101, 115]⟩, .string ⟨#[115, 99, 114, 105, 112, 116]⟩, .string ⟨#[115, 116, 121, 108, 101]⟩, .string ⟨#[120, 109, 112]⟩] 9) = w' := amongLit w rawL s (by decide)
set_option maxHeartbeats 1000000 in
theorem raw_any (s : ByteArray) (w : World) : Calls Tryd.prog 36 #[.string s] w fun e w' => e = .returned (.bool (isIn s rawL)) ∧ Below w.heap.size w w' := by
  go_enter Tryd.func36, Tryd.ntmps36
  go_wp2_with fail
  refine (raw_lit w s).mono ?_
  rintro e w1 ⟨rfl, rfl⟩
  go_wp2
  go_ret
  exact ⟨rfl, below_one w _⟩
theorem soft_lit (w : World) (s : ByteArray) :
    Calls Tryd.prog 70 #[.string s, .slice (some ⟨w.heap.size, 0, none⟩) 2 2] (w.alloc (.cells #[.string ⟨#[116, 101, 120, 116, 97, 114, 101, 97]⟩, .string ⟨#[116, 105, 116, 108, 101]⟩] 9)) fun e w' => e = .returned (.bool (isIn s softL)) ∧ w.alloc (.cells #[.string ⟨#[116, 101, 120, 116, 97, 114, 101, 97]⟩, .string ⟨#[116, 105, 116, 108, 101]⟩] 9) = w' := amongLit w softL s (by decide)
set_option maxHeartbeats 1000000 in
theorem soft_any (s : ByteArray) (w : World) : Calls Tryd.prog 57 #[.string s] w fun e w' => e = .returned (.bool (isIn s softL)) ∧ Below w.heap.size w w' := by
  go_enter Tryd.func57, Tryd.ntmps57
  go_wp2_with fail
  refine (soft_lit w s).mono ?_
  rintro e w1 ⟨rfl, rfl⟩
  go_wp2
  go_ret
  exact ⟨rfl, below_one w _⟩
set_option maxHeartbeats 1000000 in
theorem refRaw_any (w : World) : Calls Tryd.prog 38 #[] w fun e w' => ∃ v, e = .returned v ∧ Sown w.heap.size w' v rawL ∧ Below w.heap.size w w' := by
  have hs := sown_lit w rawL (by decide)
  go_enter Tryd.func38, Tryd.ntmps38
  go_wp2
  go_ret
  exact ⟨_, rfl, hs, below_one w _⟩
set_option maxHeartbeats 1000000 in
theorem refSoft_any (w : World) : Calls Tryd.prog 44 #[] w fun e w' => ∃ v, e = .returned v ∧ Sown w.heap.size w' v softL ∧ Below w.heap.size w w' := by
  have hs := sown_lit w softL (by decide)
  go_enter Tryd.func44, Tryd.ntmps44
  go_wp2
  go_ret
  exact ⟨_, rfl, hs, below_one w _⟩
theorem hasS (w : World) (v : Value) (l : List ByteArray) (s : ByteArray) (hv : Sv w w.heap.size v l) (hl : l.length ≤ 1000) :
    Calls Tryd.prog 37 #[v, .string s] w fun e w' => e = .returned (.bool (isIn s l)) ∧ w = w' := by
  obtain ⟨A, c, rfl, _, _, hr⟩ := hv
  exact has_any A c _ l s w hr (by omega)

end Go.Proofs.YtjhhhlomkfnniaaDoor.Na
