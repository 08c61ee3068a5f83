/-
  Walks of stage 1: chars.Lines, chars.Ready: each returns the string that the plain function of CharsSpec says, where that string and the argument have at most 2^47 bytes.
-/
import Derived.Test.YtadhgngeonkfcaaCharsWalkB
namespace Go.Proofs.Ytadhgngeonkfcaa.Ch
open Go.RowKit

theorem drop_cons (s : ByteArray) (k : Nat) (h : k < s.size) : (L s).drop k = s[k] :: (L s).drop (k + 1) := by
  rw [List.drop_eq_getElem_cons (by rw [size_L]; exact h)]
  rfl

/-- Was the byte ahead a 13? -/
def was (s : ByteArray) (k : Nat) : Bool := (L s)[k - 1]? == some 13 && decide (0 < k)

theorem was_zero (s : ByteArray) : was s 0 = false := by simp [was]
theorem was_succ (s : ByteArray) (k : Nat) (h : k < s.size) : was s (k + 1) = (s[k] == 13) := by
  have : (L s)[k]? = some s[k] := by rw [List.getElem?_eq_getElem (by rw [size_L]; exact h)]; rfl
  simp [was, this]

theorem bd {acc rest total : List UInt8} {x : UInt8} {n : Nat} (h : (acc ++ [x]) ++ rest = total) (ht : total.length ≤ n) : acc.length + 1 ≤ n := by
  have h1 := congrArg List.length h
  rw [List.length_append, List.length_append, List.length_cons, List.length_nil] at h1
  omega

theorem Own.alloc {N : Nat} {w : World} {v : Value} {l : List UInt8} (h : Own N w v l) (o : Obj) : Own N (w.alloc o) v l := World.ownsRow.alloc h o

set_option maxHeartbeats 1000000 in
theorem lines_any (s : ByteArray) (w : World) (hs : s.size ≤ 140737488355328) :
    Calls Try.prog 18 #[.string s] w fun e w' => e = .returned (.string (B (ln false (L s)))) ∧ Below w.heap.size w w' := by
  obtain ⟨i0, hi, hz0, hz1, hz2⟩ := info_parts info_u8
  have hll := ln_len false (L s)
  rw [size_L] at hll
  go_enter Try.func18, Try.ntmps18
  go_wp2_with (at_make; refine wpList_make_own _ rfl (.const (.int .i64 0)) (.tmp 6) 32 rfl w.heap.size 5 i0 (.int .u8 0) 1 Try.underlying32 hi hz0 hz1 .i64 .i64 _ s.size rfl rfl rfl (by rw [hz2]; omega) (by unfold maxLen; omega) (Nat.le_refl _) ?_; intro w1 hown hgrow)
  have hb0 : Below w.heap.size w w1 := (Below.refl w.heap.size w).grown hgrow (Nat.le_refl _) (by simp)
  have ho0 : Own w.heap.size w1 (.slice (some ⟨w.heap.size, 0, none⟩) 0 s.size) [] := hown
  clear hown hgrow
  go_loopw [3, 4, 10] (fun v _ i wr => ∃ (k : Nat) (acc : List UInt8), i = .int .i64 k ∧ k ≤ s.size ∧ Own w.heap.size wr v acc ∧ acc ++ ln (was s k) ((L s).drop k) = ln false (L s) ∧ Below w.heap.size w wr) (fun _ _ i _ => s.size - (intOf i).toNat)
  case atStart => exact ⟨0, [], rfl, Nat.zero_le _, ho0, by simp [was_zero], hb0⟩
  case round =>
    clear ho0 hb0
    obtain ⟨k, acc, rfl, hks, hown, hc, hbel⟩ := hrel
    have hN := hbel.size
    by_cases hp : k < s.size
    · have hdc := drop_cons s k hp
      rw [hdc] at hc
      have hws := was_succ s k hp
      have HW := Lib.hid hws; clear hws hdc
      by_cases h13 : s[k] = 13
      · have hb13 : ((s[k].toNat : Int) == 13) = true := by rw [h13]; rfl
        have hc' : (acc ++ [10]) ++ ln (was s (k + 1)) ((L s).drop (k + 1)) = ln false (L s) := by
          rw [← hc, h13, ln_13, HW.out, h13, List.append_assoc]; rfl
        have hbd := bd hc' hll
        have HC := Lib.hid hc'; clear hc hc' h13
        go_wp2_with (at_builtin; refine wpList_append_own _ rfl (.tmp 24) (.tmp 25) 32 rfl w.heap.size 5 i0 (.int .u8 0) 1 1 Try.underlying32 hi hz0 hz1 hz2 rfl (by decide) _ acc.length (acc.map bc) rfl (hown.alloc _) ⟨wr.heap.size, 0, none⟩ 1 1 [.int .u8 10] rfl rfl (cell_one_new _ _ _) (by intro u hu; simp at hu; subst hu; rfl) (by unfold maxLen; omega) (by omega) (by simp; omega) ?_; intro v2 w2 hown2 hgrow2 _)
        go_roundw
        case rel => exact ⟨k + 1, acc ++ [10], by go_num, by omega, Own.appended (m := [10]) hown2 rfl, HC.out, (hown.alloc _).below hgrow2 (hbel.alloc hN _) (by simp; omega)⟩
        case measure => simp [intOf]; omega
      · have hb13 : ((s[k].toNat : Int) == 13) = false := by
          simpa using fun h => h13 (u8_ext (by simpa using (by omega : s[k].toNat = 13)))
        have hn13 : (s[k] == 13) = false := by simpa using h13
        by_cases h10 : s[k] = 10
        · have hb10 : ((s[k].toNat : Int) == 10) = true := by rw [h10]; rfl
          by_cases h0 : 0 < k
          · obtain ⟨j, rfl⟩ : ∃ j, k = j + 1 := ⟨k - 1, by omega⟩
            have hj : j < s.size := by omega
            have hws := was_succ s j hj
            by_cases hj13 : s[j] = 13
            · have hbj : ((s[j].toNat : Int) == 13) = true := by rw [hj13]; rfl
              have hc' : acc ++ ln (was s (j + 1 + 1)) ((L s).drop (j + 1 + 1)) = ln false (L s) := by
                rw [← hc, h10, HW.out, hn13, hws, hj13]
                exact congrArg (acc ++ ·) (ln_10 _).symm
              have HC := Lib.hid hc'; clear hc hc' hws hj13 h10 h13 hn13 h0
              go_wp2_with fail
              go_roundw
              case rel => exact ⟨j + 1 + 1, acc, by go_num, by omega, hown, HC.out, hbel⟩
              case measure => simp [intOf]; omega
            · have hbj : ((s[j].toNat : Int) == 13) = false := by
                simpa using fun h => hj13 (u8_ext (by simpa using (by omega : s[j].toNat = 13)))
              have hc' : (acc ++ [s[j + 1]]) ++ ln (was s (j + 1 + 1)) ((L s).drop (j + 1 + 1)) = ln false (L s) := by
                rw [← hc, ln_other _ _ _ h13 ?_, HW.out, hn13, List.append_assoc]; rfl
                rw [hws]; simp [hj13]
              have hbd := bd hc' hll
              have HC := Lib.hid hc'; clear hc hc' hws hj13 h10 h13 hn13 h0
              go_wp2_with (at_builtin; refine wpList_append_own _ rfl (.tmp 13) (.tmp 17) 32 rfl w.heap.size 5 i0 (.int .u8 0) 1 1 Try.underlying32 hi hz0 hz1 hz2 rfl (by decide) _ acc.length (acc.map bc) rfl (hown.alloc _) ⟨wr.heap.size, 0, none⟩ 1 1 [.int .u8 s[j + 1].toNat] rfl rfl (cell_one_new _ _ _) (by intro u hu; simp at hu; subst hu; rfl) (by unfold maxLen; omega) (by omega) (by simp; omega) ?_; intro v2 w2 hown2 hgrow2 _)
              go_roundw
              case rel => exact ⟨j + 1 + 1, acc ++ [s[j + 1]], by go_num, by omega, Own.appended (m := [s[j + 1]]) hown2 rfl, HC.out, (hown.alloc _).below hgrow2 (hbel.alloc hN _) (by simp; omega)⟩
              case measure => simp [intOf]; omega
          · obtain rfl : k = 0 := by omega
            have hc' : (acc ++ [s[0]]) ++ ln (was s (0 + 1)) ((L s).drop (0 + 1)) = ln false (L s) := by
              rw [← hc, ln_other _ _ _ h13 ?_, HW.out, hn13, List.append_assoc]; rfl
              rw [was_zero]; simp
            have hbd := bd hc' hll
            have HC := Lib.hid hc'; clear hc hc' h10 h13 hn13 h0
            go_wp2_with (at_builtin; refine wpList_append_own _ rfl (.tmp 13) (.tmp 17) 32 rfl w.heap.size 5 i0 (.int .u8 0) 1 1 Try.underlying32 hi hz0 hz1 hz2 rfl (by decide) _ acc.length (acc.map bc) rfl (hown.alloc _) ⟨wr.heap.size, 0, none⟩ 1 1 [.int .u8 s[0].toNat] rfl rfl (cell_one_new _ _ _) (by intro u hu; simp at hu; subst hu; rfl) (by unfold maxLen; omega) (by omega) (by simp; omega) ?_; intro v2 w2 hown2 hgrow2 _)
            go_roundw
            case rel => exact ⟨0 + 1, acc ++ [s[0]], by go_num, by omega, Own.appended (m := [s[0]]) hown2 rfl, HC.out, (hown.alloc _).below hgrow2 (hbel.alloc hN _) (by simp; omega)⟩
            case measure => simp [intOf]; omega
        · have hb10 : ((s[k].toNat : Int) == 10) = false := by
            simpa using fun h => h10 (u8_ext (by simpa using (by omega : s[k].toNat = 10)))
          have hc' : (acc ++ [s[k]]) ++ ln (was s (k + 1)) ((L s).drop (k + 1)) = ln false (L s) := by
            rw [← hc, ln_other _ _ _ h13 (fun x => h10 x.1), HW.out, hn13, List.append_assoc]; rfl
          have hbd := bd hc' hll
          have HC := Lib.hid hc'; clear hc hc'
          clear h13 h10 hn13
          go_wp2_with (at_builtin; refine wpList_append_own _ rfl (.tmp 13) (.tmp 17) 32 rfl w.heap.size 5 i0 (.int .u8 0) 1 1 Try.underlying32 hi hz0 hz1 hz2 rfl (by decide) _ acc.length (acc.map bc) rfl (hown.alloc _) ⟨wr.heap.size, 0, none⟩ 1 1 [.int .u8 s[k].toNat] rfl rfl (cell_one_new _ _ _) (by intro u hu; simp at hu; subst hu; rfl) (by unfold maxLen; omega) (by omega) (by simp; omega) ?_; intro v2 w2 hown2 hgrow2 _)
          go_roundw
          case rel => exact ⟨k + 1, acc ++ [s[k]], by go_num, by omega, Own.appended (m := [s[k]]) hown2 rfl, HC.out, (hown.alloc _).below hgrow2 (hbel.alloc hN _) (by simp; omega)⟩
          case measure => simp [intOf]; omega
    · have hcv := hown.string
      rw [List.drop_eq_nil_of_le (by rw [size_L]; omega)] at hc
      have HC := Lib.hid hc; clear hc
      go_wp2
      go_ret
      refine ⟨ret_str ?_, hbel⟩
      have h1 := HC.out
      rw [show ln (was s k) [] = [] from by cases (was s k) <;> rfl, List.append_nil] at h1
      rw [h1]

theorem ready_any (s : ByteArray) (w : World) (hs : s.size ≤ 140737488355328) (hd : (dL (L s)).length ≤ 140737488355328) :
    Calls Try.prog 20 #[.string s] w fun e w' => e = .returned (.string (B (ln false (dL (L s))))) ∧ Below w.heap.size w w' := by
  go_enter Try.func20, Try.ntmps20
  go_wp2_with fail
  refine (decode_any s _ hs hd).mono ?_
  rintro e w1 ⟨rfl, hb1⟩
  go_wp2_with fail
  refine (lines_any (B (dL (L s))) _ (by rw [size_B]; exact hd)).mono ?_
  rintro e w2 ⟨rfl, hb2⟩
  go_wp2
  go_ret
  exact ⟨ret_str (by rw [L_B]), hb1.trans (hb2.mono hb1.size)⟩

end Go.Proofs.Ytadhgngeonkfcaa.Ch
