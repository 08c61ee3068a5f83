/-
  Walks of stage 1: boltingref01.Decode, Lines and Ready: each returns what the plain function of CharsSpec says, where that string and the argument have at most 2^47 bytes.
-/
import Derived.Test.YtadhgngeonkfcaaCharsWalkF
namespace Go.Proofs.Ytadhgngeonkfcaa.Ch
open Go.RowKit

theorem own_empty (w : World) : Own w.heap.size (w.alloc (.cells #[] 5)) (.slice (some ⟨w.heap.size, 0, none⟩) 0 0) [] :=
  World.ownsRow_made w #[] 0 (Nat.le_refl _) (Nat.zero_le _) rfl

theorem bd3 {acc rest total : List UInt8} {n : Nat} (h : (acc ++ F) ++ rest = total) (ht : total.length ≤ n) : acc.length + 3 ≤ n := by
  have h1 := congrArg List.length h
  rw [List.length_append, List.length_append] at h1
  simp only [F, List.length_cons, List.length_nil] at h1
  omega

set_option maxRecDepth 100000 in
set_option maxHeartbeats 1000000 in
theorem refDecode_any (s : ByteArray) (w : World) (hs : s.size ≤ 140737488355328) (hd : (dL (L s)).length ≤ 140737488355328) :
    Calls Try.prog 14 #[.string s] w fun e w' => e = .returned (.string (B (dL (L s)))) ∧ Below w.heap.size w w' := by
  obtain ⟨i0, hi, hz0, hz1, hz2⟩ := info_parts info_u8
  have hs' : s.size ≤ 9223372036854775800 := by omega
  have ho0 := own_empty w
  go_enter Try.func14, Try.ntmps14
  go_wp2
  go_loopw [3, 4, 5] (fun v i _ wr => ∃ (k : Nat) (acc : List UInt8), i = .int .i64 k ∧ k ≤ s.size ∧ Own w.heap.size wr v acc ∧ acc ++ dL ((L s).drop k) = dL (L s) ∧ Below w.heap.size w wr) (fun _ i _ _ => s.size - (intOf i).toNat)
  case atStart => exact ⟨0, [], rfl, Nat.zero_le _, ho0, by simp, (Below.refl _ _).alloc (Nat.le_refl _) _⟩
  case round =>
    clear ho0
    obtain ⟨k, acc, rfl, hks, hown, hc, hbel⟩ := hrel
    have hN := hbel.size
    by_cases hp : k < s.size
    · have hne := drop_ne s k hp
      have hle := sz_le _ hne
      rw [List.length_drop, size_L] at hle
      have hat : at' ((L s).drop k) 0 = s[k].toNat := by rw [at_drop, Nat.add_zero, at_eq s k hp]
      by_cases hz : sz ((L s).drop k) = 0
      · have hzb : ((sz ((L s).drop k) : Int) == 0) = true := by rw [hz]; rfl
        rw [dL_sz0 _ hne hz, List.drop_drop, ← List.append_assoc] at hc
        have hbd := bd3 hc hd
        have HC := Lib.hid hc; clear hc hne hz hat
        go_wp2_with (first | (go_at_call 23; refine (size_any s k _ hp hs').mono ?_; rintro e w' ⟨rfl, rfl⟩) | (at_builtin; refine wpList_append_own _ rfl (.tmp 22) (.tmp 23) 32 rfl w.heap.size 5 i0 (.int .u8 0) 1 1 Try.underlying32 hi hz0 hz1 hz2 rfl (by decide) _ acc.length (acc.map bc) rfl (hown.alloc _) ⟨wr.heap.size, 0, none⟩ 3 3 [.int .u8 239, .int .u8 191, .int .u8 189] rfl rfl (cell_three_new _ _ _ _ _) (by intro u hu; simp at hu; rcases hu with rfl | rfl | rfl <;> rfl) (by unfold maxLen; omega) (by omega) (by simp; omega) ?_; intro v2 w2 hown2 hgrow2 _))
        go_roundw
        case rel => exact ⟨k + 1, acc ++ F, by go_num, by omega, Own.appended (m := F) hown2 rfl, HC.out, (hown.alloc _).below hgrow2 (hbel.alloc hN _) (by simp; omega)⟩
        case measure => simp [intOf]; omega
      · have hzb : ((sz ((L s).drop k) : Int) == 0) = false := by simpa using hz
        by_cases h0 : s[k].toNat = 0
        · have hb0 : ((s[k].toNat : Int) == 0) = true := by rw [h0]; rfl
          rw [dL_zero _ hne (by rw [hat, h0]), List.drop_drop, ← List.append_assoc] at hc
          have hbd := bd3 hc hd
          have HC := Lib.hid hc; clear hc hne hz hat h0
          go_wp2_with (first | (go_at_call 23; refine (size_any s k _ hp hs').mono ?_; rintro e w' ⟨rfl, rfl⟩) | (at_builtin; refine wpList_append_own _ rfl (.tmp 22) (.tmp 23) 32 rfl w.heap.size 5 i0 (.int .u8 0) 1 1 Try.underlying32 hi hz0 hz1 hz2 rfl (by decide) _ acc.length (acc.map bc) rfl (hown.alloc _) ⟨wr.heap.size, 0, none⟩ 3 3 [.int .u8 239, .int .u8 191, .int .u8 189] rfl rfl (cell_three_new _ _ _ _ _) (by intro u hu; simp at hu; rcases hu with rfl | rfl | rfl <;> rfl) (by unfold maxLen; omega) (by omega) (by simp; omega) ?_; intro v2 w2 hown2 hgrow2 _))
          go_roundw
          case rel => exact ⟨k + 1, acc ++ F, by go_num, by omega, Own.appended (m := F) hown2 rfl, HC.out, (hown.alloc _).below hgrow2 (hbel.alloc hN _) (by simp; omega)⟩
          case measure => simp [intOf]; omega
        · have hb0 : ((s[k].toNat : Int) == 0) = false := by simpa using h0
          have hzp : 1 ≤ sz ((L s).drop k) := by omega
          rw [dL_szp _ hne hz (by rw [hat]; exact h0), List.drop_drop, ← List.append_assoc] at hc
          have hx : L (s.extract k (k + sz ((L s).drop k))) = ((L s).drop k).take (sz ((L s).drop k)) := by
            rw [L_extract, show k + sz ((L s).drop k) - k = sz ((L s).drop k) from by omega]
          have hbd : acc.length + (s.extract k (k + sz ((L s).drop k))).size ≤ 140737488355328 := by
            have h1 := congrArg List.length hc
            rw [List.length_append, List.length_append] at h1
            rw [← size_L, hx]; omega
          have hb1 := hbd
          have HC := Lib.hid hc; have HX := Lib.hid hx; clear hc hne hz hat h0 hx
          generalize hq : sz ((L s).drop k) = q at *
          have HQ := Lib.hid hq; clear hq
          go_wp2_with (first | (go_at_call 23; refine (size_any s k _ hp hs').mono ?_; rw [HQ.out]; rintro e w' ⟨rfl, rfl⟩) | (at_builtin; refine Lib.wpList_append_own_string _ rfl (.tmp 25) (.tmp 31) 32 9 rfl w.heap.size 5 i0 Try.underlying32 Try.underlying9 hi hz0 hz1 hz2 _ acc.length (acc.map bc) rfl hown (s.extract k (k + q)) rfl (by unfold maxLen; omega) hbd hN ?_; intro v2 w2 hown2 hgrow2 _))
          go_roundw
          case rel =>
            refine ⟨k + q, acc ++ ((L s).drop k).take q, by go_num, by omega, ?_, HC.out, hown.below hgrow2 hbel hN⟩
            rw [strCells_L, HX.out] at hown2
            exact Own.appended hown2 (by rw [← size_L, HX.out])
          case measure => simp [intOf]; omega
    · have hcv := hown.string
      rw [drop_nil s k hp, dL_nil, List.append_nil] at hc
      have HC := Lib.hid hc; clear hc
      go_wp2
      go_ret
      exact ⟨ret_str (by rw [HC.out]), hbel⟩

set_option maxRecDepth 100000 in
set_option maxHeartbeats 1000000 in
theorem refLines_any (s : ByteArray) (w : World) (hs : s.size ≤ 140737488355328) :
    Calls Try.prog 19 #[.string s] w fun e w' => e = .returned (.string (B (ln false (L s)))) ∧ Below w.heap.size w w' := by
  obtain ⟨i0, hi, hz0, hz1, hz2⟩ := info_parts info_u8
  have hll := ln_len false (L s)
  rw [size_L] at hll
  have ho0 := own_empty w
  go_enter Try.func19, Try.ntmps19
  go_wp2
  go_loopw [3, 4] (fun v i wr => ∃ (k : Nat) (acc : List UInt8), i = .int .i64 k ∧ k ≤ s.size ∧ Own w.heap.size wr v acc ∧ acc ++ ln false ((L s).drop k) = ln false (L s) ∧ Below w.heap.size w wr) (fun _ i _ => s.size - (intOf i).toNat)
  case atStart => exact ⟨0, [], rfl, Nat.zero_le _, ho0, by simp, (Below.refl _ _).alloc (Nat.le_refl _) _⟩
  case round =>
    clear ho0
    obtain ⟨k, acc, rfl, hks, hown, hc, hbel⟩ := hrel
    have hN := hbel.size
    by_cases hp : k < s.size
    · have hdc := drop_cons s k hp
      rw [hdc] at hc
      clear hdc
      by_cases h13 : s[k] = 13
      · have hb13 : ((s[k].toNat : Int) == 13) = true := by rw [h13]; rfl
        by_cases hq : k + 1 < s.size
        · have hdc := drop_cons s (k + 1) hq
          by_cases h10 : s[k + 1] = 10
          · have hb10 : ((s[k + 1].toNat : Int) == 10) = true := by rw [h10]; rfl
            have hc' : (acc ++ [10]) ++ ln false ((L s).drop (k + 1 + 1)) = ln false (L s) := by
              rw [← hc, h13, hdc, h10, ln_two, List.append_assoc]; rfl
            have hbd := bd hc' hll
            have HC := Lib.hid hc'; clear hc hc' h13 h10 hdc
            go_wp2_with (at_builtin; refine wpList_append_own _ rfl (.tmp 16) (.tmp 17) 32 rfl w.heap.size 5 i0 (.int .u8 0) 1 1 Try.underlying32 hi hz0 hz1 hz2 rfl (by decide) _ acc.length (acc.map bc) rfl (hown.alloc _) ⟨wr.heap.size, 0, none⟩ 1 1 [.int .u8 10] rfl rfl (cell_one_new _ _ _) (by intro u hu; simp at hu; subst hu; rfl) (by unfold maxLen; omega) (by omega) (by simp; omega) ?_; intro v2 w2 hown2 hgrow2 _)
            go_roundw
            case rel => exact ⟨k + 1 + 1, acc ++ [10], by go_num, by omega, Own.appended (m := [10]) hown2 rfl, HC.out, (hown.alloc _).below hgrow2 (hbel.alloc hN _) (by simp; omega)⟩
            case measure => simp [intOf]; omega
          · have hb10 : ((s[k + 1].toNat : Int) == 10) = false := by
              simpa using fun h => h10 (u8_ext (by simpa using (by omega : s[k + 1].toNat = 10)))
            have hc' : (acc ++ [10]) ++ ln false ((L s).drop (k + 1)) = ln false (L s) := by
              rw [← hc, h13, ln_13, ln_one, List.append_assoc]; rfl
              intro u e
              rw [hdc] at e
              exact h10 (List.cons.inj e).1
            have hbd := bd hc' hll
            have HC := Lib.hid hc'; clear hc hc' h13 h10 hdc
            go_wp2_with (at_builtin; refine wpList_append_own _ rfl (.tmp 16) (.tmp 17) 32 rfl w.heap.size 5 i0 (.int .u8 0) 1 1 Try.underlying32 hi hz0 hz1 hz2 rfl (by decide) _ acc.length (acc.map bc) rfl (hown.alloc _) ⟨wr.heap.size, 0, none⟩ 1 1 [.int .u8 10] rfl rfl (cell_one_new _ _ _) (by intro u hu; simp at hu; subst hu; rfl) (by unfold maxLen; omega) (by omega) (by simp; omega) ?_; intro v2 w2 hown2 hgrow2 _)
            go_roundw
            case rel => exact ⟨k + 1, acc ++ [10], by go_num, by omega, Own.appended (m := [10]) hown2 rfl, HC.out, (hown.alloc _).below hgrow2 (hbel.alloc hN _) (by simp; omega)⟩
            case measure => simp [intOf]; omega
        · have hc' : (acc ++ [10]) ++ ln false ((L s).drop (k + 1)) = ln false (L s) := by
            rw [← hc, h13, ln_13, ln_one, List.append_assoc]; rfl
            intro u e
            rw [drop_nil s (k + 1) hq] at e
            cases e
          have hbd := bd hc' hll
          have HC := Lib.hid hc'; clear hc hc' h13
          go_wp2_with (at_builtin; refine wpList_append_own _ rfl (.tmp 16) (.tmp 17) 32 rfl w.heap.size 5 i0 (.int .u8 0) 1 1 Try.underlying32 hi hz0 hz1 hz2 rfl (by decide) _ acc.length (acc.map bc) rfl (hown.alloc _) ⟨wr.heap.size, 0, none⟩ 1 1 [.int .u8 10] rfl rfl (cell_one_new _ _ _) (by intro u hu; simp at hu; subst hu; rfl) (by unfold maxLen; omega) (by omega) (by simp; omega) ?_; intro v2 w2 hown2 hgrow2 _)
          go_roundw
          case rel => exact ⟨k + 1, acc ++ [10], by go_num, by omega, Own.appended (m := [10]) hown2 rfl, HC.out, (hown.alloc _).below hgrow2 (hbel.alloc hN _) (by simp; omega)⟩
          case measure => simp [intOf]; omega
      · have hb13 : ((s[k].toNat : Int) == 13) = false := by
          simpa using fun h => h13 (u8_ext (by simpa using (by omega : s[k].toNat = 13)))
        have hc' : (acc ++ [s[k]]) ++ ln false ((L s).drop (k + 1)) = ln false (L s) := by
          rw [← hc, ln_other _ _ _ h13 (by simp), List.append_assoc]; rfl
        have hbd := bd hc' hll
        have HC := Lib.hid hc'; clear hc hc' h13
        go_wp2_with (at_builtin; refine wpList_append_own _ rfl (.tmp 33) (.tmp 37) 32 rfl w.heap.size 5 i0 (.int .u8 0) 1 1 Try.underlying32 hi hz0 hz1 hz2 rfl (by decide) _ acc.length (acc.map bc) rfl (hown.alloc _) ⟨wr.heap.size, 0, none⟩ 1 1 [.int .u8 s[k].toNat] rfl rfl (cell_one_new _ _ _) (by intro u hu; simp at hu; subst hu; rfl) (by unfold maxLen; omega) (by omega) (by simp; omega) ?_; intro v2 w2 hown2 hgrow2 _)
        go_roundw
        case rel => exact ⟨k + 1, acc ++ [s[k]], by go_num, by omega, Own.appended (m := [s[k]]) hown2 rfl, HC.out, (hown.alloc _).below hgrow2 (hbel.alloc hN _) (by simp; omega)⟩
        case measure => simp [intOf]; omega
    · have hcv := hown.string
      rw [drop_nil s k hp] at hc
      have HC := Lib.hid hc; clear hc
      go_wp2
      go_ret
      refine ⟨ret_str ?_, hbel⟩
      have h1 := HC.out
      rw [show ln false [] = [] from rfl, List.append_nil] at h1
      rw [h1]

theorem refReady_any (s : ByteArray) (w : World) (hs : s.size ≤ 140737488355328) (hd : (dL (L s)).length ≤ 140737488355328) :
    Calls Try.prog 21 #[.string s] w fun e w' => e = .returned (.string (B (ln false (dL (L s))))) ∧ Below w.heap.size w w' := by
  go_enter Try.func21, Try.ntmps21
  go_wp2_with fail
  refine (refDecode_any s _ hs hd).mono ?_
  rintro e w1 ⟨rfl, hb1⟩
  go_wp2_with fail
  refine (refLines_any (B (dL (L s))) _ (by rw [size_B]; exact hd)).mono ?_
  rintro e w2 ⟨rfl, hb2⟩
  go_wp2
  go_ret
  exact ⟨ret_str (by rw [L_B]), hb1.trans (hb2.mono hb1.size)⟩

end Go.Proofs.Ytadhgngeonkfcaa.Ch
