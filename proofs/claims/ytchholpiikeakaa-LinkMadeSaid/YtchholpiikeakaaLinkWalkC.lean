/-
  Walks of stage 9: link.Strip.
-/
import Derived.Test.YtchholpiikeakaaLinkMath
import Derived.Test.YtchholpiikeakaaFoldLow
import Derived.Deep.CutBlock
import Derived.Deep.DeepCutAuto
namespace Go.Proofs.Ytchholpiikeakaa.Lk
set_option maxRecDepth 100000
set_option linter.unusedSimpArgs false
set_option linter.unusedVariables false
open Go.RowKit Ba Fm Fo

theorem edge_of (c : UInt8) : edge c = decide ((c.toNat : Int) ≤ 32) := by
  unfold edge
  rw [Bool.eq_iff_iff, decide_eq_true_eq, decide_eq_true_eq, UInt8.le_iff_toNat_le]
  have e : (32 : UInt8).toNat = 32 := rfl
  rw [e]
  omega
/-- Of a text's piece, cut at the end. -/
theorem piece_cut (s : ByteArray) (k m : Nat) (hk : k < m) (hm : m ≤ s.size) : ((L s).drop k).take (m - k) = ((L s).drop k).take (m - 1 - k) ++ [s[m - 1]'(by omega)] := by
  have e : m - k = (m - 1 - k) + 1 := by omega
  rw [e, List.take_succ_eq_append_getElem (by rw [List.length_drop, size_L]; omega)]
  congr 2
  rw [List.getElem_drop]
  have : k + (m - 1 - k) = m - 1 := by omega
  simp only [this]
  rfl
theorem piece_next (s : ByteArray) (k j : Nat) (hk : k ≤ j) (hj : j < s.size) : ((L s).drop k).take (j + 1 - k) = ((L s).drop k).take (j - k) ++ [s[j]] := by
  have h := piece_cut s k (j + 1) (by omega) (by omega)
  have e : j + 1 - 1 = j := by omega
  simp only [e] at h
  exact h

set_option maxHeartbeats 4000000 in
theorem strip_any (s : ByteArray) (w : World) (hs : s.size ≤ 140737488355328) :
    Calls Try.prog 14 #[.string s] w fun e w' => e = .returned (.string (B (stripL (L s)))) ∧ Below w.heap.size w w' := by
  obtain ⟨i0, hi, hz0, hz1, hz2⟩ := info_parts info_u8
  go_enter Try.func14, Try.ntmps14
  go_upto_block 0 with fail
  go_cut [3] from 9 to 19 (fun sl wx => ∃ k : Nat, sl = .int .i64 k ∧ k ≤ s.size ∧ frontL (L s) = (L s).drop k ∧ wx = w)
  case first =>
    go_wp2
    go_loop [3] (fun i => ∃ k : Nat, i = .int .i64 k ∧ k ≤ s.size ∧ frontL ((L s).drop k) = frontL (L s)) (fun i => s.size - (intOf i).toNat)
    case atStart => exact ⟨0, rfl, Nat.zero_le _, by rw [List.drop_zero]⟩
    case round =>
      obtain ⟨k, rfl, hks, hc⟩ := hrel
      by_cases hp : k < s.size
      · have he := edge_of s[k]
        rw [drop_cons s k hp] at hc
        cases hed : edge s[k] with
        | true =>
          rw [front_yes _ hed] at hc
          rw [hed] at he
          have h32 : (s[k].toNat : Int) ≤ 32 := of_decide_eq_true he.symm
          have HC := Lib.hid hc; clear hc hed he
          go_wp2
          go_round
          case rel => exact ⟨k + 1, by go_num, by omega, HC.out⟩
          case measure => simp [intOf]; omega
        | false =>
          rw [front_no _ hed, ← drop_cons s k hp] at hc
          rw [hed] at he
          have h32 : ¬ (s[k].toNat : Int) ≤ 32 := of_decide_eq_false he.symm
          have h33 : 32 < (s[k].toNat : Int) := by omega
          have HC := Lib.hid hc; clear hc hed he h32
          go_wp2
          go_meet
          exact ⟨k, rfl, hks, HC.out.symm, rfl⟩
      · rw [drop_nil s k hp] at hc
        have hk : frontL (L s) = (L s).drop k := by rw [← hc, drop_nil s k hp]; rfl
        have HC := Lib.hid hk; clear hc hk
        go_wp2
        go_meet
        exact ⟨k, rfl, hks, HC.out, rfl⟩
  case rest =>
  obtain ⟨k, rfl, hk, hf, hwx⟩ := hcut
  have hwx := hwx.symm
  subst hwx
  have HF := Lib.hid hf; clear hf
  go_upto_block 2 with fail
  go_cut [4] from 20 to 31 (fun sl wx => ∃ m : Nat, sl = .int .i64 m ∧ k ≤ m ∧ m ≤ s.size ∧ backL (frontL (L s)) = ((L s).drop k).take (m - k) ∧ wx = w)
  case first =>
    go_wp2
    go_loop [4] (fun i => ∃ m : Nat, i = .int .i64 m ∧ k ≤ m ∧ m ≤ s.size ∧ backL (((L s).drop k).take (m - k)) = backL (frontL (L s))) (fun i => (intOf i).toNat)
    case atStart => exact ⟨s.size, rfl, hk, Nat.le_refl _, by rw [List.take_of_length_le (by rw [List.length_drop, size_L]; omega), HF.out]⟩
    case round =>
      obtain ⟨m, rfl, hkm, hms, hd⟩ := hrel
      by_cases hq : k < m
      · have hm1 : 1 ≤ m := by omega
        obtain ⟨j, rfl⟩ : ∃ j, m = j + 1 := ⟨m - 1, by omega⟩
        have hjs : j < s.size := by omega
        have hcut : ((L s).drop k).take (j + 1 - k) = ((L s).drop k).take (j - k) ++ [s[j]] := piece_cut s k (j + 1) hq hms
        have he := edge_of s[j]
        cases hed : edge s[j] with
        | true =>
          rw [hcut, back_yes _ hed] at hd
          rw [hed] at he
          have h32 : (s[j].toNat : Int) ≤ 32 := of_decide_eq_true he.symm
          have HD := Lib.hid hd; clear hd hed he hcut
          go_wp2
          go_round
          case rel => exact ⟨j, by go_num, by omega, by omega, HD.out⟩
          case measure => simp [intOf]
        | false =>
          rw [hcut, back_no _ hed, ← hcut] at hd
          rw [hed] at he
          have h32 : ¬ (s[j].toNat : Int) ≤ 32 := of_decide_eq_false he.symm
          have h33 : 32 < (s[j].toNat : Int) := by omega
          have HD := Lib.hid hd; clear hd hed he hcut h32
          go_wp2
          go_meet
          exact ⟨j + 1, rfl, hkm, hms, HD.out.symm, rfl⟩
      · obtain rfl : m = k := by omega
        rw [Nat.sub_self, List.take_zero] at hd
        have HD := Lib.hid hd; clear hd
        go_wp2
        go_meet
        exact ⟨m, rfl, Nat.le_refl _, hms, by rw [Nat.sub_self, List.take_zero]; exact HD.out.symm, rfl⟩
  case rest =>
  obtain ⟨m, rfl, hkm, hms, hb, hwx⟩ := hcut
  have hwx := hwx.symm
  subst hwx
  obtain ⟨c, hc⟩ : ∃ c, m - k = c := ⟨_, rfl⟩
  have hsub : (m : Int) - k = (c : Int) := by omega
  have hcs : c ≤ s.size := by omega
  have hfin : stripL (L s) = kept (((L s).drop k).take (m - k)) := by unfold stripL; rw [hb]
  have HFIN := Lib.hid hfin; clear hb hfin hc
  go_wp2_with (at_make; refine wpList_make_own _ rfl (.const (.int .i64 0)) (.tmp 34) 28 rfl w.heap.size 5 i0 (.int .u8 0) 1 Try.underlying28 hi hz0 hz1 .i64 .i64 _ c rfl rfl rfl (by rw [hz2]; omega) (by unfold maxLen; omega) (Nat.le_refl _) ?_; intro w1 hown hgrow)
  have hb0 : Below w.heap.size w w1 := (Below.refl w.heap.size w).grown hgrow (Nat.le_refl _) (by simp)
  have ho0 : OwnB w.heap.size w1 (.slice (some ⟨w.heap.size, 0, none⟩) 0 c) [] := hown
  clear hown hgrow hsub
  go_loopw [5, 6] (fun v i wr => ∃ (j : Nat), i = .int .i64 j ∧ k ≤ j ∧ j ≤ m ∧ OwnB w.heap.size wr v (kept (((L s).drop k).take (j - k))) ∧ Below w.heap.size w wr) (fun _ i _ => m - (intOf i).toNat)
  case atStart => exact ⟨k, rfl, Nat.le_refl _, hkm, by rw [Nat.sub_self, List.take_zero]; exact ho0, hb0⟩
  case round =>
    clear ho0 hb0
    obtain ⟨j, rfl, hkj, hjm, hown, hbel⟩ := hrel
    have hN := hbel.size
    by_cases hp : j < m
    · have hnext := piece_next s k j hkj (by omega)
      have hlen : (kept (((L s).drop k).take (j - k))).length + 1 ≤ 140737488355328 := by
        have := kept_len (((L s).drop k).take (j - k))
        rw [List.length_take] at this
        omega
      have hjs : j < s.size := by omega
      have e9 : ((s[j].toNat : Int) == 9) = (s[j] == 9) := u8_eq (b := 9)
      have e10 : ((s[j].toNat : Int) == 10) = (s[j] == 10) := u8_eq (b := 10)
      have e13 : ((s[j].toNat : Int) == 13) = (s[j] == 13) := u8_eq (b := 13)
      have hkn : kept (((L s).drop k).take (j + 1 - k)) = kept (((L s).drop k).take (j - k)) ++ kept [s[j]] := by rw [hnext, kept_append]
      have HO := Lib.hid hown; have HB := Lib.hid hbel
      clear hown hbel hnext
      cases hin : inn s[j] with
      | true =>
        rw [kept_yes hin, List.append_nil] at hkn
        have HK := Lib.hid hkn; clear hkn
        unfold inn at hin
        cases h9 : s[j] == 9 with
        | true =>
          rw [h9] at e9
          clear h9 hin e10 e13
          go_wp2
          go_roundw
          case rel => exact ⟨j + 1, by go_num, by omega, by omega, by rw [HK.out]; exact HO.out, HB.out⟩
          case measure => simp [intOf]; omega
        | false =>
        cases h10 : s[j] == 10 with
        | true =>
          rw [h9] at e9
          rw [h10] at e10
          clear h9 h10 hin e13
          go_wp2
          go_roundw
          case rel => exact ⟨j + 1, by go_num, by omega, by omega, by rw [HK.out]; exact HO.out, HB.out⟩
          case measure => simp [intOf]; omega
        | false =>
          have h13 : s[j] == 13 := by rw [h9, h10] at hin; simpa using hin
          rw [h9] at e9
          rw [h10] at e10
          rw [h13] at e13
          clear h9 h10 hin h13
          go_wp2
          go_roundw
          case rel => exact ⟨j + 1, by go_num, by omega, by omega, by rw [HK.out]; exact HO.out, HB.out⟩
          case measure => simp [intOf]; omega
      | false =>
        rw [kept_no hin] at hkn
        have HK := Lib.hid hkn; clear hkn
        unfold inn at hin
        simp only [Bool.or_eq_false_iff] at hin
        rw [hin.1.1] at e9
        rw [hin.1.2] at e10
        rw [hin.2] at e13
        clear hin
        go_wp2_with (at_builtin; refine app_byte wr rfl (.tmp 49) (.tmp 53) rfl w.heap.size _ (kept (((L s).drop k).take (j - k))) s[j] rfl HO.out rfl hlen hN ?_; intro v2 w2 hown2 hk2)
        go_roundw
        case rel => exact ⟨j + 1, by go_num, by omega, by omega, by rw [HK.out]; exact hown2, hk2 _ HB.out⟩
        case measure => simp [intOf]; omega
    · obtain rfl : j = m := by omega
      have hcv := hown.string
      have HB := Lib.hid hbel
      clear hown hbel
      go_wp2
      go_ret
      exact ⟨ret_str (by rw [HFIN.out]), HB.out⟩

end Go.Proofs.Ytchholpiikeakaa.Lk
