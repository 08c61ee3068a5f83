/-
  Walks of stage 2: fold.Sorted, which calls itself, and fold.Minus.
-/
import Derived.Test.YtknllnjpbbldkaaFoldWalkI
import Derived.Deep.RegionWith
namespace Go.Proofs.Ytknllnjpbbldkaa.Fo
open Go.RowKit Ba Fm

set_option maxHeartbeats 1000000 in
theorem sorted_small (v : Value) (l : List ByteArray) (w : World) (hv : Sv w w.heap.size v l) (hl : l.length < 2) :
    Calls Try.prog 23 #[v] w fun e w' => ∃ v', e = .returned v' ∧ Sown w.heap.size w' v' (srt lt l) ∧ Below w.heap.size w w' := by
  obtain ⟨A, c, rfl, hc, hn, hr⟩ := hv
  have hs := srt_small ord_lt hl
  have HS := Lib.hid hs; clear hs
  go_enter Try.func23, Try.ntmps23
  go_wp2_with (at_builtin; refine app_all w rfl (.const (.slice none 0 0)) (.tmp 7) rfl w.heap.size (.slice none 0 0) [] l A c w.heap.size rfl (Sown.nil _ _) rfl hn hr (by simp; omega) (Nat.le_refl _) ?_; intro v3 w3 hown3 hk3 _)
  go_ret
  exact ⟨v3, rfl, by rw [← HS.out]; exact hown3, hk3 _ (Below.refl _ _)⟩

theorem sv_take {w : World} {N c m : Nat} {A : Option Addr} {l : List ByteArray} (hr : Rd w N A l) (hc : l.length ≤ c) (hn : A = none → c = 0) (hm : m ≤ l.length) : Sv w N (.slice A m c) (l.take m) :=
  ⟨A, c, by rw [List.length_take, Nat.min_eq_left hm], by rw [List.length_take]; omega, hn, hr.take m⟩
theorem sv_drop {w : World} {N c m b o : Nat} {l : List ByteArray} (hr : Rd w N (some ⟨b, o, none⟩) l) (hc : l.length ≤ c) (hm : m ≤ l.length) : Sv w N (.slice (if c = m then some ⟨b, o, none⟩ else some ⟨b, o + m, none⟩) (l.length - m) (c - m)) (l.drop m) := by
  refine ⟨_, c - m, by rw [List.length_drop], by rw [List.length_drop]; omega, fun e => ?_, ?_⟩
  · split at e <;> cases e
  · have := hr.drop m c hc
    simp only [Option.map_some, WideShapes.add_plain] at this
    exact this

set_option maxHeartbeats 2000000 in
theorem sorted_big (n : Nat) (ih : ∀ (l : List ByteArray), l.length < n → ∀ (v : Value) (w : World), Sv w w.heap.size v l → l.length ≤ 1000000 → Calls Try.prog 23 #[v] w fun e w' => ∃ v', e = .returned v' ∧ Sown w.heap.size w' v' (srt lt l) ∧ Below w.heap.size w w')
    (l : List ByteArray) (hn : l.length = n) (hb : 2 ≤ n) (v : Value) (w : World) (hv : Sv w w.heap.size v l) (hl : l.length ≤ 1000000) :
    Calls Try.prog 23 #[v] w fun e w' => ∃ v', e = .returned v' ∧ Sown w.heap.size w' v' (srt lt l) ∧ Below w.heap.size w w' := by
  subst hn
  obtain ⟨A, c, rfl, hc, hna, hr⟩ := hv
  obtain ⟨m, hm⟩ : ∃ m, l.length / 2 = m := ⟨_, rfl⟩
  have hmi : (l.length : Int) / 2 = (m : Int) := by omega
  have hm1 : 1 ≤ m ∧ m < l.length := by omega
  obtain ⟨hm1, hm2⟩ := hm1
  have hh := srt_halves ord_lt l m
  have hr0 := hr
  obtain ⟨b, o, rfl, hbb, _⟩ := hr0 (by omega)
  have h1 := sv_take hr hc hna (Nat.le_of_lt hm2)
  have h2 := sv_drop hr hc (Nat.le_of_lt hm2)
  rw [if_neg (by omega)] at h2
  have i1 := ih (l.take m) (by rw [List.length_take]; omega)
  have i2 := ih (l.drop m) (by rw [List.length_drop]; omega)
  have l1 : (l.take m).length ≤ 1000000 := by rw [List.length_take]; omega
  have l2 : (l.drop m).length ≤ 1000000 := by rw [List.length_drop]; omega
  have l1' := Nat.le_trans (len_srt lt (l.take m)) l1
  have l2' := Nat.le_trans (len_srt lt (l.drop m)) l2
  have HMI := Lib.hid hmi; have HH := Lib.hid hh; have H1 := Lib.hid h1; have H2 := Lib.hid h2; have I1 := Lib.hid i1; have I2 := Lib.hid i2
  clear hmi hh h1 h2 i1 i2 ih hm hr hna
  go_enter Try.func23, Try.ntmps23
  go_wp2
  simp only [HMI.out]
  go_region_with (first
    | (go_at_call_of 23 (Value.slice (some (⟨b, o, none⟩ : Addr)) m c); refine (I1.out _ _ ?_ l1).mono ?_; exact H1.out; rintro e w1 ⟨v1, rfl, ho1, hb1⟩)
    | (go_at_call 23; refine (I2.out _ w1 ?_ l2).mono ?_; exact (H2.out.below (w := w.drew) hb1 (Nat.le_refl _)).more hb1.size; rintro e w2 ⟨v2, rfl, ho2, hb2⟩)
    | (go_at_call 32; refine (merged_any _ _ _ _ w2 ?_ ?_ l1' l2').mono ?_; exact sv_own (ho1.below hb2 (Nat.le_refl _)); exact sv_own ho2; rintro e w3 ⟨v3, rfl, ho3, hb3⟩))
  all_goals (try go_wp2)
  all_goals go_ret
  all_goals exact ⟨v3, rfl, by rw [← HH.out]; exact ho3.mono (Nat.le_trans (by exact hb1.size) hb2.size), (Below.refl w.heap.size w).drew.trans (hb1.trans ((hb2.mono hb1.size).trans (hb3.mono (Nat.le_trans hb1.size hb2.size))))⟩

theorem sorted_all : ∀ (n : Nat) (l : List ByteArray), l.length < n → ∀ (v : Value) (w : World), Sv w w.heap.size v l → l.length ≤ 1000000 → Calls Try.prog 23 #[v] w fun e w' => ∃ v', e = .returned v' ∧ Sown w.heap.size w' v' (srt lt l) ∧ Below w.heap.size w w'
  | 0, l, h, _, _, _, _ => absurd h (by omega)
  | n + 1, l, h, v, w, hv, hl => by
    by_cases h2 : l.length < 2
    · exact sorted_small v l w hv h2
    · exact sorted_big l.length (fun m hm v w hv hl => sorted_all n m (by omega) v w hv hl) l rfl (by omega) v w hv hl

theorem sorted_any (v : Value) (l : List ByteArray) (w : World) (hv : Sv w w.heap.size v l) (hl : l.length ≤ 1000000) :
    Calls Try.prog 23 #[v] w fun e w' => ∃ v', e = .returned v' ∧ Sown w.heap.size w' v' (srt lt l) ∧ Below w.heap.size w w' :=
  sorted_all (l.length + 1) l (Nat.lt_succ_self _) v w hv hl

set_option maxHeartbeats 2000000 in
theorem minus_any (va vb : Value) (l m : List ByteArray) (w : World) (hva : Sv w w.heap.size va l) (hvb : Sv w w.heap.size vb m) (hl : l.length ≤ 1000000) (hm : m.length ≤ 1000000) :
    Calls Try.prog 24 #[va, vb] w fun e w' => ∃ v, e = .returned v ∧ Sown w.heap.size w' v (mns l m) ∧ Below w.heap.size w w' := by
  obtain ⟨A, ca, rfl, hca, hna, hra⟩ := hva
  have hls := len_srt lt m
  have hsr := (srt_is ord_lt m).1
  have hin : ∀ x, isIn x (srt lt m) = isIn x m := fun x => isIn_congr ((srt_is ord_lt m).2 x)
  have HS := Lib.hid hsr; have HI := Lib.hid hin; clear hsr hin
  go_enter Try.func24, Try.ntmps24
  go_wp2_with fail
  refine (sorted_any vb m _ hvb hm).mono ?_
  rintro e w1 ⟨v1, rfl, ho1, hb1⟩
  have hs1 := sv_own ho1
  obtain ⟨D, cd, rfl, hcd, hnd, hrd⟩ := hs1
  go_wp2_with fail
  go_loopw [5, 8, 9, 10, 15] (fun v _ _ _ i wr => ∃ k : Nat, i = .int .i64 k ∧ k ≤ l.length ∧ Sown w1.heap.size wr v (mns (l.take k) m) ∧ Below w1.heap.size w1 wr) (fun _ _ _ _ i _ => l.length - (intOf i).toNat)
  case atStart => exact ⟨0, rfl, Nat.zero_le _, Sown.nil _ _, Below.refl _ _⟩
  case round =>
    obtain ⟨k, rfl, hks, hown, hbel⟩ := hrel
    have hN := hbel.size
    by_cases hp : k < l.length
    · obtain ⟨b, off, rfl, hbb, hc⟩ := hra (by omega)
      have hcell : wr.cell? ⟨b, off + k, none⟩ = some (.string l[k]) := (hbel.cell (p := ⟨b, off + k, none⟩) (by have := hb1.size; simp; omega)).trans ((hb1.cell (p := ⟨b, off + k, none⟩) hbb).trans (hc k hp))
      have hbd : ((mns (l.take k) m).length + 1) * 16 ≤ 140737488355328 := by
        have := len_mns (l.take k) m
        rw [List.length_take] at this
        omega
      have hrd' := (hrd.below hbel (Nat.le_refl _)).more hN
      have hsn := take_snocS l k hp
      have hin := HI.out l[k]
      clear hc hra
      cases hq : isIn l[k] m with
      | true =>
        rw [hq] at hin
        have hmn := mns_yes (l.take k) m _ hq
        rw [← hsn] at hmn
        rw [← hmn] at hown
        have HQ := Lib.hid hin; clear hin hq hsn hmn
        go_wp2_with fail
        refine (find_any D cd (srt lt m) l[k] wr hrd' (by omega) HS.out).mono ?_
        rw [HQ.out]
        rintro e w2 ⟨rfl, hb2⟩
        have hown2 := hown.below hb2 (Nat.le_refl _)
        have hbel2 := hbel.trans (hb2.mono hN)
        go_wp2
        go_roundw
        case rel => exact ⟨k + 1, by go_num, by omega, hown2, hbel2⟩
        case measure => simp [intOf]; omega
      | false =>
        rw [hq] at hin
        have hmn := mns_no (l.take k) m _ hq
        rw [← hsn] at hmn
        have HQ := Lib.hid hin; have HM := Lib.hid hmn; clear hin hq hsn hmn
        go_wp2_with fail
        refine (find_any D cd (srt lt m) l[k] wr hrd' (by omega) HS.out).mono ?_
        rw [HQ.out]
        rintro e w2 ⟨rfl, hb2⟩
        have hown2 := hown.below hb2 (Nat.le_refl _)
        have hbel2 := hbel.trans (hb2.mono hN)
        go_wp2_with (at_builtin; refine app_one w2 rfl (.tmp 27) (.tmp 29) rfl w1.heap.size _ (mns (l.take k) m) l[k] rfl hown2 rfl hbd hbel2.size ?_; intro v3 w3 hown3 hk3 _)
        go_roundw
        case rel => exact ⟨k + 1, by go_num, by omega, by rw [HM.out]; exact hown3, hk3 _ hbel2⟩
        case measure => simp [intOf]; omega
    · go_wp2
      go_ret
      rw [List.take_of_length_le (by omega)] at hown
      exact ⟨_, rfl, hown.mono hb1.size, bt hb1 hbel⟩

end Go.Proofs.Ytknllnjpbbldkaa.Fo
