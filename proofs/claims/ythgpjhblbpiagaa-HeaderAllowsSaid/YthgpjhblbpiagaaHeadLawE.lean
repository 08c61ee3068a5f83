/-
  Walk of stage 15's law HeaderAllows: it returns true.
-/
import Derived.Test.YthgpjhblbpiagaaHeadLaw
import Derived.Test.YthgpjhblbpiagaaHeadLawA
import Derived.Deep.RegionHeld3
namespace Go.Proofs.Ythgpjhblbpiagaa.He
set_option maxRecDepth 100000
set_option linter.unusedSimpArgs false
set_option linter.unusedVariables false
open Go.RowKit Ba Fm Fo Go.Maps

set_option maxHeartbeats 8000000 in
theorem law_allows (v : Value) (n : ByteArray) (had : Int) (g : Gd) (w : World) (hn : n.size ≤ 140737488351232) (hw : (Lit.int .i64 had).wf = true) (h : Gv w w.heap.size v g) (hm : ∀ s ∈ g.names, s.size ≤ 140737488355328) :
    Calls Try.prog 4 #[v, .string n, .int .i64 had] w fun e w' => e = .returned (.bool true) ∧ Below w.heap.size w w' := by
  obtain ⟨A, c, rfl, hlc, hA0, hrd⟩ := h
  obtain ⟨on, rep, names, any, twice⟩ := g
  unfold gV
  simp only at hlc hrd hm ⊢
  obtain ⟨l, hl⟩ : ∃ l, names.length = l := ⟨_, rfl⟩
  rw [hl] at hlc ⊢
  obtain ⟨k, hk1, hk2, hk3, hmink⟩ := cut_any l 60 60 rfl
   (w.alloc (.cells #[.bool on, .bool rep, .slice A l c, .bool any, .bool twice] 26))
  clear hk3
  obtain ⟨W1, hW1⟩ : ∃ W, w.alloc (.cells #[.bool on, .bool rep, .slice A l c, .bool any, .bool twice] 26) = W := ⟨_, rfl⟩
  rw [hW1] at hmink
  have hx1 : Hb W1 w.heap.size #[.bool on, .bool rep, .slice A l c, .bool any, .bool twice] := by rw [← hW1]; exact Hb.new _ _
  have hb1 : Below w.heap.size w W1 := by rw [← hW1]; exact (Below.refl _ _).alloc (Nat.le_refl _) _
  have hr1 : Rd W1 W1.heap.size A (names.take k) := ((hrd.below hb1 (Nat.le_refl _)).more hb1.size).take k
  have htk : (names.take k).length = k := by rw [List.length_take]; omega
  obtain ⟨ns, hns⟩ : ∃ ns, names.take k = ns := ⟨_, rfl⟩
  rw [hns] at hr1 htk
  have HA0 := Lib.hid hA0; clear hA0; have HX1 := Lib.hid hx1; have HB1 := Lib.hid hb1; have HR1 := Lib.hid hr1; have HTK := Lib.hid htk; have HW1 := Lib.hid hW1
  have k2 := hx1.cell 2 _ rfl
  have f2 := hx1.f 2
  have hkc : k ≤ c := by omega
  clear hx1 hb1 hr1 htk hW1 hrd hm hns hl
  go_enter Try.func4, Try.ntmps4
  go_upto_region 1 with (fail)
  rw [HW1.out]
  go_upto_region 2 with (fail)
  obtain ⟨w7, hW⟩ : ∃ W, W1.setCell ⟨w.heap.size, 2, none⟩ (.slice A k c) = W := ⟨_, rfl⟩
  have hg7 : W1.grownBy w7 (some w.heap.size) := hW ▸ gcell W1 _ 2 _
  have hx7 : Hb w7 w.heap.size #[.bool on, .bool rep, .slice A k c, .bool any, .bool twice] := hW ▸ HX1.out.set 2 (.slice A k c) (by simp)
  have hr7 : Rd w7 w7.heap.size A ns := (rd_box HR1.out HX1.out (by simp) hg7).more hg7.size
  have hb7 : Below w.heap.size w w7 := bel_m HB1.out hg7 HB1.out.size (Nat.le_refl _)
  rw [hW]
  have hkb : Kb w7 w.heap.size ⟨on, rep, ns, any, twice⟩ (.slice A k c) := ⟨hx7, A, c, by unfold gV; simp only; rw [HTK.out], by show ns.length ≤ c; rw [HTK.out]; exact hkc, HA0.out, hr7⟩
  clear hx7 hr7 hg7 hW k2 f2 hmink
  obtain ⟨q, hq⟩ : ∃ q, allowB ⟨on, rep, ns, any, twice⟩ n had = q := ⟨_, rfl⟩
  have hqq : (q == q) = true := by cases q <;> rfl
  have hn8 : n.size ≤ 140737488355328 := by omega
  have hnl : ns.length ≤ 8796093022208 := by rw [HTK.out]; omega
  obtain ⟨b, hb⟩ : ∃ b, w.heap.size = b := ⟨_, rfl⟩
  rw [hb] at hkb
  obtain ⟨xa0, xa1, xa2, xa3, xa4⟩ := (show w7.cell? ⟨b, 0, none⟩ = some (.bool on) ∧ w7.cell? ⟨b, 1, none⟩ = some (.bool rep) ∧ w7.cell? ⟨b, 2, none⟩ = some (.slice A k c) ∧ w7.cell? ⟨b, 3, none⟩ = some (.bool any) ∧ w7.cell? ⟨b, 4, none⟩ = some (.bool twice) from hkb.at5)
  have HK := Lib.hid hkb; have HQ := Lib.hid hq; have HB7 := Lib.hid hb7; have HN8 := Lib.hid hn8; have HNL := Lib.hid hnl; have HBB := Lib.hid hb
  clear hq hb7 hn8 hnl HX1 HB1 HR1 HW1
  have HF := Lib.hid (fun (wx : World) (hb : Below w7.heap.size w7 wx) => (fixed15_any wx).mono fun e w' ⟨h1, h2⟩ => (show e = Ending.returned (.bool true) ∧ Below w7.heap.size w7 w' from ⟨h1, bt hb h2⟩))
  have HA := Lib.hid (fun (wx : World) (hb : Below w7.heap.size w7 wx) => (allows1 _ ⟨on, rep, ns, any, twice⟩ n had wx (show Gv wx wx.heap.size (.agg #[.bool on, .bool rep, .slice A k c, .bool any, .bool twice]) _ from (hkb.on hb).gv) HN8.out HNL.out q HQ.out).mono fun e w' ⟨h1, h2⟩ => (show e = Ending.returned (.bool q) ∧ Below w7.heap.size w7 w' from ⟨h1, bt hb h2⟩))
  have HC := Lib.hid (fun (wx : World) (hb : Below w7.heap.size w7 wx) => (refAllows_any _ ⟨on, rep, ns, any, twice⟩ n had wx _ (show Gv wx wx.heap.size (.agg #[.bool on, .bool rep, .slice A k c, .bool any, .bool twice]) _ from (hkb.on hb).gv) (Nat.le_refl _) HN8.out HNL.out).mono fun e w' ⟨h1, h2⟩ => (show e = Ending.returned (.bool q) ∧ Below w7.heap.size w7 w' from ⟨h1.trans (by rw [HQ.out]), bt hb h2⟩))
  have HS := Lib.hid (fun (wx : World) (hb : Below w7.heap.size w7 wx) => show wx.cell? ⟨b, 0, none⟩ = some (.bool on) ∧ wx.cell? ⟨b, 1, none⟩ = some (.bool rep) ∧ wx.cell? ⟨b, 2, none⟩ = some (.slice A k c) ∧ wx.cell? ⟨b, 3, none⟩ = some (.bool any) ∧ wx.cell? ⟨b, 4, none⟩ = some (.bool twice) from ⟨(hb.cell (p := ⟨b, 0, none⟩) (by show b < w7.heap.size; exact hkb.box.lt)).trans xa0, (hb.cell (p := ⟨b, 1, none⟩) (by show b < w7.heap.size; exact hkb.box.lt)).trans xa1, (hb.cell (p := ⟨b, 2, none⟩) (by show b < w7.heap.size; exact hkb.box.lt)).trans xa2, (hb.cell (p := ⟨b, 3, none⟩) (by show b < w7.heap.size; exact hkb.box.lt)).trans xa3, (hb.cell (p := ⟨b, 4, none⟩) (by show b < w7.heap.size; exact hkb.box.lt)).trans xa4⟩)
  rw [hb]
  clear hkb hb xa0 xa1 xa2 xa3 xa4
  go_wp2
  refine wp_region_noPanic ?_
  refine wp_region_held_drew (S := fun wx => wx.cell? ⟨b, 0, none⟩ = some (.bool on) ∧ wx.cell? ⟨b, 1, none⟩ = some (.bool rep) ∧ wx.cell? ⟨b, 2, none⟩ = some (.slice A k c) ∧ wx.cell? ⟨b, 3, none⟩ = some (.bool any) ∧ wx.cell? ⟨b, 4, none⟩ = some (.bool twice)) (by kernel_rfl) ?_ (fun hHeld => ?_)
  · exact HS.out _ (bel_eq (Below.refl _ w7) rfl rfl rfl rfl)
  refine wpAnyH_ready (rs := [0]) (by kernel_rfl) (by simp) ?_
  refine AllReadyH.cons (o := _) rfl (fun K hK => ?_) AllReadyH.nil
  go_simp
  go_at_call 16
  refine (HF.out _ (by exact bel_eq (Below.refl _ w7) rfl rfl rfl rfl)).mono ?_
  rintro e x0 ⟨rfl, hbx⟩
  have HX0 := Lib.hid hbx; clear hbx
  go_wp2_with fail
  refine hK.out _ _ ?_ (fun hHeld => ?_)
  · exact HS.out _ (bel_eq HX0.out rfl rfl rfl rfl)
  clear hK K
  try simp only [Act.put, List.getElem_toArray, List.getElem_cons_zero, List.getElem_cons_succ, List.setIfInBounds_toArray, List.set_cons_zero, List.set_cons_succ]
  refine wpAnyH_take (i := 1) (oi := _) (v := ?_) rfl (by kernel_rfl) (by kernel_rfl) (by kernel_rfl) (fun _ _ _ h => h) (Or.inl ⟨by rfl, ?_⟩) (by assumption) ?_
  rotate_left
  · intro w hSw; (try dsimp only at hSw); go_simp; all_goals with_reducible rfl
  try simp only [Act.put, List.getElem_toArray, List.getElem_cons_zero, List.getElem_cons_succ, List.setIfInBounds_toArray, List.set_cons_zero, List.set_cons_succ]
  refine wpAnyH_take (i := 2) (oi := _) (v := ?_) rfl (by kernel_rfl) (by kernel_rfl) (by kernel_rfl) (fun _ _ _ h => h) (Or.inl ⟨by rfl, ?_⟩) (by assumption) ?_
  rotate_left
  · intro w hSw; (try dsimp only at hSw); go_simp; all_goals with_reducible rfl
  try simp only [Act.put, List.getElem_toArray, List.getElem_cons_zero, List.getElem_cons_succ, List.setIfInBounds_toArray, List.set_cons_zero, List.set_cons_succ]
  refine wpAnyH_take (i := 3) (oi := _) (v := ?_) rfl (by kernel_rfl) (by kernel_rfl) (by kernel_rfl) (fun _ _ _ h => h) (Or.inl ⟨by rfl, ?_⟩) (by assumption) ?_
  rotate_left
  · intro w hSw; (try dsimp only at hSw); go_simp; all_goals with_reducible rfl
  try simp only [Act.put, List.getElem_toArray, List.getElem_cons_zero, List.getElem_cons_succ, List.setIfInBounds_toArray, List.set_cons_zero, List.set_cons_succ]
  refine wpAnyH_take (i := 4) (oi := _) (v := ?_) rfl (by kernel_rfl) (by kernel_rfl) (by kernel_rfl) (fun _ _ _ h => h) (Or.inl ⟨by rfl, ?_⟩) (by assumption) ?_
  rotate_left
  · intro w hSw; (try dsimp only at hSw); go_simp; all_goals with_reducible rfl
  try simp only [Act.put, List.getElem_toArray, List.getElem_cons_zero, List.getElem_cons_succ, List.setIfInBounds_toArray, List.set_cons_zero, List.set_cons_succ]
  refine wpAnyH_take (i := 6) (oi := _) (v := ?_) rfl (by kernel_rfl) (by kernel_rfl) (by kernel_rfl) (fun _ _ _ h => h) (Or.inl ⟨by rfl, ?_⟩) (by assumption) ?_
  rotate_left
  · intro w hSw; (try dsimp only at hSw); go_simp; all_goals with_reducible rfl
  try simp only [Act.put, List.getElem_toArray, List.getElem_cons_zero, List.getElem_cons_succ, List.setIfInBounds_toArray, List.set_cons_zero, List.set_cons_succ]
  refine wpAnyH_take (i := 7) (oi := _) (v := ?_) rfl (by kernel_rfl) (by kernel_rfl) (by kernel_rfl) (fun _ _ _ h => h) (Or.inl ⟨by rfl, ?_⟩) (by assumption) ?_
  rotate_left
  · intro w hSw; (try dsimp only at hSw); go_simp; all_goals with_reducible rfl
  try simp only [Act.put, List.getElem_toArray, List.getElem_cons_zero, List.getElem_cons_succ, List.setIfInBounds_toArray, List.set_cons_zero, List.set_cons_succ]
  refine wpAnyH_take (i := 8) (oi := _) (v := ?_) rfl (by kernel_rfl) (by kernel_rfl) (by kernel_rfl) (fun _ _ _ h => h) (Or.inl ⟨by rfl, ?_⟩) (by assumption) ?_
  rotate_left
  · intro w hSw; (try dsimp only at hSw); go_simp; all_goals with_reducible rfl
  try simp only [Act.put, List.getElem_toArray, List.getElem_cons_zero, List.getElem_cons_succ, List.setIfInBounds_toArray, List.set_cons_zero, List.set_cons_succ]
  refine wpAnyH_ready (rs := [5]) (by kernel_rfl) (by simp) ?_
  refine AllReadyH.cons (o := _) rfl (fun K hK => ?_) AllReadyH.nil
  go_simp
  go_at_call 17
  refine (HA.out _ (by exact bel_eq HX0.out rfl rfl rfl rfl)).mono ?_
  rintro e x05 ⟨rfl, hbx⟩
  have HX05 := Lib.hid hbx; clear hbx
  go_wp2_with fail
  refine hK.out _ _ ?_ (fun hHeld => ?_)
  · exact HS.out _ (bel_eq HX05.out rfl rfl rfl rfl)
  clear hK K
  try simp only [Act.put, List.getElem_toArray, List.getElem_cons_zero, List.getElem_cons_succ, List.setIfInBounds_toArray, List.set_cons_zero, List.set_cons_succ]
  refine wpAnyH_ready (rs := [9]) (by kernel_rfl) (by simp) ?_
  refine AllReadyH.cons (o := _) rfl (fun K hK => ?_) AllReadyH.nil
  go_simp
  go_at_call 18
  refine (HC.out _ (by exact bel_eq HX05.out rfl rfl rfl rfl)).mono ?_
  rintro e x059 ⟨rfl, hbx⟩
  have HX059 := Lib.hid hbx; clear hbx
  go_wp2_with fail
  refine hK.out _ _ ?_ (fun hHeld => ?_)
  · exact HS.out _ (bel_eq HX059.out rfl rfl rfl rfl)
  clear hK K
  try simp only [Act.put, List.getElem_toArray, List.getElem_cons_zero, List.getElem_cons_succ, List.setIfInBounds_toArray, List.set_cons_zero, List.set_cons_succ]
  refine wpAnyH_take (i := 10) (oi := _) (v := ?_) rfl (by kernel_rfl) (by kernel_rfl) (by kernel_rfl) (fun _ _ _ h => h) (Or.inl ⟨by rfl, ?_⟩) (by assumption) ?_
  rotate_left
  · intro w hSw; (try dsimp only at hSw); go_simp; all_goals with_reducible rfl
  try simp only [Act.put, List.getElem_toArray, List.getElem_cons_zero, List.getElem_cons_succ, List.setIfInBounds_toArray, List.set_cons_zero, List.set_cons_succ]
  refine wpAnyH_take (i := 11) (oi := _) (v := ?_) rfl (by kernel_rfl) (by kernel_rfl) (by kernel_rfl) (fun _ _ _ h => h) (Or.inl ⟨by rfl, ?_⟩) (by assumption) ?_
  rotate_left
  · intro w hSw; (try dsimp only at hSw); go_simp; all_goals with_reducible rfl
  try simp only [Act.put, List.getElem_toArray, List.getElem_cons_zero, List.getElem_cons_succ, List.setIfInBounds_toArray, List.set_cons_zero, List.set_cons_succ]
  refine wpAnyH_take (i := 12) (oi := _) (v := ?_) rfl (by kernel_rfl) (by kernel_rfl) (by kernel_rfl) (fun _ _ _ h => h) (Or.inl ⟨by rfl, ?_⟩) (by assumption) ?_
  rotate_left
  · intro w hSw; (try dsimp only at hSw); go_simp; all_goals with_reducible rfl
  try simp only [Act.put, List.getElem_toArray, List.getElem_cons_zero, List.getElem_cons_succ, List.setIfInBounds_toArray, List.set_cons_zero, List.set_cons_succ]
  refine wpAnyH_done (by kernel_rfl) ?_ _
  refine NoPanic.normal ?_
  go_wp2
  go_ret
  exact ⟨rfl, bt HB7.out (bel_eq HX059.out rfl rfl rfl rfl)⟩

end Go.Proofs.Ythgpjhblbpiagaa.He
