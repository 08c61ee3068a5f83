/-
  Walks of stage 13: the reference's attributes that are kept.
  Stage 13: append of rows onto rows of the call's own whose attributes are its own: what else has turned is told; within a region that draws its order, too.
  Stage 13, plain: kids one behind the other, with what each has.
-/
import Derived.Test.YtgjlfcamgkeibaaCk05
import Derived.Deep.CutRange
import Derived.Deep.RegionHeld3
import Derived.Deep.RegionLaw
import Derived.Deep.AppendLies
import Derived.BigRegion
import Derived.Test.YtgjlfcamgkeibaaCk03
namespace Go.Proofs.Ytgjlfcamgkeibaa.Cn
set_option maxRecDepth 100000
set_option linter.unusedVariables false
set_option linter.unusedSimpArgs false
open Go.RowKit Ba Ro
open Co (Cf Cv Sm confV confO attrB12 elementN bel_eq12)
open To (Aw app_attr)
theorem aw_made (w : World) : Aw w.heap.size (w.alloc (.cells #[] 40)) (.slice (some ⟨w.heap.size, 0, none⟩) 0 0) [] :=
  ⟨World.ownsRow_made w #[] 0 (Nat.le_refl _) (Nat.zero_le _) rfl, fun _ h => by simp at h⟩
set_option maxRecDepth 100000 in
set_option maxHeartbeats 8000000 in
theorem refAttrs_any (x : Cw) (v : Value) (c : Cf) (s : Bool) (w : World) (hx : Att w w.heap.size x) (hz : Rz.SmallR x.ro) (hc : Cv w w.heap.size v c) (hs : Sm c) (hm : x.ro.attrs.length ≤ 1000000) :
    Calls Try.prog 13 #[rowV x, v, .bool s] w fun r w' => ∃ v', r = .returned v' ∧ Aw w.heap.size w' v' (attrsF c s x.ro) ∧ Below w.heap.size w w' := by
  obtain ⟨vE, vR, vA, vP, pl, rfl, hc⟩ := hc
  obtain ⟨⟨dep, kd, nm, dt, ats⟩, A, cc⟩ := x
  obtain ⟨hz1, _, hz3⟩ := hz
  have hxc := hx.1; have hxm := hx.2.2.1
  unfold maxLen at hxm
  simp only at hxc hxm hm hz1 hz3
  obtain ⟨w0, hw0⟩ : ∃ w0, (w.alloc (rowO ⟨⟨dep, kd, nm, dt, ats⟩, A, cc⟩)).alloc (confO c vE vR vA vP) = w0 := ⟨_, rfl⟩
  have hb0 : Below w.heap.size w w0 := hw0 ▸ below_two w _ _
  have hbb : Bb w0 w.heap.size ⟨⟨dep, kd, nm, dt, ats⟩, A, cc⟩ c vE vR vA vP := hw0 ▸ Bb.new w _ c vE vR vA vP
  have HBX := Lib.hid (fun wx (hb : Below w0.heap.size w0 wx) => show (wx.cell? ⟨w.heap.size, 2, none⟩ = some (.string nm) ∧ wx.cell? ⟨w.heap.size, 4, none⟩ = some (.slice A ats.length cc)) ∧ wx.cell? ⟨w.heap.size + 1, 0, none⟩ = some (.bool c.allow) ∧ wx.cell? ⟨w.heap.size + 1, 1, none⟩ = some (.bool c.attrsAllow) ∧ wx.cell? ⟨w.heap.size + 1, 2, none⟩ = some (vE) ∧ wx.cell? ⟨w.heap.size + 1, 3, none⟩ = some (vR) ∧ wx.cell? ⟨w.heap.size + 1, 4, none⟩ = some (vA) ∧ wx.cell? ⟨w.heap.size + 1, 5, none⟩ = some (vP) ∧ wx.cell? ⟨w.heap.size + 1, 6, none⟩ = some (.bool c.comments) ∧ wx.cell? ⟨w.heap.size + 1, 7, none⟩ = some (.bool c.dataAttrs) from ⟨⟨(hbb.on hb).row 2, (hbb.on hb).row 4⟩, by obtain ⟨a0, a1, a2, a3, a4, a5, a6, a7⟩ := Co.Bx.at_ (hbb.on hb).cf; exact ⟨a0, a1, a2, a3, a4, a5, a6, a7⟩⟩)
  have HCV := Lib.hid (fun wr (hb : Below w0.heap.size w0 wr) => show Cv wr wr.heap.size (confV c vE vR vA vP) c from ⟨_, _, _, _, _, rfl, (hc.on hb0).on hb⟩)
  have HRA := Lib.hid (fun wr (hb : Below w0.heap.size w0 wr) => show Ra wr w.heap.size A ats from (hx.2.2.2.1.below hb0).below hb hb0.size)
  have HW := Lib.hid hw0; have HB0 := Lib.hid hb0; have HSM := Lib.hid hs; have HSH := Lib.hid hx.2.2.2.2; have HZ := Lib.hid hz3
  have hsz0 := hb0.size
  have hlt0 := hbb.lt
  clear hc hx hw0 hb0 hbb hs hz3
  go_enter Try.func13, Try.ntmps13
  go_upto_region 1 with (fail)
  rw [HW.out]
  clear HW
  go_wp2
  go_loopw [7, 8] (fun u' i wr => ∃ (k : Nat) (u : Value), i = .int .i64 k ∧ u = u' ∧ k ≤ ats.length ∧ Aw w0.heap.size wr u (attrsL c s nm (ats.take k)) ∧ Below w0.heap.size w0 wr) (fun _ i _ => ats.length - (intOf i).toNat)
  case atStart => exact ⟨0, _, rfl, rfl, by omega, aw_made w0, below_new w0 _⟩
  case round =>
    obtain ⟨k, u, rfl, rfl, hk, ho, hbel⟩ := hrel
    have hsz := hbel.size
    obtain ⟨⟨g2, g4⟩, -⟩ := HBX.out wr hbel
    by_cases hp : k < ats.length
    · obtain ⟨b, off, y, rfl, hb, hd, hy, hym⟩ := (HRA.out wr hbel).at_ k hp
      obtain ⟨hy1, hy2⟩ := HZ.out y hym
      have hy3 := HSH.out y hym
      have hle := attrs_le c s nm ats k
      have HAB := Lib.hid (fun wx (hb' : Below wr.heap.size wr wx) => show wx.cell? ⟨b, off + k * 2, none⟩ = some (.string y.name) ∧ wx.cell? ⟨b, off + k * 2 + 1, none⟩ = some (.string y.value) from by
        obtain ⟨f1, f2⟩ := range2 hy
        have hl : b < wr.heap.size := by omega
        exact ⟨(hb'.cell (p := ⟨b, off + k * 2, none⟩) hl).trans f1, (hb'.cell (p := ⟨b, off + k * 2 + 1, none⟩) hl).trans f2⟩)
      have HBL := Lib.hid (fun wx (hb' : Below wr.heap.size wr wx) => show (wx.cell? ⟨w.heap.size, 2, none⟩ = some (.string nm) ∧ wx.cell? ⟨w.heap.size, 4, none⟩ = some (.slice (some ⟨b, off, none⟩) ats.length cc) ∧ wx.cell? ⟨b, off + k * 2, none⟩ = some (.string y.name) ∧ wx.cell? ⟨b, off + k * 2 + 1, none⟩ = some (.string y.value) ∧ wx.cell? ⟨w.heap.size + 1, 0, none⟩ = some (.bool c.allow) ∧ wx.cell? ⟨w.heap.size + 1, 1, none⟩ = some (.bool c.attrsAllow) ∧ wx.cell? ⟨w.heap.size + 1, 2, none⟩ = some (vE) ∧ wx.cell? ⟨w.heap.size + 1, 3, none⟩ = some (vR) ∧ wx.cell? ⟨w.heap.size + 1, 4, none⟩ = some (vA) ∧ wx.cell? ⟨w.heap.size + 1, 5, none⟩ = some (vP) ∧ wx.cell? ⟨w.heap.size + 1, 6, none⟩ = some (.bool c.comments) ∧ wx.cell? ⟨w.heap.size + 1, 7, none⟩ = some (.bool c.dataAttrs)) from by
        obtain ⟨⟨p2, p4⟩, p⟩ := HBX.out wx (hbel.trans (hb'.mono hsz))
        obtain ⟨e0, e1⟩ := HAB.out wx hb'
        exact ⟨p2, p4, e0, e1, p⟩)
      have HON := Lib.hid (fun wx (hb' : Below wr.heap.size wr wx) => aw_on ho hb')
      have HD := Lib.hid hd; have HBR := Lib.hid hbel; have HS3 := Lib.hid hy3
      clear ho hd hbel hy hy3 hym
      obtain ⟨q1, hq1⟩ : ∃ q, attrB12 c nm y.name = q := ⟨_, rfl⟩
      obtain ⟨q2, hq2⟩ : ∃ q, Rk.attrB nm y = q := ⟨_, rfl⟩
      have HC1 := Lib.hid (fun wx (hb' : Below wr.heap.size wr wx) => (Co.refAttr1 _ c nm y.name wx q1 (HCV.out wx (HBR.out.trans (hb'.mono hsz))) HSM.out hy1 hq1).mono fun r w' ⟨e, h⟩ => (show r = Ending.returned (.bool q1) ∧ Below wr.heap.size wr w' from ⟨e, hb'.trans (h.mono hb'.size)⟩))
      have HC2 := Lib.hid (fun wx (hb' : Below wr.heap.size wr wx) => (Rk.refAttr1 nm y hz1 hy1 hy2 wx q2 hq2).mono fun r w' ⟨e, h⟩ => (show r = Ending.returned (.bool q2) ∧ Below wr.heap.size wr w' from ⟨e, hb'.trans (h.mono hb'.size)⟩))
      have HKB : Hid (keepB c s nm y = (q1 && !(s && q2))) := Lib.hid (by unfold keepB; rw [hq1, hq2])
      clear hq1 hq2
      go_upto_region 5 with (fail)
      cases q1 with
      | false =>
        have hkb : keepB c s nm y = false := HKB.out
        go_wp2_with fail
        refine wp_region_noPanic ?_
        refine wp_region_held_drew (S := fun wx => (wx.cell? ⟨w.heap.size, 2, none⟩ = some (.string nm) ∧ wx.cell? ⟨w.heap.size, 4, none⟩ = some (.slice (some ⟨b, off, none⟩) ats.length cc) ∧ wx.cell? ⟨b, off + k * 2, none⟩ = some (.string y.name) ∧ wx.cell? ⟨b, off + k * 2 + 1, none⟩ = some (.string y.value) ∧ wx.cell? ⟨w.heap.size + 1, 0, none⟩ = some (.bool c.allow) ∧ wx.cell? ⟨w.heap.size + 1, 1, none⟩ = some (.bool c.attrsAllow) ∧ wx.cell? ⟨w.heap.size + 1, 2, none⟩ = some (vE) ∧ wx.cell? ⟨w.heap.size + 1, 3, none⟩ = some (vR) ∧ wx.cell? ⟨w.heap.size + 1, 4, none⟩ = some (vA) ∧ wx.cell? ⟨w.heap.size + 1, 5, none⟩ = some (vP) ∧ wx.cell? ⟨w.heap.size + 1, 6, none⟩ = some (.bool c.comments) ∧ wx.cell? ⟨w.heap.size + 1, 7, none⟩ = some (.bool c.dataAttrs))) (by kernel_rfl) ?_ (fun hHeld => ?_)
        · exact HBL.out _ (bel_eq12 (Below.refl _ wr) rfl rfl rfl rfl)
        refine wpAnyH_take (i := 0) (oi := _) (v := ?_) rfl (by kernel_rfl) (by kernel_rfl) (by kernel_rfl) (fun _ _ _ h => h) (Or.inl ⟨by rfl, ?_⟩) (by assumption) ?_
        rotate_left
        · intro w hSw; (try dsimp only at hSw); go_simp; all_goals with_reducible rfl
        try simp only [Act.put, List.getElem_toArray, List.getElem_cons_zero, List.getElem_cons_succ, List.setIfInBounds_toArray, List.set_cons_zero, List.set_cons_succ]
        refine wpAnyH_take (i := 1) (oi := _) (v := ?_) rfl (by kernel_rfl) (by kernel_rfl) (by kernel_rfl) (fun _ _ _ h => h) (Or.inl ⟨by rfl, ?_⟩) (by assumption) ?_
        rotate_left
        · intro w hSw; (try dsimp only at hSw); go_simp; all_goals with_reducible rfl
        try simp only [Act.put, List.getElem_toArray, List.getElem_cons_zero, List.getElem_cons_succ, List.setIfInBounds_toArray, List.set_cons_zero, List.set_cons_succ]
        refine wpAnyH_take (i := 2) (oi := _) (v := ?_) rfl (by kernel_rfl) (by kernel_rfl) (by kernel_rfl) (fun _ _ _ h => h) (Or.inl ⟨by rfl, ?_⟩) (by assumption) ?_
        rotate_left
        · intro w hSw; (try dsimp only at hSw); go_simp; all_goals with_reducible rfl
        try simp only [Act.put, List.getElem_toArray, List.getElem_cons_zero, List.getElem_cons_succ, List.setIfInBounds_toArray, List.set_cons_zero, List.set_cons_succ]
        refine wpAnyH_take (i := 3) (oi := _) (v := ?_) rfl (by kernel_rfl) (by kernel_rfl) (by kernel_rfl) (fun _ _ _ h => h) (Or.inl ⟨by rfl, ?_⟩) (by assumption) ?_
        rotate_left
        · intro w hSw; (try dsimp only at hSw); go_simp; all_goals with_reducible rfl
        try simp only [Act.put, List.getElem_toArray, List.getElem_cons_zero, List.getElem_cons_succ, List.setIfInBounds_toArray, List.set_cons_zero, List.set_cons_succ]
        refine wpAnyH_take (i := 4) (oi := _) (v := ?_) rfl (by kernel_rfl) (by kernel_rfl) (by kernel_rfl) (fun _ _ _ h => h) (Or.inl ⟨by rfl, ?_⟩) (by assumption) ?_
        rotate_left
        · intro w hSw; (try dsimp only at hSw); go_simp; all_goals with_reducible rfl
        try simp only [Act.put, List.getElem_toArray, List.getElem_cons_zero, List.getElem_cons_succ, List.setIfInBounds_toArray, List.set_cons_zero, List.set_cons_succ]
        refine wpAnyH_take (i := 5) (oi := _) (v := ?_) rfl (by kernel_rfl) (by kernel_rfl) (by kernel_rfl) (fun _ _ _ h => h) (Or.inl ⟨by rfl, ?_⟩) (by assumption) ?_
        rotate_left
        · intro w hSw; (try dsimp only at hSw); go_simp; all_goals with_reducible rfl
        try simp only [Act.put, List.getElem_toArray, List.getElem_cons_zero, List.getElem_cons_succ, List.setIfInBounds_toArray, List.set_cons_zero, List.set_cons_succ]
        refine wpAnyH_take (i := 6) (oi := _) (v := ?_) rfl (by kernel_rfl) (by kernel_rfl) (by kernel_rfl) (fun _ _ _ h => h) (Or.inl ⟨by rfl, ?_⟩) (by assumption) ?_
        rotate_left
        · intro w hSw; (try dsimp only at hSw); go_simp; all_goals with_reducible rfl
        try simp only [Act.put, List.getElem_toArray, List.getElem_cons_zero, List.getElem_cons_succ, List.setIfInBounds_toArray, List.set_cons_zero, List.set_cons_succ]
        refine wpAnyH_take (i := 7) (oi := _) (v := ?_) rfl (by kernel_rfl) (by kernel_rfl) (by kernel_rfl) (fun _ _ _ h => h) (Or.inl ⟨by rfl, ?_⟩) (by assumption) ?_
        rotate_left
        · intro w hSw; (try dsimp only at hSw); go_simp; all_goals with_reducible rfl
        try simp only [Act.put, List.getElem_toArray, List.getElem_cons_zero, List.getElem_cons_succ, List.setIfInBounds_toArray, List.set_cons_zero, List.set_cons_succ]
        refine wpAnyH_take (i := 8) (oi := _) (v := ?_) rfl (by kernel_rfl) (by kernel_rfl) (by kernel_rfl) (fun _ _ _ h => h) (Or.inl ⟨by rfl, ?_⟩) (by assumption) ?_
        rotate_left
        · intro w hSw; (try dsimp only at hSw); go_simp; all_goals with_reducible rfl
        try simp only [Act.put, List.getElem_toArray, List.getElem_cons_zero, List.getElem_cons_succ, List.setIfInBounds_toArray, List.set_cons_zero, List.set_cons_succ]
        refine wpAnyH_ready (rs := [9]) (by kernel_rfl) (by simp) ?_
        refine AllReadyH.cons (o := _) rfl (fun K hK => ?_) AllReadyH.nil
        go_simp
        go_at_call 32
        refine (HC1.out _ (by exact bel_eq12 (Below.refl _ wr) rfl rfl rfl rfl)).mono ?_
        rintro r x1 ⟨rfl, hbx⟩
        have HBx1 := Lib.hid hbx
        clear hbx
        go_wp2_with fail
        refine hK.out _ _ ?_ (fun hHeld => ?_)
        · exact HBL.out _ (bel_eq12 HBx1.out rfl rfl rfl rfl)
        clear hK K
        try simp only [Act.put, List.getElem_toArray, List.getElem_cons_zero, List.getElem_cons_succ, List.setIfInBounds_toArray, List.set_cons_zero, List.set_cons_succ]
        refine wpAnyH_take (i := 10) (oi := _) (v := ?_) rfl (by kernel_rfl) (by kernel_rfl) (by kernel_rfl) (fun _ _ _ h => h) (Or.inl ⟨by rfl, ?_⟩) (by assumption) ?_
        rotate_left
        · intro w hSw; (try dsimp only at hSw); go_simp; all_goals with_reducible rfl
        try simp only [Act.put, List.getElem_toArray, List.getElem_cons_zero, List.getElem_cons_succ, List.setIfInBounds_toArray, List.set_cons_zero, List.set_cons_succ]
        refine wpAnyH_take (i := 11) (oi := _) (v := undef) rfl (by kernel_rfl) (by kernel_rfl) (by kernel_rfl) (fun _ _ _ h => h) (Or.inr ⟨by rfl, rfl⟩) (by assumption) ?_
        try simp only [Act.put, List.getElem_toArray, List.getElem_cons_zero, List.getElem_cons_succ, List.setIfInBounds_toArray, List.set_cons_zero, List.set_cons_succ]
        refine wpAnyH_take (i := 12) (oi := _) (v := undef) rfl (by kernel_rfl) (by kernel_rfl) (by kernel_rfl) (fun _ _ _ h => h) (Or.inr ⟨by rfl, rfl⟩) (by assumption) ?_
        try simp only [Act.put, List.getElem_toArray, List.getElem_cons_zero, List.getElem_cons_succ, List.setIfInBounds_toArray, List.set_cons_zero, List.set_cons_succ]
        refine wpAnyH_take (i := 13) (oi := _) (v := undef) rfl (by kernel_rfl) (by kernel_rfl) (by kernel_rfl) (fun _ _ _ h => h) (Or.inr ⟨by rfl, rfl⟩) (by assumption) ?_
        try simp only [Act.put, List.getElem_toArray, List.getElem_cons_zero, List.getElem_cons_succ, List.setIfInBounds_toArray, List.set_cons_zero, List.set_cons_succ]
        refine wpAnyH_take (i := 14) (oi := _) (v := undef) rfl (by kernel_rfl) (by kernel_rfl) (by kernel_rfl) (fun _ _ _ h => h) (Or.inr ⟨by rfl, rfl⟩) (by assumption) ?_
        try simp only [Act.put, List.getElem_toArray, List.getElem_cons_zero, List.getElem_cons_succ, List.setIfInBounds_toArray, List.set_cons_zero, List.set_cons_succ]
        refine wpAnyH_take (i := 15) (oi := _) (v := undef) rfl (by kernel_rfl) (by kernel_rfl) (by kernel_rfl) (fun _ _ _ h => h) (Or.inr ⟨by rfl, rfl⟩) (by assumption) ?_
        try simp only [Act.put, List.getElem_toArray, List.getElem_cons_zero, List.getElem_cons_succ, List.setIfInBounds_toArray, List.set_cons_zero, List.set_cons_succ]
        refine wpAnyH_take (i := 16) (oi := _) (v := undef) rfl (by kernel_rfl) (by kernel_rfl) (by kernel_rfl) (fun _ _ _ h => h) (Or.inr ⟨by rfl, rfl⟩) (by assumption) ?_
        try simp only [Act.put, List.getElem_toArray, List.getElem_cons_zero, List.getElem_cons_succ, List.setIfInBounds_toArray, List.set_cons_zero, List.set_cons_succ]
        refine wpAnyH_take (i := 17) (oi := _) (v := undef) rfl (by kernel_rfl) (by kernel_rfl) (by kernel_rfl) (fun _ _ _ h => h) (Or.inr ⟨by rfl, rfl⟩) (by assumption) ?_
        try simp only [Act.put, List.getElem_toArray, List.getElem_cons_zero, List.getElem_cons_succ, List.setIfInBounds_toArray, List.set_cons_zero, List.set_cons_succ]
        refine wpAnyH_take (i := 18) (oi := _) (v := undef) rfl (by kernel_rfl) (by kernel_rfl) (by kernel_rfl) (fun _ _ _ h => h) (Or.inr ⟨by rfl, rfl⟩) (by assumption) ?_
        try simp only [Act.put, List.getElem_toArray, List.getElem_cons_zero, List.getElem_cons_succ, List.setIfInBounds_toArray, List.set_cons_zero, List.set_cons_succ]
        refine wpAnyH_take (i := 19) (oi := _) (v := undef) rfl (by kernel_rfl) (by kernel_rfl) (by kernel_rfl) (fun _ _ _ h => h) (Or.inr ⟨by rfl, rfl⟩) (by assumption) ?_
        try simp only [Act.put, List.getElem_toArray, List.getElem_cons_zero, List.getElem_cons_succ, List.setIfInBounds_toArray, List.set_cons_zero, List.set_cons_succ]
        refine wpAnyH_take (i := 20) (oi := _) (v := undef) rfl (by kernel_rfl) (by kernel_rfl) (by kernel_rfl) (fun _ _ _ h => h) (Or.inr ⟨by rfl, rfl⟩) (by assumption) ?_
        try simp only [Act.put, List.getElem_toArray, List.getElem_cons_zero, List.getElem_cons_succ, List.setIfInBounds_toArray, List.set_cons_zero, List.set_cons_succ]
        refine wpAnyH_take (i := 21) (oi := _) (v := undef) rfl (by kernel_rfl) (by kernel_rfl) (by kernel_rfl) (fun _ _ _ h => h) (Or.inr ⟨by rfl, rfl⟩) (by assumption) ?_
        try simp only [Act.put, List.getElem_toArray, List.getElem_cons_zero, List.getElem_cons_succ, List.setIfInBounds_toArray, List.set_cons_zero, List.set_cons_succ]
        refine wpAnyH_take (i := 22) (oi := _) (v := undef) rfl (by kernel_rfl) (by kernel_rfl) (by kernel_rfl) (fun _ _ _ h => h) (Or.inr ⟨by rfl, rfl⟩) (by assumption) ?_
        try simp only [Act.put, List.getElem_toArray, List.getElem_cons_zero, List.getElem_cons_succ, List.setIfInBounds_toArray, List.set_cons_zero, List.set_cons_succ]
        refine wpAnyH_take (i := 23) (oi := _) (v := undef) rfl (by kernel_rfl) (by kernel_rfl) (by kernel_rfl) (fun _ _ _ h => h) (Or.inr ⟨by rfl, rfl⟩) (by assumption) ?_
        try simp only [Act.put, List.getElem_toArray, List.getElem_cons_zero, List.getElem_cons_succ, List.setIfInBounds_toArray, List.set_cons_zero, List.set_cons_succ]
        refine wpAnyH_take (i := 24) (oi := _) (v := ?_) rfl (by kernel_rfl) (by kernel_rfl) (by kernel_rfl) (fun _ _ _ h => h) (Or.inl ⟨by rfl, ?_⟩) (by assumption) ?_
        rotate_left
        · intro w hSw; (try dsimp only at hSw); go_simp; all_goals with_reducible rfl
        try simp only [Act.put, List.getElem_toArray, List.getElem_cons_zero, List.getElem_cons_succ, List.setIfInBounds_toArray, List.set_cons_zero, List.set_cons_succ]
        refine wpAnyH_done (by kernel_rfl) ?_ _
        refine NoPanic.normal ?_
        obtain ⟨wz, hwz⟩ : ∃ wz : World, wz = x1 := ⟨_, rfl⟩
        have hbz : Below wr.heap.size wr wz := hwz ▸ (bel_eq12 HBx1.out rfl rfl rfl rfl)
        rw [← hwz]
        clear hwz
        go_wp2
        go_roundw
        case rel => exact ⟨k + 1, _, by go_num, rfl, by omega, by rw [keep_no HD.out hkb]; exact HON.out _ hbz, HBR.out.trans (hbz.mono hsz)⟩
        case measure => simp [intOf]; omega
      | true =>
        cases s with
        | false =>
          have hkb : keepB c false nm y = true := HKB.out
          go_wp2_with fail
          refine wp_region_noPanic ?_
          refine wp_region_held_drew (S := fun wx => (wx.cell? ⟨w.heap.size, 2, none⟩ = some (.string nm) ∧ wx.cell? ⟨w.heap.size, 4, none⟩ = some (.slice (some ⟨b, off, none⟩) ats.length cc) ∧ wx.cell? ⟨b, off + k * 2, none⟩ = some (.string y.name) ∧ wx.cell? ⟨b, off + k * 2 + 1, none⟩ = some (.string y.value) ∧ wx.cell? ⟨w.heap.size + 1, 0, none⟩ = some (.bool c.allow) ∧ wx.cell? ⟨w.heap.size + 1, 1, none⟩ = some (.bool c.attrsAllow) ∧ wx.cell? ⟨w.heap.size + 1, 2, none⟩ = some (vE) ∧ wx.cell? ⟨w.heap.size + 1, 3, none⟩ = some (vR) ∧ wx.cell? ⟨w.heap.size + 1, 4, none⟩ = some (vA) ∧ wx.cell? ⟨w.heap.size + 1, 5, none⟩ = some (vP) ∧ wx.cell? ⟨w.heap.size + 1, 6, none⟩ = some (.bool c.comments) ∧ wx.cell? ⟨w.heap.size + 1, 7, none⟩ = some (.bool c.dataAttrs))) (by kernel_rfl) ?_ (fun hHeld => ?_)
          · exact HBL.out _ (bel_eq12 (Below.refl _ wr) rfl rfl rfl rfl)
          refine wpAnyH_take (i := 0) (oi := _) (v := ?_) rfl (by kernel_rfl) (by kernel_rfl) (by kernel_rfl) (fun _ _ _ h => h) (Or.inl ⟨by rfl, ?_⟩) (by assumption) ?_
          rotate_left
          · intro w hSw; (try dsimp only at hSw); go_simp; all_goals with_reducible rfl
          try simp only [Act.put, List.getElem_toArray, List.getElem_cons_zero, List.getElem_cons_succ, List.setIfInBounds_toArray, List.set_cons_zero, List.set_cons_succ]
          refine wpAnyH_take (i := 1) (oi := _) (v := ?_) rfl (by kernel_rfl) (by kernel_rfl) (by kernel_rfl) (fun _ _ _ h => h) (Or.inl ⟨by rfl, ?_⟩) (by assumption) ?_
          rotate_left
          · intro w hSw; (try dsimp only at hSw); go_simp; all_goals with_reducible rfl
          try simp only [Act.put, List.getElem_toArray, List.getElem_cons_zero, List.getElem_cons_succ, List.setIfInBounds_toArray, List.set_cons_zero, List.set_cons_succ]
          refine wpAnyH_take (i := 2) (oi := _) (v := ?_) rfl (by kernel_rfl) (by kernel_rfl) (by kernel_rfl) (fun _ _ _ h => h) (Or.inl ⟨by rfl, ?_⟩) (by assumption) ?_
          rotate_left
          · intro w hSw; (try dsimp only at hSw); go_simp; all_goals with_reducible rfl
          try simp only [Act.put, List.getElem_toArray, List.getElem_cons_zero, List.getElem_cons_succ, List.setIfInBounds_toArray, List.set_cons_zero, List.set_cons_succ]
          refine wpAnyH_take (i := 3) (oi := _) (v := ?_) rfl (by kernel_rfl) (by kernel_rfl) (by kernel_rfl) (fun _ _ _ h => h) (Or.inl ⟨by rfl, ?_⟩) (by assumption) ?_
          rotate_left
          · intro w hSw; (try dsimp only at hSw); go_simp; all_goals with_reducible rfl
          try simp only [Act.put, List.getElem_toArray, List.getElem_cons_zero, List.getElem_cons_succ, List.setIfInBounds_toArray, List.set_cons_zero, List.set_cons_succ]
          refine wpAnyH_take (i := 4) (oi := _) (v := ?_) rfl (by kernel_rfl) (by kernel_rfl) (by kernel_rfl) (fun _ _ _ h => h) (Or.inl ⟨by rfl, ?_⟩) (by assumption) ?_
          rotate_left
          · intro w hSw; (try dsimp only at hSw); go_simp; all_goals with_reducible rfl
          try simp only [Act.put, List.getElem_toArray, List.getElem_cons_zero, List.getElem_cons_succ, List.setIfInBounds_toArray, List.set_cons_zero, List.set_cons_succ]
          refine wpAnyH_take (i := 5) (oi := _) (v := ?_) rfl (by kernel_rfl) (by kernel_rfl) (by kernel_rfl) (fun _ _ _ h => h) (Or.inl ⟨by rfl, ?_⟩) (by assumption) ?_
          rotate_left
          · intro w hSw; (try dsimp only at hSw); go_simp; all_goals with_reducible rfl
          try simp only [Act.put, List.getElem_toArray, List.getElem_cons_zero, List.getElem_cons_succ, List.setIfInBounds_toArray, List.set_cons_zero, List.set_cons_succ]
          refine wpAnyH_take (i := 6) (oi := _) (v := ?_) rfl (by kernel_rfl) (by kernel_rfl) (by kernel_rfl) (fun _ _ _ h => h) (Or.inl ⟨by rfl, ?_⟩) (by assumption) ?_
          rotate_left
          · intro w hSw; (try dsimp only at hSw); go_simp; all_goals with_reducible rfl
          try simp only [Act.put, List.getElem_toArray, List.getElem_cons_zero, List.getElem_cons_succ, List.setIfInBounds_toArray, List.set_cons_zero, List.set_cons_succ]
          refine wpAnyH_take (i := 7) (oi := _) (v := ?_) rfl (by kernel_rfl) (by kernel_rfl) (by kernel_rfl) (fun _ _ _ h => h) (Or.inl ⟨by rfl, ?_⟩) (by assumption) ?_
          rotate_left
          · intro w hSw; (try dsimp only at hSw); go_simp; all_goals with_reducible rfl
          try simp only [Act.put, List.getElem_toArray, List.getElem_cons_zero, List.getElem_cons_succ, List.setIfInBounds_toArray, List.set_cons_zero, List.set_cons_succ]
          refine wpAnyH_take (i := 8) (oi := _) (v := ?_) rfl (by kernel_rfl) (by kernel_rfl) (by kernel_rfl) (fun _ _ _ h => h) (Or.inl ⟨by rfl, ?_⟩) (by assumption) ?_
          rotate_left
          · intro w hSw; (try dsimp only at hSw); go_simp; all_goals with_reducible rfl
          try simp only [Act.put, List.getElem_toArray, List.getElem_cons_zero, List.getElem_cons_succ, List.setIfInBounds_toArray, List.set_cons_zero, List.set_cons_succ]
          refine wpAnyH_ready (rs := [9]) (by kernel_rfl) (by simp) ?_
          refine AllReadyH.cons (o := _) rfl (fun K hK => ?_) AllReadyH.nil
          go_simp
          go_at_call 32
          refine (HC1.out _ (by exact bel_eq12 (Below.refl _ wr) rfl rfl rfl rfl)).mono ?_
          rintro r x1 ⟨rfl, hbx⟩
          have HBx1 := Lib.hid hbx
          clear hbx
          go_wp2_with fail
          refine hK.out _ _ ?_ (fun hHeld => ?_)
          · exact HBL.out _ (bel_eq12 HBx1.out rfl rfl rfl rfl)
          clear hK K
          try simp only [Act.put, List.getElem_toArray, List.getElem_cons_zero, List.getElem_cons_succ, List.setIfInBounds_toArray, List.set_cons_zero, List.set_cons_succ]
          refine wpAnyH_take (i := 10) (oi := _) (v := ?_) rfl (by kernel_rfl) (by kernel_rfl) (by kernel_rfl) (fun _ _ _ h => h) (Or.inl ⟨by rfl, ?_⟩) (by assumption) ?_
          rotate_left
          · intro w hSw; (try dsimp only at hSw); go_simp; all_goals with_reducible rfl
          try simp only [Act.put, List.getElem_toArray, List.getElem_cons_zero, List.getElem_cons_succ, List.setIfInBounds_toArray, List.set_cons_zero, List.set_cons_succ]
          refine wpAnyH_take (i := 11) (oi := _) (v := ?_) rfl (by kernel_rfl) (by kernel_rfl) (by kernel_rfl) (fun _ _ _ h => h) (Or.inl ⟨by rfl, ?_⟩) (by assumption) ?_
          rotate_left
          · intro w hSw; (try dsimp only at hSw); go_simp; all_goals with_reducible rfl
          try simp only [Act.put, List.getElem_toArray, List.getElem_cons_zero, List.getElem_cons_succ, List.setIfInBounds_toArray, List.set_cons_zero, List.set_cons_succ]
          refine wpAnyH_take (i := 12) (oi := _) (v := ?_) rfl (by kernel_rfl) (by kernel_rfl) (by kernel_rfl) (fun _ _ _ h => h) (Or.inl ⟨by rfl, ?_⟩) (by assumption) ?_
          rotate_left
          · intro w hSw; (try dsimp only at hSw); go_simp; all_goals with_reducible rfl
          try simp only [Act.put, List.getElem_toArray, List.getElem_cons_zero, List.getElem_cons_succ, List.setIfInBounds_toArray, List.set_cons_zero, List.set_cons_succ]
          refine wpAnyH_take (i := 13) (oi := _) (v := ?_) rfl (by kernel_rfl) (by kernel_rfl) (by kernel_rfl) (fun _ _ _ h => h) (Or.inl ⟨by rfl, ?_⟩) (by assumption) ?_
          rotate_left
          · intro w hSw; (try dsimp only at hSw); go_simp; all_goals with_reducible rfl
          try simp only [Act.put, List.getElem_toArray, List.getElem_cons_zero, List.getElem_cons_succ, List.setIfInBounds_toArray, List.set_cons_zero, List.set_cons_succ]
          refine wpAnyH_take (i := 14) (oi := _) (v := undef) rfl (by kernel_rfl) (by kernel_rfl) (by kernel_rfl) (fun _ _ _ h => h) (Or.inr ⟨by rfl, rfl⟩) (by assumption) ?_
          try simp only [Act.put, List.getElem_toArray, List.getElem_cons_zero, List.getElem_cons_succ, List.setIfInBounds_toArray, List.set_cons_zero, List.set_cons_succ]
          refine wpAnyH_take (i := 15) (oi := _) (v := undef) rfl (by kernel_rfl) (by kernel_rfl) (by kernel_rfl) (fun _ _ _ h => h) (Or.inr ⟨by rfl, rfl⟩) (by assumption) ?_
          try simp only [Act.put, List.getElem_toArray, List.getElem_cons_zero, List.getElem_cons_succ, List.setIfInBounds_toArray, List.set_cons_zero, List.set_cons_succ]
          refine wpAnyH_take (i := 16) (oi := _) (v := undef) rfl (by kernel_rfl) (by kernel_rfl) (by kernel_rfl) (fun _ _ _ h => h) (Or.inr ⟨by rfl, rfl⟩) (by assumption) ?_
          try simp only [Act.put, List.getElem_toArray, List.getElem_cons_zero, List.getElem_cons_succ, List.setIfInBounds_toArray, List.set_cons_zero, List.set_cons_succ]
          refine wpAnyH_take (i := 17) (oi := _) (v := undef) rfl (by kernel_rfl) (by kernel_rfl) (by kernel_rfl) (fun _ _ _ h => h) (Or.inr ⟨by rfl, rfl⟩) (by assumption) ?_
          try simp only [Act.put, List.getElem_toArray, List.getElem_cons_zero, List.getElem_cons_succ, List.setIfInBounds_toArray, List.set_cons_zero, List.set_cons_succ]
          refine wpAnyH_take (i := 18) (oi := _) (v := undef) rfl (by kernel_rfl) (by kernel_rfl) (by kernel_rfl) (fun _ _ _ h => h) (Or.inr ⟨by rfl, rfl⟩) (by assumption) ?_
          try simp only [Act.put, List.getElem_toArray, List.getElem_cons_zero, List.getElem_cons_succ, List.setIfInBounds_toArray, List.set_cons_zero, List.set_cons_succ]
          refine wpAnyH_take (i := 19) (oi := _) (v := undef) rfl (by kernel_rfl) (by kernel_rfl) (by kernel_rfl) (fun _ _ _ h => h) (Or.inr ⟨by rfl, rfl⟩) (by assumption) ?_
          try simp only [Act.put, List.getElem_toArray, List.getElem_cons_zero, List.getElem_cons_succ, List.setIfInBounds_toArray, List.set_cons_zero, List.set_cons_succ]
          refine wpAnyH_take (i := 20) (oi := _) (v := undef) rfl (by kernel_rfl) (by kernel_rfl) (by kernel_rfl) (fun _ _ _ h => h) (Or.inr ⟨by rfl, rfl⟩) (by assumption) ?_
          try simp only [Act.put, List.getElem_toArray, List.getElem_cons_zero, List.getElem_cons_succ, List.setIfInBounds_toArray, List.set_cons_zero, List.set_cons_succ]
          refine wpAnyH_take (i := 21) (oi := _) (v := undef) rfl (by kernel_rfl) (by kernel_rfl) (by kernel_rfl) (fun _ _ _ h => h) (Or.inr ⟨by rfl, rfl⟩) (by assumption) ?_
          try simp only [Act.put, List.getElem_toArray, List.getElem_cons_zero, List.getElem_cons_succ, List.setIfInBounds_toArray, List.set_cons_zero, List.set_cons_succ]
          refine wpAnyH_take (i := 22) (oi := _) (v := undef) rfl (by kernel_rfl) (by kernel_rfl) (by kernel_rfl) (fun _ _ _ h => h) (Or.inr ⟨by rfl, rfl⟩) (by assumption) ?_
          try simp only [Act.put, List.getElem_toArray, List.getElem_cons_zero, List.getElem_cons_succ, List.setIfInBounds_toArray, List.set_cons_zero, List.set_cons_succ]
          refine wpAnyH_take (i := 23) (oi := _) (v := ?_) rfl (by kernel_rfl) (by kernel_rfl) (by kernel_rfl) (fun _ _ _ h => h) (Or.inl ⟨by rfl, ?_⟩) (by assumption) ?_
          rotate_left
          · intro w hSw; (try dsimp only at hSw); go_simp; all_goals with_reducible rfl
          try simp only [Act.put, List.getElem_toArray, List.getElem_cons_zero, List.getElem_cons_succ, List.setIfInBounds_toArray, List.set_cons_zero, List.set_cons_succ]
          refine wpAnyH_take (i := 24) (oi := _) (v := ?_) rfl (by kernel_rfl) (by kernel_rfl) (by kernel_rfl) (fun _ _ _ h => h) (Or.inl ⟨by rfl, ?_⟩) (by assumption) ?_
          rotate_left
          · intro w hSw; (try dsimp only at hSw); go_simp; all_goals with_reducible rfl
          try simp only [Act.put, List.getElem_toArray, List.getElem_cons_zero, List.getElem_cons_succ, List.setIfInBounds_toArray, List.set_cons_zero, List.set_cons_succ]
          refine wpAnyH_done (by kernel_rfl) ?_ _
          refine NoPanic.normal ?_
          obtain ⟨wz, hwz⟩ : ∃ wz : World, wz = x1 := ⟨_, rfl⟩
          have hbz : Below wr.heap.size wr wz := hwz ▸ (bel_eq12 HBx1.out rfl rfl rfl rfl)
          rw [← hwz]
          have HBZ := Lib.hid hbz
          clear hwz g2 g4
          obtain ⟨g2, g4, e0, e1, -⟩ := HBL.out _ hbz
          have how := HON.out wz hbz
          have HOW := Lib.hid how
          clear how hbz
          go_wp2_with (at_builtin; refine app_attr _ rfl (.tmp 42) (.tmp 48) rfl w0.heap.size u _ y rfl HOW.out HS3.out _ rfl rfl (by omega) (by have := HBZ.out.size; omega) ?_; intro v6 w6 ho6 hg6)
          go_roundw
          case rel =>
            refine ⟨k + 1, _, by go_num, rfl, by omega, by rw [keep_yes HD.out hkb]; exact ho6, ?_⟩
            exact (HBR.out.trans (HBZ.out.mono hsz)).grown hg6 (Nat.le_trans hsz HBZ.out.size) fun q hq => (World.ownsRow.lt HOW.out.1 q hq).1
          case measure => simp [intOf]; omega
        | true =>
          cases q2 with
          | true =>
            have hkb : keepB c true nm y = false := HKB.out
            go_wp2_with fail
            refine wp_region_noPanic ?_
            refine wp_region_held_drew (S := fun wx => (wx.cell? ⟨w.heap.size, 2, none⟩ = some (.string nm) ∧ wx.cell? ⟨w.heap.size, 4, none⟩ = some (.slice (some ⟨b, off, none⟩) ats.length cc) ∧ wx.cell? ⟨b, off + k * 2, none⟩ = some (.string y.name) ∧ wx.cell? ⟨b, off + k * 2 + 1, none⟩ = some (.string y.value) ∧ wx.cell? ⟨w.heap.size + 1, 0, none⟩ = some (.bool c.allow) ∧ wx.cell? ⟨w.heap.size + 1, 1, none⟩ = some (.bool c.attrsAllow) ∧ wx.cell? ⟨w.heap.size + 1, 2, none⟩ = some (vE) ∧ wx.cell? ⟨w.heap.size + 1, 3, none⟩ = some (vR) ∧ wx.cell? ⟨w.heap.size + 1, 4, none⟩ = some (vA) ∧ wx.cell? ⟨w.heap.size + 1, 5, none⟩ = some (vP) ∧ wx.cell? ⟨w.heap.size + 1, 6, none⟩ = some (.bool c.comments) ∧ wx.cell? ⟨w.heap.size + 1, 7, none⟩ = some (.bool c.dataAttrs))) (by kernel_rfl) ?_ (fun hHeld => ?_)
            · exact HBL.out _ (bel_eq12 (Below.refl _ wr) rfl rfl rfl rfl)
            refine wpAnyH_take (i := 0) (oi := _) (v := ?_) rfl (by kernel_rfl) (by kernel_rfl) (by kernel_rfl) (fun _ _ _ h => h) (Or.inl ⟨by rfl, ?_⟩) (by assumption) ?_
            rotate_left
            · intro w hSw; (try dsimp only at hSw); go_simp; all_goals with_reducible rfl
            try simp only [Act.put, List.getElem_toArray, List.getElem_cons_zero, List.getElem_cons_succ, List.setIfInBounds_toArray, List.set_cons_zero, List.set_cons_succ]
            refine wpAnyH_take (i := 1) (oi := _) (v := ?_) rfl (by kernel_rfl) (by kernel_rfl) (by kernel_rfl) (fun _ _ _ h => h) (Or.inl ⟨by rfl, ?_⟩) (by assumption) ?_
            rotate_left
            · intro w hSw; (try dsimp only at hSw); go_simp; all_goals with_reducible rfl
            try simp only [Act.put, List.getElem_toArray, List.getElem_cons_zero, List.getElem_cons_succ, List.setIfInBounds_toArray, List.set_cons_zero, List.set_cons_succ]
            refine wpAnyH_take (i := 2) (oi := _) (v := ?_) rfl (by kernel_rfl) (by kernel_rfl) (by kernel_rfl) (fun _ _ _ h => h) (Or.inl ⟨by rfl, ?_⟩) (by assumption) ?_
            rotate_left
            · intro w hSw; (try dsimp only at hSw); go_simp; all_goals with_reducible rfl
            try simp only [Act.put, List.getElem_toArray, List.getElem_cons_zero, List.getElem_cons_succ, List.setIfInBounds_toArray, List.set_cons_zero, List.set_cons_succ]
            refine wpAnyH_take (i := 3) (oi := _) (v := ?_) rfl (by kernel_rfl) (by kernel_rfl) (by kernel_rfl) (fun _ _ _ h => h) (Or.inl ⟨by rfl, ?_⟩) (by assumption) ?_
            rotate_left
            · intro w hSw; (try dsimp only at hSw); go_simp; all_goals with_reducible rfl
            try simp only [Act.put, List.getElem_toArray, List.getElem_cons_zero, List.getElem_cons_succ, List.setIfInBounds_toArray, List.set_cons_zero, List.set_cons_succ]
            refine wpAnyH_take (i := 4) (oi := _) (v := ?_) rfl (by kernel_rfl) (by kernel_rfl) (by kernel_rfl) (fun _ _ _ h => h) (Or.inl ⟨by rfl, ?_⟩) (by assumption) ?_
            rotate_left
            · intro w hSw; (try dsimp only at hSw); go_simp; all_goals with_reducible rfl
            try simp only [Act.put, List.getElem_toArray, List.getElem_cons_zero, List.getElem_cons_succ, List.setIfInBounds_toArray, List.set_cons_zero, List.set_cons_succ]
            refine wpAnyH_take (i := 5) (oi := _) (v := ?_) rfl (by kernel_rfl) (by kernel_rfl) (by kernel_rfl) (fun _ _ _ h => h) (Or.inl ⟨by rfl, ?_⟩) (by assumption) ?_
            rotate_left
            · intro w hSw; (try dsimp only at hSw); go_simp; all_goals with_reducible rfl
            try simp only [Act.put, List.getElem_toArray, List.getElem_cons_zero, List.getElem_cons_succ, List.setIfInBounds_toArray, List.set_cons_zero, List.set_cons_succ]
            refine wpAnyH_take (i := 6) (oi := _) (v := ?_) rfl (by kernel_rfl) (by kernel_rfl) (by kernel_rfl) (fun _ _ _ h => h) (Or.inl ⟨by rfl, ?_⟩) (by assumption) ?_
            rotate_left
            · intro w hSw; (try dsimp only at hSw); go_simp; all_goals with_reducible rfl
            try simp only [Act.put, List.getElem_toArray, List.getElem_cons_zero, List.getElem_cons_succ, List.setIfInBounds_toArray, List.set_cons_zero, List.set_cons_succ]
            refine wpAnyH_take (i := 7) (oi := _) (v := ?_) rfl (by kernel_rfl) (by kernel_rfl) (by kernel_rfl) (fun _ _ _ h => h) (Or.inl ⟨by rfl, ?_⟩) (by assumption) ?_
            rotate_left
            · intro w hSw; (try dsimp only at hSw); go_simp; all_goals with_reducible rfl
            try simp only [Act.put, List.getElem_toArray, List.getElem_cons_zero, List.getElem_cons_succ, List.setIfInBounds_toArray, List.set_cons_zero, List.set_cons_succ]
            refine wpAnyH_take (i := 8) (oi := _) (v := ?_) rfl (by kernel_rfl) (by kernel_rfl) (by kernel_rfl) (fun _ _ _ h => h) (Or.inl ⟨by rfl, ?_⟩) (by assumption) ?_
            rotate_left
            · intro w hSw; (try dsimp only at hSw); go_simp; all_goals with_reducible rfl
            try simp only [Act.put, List.getElem_toArray, List.getElem_cons_zero, List.getElem_cons_succ, List.setIfInBounds_toArray, List.set_cons_zero, List.set_cons_succ]
            refine wpAnyH_ready (rs := [9]) (by kernel_rfl) (by simp) ?_
            refine AllReadyH.cons (o := _) rfl (fun K hK => ?_) AllReadyH.nil
            go_simp
            go_at_call 32
            refine (HC1.out _ (by exact bel_eq12 (Below.refl _ wr) rfl rfl rfl rfl)).mono ?_
            rintro r x1 ⟨rfl, hbx⟩
            have HBx1 := Lib.hid hbx
            clear hbx
            go_wp2_with fail
            refine hK.out _ _ ?_ (fun hHeld => ?_)
            · exact HBL.out _ (bel_eq12 HBx1.out rfl rfl rfl rfl)
            clear hK K
            try simp only [Act.put, List.getElem_toArray, List.getElem_cons_zero, List.getElem_cons_succ, List.setIfInBounds_toArray, List.set_cons_zero, List.set_cons_succ]
            refine wpAnyH_take (i := 10) (oi := _) (v := ?_) rfl (by kernel_rfl) (by kernel_rfl) (by kernel_rfl) (fun _ _ _ h => h) (Or.inl ⟨by rfl, ?_⟩) (by assumption) ?_
            rotate_left
            · intro w hSw; (try dsimp only at hSw); go_simp; all_goals with_reducible rfl
            try simp only [Act.put, List.getElem_toArray, List.getElem_cons_zero, List.getElem_cons_succ, List.setIfInBounds_toArray, List.set_cons_zero, List.set_cons_succ]
            refine wpAnyH_take (i := 11) (oi := _) (v := ?_) rfl (by kernel_rfl) (by kernel_rfl) (by kernel_rfl) (fun _ _ _ h => h) (Or.inl ⟨by rfl, ?_⟩) (by assumption) ?_
            rotate_left
            · intro w hSw; (try dsimp only at hSw); go_simp; all_goals with_reducible rfl
            try simp only [Act.put, List.getElem_toArray, List.getElem_cons_zero, List.getElem_cons_succ, List.setIfInBounds_toArray, List.set_cons_zero, List.set_cons_succ]
            refine wpAnyH_take (i := 12) (oi := _) (v := ?_) rfl (by kernel_rfl) (by kernel_rfl) (by kernel_rfl) (fun _ _ _ h => h) (Or.inl ⟨by rfl, ?_⟩) (by assumption) ?_
            rotate_left
            · intro w hSw; (try dsimp only at hSw); go_simp; all_goals with_reducible rfl
            try simp only [Act.put, List.getElem_toArray, List.getElem_cons_zero, List.getElem_cons_succ, List.setIfInBounds_toArray, List.set_cons_zero, List.set_cons_succ]
            refine wpAnyH_take (i := 13) (oi := _) (v := ?_) rfl (by kernel_rfl) (by kernel_rfl) (by kernel_rfl) (fun _ _ _ h => h) (Or.inl ⟨by rfl, ?_⟩) (by assumption) ?_
            rotate_left
            · intro w hSw; (try dsimp only at hSw); go_simp; all_goals with_reducible rfl
            try simp only [Act.put, List.getElem_toArray, List.getElem_cons_zero, List.getElem_cons_succ, List.setIfInBounds_toArray, List.set_cons_zero, List.set_cons_succ]
            refine wpAnyH_take (i := 14) (oi := _) (v := ?_) rfl (by kernel_rfl) (by kernel_rfl) (by kernel_rfl) (fun _ _ _ h => h) (Or.inl ⟨by rfl, ?_⟩) (by assumption) ?_
            rotate_left
            · intro w hSw; (try dsimp only at hSw); go_simp; all_goals with_reducible rfl
            try simp only [Act.put, List.getElem_toArray, List.getElem_cons_zero, List.getElem_cons_succ, List.setIfInBounds_toArray, List.set_cons_zero, List.set_cons_succ]
            refine wpAnyH_take (i := 15) (oi := _) (v := ?_) rfl (by kernel_rfl) (by kernel_rfl) (by kernel_rfl) (fun _ _ _ h => h) (Or.inl ⟨by rfl, ?_⟩) (by assumption) ?_
            rotate_left
            · intro w hSw; (try dsimp only at hSw); go_simp; all_goals with_reducible rfl
            try simp only [Act.put, List.getElem_toArray, List.getElem_cons_zero, List.getElem_cons_succ, List.setIfInBounds_toArray, List.set_cons_zero, List.set_cons_succ]
            refine wpAnyH_take (i := 16) (oi := _) (v := ?_) rfl (by kernel_rfl) (by kernel_rfl) (by kernel_rfl) (fun _ _ _ h => h) (Or.inl ⟨by rfl, ?_⟩) (by assumption) ?_
            rotate_left
            · intro w hSw; (try dsimp only at hSw); go_simp; all_goals with_reducible rfl
            try simp only [Act.put, List.getElem_toArray, List.getElem_cons_zero, List.getElem_cons_succ, List.setIfInBounds_toArray, List.set_cons_zero, List.set_cons_succ]
            refine wpAnyH_take (i := 17) (oi := _) (v := ?_) rfl (by kernel_rfl) (by kernel_rfl) (by kernel_rfl) (fun _ _ _ h => h) (Or.inl ⟨by rfl, ?_⟩) (by assumption) ?_
            rotate_left
            · intro w hSw; (try dsimp only at hSw); go_simp; all_goals with_reducible rfl
            try simp only [Act.put, List.getElem_toArray, List.getElem_cons_zero, List.getElem_cons_succ, List.setIfInBounds_toArray, List.set_cons_zero, List.set_cons_succ]
            refine wpAnyH_take (i := 18) (oi := _) (v := ?_) rfl (by kernel_rfl) (by kernel_rfl) (by kernel_rfl) (fun _ _ _ h => h) (Or.inl ⟨by rfl, ?_⟩) (by assumption) ?_
            rotate_left
            · intro w hSw; (try dsimp only at hSw); go_simp; all_goals with_reducible rfl
            try simp only [Act.put, List.getElem_toArray, List.getElem_cons_zero, List.getElem_cons_succ, List.setIfInBounds_toArray, List.set_cons_zero, List.set_cons_succ]
            refine wpAnyH_take (i := 19) (oi := _) (v := ?_) rfl (by kernel_rfl) (by kernel_rfl) (by kernel_rfl) (fun _ _ _ h => h) (Or.inl ⟨by rfl, ?_⟩) (by assumption) ?_
            rotate_left
            · intro w hSw; (try dsimp only at hSw); go_simp; all_goals with_reducible rfl
            try simp only [Act.put, List.getElem_toArray, List.getElem_cons_zero, List.getElem_cons_succ, List.setIfInBounds_toArray, List.set_cons_zero, List.set_cons_succ]
            refine wpAnyH_take (i := 20) (oi := _) (v := ?_) rfl (by kernel_rfl) (by kernel_rfl) (by kernel_rfl) (fun _ _ _ h => h) (Or.inl ⟨by rfl, ?_⟩) (by assumption) ?_
            rotate_left
            · intro w hSw; (try dsimp only at hSw); go_simp; all_goals with_reducible rfl
            try simp only [Act.put, List.getElem_toArray, List.getElem_cons_zero, List.getElem_cons_succ, List.setIfInBounds_toArray, List.set_cons_zero, List.set_cons_succ]
            refine wpAnyH_ready (rs := [21]) (by kernel_rfl) (by simp) ?_
            refine AllReadyH.cons (o := _) rfl (fun K hK => ?_) AllReadyH.nil
            go_simp
            go_at_call 33
            refine (HC2.out _ (by exact bel_eq12 HBx1.out rfl rfl rfl rfl)).mono ?_
            rintro r x2 ⟨rfl, hbx⟩
            have HBx2 := Lib.hid hbx
            clear hbx
            go_wp2_with fail
            refine hK.out _ _ ?_ (fun hHeld => ?_)
            · exact HBL.out _ (bel_eq12 HBx2.out rfl rfl rfl rfl)
            clear hK K
            try simp only [Act.put, List.getElem_toArray, List.getElem_cons_zero, List.getElem_cons_succ, List.setIfInBounds_toArray, List.set_cons_zero, List.set_cons_succ]
            refine wpAnyH_take (i := 22) (oi := _) (v := ?_) rfl (by kernel_rfl) (by kernel_rfl) (by kernel_rfl) (fun _ _ _ h => h) (Or.inl ⟨by rfl, ?_⟩) (by assumption) ?_
            rotate_left
            · intro w hSw; (try dsimp only at hSw); go_simp; all_goals with_reducible rfl
            try simp only [Act.put, List.getElem_toArray, List.getElem_cons_zero, List.getElem_cons_succ, List.setIfInBounds_toArray, List.set_cons_zero, List.set_cons_succ]
            refine wpAnyH_take (i := 23) (oi := _) (v := ?_) rfl (by kernel_rfl) (by kernel_rfl) (by kernel_rfl) (fun _ _ _ h => h) (Or.inl ⟨by rfl, ?_⟩) (by assumption) ?_
            rotate_left
            · intro w hSw; (try dsimp only at hSw); go_simp; all_goals with_reducible rfl
            try simp only [Act.put, List.getElem_toArray, List.getElem_cons_zero, List.getElem_cons_succ, List.setIfInBounds_toArray, List.set_cons_zero, List.set_cons_succ]
            refine wpAnyH_take (i := 24) (oi := _) (v := ?_) rfl (by kernel_rfl) (by kernel_rfl) (by kernel_rfl) (fun _ _ _ h => h) (Or.inl ⟨by rfl, ?_⟩) (by assumption) ?_
            rotate_left
            · intro w hSw; (try dsimp only at hSw); go_simp; all_goals with_reducible rfl
            try simp only [Act.put, List.getElem_toArray, List.getElem_cons_zero, List.getElem_cons_succ, List.setIfInBounds_toArray, List.set_cons_zero, List.set_cons_succ]
            refine wpAnyH_done (by kernel_rfl) ?_ _
            refine NoPanic.normal ?_
            obtain ⟨wz, hwz⟩ : ∃ wz : World, wz = x2 := ⟨_, rfl⟩
            have hbz : Below wr.heap.size wr wz := hwz ▸ (bel_eq12 HBx2.out rfl rfl rfl rfl)
            rw [← hwz]
            clear hwz
            go_wp2
            go_roundw
            case rel => exact ⟨k + 1, _, by go_num, rfl, by omega, by rw [keep_no HD.out hkb]; exact HON.out _ hbz, HBR.out.trans (hbz.mono hsz)⟩
            case measure => simp [intOf]; omega
          | false =>
            have hkb : keepB c true nm y = true := HKB.out
            go_wp2_with fail
            refine wp_region_noPanic ?_
            refine wp_region_held_drew (S := fun wx => (wx.cell? ⟨w.heap.size, 2, none⟩ = some (.string nm) ∧ wx.cell? ⟨w.heap.size, 4, none⟩ = some (.slice (some ⟨b, off, none⟩) ats.length cc) ∧ wx.cell? ⟨b, off + k * 2, none⟩ = some (.string y.name) ∧ wx.cell? ⟨b, off + k * 2 + 1, none⟩ = some (.string y.value) ∧ wx.cell? ⟨w.heap.size + 1, 0, none⟩ = some (.bool c.allow) ∧ wx.cell? ⟨w.heap.size + 1, 1, none⟩ = some (.bool c.attrsAllow) ∧ wx.cell? ⟨w.heap.size + 1, 2, none⟩ = some (vE) ∧ wx.cell? ⟨w.heap.size + 1, 3, none⟩ = some (vR) ∧ wx.cell? ⟨w.heap.size + 1, 4, none⟩ = some (vA) ∧ wx.cell? ⟨w.heap.size + 1, 5, none⟩ = some (vP) ∧ wx.cell? ⟨w.heap.size + 1, 6, none⟩ = some (.bool c.comments) ∧ wx.cell? ⟨w.heap.size + 1, 7, none⟩ = some (.bool c.dataAttrs))) (by kernel_rfl) ?_ (fun hHeld => ?_)
            · exact HBL.out _ (bel_eq12 (Below.refl _ wr) rfl rfl rfl rfl)
            refine wpAnyH_take (i := 0) (oi := _) (v := ?_) rfl (by kernel_rfl) (by kernel_rfl) (by kernel_rfl) (fun _ _ _ h => h) (Or.inl ⟨by rfl, ?_⟩) (by assumption) ?_
            rotate_left
            · intro w hSw; (try dsimp only at hSw); go_simp; all_goals with_reducible rfl
            try simp only [Act.put, List.getElem_toArray, List.getElem_cons_zero, List.getElem_cons_succ, List.setIfInBounds_toArray, List.set_cons_zero, List.set_cons_succ]
            refine wpAnyH_take (i := 1) (oi := _) (v := ?_) rfl (by kernel_rfl) (by kernel_rfl) (by kernel_rfl) (fun _ _ _ h => h) (Or.inl ⟨by rfl, ?_⟩) (by assumption) ?_
            rotate_left
            · intro w hSw; (try dsimp only at hSw); go_simp; all_goals with_reducible rfl
            try simp only [Act.put, List.getElem_toArray, List.getElem_cons_zero, List.getElem_cons_succ, List.setIfInBounds_toArray, List.set_cons_zero, List.set_cons_succ]
            refine wpAnyH_take (i := 2) (oi := _) (v := ?_) rfl (by kernel_rfl) (by kernel_rfl) (by kernel_rfl) (fun _ _ _ h => h) (Or.inl ⟨by rfl, ?_⟩) (by assumption) ?_
            rotate_left
            · intro w hSw; (try dsimp only at hSw); go_simp; all_goals with_reducible rfl
            try simp only [Act.put, List.getElem_toArray, List.getElem_cons_zero, List.getElem_cons_succ, List.setIfInBounds_toArray, List.set_cons_zero, List.set_cons_succ]
            refine wpAnyH_take (i := 3) (oi := _) (v := ?_) rfl (by kernel_rfl) (by kernel_rfl) (by kernel_rfl) (fun _ _ _ h => h) (Or.inl ⟨by rfl, ?_⟩) (by assumption) ?_
            rotate_left
            · intro w hSw; (try dsimp only at hSw); go_simp; all_goals with_reducible rfl
            try simp only [Act.put, List.getElem_toArray, List.getElem_cons_zero, List.getElem_cons_succ, List.setIfInBounds_toArray, List.set_cons_zero, List.set_cons_succ]
            refine wpAnyH_take (i := 4) (oi := _) (v := ?_) rfl (by kernel_rfl) (by kernel_rfl) (by kernel_rfl) (fun _ _ _ h => h) (Or.inl ⟨by rfl, ?_⟩) (by assumption) ?_
            rotate_left
            · intro w hSw; (try dsimp only at hSw); go_simp; all_goals with_reducible rfl
            try simp only [Act.put, List.getElem_toArray, List.getElem_cons_zero, List.getElem_cons_succ, List.setIfInBounds_toArray, List.set_cons_zero, List.set_cons_succ]
            refine wpAnyH_take (i := 5) (oi := _) (v := ?_) rfl (by kernel_rfl) (by kernel_rfl) (by kernel_rfl) (fun _ _ _ h => h) (Or.inl ⟨by rfl, ?_⟩) (by assumption) ?_
            rotate_left
            · intro w hSw; (try dsimp only at hSw); go_simp; all_goals with_reducible rfl
            try simp only [Act.put, List.getElem_toArray, List.getElem_cons_zero, List.getElem_cons_succ, List.setIfInBounds_toArray, List.set_cons_zero, List.set_cons_succ]
            refine wpAnyH_take (i := 6) (oi := _) (v := ?_) rfl (by kernel_rfl) (by kernel_rfl) (by kernel_rfl) (fun _ _ _ h => h) (Or.inl ⟨by rfl, ?_⟩) (by assumption) ?_
            rotate_left
            · intro w hSw; (try dsimp only at hSw); go_simp; all_goals with_reducible rfl
            try simp only [Act.put, List.getElem_toArray, List.getElem_cons_zero, List.getElem_cons_succ, List.setIfInBounds_toArray, List.set_cons_zero, List.set_cons_succ]
            refine wpAnyH_take (i := 7) (oi := _) (v := ?_) rfl (by kernel_rfl) (by kernel_rfl) (by kernel_rfl) (fun _ _ _ h => h) (Or.inl ⟨by rfl, ?_⟩) (by assumption) ?_
            rotate_left
            · intro w hSw; (try dsimp only at hSw); go_simp; all_goals with_reducible rfl
            try simp only [Act.put, List.getElem_toArray, List.getElem_cons_zero, List.getElem_cons_succ, List.setIfInBounds_toArray, List.set_cons_zero, List.set_cons_succ]
            refine wpAnyH_take (i := 8) (oi := _) (v := ?_) rfl (by kernel_rfl) (by kernel_rfl) (by kernel_rfl) (fun _ _ _ h => h) (Or.inl ⟨by rfl, ?_⟩) (by assumption) ?_
            rotate_left
            · intro w hSw; (try dsimp only at hSw); go_simp; all_goals with_reducible rfl
            try simp only [Act.put, List.getElem_toArray, List.getElem_cons_zero, List.getElem_cons_succ, List.setIfInBounds_toArray, List.set_cons_zero, List.set_cons_succ]
            refine wpAnyH_ready (rs := [9]) (by kernel_rfl) (by simp) ?_
            refine AllReadyH.cons (o := _) rfl (fun K hK => ?_) AllReadyH.nil
            go_simp
            go_at_call 32
            refine (HC1.out _ (by exact bel_eq12 (Below.refl _ wr) rfl rfl rfl rfl)).mono ?_
            rintro r x1 ⟨rfl, hbx⟩
            have HBx1 := Lib.hid hbx
            clear hbx
            go_wp2_with fail
            refine hK.out _ _ ?_ (fun hHeld => ?_)
            · exact HBL.out _ (bel_eq12 HBx1.out rfl rfl rfl rfl)
            clear hK K
            try simp only [Act.put, List.getElem_toArray, List.getElem_cons_zero, List.getElem_cons_succ, List.setIfInBounds_toArray, List.set_cons_zero, List.set_cons_succ]
            refine wpAnyH_take (i := 10) (oi := _) (v := ?_) rfl (by kernel_rfl) (by kernel_rfl) (by kernel_rfl) (fun _ _ _ h => h) (Or.inl ⟨by rfl, ?_⟩) (by assumption) ?_
            rotate_left
            · intro w hSw; (try dsimp only at hSw); go_simp; all_goals with_reducible rfl
            try simp only [Act.put, List.getElem_toArray, List.getElem_cons_zero, List.getElem_cons_succ, List.setIfInBounds_toArray, List.set_cons_zero, List.set_cons_succ]
            refine wpAnyH_take (i := 11) (oi := _) (v := ?_) rfl (by kernel_rfl) (by kernel_rfl) (by kernel_rfl) (fun _ _ _ h => h) (Or.inl ⟨by rfl, ?_⟩) (by assumption) ?_
            rotate_left
            · intro w hSw; (try dsimp only at hSw); go_simp; all_goals with_reducible rfl
            try simp only [Act.put, List.getElem_toArray, List.getElem_cons_zero, List.getElem_cons_succ, List.setIfInBounds_toArray, List.set_cons_zero, List.set_cons_succ]
            refine wpAnyH_take (i := 12) (oi := _) (v := ?_) rfl (by kernel_rfl) (by kernel_rfl) (by kernel_rfl) (fun _ _ _ h => h) (Or.inl ⟨by rfl, ?_⟩) (by assumption) ?_
            rotate_left
            · intro w hSw; (try dsimp only at hSw); go_simp; all_goals with_reducible rfl
            try simp only [Act.put, List.getElem_toArray, List.getElem_cons_zero, List.getElem_cons_succ, List.setIfInBounds_toArray, List.set_cons_zero, List.set_cons_succ]
            refine wpAnyH_take (i := 13) (oi := _) (v := ?_) rfl (by kernel_rfl) (by kernel_rfl) (by kernel_rfl) (fun _ _ _ h => h) (Or.inl ⟨by rfl, ?_⟩) (by assumption) ?_
            rotate_left
            · intro w hSw; (try dsimp only at hSw); go_simp; all_goals with_reducible rfl
            try simp only [Act.put, List.getElem_toArray, List.getElem_cons_zero, List.getElem_cons_succ, List.setIfInBounds_toArray, List.set_cons_zero, List.set_cons_succ]
            refine wpAnyH_take (i := 14) (oi := _) (v := ?_) rfl (by kernel_rfl) (by kernel_rfl) (by kernel_rfl) (fun _ _ _ h => h) (Or.inl ⟨by rfl, ?_⟩) (by assumption) ?_
            rotate_left
            · intro w hSw; (try dsimp only at hSw); go_simp; all_goals with_reducible rfl
            try simp only [Act.put, List.getElem_toArray, List.getElem_cons_zero, List.getElem_cons_succ, List.setIfInBounds_toArray, List.set_cons_zero, List.set_cons_succ]
            refine wpAnyH_take (i := 15) (oi := _) (v := ?_) rfl (by kernel_rfl) (by kernel_rfl) (by kernel_rfl) (fun _ _ _ h => h) (Or.inl ⟨by rfl, ?_⟩) (by assumption) ?_
            rotate_left
            · intro w hSw; (try dsimp only at hSw); go_simp; all_goals with_reducible rfl
            try simp only [Act.put, List.getElem_toArray, List.getElem_cons_zero, List.getElem_cons_succ, List.setIfInBounds_toArray, List.set_cons_zero, List.set_cons_succ]
            refine wpAnyH_take (i := 16) (oi := _) (v := ?_) rfl (by kernel_rfl) (by kernel_rfl) (by kernel_rfl) (fun _ _ _ h => h) (Or.inl ⟨by rfl, ?_⟩) (by assumption) ?_
            rotate_left
            · intro w hSw; (try dsimp only at hSw); go_simp; all_goals with_reducible rfl
            try simp only [Act.put, List.getElem_toArray, List.getElem_cons_zero, List.getElem_cons_succ, List.setIfInBounds_toArray, List.set_cons_zero, List.set_cons_succ]
            refine wpAnyH_take (i := 17) (oi := _) (v := ?_) rfl (by kernel_rfl) (by kernel_rfl) (by kernel_rfl) (fun _ _ _ h => h) (Or.inl ⟨by rfl, ?_⟩) (by assumption) ?_
            rotate_left
            · intro w hSw; (try dsimp only at hSw); go_simp; all_goals with_reducible rfl
            try simp only [Act.put, List.getElem_toArray, List.getElem_cons_zero, List.getElem_cons_succ, List.setIfInBounds_toArray, List.set_cons_zero, List.set_cons_succ]
            refine wpAnyH_take (i := 18) (oi := _) (v := ?_) rfl (by kernel_rfl) (by kernel_rfl) (by kernel_rfl) (fun _ _ _ h => h) (Or.inl ⟨by rfl, ?_⟩) (by assumption) ?_
            rotate_left
            · intro w hSw; (try dsimp only at hSw); go_simp; all_goals with_reducible rfl
            try simp only [Act.put, List.getElem_toArray, List.getElem_cons_zero, List.getElem_cons_succ, List.setIfInBounds_toArray, List.set_cons_zero, List.set_cons_succ]
            refine wpAnyH_take (i := 19) (oi := _) (v := ?_) rfl (by kernel_rfl) (by kernel_rfl) (by kernel_rfl) (fun _ _ _ h => h) (Or.inl ⟨by rfl, ?_⟩) (by assumption) ?_
            rotate_left
            · intro w hSw; (try dsimp only at hSw); go_simp; all_goals with_reducible rfl
            try simp only [Act.put, List.getElem_toArray, List.getElem_cons_zero, List.getElem_cons_succ, List.setIfInBounds_toArray, List.set_cons_zero, List.set_cons_succ]
            refine wpAnyH_take (i := 20) (oi := _) (v := ?_) rfl (by kernel_rfl) (by kernel_rfl) (by kernel_rfl) (fun _ _ _ h => h) (Or.inl ⟨by rfl, ?_⟩) (by assumption) ?_
            rotate_left
            · intro w hSw; (try dsimp only at hSw); go_simp; all_goals with_reducible rfl
            try simp only [Act.put, List.getElem_toArray, List.getElem_cons_zero, List.getElem_cons_succ, List.setIfInBounds_toArray, List.set_cons_zero, List.set_cons_succ]
            refine wpAnyH_ready (rs := [21]) (by kernel_rfl) (by simp) ?_
            refine AllReadyH.cons (o := _) rfl (fun K hK => ?_) AllReadyH.nil
            go_simp
            go_at_call 33
            refine (HC2.out _ (by exact bel_eq12 HBx1.out rfl rfl rfl rfl)).mono ?_
            rintro r x2 ⟨rfl, hbx⟩
            have HBx2 := Lib.hid hbx
            clear hbx
            go_wp2_with fail
            refine hK.out _ _ ?_ (fun hHeld => ?_)
            · exact HBL.out _ (bel_eq12 HBx2.out rfl rfl rfl rfl)
            clear hK K
            try simp only [Act.put, List.getElem_toArray, List.getElem_cons_zero, List.getElem_cons_succ, List.setIfInBounds_toArray, List.set_cons_zero, List.set_cons_succ]
            refine wpAnyH_take (i := 22) (oi := _) (v := ?_) rfl (by kernel_rfl) (by kernel_rfl) (by kernel_rfl) (fun _ _ _ h => h) (Or.inl ⟨by rfl, ?_⟩) (by assumption) ?_
            rotate_left
            · intro w hSw; (try dsimp only at hSw); go_simp; all_goals with_reducible rfl
            try simp only [Act.put, List.getElem_toArray, List.getElem_cons_zero, List.getElem_cons_succ, List.setIfInBounds_toArray, List.set_cons_zero, List.set_cons_succ]
            refine wpAnyH_take (i := 23) (oi := _) (v := ?_) rfl (by kernel_rfl) (by kernel_rfl) (by kernel_rfl) (fun _ _ _ h => h) (Or.inl ⟨by rfl, ?_⟩) (by assumption) ?_
            rotate_left
            · intro w hSw; (try dsimp only at hSw); go_simp; all_goals with_reducible rfl
            try simp only [Act.put, List.getElem_toArray, List.getElem_cons_zero, List.getElem_cons_succ, List.setIfInBounds_toArray, List.set_cons_zero, List.set_cons_succ]
            refine wpAnyH_take (i := 24) (oi := _) (v := ?_) rfl (by kernel_rfl) (by kernel_rfl) (by kernel_rfl) (fun _ _ _ h => h) (Or.inl ⟨by rfl, ?_⟩) (by assumption) ?_
            rotate_left
            · intro w hSw; (try dsimp only at hSw); go_simp; all_goals with_reducible rfl
            try simp only [Act.put, List.getElem_toArray, List.getElem_cons_zero, List.getElem_cons_succ, List.setIfInBounds_toArray, List.set_cons_zero, List.set_cons_succ]
            refine wpAnyH_done (by kernel_rfl) ?_ _
            refine NoPanic.normal ?_
            obtain ⟨wz, hwz⟩ : ∃ wz : World, wz = x2 := ⟨_, rfl⟩
            have hbz : Below wr.heap.size wr wz := hwz ▸ (bel_eq12 HBx2.out rfl rfl rfl rfl)
            rw [← hwz]
            have HBZ := Lib.hid hbz
            clear hwz g2 g4
            obtain ⟨g2, g4, e0, e1, -⟩ := HBL.out _ hbz
            have how := HON.out wz hbz
            have HOW := Lib.hid how
            clear how hbz
            go_wp2_with (at_builtin; refine app_attr _ rfl (.tmp 42) (.tmp 48) rfl w0.heap.size u _ y rfl HOW.out HS3.out _ rfl rfl (by omega) (by have := HBZ.out.size; omega) ?_; intro v6 w6 ho6 hg6)
            go_roundw
            case rel =>
              refine ⟨k + 1, _, by go_num, rfl, by omega, by rw [keep_yes HD.out hkb]; exact ho6, ?_⟩
              exact (HBR.out.trans (HBZ.out.mono hsz)).grown hg6 (Nat.le_trans hsz HBZ.out.size) fun q hq => (World.ownsRow.lt HOW.out.1 q hq).1
            case measure => simp [intOf]; omega
    · have e : ats.take k = ats := List.take_of_length_le (by omega)
      rw [e] at ho
      have HO := Lib.hid ho; have HBL := Lib.hid hbel
      clear ho hbel
      go_wp2
      go_ret
      exact ⟨_, rfl, ⟨World.ownsRow.mono HO.out.1 hsz0, HO.out.2⟩, HB0.out.trans (HBL.out.mono hsz0)⟩

end Go.Proofs.Ytgjlfcamgkeibaa.Cn

namespace Go.Proofs.Ytgjlfcamgkeibaa.Cn
set_option maxRecDepth 100000
set_option linter.unusedVariables false
set_option linter.unusedSimpArgs false
open Go.RowKit Ba Ro
theorem od_grown {N : Nat} {w w' : World} {v v' : Value} {l m : List Cw} (h : Od N w v l) (hm : ∀ y ∈ m, Fr N w y) (ho : w'.ownsRow N 36 5 v' (l.length + m.length) (l.flatMap cells ++ m.flatMap cells)) (hg : w.grownBy w' v.ownBlock) : Od N w' v' (l ++ m) := by
  refine ⟨?_, fun x hx => ?_⟩
  · rw [List.length_append, List.flatMap_append]
    exact ho
  · rcases List.mem_append.1 hx with hx | hx
    · exact (h.2 x hx).grown h.1 hg
    · exact (hm x hx).grown h.1 hg
theorem rr_cells {w : World} {N : Nat} {ad : Addr} {m : List Cw} (hr : Rr w N (some ad) m) : ∀ j u, (m.flatMap cells)[j]? = some u → w.cell? (ad.add j) = some u := by
  intro j u hu
  have hj : j < (m.flatMap cells).length := (List.getElem?_eq_some_iff.1 hu).1
  rw [flat_len cells 5 len_cells] at hj
  obtain ⟨b, off, e, _, hc⟩ := hr.1 (by omega)
  injection e with e
  subst e
  rw [WideShapes.add_plain]
  have hq := hc (j / 5) (by omega) (j % 5) u (by rw [← flat_at cells 5 len_cells _ _ _ (by omega) (Nat.mod_lt _ (by decide)), show j / 5 * 5 + j % 5 = j from by omega]; exact hu)
  rw [show off + j / 5 * 5 + j % 5 = off + j from by omega] at hq
  exact hq
theorem rr_none {w : World} {N : Nat} {m : List Cw} (hr : Rr w N none m) : m = [] := by
  rcases Nat.eq_zero_or_pos m.length with h0 | h0
  · exact List.eq_nil_of_length_eq_zero h0
  · obtain ⟨b, off, e, _⟩ := hr.1 h0
    cases e
theorem all_one (m : List Cw) : ∀ u ∈ m.flatMap cells, u.oneCell' = true := fun u hu => by
  obtain ⟨y, _, hu⟩ := List.mem_flatMap.1 hu
  exact cells_one y u hu
theorem app_rowsD {ops : Array Oper} {rest : List Oper} {o : Oper} {a : Act} {Q : Exit → Act → World → Prop} (w : World) (hgd : o.guard = none) (s x : Operand)
    (ho : o.op = .call { callee := .builtin .append, args := #[s, x], argTypes := #[22, 22] })
    (N : Nat) (v : Value) (l m : List Cw) (B : Option Addr) (c : Nat) (hs : a.eval s = v) (hown : Od N w v l) (hx : a.eval x = .slice B m.length c) (hB : B = none → c = 0) (hr : Rr w w.heap.size B m) (hfr : ∀ y ∈ m, Fr N w y)
    (hl : l.length + m.length ≤ 2000000) (hN : N ≤ w.heap.size)
    (h : ∀ v' w', Od N w' v' (l ++ m) → w.grownBy w' v.ownBlock → wpList Try.prog ops Q rest (a.put o.dst v') w') :
    wpList Try.prog ops Q (o :: rest) a w := by
  obtain ⟨i0, hi, hz0, hz1, hz2⟩ := info_parts info_row
  cases B with
  | none =>
    have hm := rr_none hr
    subst hm
    rw [hB rfl] at hx
    refine wpList_append_own_none hgd s x 22 ho N 36 i0 5 Try.underlying22 hi v l.length (l.flatMap cells) hs hown.1 hx ?_
    exact h v w (by rw [List.append_nil]; exact hown) (World.grownBy.refl _ _)
  | some ad =>
    refine wpList_append_own _ hgd s x 22 ho N 36 i0 _ 5 72 Try.underlying22 hi hz0 hz1 hz2 rfl (by decide) v l.length (l.flatMap cells) hs hown.1 ad m.length c (m.flatMap cells) hx (flat_len cells 5 len_cells _) (rr_cells hr) (all_one m) (by unfold maxLen; omega) (by omega) hN ?_
    intro v' w' ho2 hg2 _
    exact h v' w' (od_grown hown hfr ho2 hg2) hg2
theorem step_app_rows {ops : Array Oper} {o : Oper} {a : Act} {K : Act → World → Prop} {Q : Exit → Act → World → Prop} {E : Prop} (W : World) (hgd : o.guard = none) (s x : Operand)
    (ho : o.op = .call { callee := .builtin .append, args := #[s, x], argTypes := #[22, 22] })
    (N : Nat) (v : Value) (l m : List Cw) (B : Option Addr) (c : Nat) (hown : Od N W v l) (hB : B = none → c = 0) (hr : Rr W W.heap.size B m) (hfr : ∀ y ∈ m, Fr N W y) (hN : N ≤ W.heap.size) (hl : l.length + m.length ≤ 2000000)
    (hs : a.eval s = v) (hx : a.eval x = .slice B m.length c)
    (h : ∀ v' w', Od N w' v' (l ++ m) → W.grownBy w' v.ownBlock → K (a.put o.dst v') w') :
    if Region.wanted o (yielded ops a.tmps) = true then Oper.wp Try.prog o a W K Q else E := by
  rw [if_pos (show Region.wanted o (yielded ops a.tmps) = true by simp [Region.wanted, hgd])]
  obtain ⟨i0, hi, hz0, hz1, hz2⟩ := info_parts info_row
  cases B with
  | none =>
    have hm := rr_none hr
    subst hm
    have hc0 := hB rfl
    subst hc0
    have hrun := run_append_owned_none (P := Try.prog) (w := W) N 22 o.type 36 i0 5 Try.underlying22 hi v l.length (l.flatMap cells) hown.1
    have hx' : a.eval x = .slice none 0 0 := hx
    have hk := h v W (by rw [List.append_nil]; exact hown) (World.grownBy.refl _ _)
    unfold Oper.wp
    simp [execOp, ho, resolve, invoke, builtin, hs, hx', hrun, Result.andThen]
    exact hk
  | some ad =>
    obtain ⟨v', w', hrun, h2, h3, _⟩ := run_append_own_at (P := Try.prog) W N 22 o.type 36 i0 _ 5 72 Try.underlying22 hi hz0 hz1 hz2 rfl (by decide) v l.length (l.flatMap cells) hown.1 ad m.length c (m.flatMap cells) (flat_len cells 5 len_cells _) (rr_cells hr) (all_one m) (by unfold maxLen; omega) (by omega) hN
    have hk := h v' w' (od_grown hown hfr h2 h3) h3
    unfold Oper.wp
    simp [execOp, ho, resolve, invoke, builtin, hs, hx, hrun, Result.andThen]
    exact hk
/-- Numbers of a call's own stay while other rows grow. -/
theorem nw_grown {N M : Nat} {w w' : World} {v u : Value} {l : List Cw} {xs : List Nat} (h : Nw M w u xs) (ho : Od N w v l) (hg : w.grownBy w' v.ownBlock) : Nw M w' u xs := by
  rcases h.2 with ⟨hv, hl⟩ | ⟨g, cap, cur, hv, hgM, hh, rest⟩
  · exact ⟨h.1, .inl ⟨hv, hl⟩⟩
  · refine ⟨h.1, .inr ⟨g, cap, cur, hv, hgM, ?_, rest⟩⟩
    rw [hg.block g (Array.getElem?_eq_some_iff.1 hh).1 ?_]
    · exact hh
    · rcases ho.1.2 with ⟨rfl, _⟩ | ⟨g2, cap2, cur2, rfl, _, hh2, _⟩
      · simp [Value.ownBlock]
      · intro e
        have e : g = g2 := by simpa [Value.ownBlock] using e
        subst e
        rw [hh] at hh2
        injection hh2 with hh2
        injection hh2 with _ ht
        exact absurd ht (by decide)

end Go.Proofs.Ytgjlfcamgkeibaa.Cn

namespace Go.Proofs.Ytgjlfcamgkeibaa.Cn
set_option linter.unusedSimpArgs false
set_option linter.unusedVariables false
open Ba Ro
theorem take_tw {p : Ro → Bool} (r : List Ro) : r.take (r.takeWhile p).length = r.takeWhile p := by
  have h := takeWhile_split p r
  have : r.take (r.takeWhile p).length = (r.takeWhile p ++ r.drop (r.takeWhile p).length).take (r.takeWhile p).length := congrArg _ h
  rw [this, List.take_left]
theorem below_wd {L : List Ro} (hr : right L = true) (hl : L.length ≤ 1000) {i : Int} (h1 : -1 ≤ i) (h2 : i < L.length) : Wd (dep L i + 1) (below L i) := by
  have hf := below_forest hr hl i h1 h2
  refine ⟨hf.1, ?_⟩
  obtain ⟨hs1, _⟩ := below_split (l := L) i h1
  have h0 : rightFrom 0 L = true := hr
  rw [← List.take_append_drop (i + 1).toNat L, right_append, Bool.and_eq_true, hs1, right_append, Bool.and_eq_true] at h0
  exact right_head h0.2.1 fun y hy => by rw [hf.2 y hy]; exact Int.le_refl _
/-- A kid of i. -/
theorem kid_step {L : List Ro} {i : Int} (h1 : -1 ≤ i) {m : Nat} {x : Ro} {r : List Ro} (hm : (below L i).drop m = x :: r) (hw : Wd (dep L i + 1) (x :: r)) :
    L.drop ((i + 1).toNat + m) = x :: L.drop ((i + 1).toNat + m + 1) ∧ dep L ((i + 1).toNat + m : Nat) = dep L i + 1 ∧ below L ((i + 1).toNat + m : Nat) = r.take (more (dep L i + 1) r) ∧ (below L i).drop (m + 1 + more (dep L i + 1) r) = r.drop (more (dep L i + 1) r) := by
  obtain ⟨hs1, hs2⟩ := below_split (l := L) i h1
  obtain ⟨hx, _, _, _, _, _⟩ := hw.parts
  have hml : m ≤ (below L i).length := by
    have := congrArg List.length hm
    rw [List.length_drop, List.length_cons] at this
    omega
  have hdk : L.drop ((i + 1).toNat + m) = x :: (r ++ L.drop (endOf L i)) := by
    rw [← List.drop_drop, hs1, List.drop_append_of_le_length hml, hm]
    rfl
  have hd1 : L.drop ((i + 1).toNat + m + 1) = r ++ L.drop (endOf L i) := by
    have := congrArg (List.drop 1) hdk
    rw [List.drop_drop] at this
    exact this
  have hdep : dep L ((i + 1).toNat + m : Nat) = dep L i + 1 := by rw [dep_at (getElem_of_drop hdk), hx]
  refine ⟨by rw [hdk, hd1], hdep, ?_, ?_⟩
  · unfold below more
    rw [hdep, show (((i + 1).toNat + m : Nat) + 1 : Int).toNat = (i + 1).toNat + m + 1 by omega, hd1, takeWhile_append_stop r _ fun y hy => by have := hs2 y hy; simp; omega, take_tw]
  · rw [← List.drop_drop, ← List.drop_drop, hm]
    rfl
theorem kids_next {L : List Ro} {i : Int} {ks : List Nat} {j m : Nat} {x : Ro} {r : List Ro} (hk : ks.drop j = kidsFrom (dep L i + 1) ((i + 1).toNat + m) ((below L i).drop m)) (hm : (below L i).drop m = x :: r) (hw : Wd (dep L i + 1) (x :: r)) :
    ks.drop j = ((i + 1).toNat + m) :: ks.drop (j + 1) ∧ ks.drop (j + 1) = kidsFrom (dep L i + 1) ((i + 1).toNat + (m + 1 + more (dep L i + 1) r)) (r.drop (more (dep L i + 1) r)) := by
  have hf : Forest (dep L i + 1) (x :: r) := ⟨hw.1, hw.head⟩
  rw [hm, kids_forest hf] at hk
  have h1 : ks.drop (j + 1) = kidsFrom (dep L i + 1) ((i + 1).toNat + (m + 1 + more (dep L i + 1) r)) (r.drop (more (dep L i + 1) r)) := by
    have := congrArg (List.drop 1) hk
    rw [List.drop_drop] at this
    rw [this]
    show kidsFrom _ _ _ = _
    congr 1
    omega
  exact ⟨by rw [hk, h1]; congr 2; omega, h1⟩
theorem kids_end {L : List Ro} {i : Int} {m p : Nat} (hw : Wd (dep L i + 1) ((below L i).drop m)) (hk : ([] : List Nat) = kidsFrom (dep L i + 1) p ((below L i).drop m)) : (below L i).drop m = [] := by
  cases h : (below L i).drop m with
  | nil => rfl
  | cons x r =>
    rw [h] at hk hw
    rw [kids_hit hw.parts.1] at hk
    cases hk

end Go.Proofs.Ytgjlfcamgkeibaa.Cn
