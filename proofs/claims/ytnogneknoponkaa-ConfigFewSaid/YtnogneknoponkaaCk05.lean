/-
  Stage 12: ConfigFew.
  Stage 12: ConfigTurn.
-/
import Derived.Test.YtnogneknoponkaaCk04
import Derived.Deep.CutRange
namespace Go.Proofs.Ytnogneknoponkaa.Co
set_option maxRecDepth 100000
set_option linter.unusedVariables false
set_option linter.unusedSimpArgs false
open Go.RowKit Ba Fm Fo Nm Rk
set_option maxRecDepth 100000 in
set_option maxHeartbeats 4000000 in
theorem law_few (v : Value) (e a : ByteArray) (c : Cf) (w : World) (he : e.size ≤ 140737488351232) (ha : a.size ≤ 140737488351232) (h : Cv w w.heap.size v c) (hst : St c) :
    Calls Try.prog 8 #[v, .string e, .string a] w fun r w' => r = .returned (.bool true) ∧ Below w.heap.size w w' := by
  obtain ⟨d, hd⟩ : ∃ d, boundC c = d := ⟨_, rfl⟩
  have hsm := sm_bound hst
  rw [hd] at hsm
  obtain ⟨uE, uR, uA, uP, lu, rfl, h⟩ := h
  obtain ⟨E0, e0, k0, rfl⟩ := sv_shape h.e
  obtain ⟨R0, r0, k1, rfl⟩ := sv_shape h.r
  obtain ⟨T0, t0, k2, rfl⟩ := sv_shape h.a
  obtain ⟨P0, p0, k3, rfl⟩ := pv_shape h.p
  have hbd := fun wx hc => bound12 (confV c (.slice E0 e0 k0) (.slice R0 r0 k1) (.slice T0 t0 k2) (.slice P0 p0 k3)) c wx hc
  rw [hd] at hbd
  have HB0 := Lib.hid (below_new12 w (confO c (.slice E0 e0 k0) (.slice R0 r0 k1) (.slice T0 t0 k2) (.slice P0 p0 k3)))
  have HBD := Lib.hid (hbd (w.alloc (confO c (.slice E0 e0 k0) (.slice R0 r0 k1) (.slice T0 t0 k2) (.slice P0 p0 k3))) ⟨_, _, _, _, _, rfl, h.on HB0.out⟩)
  have HX0 := Lib.hid (Hb.new w #[.bool c.allow, .bool c.attrsAllow, .slice E0 e0 k0, .slice R0 r0 k1, .slice T0 t0 k2, .slice P0 p0 k3, .bool c.comments, .bool c.dataAttrs])
  have HSM := Lib.hid hsm; have HD := Lib.hid hd
  clear hd hsm hst h hbd
  go_enter Try.func8, Try.ntmps8
  go_upto_region 2 with (first
    | (go_at_call 11; refine HBD.out.mono ?_; rintro r w1 ⟨v1, rfl, hc1, hb1⟩; obtain ⟨vE, vR, vA, vP, l, rfl, hc1⟩ := hc1; obtain ⟨A1, n1, c1, rfl⟩ := sv_shape hc1.e; obtain ⟨A2, n2, c2, rfl⟩ := sv_shape hc1.r; obtain ⟨A3, n3, c3, rfl⟩ := sv_shape hc1.a; obtain ⟨A4, n4, c4, rfl⟩ := pv_shape hc1.p; have hx1 := HX0.out.on hb1; have HTH := Lib.hid (hx1.there 8 rfl); have HX1 := Lib.hid hx1; have HC1 := Lib.hid hc1; have HB1 := Lib.hid hb1; clear hx1 hc1 hb1)
    | (show wpList _ _ _ (⟨none, Op.store 25 (.tmp 3) (.tmp 11), _, _, _, _⟩ :: _) _ _; refine wpList_store_mid rfl 25 (.tmp 3) (.tmp 11) rfl w.heap.size 0 #[.bool d.allow, .bool d.attrsAllow, .slice A1 n1 c1, .slice A2 n2 c2, .slice A3 n3 c3, .slice A4 n4 c4, .bool d.comments, .bool d.dataAttrs] rfl rfl HTH.out size_conf (by simp [Value.oneCell']) ?_))
  obtain ⟨W1, hW1, hg1, hh1⟩ := res_hb HX1.out rfl (.bool d.allow) (.bool d.attrsAllow) (.slice A1 n1 c1) (.slice A2 n2 c2) (.slice A3 n3 c3) (.slice A4 n4 c4) (.bool d.comments) (.bool d.dataAttrs)
  rw [← hW1]
  have hcW := cp_boxed HC1.out HX1.out (noStr8 _ _ _ _ _ _ _ _ _ _ _ _ _ _ _ _) hg1
  have hbW : Below w.heap.size w W1 := (HB0.out.trans (HB1.out.mono HB0.out.size)).grown hg1 (Nat.le_trans HB0.out.size HB1.out.size) (fun q hq => by injection hq with hq; omega)
  have hzW : w.heap.size < W1.heap.size := hh1.lt
  clear hW1 hg1 HTH HX1 HC1 HB1 HX0 HB0 HBD
  obtain ⟨a0, a1, a2, a3, a4, a5, a6, a7⟩ := (hh1.bx (c := d)).at_
  obtain ⟨q1, hq1⟩ : ∃ q, elementN d e = q := ⟨_, rfl⟩
  have hq2 : q1 ≤ 2 := hq1 ▸ el_few d e
  have HE1 := Lib.hid (element1 (confV d (.slice A1 n1 c1) (.slice A2 n2 c2) (.slice A3 n3 c3) (.slice A4 n4 c4)) d e W1 q1 ⟨_, _, _, _, _, rfl, hcW⟩ HSM.out hq1)
  go_upto_region 3 with (go_at_call 21; refine HE1.out.mono ?_; rintro r w2 ⟨rfl, hb2⟩)
  have hc2 := hcW.on hb2
  have hbw2 := hbW.trans (hb2.mono hbW.size)
  have hx2 := hh1.on hb2
  clear a0 a1 a2 a3 a4 a5 a6 a7 hh1 hcW hbW HE1 hb2
  obtain ⟨a0, a1, a2, a3, a4, a5, a6, a7⟩ := (hx2.bx (c := d)).at_
  go_upto_region 5 with (fail)
  obtain ⟨W3, hW3⟩ : ∃ W3, w2.alloc (.cells #[.bool d.allow, .bool d.attrsAllow, .slice none 0 0, .slice none 0 0, .slice none 0 0, .slice none 0 0, .bool false, .bool false] 25) = W3 := ⟨_, rfl⟩
  rw [hW3]
  have hb3 : Below w2.heap.size w2 W3 := hW3 ▸ below_new12 w2 _
  have hx3 := hx2.on hb3
  have hn3 : Hb W3 w2.heap.size #[.bool d.allow, .bool d.attrsAllow, .slice none 0 0, .slice none 0 0, .slice none 0 0, .slice none 0 0, .bool false, .bool false] := hW3 ▸ Hb.new w2 _
  have hc3 := hc2.on hb3
  have hbw3 := hbw2.trans (hb3.mono hbw2.size)
  clear hW3 hb3 hx2 hc2 hbw2 a0 a1 a2 a3 a4 a5 a6 a7
  have a0 : W3.cell? ⟨w.heap.size, 0, none⟩ = some (.bool d.allow) := hx3.cell 0 _ rfl
  rcases Bool.eq_false_or_eq_true d.allow with hal | hal
  · rw [hal] at a0
    have HAL := Lib.hid hal
    clear hal
    go_upto_region 7 with (fail)
    have hal := HAL.out
    have hne : elementN (noneC d) e = 1 := (none_el d e).trans (by rw [hal]; rfl)
    have cn := fun wx => (show Cv wx wx.heap.size (.agg #[.bool d.allow, .bool d.attrsAllow, .slice none 0 0, .slice none 0 0, .slice none 0 0, .slice none 0 0, .bool false, .bool false]) (noneC d) from ⟨_, _, _, _, [], rfl, sv_nil12 _ _, sv_nil12 _ _, sv_nil12 _ _, ⟨none, 0, rfl, Nat.le_refl _, fun _ => rfl, Pr.nil _ _ _⟩, rfl⟩)
    have sn : Sm (noneC d) := ⟨Nat.zero_le _, Nat.zero_le _, Nat.zero_le _, Nat.zero_le _, (fun p hp => by cases hp), (fun p hp => by cases hp), (fun p hp => by cases hp), (fun p hp => by cases hp), (fun p hp => by cases hp)⟩
    have H1 := Lib.hid (fun wx (hb : Below W3.heap.size W3 wx) => on_base (element1 (.agg #[.bool d.allow, .bool d.attrsAllow, .slice none 0 0, .slice none 0 0, .slice none 0 0, .slice none 0 0, .bool false, .bool false]) (noneC d) e wx 1 (cn wx) sn hne) hb)
    have H2 := Lib.hid (fun wx (hb : Below W3.heap.size W3 wx) => on_base (attr1 (.agg #[.bool d.allow, .bool d.attrsAllow, .slice none 0 0, .slice none 0 0, .slice none 0 0, .slice none 0 0, .bool false, .bool false]) (noneC d) e a wx (!d.attrsAllow) (cn wx) sn (by omega) (none_attr d e a)) hb)
    have H3 := Lib.hid (fun wx (hb : Below W3.heap.size W3 wx) => on_base (fixed12 wx) hb)
    have hl1 := hx3.lt; have hl2 := hn3.lt
    have HBL := Lib.hid (fun wx (hb : Below W3.heap.size W3 wx) => show wx.cell? ⟨w.heap.size, 0, none⟩ = some (.bool d.allow) ∧ wx.cell? ⟨w.heap.size, 1, none⟩ = some (.bool d.attrsAllow) ∧ wx.cell? ⟨w.heap.size, 2, none⟩ = some (.slice A1 n1 c1) ∧ wx.cell? ⟨w.heap.size, 3, none⟩ = some (.slice A2 n2 c2) ∧ wx.cell? ⟨w.heap.size, 4, none⟩ = some (.slice A3 n3 c3) ∧ wx.cell? ⟨w.heap.size, 5, none⟩ = some (.slice A4 n4 c4) ∧ wx.cell? ⟨w.heap.size, 6, none⟩ = some (.bool d.comments) ∧ wx.cell? ⟨w.heap.size, 7, none⟩ = some (.bool d.dataAttrs) ∧ wx.cell? ⟨w2.heap.size, 0, none⟩ = some (.bool d.allow) ∧ wx.cell? ⟨w2.heap.size, 1, none⟩ = some (.bool d.attrsAllow) ∧ wx.cell? ⟨w2.heap.size, 2, none⟩ = some (.slice none 0 0) ∧ wx.cell? ⟨w2.heap.size, 3, none⟩ = some (.slice none 0 0) ∧ wx.cell? ⟨w2.heap.size, 4, none⟩ = some (.slice none 0 0) ∧ wx.cell? ⟨w2.heap.size, 5, none⟩ = some (.slice none 0 0) ∧ wx.cell? ⟨w2.heap.size, 6, none⟩ = some (.bool false) ∧ wx.cell? ⟨w2.heap.size, 7, none⟩ = some (.bool false) from by
      obtain ⟨a0, a1, a2, a3, a4, a5, a6, a7⟩ := (hx3.bx (c := d)).below hb hl1 |>.at_
      obtain ⟨b0, b1, b2, b3, b4, b5, b6, b7⟩ := (Hb.bx (c := noneC d) hn3).below hb hl2 |>.at_
      exact ⟨a0, a1, a2, a3, a4, a5, a6, a7, b0, b1, b2, b3, b4, b5, b6, b7⟩)
    have HW := Lib.hid hbw3
    have hp0 : (0 : Int) ≤ (q1 : Int) := by omega
    have hp2 : (q1 : Int) ≤ 2 := by omega
    clear hal a0 hne cn sn hc3 hbw3 hx3 hn3 hq1 hq2 hl1 hl2
    go_region_held3 (fun wx => wx.cell? ⟨w.heap.size, 0, none⟩ = some (.bool d.allow) ∧ wx.cell? ⟨w.heap.size, 1, none⟩ = some (.bool d.attrsAllow) ∧ wx.cell? ⟨w.heap.size, 2, none⟩ = some (.slice A1 n1 c1) ∧ wx.cell? ⟨w.heap.size, 3, none⟩ = some (.slice A2 n2 c2) ∧ wx.cell? ⟨w.heap.size, 4, none⟩ = some (.slice A3 n3 c3) ∧ wx.cell? ⟨w.heap.size, 5, none⟩ = some (.slice A4 n4 c4) ∧ wx.cell? ⟨w.heap.size, 6, none⟩ = some (.bool d.comments) ∧ wx.cell? ⟨w.heap.size, 7, none⟩ = some (.bool d.dataAttrs) ∧ wx.cell? ⟨w2.heap.size, 0, none⟩ = some (.bool d.allow) ∧ wx.cell? ⟨w2.heap.size, 1, none⟩ = some (.bool d.attrsAllow) ∧ wx.cell? ⟨w2.heap.size, 2, none⟩ = some (.slice none 0 0) ∧ wx.cell? ⟨w2.heap.size, 3, none⟩ = some (.slice none 0 0) ∧ wx.cell? ⟨w2.heap.size, 4, none⟩ = some (.slice none 0 0) ∧ wx.cell? ⟨w2.heap.size, 5, none⟩ = some (.slice none 0 0) ∧ wx.cell? ⟨w2.heap.size, 6, none⟩ = some (.bool false) ∧ wx.cell? ⟨w2.heap.size, 7, none⟩ = some (.bool false)) (first
      | exact HBL.out _ (bel_eq12 (Below.refl _ W3) rfl rfl rfl rfl)
      | exact HBL.out _ (bel_eq12 HBx1.out rfl rfl rfl rfl)
      | exact HBL.out _ (bel_eq12 HBx2.out rfl rfl rfl rfl)
      | exact HBL.out _ (bel_eq12 HBx3.out rfl rfl rfl rfl)
      | go_keep) (first
      | (go_at_call 21; refine (H1.out _ (by exact bel_eq12 (Below.refl _ W3) rfl rfl rfl rfl)).mono ?_; rintro r x1 ⟨rfl, hbx⟩; have HBx1 := Lib.hid hbx; clear hbx)
      | (go_at_call 23; refine (H2.out _ (by exact bel_eq12 HBx1.out rfl rfl rfl rfl)).mono ?_; rintro r x2 ⟨rfl, hbx⟩; have HBx2 := Lib.hid hbx; clear hbx)
      | (go_at_call 20; refine (H3.out _ (by exact bel_eq12 HBx2.out rfl rfl rfl rfl)).mono ?_; rintro r x3 ⟨rfl, hbx⟩; have HBx3 := Lib.hid hbx; clear hbx))
    go_wp2
    go_ret
    exact ⟨rfl, HW.out.trans ((bel_eq12 HBx3.out rfl rfl rfl rfl).mono HW.out.size)⟩
  · rw [hal] at a0
    have HAL := Lib.hid hal
    clear hal
    go_upto_region 7 with (fail)
    have hal := HAL.out
    have hne : elementN (noneC d) e = 0 := (none_el d e).trans (by rw [hal]; rfl)
    have cn := fun wx => (show Cv wx wx.heap.size (.agg #[.bool d.allow, .bool d.attrsAllow, .slice none 0 0, .slice none 0 0, .slice none 0 0, .slice none 0 0, .bool false, .bool false]) (noneC d) from ⟨_, _, _, _, [], rfl, sv_nil12 _ _, sv_nil12 _ _, sv_nil12 _ _, ⟨none, 0, rfl, Nat.le_refl _, fun _ => rfl, Pr.nil _ _ _⟩, rfl⟩)
    have sn : Sm (noneC d) := ⟨Nat.zero_le _, Nat.zero_le _, Nat.zero_le _, Nat.zero_le _, (fun p hp => by cases hp), (fun p hp => by cases hp), (fun p hp => by cases hp), (fun p hp => by cases hp), (fun p hp => by cases hp)⟩
    have H1 := Lib.hid (fun wx (hb : Below W3.heap.size W3 wx) => on_base (element1 (.agg #[.bool d.allow, .bool d.attrsAllow, .slice none 0 0, .slice none 0 0, .slice none 0 0, .slice none 0 0, .bool false, .bool false]) (noneC d) e wx 0 (cn wx) sn hne) hb)
    have H2 := Lib.hid (fun wx (hb : Below W3.heap.size W3 wx) => on_base (attr1 (.agg #[.bool d.allow, .bool d.attrsAllow, .slice none 0 0, .slice none 0 0, .slice none 0 0, .slice none 0 0, .bool false, .bool false]) (noneC d) e a wx (!d.attrsAllow) (cn wx) sn (by omega) (none_attr d e a)) hb)
    have H3 := Lib.hid (fun wx (hb : Below W3.heap.size W3 wx) => on_base (fixed12 wx) hb)
    have hl1 := hx3.lt; have hl2 := hn3.lt
    have HBL := Lib.hid (fun wx (hb : Below W3.heap.size W3 wx) => show wx.cell? ⟨w.heap.size, 0, none⟩ = some (.bool d.allow) ∧ wx.cell? ⟨w.heap.size, 1, none⟩ = some (.bool d.attrsAllow) ∧ wx.cell? ⟨w.heap.size, 2, none⟩ = some (.slice A1 n1 c1) ∧ wx.cell? ⟨w.heap.size, 3, none⟩ = some (.slice A2 n2 c2) ∧ wx.cell? ⟨w.heap.size, 4, none⟩ = some (.slice A3 n3 c3) ∧ wx.cell? ⟨w.heap.size, 5, none⟩ = some (.slice A4 n4 c4) ∧ wx.cell? ⟨w.heap.size, 6, none⟩ = some (.bool d.comments) ∧ wx.cell? ⟨w.heap.size, 7, none⟩ = some (.bool d.dataAttrs) ∧ wx.cell? ⟨w2.heap.size, 0, none⟩ = some (.bool d.allow) ∧ wx.cell? ⟨w2.heap.size, 1, none⟩ = some (.bool d.attrsAllow) ∧ wx.cell? ⟨w2.heap.size, 2, none⟩ = some (.slice none 0 0) ∧ wx.cell? ⟨w2.heap.size, 3, none⟩ = some (.slice none 0 0) ∧ wx.cell? ⟨w2.heap.size, 4, none⟩ = some (.slice none 0 0) ∧ wx.cell? ⟨w2.heap.size, 5, none⟩ = some (.slice none 0 0) ∧ wx.cell? ⟨w2.heap.size, 6, none⟩ = some (.bool false) ∧ wx.cell? ⟨w2.heap.size, 7, none⟩ = some (.bool false) from by
      obtain ⟨a0, a1, a2, a3, a4, a5, a6, a7⟩ := (hx3.bx (c := d)).below hb hl1 |>.at_
      obtain ⟨b0, b1, b2, b3, b4, b5, b6, b7⟩ := (Hb.bx (c := noneC d) hn3).below hb hl2 |>.at_
      exact ⟨a0, a1, a2, a3, a4, a5, a6, a7, b0, b1, b2, b3, b4, b5, b6, b7⟩)
    have HW := Lib.hid hbw3
    have hp0 : (0 : Int) ≤ (q1 : Int) := by omega
    have hp2 : (q1 : Int) ≤ 2 := by omega
    clear hal a0 hne cn sn hc3 hbw3 hx3 hn3 hq1 hq2 hl1 hl2
    go_region_held3 (fun wx => wx.cell? ⟨w.heap.size, 0, none⟩ = some (.bool d.allow) ∧ wx.cell? ⟨w.heap.size, 1, none⟩ = some (.bool d.attrsAllow) ∧ wx.cell? ⟨w.heap.size, 2, none⟩ = some (.slice A1 n1 c1) ∧ wx.cell? ⟨w.heap.size, 3, none⟩ = some (.slice A2 n2 c2) ∧ wx.cell? ⟨w.heap.size, 4, none⟩ = some (.slice A3 n3 c3) ∧ wx.cell? ⟨w.heap.size, 5, none⟩ = some (.slice A4 n4 c4) ∧ wx.cell? ⟨w.heap.size, 6, none⟩ = some (.bool d.comments) ∧ wx.cell? ⟨w.heap.size, 7, none⟩ = some (.bool d.dataAttrs) ∧ wx.cell? ⟨w2.heap.size, 0, none⟩ = some (.bool d.allow) ∧ wx.cell? ⟨w2.heap.size, 1, none⟩ = some (.bool d.attrsAllow) ∧ wx.cell? ⟨w2.heap.size, 2, none⟩ = some (.slice none 0 0) ∧ wx.cell? ⟨w2.heap.size, 3, none⟩ = some (.slice none 0 0) ∧ wx.cell? ⟨w2.heap.size, 4, none⟩ = some (.slice none 0 0) ∧ wx.cell? ⟨w2.heap.size, 5, none⟩ = some (.slice none 0 0) ∧ wx.cell? ⟨w2.heap.size, 6, none⟩ = some (.bool false) ∧ wx.cell? ⟨w2.heap.size, 7, none⟩ = some (.bool false)) (first
      | exact HBL.out _ (bel_eq12 (Below.refl _ W3) rfl rfl rfl rfl)
      | exact HBL.out _ (bel_eq12 HBx1.out rfl rfl rfl rfl)
      | exact HBL.out _ (bel_eq12 HBx2.out rfl rfl rfl rfl)
      | exact HBL.out _ (bel_eq12 HBx3.out rfl rfl rfl rfl)
      | go_keep) (first
      | (go_at_call 21; refine (H1.out _ (by exact bel_eq12 (Below.refl _ W3) rfl rfl rfl rfl)).mono ?_; rintro r x1 ⟨rfl, hbx⟩; have HBx1 := Lib.hid hbx; clear hbx)
      | (go_at_call 23; refine (H2.out _ (by exact bel_eq12 HBx1.out rfl rfl rfl rfl)).mono ?_; rintro r x2 ⟨rfl, hbx⟩; have HBx2 := Lib.hid hbx; clear hbx)
      | (go_at_call 20; refine (H3.out _ (by exact bel_eq12 HBx2.out rfl rfl rfl rfl)).mono ?_; rintro r x3 ⟨rfl, hbx⟩; have HBx3 := Lib.hid hbx; clear hbx))
    go_wp2
    go_ret
    exact ⟨rfl, HW.out.trans ((bel_eq12 HBx3.out rfl rfl rfl rfl).mono HW.out.size)⟩

end Go.Proofs.Ytnogneknoponkaa.Co

namespace Go.Proofs.Ytnogneknoponkaa.Co
set_option maxRecDepth 100000
set_option linter.unusedVariables false
set_option linter.unusedSimpArgs false
open Go.RowKit Ba Fm Fo Nm Rk
set_option maxRecDepth 100000 in
set_option maxHeartbeats 4000000 in
theorem law_turn (v : Value) (e a : ByteArray) (c : Cf) (w : World) (he : e.size ≤ 140737488351232) (ha : a.size ≤ 140737488351232) (h : Cv w w.heap.size v c) (hst : St c) :
    Calls Try.prog 10 #[v, .string e, .string a] w fun r w' => r = .returned (.bool true) ∧ Below w.heap.size w w' := by
  obtain ⟨d, hd⟩ : ∃ d, boundC c = d := ⟨_, rfl⟩
  have hsm := sm_bound hst
  rw [hd] at hsm
  obtain ⟨uE, uR, uA, uP, lu, rfl, h⟩ := h
  obtain ⟨E0, e0, k0, rfl⟩ := sv_shape h.e
  obtain ⟨R0, r0, k1, rfl⟩ := sv_shape h.r
  obtain ⟨T0, t0, k2, rfl⟩ := sv_shape h.a
  obtain ⟨P0, p0, k3, rfl⟩ := pv_shape h.p
  have hbd := fun wx hc => bound12 (confV c (.slice E0 e0 k0) (.slice R0 r0 k1) (.slice T0 t0 k2) (.slice P0 p0 k3)) c wx hc
  rw [hd] at hbd
  have HB0 := Lib.hid (below_new12 w (confO c (.slice E0 e0 k0) (.slice R0 r0 k1) (.slice T0 t0 k2) (.slice P0 p0 k3)))
  have HBD := Lib.hid (hbd (w.alloc (confO c (.slice E0 e0 k0) (.slice R0 r0 k1) (.slice T0 t0 k2) (.slice P0 p0 k3))) ⟨_, _, _, _, _, rfl, h.on HB0.out⟩)
  have HX0 := Lib.hid (Hb.new w #[.bool c.allow, .bool c.attrsAllow, .slice E0 e0 k0, .slice R0 r0 k1, .slice T0 t0 k2, .slice P0 p0 k3, .bool c.comments, .bool c.dataAttrs])
  have HSM := Lib.hid hsm; have HD := Lib.hid hd
  clear hd hsm hst h hbd
  go_enter Try.func10, Try.ntmps10
  go_upto_region 2 with (first
    | (go_at_call 11; refine HBD.out.mono ?_; rintro r w1 ⟨v1, rfl, hc1, hb1⟩; obtain ⟨vE, vR, vA, vP, l, rfl, hc1⟩ := hc1; obtain ⟨A1, n1, c1, rfl⟩ := sv_shape hc1.e; obtain ⟨A2, n2, c2, rfl⟩ := sv_shape hc1.r; obtain ⟨A3, n3, c3, rfl⟩ := sv_shape hc1.a; obtain ⟨A4, n4, c4, rfl⟩ := pv_shape hc1.p; have hx1 := HX0.out.on hb1; have HTH := Lib.hid (hx1.there 8 rfl); have HX1 := Lib.hid hx1; have HC1 := Lib.hid hc1; have HB1 := Lib.hid hb1; clear hx1 hc1 hb1)
    | (show wpList _ _ _ (⟨none, Op.store 25 (.tmp 3) (.tmp 11), _, _, _, _⟩ :: _) _ _; refine wpList_store_mid rfl 25 (.tmp 3) (.tmp 11) rfl w.heap.size 0 #[.bool d.allow, .bool d.attrsAllow, .slice A1 n1 c1, .slice A2 n2 c2, .slice A3 n3 c3, .slice A4 n4 c4, .bool d.comments, .bool d.dataAttrs] rfl rfl HTH.out size_conf (by simp [Value.oneCell']) ?_))
  obtain ⟨W1, hW1, hg1, hh1⟩ := res_hb HX1.out rfl (.bool d.allow) (.bool d.attrsAllow) (.slice A1 n1 c1) (.slice A2 n2 c2) (.slice A3 n3 c3) (.slice A4 n4 c4) (.bool d.comments) (.bool d.dataAttrs)
  rw [← hW1]
  have hcW := cp_boxed HC1.out HX1.out (noStr8 _ _ _ _ _ _ _ _ _ _ _ _ _ _ _ _) hg1
  have hbW : Below w.heap.size w W1 := (HB0.out.trans (HB1.out.mono HB0.out.size)).grown hg1 (Nat.le_trans HB0.out.size HB1.out.size) (fun q hq => by injection hq with hq; omega)
  have hzW : w.heap.size < W1.heap.size := hh1.lt
  clear hW1 hg1 HTH HX1 HC1 HB1 HX0 HB0 HBD
  have a7 := hh1.cell 7 _ rfl
  have f7 := hh1.f 7
  go_upto_region 3 with (fail)
  obtain ⟨W2, hW2⟩ : ∃ W2, W1.setCell ⟨w.heap.size, 7, none⟩ (.bool false) = W2 := ⟨_, rfl⟩
  rw [hW2]
  have hg2 : W1.grownBy W2 (some w.heap.size) := hW2 ▸ gcell12 W1 _ 7 _
  have hh2 : Hb W2 w.heap.size #[.bool d.allow, .bool d.attrsAllow, .slice A1 n1 c1, .slice A2 n2 c2, .slice A3 n3 c3, .slice A4 n4 c4, .bool d.comments, .bool false] := hW2 ▸ hh1.set 7 (.bool false)
  have hc2 := cp_boxed hcW hh1 (noStr8 _ _ _ _ _ _ _ _ _ _ _ _ _ _ _ _) hg2
  have hbw2 := hbW.grown hg2 hbW.size (fun q hq => by injection hq with hq; omega)
  clear hW2 hg2 hh1 hcW hbW hzW a7 f7
  obtain ⟨a0, a1, a2, a3, a4, a5, a6, a7⟩ := (Hb.bx (c := { d with dataAttrs := false }) hh2).at_
  go_upto_region 4 with (fail)
  clear a0 a1 a2 a3 a4 a5 a6 a7
  obtain ⟨W3, hW3⟩ : ∃ W3, W2.alloc (.cells #[.bool d.allow, .bool d.attrsAllow, .slice A1 n1 c1, .slice A2 n2 c2, .slice A3 n3 c3, .slice A4 n4 c4, .bool d.comments, .bool false] 25) = W3 := ⟨_, rfl⟩
  rw [hW3]
  have hb3 : Below W2.heap.size W2 W3 := hW3 ▸ below_new12 W2 _
  have hx3 := hh2.on hb3
  have hn3 : Hb W3 W2.heap.size #[.bool d.allow, .bool d.attrsAllow, .slice A1 n1 c1, .slice A2 n2 c2, .slice A3 n3 c3, .slice A4 n4 c4, .bool d.comments, .bool false] := hW3 ▸ Hb.new W2 _
  have hc3 := hc2.on hb3
  have hbw3 := hbw2.trans (hb3.mono hbw2.size)
  have hne : w.heap.size ≠ W2.heap.size := by have := hh2.lt; omega
  have hle : w.heap.size ≤ W2.heap.size := hbw2.size
  clear hW3 hb3 hh2 hc2 hbw2
  generalize W2.heap.size = g7 at *
  have a0 := hx3.cell 0 _ rfl
  have b0 := hn3.cell 0 _ rfl
  have f0 := hn3.f 0
  go_upto_region 5 with (fail)
  clear a0 b0 f0
  obtain ⟨W4, hW4⟩ : ∃ W4, W3.setCell ⟨g7, 0, none⟩ (.bool (!d.allow)) = W4 := ⟨_, rfl⟩
  rw [hW4]
  have hg4 : W3.grownBy W4 (some g7) := hW4 ▸ gcell12 W3 _ 0 _
  have hx4 := hx3.keep (hg4.block _ hx3.lt (by simpa using hne))
  have hn4 : Hb W4 g7 #[.bool (!d.allow), .bool d.attrsAllow, .slice A1 n1 c1, .slice A2 n2 c2, .slice A3 n3 c3, .slice A4 n4 c4, .bool d.comments, .bool false] := hW4 ▸ hn3.set 0 (.bool (!d.allow))
  have hc4 := cp_boxed hc3 hn3 (noStr8 _ _ _ _ _ _ _ _ _ _ _ _ _ _ _ _) hg4
  have hbw4 := hbw3.grown hg4 hbw3.size (fun q hq => by injection hq with hq; omega)
  clear hW4 hg4 hx3 hn3 hc3 hbw3
  have a1 := hx4.cell 1 _ rfl
  have b1 := hn4.cell 1 _ rfl
  have f1 := hn4.f 1
  go_upto_region 6 with (fail)
  clear a1 b1 f1
  obtain ⟨W5, hW5⟩ : ∃ W5, W4.setCell ⟨g7, 1, none⟩ (.bool (!d.attrsAllow)) = W5 := ⟨_, rfl⟩
  rw [hW5]
  have hg5 : W4.grownBy W5 (some g7) := hW5 ▸ gcell12 W4 _ 1 _
  have hx3 := hx4.keep (hg5.block _ hx4.lt (by simpa using hne))
  have hn3 : Hb W5 g7 #[.bool (!d.allow), .bool (!d.attrsAllow), .slice A1 n1 c1, .slice A2 n2 c2, .slice A3 n3 c3, .slice A4 n4 c4, .bool d.comments, .bool false] := hW5 ▸ hn4.set 1 (.bool (!d.attrsAllow))
  have hc3 := cp_boxed hc4 hn4 (noStr8 _ _ _ _ _ _ _ _ _ _ _ _ _ _ _ _) hg5
  have hbw3 := hbw4.grown hg5 hbw4.size (fun q hq => by injection hq with hq; omega)
  have hl1 := hx3.lt; have hl2 := hn3.lt
  clear hW5 hg5 hx4 hn4 hc4 hbw4 hne hle
  obtain ⟨q1, hq1⟩ : ∃ q, elementN { d with dataAttrs := false } e = q := ⟨_, rfl⟩
  obtain ⟨q3, hq3⟩ : ∃ q, elementN (turnC { d with dataAttrs := false }) e = q := ⟨_, rfl⟩
  obtain ⟨q2, hq2⟩ : ∃ q, attrB12 { d with dataAttrs := false } e a = q := ⟨_, rfl⟩
  have hq4 : attrB12 (turnC { d with dataAttrs := false }) e a = !q2 := hq2 ▸ turn_attr { d with dataAttrs := false } e a rfl
  have ht := turn_el { d with dataAttrs := false } e
  rw [hq1, hq3] at ht
  have s2 : Sm { d with dataAttrs := false } := ⟨HSM.out.e, HSM.out.r, HSM.out.a, HSM.out.p, HSM.out.pa, HSM.out.es, HSM.out.rs, HSM.out.as_, HSM.out.ps⟩
  have s3 : Sm (turnC { d with dataAttrs := false }) := ⟨HSM.out.e, HSM.out.r, HSM.out.a, HSM.out.p, HSM.out.pa, HSM.out.es, HSM.out.rs, HSM.out.as_, HSM.out.ps⟩
  have cvA := fun wx (hb : Below W5.heap.size W5 wx) => (show Cv wx wx.heap.size (.agg #[.bool d.allow, .bool d.attrsAllow, .slice A1 n1 c1, .slice A2 n2 c2, .slice A3 n3 c3, .slice A4 n4 c4, .bool d.comments, .bool false]) { d with dataAttrs := false } from ⟨_, _, _, _, l, rfl, have h := hc3.on hb; ⟨h.e, h.r, h.a, h.p, h.m⟩⟩)
  have cvB := fun wx (hb : Below W5.heap.size W5 wx) => (show Cv wx wx.heap.size (.agg #[.bool (!d.allow), .bool (!d.attrsAllow), .slice A1 n1 c1, .slice A2 n2 c2, .slice A3 n3 c3, .slice A4 n4 c4, .bool d.comments, .bool false]) (turnC { d with dataAttrs := false }) from ⟨_, _, _, _, l, rfl, have h := hc3.on hb; ⟨h.e, h.r, h.a, h.p, h.m⟩⟩)
  have H1 := Lib.hid (fun wx (hb : Below W5.heap.size W5 wx) => on_base (element1 (.agg #[.bool d.allow, .bool d.attrsAllow, .slice A1 n1 c1, .slice A2 n2 c2, .slice A3 n3 c3, .slice A4 n4 c4, .bool d.comments, .bool false]) _ e wx q1 (cvA wx hb) s2 hq1) hb)
  have H2 := Lib.hid (fun wx (hb : Below W5.heap.size W5 wx) => on_base (element1 (.agg #[.bool (!d.allow), .bool (!d.attrsAllow), .slice A1 n1 c1, .slice A2 n2 c2, .slice A3 n3 c3, .slice A4 n4 c4, .bool d.comments, .bool false]) _ e wx q3 (cvB wx hb) s3 hq3) hb)
  have H3 := Lib.hid (fun wx (hb : Below W5.heap.size W5 wx) => on_base (attr1 (.agg #[.bool d.allow, .bool d.attrsAllow, .slice A1 n1 c1, .slice A2 n2 c2, .slice A3 n3 c3, .slice A4 n4 c4, .bool d.comments, .bool false]) _ e a wx q2 (cvA wx hb) s2 (by omega) hq2) hb)
  have H4 := Lib.hid (fun wx (hb : Below W5.heap.size W5 wx) => on_base (attr1 (.agg #[.bool (!d.allow), .bool (!d.attrsAllow), .slice A1 n1 c1, .slice A2 n2 c2, .slice A3 n3 c3, .slice A4 n4 c4, .bool d.comments, .bool false]) _ e a wx (!q2) (cvB wx hb) s3 (by omega) hq4) hb)
  have H5 := Lib.hid (fun wx (hb : Below W5.heap.size W5 wx) => on_base (fixed12 wx) hb)
  have HBL := Lib.hid (fun wx (hb : Below W5.heap.size W5 wx) => show wx.cell? ⟨w.heap.size, 0, none⟩ = some (.bool d.allow) ∧ wx.cell? ⟨w.heap.size, 1, none⟩ = some (.bool d.attrsAllow) ∧ wx.cell? ⟨w.heap.size, 2, none⟩ = some (.slice A1 n1 c1) ∧ wx.cell? ⟨w.heap.size, 3, none⟩ = some (.slice A2 n2 c2) ∧ wx.cell? ⟨w.heap.size, 4, none⟩ = some (.slice A3 n3 c3) ∧ wx.cell? ⟨w.heap.size, 5, none⟩ = some (.slice A4 n4 c4) ∧ wx.cell? ⟨w.heap.size, 6, none⟩ = some (.bool d.comments) ∧ wx.cell? ⟨w.heap.size, 7, none⟩ = some (.bool false) ∧ wx.cell? ⟨g7, 0, none⟩ = some (.bool (!d.allow)) ∧ wx.cell? ⟨g7, 1, none⟩ = some (.bool (!d.attrsAllow)) ∧ wx.cell? ⟨g7, 2, none⟩ = some (.slice A1 n1 c1) ∧ wx.cell? ⟨g7, 3, none⟩ = some (.slice A2 n2 c2) ∧ wx.cell? ⟨g7, 4, none⟩ = some (.slice A3 n3 c3) ∧ wx.cell? ⟨g7, 5, none⟩ = some (.slice A4 n4 c4) ∧ wx.cell? ⟨g7, 6, none⟩ = some (.bool d.comments) ∧ wx.cell? ⟨g7, 7, none⟩ = some (.bool false) from by
    obtain ⟨a0, a1, a2, a3, a4, a5, a6, a7⟩ := (Hb.bx (c := { d with dataAttrs := false }) hx3).below hb hl1 |>.at_
    obtain ⟨b0, b1, b2, b3, b4, b5, b6, b7⟩ := (Hb.bx (c := turnC { d with dataAttrs := false }) hn3).below hb hl2 |>.at_
    exact ⟨a0, a1, a2, a3, a4, a5, a6, a7, b0, b1, b2, b3, b4, b5, b6, b7⟩)
  have HW := Lib.hid hbw3
  have HT := Lib.hid ht
  clear hq1 hq2 hq3 hq4 ht s2 s3 cvA cvB hc3 hbw3 hx3 hn3 hl1 hl2
  go_region_held3 (fun wx => wx.cell? ⟨w.heap.size, 0, none⟩ = some (.bool d.allow) ∧ wx.cell? ⟨w.heap.size, 1, none⟩ = some (.bool d.attrsAllow) ∧ wx.cell? ⟨w.heap.size, 2, none⟩ = some (.slice A1 n1 c1) ∧ wx.cell? ⟨w.heap.size, 3, none⟩ = some (.slice A2 n2 c2) ∧ wx.cell? ⟨w.heap.size, 4, none⟩ = some (.slice A3 n3 c3) ∧ wx.cell? ⟨w.heap.size, 5, none⟩ = some (.slice A4 n4 c4) ∧ wx.cell? ⟨w.heap.size, 6, none⟩ = some (.bool d.comments) ∧ wx.cell? ⟨w.heap.size, 7, none⟩ = some (.bool false) ∧ wx.cell? ⟨g7, 0, none⟩ = some (.bool (!d.allow)) ∧ wx.cell? ⟨g7, 1, none⟩ = some (.bool (!d.attrsAllow)) ∧ wx.cell? ⟨g7, 2, none⟩ = some (.slice A1 n1 c1) ∧ wx.cell? ⟨g7, 3, none⟩ = some (.slice A2 n2 c2) ∧ wx.cell? ⟨g7, 4, none⟩ = some (.slice A3 n3 c3) ∧ wx.cell? ⟨g7, 5, none⟩ = some (.slice A4 n4 c4) ∧ wx.cell? ⟨g7, 6, none⟩ = some (.bool d.comments) ∧ wx.cell? ⟨g7, 7, none⟩ = some (.bool false)) (first
    | exact HBL.out _ (bel_eq12 (Below.refl _ W5) rfl rfl rfl rfl)
    | exact HBL.out _ (bel_eq12 HBx1.out rfl rfl rfl rfl)
    | exact HBL.out _ (bel_eq12 HBx2.out rfl rfl rfl rfl)
    | go_keep) (first
    | (go_at_call 21; (with_reducible show Calls _ _ #[.agg #[.bool d.allow, .bool d.attrsAllow, .slice A1 n1 c1, .slice A2 n2 c2, .slice A3 n3 c3, .slice A4 n4 c4, .bool d.comments, .bool false], _] _ _); refine (H1.out _ (by exact bel_eq12 (Below.refl _ W5) rfl rfl rfl rfl)).mono ?_; rintro r x1 ⟨rfl, hbx⟩; have HBx1 := Lib.hid hbx; clear hbx)
    | (go_at_call 21; (with_reducible show Calls _ _ #[.agg #[.bool (!d.allow), .bool (!d.attrsAllow), .slice A1 n1 c1, .slice A2 n2 c2, .slice A3 n3 c3, .slice A4 n4 c4, .bool d.comments, .bool false], _] _ _); refine (H2.out _ (by exact bel_eq12 HBx1.out rfl rfl rfl rfl)).mono ?_; rintro r x2 ⟨rfl, hbx⟩; have HBx2 := Lib.hid hbx; clear hbx))
  rcases HT.out with ⟨rfl, rfl⟩ | ⟨rfl, rfl⟩ | ⟨rfl, rfl⟩
  · go_wp2_with (go_at_call 20; refine (H5.out _ (by exact bel_eq12 HBx2.out rfl rfl rfl rfl)).mono ?_; rintro r x3 ⟨rfl, hbx⟩; have HBx3 := Lib.hid hbx; clear hbx)
    go_ret
    exact ⟨rfl, HW.out.trans (HBx3.out.mono HW.out.size)⟩
  · cases q2 with
    | true =>
      go_upto_region 9 with (fail)
      go_region_held3 (fun wx => wx.cell? ⟨w.heap.size, 0, none⟩ = some (.bool d.allow) ∧ wx.cell? ⟨w.heap.size, 1, none⟩ = some (.bool d.attrsAllow) ∧ wx.cell? ⟨w.heap.size, 2, none⟩ = some (.slice A1 n1 c1) ∧ wx.cell? ⟨w.heap.size, 3, none⟩ = some (.slice A2 n2 c2) ∧ wx.cell? ⟨w.heap.size, 4, none⟩ = some (.slice A3 n3 c3) ∧ wx.cell? ⟨w.heap.size, 5, none⟩ = some (.slice A4 n4 c4) ∧ wx.cell? ⟨w.heap.size, 6, none⟩ = some (.bool d.comments) ∧ wx.cell? ⟨w.heap.size, 7, none⟩ = some (.bool false) ∧ wx.cell? ⟨g7, 0, none⟩ = some (.bool (!d.allow)) ∧ wx.cell? ⟨g7, 1, none⟩ = some (.bool (!d.attrsAllow)) ∧ wx.cell? ⟨g7, 2, none⟩ = some (.slice A1 n1 c1) ∧ wx.cell? ⟨g7, 3, none⟩ = some (.slice A2 n2 c2) ∧ wx.cell? ⟨g7, 4, none⟩ = some (.slice A3 n3 c3) ∧ wx.cell? ⟨g7, 5, none⟩ = some (.slice A4 n4 c4) ∧ wx.cell? ⟨g7, 6, none⟩ = some (.bool d.comments) ∧ wx.cell? ⟨g7, 7, none⟩ = some (.bool false)) (first
        | exact HBL.out _ (bel_eq12 HBx2.out rfl rfl rfl rfl)
        | exact HBL.out _ (bel_eq12 HBx3.out rfl rfl rfl rfl)
        | exact HBL.out _ (bel_eq12 HBx4.out rfl rfl rfl rfl)
        | exact HBL.out _ (bel_eq12 HBx5.out rfl rfl rfl rfl)
        | go_keep) (first
        | (go_at_call 23; (with_reducible show Calls _ _ #[.agg #[.bool d.allow, .bool d.attrsAllow, .slice A1 n1 c1, .slice A2 n2 c2, .slice A3 n3 c3, .slice A4 n4 c4, .bool d.comments, .bool false], _, _] _ _); refine (H3.out _ (by exact bel_eq12 HBx2.out rfl rfl rfl rfl)).mono ?_; rintro r x3 ⟨rfl, hbx⟩; have HBx3 := Lib.hid hbx; clear hbx)
        | (go_at_call 23; (with_reducible show Calls _ _ #[.agg #[.bool (!d.allow), .bool (!d.attrsAllow), .slice A1 n1 c1, .slice A2 n2 c2, .slice A3 n3 c3, .slice A4 n4 c4, .bool d.comments, .bool false], _, _] _ _); refine (H4.out _ (by exact bel_eq12 HBx3.out rfl rfl rfl rfl)).mono ?_; rintro r x4 ⟨rfl, hbx⟩; have HBx4 := Lib.hid hbx; clear hbx)
        | (go_at_call 20; refine (H5.out _ (by exact bel_eq12 HBx4.out rfl rfl rfl rfl)).mono ?_; rintro r x5 ⟨rfl, hbx⟩; have HBx5 := Lib.hid hbx; clear hbx))
      go_wp2
      go_ret
      exact ⟨rfl, HW.out.trans ((bel_eq12 HBx5.out rfl rfl rfl rfl).mono HW.out.size)⟩
    | false =>
      go_upto_region 9 with (fail)
      go_region_held3 (fun wx => wx.cell? ⟨w.heap.size, 0, none⟩ = some (.bool d.allow) ∧ wx.cell? ⟨w.heap.size, 1, none⟩ = some (.bool d.attrsAllow) ∧ wx.cell? ⟨w.heap.size, 2, none⟩ = some (.slice A1 n1 c1) ∧ wx.cell? ⟨w.heap.size, 3, none⟩ = some (.slice A2 n2 c2) ∧ wx.cell? ⟨w.heap.size, 4, none⟩ = some (.slice A3 n3 c3) ∧ wx.cell? ⟨w.heap.size, 5, none⟩ = some (.slice A4 n4 c4) ∧ wx.cell? ⟨w.heap.size, 6, none⟩ = some (.bool d.comments) ∧ wx.cell? ⟨w.heap.size, 7, none⟩ = some (.bool false) ∧ wx.cell? ⟨g7, 0, none⟩ = some (.bool (!d.allow)) ∧ wx.cell? ⟨g7, 1, none⟩ = some (.bool (!d.attrsAllow)) ∧ wx.cell? ⟨g7, 2, none⟩ = some (.slice A1 n1 c1) ∧ wx.cell? ⟨g7, 3, none⟩ = some (.slice A2 n2 c2) ∧ wx.cell? ⟨g7, 4, none⟩ = some (.slice A3 n3 c3) ∧ wx.cell? ⟨g7, 5, none⟩ = some (.slice A4 n4 c4) ∧ wx.cell? ⟨g7, 6, none⟩ = some (.bool d.comments) ∧ wx.cell? ⟨g7, 7, none⟩ = some (.bool false)) (first
        | exact HBL.out _ (bel_eq12 HBx2.out rfl rfl rfl rfl)
        | exact HBL.out _ (bel_eq12 HBx3.out rfl rfl rfl rfl)
        | exact HBL.out _ (bel_eq12 HBx4.out rfl rfl rfl rfl)
        | exact HBL.out _ (bel_eq12 HBx5.out rfl rfl rfl rfl)
        | go_keep) (first
        | (go_at_call 23; (with_reducible show Calls _ _ #[.agg #[.bool d.allow, .bool d.attrsAllow, .slice A1 n1 c1, .slice A2 n2 c2, .slice A3 n3 c3, .slice A4 n4 c4, .bool d.comments, .bool false], _, _] _ _); refine (H3.out _ (by exact bel_eq12 HBx2.out rfl rfl rfl rfl)).mono ?_; rintro r x3 ⟨rfl, hbx⟩; have HBx3 := Lib.hid hbx; clear hbx)
        | (go_at_call 23; (with_reducible show Calls _ _ #[.agg #[.bool (!d.allow), .bool (!d.attrsAllow), .slice A1 n1 c1, .slice A2 n2 c2, .slice A3 n3 c3, .slice A4 n4 c4, .bool d.comments, .bool false], _, _] _ _); refine (H4.out _ (by exact bel_eq12 HBx3.out rfl rfl rfl rfl)).mono ?_; rintro r x4 ⟨rfl, hbx⟩; have HBx4 := Lib.hid hbx; clear hbx)
        | (go_at_call 20; refine (H5.out _ (by exact bel_eq12 HBx4.out rfl rfl rfl rfl)).mono ?_; rintro r x5 ⟨rfl, hbx⟩; have HBx5 := Lib.hid hbx; clear hbx))
      go_wp2
      go_ret
      exact ⟨rfl, HW.out.trans ((bel_eq12 HBx5.out rfl rfl rfl rfl).mono HW.out.size)⟩
  · cases q2 with
    | true =>
      go_upto_region 9 with (fail)
      go_region_held3 (fun wx => wx.cell? ⟨w.heap.size, 0, none⟩ = some (.bool d.allow) ∧ wx.cell? ⟨w.heap.size, 1, none⟩ = some (.bool d.attrsAllow) ∧ wx.cell? ⟨w.heap.size, 2, none⟩ = some (.slice A1 n1 c1) ∧ wx.cell? ⟨w.heap.size, 3, none⟩ = some (.slice A2 n2 c2) ∧ wx.cell? ⟨w.heap.size, 4, none⟩ = some (.slice A3 n3 c3) ∧ wx.cell? ⟨w.heap.size, 5, none⟩ = some (.slice A4 n4 c4) ∧ wx.cell? ⟨w.heap.size, 6, none⟩ = some (.bool d.comments) ∧ wx.cell? ⟨w.heap.size, 7, none⟩ = some (.bool false) ∧ wx.cell? ⟨g7, 0, none⟩ = some (.bool (!d.allow)) ∧ wx.cell? ⟨g7, 1, none⟩ = some (.bool (!d.attrsAllow)) ∧ wx.cell? ⟨g7, 2, none⟩ = some (.slice A1 n1 c1) ∧ wx.cell? ⟨g7, 3, none⟩ = some (.slice A2 n2 c2) ∧ wx.cell? ⟨g7, 4, none⟩ = some (.slice A3 n3 c3) ∧ wx.cell? ⟨g7, 5, none⟩ = some (.slice A4 n4 c4) ∧ wx.cell? ⟨g7, 6, none⟩ = some (.bool d.comments) ∧ wx.cell? ⟨g7, 7, none⟩ = some (.bool false)) (first
        | exact HBL.out _ (bel_eq12 HBx2.out rfl rfl rfl rfl)
        | exact HBL.out _ (bel_eq12 HBx3.out rfl rfl rfl rfl)
        | exact HBL.out _ (bel_eq12 HBx4.out rfl rfl rfl rfl)
        | exact HBL.out _ (bel_eq12 HBx5.out rfl rfl rfl rfl)
        | go_keep) (first
        | (go_at_call 23; (with_reducible show Calls _ _ #[.agg #[.bool d.allow, .bool d.attrsAllow, .slice A1 n1 c1, .slice A2 n2 c2, .slice A3 n3 c3, .slice A4 n4 c4, .bool d.comments, .bool false], _, _] _ _); refine (H3.out _ (by exact bel_eq12 HBx2.out rfl rfl rfl rfl)).mono ?_; rintro r x3 ⟨rfl, hbx⟩; have HBx3 := Lib.hid hbx; clear hbx)
        | (go_at_call 23; (with_reducible show Calls _ _ #[.agg #[.bool (!d.allow), .bool (!d.attrsAllow), .slice A1 n1 c1, .slice A2 n2 c2, .slice A3 n3 c3, .slice A4 n4 c4, .bool d.comments, .bool false], _, _] _ _); refine (H4.out _ (by exact bel_eq12 HBx3.out rfl rfl rfl rfl)).mono ?_; rintro r x4 ⟨rfl, hbx⟩; have HBx4 := Lib.hid hbx; clear hbx)
        | (go_at_call 20; refine (H5.out _ (by exact bel_eq12 HBx4.out rfl rfl rfl rfl)).mono ?_; rintro r x5 ⟨rfl, hbx⟩; have HBx5 := Lib.hid hbx; clear hbx))
      go_wp2
      go_ret
      exact ⟨rfl, HW.out.trans ((bel_eq12 HBx5.out rfl rfl rfl rfl).mono HW.out.size)⟩
    | false =>
      go_upto_region 9 with (fail)
      go_region_held3 (fun wx => wx.cell? ⟨w.heap.size, 0, none⟩ = some (.bool d.allow) ∧ wx.cell? ⟨w.heap.size, 1, none⟩ = some (.bool d.attrsAllow) ∧ wx.cell? ⟨w.heap.size, 2, none⟩ = some (.slice A1 n1 c1) ∧ wx.cell? ⟨w.heap.size, 3, none⟩ = some (.slice A2 n2 c2) ∧ wx.cell? ⟨w.heap.size, 4, none⟩ = some (.slice A3 n3 c3) ∧ wx.cell? ⟨w.heap.size, 5, none⟩ = some (.slice A4 n4 c4) ∧ wx.cell? ⟨w.heap.size, 6, none⟩ = some (.bool d.comments) ∧ wx.cell? ⟨w.heap.size, 7, none⟩ = some (.bool false) ∧ wx.cell? ⟨g7, 0, none⟩ = some (.bool (!d.allow)) ∧ wx.cell? ⟨g7, 1, none⟩ = some (.bool (!d.attrsAllow)) ∧ wx.cell? ⟨g7, 2, none⟩ = some (.slice A1 n1 c1) ∧ wx.cell? ⟨g7, 3, none⟩ = some (.slice A2 n2 c2) ∧ wx.cell? ⟨g7, 4, none⟩ = some (.slice A3 n3 c3) ∧ wx.cell? ⟨g7, 5, none⟩ = some (.slice A4 n4 c4) ∧ wx.cell? ⟨g7, 6, none⟩ = some (.bool d.comments) ∧ wx.cell? ⟨g7, 7, none⟩ = some (.bool false)) (first
        | exact HBL.out _ (bel_eq12 HBx2.out rfl rfl rfl rfl)
        | exact HBL.out _ (bel_eq12 HBx3.out rfl rfl rfl rfl)
        | exact HBL.out _ (bel_eq12 HBx4.out rfl rfl rfl rfl)
        | exact HBL.out _ (bel_eq12 HBx5.out rfl rfl rfl rfl)
        | go_keep) (first
        | (go_at_call 23; (with_reducible show Calls _ _ #[.agg #[.bool d.allow, .bool d.attrsAllow, .slice A1 n1 c1, .slice A2 n2 c2, .slice A3 n3 c3, .slice A4 n4 c4, .bool d.comments, .bool false], _, _] _ _); refine (H3.out _ (by exact bel_eq12 HBx2.out rfl rfl rfl rfl)).mono ?_; rintro r x3 ⟨rfl, hbx⟩; have HBx3 := Lib.hid hbx; clear hbx)
        | (go_at_call 23; (with_reducible show Calls _ _ #[.agg #[.bool (!d.allow), .bool (!d.attrsAllow), .slice A1 n1 c1, .slice A2 n2 c2, .slice A3 n3 c3, .slice A4 n4 c4, .bool d.comments, .bool false], _, _] _ _); refine (H4.out _ (by exact bel_eq12 HBx3.out rfl rfl rfl rfl)).mono ?_; rintro r x4 ⟨rfl, hbx⟩; have HBx4 := Lib.hid hbx; clear hbx)
        | (go_at_call 20; refine (H5.out _ (by exact bel_eq12 HBx4.out rfl rfl rfl rfl)).mono ?_; rintro r x5 ⟨rfl, hbx⟩; have HBx5 := Lib.hid hbx; clear hbx))
      go_wp2
      go_ret
      exact ⟨rfl, HW.out.trans ((bel_eq12 HBx5.out rfl rfl rfl rfl).mono HW.out.size)⟩

end Go.Proofs.Ytnogneknoponkaa.Co
