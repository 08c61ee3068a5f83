/-
  Stage 12: ConfigCanon.
-/
import Derived.Test.YthiimnlilfcfeaaCk05
import Derived.Test.YthiimnlilfcfeaaCk04
import Derived.Deep.CutRange
namespace Go.Proofs.Ythiimnlilfcfeaa.Co
set_option maxRecDepth 100000
set_option linter.unusedVariables false
set_option linter.unusedSimpArgs false
open Go.RowKit Ba Fm Fo Nm Rk
theorem len_flat {α β : Type} (f : α → List β) (m : Nat) : ∀ (l : List α), (∀ x ∈ l, (f x).length ≤ m) → (l.flatMap f).length ≤ l.length * m
  | [], _ => by simp
  | x :: r, h => by
    have h1 := len_flat f m r fun y hy => h y (List.mem_cons_of_mem _ hy)
    have h2 := h x (List.mem_cons_self ..)
    rw [List.flatMap_cons, List.length_append, List.length_cons, Nat.succ_mul]
    omega
theorem len_canon {per : List Pe} (h : per.length ≤ 12) : (canonPer per).length ≤ 1000 := by
  have h1 : (srt lt (per.map Pe.el)).length ≤ 12 := Nat.le_trans (len_srt _ _) (by rw [List.length_map]; exact h)
  have h2 : (canonPer per).length ≤ (srt lt (per.map Pe.el)).length * 12 := len_flat _ 12 _ fun e _ => Nat.le_trans (List.length_filter_le _ _) (by rw [List.length_map]; exact h)
  have h3 := Nat.mul_le_mul_right 12 h1
  omega
theorem sm_canon {c : Cf} (h : Sm c) (hp : c.per.length ≤ 12) : Sm (canonC c) :=
  ⟨Nat.le_trans (len_srt _ _) h.e, Nat.le_trans (len_srt _ _) h.r, Nat.le_trans (len_srt _ _) h.a, len_canon hp, fun p hp => by
    obtain ⟨q, hq, _, rfl⟩ := mem_canon.1 hp
    exact Nat.le_trans (len_srt _ _) (h.pa q hq), fun s hs => h.es s (mem_srt.1 hs), fun s hs => h.rs s (mem_srt.1 hs), fun s hs => h.as_ s (mem_srt.1 hs), fun p hp => by
    obtain ⟨q, hq, _, rfl⟩ := mem_canon.1 hp
    exact ⟨(h.ps q hq).1, fun s hs => (h.ps q hq).2 s (mem_srt.1 hs)⟩⟩
theorem is1 (v : Value) (l : List ByteArray) (w : World) (h : Sv w w.heap.size v l) (hl : l.length ≤ 1000) (ha : Asc lt l) : Calls Try.prog 25 #[v] w fun e w' => e = .returned (.bool true) ∧ Below w.heap.size w w' := by
  obtain ⟨A, c, rfl, _, _, hr⟩ := h
  exact is_any A c l w hr (by omega) ha
set_option maxRecDepth 100000 in
set_option maxHeartbeats 4000000 in
theorem law_canon (v : Value) (e a : ByteArray) (c : Cf) (w : World) (he : e.size ≤ 140737488351232) (ha : a.size ≤ 140737488351232) (h : Cv w w.heap.size v c) (hst : St c) :
    Calls Try.prog 5 #[v, .string e, .string a] w fun r w' => r = .returned (.bool true) ∧ Below w.heap.size w w' := by
  obtain ⟨d, hd⟩ : ∃ d, boundC c = d := ⟨_, rfl⟩
  have hsm := sm_bound hst
  rw [hd] at hsm
  obtain ⟨uE, uR, uA, uP, lu, rfl, h⟩ := h
  obtain ⟨E0, e0, k0, rfl⟩ := sv_shape h.e
  obtain ⟨R0, r0, k1, rfl⟩ := sv_shape h.r
  obtain ⟨T0, t0, k2, rfl⟩ := sv_shape h.a
  obtain ⟨P0, p0, k3, rfl⟩ := pv_shape h.p
  have hbd := fun wx hc => bound12 (confV c (.slice E0 e0 k0) (.slice R0 r0 k1) (.slice T0 t0 k2) (.slice P0 p0 k3)) c wx hc
  rw [hd] at hbd
  have HB0 := Lib.hid (below_new12 w (confO c (.slice E0 e0 k0) (.slice R0 r0 k1) (.slice T0 t0 k2) (.slice P0 p0 k3)))
  have HBD := Lib.hid (hbd (w.alloc (confO c (.slice E0 e0 k0) (.slice R0 r0 k1) (.slice T0 t0 k2) (.slice P0 p0 k3))) ⟨_, _, _, _, _, rfl, h.on HB0.out⟩)
  have HX0 := Lib.hid (Hb.new w #[.bool c.allow, .bool c.attrsAllow, .slice E0 e0 k0, .slice R0 r0 k1, .slice T0 t0 k2, .slice P0 p0 k3, .bool c.comments, .bool c.dataAttrs])
  have HSM := Lib.hid hsm; have HD := Lib.hid hd
  clear hd hsm hst h hbd
  go_enter Try.func5, Try.ntmps5
  go_upto_region 2 with (first
    | (go_at_call 11; refine HBD.out.mono ?_; rintro r w1 ⟨v1, rfl, hc1, hb1⟩; obtain ⟨vE, vR, vA, vP, l, rfl, hc1⟩ := hc1; obtain ⟨A1, n1, c1, rfl⟩ := sv_shape hc1.e; obtain ⟨A2, n2, c2, rfl⟩ := sv_shape hc1.r; obtain ⟨A3, n3, c3, rfl⟩ := sv_shape hc1.a; obtain ⟨A4, n4, c4, rfl⟩ := pv_shape hc1.p; have hx1 := HX0.out.on hb1; have HTH := Lib.hid (hx1.there 8 rfl); have HX1 := Lib.hid hx1; have HC1 := Lib.hid hc1; have HB1 := Lib.hid hb1; clear hx1 hc1 hb1)
    | (show wpList _ _ _ (⟨none, Op.store 25 (.tmp 3) (.tmp 9), _, _, _, _⟩ :: _) _ _; refine wpList_store_mid rfl 25 (.tmp 3) (.tmp 9) rfl w.heap.size 0 #[.bool d.allow, .bool d.attrsAllow, .slice A1 n1 c1, .slice A2 n2 c2, .slice A3 n3 c3, .slice A4 n4 c4, .bool d.comments, .bool d.dataAttrs] rfl rfl HTH.out size_conf (by simp [Value.oneCell']) ?_))
  obtain ⟨W1, hW1, hg1, hh1⟩ := res_hb HX1.out rfl (.bool d.allow) (.bool d.attrsAllow) (.slice A1 n1 c1) (.slice A2 n2 c2) (.slice A3 n3 c3) (.slice A4 n4 c4) (.bool d.comments) (.bool d.dataAttrs)
  rw [← hW1]
  have hcW := cp_boxed HC1.out HX1.out (noStr8 _ _ _ _ _ _ _ _ _ _ _ _ _ _ _ _) hg1
  have hbW : Below w.heap.size w W1 := (HB0.out.trans (HB1.out.mono HB0.out.size)).grown hg1 (Nat.le_trans HB0.out.size HB1.out.size) (fun q hq => by injection hq with hq; omega)
  have hzW : w.heap.size < W1.heap.size := hh1.lt
  clear hW1 hg1 HTH HX1 HC1 HB1 HX0 HB0 HBD
  have hpl : d.per.length ≤ 12 := by rw [← HD.out]; show ((c.per.take 12).map _).length ≤ 12; rw [List.length_map, List.length_take]; omega
  have hc1 := hcW
  have cv1 := (show Cv W1 W1.heap.size (.agg #[.bool d.allow, .bool d.attrsAllow, .slice A1 n1 c1, .slice A2 n2 c2, .slice A3 n3 c3, .slice A4 n4 c4, .bool d.comments, .bool d.dataAttrs]) d from ⟨_, _, _, _, l, rfl, hcW⟩)
  have HST := Lib.hid (canon1 (.agg #[.bool d.allow, .bool d.attrsAllow, .slice A1 n1 c1, .slice A2 n2 c2, .slice A3 n3 c3, .slice A4 n4 c4, .bool d.comments, .bool d.dataAttrs]) d W1 cv1 HSM.out)
  obtain ⟨a0, a1, a2, a3, a4, a5, a6, a7⟩ := (Hb.bx (c := d) hh1).at_
  go_upto_region 3 with (go_at_call 14; refine HST.out.mono ?_; rintro r w3 ⟨v3, rfl, ho3, hb3⟩; obtain ⟨vE, vR, vA, vP, l3, rfl, ho3⟩ := ho3; obtain ⟨D1, i1, j1, rfl⟩ := own_shape ho3.e; obtain ⟨D2, i2, j2, rfl⟩ := own_shape ho3.r; obtain ⟨D3, i3, j3, rfl⟩ := own_shape ho3.a; obtain ⟨D4, i4, j4, rfl⟩ := po_shape ho3.p; have HO3 := Lib.hid ho3; have HB3 := Lib.hid hb3; clear ho3 hb3)
  clear a0 a1 a2 a3 a4 a5 a6 a7
  obtain ⟨W4, hW4⟩ : ∃ W4, w3.alloc (.cells #[.bool (canonC d).allow, .bool (canonC d).attrsAllow, .slice D1 i1 j1, .slice D2 i2 j2, .slice D3 i3 j3, .slice D4 i4 j4, .bool (canonC d).comments, .bool (canonC d).dataAttrs] 25) = W4 := ⟨_, rfl⟩
  rw [hW4]
  have hb4 : Below w3.heap.size w3 W4 := hW4 ▸ below_new12 w3 _
  have hn4 : Hb W4 w3.heap.size #[.bool (canonC d).allow, .bool (canonC d).attrsAllow, .slice D1 i1 j1, .slice D2 i2 j2, .slice D3 i3 j3, .slice D4 i4 j4, .bool (canonC d).comments, .bool (canonC d).dataAttrs] := hW4 ▸ Hb.new w3 _
  have hb24 : Below W1.heap.size W1 W4 := HB3.out.trans (hb4.mono HB3.out.size)
  have hx4 := hh1.on hb24
  have hp4 := HO3.out.cp.on hb4
  have hq4 := hcW.on hb24
  have hbw4 := hbW.trans (hb24.mono hbW.size)
  have cvA := fun wx (hb : Below W4.heap.size W4 wx) => (show Cv wx wx.heap.size (.agg #[.bool d.allow, .bool d.attrsAllow, .slice A1 n1 c1, .slice A2 n2 c2, .slice A3 n3 c3, .slice A4 n4 c4, .bool d.comments, .bool d.dataAttrs]) d from ⟨_, _, _, _, l, rfl, hq4.on hb⟩)
  have cvB := fun wx (hb : Below W4.heap.size W4 wx) => (show Cv wx wx.heap.size (.agg #[.bool (canonC d).allow, .bool (canonC d).attrsAllow, .slice D1 i1 j1, .slice D2 i2 j2, .slice D3 i3 j3, .slice D4 i4 j4, .bool (canonC d).comments, .bool (canonC d).dataAttrs]) (canonC d) from ⟨_, _, _, _, l3, rfl, hp4.on hb⟩)
  have s4 := sm_canon HSM.out hpl
  have hl1 := hx4.lt; have hl2 := hn4.lt
  generalize w3.heap.size = g7 at *
  obtain ⟨q1, hq1⟩ : ∃ q, elementN d e = q := ⟨_, rfl⟩
  obtain ⟨q2, hq2⟩ : ∃ q, attrB12 d e a = q := ⟨_, rfl⟩
  obtain ⟨n, hn⟩ : ∃ q, checkN d = q := ⟨_, rfl⟩
  have H1 := Lib.hid (fun wx (hb : Below W4.heap.size W4 wx) => on_base (element1 (.agg #[.bool d.allow, .bool d.attrsAllow, .slice A1 n1 c1, .slice A2 n2 c2, .slice A3 n3 c3, .slice A4 n4 c4, .bool d.comments, .bool d.dataAttrs]) _ e wx q1 (cvA wx hb) HSM.out hq1) hb)
  have H2 := Lib.hid (fun wx (hb : Below W4.heap.size W4 wx) => on_base (element1 (.agg #[.bool (canonC d).allow, .bool (canonC d).attrsAllow, .slice D1 i1 j1, .slice D2 i2 j2, .slice D3 i3 j3, .slice D4 i4 j4, .bool (canonC d).comments, .bool (canonC d).dataAttrs]) _ e wx q1 (cvB wx hb) s4 ((canon_el d e).trans hq1)) hb)
  have H3 := Lib.hid (fun wx (hb : Below W4.heap.size W4 wx) => on_base (attr1 (.agg #[.bool d.allow, .bool d.attrsAllow, .slice A1 n1 c1, .slice A2 n2 c2, .slice A3 n3 c3, .slice A4 n4 c4, .bool d.comments, .bool d.dataAttrs]) _ e a wx q2 (cvA wx hb) HSM.out (by omega) hq2) hb)
  have H4 := Lib.hid (fun wx (hb : Below W4.heap.size W4 wx) => on_base (attr1 (.agg #[.bool (canonC d).allow, .bool (canonC d).attrsAllow, .slice D1 i1 j1, .slice D2 i2 j2, .slice D3 i3 j3, .slice D4 i4 j4, .bool (canonC d).comments, .bool (canonC d).dataAttrs]) _ e a wx q2 (cvB wx hb) s4 (by omega) ((canon_attr d e a).trans hq2)) hb)
  have H5 := Lib.hid (fun wx (hb : Below W4.heap.size W4 wx) => (canon1 (.agg #[.bool (canonC d).allow, .bool (canonC d).attrsAllow, .slice D1 i1 j1, .slice D2 i2 j2, .slice D3 i3 j3, .slice D4 i4 j4, .bool (canonC d).comments, .bool (canonC d).dataAttrs]) (canonC d) wx (cvB wx hb) s4).mono fun r w' ⟨v', e, ho, h⟩ => (show ∃ v', r = Ending.returned v' ∧ Cv w' w'.heap.size v' (canonC d) ∧ Below W4.heap.size W4 w' from ⟨v', e, canon_again d ▸ ho.cv, hb.trans (h.mono hb.size)⟩))
  have H6 := Lib.hid (fun u wx (hu : Cv wx wx.heap.size u (canonC d)) (hb : Below W4.heap.size W4 wx) => on_base (refSame1 u (.agg #[.bool (canonC d).allow, .bool (canonC d).attrsAllow, .slice D1 i1 j1, .slice D2 i2 j2, .slice D3 i3 j3, .slice D4 i4 j4, .bool (canonC d).comments, .bool (canonC d).dataAttrs]) (canonC d) wx hu (cvB wx hb) s4) hb)
  have H7 := Lib.hid (fun wx (hb : Below W4.heap.size W4 wx) => on_base (check12 (.agg #[.bool d.allow, .bool d.attrsAllow, .slice A1 n1 c1, .slice A2 n2 c2, .slice A3 n3 c3, .slice A4 n4 c4, .bool d.comments, .bool d.dataAttrs]) _ wx n (cvA wx hb) HSM.out hn) hb)
  have H8 := Lib.hid (fun (h0 : n = 0) wx (hb : Below W4.heap.size W4 wx) => on_base (check12 (.agg #[.bool (canonC d).allow, .bool (canonC d).attrsAllow, .slice D1 i1 j1, .slice D2 i2 j2, .slice D3 i3 j3, .slice D4 i4 j4, .bool (canonC d).comments, .bool (canonC d).dataAttrs]) _ wx 0 (cvB wx hb) s4 (check_canon (hn.trans h0))) hb)
  have I1 := Lib.hid (fun wx (hb : Below W4.heap.size W4 wx) => on_base (is1 (.slice D1 i1 j1) _ wx (hp4.on hb).e s4.e (asc_els d).1) hb)
  have I2 := Lib.hid (fun wx (hb : Below W4.heap.size W4 wx) => on_base (is1 (.slice D2 i2 j2) _ wx (hp4.on hb).r s4.r (asc_els d).2.1) hb)
  have I3 := Lib.hid (fun wx (hb : Below W4.heap.size W4 wx) => on_base (is1 (.slice D3 i3 j3) _ wx (hp4.on hb).a s4.a (asc_els d).2.2) hb)
  have H9 := Lib.hid (fun wx (hb : Below W4.heap.size W4 wx) => on_base (fixed12 wx) hb)
  have HBL := Lib.hid (fun wx (hb : Below W4.heap.size W4 wx) => show wx.cell? ⟨w.heap.size, 0, none⟩ = some (.bool d.allow) ∧ wx.cell? ⟨w.heap.size, 1, none⟩ = some (.bool d.attrsAllow) ∧ wx.cell? ⟨w.heap.size, 2, none⟩ = some (.slice A1 n1 c1) ∧ wx.cell? ⟨w.heap.size, 3, none⟩ = some (.slice A2 n2 c2) ∧ wx.cell? ⟨w.heap.size, 4, none⟩ = some (.slice A3 n3 c3) ∧ wx.cell? ⟨w.heap.size, 5, none⟩ = some (.slice A4 n4 c4) ∧ wx.cell? ⟨w.heap.size, 6, none⟩ = some (.bool d.comments) ∧ wx.cell? ⟨w.heap.size, 7, none⟩ = some (.bool d.dataAttrs) ∧ wx.cell? ⟨g7, 0, none⟩ = some (.bool (canonC d).allow) ∧ wx.cell? ⟨g7, 1, none⟩ = some (.bool (canonC d).attrsAllow) ∧ wx.cell? ⟨g7, 2, none⟩ = some (.slice D1 i1 j1) ∧ wx.cell? ⟨g7, 3, none⟩ = some (.slice D2 i2 j2) ∧ wx.cell? ⟨g7, 4, none⟩ = some (.slice D3 i3 j3) ∧ wx.cell? ⟨g7, 5, none⟩ = some (.slice D4 i4 j4) ∧ wx.cell? ⟨g7, 6, none⟩ = some (.bool (canonC d).comments) ∧ wx.cell? ⟨g7, 7, none⟩ = some (.bool (canonC d).dataAttrs) from by
    obtain ⟨a0, a1, a2, a3, a4, a5, a6, a7⟩ := (Hb.bx (c := d) hx4).below hb hl1 |>.at_
    obtain ⟨b0, b1, b2, b3, b4, b5, b6, b7⟩ := (Hb.bx (c := canonC d) hn4).below hb hl2 |>.at_
    exact ⟨a0, a1, a2, a3, a4, a5, a6, a7, b0, b1, b2, b3, b4, b5, b6, b7⟩)
  have HW := Lib.hid hbw4
  clear hq1 hq2 hn cvA cvB cv1 hp4 hq4 hbw4 hx4 hn4 hl1 hl2 hb24 hb4 hW4 hh1 hcW hbW s4 HST HO3 HB3 hc1 hpl
  go_region_held3 (fun wx => wx.cell? ⟨w.heap.size, 0, none⟩ = some (.bool d.allow) ∧ wx.cell? ⟨w.heap.size, 1, none⟩ = some (.bool d.attrsAllow) ∧ wx.cell? ⟨w.heap.size, 2, none⟩ = some (.slice A1 n1 c1) ∧ wx.cell? ⟨w.heap.size, 3, none⟩ = some (.slice A2 n2 c2) ∧ wx.cell? ⟨w.heap.size, 4, none⟩ = some (.slice A3 n3 c3) ∧ wx.cell? ⟨w.heap.size, 5, none⟩ = some (.slice A4 n4 c4) ∧ wx.cell? ⟨w.heap.size, 6, none⟩ = some (.bool d.comments) ∧ wx.cell? ⟨w.heap.size, 7, none⟩ = some (.bool d.dataAttrs) ∧ wx.cell? ⟨g7, 0, none⟩ = some (.bool (canonC d).allow) ∧ wx.cell? ⟨g7, 1, none⟩ = some (.bool (canonC d).attrsAllow) ∧ wx.cell? ⟨g7, 2, none⟩ = some (.slice D1 i1 j1) ∧ wx.cell? ⟨g7, 3, none⟩ = some (.slice D2 i2 j2) ∧ wx.cell? ⟨g7, 4, none⟩ = some (.slice D3 i3 j3) ∧ wx.cell? ⟨g7, 5, none⟩ = some (.slice D4 i4 j4) ∧ wx.cell? ⟨g7, 6, none⟩ = some (.bool (canonC d).comments) ∧ wx.cell? ⟨g7, 7, none⟩ = some (.bool (canonC d).dataAttrs)) (first
    | exact HBL.out _ (bel_eq12 (Below.refl _ W4) rfl rfl rfl rfl)
    | exact HBL.out _ (bel_eq12 HBx1.out rfl rfl rfl rfl)
    | exact HBL.out _ (bel_eq12 HBx2.out rfl rfl rfl rfl)
    | exact HBL.out _ (bel_eq12 HBx3.out rfl rfl rfl rfl)
    | exact HBL.out _ (bel_eq12 HBx4.out rfl rfl rfl rfl)
    | exact HBL.out _ (bel_eq12 HBx5.out rfl rfl rfl rfl)
    | exact HBL.out _ (bel_eq12 HBx6.out rfl rfl rfl rfl)
    | go_keep) (first
    | (go_at_call 21; (with_reducible show Calls _ _ #[.agg #[.bool d.allow, .bool d.attrsAllow, .slice A1 n1 c1, .slice A2 n2 c2, .slice A3 n3 c3, .slice A4 n4 c4, .bool d.comments, .bool d.dataAttrs], _] _ _); refine (H1.out _ (by exact bel_eq12 (Below.refl _ W4) rfl rfl rfl rfl)).mono ?_; rintro r x1 ⟨rfl, hbx⟩; have HBx1 := Lib.hid hbx; clear hbx)
    | (go_at_call 21; (with_reducible show Calls _ _ #[.agg #[.bool (canonC d).allow, .bool (canonC d).attrsAllow, .slice D1 i1 j1, .slice D2 i2 j2, .slice D3 i3 j3, .slice D4 i4 j4, .bool (canonC d).comments, .bool (canonC d).dataAttrs], _] _ _); refine (H2.out _ (by exact bel_eq12 HBx1.out rfl rfl rfl rfl)).mono ?_; rintro r x2 ⟨rfl, hbx⟩; have HBx2 := Lib.hid hbx; clear hbx)
    | (go_at_call 23; (with_reducible show Calls _ _ #[.agg #[.bool d.allow, .bool d.attrsAllow, .slice A1 n1 c1, .slice A2 n2 c2, .slice A3 n3 c3, .slice A4 n4 c4, .bool d.comments, .bool d.dataAttrs], _, _] _ _); refine (H3.out _ (by exact bel_eq12 HBx2.out rfl rfl rfl rfl)).mono ?_; rintro r x3 ⟨rfl, hbx⟩; have HBx3 := Lib.hid hbx; clear hbx)
    | (go_at_call 23; (with_reducible show Calls _ _ #[.agg #[.bool (canonC d).allow, .bool (canonC d).attrsAllow, .slice D1 i1 j1, .slice D2 i2 j2, .slice D3 i3 j3, .slice D4 i4 j4, .bool (canonC d).comments, .bool (canonC d).dataAttrs], _, _] _ _); refine (H4.out _ (by exact bel_eq12 HBx3.out rfl rfl rfl rfl)).mono ?_; rintro r x4 ⟨rfl, hbx⟩; have HBx4 := Lib.hid hbx; clear hbx)
    | (go_at_call 14; refine (H5.out _ (by exact bel_eq12 HBx4.out rfl rfl rfl rfl)).mono ?_; rintro r x5 ⟨y5, rfl, hv, hbx⟩; have HV5 := Lib.hid hv; have HBx5 := Lib.hid hbx; clear hbx hv)
    | (go_at_call 16; refine (H6.out _ _ (by exact HV5.out) (by exact bel_eq12 HBx5.out rfl rfl rfl rfl)).mono ?_; rintro r x6 ⟨rfl, hbx⟩; have HBx6 := Lib.hid hbx; clear hbx))
  go_upto_region 5 with (fail)
  obtain ⟨_, _, _, _, _, _, _, _, _, _, _, _, _, _, _, _⟩ := HBL.out x6 HBx6.out
  by_cases h0 : n = 0
  · have H8z := Lib.hid (H8.out h0)
    clear H8
    subst h0
    go_wp2_with (first
      | (go_at_call 18; (with_reducible show Calls _ _ #[.agg #[.bool d.allow, .bool d.attrsAllow, .slice A1 n1 c1, .slice A2 n2 c2, .slice A3 n3 c3, .slice A4 n4 c4, .bool d.comments, .bool d.dataAttrs]] _ _); refine (H7.out _ HBx6.out).mono ?_; rintro r y1 ⟨rfl, hbx⟩; have HBy1 := Lib.hid hbx; clear hbx; obtain ⟨_, _, _, _, _, _, _, _, _, _, _, _, _, _, _, _⟩ := HBL.out _ HBy1.out)
      | (go_at_call 18; (with_reducible show Calls _ _ #[.agg #[.bool (canonC d).allow, .bool (canonC d).attrsAllow, .slice D1 i1 j1, .slice D2 i2 j2, .slice D3 i3 j3, .slice D4 i4 j4, .bool (canonC d).comments, .bool (canonC d).dataAttrs]] _ _); refine (H8z.out _ HBy1.out).mono ?_; rintro r y2 ⟨rfl, hbx⟩; have HBy2 := Lib.hid hbx; clear hbx; obtain ⟨_, _, _, _, _, _, _, _, _, _, _, _, _, _, _, _⟩ := HBL.out _ HBy2.out)
      | (go_at_call 25; (with_reducible show Calls _ _ #[.slice D1 i1 j1] _ _); refine (I1.out _ HBy2.out).mono ?_; rintro r y3 ⟨rfl, hbx⟩; have HBy3 := Lib.hid hbx; clear hbx; obtain ⟨_, _, _, _, _, _, _, _, _, _, _, _, _, _, _, _⟩ := HBL.out _ HBy3.out)
      | (go_at_call 25; (with_reducible show Calls _ _ #[.slice D2 i2 j2] _ _); refine (I2.out _ HBy3.out).mono ?_; rintro r y4 ⟨rfl, hbx⟩; have HBy4 := Lib.hid hbx; clear hbx; obtain ⟨_, _, _, _, _, _, _, _, _, _, _, _, _, _, _, _⟩ := HBL.out _ HBy4.out)
      | (go_at_call 25; (with_reducible show Calls _ _ #[.slice D3 i3 j3] _ _); refine (I3.out _ HBy4.out).mono ?_; rintro r y5 ⟨rfl, hbx⟩; have HBy5 := Lib.hid hbx; clear hbx; obtain ⟨_, _, _, _, _, _, _, _, _, _, _, _, _, _, _, _⟩ := HBL.out _ HBy5.out)
      | (go_at_call 20; refine (H9.out _ HBy5.out).mono ?_; rintro r y6 ⟨rfl, hbx⟩; have HBy6 := Lib.hid hbx; clear hbx))
    go_ret
    exact ⟨rfl, HW.out.trans (HBy6.out.mono HW.out.size)⟩
  · have h1 : ((n : Int) == 0) = false := by simpa using h0
    have h2 : ¬ (n : Int) = 0 := by omega
    go_wp2_with (first
      | (go_at_call 18; (with_reducible show Calls _ _ #[.agg #[.bool d.allow, .bool d.attrsAllow, .slice A1 n1 c1, .slice A2 n2 c2, .slice A3 n3 c3, .slice A4 n4 c4, .bool d.comments, .bool d.dataAttrs]] _ _); refine (H7.out _ HBx6.out).mono ?_; rintro r y1 ⟨rfl, hbx⟩; have HBy1 := Lib.hid hbx; clear hbx; obtain ⟨_, _, _, _, _, _, _, _, _, _, _, _, _, _, _, _⟩ := HBL.out _ HBy1.out)
      | (go_at_call 25; (with_reducible show Calls _ _ #[.slice D1 i1 j1] _ _); refine (I1.out _ HBy1.out).mono ?_; rintro r y3 ⟨rfl, hbx⟩; have HBy3 := Lib.hid hbx; clear hbx; obtain ⟨_, _, _, _, _, _, _, _, _, _, _, _, _, _, _, _⟩ := HBL.out _ HBy3.out)
      | (go_at_call 25; (with_reducible show Calls _ _ #[.slice D2 i2 j2] _ _); refine (I2.out _ HBy3.out).mono ?_; rintro r y4 ⟨rfl, hbx⟩; have HBy4 := Lib.hid hbx; clear hbx; obtain ⟨_, _, _, _, _, _, _, _, _, _, _, _, _, _, _, _⟩ := HBL.out _ HBy4.out)
      | (go_at_call 25; (with_reducible show Calls _ _ #[.slice D3 i3 j3] _ _); refine (I3.out _ HBy4.out).mono ?_; rintro r y5 ⟨rfl, hbx⟩; have HBy5 := Lib.hid hbx; clear hbx; obtain ⟨_, _, _, _, _, _, _, _, _, _, _, _, _, _, _, _⟩ := HBL.out _ HBy5.out)
      | (go_at_call 20; refine (H9.out _ HBy5.out).mono ?_; rintro r y6 ⟨rfl, hbx⟩; have HBy6 := Lib.hid hbx; clear hbx))
    go_ret
    exact ⟨rfl, HW.out.trans (HBy6.out.mono HW.out.size)⟩

end Go.Proofs.Ythiimnlilfcfeaa.Co
