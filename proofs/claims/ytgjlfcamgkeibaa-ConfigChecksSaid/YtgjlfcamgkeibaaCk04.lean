/-
  Walk of stage 12: the calls whose answers the document fixes.
  Stage 12: what the laws have in common: a configuration bounded, in a box of the law's own.
  Walk of stage 12: the document's Check.
  Walk of stage 12: the document's Strip.
  Walk of stage 12: the document's Canon.
-/
import Derived.Test.YtgjlfcamgkeibaaCk02
import Derived.Test.YtgjlfcamgkeibaaCk03
import Derived.Test.YtgjlfcamgkeibaaCk01
import Derived.Deep.CutRange
import Derived.Deep.QuietTactic
import Derived.BigQuiet
namespace Go.Proofs.Ytgjlfcamgkeibaa.Co
set_option maxRecDepth 100000
set_option linter.unusedVariables false
set_option linter.unusedSimpArgs false
open Go.RowKit Ba Fm Fo Nm Rk
theorem sv_nil12 (w : World) (N : Nat) : Sv w N (.slice none 0 0) [] := ⟨none, 0, rfl, Nat.le_refl _, fun _ => rfl, Rd.nil _ _ _⟩
theorem sv_lit12 {w : World} {g : Nat} {l : List ByteArray} (h : w.heap[g]? = some (.cells (l.map sc).toArray 9)) : Sv w w.heap.size (.slice (some ⟨g, 0, none⟩) l.length l.length) l :=
  ⟨some ⟨g, 0, none⟩, l.length, rfl, Nat.le_refl _, (fun e => by cases e), fun h0 => ⟨g, 0, rfl, (Array.getElem?_eq_some_iff.1 h).1, fun j hj => by
    rw [Nat.zero_add, cell_of_row w g j _ _ _ h]
    simp [List.getElem?_eq_getElem hj, sc]⟩⟩
theorem cp_0 (w : World) (N : Nat) : Cp w N ⟨false, false, [], [], [], [], false, true⟩ (.slice none 0 0) (.slice none 0 0) (.slice none 0 0) (.slice none 0 0) [] := ⟨sv_nil12 _ _, sv_nil12 _ _, sv_nil12 _ _, ⟨none, 0, rfl, Nat.le_refl _, fun _ => rfl, Pr.nil _ _ _⟩, rfl⟩
theorem cp_1 (w : World) (g : Nat) (hg : w.heap[g]? = some (.cells #[.string ⟨#[65]⟩] 9)) : Cv w w.heap.size (.agg #[.bool false, .bool false, .slice (some ⟨g, 0, none⟩) 1 1, .slice none 0 0, .slice none 0 0, .slice none 0 0, .bool false, .bool false]) ⟨false, false, [⟨#[65]⟩], [], [], [], false, false⟩ :=
  ⟨_, _, _, _, [], rfl, sv_lit12 (l := [⟨#[65]⟩]) hg, sv_nil12 _ _, sv_nil12 _ _, ⟨none, 0, rfl, Nat.le_refl _, fun _ => rfl, Pr.nil _ _ _⟩, rfl⟩
theorem cp_2 (w : World) (g : Nat) (hg : w.heap[g]? = some (.cells #[.string ⟨#[97]⟩, .string ⟨#[97]⟩] 9)) : Cv w w.heap.size (.agg #[.bool false, .bool false, .slice none 0 0, .slice none 0 0, .slice (some ⟨g, 0, none⟩) 2 2, .slice none 0 0, .bool false, .bool false]) ⟨false, false, [], [], [⟨#[97]⟩, ⟨#[97]⟩], [], false, false⟩ :=
  ⟨_, _, _, _, [], rfl, sv_nil12 _ _, sv_nil12 _ _, sv_lit12 (l := [⟨#[97]⟩, ⟨#[97]⟩]) hg, ⟨none, 0, rfl, Nat.le_refl _, fun _ => rfl, Pr.nil _ _ _⟩, rfl⟩
theorem below_lit12 {w0 X w' : World} {o : Obj} (hb : Below w0.heap.size w0 X) (he : w'.heap = (X.alloc o).heap := by rfl) (ho : w'.os = X.os := by rfl) (ht : w'.tape = X.tape := by rfl) (hp : w'.output = X.output := by rfl) : Below w0.heap.size w0 w' := bel_eq12 (hb.trans ((below_new12 X o).mono hb.size)) he ho ht hp
theorem heap_lit12 {w X : World} {o : Obj} {g : Nat} (h : w.heap = (X.alloc o).heap) (hg : g = X.heap.size := by rfl) : w.heap[g]? = some o := by rw [h, hg]; exact heap_alloc_new X o
theorem sm_few {c : Cf} (h : c.els.length ≤ 1000 ∧ c.reps.length ≤ 1000 ∧ c.ats.length ≤ 1000 ∧ c.per.length ≤ 1000 ∧ c.els.all (·.size ≤ 1000) ∧ c.reps.all (·.size ≤ 1000) ∧ c.ats.all (·.size ≤ 1000) ∧ c.per.all (fun p => decide (p.at_.length ≤ 1000) && decide (p.el.size ≤ 1000) && p.at_.all (·.size ≤ 1000)) = true) : Sm c := by
  obtain ⟨h1, h2, h3, h4, h5, h6, h7, h8⟩ := h
  have hb : ∀ {l : List ByteArray}, l.all (·.size ≤ 1000) = true → ∀ s ∈ l, s.size ≤ 140737488355328 := fun h s hs => Nat.le_trans (by simpa using List.all_eq_true.1 h s hs) (show 1000 ≤ 140737488355328 by omega)
  have h9 := fun p hp => List.all_eq_true.1 h8 p hp
  simp only [Bool.and_eq_true, decide_eq_true_eq] at h9
  exact ⟨h1, h2, h3, h4, fun p hp => (h9 p hp).1.1, hb h5, hb h6, hb h7, fun p hp => ⟨Nat.le_trans (h9 p hp).1.2 (by omega), hb (h9 p hp).2⟩⟩
theorem sm_plain : Sm plainC := sm_few (by decide +kernel)
theorem sm_all : Sm allC := sm_few (by decide +kernel)
theorem sm_sall : Sm (stripC allC) := sm_few (by decide +kernel)
theorem sm_0 : Sm ⟨false, false, [], [], [], [], false, true⟩ := sm_few (by decide +kernel)
theorem sm_1 : Sm ⟨false, false, [⟨#[65]⟩], [], [], [], false, false⟩ := sm_few (by decide +kernel)
theorem sm_2 : Sm ⟨false, false, [], [], [⟨#[97]⟩, ⟨#[97]⟩], [], false, false⟩ := sm_few (by decide +kernel)
set_option maxRecDepth 100000 in
set_option maxHeartbeats 2000000 in
theorem fixed12 (w : World) : Calls Try.prog 23 #[] w fun e w' => e = .returned (.bool true) ∧ Below w.heap.size w w' := by
  go_enter Try.func23, Try.ntmps23
  go_upto_region 2 with (first
    | (go_at_call 55; refine (plain1 _).mono ?_; rintro r w1 ⟨v1, rfl, ho1, hb1⟩; obtain ⟨vE, vR, vA, vP, l, rfl, ho1⟩ := ho1; obtain ⟨A1, n1, c1, rfl⟩ := own_shape ho1.e; obtain ⟨A2, n2, c2, rfl⟩ := own_shape ho1.r; obtain ⟨A3, n3, c3, rfl⟩ := own_shape ho1.a; obtain ⟨A4, n4, c4, rfl⟩ := po_shape ho1.p; have HO1 := Lib.hid ho1; have HB1 := Lib.hid hb1; clear ho1 hb1)
    | (go_at_call 35; refine (all1 _).mono ?_; rintro r w2 ⟨v2, rfl, ho2, hb2⟩; obtain ⟨uE, uR, uA, uP, m, rfl, ho2⟩ := ho2; obtain ⟨B1, k1, d1, rfl⟩ := own_shape ho2.e; obtain ⟨B2, k2, d2, rfl⟩ := own_shape ho2.r; obtain ⟨B3, k3, d3, rfl⟩ := own_shape ho2.a; obtain ⟨B4, k4, d4, rfl⟩ := po_shape ho2.p; have HO2 := Lib.hid ho2; have HB2 := Lib.hid hb2; clear ho2 hb2))
  obtain ⟨w3, hw3⟩ : ∃ w3, ((w2.alloc (.cells #[.bool plainC.allow, .bool plainC.attrsAllow, .slice A1 n1 c1, .slice A2 n2 c2, .slice A3 n3 c3, .slice A4 n4 c4, .bool plainC.comments, .bool plainC.dataAttrs] 26)).alloc (.cells #[.bool allC.allow, .bool allC.attrsAllow, .slice B1 k1 d1, .slice B2 k2 d2, .slice B3 k3 d3, .slice B4 k4 d4, .bool allC.comments, .bool allC.dataAttrs] 26)) = w3 := ⟨_, rfl⟩
  rw [hw3]
  have hz3 : w2.heap.size + 1 < w3.heap.size := by rw [← hw3]; simp
  have hb3 : Below w2.heap.size w2 w3 := hw3 ▸ below_two w2 _ _
  have hx1 : Bx w3 w2.heap.size plainC (.slice A1 n1 c1) (.slice A2 n2 c2) (.slice A3 n3 c3) (.slice A4 n4 c4) := hw3 ▸ (Bx.new w2 plainC _ _ _ _).below (below_new12 _ _) (by simp)
  have hx2 : Bx w3 (w2.heap.size + 1) allC (.slice B1 k1 d1) (.slice B2 k2 d2) (.slice B3 k3 d3) (.slice B4 k4 d4) := by
    have := Bx.new (w2.alloc (confO plainC (.slice A1 n1 c1) (.slice A2 n2 c2) (.slice A3 n3 c3) (.slice A4 n4 c4))) allC (.slice B1 k1 d1) (.slice B2 k2 d2) (.slice B3 k3 d3) (.slice B4 k4 d4)
    rw [World.size_alloc] at this
    exact hw3 ▸ this
  have hp3 : Cp w3 w3.heap.size plainC (.slice A1 n1 c1) (.slice A2 n2 c2) (.slice A3 n3 c3) (.slice A4 n4 c4) l := (HO1.out.cp.on HB2.out).on hb3
  have ha3 : Cp w3 w3.heap.size allC (.slice B1 k1 d1) (.slice B2 k2 d2) (.slice B3 k3 d3) (.slice B4 k4 d4) m := HO2.out.cp.on hb3
  have hb13 : Below w.heap.size w w3 := HB1.out.trans ((HB2.out.trans (hb3.mono HB2.out.size)).mono HB1.out.size)
  have HX1 := Lib.hid hx1; have HX2 := Lib.hid hx2; have HP := Lib.hid hp3; have HA := Lib.hid ha3; have HB := Lib.hid hb13
  obtain ⟨q0, q1, q2, q3, q4, q5, q6, q7⟩ := hx2.at_
  clear hw3 hb3 hx1 hx2 hp3 ha3 hb13 HO1 HO2 HB1 HB2
  generalize w2.heap.size = g at *
  go_upto_region 3 with (first
    | (go_at_call 18; refine (strip1 _ allC w3 ⟨_, _, _, _, _, rfl, HA.out⟩ sm_all).mono ?_; rintro r w4 ⟨v4, rfl, ho4, hb4⟩; obtain ⟨vE, vR, vA, vP, l4, rfl, ho4⟩ := ho4; obtain ⟨D1, i1, j1, rfl⟩ := own_shape ho4.e; obtain ⟨D2, i2, j2, rfl⟩ := own_shape ho4.r; obtain ⟨D3, i3, j3, rfl⟩ := own_shape ho4.a; obtain ⟨D4, i4, j4, rfl⟩ := po_shape ho4.p; have HO4 := Lib.hid ho4; have HB4 := Lib.hid hb4; clear ho4 hb4))
  obtain ⟨w5, hw5⟩ : ∃ w5, (w4.alloc (.cells #[.bool (stripC allC).allow, .bool (stripC allC).attrsAllow, .slice D1 i1 j1, .slice D2 i2 j2, .slice D3 i3 j3, .slice D4 i4 j4, .bool (stripC allC).comments, .bool (stripC allC).dataAttrs] 26) : World) = w5 := ⟨_, rfl⟩
  rw [hw5]
  have hz5 : w4.heap.size < w5.heap.size := by rw [← hw5]; simp
  have hb5 : Below w4.heap.size w4 w5 := hw5 ▸ below_new12 w4 _
  have hx3 : Bx w5 w4.heap.size (stripC allC) (.slice D1 i1 j1) (.slice D2 i2 j2) (.slice D3 i3 j3) (.slice D4 i4 j4) := hw5 ▸ Bx.new w4 (stripC allC) _ _ _ _
  have hb35 : Below w3.heap.size w3 w5 := HB4.out.trans (hb5.mono HB4.out.size)
  have cp := HP.out.on hb35
  have ca := HA.out.on hb35
  have cs := HO4.out.cp.on hb5
  have hwb := HB.out.trans (hb35.mono HB.out.size)
  have hx1 := HX1.out.below hb35 (show g < w3.heap.size by omega)
  have hx2 := HX2.out.below hb35 (show g + 1 < w3.heap.size by omega)
  have hg1 : g < w5.heap.size := Nat.lt_of_lt_of_le (show g < w3.heap.size by omega) hb35.size
  have hg2 : g + 1 < w5.heap.size := Nat.lt_of_lt_of_le (show g + 1 < w3.heap.size by omega) hb35.size
  have HWB := Lib.hid hwb
  generalize w4.heap.size = g3 at *
  have CP := (fun wx (hb : Below w5.heap.size w5 wx) => (show Cv wx wx.heap.size (confV plainC (.slice A1 n1 c1) (.slice A2 n2 c2) (.slice A3 n3 c3) (.slice A4 n4 c4)) plainC from ⟨_, _, _, _, _, rfl, cp.on hb⟩))
  have CA := (fun wx (hb : Below w5.heap.size w5 wx) => (show Cv wx wx.heap.size (.agg #[.bool allC.allow, .bool allC.attrsAllow, .slice B1 k1 d1, .slice B2 k2 d2, .slice B3 k3 d3, .slice B4 k4 d4, .bool true, .bool allC.dataAttrs]) allC from ⟨_, _, _, _, _, rfl, ca.on hb⟩))
  have CS := (fun wx (hb : Below w5.heap.size w5 wx) => (show Cv wx wx.heap.size (confV (stripC allC) (.slice D1 i1 j1) (.slice D2 i2 j2) (.slice D3 i3 j3) (.slice D4 i4 j4)) (stripC allC) from ⟨_, _, _, _, _, rfl, cs.on hb⟩))
  have HBL := Lib.hid (fun wx (hb : Below w5.heap.size w5 wx) => show wx.cell? ⟨g, 0, none⟩ = some (.bool plainC.allow) ∧ wx.cell? ⟨g, 1, none⟩ = some (.bool plainC.attrsAllow) ∧ wx.cell? ⟨g, 2, none⟩ = some (.slice A1 n1 c1) ∧ wx.cell? ⟨g, 3, none⟩ = some (.slice A2 n2 c2) ∧ wx.cell? ⟨g, 4, none⟩ = some (.slice A3 n3 c3) ∧ wx.cell? ⟨g, 5, none⟩ = some (.slice A4 n4 c4) ∧ wx.cell? ⟨g, 6, none⟩ = some (.bool plainC.comments) ∧ wx.cell? ⟨g, 7, none⟩ = some (.bool plainC.dataAttrs) ∧ wx.cell? ⟨(g + 1), 0, none⟩ = some (.bool allC.allow) ∧ wx.cell? ⟨(g + 1), 1, none⟩ = some (.bool allC.attrsAllow) ∧ wx.cell? ⟨(g + 1), 2, none⟩ = some (.slice B1 k1 d1) ∧ wx.cell? ⟨(g + 1), 3, none⟩ = some (.slice B2 k2 d2) ∧ wx.cell? ⟨(g + 1), 4, none⟩ = some (.slice B3 k3 d3) ∧ wx.cell? ⟨(g + 1), 5, none⟩ = some (.slice B4 k4 d4) ∧ wx.cell? ⟨(g + 1), 6, none⟩ = some (.bool true) ∧ wx.cell? ⟨(g + 1), 7, none⟩ = some (.bool allC.dataAttrs) ∧ wx.cell? ⟨g3, 0, none⟩ = some (.bool (stripC allC).allow) ∧ wx.cell? ⟨g3, 1, none⟩ = some (.bool (stripC allC).attrsAllow) ∧ wx.cell? ⟨g3, 2, none⟩ = some (.slice D1 i1 j1) ∧ wx.cell? ⟨g3, 3, none⟩ = some (.slice D2 i2 j2) ∧ wx.cell? ⟨g3, 4, none⟩ = some (.slice D3 i3 j3) ∧ wx.cell? ⟨g3, 5, none⟩ = some (.slice D4 i4 j4) ∧ wx.cell? ⟨g3, 6, none⟩ = some (.bool (stripC allC).comments) ∧ wx.cell? ⟨g3, 7, none⟩ = some (.bool (stripC allC).dataAttrs) from by
    obtain ⟨a0, a1, a2, a3, a4, a5, a6, a7⟩ := (hx1.below hb hg1).at_
    obtain ⟨b0, b1, b2, b3, b4, b5, b6, b7⟩ := (hx2.below hb hg2).at_
    obtain ⟨x0, x1, x2, x3, x4, x5, x6, x7⟩ := (hx3.below hb hz5).at_
    exact ⟨a0, a1, a2, a3, a4, a5, a6, a7, b0, b1, b2, b3, b4, b5, b6, b7, x0, x1, x2, x3, x4, x5, x6, x7⟩)
  have H0 := Lib.hid (fun wx (hb : Below w5.heap.size w5 wx) => (element1 _ plainC ⟨#[98]⟩ wx 0 (CP wx hb) sm_plain plain_b).mono fun r w' ⟨e, h⟩ => (show r = _ ∧ Below w5.heap.size w5 w' from ⟨e, hb.trans (h.mono hb.size)⟩))
  have H1 := Lib.hid (fun wx (hb : Below w5.heap.size w5 wx) => (element1 _ plainC ⟨#[115, 99, 114, 105, 112, 116]⟩ wx 1 (CP wx hb) sm_plain plain_script).mono fun r w' ⟨e, h⟩ => (show r = _ ∧ Below w5.heap.size w5 w' from ⟨e, hb.trans (h.mono hb.size)⟩))
  have H2 := Lib.hid (fun wx (hb : Below w5.heap.size w5 wx) => (attr1 _ plainC ⟨#[97]⟩ ⟨#[104, 114, 101, 102]⟩ wx true (CP wx hb) sm_plain (by decide) plain_a_href).mono fun r w' ⟨e, h⟩ => (show r = _ ∧ Below w5.heap.size w5 w' from ⟨e, hb.trans (h.mono hb.size)⟩))
  have H3 := Lib.hid (fun wx (hb : Below w5.heap.size w5 wx) => (attr1 _ plainC ⟨#[98]⟩ ⟨#[104, 114, 101, 102]⟩ wx false (CP wx hb) sm_plain (by decide) plain_b_href).mono fun r w' ⟨e, h⟩ => (show r = _ ∧ Below w5.heap.size w5 w' from ⟨e, hb.trans (h.mono hb.size)⟩))
  have H4 := Lib.hid (fun wx (hb : Below w5.heap.size w5 wx) => (element1 _ allC ⟨#[115, 99, 114, 105, 112, 116]⟩ wx 0 (CA wx hb) sm_all all_script).mono fun r w' ⟨e, h⟩ => (show r = _ ∧ Below w5.heap.size w5 w' from ⟨e, hb.trans (h.mono hb.size)⟩))
  have H5 := Lib.hid (fun wx (hb : Below w5.heap.size w5 wx) => (attr1 _ allC ⟨#[98]⟩ ⟨#[111, 110, 99, 108, 105, 99, 107]⟩ wx true (CA wx hb) sm_all (by decide) all_onclick).mono fun r w' ⟨e, h⟩ => (show r = _ ∧ Below w5.heap.size w5 w' from ⟨e, hb.trans (h.mono hb.size)⟩))
  have H6 := Lib.hid (fun wx (hb : Below w5.heap.size w5 wx) => (element1 _ (stripC allC) ⟨#[115, 99, 114, 105, 112, 116]⟩ wx 1 (CS wx hb) sm_sall sall_script).mono fun r w' ⟨e, h⟩ => (show r = _ ∧ Below w5.heap.size w5 w' from ⟨e, hb.trans (h.mono hb.size)⟩))
  have H7 := Lib.hid (fun wx (hb : Below w5.heap.size w5 wx) => (element1 _ (stripC allC) ⟨#[98]⟩ wx 0 (CS wx hb) sm_sall sall_b).mono fun r w' ⟨e, h⟩ => (show r = _ ∧ Below w5.heap.size w5 w' from ⟨e, hb.trans (h.mono hb.size)⟩))
  have H8 := Lib.hid (fun wx (hb : Below w5.heap.size w5 wx) => (check12 _ plainC wx 0 (CP wx hb) sm_plain plain_check).mono fun r w' ⟨e, h⟩ => (show r = _ ∧ Below w5.heap.size w5 w' from ⟨e, hb.trans (h.mono hb.size)⟩))
  have H9 := Lib.hid (fun wx (hb : Below w5.heap.size w5 wx) => (check12 _ ⟨false, false, [], [], [], [], false, true⟩ wx 120 ⟨.slice none 0 0, .slice none 0 0, .slice none 0 0, .slice none 0 0, [], rfl, cp_0 _ _⟩ sm_0 c120).mono fun r w' ⟨e, h⟩ => (show r = _ ∧ Below w5.heap.size w5 w' from ⟨e, hb.trans (h.mono hb.size)⟩))
  have H10 := Lib.hid (fun wx gg (hg : wx.heap[gg]? = some (.cells #[.string ⟨#[65]⟩] 9)) (hb : Below w5.heap.size w5 wx) => (check12 _ ⟨false, false, [⟨#[65]⟩], [], [], [], false, false⟩ wx 121 (cp_1 wx gg hg) sm_1 c121).mono fun r w' ⟨e, h⟩ => (show r = _ ∧ Below w5.heap.size w5 w' from ⟨e, hb.trans (h.mono hb.size)⟩))
  have H11 := Lib.hid (fun wx gg (hg : wx.heap[gg]? = some (.cells #[.string ⟨#[97]⟩, .string ⟨#[97]⟩] 9)) (hb : Below w5.heap.size w5 wx) => (check12 _ ⟨false, false, [], [], [⟨#[97]⟩, ⟨#[97]⟩], [], false, false⟩ wx 122 (cp_2 wx gg hg) sm_2 c122).mono fun r w' ⟨e, h⟩ => (show r = _ ∧ Below w5.heap.size w5 w' from ⟨e, hb.trans (h.mono hb.size)⟩))
  have HR := Lib.hid (fun wx (hb : Below w5.heap.size w5 wx) => (refPlain1 wx).mono fun r w' ⟨v', e, ho, h⟩ => (show ∃ v', r = Ending.returned v' ∧ Cv w' w'.heap.size v' plainC ∧ Below w5.heap.size w5 w' from ⟨v', e, ho.cv, hb.trans (h.mono hb.size)⟩))
  have HS := Lib.hid (fun u wx (hu : Cv wx wx.heap.size u plainC) (hb : Below w5.heap.size w5 wx) => (refSame1 (confV plainC (.slice A1 n1 c1) (.slice A2 n2 c2) (.slice A3 n3 c3) (.slice A4 n4 c4)) u plainC wx (CP wx hb) hu sm_plain).mono fun r w' ⟨e, h⟩ => (show r = _ ∧ Below w5.heap.size w5 w' from ⟨e, hb.trans (h.mono hb.size)⟩))
  have HQ := Lib.hid hwb
  clear hw5 hb5 hx1 hx2 hx3 hb35 cp ca cs hwb hz3 HP HA HB HO4 HB4 q0 q1 q2 q3 q4 q5 q6 q7 CP CA CS hz5 hg1 hg2 HX1 HX2
  dsimp only [List.append]
  go_region_held3 (fun wx => wx.cell? ⟨g, 0, none⟩ = some (.bool plainC.allow) ∧ wx.cell? ⟨g, 1, none⟩ = some (.bool plainC.attrsAllow) ∧ wx.cell? ⟨g, 2, none⟩ = some (.slice A1 n1 c1) ∧ wx.cell? ⟨g, 3, none⟩ = some (.slice A2 n2 c2) ∧ wx.cell? ⟨g, 4, none⟩ = some (.slice A3 n3 c3) ∧ wx.cell? ⟨g, 5, none⟩ = some (.slice A4 n4 c4) ∧ wx.cell? ⟨g, 6, none⟩ = some (.bool plainC.comments) ∧ wx.cell? ⟨g, 7, none⟩ = some (.bool plainC.dataAttrs) ∧ wx.cell? ⟨(g + 1), 0, none⟩ = some (.bool allC.allow) ∧ wx.cell? ⟨(g + 1), 1, none⟩ = some (.bool allC.attrsAllow) ∧ wx.cell? ⟨(g + 1), 2, none⟩ = some (.slice B1 k1 d1) ∧ wx.cell? ⟨(g + 1), 3, none⟩ = some (.slice B2 k2 d2) ∧ wx.cell? ⟨(g + 1), 4, none⟩ = some (.slice B3 k3 d3) ∧ wx.cell? ⟨(g + 1), 5, none⟩ = some (.slice B4 k4 d4) ∧ wx.cell? ⟨(g + 1), 6, none⟩ = some (.bool true) ∧ wx.cell? ⟨(g + 1), 7, none⟩ = some (.bool allC.dataAttrs) ∧ wx.cell? ⟨g3, 0, none⟩ = some (.bool (stripC allC).allow) ∧ wx.cell? ⟨g3, 1, none⟩ = some (.bool (stripC allC).attrsAllow) ∧ wx.cell? ⟨g3, 2, none⟩ = some (.slice D1 i1 j1) ∧ wx.cell? ⟨g3, 3, none⟩ = some (.slice D2 i2 j2) ∧ wx.cell? ⟨g3, 4, none⟩ = some (.slice D3 i3 j3) ∧ wx.cell? ⟨g3, 5, none⟩ = some (.slice D4 i4 j4) ∧ wx.cell? ⟨g3, 6, none⟩ = some (.bool (stripC allC).comments) ∧ wx.cell? ⟨g3, 7, none⟩ = some (.bool (stripC allC).dataAttrs)) (first
    | exact HBL.out _ (bel_eq12 (Below.refl _ w5) rfl rfl rfl rfl)
    | exact HBL.out _ (bel_eq12 HBa0.out rfl rfl rfl rfl)
    | exact HBL.out _ (bel_eq12 HBa1.out rfl rfl rfl rfl)
    | exact HBL.out _ (bel_eq12 HBa2.out rfl rfl rfl rfl)
    | exact HBL.out _ (bel_eq12 HBa3.out rfl rfl rfl rfl)
    | exact HBL.out _ (bel_eq12 HBa4.out rfl rfl rfl rfl)
    | exact HBL.out _ (bel_eq12 HBa5.out rfl rfl rfl rfl)
    | exact HBL.out _ (bel_eq12 HBa6.out rfl rfl rfl rfl)
    | exact HBL.out _ (bel_eq12 HBa7.out rfl rfl rfl rfl)
    | exact HBL.out _ (bel_eq12 HBa8.out rfl rfl rfl rfl)
    | exact HBL.out _ (bel_eq12 HBa9.out rfl rfl rfl rfl)
    | exact HBL.out _ (bel_eq12 HBa10.out rfl rfl rfl rfl)
    | exact HBL.out _ (bel_eq12 HBa11.out rfl rfl rfl rfl)
    | exact HBL.out _ (bel_eq12 HBa12.out rfl rfl rfl rfl)
    | exact HBL.out _ (bel_eq12 HBa13.out rfl rfl rfl rfl)
    | exact HBL.out _ (below_lit12 (bel_eq12 HBa11.out rfl rfl rfl rfl))
    | exact HBL.out _ (below_lit12 (bel_eq12 HBa12.out rfl rfl rfl rfl))
    | go_keep) (first
    | (go_at_call 56; refine (HR.out _ (by exact bel_eq12 (Below.refl _ w5) rfl rfl rfl rfl)).mono ?_; rintro r wa0 ⟨va, rfl, hva, hba⟩; have HVA := Lib.hid hva; have HBa0 := Lib.hid hba; clear hva hba)
    | (go_at_call 19; refine (HS.out _ _ HVA.out (by exact bel_eq12 HBa0.out rfl rfl rfl rfl)).mono ?_; rintro r wa1 ⟨rfl, hba⟩; have HBa1 := Lib.hid hba; clear hba)
    | (go_at_call 57; (with_reducible show Calls _ _ #[confV plainC (.slice A1 n1 c1) (.slice A2 n2 c2) (.slice A3 n3 c3) (.slice A4 n4 c4), .string ⟨#[98]⟩] _ _); refine (H0.out _ (by exact bel_eq12 HBa1.out rfl rfl rfl rfl)).mono ?_; rintro r wa2 ⟨rfl, hba⟩; have HBa2 := Lib.hid hba; clear hba)
    | (go_at_call 57; (with_reducible show Calls _ _ #[confV plainC (.slice A1 n1 c1) (.slice A2 n2 c2) (.slice A3 n3 c3) (.slice A4 n4 c4), .string ⟨#[115, 99, 114, 105, 112, 116]⟩] _ _); refine (H1.out _ (by exact bel_eq12 HBa2.out rfl rfl rfl rfl)).mono ?_; rintro r wa3 ⟨rfl, hba⟩; have HBa3 := Lib.hid hba; clear hba)
    | (go_at_call 30; (with_reducible show Calls _ _ #[confV plainC (.slice A1 n1 c1) (.slice A2 n2 c2) (.slice A3 n3 c3) (.slice A4 n4 c4), .string ⟨#[97]⟩, .string ⟨#[104, 114, 101, 102]⟩] _ _); refine (H2.out _ (by exact bel_eq12 HBa3.out rfl rfl rfl rfl)).mono ?_; rintro r wa4 ⟨rfl, hba⟩; have HBa4 := Lib.hid hba; clear hba)
    | (go_at_call 30; (with_reducible show Calls _ _ #[confV plainC (.slice A1 n1 c1) (.slice A2 n2 c2) (.slice A3 n3 c3) (.slice A4 n4 c4), .string ⟨#[98]⟩, .string ⟨#[104, 114, 101, 102]⟩] _ _); refine (H3.out _ (by exact bel_eq12 HBa4.out rfl rfl rfl rfl)).mono ?_; rintro r wa5 ⟨rfl, hba⟩; have HBa5 := Lib.hid hba; clear hba)
    | (go_at_call 57; (with_reducible show Calls _ _ #[.agg #[.bool allC.allow, .bool allC.attrsAllow, .slice B1 k1 d1, .slice B2 k2 d2, .slice B3 k3 d3, .slice B4 k4 d4, .bool true, .bool allC.dataAttrs], .string ⟨#[115, 99, 114, 105, 112, 116]⟩] _ _); refine (H4.out _ (by exact bel_eq12 HBa5.out rfl rfl rfl rfl)).mono ?_; rintro r wa6 ⟨rfl, hba⟩; have HBa6 := Lib.hid hba; clear hba)
    | (go_at_call 30; (with_reducible show Calls _ _ #[.agg #[.bool allC.allow, .bool allC.attrsAllow, .slice B1 k1 d1, .slice B2 k2 d2, .slice B3 k3 d3, .slice B4 k4 d4, .bool true, .bool allC.dataAttrs], .string ⟨#[98]⟩, .string ⟨#[111, 110, 99, 108, 105, 99, 107]⟩] _ _); refine (H5.out _ (by exact bel_eq12 HBa6.out rfl rfl rfl rfl)).mono ?_; rintro r wa7 ⟨rfl, hba⟩; have HBa7 := Lib.hid hba; clear hba)
    | (go_at_call 57; (with_reducible show Calls _ _ #[confV (stripC allC) (.slice D1 i1 j1) (.slice D2 i2 j2) (.slice D3 i3 j3) (.slice D4 i4 j4), .string ⟨#[115, 99, 114, 105, 112, 116]⟩] _ _); refine (H6.out _ (by exact bel_eq12 HBa7.out rfl rfl rfl rfl)).mono ?_; rintro r wa8 ⟨rfl, hba⟩; have HBa8 := Lib.hid hba; clear hba)
    | (go_at_call 57; (with_reducible show Calls _ _ #[confV (stripC allC) (.slice D1 i1 j1) (.slice D2 i2 j2) (.slice D3 i3 j3) (.slice D4 i4 j4), .string ⟨#[98]⟩] _ _); refine (H7.out _ (by exact bel_eq12 HBa8.out rfl rfl rfl rfl)).mono ?_; rintro r wa9 ⟨rfl, hba⟩; have HBa9 := Lib.hid hba; clear hba)
    | (go_at_call 21; (with_reducible show Calls _ _ #[confV plainC (.slice A1 n1 c1) (.slice A2 n2 c2) (.slice A3 n3 c3) (.slice A4 n4 c4)] _ _); refine (H8.out _ (by exact bel_eq12 HBa9.out rfl rfl rfl rfl)).mono ?_; rintro r wa10 ⟨rfl, hba⟩; have HBa10 := Lib.hid hba; clear hba)
    | (go_at_call 21; (with_reducible show Calls _ _ #[.agg #[.bool false, .bool false, .slice none 0 0, .slice none 0 0, .slice none 0 0, .slice none 0 0, .bool false, .bool true]] _ _); refine (H9.out _ (by exact bel_eq12 HBa10.out rfl rfl rfl rfl)).mono ?_; rintro r wa11 ⟨rfl, hba⟩; have HBa11 := Lib.hid hba; clear hba)
    | (go_at_call 21; (with_reducible show Calls _ _ #[.agg #[_, _, .slice _ 1 1, _, _, _, _, _]] _ _); refine (H10.out _ _ (by exact heap_lit12 rfl) (by exact below_lit12 (bel_eq12 HBa11.out rfl rfl rfl rfl))).mono ?_; rintro r wa12 ⟨rfl, hba⟩; have HBa12 := Lib.hid hba; clear hba)
    | (go_at_call 21; (with_reducible show Calls _ _ #[.agg #[_, _, _, _, .slice _ 2 2, _, _, _]] _ _); refine (H11.out _ _ (by exact heap_lit12 rfl) (by exact below_lit12 (bel_eq12 HBa12.out rfl rfl rfl rfl))).mono ?_; rintro r wa13 ⟨rfl, hba⟩; have HBa13 := Lib.hid hba; clear hba))
  go_wp2
  go_ret
  exact ⟨rfl, HQ.out.trans ((bel_eq12 HBa13.out rfl rfl rfl rfl).mono HQ.out.size)⟩

end Go.Proofs.Ytgjlfcamgkeibaa.Co

namespace Go.Proofs.Ytgjlfcamgkeibaa.Co
set_option linter.unusedVariables false
set_option linter.unusedSimpArgs false
open Go.RowKit Ba Fm Fo Nm Rk
def noStr (cs : Array Value) : Prop := ∀ (i : Nat) (s : ByteArray), cs[i]? ≠ some (Value.string s)
theorem noStr8 (a b m d : Bool) (A1 A2 A3 A4 : Option Addr) (n1 n2 n3 n4 c1 c2 c3 c4 : Nat) : noStr #[.bool a, .bool b, .slice A1 n1 c1, .slice A2 n2 c2, .slice A3 n3 c3, .slice A4 n4 c4, .bool m, .bool d] := fun i s => by
  match i with
  | 0 | 1 | 2 | 3 | 4 | 5 | 6 | 7 => simp
  | i + 8 => simp
theorem sv_shape {w : World} {N : Nat} {v : Value} {l : List ByteArray} (h : Sv w N v l) : ∃ A n c, v = .slice A n c := by
  obtain ⟨A, c, e, _⟩ := h
  exact ⟨A, _, c, e⟩
theorem pv_shape {w : World} {N : Nat} {v : Value} {l : List Pw} (h : Pv w N v l) : ∃ A n c, v = .slice A n c := by
  obtain ⟨A, c, e, _⟩ := h
  exact ⟨A, _, c, e⟩
theorem sv_boxed {w w' : World} {b N : Nat} {cs : Array Value} {v : Value} {l : List ByteArray} (h : Sv w N v l) (hb : Hb w b cs) (hn : noStr cs) (hg : w.grownBy w' (some b)) (hN : N ≤ w.heap.size) : Sv w' N v l := by
  obtain ⟨A, c, e, h1, h2, h3⟩ := h
  refine ⟨A, c, e, h1, h2, fun h0 => ?_⟩
  obtain ⟨b', off, eA, hb', hc⟩ := h3 h0
  have hne : b' ≠ b := by
    rintro rfl
    have := hc 0 h0
    rw [cell_of_row w b' (off + 0) _ _ _ hb] at this
    exact hn _ _ this
  exact ⟨b', off, eA, hb', fun j hj => (World.cell?_of_block (a := ⟨b', off + j, none⟩) (hg.block b' (by omega) (by simpa using hne))).trans (hc j hj)⟩
theorem pv_boxed {w w' : World} {b N : Nat} {cs : Array Value} {v : Value} {l : List Pw} (h : Pv w N v l) (hb : Hb w b cs) (hn : noStr cs) (hg : w.grownBy w' (some b)) (hN : N ≤ w.heap.size) : Pv w' N v l := by
  obtain ⟨A, c, e, h1, h2, h3, h4⟩ := h
  refine ⟨A, c, e, h1, h2, fun h0 => ?_, fun x hx => sv_boxed (h4 x hx) hb hn hg hN⟩
  obtain ⟨b', off, eA, hb', hc⟩ := h3 h0
  have hne : b' ≠ b := by
    rintro rfl
    have := hc 0 h0 0 (.string l[0].pe.el) rfl
    rw [cell_of_row w b' _ _ _ _ hb] at this
    exact hn _ _ this
  exact ⟨b', off, eA, hb', fun j hj => range_keep12 (hc j hj) fun o => World.cell?_of_block (a := ⟨b', o, none⟩) (hg.block b' (by omega) (by simpa using hne))⟩
theorem cp_boxed {w w' : World} {b : Nat} {cs : Array Value} {c : Cf} {vE vR vA vP : Value} {l : List Pw} (h : Cp w w.heap.size c vE vR vA vP l) (hb : Hb w b cs) (hn : noStr cs) (hg : w.grownBy w' (some b)) : Cp w' w'.heap.size c vE vR vA vP l :=
  (⟨sv_boxed h.e hb hn hg (Nat.le_refl _), sv_boxed h.r hb hn hg (Nat.le_refl _), sv_boxed h.a hb hn hg (Nat.le_refl _), pv_boxed h.p hb hn hg (Nat.le_refl _), h.m⟩ : Cp w' w.heap.size c vE vR vA vP l).more hg.size
theorem res_hb {w : World} {g : Nat} {cs : Array Value} (h : Hb w g cs) (hc : cs.size = 8) (v0 v1 v2 v3 v4 v5 v6 v7 : Value) :
    ∃ W, W = w.setCells g 0 [v0, v1, v2, v3, v4, v5, v6, v7] ∧ w.grownBy W (some g) ∧ Hb W g #[v0, v1, v2, v3, v4, v5, v6, v7] := by
  refine ⟨_, rfl, gcells12 g _ 0 w, ?_⟩
  match cs, hc with
  | ⟨[x0, x1, x2, x3, x4, x5, x6, x7]⟩, _ =>
    exact (((((((h.set 0 v0 (by simp)).set 1 v1 (by simp)).set 2 v2 (by simp)).set 3 v3 (by simp)).set 4 v4 (by simp)).set 5 v5 (by simp)).set 6 v6 (by simp)).set 7 v7 (by simp)
theorem mem_bound {c : Cf} {p : Pe} (h : p ∈ (boundC c).per) : ∃ q ∈ c.per, p.el = q.el ∧ p.at_ = q.at_.take 70 := by
  obtain ⟨q, hq, rfl⟩ := List.mem_map.1 (show p ∈ (c.per.take 12).map fun p => (⟨p.el, p.at_.take 70⟩ : Pe) from h)
  exact ⟨q, List.mem_of_mem_take hq, rfl, rfl⟩
theorem sm_bound {c : Cf} (h : St c) : Sm (boundC c) := by
  refine ⟨?_, ?_, ?_, ?_, fun p hp => ?_, fun s hs => h.es s (List.mem_of_mem_take hs), fun s hs => h.rs s (List.mem_of_mem_take hs), fun s hs => h.as_ s (List.mem_of_mem_take hs), fun p hp => ?_⟩
  · show (c.els.take 70).length ≤ 1000; rw [List.length_take]; omega
  · show (c.reps.take 70).length ≤ 1000; rw [List.length_take]; omega
  · show (c.ats.take 70).length ≤ 1000; rw [List.length_take]; omega
  · show ((c.per.take 12).map _).length ≤ 1000; rw [List.length_map, List.length_take]; omega
  · obtain ⟨q, hq, h1, h2⟩ := mem_bound hp
    rw [h2, List.length_take]; omega
  · obtain ⟨q, hq, h1, h2⟩ := mem_bound hp
    rw [h1, h2]
    exact ⟨(h.ps q hq).1, fun s hs => (h.ps q hq).2 s (List.mem_of_mem_take hs)⟩
end Go.Proofs.Ytgjlfcamgkeibaa.Co

namespace Go.Proofs.Ytgjlfcamgkeibaa.Co
set_option maxRecDepth 100000
set_option linter.unusedVariables false
set_option linter.unusedSimpArgs false
open Go.RowKit Ba Fm Fo Nm Rk
theorem names_split (c : Cf) : namesB c = ((c.els.all rightB && c.reps.all rightB && (c.per.map Pe.el).all rightB && c.ats.all attrB) && c.per.all fun p => p.at_.all attrB) := by
  unfold namesB
  rw [Bool.eq_iff_iff]
  simp only [Bool.and_eq_true, List.all_eq_true]
  constructor
  · rintro ⟨⟨⟨h1, h2⟩, h3⟩, h4⟩
    exact ⟨⟨⟨⟨h1, h2⟩, fun x hx => by obtain ⟨p, hp, rfl⟩ := List.mem_map.1 hx; exact (h4 p hp).1⟩, h3⟩, fun p hp => (h4 p hp).2⟩
  · rintro ⟨⟨⟨⟨h1, h2⟩, h5⟩, h3⟩, h4⟩
    exact ⟨⟨⟨h1, h2⟩, h3⟩, fun p hp => ⟨h5 _ (List.mem_map.2 ⟨p, hp, rfl⟩), h4 p hp⟩⟩
theorem single_split (c : Cf) : singleB c = ((onceB c.els && onceB c.reps && onceB (c.per.map Pe.el) && onceB c.ats) && c.per.all fun p => onceB p.at_) := by
  unfold singleB
  cases onceB c.els <;> cases onceB c.reps <;> cases onceB c.ats <;> cases onceB (c.per.map Pe.el) <;> rfl
theorem all_snocX {α : Type} (p : α → Bool) (l : List α) (k : Nat) (x : α) (h : l[k]? = some x) : (l.take (k + 1)).all p = ((l.take k).all p && p x) := by
  have hk : k < l.length := (List.getElem?_eq_some_iff.1 h).1
  have hx : l[k] = x := (List.getElem?_eq_some_iff.1 h).2
  rw [List.take_succ_eq_append_getElem hk, List.all_append, hx]
  simp
theorem on_eqR {P : Program} {f : FuncId} {args : Array Value} {w0 w : World} {T : Ending → Prop} (h : Calls P f args w fun e w' => T e ∧ w = w') (hb : Below w0.heap.size w0 w) : Calls P f args w fun e w' => T e ∧ Below w0.heap.size w0 w' :=
  h.mono fun e w' ⟨he, hw⟩ => ⟨he, hw ▸ hb⟩
theorem on_baseR {P : Program} {f : FuncId} {args : Array Value} {w0 w : World} {T : Ending → Prop} (h : Calls P f args w fun e w' => T e ∧ Below w.heap.size w w') (hb : Below w0.heap.size w0 w) : Calls P f args w fun e w' => T e ∧ Below w0.heap.size w0 w' :=
  h.mono fun e w' ⟨he, hw⟩ => ⟨he, hb.trans (hw.mono hb.size)⟩
theorem of_onR {P : Program} {f : FuncId} {args : Array Value} {w0 w : World} {l : List ByteArray} (h : Calls P f args w fun e w' => ∃ v', e = .returned v' ∧ Sown w.heap.size w' v' l ∧ Below w.heap.size w w') (hb : Below w0.heap.size w0 w) : Calls P f args w fun e w' => ∃ v', e = .returned v' ∧ Sv w' w'.heap.size v' l ∧ Below w0.heap.size w0 w' :=
  h.mono fun e w' ⟨v', he, ho, hw⟩ => ⟨v', he, sv_own ho, hb.trans (hw.mono hb.size)⟩
set_option maxRecDepth 100000 in
set_option maxHeartbeats 8000000 in
theorem refCheck12 (v : Value) (c : Cf) (w : World) (q : Nat) (h : Cv w w.heap.size v c) (hs : Sm c) (hq : checkN c = q) :
    Calls Try.prog 22 #[v] w fun r w' => r = .returned (.int .i64 q) ∧ Below w.heap.size w w' := by
  obtain ⟨vE, vR, vA, vP, l, rfl, h⟩ := h
  obtain ⟨al, aa, els, reps, ats, per, cm, da⟩ := c
  obtain ⟨w0, hw0⟩ : ∃ w0, w.alloc (.cells #[.bool al, .bool aa, vE, vR, vA, vP, .bool cm, .bool da] 26) = w0 := ⟨_, rfl⟩
  have hb1 : Below w.heap.size w w0 := hw0 ▸ below_new12 w _
  have hbx : Bx w0 w.heap.size ⟨al, aa, els, reps, ats, per, cm, da⟩ vE vR vA vP := hw0 ▸ Bx.new w ⟨al, aa, els, reps, ats, per, cm, da⟩ vE vR vA vP
  have hz : w.heap.size < w0.heap.size := by rw [← hw0]; simp
  have h0 := h.on hb1
  have hcv : Cv w0 w0.heap.size (.agg #[.bool al, .bool aa, vE, vR, vA, vP, .bool cm, .bool da]) ⟨al, aa, els, reps, ats, per, cm, da⟩ := ⟨vE, vR, vA, vP, l, rfl, h0⟩
  have hpl : per.length = l.length := by have := h.m; simp only at this; rw [← this, len_pes]
  have hl : l.length ≤ 1000 := by have := hs.p; simp only at this; omega
  have hl1 := hs.e; have hl2 := hs.r; have hl3 := hs.a
  simp only at hl1 hl2 hl3
  have hlen : ∀ x ∈ l, x.pe.at_.length ≤ 1000 ∧ ∀ s ∈ x.pe.at_, s.size ≤ 140737488355328 := fun x hx => by
    have hm : x.pe ∈ per := by have := h.m; simp only at this; rw [← this]; exact List.mem_map.2 ⟨x, hx, rfl⟩
    exact ⟨hs.pa _ hm, (hs.ps _ hm).2⟩
  have hofs : ∀ s ∈ per.map Pe.el, s.size ≤ 140737488355328 := fun s hs' => by obtain ⟨p, hp, rfl⟩ := List.mem_map.1 hs'; exact (hs.ps _ hp).1
  obtain ⟨m1, hm1⟩ : ∃ b, els.all rightB = b := ⟨_, rfl⟩
  obtain ⟨m2, hm2⟩ : ∃ b, reps.all rightB = b := ⟨_, rfl⟩
  obtain ⟨m3, hm3⟩ : ∃ b, (per.map Pe.el).all rightB = b := ⟨_, rfl⟩
  obtain ⟨m4, hm4⟩ : ∃ b, ats.all attrB = b := ⟨_, rfl⟩
  obtain ⟨o1, ho1⟩ : ∃ b, onceB els = b := ⟨_, rfl⟩
  obtain ⟨o2, ho2⟩ : ∃ b, onceB reps = b := ⟨_, rfl⟩
  obtain ⟨o3, ho3⟩ : ∃ b, onceB (per.map Pe.el) = b := ⟨_, rfl⟩
  obtain ⟨o4, ho4⟩ : ∃ b, onceB ats = b := ⟨_, rfl⟩
  obtain ⟨t1, ht1⟩ : ∃ b, meetB els reps = b := ⟨_, rfl⟩
  obtain ⟨q1, hq1⟩ : ∃ b, decide (64 < els.length) = b := ⟨_, rfl⟩
  obtain ⟨q2, hq2⟩ : ∃ b, decide (64 < reps.length) = b := ⟨_, rfl⟩
  obtain ⟨q3, hq3⟩ : ∃ b, decide (64 < ats.length) = b := ⟨_, rfl⟩
  obtain ⟨q4, hq4⟩ : ∃ b, decide (64 < l.length) = b := ⟨_, rfl⟩
  have hbig : bigB ⟨al, aa, els, reps, ats, per, cm, da⟩ = ((q1 || q2 || q3 || q4) || l.any fun x => decide (64 < x.pe.at_.length)) := by
    have := h.m
    simp only at this
    unfold bigB
    simp only
    rw [hpl, ← this, hq1, hq2, hq3, hq4]
    unfold pes
    rw [List.any_map]
    rfl
  have hnam : namesB ⟨al, aa, els, reps, ats, per, cm, da⟩ = ((m1 && m2 && m3 && m4) && l.all fun x => x.pe.at_.all attrB) := by
    have := h.m
    simp only at this
    rw [names_split]
    simp only
    rw [hm1, hm2, hm3, hm4, ← this]
    unfold pes
    rw [List.all_map]
    rfl
  have hsin : singleB ⟨al, aa, els, reps, ats, per, cm, da⟩ = ((o1 && o2 && o3 && o4) && l.all fun x => onceB x.pe.at_) := by
    have := h.m
    simp only at this
    rw [single_split]
    simp only
    rw [ho1, ho2, ho3, ho4, ← this]
    unfold pes
    rw [List.all_map]
    rfl
  have hbot : bothB ⟨al, aa, els, reps, ats, per, cm, da⟩ = ((t1 || (da && !aa)) || l.any fun x => meetB x.pe.at_ ats) := by
    have := h.m
    simp only at this
    unfold bothB
    simp only
    rw [ht1, ← this]
    unfold pes
    rw [List.any_map]
    rfl
  unfold checkN at hq
  rw [hbig, hnam, hsin, hbot] at hq
  have HQ := Lib.hid hq
  have HBX := Lib.hid (fun wx (hb : Below w0.heap.size w0 wx) => (hbx.below hb hz).at_)
  have HMA := Lib.hid (fun wx (hb : Below w0.heap.size w0 wx) => on_eqR (refMay1 vE els false wx.heap.size wx m1 (sv_on h0.e hb) (by omega) hs.es hm1) hb)
  have HMB := Lib.hid (fun wx (hb : Below w0.heap.size w0 wx) => on_eqR (refMay1 vR reps false wx.heap.size wx m2 (sv_on h0.r hb) (by omega) hs.rs hm2) hb)
  have HMC := Lib.hid (fun u wx (ho : Sv wx wx.heap.size u (per.map Pe.el)) (hb : Below w0.heap.size w0 wx) => on_eqR (refMay1 u (per.map Pe.el) false wx.heap.size wx m3 ho (by rw [List.length_map]; omega) hofs hm3) hb)
  have HMD := Lib.hid (fun wx (hb : Below w0.heap.size w0 wx) => on_eqR (refMay1 vA ats true wx.heap.size wx m4 (sv_on h0.a hb) (by omega) hs.as_ hm4) hb)
  have HOA := Lib.hid (fun wx (hb : Below w0.heap.size w0 wx) => on_baseR (refOnce1 vE els wx o1 (sv_on h0.e hb) (by omega) ho1) hb)
  have HOB := Lib.hid (fun wx (hb : Below w0.heap.size w0 wx) => on_baseR (refOnce1 vR reps wx o2 (sv_on h0.r hb) (by omega) ho2) hb)
  have HOC := Lib.hid (fun u wx (ho : Sv wx wx.heap.size u (per.map Pe.el)) (hb : Below w0.heap.size w0 wx) => on_baseR (refOnce1 u (per.map Pe.el) wx o3 ho (by rw [List.length_map]; omega) ho3) hb)
  have HOD := Lib.hid (fun wx (hb : Below w0.heap.size w0 wx) => on_baseR (refOnce1 vA ats wx o4 (sv_on h0.a hb) (by omega) ho4) hb)
  have HOF := Lib.hid (fun wx (hb : Below w0.heap.size w0 wx) => of_onR (refOf1 (.agg #[.bool al, .bool aa, vE, vR, vA, vP, .bool cm, .bool da]) ⟨al, aa, els, reps, ats, per, cm, da⟩ wx (hcv.on hb) hs) hb)
  have HME := Lib.hid (fun wx (hb : Below w0.heap.size w0 wx) => on_eqR (refMeet1 vE vR wx.heap.size wx.heap.size els reps wx t1 (sv_on h0.e hb) (sv_on h0.r hb) (by omega) (by omega) ht1) hb)
  have HVA := Lib.hid h0.a
  obtain ⟨A, cp, rfl, hcp, hna, hr⟩ := h0.p
  obtain ⟨E, ce, rfl, _, _, _⟩ := h.e
  obtain ⟨R, cr, rfl, _, _, _⟩ := h.r
  obtain ⟨T, ct, rfl, _, _, _⟩ := h.a
  have HR := Lib.hid hr; have HLEN := Lib.hid hlen; have HB1 := Lib.hid hb1; have HW := Lib.hid hw0
  obtain ⟨n1, hn1⟩ : ∃ n, els.length = n := ⟨_, rfl⟩
  obtain ⟨n2, hn2⟩ : ∃ n, reps.length = n := ⟨_, rfl⟩
  obtain ⟨n3, hn3⟩ : ∃ n, ats.length = n := ⟨_, rfl⟩
  rw [hn1] at hq1 HBX HMA HOA HME HOF HW
  rw [hn2] at hq2 HBX HMB HOB HME HOF HW
  rw [hn3] at hq3 HBX HMD HOD HVA HOF HW
  rw [hn1, hn2, hn3]
  have HL3 := Lib.hid hl3; have HN3 := Lib.hid hn3
  clear hq hm1 hm2 hm3 hm4 ho1 ho2 ho3 ho4 ht1 hbig hnam hsin hbot h0 h hs hcv hbx hr hlen hb1 hw0 hofs hpl hl1 hl2 hl3 hn1 hn2 hn3
  go_enter Try.func22, Try.ntmps22
  go_upto_region 1 with (fail)
  rw [HW.out]
  obtain ⟨g0, g1, g2, g3, g4, g5, g6, g7⟩ := HBX.out w0 (Below.refl _ _)
  have e1 : decide ((64 : Int) < (n1 : Int)) = q1 := by rw [← hq1]; exact decide_eq_decide.2 (by omega)
  have e2 : decide ((64 : Int) < (n2 : Int)) = q2 := by rw [← hq2]; exact decide_eq_decide.2 (by omega)
  have e3 : decide ((64 : Int) < (n3 : Int)) = q3 := by rw [← hq3]; exact decide_eq_decide.2 (by omega)
  have e4 : decide ((64 : Int) < (l.length : Int)) = q4 := by rw [← hq4]; exact decide_eq_decide.2 (by omega)
  go_cut [3] from 9 to 30 (fun s wx => s = .bool (q1 || q2 || q3 || q4) ∧ w0 = wx)
  case first =>
    cases q1 with
    | true =>
      go_wp2
      go_meet
      exact ⟨by simp, rfl⟩
    | false =>
    cases q2 with
    | true =>
      go_wp2
      go_meet
      exact ⟨by simp, rfl⟩
    | false =>
    cases q3 with
    | true =>
      go_wp2
      go_meet
      exact ⟨by simp, rfl⟩
    | false =>
    cases q4 with
    | true =>
      go_wp2
      go_meet
      exact ⟨by simp, rfl⟩
    | false =>
      go_wp2
      go_meet
      exact ⟨by simp, rfl⟩
  case rest =>
  obtain ⟨rfl, rfl⟩ := hcut
  clear hq1 hq2 hq3 hq4 e1 e2 e3 e4
  go_upto_region 2 with (fail)
  have hb : Below w0.heap.size w0 w0 := Below.refl _ _
  go_cut [4] from 31 to 48 (fun s wx => s = .bool (m1 && m2 && m3 && m4) ∧ Below w0.heap.size w0 wx)
  case first =>
    cases m1 with
    | false =>
      go_wp2_with (first | (go_at_call 52; (with_reducible show Calls _ _ #[.slice E n1 ce, .bool false] _ _); refine (HMA.out _ hb).mono ?_; rintro r x1 ⟨rfl, hb⟩; clear g0 g1 g2 g3 g4 g5 g6 g7; obtain ⟨g0, g1, g2, g3, g4, g5, g6, g7⟩ := HBX.out _ hb) | (go_at_call 52; (with_reducible show Calls _ _ #[.slice R n2 cr, .bool false] _ _); refine (HMB.out _ hb).mono ?_; rintro r x1 ⟨rfl, hb⟩; clear g0 g1 g2 g3 g4 g5 g6 g7; obtain ⟨g0, g1, g2, g3, g4, g5, g6, g7⟩ := HBX.out _ hb) | (go_at_call 37; refine (HOF.out _ hb).mono ?_; rintro r x1 ⟨u, rfl, hu, hb⟩; clear g0 g1 g2 g3 g4 g5 g6 g7; obtain ⟨g0, g1, g2, g3, g4, g5, g6, g7⟩ := HBX.out _ hb) | (go_at_call 52; (with_reducible show Calls _ _ #[u, .bool false] _ _); refine (HMC.out _ _ hu hb).mono ?_; rintro r x1 ⟨rfl, hb⟩; clear g0 g1 g2 g3 g4 g5 g6 g7; obtain ⟨g0, g1, g2, g3, g4, g5, g6, g7⟩ := HBX.out _ hb) | (go_at_call 52; (with_reducible show Calls _ _ #[.slice T n3 ct, .bool true] _ _); refine (HMD.out _ hb).mono ?_; rintro r x1 ⟨rfl, hb⟩; clear g0 g1 g2 g3 g4 g5 g6 g7; obtain ⟨g0, g1, g2, g3, g4, g5, g6, g7⟩ := HBX.out _ hb))
      go_meet
      exact ⟨by simp, hb⟩
    | true =>
    cases m2 with
    | false =>
      go_wp2_with (first | (go_at_call 52; (with_reducible show Calls _ _ #[.slice E n1 ce, .bool false] _ _); refine (HMA.out _ hb).mono ?_; rintro r x1 ⟨rfl, hb⟩; clear g0 g1 g2 g3 g4 g5 g6 g7; obtain ⟨g0, g1, g2, g3, g4, g5, g6, g7⟩ := HBX.out _ hb) | (go_at_call 52; (with_reducible show Calls _ _ #[.slice R n2 cr, .bool false] _ _); refine (HMB.out _ hb).mono ?_; rintro r x1 ⟨rfl, hb⟩; clear g0 g1 g2 g3 g4 g5 g6 g7; obtain ⟨g0, g1, g2, g3, g4, g5, g6, g7⟩ := HBX.out _ hb) | (go_at_call 37; refine (HOF.out _ hb).mono ?_; rintro r x1 ⟨u, rfl, hu, hb⟩; clear g0 g1 g2 g3 g4 g5 g6 g7; obtain ⟨g0, g1, g2, g3, g4, g5, g6, g7⟩ := HBX.out _ hb) | (go_at_call 52; (with_reducible show Calls _ _ #[u, .bool false] _ _); refine (HMC.out _ _ hu hb).mono ?_; rintro r x1 ⟨rfl, hb⟩; clear g0 g1 g2 g3 g4 g5 g6 g7; obtain ⟨g0, g1, g2, g3, g4, g5, g6, g7⟩ := HBX.out _ hb) | (go_at_call 52; (with_reducible show Calls _ _ #[.slice T n3 ct, .bool true] _ _); refine (HMD.out _ hb).mono ?_; rintro r x1 ⟨rfl, hb⟩; clear g0 g1 g2 g3 g4 g5 g6 g7; obtain ⟨g0, g1, g2, g3, g4, g5, g6, g7⟩ := HBX.out _ hb))
      go_meet
      exact ⟨by simp, hb⟩
    | true =>
    cases m3 with
    | false =>
      go_wp2_with (first | (go_at_call 52; (with_reducible show Calls _ _ #[.slice E n1 ce, .bool false] _ _); refine (HMA.out _ hb).mono ?_; rintro r x1 ⟨rfl, hb⟩; clear g0 g1 g2 g3 g4 g5 g6 g7; obtain ⟨g0, g1, g2, g3, g4, g5, g6, g7⟩ := HBX.out _ hb) | (go_at_call 52; (with_reducible show Calls _ _ #[.slice R n2 cr, .bool false] _ _); refine (HMB.out _ hb).mono ?_; rintro r x1 ⟨rfl, hb⟩; clear g0 g1 g2 g3 g4 g5 g6 g7; obtain ⟨g0, g1, g2, g3, g4, g5, g6, g7⟩ := HBX.out _ hb) | (go_at_call 37; refine (HOF.out _ hb).mono ?_; rintro r x1 ⟨u, rfl, hu, hb⟩; clear g0 g1 g2 g3 g4 g5 g6 g7; obtain ⟨g0, g1, g2, g3, g4, g5, g6, g7⟩ := HBX.out _ hb) | (go_at_call 52; (with_reducible show Calls _ _ #[u, .bool false] _ _); refine (HMC.out _ _ hu hb).mono ?_; rintro r x1 ⟨rfl, hb⟩; clear g0 g1 g2 g3 g4 g5 g6 g7; obtain ⟨g0, g1, g2, g3, g4, g5, g6, g7⟩ := HBX.out _ hb) | (go_at_call 52; (with_reducible show Calls _ _ #[.slice T n3 ct, .bool true] _ _); refine (HMD.out _ hb).mono ?_; rintro r x1 ⟨rfl, hb⟩; clear g0 g1 g2 g3 g4 g5 g6 g7; obtain ⟨g0, g1, g2, g3, g4, g5, g6, g7⟩ := HBX.out _ hb))
      go_meet
      exact ⟨by simp, hb⟩
    | true =>
      go_wp2_with (first | (go_at_call 52; (with_reducible show Calls _ _ #[.slice E n1 ce, .bool false] _ _); refine (HMA.out _ hb).mono ?_; rintro r x1 ⟨rfl, hb⟩; clear g0 g1 g2 g3 g4 g5 g6 g7; obtain ⟨g0, g1, g2, g3, g4, g5, g6, g7⟩ := HBX.out _ hb) | (go_at_call 52; (with_reducible show Calls _ _ #[.slice R n2 cr, .bool false] _ _); refine (HMB.out _ hb).mono ?_; rintro r x1 ⟨rfl, hb⟩; clear g0 g1 g2 g3 g4 g5 g6 g7; obtain ⟨g0, g1, g2, g3, g4, g5, g6, g7⟩ := HBX.out _ hb) | (go_at_call 37; refine (HOF.out _ hb).mono ?_; rintro r x1 ⟨u, rfl, hu, hb⟩; clear g0 g1 g2 g3 g4 g5 g6 g7; obtain ⟨g0, g1, g2, g3, g4, g5, g6, g7⟩ := HBX.out _ hb) | (go_at_call 52; (with_reducible show Calls _ _ #[u, .bool false] _ _); refine (HMC.out _ _ hu hb).mono ?_; rintro r x1 ⟨rfl, hb⟩; clear g0 g1 g2 g3 g4 g5 g6 g7; obtain ⟨g0, g1, g2, g3, g4, g5, g6, g7⟩ := HBX.out _ hb) | (go_at_call 52; (with_reducible show Calls _ _ #[.slice T n3 ct, .bool true] _ _); refine (HMD.out _ hb).mono ?_; rintro r x1 ⟨rfl, hb⟩; clear g0 g1 g2 g3 g4 g5 g6 g7; obtain ⟨g0, g1, g2, g3, g4, g5, g6, g7⟩ := HBX.out _ hb))
      go_meet
      exact ⟨by simp, hb⟩
  case rest =>
  obtain ⟨rfl, hb⟩ := hcut
  clear g0 g1 g2 g3 g4 g5 g6 g7
  obtain ⟨g0, g1, g2, g3, g4, g5, g6, g7⟩ := HBX.out _ hb
  clear HMA HMB HMC HMD
  go_upto_region 3 with (fail)
  go_cut [5] from 49 to 66 (fun s wx => s = .bool (o1 && o2 && o3 && o4) ∧ Below w0.heap.size w0 wx)
  case first =>
    cases o1 with
    | false =>
      go_wp2_with (first | (go_at_call 53; (with_reducible show Calls _ _ #[.slice E n1 ce] _ _); refine (HOA.out _ hb).mono ?_; rintro r x1 ⟨rfl, hb⟩; clear g0 g1 g2 g3 g4 g5 g6 g7; obtain ⟨g0, g1, g2, g3, g4, g5, g6, g7⟩ := HBX.out _ hb) | (go_at_call 53; (with_reducible show Calls _ _ #[.slice R n2 cr] _ _); refine (HOB.out _ hb).mono ?_; rintro r x1 ⟨rfl, hb⟩; clear g0 g1 g2 g3 g4 g5 g6 g7; obtain ⟨g0, g1, g2, g3, g4, g5, g6, g7⟩ := HBX.out _ hb) | (go_at_call 37; refine (HOF.out _ hb).mono ?_; rintro r x1 ⟨u, rfl, hu, hb⟩; clear g0 g1 g2 g3 g4 g5 g6 g7; obtain ⟨g0, g1, g2, g3, g4, g5, g6, g7⟩ := HBX.out _ hb) | (go_at_call 53; (with_reducible show Calls _ _ #[u] _ _); refine (HOC.out _ _ hu hb).mono ?_; rintro r x1 ⟨rfl, hb⟩; clear g0 g1 g2 g3 g4 g5 g6 g7; obtain ⟨g0, g1, g2, g3, g4, g5, g6, g7⟩ := HBX.out _ hb) | (go_at_call 53; (with_reducible show Calls _ _ #[.slice T n3 ct] _ _); refine (HOD.out _ hb).mono ?_; rintro r x1 ⟨rfl, hb⟩; clear g0 g1 g2 g3 g4 g5 g6 g7; obtain ⟨g0, g1, g2, g3, g4, g5, g6, g7⟩ := HBX.out _ hb))
      go_meet
      exact ⟨by simp, hb⟩
    | true =>
    cases o2 with
    | false =>
      go_wp2_with (first | (go_at_call 53; (with_reducible show Calls _ _ #[.slice E n1 ce] _ _); refine (HOA.out _ hb).mono ?_; rintro r x1 ⟨rfl, hb⟩; clear g0 g1 g2 g3 g4 g5 g6 g7; obtain ⟨g0, g1, g2, g3, g4, g5, g6, g7⟩ := HBX.out _ hb) | (go_at_call 53; (with_reducible show Calls _ _ #[.slice R n2 cr] _ _); refine (HOB.out _ hb).mono ?_; rintro r x1 ⟨rfl, hb⟩; clear g0 g1 g2 g3 g4 g5 g6 g7; obtain ⟨g0, g1, g2, g3, g4, g5, g6, g7⟩ := HBX.out _ hb) | (go_at_call 37; refine (HOF.out _ hb).mono ?_; rintro r x1 ⟨u, rfl, hu, hb⟩; clear g0 g1 g2 g3 g4 g5 g6 g7; obtain ⟨g0, g1, g2, g3, g4, g5, g6, g7⟩ := HBX.out _ hb) | (go_at_call 53; (with_reducible show Calls _ _ #[u] _ _); refine (HOC.out _ _ hu hb).mono ?_; rintro r x1 ⟨rfl, hb⟩; clear g0 g1 g2 g3 g4 g5 g6 g7; obtain ⟨g0, g1, g2, g3, g4, g5, g6, g7⟩ := HBX.out _ hb) | (go_at_call 53; (with_reducible show Calls _ _ #[.slice T n3 ct] _ _); refine (HOD.out _ hb).mono ?_; rintro r x1 ⟨rfl, hb⟩; clear g0 g1 g2 g3 g4 g5 g6 g7; obtain ⟨g0, g1, g2, g3, g4, g5, g6, g7⟩ := HBX.out _ hb))
      go_meet
      exact ⟨by simp, hb⟩
    | true =>
    cases o3 with
    | false =>
      go_wp2_with (first | (go_at_call 53; (with_reducible show Calls _ _ #[.slice E n1 ce] _ _); refine (HOA.out _ hb).mono ?_; rintro r x1 ⟨rfl, hb⟩; clear g0 g1 g2 g3 g4 g5 g6 g7; obtain ⟨g0, g1, g2, g3, g4, g5, g6, g7⟩ := HBX.out _ hb) | (go_at_call 53; (with_reducible show Calls _ _ #[.slice R n2 cr] _ _); refine (HOB.out _ hb).mono ?_; rintro r x1 ⟨rfl, hb⟩; clear g0 g1 g2 g3 g4 g5 g6 g7; obtain ⟨g0, g1, g2, g3, g4, g5, g6, g7⟩ := HBX.out _ hb) | (go_at_call 37; refine (HOF.out _ hb).mono ?_; rintro r x1 ⟨u, rfl, hu, hb⟩; clear g0 g1 g2 g3 g4 g5 g6 g7; obtain ⟨g0, g1, g2, g3, g4, g5, g6, g7⟩ := HBX.out _ hb) | (go_at_call 53; (with_reducible show Calls _ _ #[u] _ _); refine (HOC.out _ _ hu hb).mono ?_; rintro r x1 ⟨rfl, hb⟩; clear g0 g1 g2 g3 g4 g5 g6 g7; obtain ⟨g0, g1, g2, g3, g4, g5, g6, g7⟩ := HBX.out _ hb) | (go_at_call 53; (with_reducible show Calls _ _ #[.slice T n3 ct] _ _); refine (HOD.out _ hb).mono ?_; rintro r x1 ⟨rfl, hb⟩; clear g0 g1 g2 g3 g4 g5 g6 g7; obtain ⟨g0, g1, g2, g3, g4, g5, g6, g7⟩ := HBX.out _ hb))
      go_meet
      exact ⟨by simp, hb⟩
    | true =>
      go_wp2_with (first | (go_at_call 53; (with_reducible show Calls _ _ #[.slice E n1 ce] _ _); refine (HOA.out _ hb).mono ?_; rintro r x1 ⟨rfl, hb⟩; clear g0 g1 g2 g3 g4 g5 g6 g7; obtain ⟨g0, g1, g2, g3, g4, g5, g6, g7⟩ := HBX.out _ hb) | (go_at_call 53; (with_reducible show Calls _ _ #[.slice R n2 cr] _ _); refine (HOB.out _ hb).mono ?_; rintro r x1 ⟨rfl, hb⟩; clear g0 g1 g2 g3 g4 g5 g6 g7; obtain ⟨g0, g1, g2, g3, g4, g5, g6, g7⟩ := HBX.out _ hb) | (go_at_call 37; refine (HOF.out _ hb).mono ?_; rintro r x1 ⟨u, rfl, hu, hb⟩; clear g0 g1 g2 g3 g4 g5 g6 g7; obtain ⟨g0, g1, g2, g3, g4, g5, g6, g7⟩ := HBX.out _ hb) | (go_at_call 53; (with_reducible show Calls _ _ #[u] _ _); refine (HOC.out _ _ hu hb).mono ?_; rintro r x1 ⟨rfl, hb⟩; clear g0 g1 g2 g3 g4 g5 g6 g7; obtain ⟨g0, g1, g2, g3, g4, g5, g6, g7⟩ := HBX.out _ hb) | (go_at_call 53; (with_reducible show Calls _ _ #[.slice T n3 ct] _ _); refine (HOD.out _ hb).mono ?_; rintro r x1 ⟨rfl, hb⟩; clear g0 g1 g2 g3 g4 g5 g6 g7; obtain ⟨g0, g1, g2, g3, g4, g5, g6, g7⟩ := HBX.out _ hb))
      go_meet
      exact ⟨by simp, hb⟩
  case rest =>
  obtain ⟨rfl, hb⟩ := hcut
  clear g0 g1 g2 g3 g4 g5 g6 g7
  obtain ⟨g0, g1, g2, g3, g4, g5, g6, g7⟩ := HBX.out _ hb
  clear HOA HOB HOC HOD HOF
  go_upto_region 4 with (fail)
  go_cut [6] from 67 to 80 (fun s wx => s = .bool (t1 || (da && !aa)) ∧ Below w0.heap.size w0 wx)
  case first =>
    cases t1 with
    | true =>
      go_wp2_with (go_at_call 54; (with_reducible show Calls _ _ #[.slice E n1 ce, .slice R n2 cr] _ _); refine (HME.out _ hb).mono ?_; rintro r x1 ⟨rfl, hb⟩; clear g0 g1 g2 g3 g4 g5 g6 g7; obtain ⟨g0, g1, g2, g3, g4, g5, g6, g7⟩ := HBX.out _ hb)
      go_meet
      exact ⟨by simp, hb⟩
    | false =>
    cases da with
    | false =>
      go_wp2_with (go_at_call 54; (with_reducible show Calls _ _ #[.slice E n1 ce, .slice R n2 cr] _ _); refine (HME.out _ hb).mono ?_; rintro r x1 ⟨rfl, hb⟩; clear g0 g1 g2 g3 g4 g5 g6 g7; obtain ⟨g0, g1, g2, g3, g4, g5, g6, g7⟩ := HBX.out _ hb)
      go_meet
      exact ⟨by simp, hb⟩
    | true =>
      go_wp2_with (go_at_call 54; (with_reducible show Calls _ _ #[.slice E n1 ce, .slice R n2 cr] _ _); refine (HME.out _ hb).mono ?_; rintro r x1 ⟨rfl, hb⟩; clear g0 g1 g2 g3 g4 g5 g6 g7; obtain ⟨g0, g1, g2, g3, g4, g5, g6, g7⟩ := HBX.out _ hb)
      go_meet
      exact ⟨by simp, hb⟩
  case rest =>
  obtain ⟨rfl, hb⟩ := hcut
  clear g0 g1 g2 g3 g4 g5 g6 g7 HME
  go_wp2
  go_loopw [3, 4, 5, 6, 7, 8] (fun b n o m i _ wr => ∃ (k : Nat) (fb fn fo fm : Bool), i = .int .i64 k ∧ k ≤ l.length ∧ b = .bool fb ∧ fb = ((q1 || q2 || q3 || q4) || (l.take k).any fun x => decide (64 < x.pe.at_.length)) ∧ n = .bool fn ∧ fn = ((m1 && m2 && m3 && m4) && (l.take k).all fun x => x.pe.at_.all Nm.attrB) ∧ o = .bool fo ∧ fo = ((o1 && o2 && o3 && o4) && (l.take k).all fun x => onceB x.pe.at_) ∧ m = .bool fm ∧ fm = ((t1 || (da && !aa)) || (l.take k).any fun x => meetB x.pe.at_ ats) ∧ Below w0.heap.size w0 wr) (fun _ _ _ _ i _ _ => l.length - (intOf i).toNat)
  case atStart => exact ⟨0, _, _, _, _, rfl, Nat.zero_le _, rfl, by simp, rfl, by simp, rfl, by simp, rfl, by simp, hb⟩
  case round =>
    clear hb
    obtain ⟨k, fb, fn, fo, fm, rfl, hks, rfl, hfb, rfl, hfn, rfl, hfo, rfl, hfm, hb⟩ := hrel
    obtain ⟨g0, g1, g2, g3, g4, g5, g6, g7⟩ := HBX.out _ hb
    by_cases hk : k < l.length
    · obtain ⟨b, off, x, rfl, hlt, hx, hcs, _, hxm⟩ := (HR.out.below hb).at_ k hk
      obtain ⟨k0, k1⟩ := range2p hcs
      have hs0 := HR.out.2 x hxm
      obtain ⟨hx1, hx2⟩ := HLEN.out x hxm
      obtain ⟨xb, hxb⟩ : ∃ b, decide (64 < x.pe.at_.length) = b := ⟨_, rfl⟩
      obtain ⟨xn, hxn⟩ : ∃ b, x.pe.at_.all Nm.attrB = b := ⟨_, rfl⟩
      obtain ⟨xo, hxo⟩ : ∃ b, onceB x.pe.at_ = b := ⟨_, rfl⟩
      obtain ⟨xm, hxmm⟩ : ∃ b, meetB x.pe.at_ ats = b := ⟨_, rfl⟩
      have HFB := Lib.hid (show (fb || xb) = ((q1 || q2 || q3 || q4) || (l.take (k + 1)).any fun x => decide (64 < x.pe.at_.length)) from by rw [any_snoc _ l k x hx, hfb, ← hxb]; exact Bool.or_assoc _ _ _)
      have HFN := Lib.hid (show (fn && xn) = ((m1 && m2 && m3 && m4) && (l.take (k + 1)).all fun x => x.pe.at_.all Nm.attrB) from by rw [all_snocX _ l k x hx, hfn, ← hxn]; exact Bool.and_assoc _ _ _)
      have HFO := Lib.hid (show (fo && xo) = ((o1 && o2 && o3 && o4) && (l.take (k + 1)).all fun x => onceB x.pe.at_) from by rw [all_snocX _ l k x hx, hfo, ← hxo]; exact Bool.and_assoc _ _ _)
      have HFM := Lib.hid (show (fm || xm) = ((t1 || (da && !aa)) || (l.take (k + 1)).any fun x => meetB x.pe.at_ ats) from by rw [any_snoc _ l k x hx, hfm, ← hxmm]; exact Bool.or_assoc _ _ _)
      have hl3 := HL3.out
      have HMX := Lib.hid (fun wx (hb : Below w0.heap.size w0 wx) => on_eqR (refMay1 (.slice x.A x.pe.at_.length x.c) x.pe.at_ true wx.heap.size wx xn (sv_on hs0 hb) (by omega) hx2 hxn) hb)
      have HOX := Lib.hid (fun wx (hb : Below w0.heap.size w0 wx) => on_baseR (refOnce1 (.slice x.A x.pe.at_.length x.c) x.pe.at_ wx xo (sv_on hs0 hb) (by omega) hxo) hb)
      have HEX := Lib.hid (fun wx (hb : Below w0.heap.size w0 wx) => on_eqR (refMeet1 (.slice x.A x.pe.at_.length x.c) (.slice T n3 ct) wx.heap.size wx.heap.size x.pe.at_ ats wx xm (sv_on hs0 hb) (sv_on HVA.out hb) (by omega) (by omega) hxmm) hb)
      have hexb : decide ((64 : Int) < (x.pe.at_.length : Int)) = xb := by rw [← hxb]; exact decide_eq_decide.2 (by omega)
      clear hfb hfn hfo hfm hcs hs0 hx hx2 hxn hxo hxmm hxb hl3
      go_upto_region 9 with (fail)
      go_cut [3] from 94 to 99 (fun s wx => s = .bool (fb || xb) ∧ wr = wx)
      case first =>
        cases fb with
        | true =>
          go_wp2
          go_meet
          exact ⟨by simp, rfl⟩
        | false =>
          go_wp2
          go_meet
          exact ⟨by simp, rfl⟩
      case rest =>
      obtain ⟨rfl, rfl⟩ := hcut
      clear hexb
      go_upto_region 10 with (fail)
      go_cut [4] from 100 to 104 (fun s wx => s = .bool (fn && xn) ∧ Below w0.heap.size w0 wx)
      case first =>
        cases fn with
        | false =>
          go_wp2
          go_meet
          exact ⟨by simp, hb⟩
        | true =>
          go_wp2_with (go_at_call 52; refine (HMX.out _ hb).mono ?_; rintro r x1 ⟨rfl, hb⟩)
          go_meet
          exact ⟨by simp, hb⟩
      case rest =>
      clear hb
      obtain ⟨rfl, hb⟩ := hcut
      go_upto_region 11 with (fail)
      go_cut [5] from 105 to 109 (fun s wx => s = .bool (fo && xo) ∧ Below w0.heap.size w0 wx)
      case first =>
        cases fo with
        | false =>
          go_wp2
          go_meet
          exact ⟨by simp, hb⟩
        | true =>
          go_wp2_with (go_at_call 53; refine (HOX.out _ hb).mono ?_; rintro r x1 ⟨rfl, hb⟩)
          go_meet
          exact ⟨by simp, hb⟩
      case rest =>
      clear hb
      obtain ⟨rfl, hb⟩ := hcut
      clear g0 g1 g2 g3 g4 g5 g6 g7
      obtain ⟨g0, g1, g2, g3, g4, g5, g6, g7⟩ := HBX.out _ hb
      go_upto_region 12 with (fail)
      cases fm with
      | true =>
        go_wp2
        go_roundw
        case rel => exact ⟨k + 1, _, _, _, true, by go_num, by omega, rfl, HFB.out, rfl, HFN.out, rfl, HFO.out, rfl, (Bool.true_or xm).symm.trans HFM.out, hb⟩
        case measure => simp [intOf]; omega
      | false =>
        go_wp2_with (go_at_call 54; refine (HEX.out _ hb).mono ?_; rintro r x1 ⟨rfl, hb⟩)
        go_roundw
        case rel => exact ⟨k + 1, _, _, _, xm, by go_num, by omega, rfl, HFB.out, rfl, HFN.out, rfl, HFO.out, rfl, (Bool.false_or xm).symm.trans HFM.out, hb⟩
        case measure => simp [intOf]; omega
    · rw [List.take_of_length_le (by omega)] at hfb hfn hfo hfm
      have hq := HQ.out
      rw [← hfb, ← hfn, ← hfo, ← hfm] at hq
      have HBL := Lib.hid (HB1.out.trans (hb.mono (Nat.le_of_lt hz)))
      clear hfb hfn hfo hfm
      cases fb with
      | true =>
        simp at hq
        subst hq
        go_wp2
        go_ret
        exact ⟨rfl, HBL.out⟩
      | false =>
      cases fn with
      | false =>
        simp at hq
        subst hq
        go_wp2
        go_ret
        exact ⟨rfl, HBL.out⟩
      | true =>
      cases fo with
      | false =>
        simp at hq
        subst hq
        go_wp2
        go_ret
        exact ⟨rfl, HBL.out⟩
      | true =>
      cases fm with
      | true =>
        simp at hq
        subst hq
        go_wp2
        go_ret
        exact ⟨rfl, HBL.out⟩
      | false =>
        simp at hq
        subst hq
        go_wp2
        go_ret
        exact ⟨rfl, HBL.out⟩

end Go.Proofs.Ytgjlfcamgkeibaa.Co

namespace Go.Proofs.Ytgjlfcamgkeibaa.Co
set_option maxRecDepth 100000
set_option linter.unusedVariables false
set_option linter.unusedSimpArgs false
open Go.RowKit Ba Fm Fo Nm Rk
theorem noZero : noStr zeroA := fun i s => by
  match i with
  | 0 | 1 | 2 | 3 | 4 | 5 | 6 | 7 => simp [zeroA]
  | i + 8 => simp [zeroA]
set_option maxRecDepth 100000 in
set_option maxHeartbeats 2000000 in
theorem refStrip12 (v : Value) (c : Cf) (w : World) (h : Cv w w.heap.size v c) (hs : Sm c) :
    Calls Try.prog 16 #[v] w fun r w' => ∃ v', r = .returned v' ∧ Cv w' w'.heap.size v' (stripC c) ∧ Below w.heap.size w w' := by
  obtain ⟨vE, vR, vA, vP, l, rfl, h⟩ := h
  obtain ⟨A1, n1, c1, rfl⟩ := sv_shape h.e
  obtain ⟨A2, n2, c2, rfl⟩ := sv_shape h.r
  obtain ⟨A3, n3, c3, rfl⟩ := sv_shape h.a
  obtain ⟨A4, n4, c4, rfl⟩ := pv_shape h.p
  obtain ⟨w0, hw0⟩ : ∃ w0, (w.alloc (confO c (.slice A1 n1 c1) (.slice A2 n2 c2) (.slice A3 n3 c3) (.slice A4 n4 c4))).alloc zeroO = w0 := ⟨_, rfl⟩
  have hba := below_new12 w (confO c (.slice A1 n1 c1) (.slice A2 n2 c2) (.slice A3 n3 c3) (.slice A4 n4 c4))
  have hb1 : Below w.heap.size w w0 := hw0 ▸ hba.trans ((below_new12 _ _).mono hba.size)
  have hz : w0.heap.size = w.heap.size + 2 := by rw [← hw0]; simp
  have hzb : Hb w0 (w.heap.size + 1) zeroA := by
    rw [← hw0]
    have := Hb.new (w.alloc (confO c (.slice A1 n1 c1) (.slice A2 n2 c2) (.slice A3 n3 c3) (.slice A4 n4 c4))) zeroA
    rwa [World.size_alloc] at this
  have hx0 : Hb w0 w.heap.size #[.bool c.allow, .bool c.attrsAllow, .slice A1 n1 c1, .slice A2 n2 c2, .slice A3 n3 c3, .slice A4 n4 c4, .bool c.comments, .bool c.dataAttrs] := hw0 ▸ (Hb.new w _).on (below_new12 _ _)
  have HW := Lib.hid hw0; have HB1 := Lib.hid hb1; have HZB := Lib.hid hzb; have HX0 := Lib.hid hx0; have HP0 := Lib.hid (h.on hb1)
  have hel := hs.e; have hrl := hs.r
  clear hs h hb1 hw0 hba hzb hx0
  go_enter Try.func16, Try.ntmps16
  go_upto_region 1 with (fail)
  rw [HW.out]
  clear HW
  have HS1 := Lib.hid (fun wx (hb : Below w0.heap.size w0 wx) => show wx.cell? ⟨w.heap.size, 3, none⟩ = some (.slice A2 n2 c2) from (HX0.out.on hb).cell 3 _ rfl)
  refine wp_region_noPanic ?_
  refine Ph.T_begin (fun w' => w'.cell? ⟨w.heap.size, 3, none⟩ = some (.slice A2 n2 c2)) 5 (by kernel_rfl) ?_ (fun hHeld => ?_)
  · exact HS1.out _ (bel_eq12 (Below.refl _ w0) rfl rfl rfl rfl)
  refine Ph.T_pure (i := 0) (oi := _) (v := ?_) rfl (by kernel_rfl) (by kernel_rfl) (by kernel_rfl) (by kernel_rfl) (fun _ _ _ h => h) (Or.inl ⟨by rfl, ?_⟩) (by assumption) (fun hHeld => ?_)
  rotate_left
  · intro w hSw; (try dsimp only at hSw); go_simp; all_goals with_reducible rfl
  try simp only [Act.put, List.getElem_toArray, List.getElem_cons_zero, List.getElem_cons_succ, List.setIfInBounds_toArray, List.set_cons_zero, List.set_cons_succ]
  refine Ph.T_take (i := 1) (oi := _) (v := ?_) rfl (by kernel_rfl) (by kernel_rfl) (by kernel_rfl) (by kernel_rfl) (fun _ _ _ h => h) (Or.inl ⟨by rfl, ?_⟩) (by assumption) (fun hHeld => ?_)
  rotate_left
  · intro w hSw; (try dsimp only at hSw); go_simp; all_goals with_reducible rfl
  try simp only [Act.put, List.getElem_toArray, List.getElem_cons_zero, List.getElem_cons_succ, List.setIfInBounds_toArray, List.set_cons_zero, List.set_cons_succ]
  refine Ph.T_one (i := 2) (o := _) (by kernel_rfl) rfl (fun K hK => ?_)
  go_simp
  go_at_call 39
  refine (unsafe12 _).mono ?_
  rintro r u1 ⟨x1, rfl, ho, hc⟩
  have HC1 := Lib.hid (show Below w0.heap.size w0 u1 from ⟨hc.os, hc.tape, hc.output, hc.size, hc.block⟩)
  have HO1 := Lib.hid ho
  clear hc ho
  go_wp2_with fail
  refine hK.out _ _ ?_ (fun hHeld => ?_)
  · exact HS1.out _ HC1.out
  clear hK K
  try simp only [Act.put, List.getElem_toArray, List.getElem_cons_zero, List.getElem_cons_succ, List.setIfInBounds_toArray, List.set_cons_zero, List.set_cons_succ]
  refine Ph.T_one (i := 3) (o := _) (by kernel_rfl) rfl (fun K hK => ?_)
  go_simp
  go_at_call 38
  refine (refMinus1 (.slice A2 n2 c2) x1 c.reps unsafeL u1 (sv_on HP0.out.r HC1.out) (sv_own HO1.out) (by omega) (by decide)).mono ?_
  rintro r y1 ⟨z1, rfl, ho, hc⟩
  obtain ⟨B1, m1, j1, rfl⟩ := own_shape ho
  have HD1 := Lib.hid (HC1.out.trans (hc.mono HC1.out.size))
  have HP1 := Lib.hid ho
  clear hc ho
  go_wp2_with fail
  refine hK.out _ _ ?_ (fun hHeld => ?_)
  · exact HS1.out _ HD1.out
  clear hK K
  try simp only [Act.put, List.getElem_toArray, List.getElem_cons_zero, List.getElem_cons_succ, List.setIfInBounds_toArray, List.set_cons_zero, List.set_cons_succ]
  refine Ph.T_pure (i := 4) (oi := _) (v := ?_) rfl (by kernel_rfl) (by kernel_rfl) (by kernel_rfl) (by kernel_rfl) (fun _ _ _ h => h) (Or.inl ⟨by rfl, ?_⟩) (by assumption) (fun hHeld => ?_)
  rotate_left
  · intro w hSw; (try dsimp only at hSw); go_simp; all_goals with_reducible rfl
  try simp only [Act.put, List.getElem_toArray, List.getElem_cons_zero, List.getElem_cons_succ, List.setIfInBounds_toArray, List.set_cons_zero, List.set_cons_succ]
  have hy1 := HX0.out.on HD1.out
  have t1 := hy1.cell 3 _ rfl
  have f1 := hy1.f 3
  refine Ph.T_last (i := 5) (o := _) (by kernel_rfl) (by kernel_rfl) rfl (fun K hK => ?_)
  go_simp
  go_wp2_with fail
  refine hK.out _ _ ?_
  clear hK K
  try simp only [Act.put, List.getElem_toArray, List.getElem_cons_zero, List.getElem_cons_succ, List.setIfInBounds_toArray, List.set_cons_zero, List.set_cons_succ]
  refine Ph.T_done (by kernel_rfl) ?_ _
  refine NoPanic.normal ?_
  have HO := Lib.hid hy1
  obtain ⟨W1, hW1⟩ : ∃ W1, y1.setCell ⟨w.heap.size, 3, none⟩ (.slice B1 m1 j1) = W1 := ⟨_, rfl⟩
  rw [hW1]
  have hg1 : y1.grownBy W1 (some w.heap.size) := hW1 ▸ gcell12 y1 _ 3 _
  have hx1 : Hb W1 w.heap.size #[.bool c.allow, .bool c.attrsAllow, .slice A1 n1 c1, .slice B1 m1 j1, .slice A3 n3 c3, .slice A4 n4 c4, .bool c.comments, .bool c.dataAttrs] := hW1 ▸ hy1.set 3 (.slice B1 m1 j1)
  have hp1 : Cp W1 W1.heap.size { c with reps := mns c.reps unsafeL } (.slice A1 n1 c1) (.slice B1 m1 j1) (.slice A3 n3 c3) (.slice A4 n4 c4) l := cp_boxed ⟨sv_on HP0.out.e HD1.out, sv_own HP1.out, sv_on HP0.out.a HD1.out, (HP0.out.on HD1.out).p, HP0.out.m⟩ hy1 (noStr8 _ _ _ _ _ _ _ _ _ _ _ _ _ _ _ _) hg1
  have hb1 : Below w.heap.size w W1 := (HB1.out.trans (HD1.out.mono HB1.out.size)).grown hg1 (Nat.le_trans HB1.out.size HD1.out.size) (fun q hq => by injection hq with hq; omega)
  have hzW : Hb W1 (w.heap.size + 1) zeroA := (HZB.out.on HD1.out).keep (hg1.block _ (HZB.out.on HD1.out).lt (by simp))
  have t0 := hx1.cell 0 _ rfl
  have HX1 := Lib.hid hx1; have HP2 := Lib.hid hp1; have HB2 := Lib.hid hb1; have HZ1 := Lib.hid hzW
  clear hW1 hg1 hx1 hp1 hb1 hzW hy1 t1 f1 HO HS1 HC1 HO1
  cases hal : c.allow with
  | true =>
    rw [hal] at t0
    have HAL := Lib.hid hal; clear hal
    go_upto_region 3 with (fail)
    have HS2 := Lib.hid (fun wx (hb : Below W1.heap.size W1 wx) => show wx.cell? ⟨w.heap.size, 2, none⟩ = some (.slice A1 n1 c1) from (HX1.out.on hb).cell 2 _ rfl)
    refine wp_region_noPanic ?_
    refine Ph.T_begin (fun w' => w'.cell? ⟨w.heap.size, 2, none⟩ = some (.slice A1 n1 c1)) 5 (by kernel_rfl) ?_ (fun hHeld => ?_)
    · exact HS2.out _ (bel_eq12 (Below.refl _ W1) rfl rfl rfl rfl)
    refine Ph.T_pure (i := 0) (oi := _) (v := ?_) rfl (by kernel_rfl) (by kernel_rfl) (by kernel_rfl) (by kernel_rfl) (fun _ _ _ h => h) (Or.inl ⟨by rfl, ?_⟩) (by assumption) (fun hHeld => ?_)
    rotate_left
    · intro w hSw; (try dsimp only at hSw); go_simp; all_goals with_reducible rfl
    try simp only [Act.put, List.getElem_toArray, List.getElem_cons_zero, List.getElem_cons_succ, List.setIfInBounds_toArray, List.set_cons_zero, List.set_cons_succ]
    refine Ph.T_take (i := 1) (oi := _) (v := ?_) rfl (by kernel_rfl) (by kernel_rfl) (by kernel_rfl) (by kernel_rfl) (fun _ _ _ h => h) (Or.inl ⟨by rfl, ?_⟩) (by assumption) (fun hHeld => ?_)
    rotate_left
    · intro w hSw; (try dsimp only at hSw); go_simp; all_goals with_reducible rfl
    try simp only [Act.put, List.getElem_toArray, List.getElem_cons_zero, List.getElem_cons_succ, List.setIfInBounds_toArray, List.set_cons_zero, List.set_cons_succ]
    refine Ph.T_one (i := 2) (o := _) (by kernel_rfl) rfl (fun K hK => ?_)
    go_simp
    go_at_call 39
    refine (unsafe12 _).mono ?_
    rintro r u2 ⟨x2, rfl, ho, hc⟩
    have HC2 := Lib.hid (show Below W1.heap.size W1 u2 from ⟨hc.os, hc.tape, hc.output, hc.size, hc.block⟩)
    have HO2 := Lib.hid ho
    clear hc ho
    go_wp2_with fail
    refine hK.out _ _ ?_ (fun hHeld => ?_)
    · exact HS2.out _ HC2.out
    clear hK K
    try simp only [Act.put, List.getElem_toArray, List.getElem_cons_zero, List.getElem_cons_succ, List.setIfInBounds_toArray, List.set_cons_zero, List.set_cons_succ]
    refine Ph.T_one (i := 3) (o := _) (by kernel_rfl) rfl (fun K hK => ?_)
    go_simp
    go_at_call 38
    refine (refMinus1 (.slice A1 n1 c1) x2 c.els unsafeL u2 (sv_on HP2.out.e HC2.out) (sv_own HO2.out) (by omega) (by decide)).mono ?_
    rintro r y2 ⟨z2, rfl, ho, hc⟩
    obtain ⟨B2, m2, j2, rfl⟩ := own_shape ho
    have HD2 := Lib.hid (HC2.out.trans (hc.mono HC2.out.size))
    have HP3 := Lib.hid ho
    clear hc ho
    go_wp2_with fail
    refine hK.out _ _ ?_ (fun hHeld => ?_)
    · exact HS2.out _ HD2.out
    clear hK K
    try simp only [Act.put, List.getElem_toArray, List.getElem_cons_zero, List.getElem_cons_succ, List.setIfInBounds_toArray, List.set_cons_zero, List.set_cons_succ]
    refine Ph.T_pure (i := 4) (oi := _) (v := ?_) rfl (by kernel_rfl) (by kernel_rfl) (by kernel_rfl) (by kernel_rfl) (fun _ _ _ h => h) (Or.inl ⟨by rfl, ?_⟩) (by assumption) (fun hHeld => ?_)
    rotate_left
    · intro w hSw; (try dsimp only at hSw); go_simp; all_goals with_reducible rfl
    try simp only [Act.put, List.getElem_toArray, List.getElem_cons_zero, List.getElem_cons_succ, List.setIfInBounds_toArray, List.set_cons_zero, List.set_cons_succ]
    have hy2 := HX1.out.on HD2.out
    have t2 := hy2.cell 2 _ rfl
    have f2 := hy2.f 2
    refine Ph.T_last (i := 5) (o := _) (by kernel_rfl) (by kernel_rfl) rfl (fun K hK => ?_)
    go_simp
    go_wp2_with fail
    refine hK.out _ _ ?_
    clear hK K
    try simp only [Act.put, List.getElem_toArray, List.getElem_cons_zero, List.getElem_cons_succ, List.setIfInBounds_toArray, List.set_cons_zero, List.set_cons_succ]
    refine Ph.T_done (by kernel_rfl) ?_ _
    refine NoPanic.normal ?_
    obtain ⟨W2, hW2⟩ : ∃ W2, y2.setCell ⟨w.heap.size, 2, none⟩ (.slice B2 m2 j2) = W2 := ⟨_, rfl⟩
    rw [hW2]
    have hg2 : y2.grownBy W2 (some w.heap.size) := hW2 ▸ gcell12 y2 _ 2 _
    have hx2 : Hb W2 w.heap.size #[.bool c.allow, .bool c.attrsAllow, .slice B2 m2 j2, .slice B1 m1 j1, .slice A3 n3 c3, .slice A4 n4 c4, .bool c.comments, .bool c.dataAttrs] := hW2 ▸ hy2.set 2 (.slice B2 m2 j2)
    have hp2 : Cp W2 W2.heap.size (stripC c) (.slice B2 m2 j2) (.slice B1 m1 j1) (.slice A3 n3 c3) (.slice A4 n4 c4) l := cp_boxed ⟨by rw [strip_yes HAL.out]; exact sv_own HP3.out, sv_on HP2.out.r HD2.out, sv_on HP2.out.a HD2.out, (HP2.out.on HD2.out).p, HP2.out.m⟩ hy2 (noStr8 _ _ _ _ _ _ _ _ _ _ _ _ _ _ _ _) hg2
    have hb2 : Below w.heap.size w W2 := (HB2.out.trans (HD2.out.mono HB2.out.size)).grown hg2 (Nat.le_trans HB2.out.size HD2.out.size) (fun q hq => by injection hq with hq; omega)
    have hz2 : Hb W2 (w.heap.size + 1) zeroA := (HZ1.out.on HD2.out).keep (hg2.block _ (HZ1.out.on HD2.out).lt (by simp))
    clear hW2 hg2 hy2 t2 f2 t0 HS2 HC2 HO2
    have HRG2 := Lib.hid hx2.range; have HTH2 := Lib.hid (hz2.there 8 rfl)
    go_wp2_with (first
      | (show wpList _ _ _ (⟨_, Op.load 26 (.tmp 1), _, _, _, _⟩ :: _) _ _; refine wpList_load_mid rfl 26 (.tmp 1) rfl w.heap.size 0 rfl _ _ HRG2.out Try.underlying26 rfl size_conf ?_)
      | (show wpList _ _ _ (⟨none, Op.store 26 (.tmp 2) (.tmp 16), _, _, _, _⟩ :: _) _ _; refine wpList_store_mid rfl 26 (.tmp 2) (.tmp 16) rfl (w.heap.size + 1) 0 #[.bool c.allow, .bool c.attrsAllow, .slice B2 m2 j2, .slice B1 m1 j1, .slice A3 n3 c3, .slice A4 n4 c4, .bool c.comments, .bool c.dataAttrs] rfl rfl HTH2.out size_conf (by simp [Value.oneCell']) ?_))
    obtain ⟨W, hW, hgW, hbW⟩ := res_hb hz2 rfl (.bool c.allow) (.bool c.attrsAllow) (.slice B2 m2 j2) (.slice B1 m1 j1) (.slice A3 n3 c3) (.slice A4 n4 c4) (.bool c.comments) (.bool c.dataAttrs)
    have hbx := (show Bx W (w.heap.size + 1) (c) (.slice B2 m2 j2) (.slice B1 m1 j1) (.slice A3 n3 c3) (.slice A4 n4 c4) from hbW.range)
    obtain ⟨z0, z1, z2, z3, z4, z5, z6, z7⟩ := hbx.at_
    rw [← hW]
    have hcp := cp_boxed hp2 hz2 noZero hgW
    have hbl : Below w.heap.size w W := hb2.grown hgW hb2.size (fun q hq => by injection hq with hq; omega)
    clear HRG2 HTH2 hgW hW hbx hbW
    go_wp2
    exact bodyPost_ret (v := confV (c) (.slice B2 m2 j2) (.slice B1 m1 j1) (.slice A3 n3 c3) (.slice A4 n4 c4)) (by simp [results, Try.f16, go_sem, z0, z1, z2, z3, z4, z5, z6, z7]) rfl ⟨_, rfl, ⟨_, _, _, _, _, rfl, hcp⟩, hbl⟩
  | false =>
    rw [hal] at t0
    have HAL := Lib.hid hal; clear hal
    obtain ⟨Ae, ce, ee, hce, hme, hre⟩ := sv_on HP2.out.e (below_new12 W1 (.cells #[] 9))
    injection ee with e1 e2 e3
    subst e1; subst e2; subst e3
    have hmade := Sown.made W1
    have HRE := Lib.hid hre; have HMD := Lib.hid hmade
    have t2 := HX1.out.cell 2 _ rfl
    have g2 : (W1.alloc (.cells #[] 9)).cell? ⟨w.heap.size, 2, none⟩ = some (.slice A1 c.els.length c1) := (HX1.out.on (below_new12 W1 _)).cell 2 _ rfl
    clear hre hmade
    go_upto_region 6 with (first
      | (at_builtin; refine app_all _ rfl (.tmp 17) (.tmp 19) rfl W1.heap.size _ [] c.els A1 c1 _ rfl HMD.out rfl hme HRE.out (by simp; omega) (by simp) ?_; intro v4 w4 ho4 hk4 hr4; rw [List.nil_append] at ho4; obtain ⟨B4, m4, j4, rfl⟩ := own_shape ho4; have HO4 := Lib.hid ho4; have HB4 := Lib.hid (hk4 W1 (below_new12 W1 _)); clear ho4 hk4 hr4)
      | fail)
    clear t2 g2
    have HS3 := Lib.hid (fun wx (hb : Below w4.heap.size w4 wx) => show wx.cell? ⟨w.heap.size, 2, none⟩ = some (.slice A1 c.els.length c1) from ((HX1.out.on HB4.out).on hb).cell 2 _ rfl)
    refine wp_region_noPanic ?_
    refine Ph.T_begin (fun w' => w'.cell? ⟨w.heap.size, 2, none⟩ = some (.slice A1 c.els.length c1)) 6 (by kernel_rfl) ?_ (fun hHeld => ?_)
    · exact HS3.out _ (bel_eq12 (Below.refl _ w4) rfl rfl rfl rfl)
    refine Ph.T_pure (i := 0) (oi := _) (v := ?_) rfl (by kernel_rfl) (by kernel_rfl) (by kernel_rfl) (by kernel_rfl) (fun _ _ _ h => h) (Or.inl ⟨by rfl, ?_⟩) (by assumption) (fun hHeld => ?_)
    rotate_left
    · intro w hSw; (try dsimp only at hSw); go_simp; all_goals with_reducible rfl
    try simp only [Act.put, List.getElem_toArray, List.getElem_cons_zero, List.getElem_cons_succ, List.setIfInBounds_toArray, List.set_cons_zero, List.set_cons_succ]
    refine Ph.T_pure (i := 2) (oi := _) (v := ?_) rfl (by kernel_rfl) (by kernel_rfl) (by kernel_rfl) (by kernel_rfl) (fun _ _ _ h => h) (Or.inl ⟨by rfl, ?_⟩) (by assumption) (fun hHeld => ?_)
    rotate_left
    · intro w hSw; (try dsimp only at hSw); go_simp; all_goals with_reducible rfl
    try simp only [Act.put, List.getElem_toArray, List.getElem_cons_zero, List.getElem_cons_succ, List.setIfInBounds_toArray, List.set_cons_zero, List.set_cons_succ]
    refine Ph.T_take (i := 3) (oi := _) (v := ?_) rfl (by kernel_rfl) (by kernel_rfl) (by kernel_rfl) (by kernel_rfl) (fun _ _ _ h => h) (Or.inl ⟨by rfl, ?_⟩) (by assumption) (fun hHeld => ?_)
    rotate_left
    · intro w hSw; (try dsimp only at hSw); go_simp; all_goals with_reducible rfl
    try simp only [Act.put, List.getElem_toArray, List.getElem_cons_zero, List.getElem_cons_succ, List.setIfInBounds_toArray, List.set_cons_zero, List.set_cons_succ]
    refine Ph.T_one (i := 1) (o := _) (by kernel_rfl) rfl (fun K hK => ?_)
    go_simp
    go_at_call 39
    refine (unsafe12 _).mono ?_
    rintro r u3 ⟨x3, rfl, ho, hc⟩
    have HC3 := Lib.hid (show Below w4.heap.size w4 u3 from ⟨hc.os, hc.tape, hc.output, hc.size, hc.block⟩)
    have HO3 := Lib.hid ho
    clear hc ho
    go_wp2_with fail
    refine hK.out _ _ ?_ (fun hHeld => ?_)
    · exact HS3.out _ HC3.out
    clear hK K
    try simp only [Act.put, List.getElem_toArray, List.getElem_cons_zero, List.getElem_cons_succ, List.setIfInBounds_toArray, List.set_cons_zero, List.set_cons_succ]
    refine Ph.T_one (i := 4) (o := _) (by kernel_rfl) rfl (fun K hK => ?_)
    go_simp
    go_at_call 38
    refine (refMinus1 x3 (.slice A1 c.els.length c1) unsafeL c.els u3 (sv_own HO3.out) (sv_on HP2.out.e (HB4.out.trans (HC3.out.mono HB4.out.size))) (by decide) (by omega)).mono ?_
    rintro r y3 ⟨z3, rfl, ho, hc⟩
    have HD3 := Lib.hid (HC3.out.trans (hc.mono HC3.out.size))
    have HP3 := Lib.hid ho
    clear hc ho
    go_wp2_with fail
    refine hK.out _ _ ?_ (fun hHeld => ?_)
    · exact HS3.out _ HD3.out
    clear hK K
    try simp only [Act.put, List.getElem_toArray, List.getElem_cons_zero, List.getElem_cons_succ, List.setIfInBounds_toArray, List.set_cons_zero, List.set_cons_succ]
    have hE5 := HO4.out.below HD3.out (Nat.le_refl _)
    have hx5 := (HX1.out.on HB4.out).on HD3.out
    refine Ph.T_one (i := 5) (o := _) (by kernel_rfl) rfl (fun K hK => ?_)
    refine step_app_strs y3 (by rfl) (.tmp 21) (.tmp 25) (by rfl) W1.heap.size (.slice B4 m4 j4) z3 c.els (mns unsafeL c.els) hE5 (sv_own HP3.out) (Nat.le_trans HB4.out.size HD3.out.size) (by have := len_mns unsafeL c.els; have : unsafeL.length = 8 := rfl; omega) (by simp [Act.eval, Act.put]) (by simp [Act.eval, Act.put]) ?_
    intro v9 w6 ho9 hg6
    obtain ⟨B9, m9, j9, rfl⟩ := own_shape ho9
    have hx6 := hb_beside hx5 hE5 hg6
    refine hK.out _ _ ?_ (fun hHeld => ?_)
    · exact hx6.cell 2 _ rfl
    clear hK K
    try simp only [Act.put, List.getElem_toArray, List.getElem_cons_zero, List.getElem_cons_succ, List.setIfInBounds_toArray, List.set_cons_zero, List.set_cons_succ]
    refine Ph.T_free (i := 6) (oi := _) (v := ?_) (by kernel_rfl) (by kernel_rfl) rfl (Or.inl ⟨by rfl, ?_⟩) ?_
    rotate_left
    · intro w; go_simp; all_goals with_reducible rfl
    try simp only [Act.put, List.getElem_toArray, List.getElem_cons_zero, List.getElem_cons_succ, List.setIfInBounds_toArray, List.set_cons_zero, List.set_cons_succ]
    refine Ph.T_done (by kernel_rfl) ?_ _
    refine NoPanic.normal ?_
    have hb6 : Below W1.heap.size W1 w6 := (HB4.out.trans (HD3.out.mono HB4.out.size)).grown hg6 (Nat.le_trans HB4.out.size HD3.out.size) (fun q hq => (World.ownsRow.lt hE5 q hq).1)
    have t2 := hx6.cell 2 _ rfl; have f2 := hx6.f 2
    have HX6 := Lib.hid hx6; have HO9 := Lib.hid ho9; have HB6 := Lib.hid hb6
    clear hx6 hx5 hE5 hg6 ho9 hb6 t0
    go_upto_region 8 with (fail)
    obtain ⟨W2, hW2⟩ : ∃ W2, w6.setCell ⟨w.heap.size, 2, none⟩ (.slice B9 m9 j9) = W2 := ⟨_, rfl⟩
    rw [hW2]
    have hg2 : w6.grownBy W2 (some w.heap.size) := hW2 ▸ gcell12 w6 _ 2 _
    have hx2 : Hb W2 w.heap.size #[.bool c.allow, .bool c.attrsAllow, .slice B9 m9 j9, .slice B1 m1 j1, .slice A3 n3 c3, .slice A4 n4 c4, .bool c.comments, .bool c.dataAttrs] := hW2 ▸ HX6.out.set 2 (.slice B9 m9 j9)
    have hp2 : Cp W2 W2.heap.size (stripC c) (.slice B9 m9 j9) (.slice B1 m1 j1) (.slice A3 n3 c3) (.slice A4 n4 c4) l := cp_boxed ⟨by rw [strip_no HAL.out]; exact sv_own HO9.out, sv_on HP2.out.r HB6.out, sv_on HP2.out.a HB6.out, (HP2.out.on HB6.out).p, HP2.out.m⟩ HX6.out (noStr8 _ _ _ _ _ _ _ _ _ _ _ _ _ _ _ _) hg2
    have hb2 : Below w.heap.size w W2 := (HB2.out.trans (HB6.out.mono HB2.out.size)).grown hg2 (Nat.le_trans HB2.out.size HB6.out.size) (fun q hq => by injection hq with hq; omega)
    have hz2 : Hb W2 (w.heap.size + 1) zeroA := (HZ1.out.on HB6.out).keep (hg2.block _ (HZ1.out.on HB6.out).lt (by simp))
    clear hW2 hg2 t2 f2
    have HRG3 := Lib.hid hx2.range; have HTH3 := Lib.hid (hz2.there 8 rfl)
    go_wp2_with (first
      | (show wpList _ _ _ (⟨_, Op.load 26 (.tmp 1), _, _, _, _⟩ :: _) _ _; refine wpList_load_mid rfl 26 (.tmp 1) rfl w.heap.size 0 rfl _ _ HRG3.out Try.underlying26 rfl size_conf ?_)
      | (show wpList _ _ _ (⟨none, Op.store 26 (.tmp 2) (.tmp 29), _, _, _, _⟩ :: _) _ _; refine wpList_store_mid rfl 26 (.tmp 2) (.tmp 29) rfl (w.heap.size + 1) 0 #[.bool c.allow, .bool c.attrsAllow, .slice B9 m9 j9, .slice B1 m1 j1, .slice A3 n3 c3, .slice A4 n4 c4, .bool c.comments, .bool c.dataAttrs] rfl rfl HTH3.out size_conf (by simp [Value.oneCell']) ?_))
    obtain ⟨W, hW, hgW, hbW⟩ := res_hb hz2 rfl (.bool c.allow) (.bool c.attrsAllow) (.slice B9 m9 j9) (.slice B1 m1 j1) (.slice A3 n3 c3) (.slice A4 n4 c4) (.bool c.comments) (.bool c.dataAttrs)
    have hbx := (show Bx W (w.heap.size + 1) (c) (.slice B9 m9 j9) (.slice B1 m1 j1) (.slice A3 n3 c3) (.slice A4 n4 c4) from hbW.range)
    obtain ⟨z0, z1, z2, z3, z4, z5, z6, z7⟩ := hbx.at_
    rw [← hW]
    have hcp := cp_boxed hp2 hz2 noZero hgW
    have hbl : Below w.heap.size w W := hb2.grown hgW hb2.size (fun q hq => by injection hq with hq; omega)
    clear HRG3 HTH3 hgW hW hbx hbW
    go_wp2
    exact bodyPost_ret (v := confV (c) (.slice B9 m9 j9) (.slice B1 m1 j1) (.slice A3 n3 c3) (.slice A4 n4 c4)) (by simp [results, Try.f16, go_sem, z0, z1, z2, z3, z4, z5, z6, z7]) rfl ⟨_, rfl, ⟨_, _, _, _, _, rfl, hcp⟩, hbl⟩

end Go.Proofs.Ytgjlfcamgkeibaa.Co

namespace Go.Proofs.Ytgjlfcamgkeibaa.Co
set_option maxRecDepth 100000
set_option linter.unusedVariables false
set_option linter.unusedSimpArgs false
open Go.RowKit Ba Fm Fo Nm Rk
theorem len_pick (per : List Pe) (e : ByteArray) : (pickP per e).length ≤ per.length := List.length_filter_le _ _
theorem len_groupR (per : List Pe) : ∀ es : List ByteArray, (groupL per es).length ≤ es.length * per.length
  | [] => Nat.zero_le _
  | e :: r => by
    show (pickP per e ++ groupL per r).length ≤ _
    have h1 := len_groupR per r
    have h2 := len_pick per e
    rw [List.length_append, List.length_cons, Nat.succ_mul]
    omega
theorem group_snoc (per : List Pe) (es : List ByteArray) (k : Nat) (h : k < es.length) : groupL per (es.take (k + 1)) = groupL per (es.take k) ++ pickP per es[k] := by
  rw [List.take_succ_eq_append_getElem h]
  unfold groupL
  rw [List.flatMap_append, List.flatMap_cons, List.flatMap_nil, List.append_nil]
theorem gb_on {W w w' : World} {q : Nat} (hg : W.grownBy w (some q)) (hb : Below w.heap.size w w') : W.grownBy w' (some q) := ⟨hb.os.trans hg.os, hb.tape.trans hg.tape, hb.output.trans hg.output, Nat.le_trans hg.size hb.size, fun i hi hn => (hb.block i (Nat.lt_of_lt_of_le hi hg.size)).trans (hg.block i hi hn)⟩
theorem gb_own {W w w' : World} {q : Nat} {o : Option Nat} (hg : W.grownBy w (some q)) (hg2 : w.grownBy w' o) (hne : ∀ b, o = some b → W.heap.size ≤ b) : W.grownBy w' (some q) := ⟨hg2.os.trans hg.os, hg2.tape.trans hg.tape, hg2.output.trans hg.output, Nat.le_trans hg.size hg2.size, fun i hi hn => (hg2.block i (Nat.lt_of_lt_of_le hi hg.size) (fun e => by have := hne i e.symm; omega)).trans (hg.block i hi hn)⟩
theorem gb_set {W w w' : World} {q : Nat} (hg : W.grownBy w (some q)) (hg2 : w.grownBy w' (some q)) : W.grownBy w' (some q) := ⟨hg2.os.trans hg.os, hg2.tape.trans hg.tape, hg2.output.trans hg.output, Nat.le_trans hg.size hg2.size, fun i hi hn => (hg2.block i (Nat.lt_of_lt_of_le hi hg.size) hn).trans (hg.block i hi hn)⟩
theorem pick_snoc (per : List Pe) (e : ByteArray) (k : Nat) (p : Pe) (h : per[k]? = some p) : pickP ((per.take (k + 1)).map sortP) e = pickP ((per.take k).map sortP) e ++ (if p.el = e ∧ p.at_ ≠ [] then [sortP p] else []) := by
  obtain ⟨hk, hp⟩ := List.getElem?_eq_some_iff.1 h
  rw [List.take_succ_eq_append_getElem hk, hp, List.map_append]
  unfold pickP
  rw [List.filter_append]
  congr 1
  show List.filter _ [sortP p] = _
  rw [List.filter_cons, List.filter_nil]
  have e2 : (sortP p).at_ ≠ [] ↔ p.at_ ≠ [] := by
    show srt lt p.at_ ≠ [] ↔ _
    exact not_congr srt_none
  have hd : (decide ((sortP p).el = e) && decide ((sortP p).at_ ≠ [])) = decide (p.el = e ∧ p.at_ ≠ []) := by
    rw [Bool.eq_iff_iff]
    simp only [Bool.and_eq_true, decide_eq_true_eq]
    exact and_congr_right fun _ => e2
  rw [hd]
  by_cases h : p.el = e ∧ p.at_ ≠ []
  · rw [decide_eq_true h, if_pos rfl, if_pos h]
  · rw [decide_eq_false h, if_neg (by simp), if_neg h]
set_option maxRecDepth 100000 in
set_option maxHeartbeats 3000000 in
theorem refCanon12 (v : Value) (c : Cf) (w : World) (h : Cv w w.heap.size v c) (hs : Sm c) :
    Calls Try.prog 15 #[v] w fun r w' => ∃ v', r = .returned v' ∧ Cv w' w'.heap.size v' (canonC c) ∧ Below w.heap.size w w' := by
  obtain ⟨vE, vR, vA, vP, l, rfl, h⟩ := h
  obtain ⟨A1, n1, c1, rfl⟩ := sv_shape h.e
  obtain ⟨A2, n2, c2, rfl⟩ := sv_shape h.r
  obtain ⟨A3, n3, c3, rfl⟩ := sv_shape h.a
  obtain ⟨A4, c4, rfl, -, -, -⟩ := h.p
  obtain ⟨w0, hw0⟩ : ∃ w0, (w.alloc (confO c (.slice A1 n1 c1) (.slice A2 n2 c2) (.slice A3 n3 c3) (.slice A4 l.length c4))).alloc zeroO = w0 := ⟨_, rfl⟩
  have hba := below_new12 w (confO c (.slice A1 n1 c1) (.slice A2 n2 c2) (.slice A3 n3 c3) (.slice A4 l.length c4))
  have hb1 : Below w.heap.size w w0 := hw0 ▸ hba.trans ((below_new12 _ _).mono hba.size)
  have hz : w0.heap.size = w.heap.size + 2 := by rw [← hw0]; simp
  have hzb : Hb w0 (w.heap.size + 1) zeroA := by
    rw [← hw0]
    have := Hb.new (w.alloc (confO c (.slice A1 n1 c1) (.slice A2 n2 c2) (.slice A3 n3 c3) (.slice A4 l.length c4))) zeroA
    rwa [World.size_alloc] at this
  have hx0 : Hb w0 w.heap.size #[.bool c.allow, .bool c.attrsAllow, .slice A1 n1 c1, .slice A2 n2 c2, .slice A3 n3 c3, .slice A4 l.length c4, .bool c.comments, .bool c.dataAttrs] := hw0 ▸ (Hb.new w _).on (below_new12 _ _)
  have HW := Lib.hid hw0; have HB1 := Lib.hid hb1; have HZB := Lib.hid hzb; have HX0 := Lib.hid hx0; have HP0 := Lib.hid (h.on hb1)
  have hel := hs.e; have hrl := hs.r; have htl := hs.a; have hpl := hs.p
  have HSM := Lib.hid hs
  have HS := Lib.hid (fun wx (hb : Below w0.heap.size w0 wx) => show (wx.cell? ⟨w.heap.size, 0, none⟩ = some (.bool c.allow) ∧ wx.cell? ⟨w.heap.size, 1, none⟩ = some (.bool c.attrsAllow) ∧ wx.cell? ⟨w.heap.size, 2, none⟩ = some (.slice A1 n1 c1) ∧ wx.cell? ⟨w.heap.size, 3, none⟩ = some (.slice A2 n2 c2) ∧ wx.cell? ⟨w.heap.size, 4, none⟩ = some (.slice A3 n3 c3) ∧ wx.cell? ⟨w.heap.size, 6, none⟩ = some (.bool c.comments) ∧ wx.cell? ⟨w.heap.size, 7, none⟩ = some (.bool c.dataAttrs)) from ⟨(hx0.on hb).cell 0 _ rfl, (hx0.on hb).cell 1 _ rfl, (hx0.on hb).cell 2 _ rfl, (hx0.on hb).cell 3 _ rfl, (hx0.on hb).cell 4 _ rfl, (hx0.on hb).cell 6 _ rfl, (hx0.on hb).cell 7 _ rfl⟩)
  clear hs h hb1 hw0 hba hzb hx0 hz
  go_enter Try.func15, Try.ntmps15
  go_upto_region 1 with (fail)
  rw [HW.out]
  clear HW
  go_cut [3] from 7 to 24 (fun u wx => ∃ (q : Nat) (B1 : Option Addr) (m1 j1 : Nat) (B2 : Option Addr) (m2 j2 : Nat) (B3 : Option Addr) (m3 j3 : Nat), u = .pointer (some ⟨q, 0, none⟩) ∧ w0.heap.size ≤ q ∧ Hb wx q #[.bool c.allow, .bool c.attrsAllow, .slice B1 m1 j1, .slice B2 m2 j2, .slice B3 m3 j3, .slice none 0 0, .bool c.comments, .bool c.dataAttrs] ∧ Sown w0.heap.size wx (.slice B1 m1 j1) (srt lt c.els) ∧ Sown w0.heap.size wx (.slice B2 m2 j2) (srt lt c.reps) ∧ Sown w0.heap.size wx (.slice B3 m3 j3) (srt lt c.ats) ∧ Below w0.heap.size w0 wx)
  case first =>
    go_wp2_with fail
    refine wp_region_noPanic ?_
    refine wp_region_held_drew (S := fun wx => (wx.cell? ⟨w.heap.size, 0, none⟩ = some (.bool c.allow) ∧ wx.cell? ⟨w.heap.size, 1, none⟩ = some (.bool c.attrsAllow) ∧ wx.cell? ⟨w.heap.size, 2, none⟩ = some (.slice A1 n1 c1) ∧ wx.cell? ⟨w.heap.size, 3, none⟩ = some (.slice A2 n2 c2) ∧ wx.cell? ⟨w.heap.size, 4, none⟩ = some (.slice A3 n3 c3) ∧ wx.cell? ⟨w.heap.size, 6, none⟩ = some (.bool c.comments) ∧ wx.cell? ⟨w.heap.size, 7, none⟩ = some (.bool c.dataAttrs))) (by kernel_rfl) ?_ (fun hHeld => ?_)
    · exact HS.out _ (show Below w0.heap.size w0 w0.drew from bel_eq12 (Below.refl _ w0) rfl rfl rfl rfl)
    refine wpAnyH_take (i := 0) (oi := _) (v := ?_) rfl (by kernel_rfl) (by kernel_rfl) (by kernel_rfl) (fun _ _ _ h => h) (Or.inl ⟨by rfl, ?_⟩) (by assumption) ?_
    rotate_left
    · intro w hSw; (try dsimp only at hSw); go_simp; all_goals with_reducible rfl
    try simp only [Act.put, List.getElem_toArray, List.getElem_cons_zero, List.getElem_cons_succ, List.setIfInBounds_toArray, List.set_cons_zero, List.set_cons_succ]
    refine wpAnyH_take (i := 1) (oi := _) (v := ?_) rfl (by kernel_rfl) (by kernel_rfl) (by kernel_rfl) (fun _ _ _ h => h) (Or.inl ⟨by rfl, ?_⟩) (by assumption) ?_
    rotate_left
    · intro w hSw; (try dsimp only at hSw); go_simp; all_goals with_reducible rfl
    try simp only [Act.put, List.getElem_toArray, List.getElem_cons_zero, List.getElem_cons_succ, List.setIfInBounds_toArray, List.set_cons_zero, List.set_cons_succ]
    refine wpAnyH_take (i := 2) (oi := _) (v := ?_) rfl (by kernel_rfl) (by kernel_rfl) (by kernel_rfl) (fun _ _ _ h => h) (Or.inl ⟨by rfl, ?_⟩) (by assumption) ?_
    rotate_left
    · intro w hSw; (try dsimp only at hSw); go_simp; all_goals with_reducible rfl
    try simp only [Act.put, List.getElem_toArray, List.getElem_cons_zero, List.getElem_cons_succ, List.setIfInBounds_toArray, List.set_cons_zero, List.set_cons_succ]
    refine wpAnyH_take (i := 3) (oi := _) (v := ?_) rfl (by kernel_rfl) (by kernel_rfl) (by kernel_rfl) (fun _ _ _ h => h) (Or.inl ⟨by rfl, ?_⟩) (by assumption) ?_
    rotate_left
    · intro w hSw; (try dsimp only at hSw); go_simp; all_goals with_reducible rfl
    try simp only [Act.put, List.getElem_toArray, List.getElem_cons_zero, List.getElem_cons_succ, List.setIfInBounds_toArray, List.set_cons_zero, List.set_cons_succ]
    refine wpAnyH_take (i := 4) (oi := _) (v := ?_) rfl (by kernel_rfl) (by kernel_rfl) (by kernel_rfl) (fun _ _ _ h => h) (Or.inl ⟨by rfl, ?_⟩) (by assumption) ?_
    rotate_left
    · intro w hSw; (try dsimp only at hSw); go_simp; all_goals with_reducible rfl
    try simp only [Act.put, List.getElem_toArray, List.getElem_cons_zero, List.getElem_cons_succ, List.setIfInBounds_toArray, List.set_cons_zero, List.set_cons_succ]
    refine wpAnyH_take (i := 5) (oi := _) (v := ?_) rfl (by kernel_rfl) (by kernel_rfl) (by kernel_rfl) (fun _ _ _ h => h) (Or.inl ⟨by rfl, ?_⟩) (by assumption) ?_
    rotate_left
    · intro w hSw; (try dsimp only at hSw); go_simp; all_goals with_reducible rfl
    try simp only [Act.put, List.getElem_toArray, List.getElem_cons_zero, List.getElem_cons_succ, List.setIfInBounds_toArray, List.set_cons_zero, List.set_cons_succ]
    refine wpAnyH_take (i := 7) (oi := _) (v := ?_) rfl (by kernel_rfl) (by kernel_rfl) (by kernel_rfl) (fun _ _ _ h => h) (Or.inl ⟨by rfl, ?_⟩) (by assumption) ?_
    rotate_left
    · intro w hSw; (try dsimp only at hSw); go_simp; all_goals with_reducible rfl
    try simp only [Act.put, List.getElem_toArray, List.getElem_cons_zero, List.getElem_cons_succ, List.setIfInBounds_toArray, List.set_cons_zero, List.set_cons_succ]
    refine wpAnyH_take (i := 8) (oi := _) (v := ?_) rfl (by kernel_rfl) (by kernel_rfl) (by kernel_rfl) (fun _ _ _ h => h) (Or.inl ⟨by rfl, ?_⟩) (by assumption) ?_
    rotate_left
    · intro w hSw; (try dsimp only at hSw); go_simp; all_goals with_reducible rfl
    try simp only [Act.put, List.getElem_toArray, List.getElem_cons_zero, List.getElem_cons_succ, List.setIfInBounds_toArray, List.set_cons_zero, List.set_cons_succ]
    refine wpAnyH_take (i := 10) (oi := _) (v := ?_) rfl (by kernel_rfl) (by kernel_rfl) (by kernel_rfl) (fun _ _ _ h => h) (Or.inl ⟨by rfl, ?_⟩) (by assumption) ?_
    rotate_left
    · intro w hSw; (try dsimp only at hSw); go_simp; all_goals with_reducible rfl
    try simp only [Act.put, List.getElem_toArray, List.getElem_cons_zero, List.getElem_cons_succ, List.setIfInBounds_toArray, List.set_cons_zero, List.set_cons_succ]
    refine wpAnyH_take (i := 11) (oi := _) (v := ?_) rfl (by kernel_rfl) (by kernel_rfl) (by kernel_rfl) (fun _ _ _ h => h) (Or.inl ⟨by rfl, ?_⟩) (by assumption) ?_
    rotate_left
    · intro w hSw; (try dsimp only at hSw); go_simp; all_goals with_reducible rfl
    try simp only [Act.put, List.getElem_toArray, List.getElem_cons_zero, List.getElem_cons_succ, List.setIfInBounds_toArray, List.set_cons_zero, List.set_cons_succ]
    refine wpAnyH_take (i := 13) (oi := _) (v := ?_) rfl (by kernel_rfl) (by kernel_rfl) (by kernel_rfl) (fun _ _ _ h => h) (Or.inl ⟨by rfl, ?_⟩) (by assumption) ?_
    rotate_left
    · intro w hSw; (try dsimp only at hSw); go_simp; all_goals with_reducible rfl
    try simp only [Act.put, List.getElem_toArray, List.getElem_cons_zero, List.getElem_cons_succ, List.setIfInBounds_toArray, List.set_cons_zero, List.set_cons_succ]
    refine wpAnyH_take (i := 14) (oi := _) (v := ?_) rfl (by kernel_rfl) (by kernel_rfl) (by kernel_rfl) (fun _ _ _ h => h) (Or.inl ⟨by rfl, ?_⟩) (by assumption) ?_
    rotate_left
    · intro w hSw; (try dsimp only at hSw); go_simp; all_goals with_reducible rfl
    try simp only [Act.put, List.getElem_toArray, List.getElem_cons_zero, List.getElem_cons_succ, List.setIfInBounds_toArray, List.set_cons_zero, List.set_cons_succ]
    refine wpAnyH_take (i := 15) (oi := _) (v := ?_) rfl (by kernel_rfl) (by kernel_rfl) (by kernel_rfl) (fun _ _ _ h => h) (Or.inl ⟨by rfl, ?_⟩) (by assumption) ?_
    rotate_left
    · intro w hSw; (try dsimp only at hSw); go_simp; all_goals with_reducible rfl
    try simp only [Act.put, List.getElem_toArray, List.getElem_cons_zero, List.getElem_cons_succ, List.setIfInBounds_toArray, List.set_cons_zero, List.set_cons_succ]
    refine wpAnyH_take (i := 16) (oi := _) (v := ?_) rfl (by kernel_rfl) (by kernel_rfl) (by kernel_rfl) (fun _ _ _ h => h) (Or.inl ⟨by rfl, ?_⟩) (by assumption) ?_
    rotate_left
    · intro w hSw; (try dsimp only at hSw); go_simp; all_goals with_reducible rfl
    try simp only [Act.put, List.getElem_toArray, List.getElem_cons_zero, List.getElem_cons_succ, List.setIfInBounds_toArray, List.set_cons_zero, List.set_cons_succ]
    refine wpAnyH_ready (rs := [6, 18]) (by kernel_rfl) (by simp) ?_
    refine AllReadyH.cons (o := _) rfl (fun K hK => ?_) (AllReadyH.cons (o := _) rfl (fun K hK => ?_) (AllReadyH.nil))
    · go_simp
      go_at_call 36
      refine (refSorted1 (.slice A1 n1 c1) c.els w0.drew (sv_on HP0.out.e (show Below w0.heap.size w0 w0.drew from bel_eq12 (Below.refl _ w0) rfl rfl rfl rfl)) (by omega)).mono ?_
      rintro r u1 ⟨x1, rfl, ho, hc⟩
      obtain ⟨B1, m1, j1, rfl⟩ := own_shape ho
      have HC1 := Lib.hid (show Below w0.heap.size w0 u1 from Below.trans (show Below w0.heap.size w0 w0.drew from bel_eq12 (Below.refl _ w0) rfl rfl rfl rfl) (Below.mono hc ((show Below w0.heap.size w0 w0.drew from bel_eq12 (Below.refl _ w0) rfl rfl rfl rfl)).size))
      have HO1 := Lib.hid (show Sown w0.heap.size u1 _ _ from ho.mono ((show Below w0.heap.size w0 w0.drew from bel_eq12 (Below.refl _ w0) rfl rfl rfl rfl)).size)
      clear hc ho
      go_wp2_with fail
      refine hK.out _ _ ?_ (fun hHeld => ?_)
      · exact HS.out _ HC1.out
      clear hK K
      try simp only [Act.put, List.getElem_toArray, List.getElem_cons_zero, List.getElem_cons_succ, List.setIfInBounds_toArray, List.set_cons_zero, List.set_cons_succ]
      refine wpAnyH_ready (rs := [9, 18]) (by kernel_rfl) (by simp) ?_
      refine AllReadyH.cons (o := _) rfl (fun K hK => ?_) (AllReadyH.cons (o := _) rfl (fun K hK => ?_) (AllReadyH.nil))
      · go_simp
        go_at_call 36
        refine (refSorted1 (.slice A2 n2 c2) c.reps u1 (sv_on HP0.out.r HC1.out) (by omega)).mono ?_
        rintro r u2 ⟨x2, rfl, ho, hc⟩
        obtain ⟨B2, m2, j2, rfl⟩ := own_shape ho
        have HC2 := Lib.hid (show Below w0.heap.size w0 u2 from Below.trans HC1.out (Below.mono hc (HC1.out).size))
        have HO2 := Lib.hid (show Sown w0.heap.size u2 _ _ from ho.mono (HC1.out).size)
        have HO1 := Lib.hid (HO1.out.below hc (Nat.le_refl _))
        clear hc ho
        go_wp2_with fail
        refine hK.out _ _ ?_ (fun hHeld => ?_)
        · exact HS.out _ HC2.out
        clear hK K
        try simp only [Act.put, List.getElem_toArray, List.getElem_cons_zero, List.getElem_cons_succ, List.setIfInBounds_toArray, List.set_cons_zero, List.set_cons_succ]
        refine wpAnyH_ready (rs := [12, 18]) (by kernel_rfl) (by simp) ?_
        refine AllReadyH.cons (o := _) rfl (fun K hK => ?_) (AllReadyH.cons (o := _) rfl (fun K hK => ?_) (AllReadyH.nil))
        · go_simp
          go_at_call 36
          refine (refSorted1 (.slice A3 n3 c3) c.ats u2 (sv_on HP0.out.a HC2.out) (by omega)).mono ?_
          rintro r u3 ⟨x3, rfl, ho, hc⟩
          obtain ⟨B3, m3, j3, rfl⟩ := own_shape ho
          have HC3 := Lib.hid (show Below w0.heap.size w0 u3 from Below.trans HC2.out (Below.mono hc (HC2.out).size))
          have HO3 := Lib.hid (show Sown w0.heap.size u3 _ _ from ho.mono (HC2.out).size)
          have HO1 := Lib.hid (HO1.out.below hc (Nat.le_refl _))
          have HO2 := Lib.hid (HO2.out.below hc (Nat.le_refl _))
          clear hc ho
          go_wp2_with fail
          refine hK.out _ _ ?_ (fun hHeld => ?_)
          · exact HS.out _ HC3.out
          clear hK K
          try simp only [Act.put, List.getElem_toArray, List.getElem_cons_zero, List.getElem_cons_succ, List.setIfInBounds_toArray, List.set_cons_zero, List.set_cons_succ]
          refine wpAnyH_take (i := 17) (oi := _) (v := ?_) rfl (by kernel_rfl) (by kernel_rfl) (by kernel_rfl) (fun _ _ _ h => h) (Or.inl ⟨by rfl, ?_⟩) (by assumption) ?_
          rotate_left
          · intro w hSw; (try dsimp only at hSw); go_simp; all_goals with_reducible rfl
          try simp only [Act.put, List.getElem_toArray, List.getElem_cons_zero, List.getElem_cons_succ, List.setIfInBounds_toArray, List.set_cons_zero, List.set_cons_succ]
          refine wpAnyH_ready (rs := [18]) (by kernel_rfl) (by simp) ?_
          refine AllReadyH.cons (o := _) rfl (fun K hK => ?_) (AllReadyH.nil)
          · go_simp
            refine hK.out _ _ ?_ (fun hHeld => ?_)
            · exact HS.out _ ((HC3.out).alloc (HC3.out).size _)
            clear hK K
            try simp only [Act.put, List.getElem_toArray, List.getElem_cons_zero, List.getElem_cons_succ, List.setIfInBounds_toArray, List.set_cons_zero, List.set_cons_succ]
            have hal : Below w0.heap.size w0 (u3.alloc (.cells #[.bool false, .bool false, .slice none 0 0, .slice none 0 0, .slice none 0 0, .slice none 0 0, .bool false, .bool false] 26)) := (HC3.out).alloc (HC3.out).size _
            have hhb : Hb (u3.alloc (.cells #[.bool false, .bool false, .slice none 0 0, .slice none 0 0, .slice none 0 0, .slice none 0 0, .bool false, .bool false] 26)) u3.heap.size #[.bool false, .bool false, .slice none 0 0, .slice none 0 0, .slice none 0 0, .slice none 0 0, .bool false, .bool false] := Hb.new u3 _
            have hbn : Below u3.heap.size u3 (u3.alloc (.cells #[.bool false, .bool false, .slice none 0 0, .slice none 0 0, .slice none 0 0, .slice none 0 0, .bool false, .bool false] 26)) := below_new12 u3 _
            have hlq : w0.heap.size ≤ u3.heap.size := (HC3.out).size
            have HO1 := Lib.hid (HO1.out.below hbn (Nat.le_refl _))
            have HO2 := Lib.hid (HO2.out.below hbn (Nat.le_refl _))
            have HO3 := Lib.hid (HO3.out.below hbn (Nat.le_refl _))
            generalize hwk : (u3.alloc (.cells #[.bool false, .bool false, .slice none 0 0, .slice none 0 0, .slice none 0 0, .slice none 0 0, .bool false, .bool false] 26)) = wd3 at *
            generalize hqk : u3.heap.size = qd at *
            have HQd := Lib.hid hhb; have HLd := Lib.hid hlq; have HAwd3 := Lib.hid hal
            clear hhb hlq hal hbn
            refine wpAnyH_ready (rs := [19]) (by kernel_rfl) (by simp) ?_
            refine AllReadyH.cons (o := _) rfl (fun K hK => ?_) AllReadyH.nil
            rw [if_pos (by rfl)]
            refine wp_store_mid 26 (.tmp 3) (.tmp 24) rfl qd 0 #[.bool c.allow, .bool c.attrsAllow, .slice B1 m1 j1, .slice B2 m2 j2, .slice B3 m3 j3, .slice none 0 0, .bool c.comments, .bool c.dataAttrs] rfl rfl (HQd.out.there 8 rfl) size_conf (by simp [Value.oneCell']) ?_
            obtain ⟨W, hW, hgW, hbW⟩ := res_hb HQd.out rfl (.bool c.allow) (.bool c.attrsAllow) (.slice B1 m1 j1) (.slice B2 m2 j2) (.slice B3 m3 j3) (.slice none 0 0) (.bool c.comments) (.bool c.dataAttrs)
            have hblW : Below w0.heap.size w0 W := Below.grown HAwd3.out hgW (HAwd3.out).size (fun q hq => by injection hq with hq; have := HLd.out; omega)
            have hW' : wd3.setCells qd 0 (#[.bool c.allow, .bool c.attrsAllow, .slice B1 m1 j1, .slice B2 m2 j2, .slice B3 m3 j3, .slice none 0 0, .bool c.comments, .bool c.dataAttrs] : Array Value).toList = W := hW.symm
            rw [hW']
            refine hK.out _ _ ?_ (fun hHeld => ?_)
            · exact HS.out _ hblW
            clear hK K
            refine wpAnyH_done (by kernel_rfl) ?_ _
            refine NoPanic.normal ?_
            go_wp2
            go_meet
            exact ⟨qd, B1, m1, j1, B2, m2, j2, B3, m3, j3, rfl, HLd.out, hbW, own_boxed HO1.out HQd.out hgW, own_boxed HO2.out HQd.out hgW, own_boxed HO3.out HQd.out hgW, hblW⟩
        · go_simp
          refine hK.out _ _ ?_ (fun hHeld => ?_)
          · exact HS.out _ ((HC2.out).alloc (HC2.out).size _)
          clear hK K
          try simp only [Act.put, List.getElem_toArray, List.getElem_cons_zero, List.getElem_cons_succ, List.setIfInBounds_toArray, List.set_cons_zero, List.set_cons_succ]
          have hal : Below w0.heap.size w0 (u2.alloc (.cells #[.bool false, .bool false, .slice none 0 0, .slice none 0 0, .slice none 0 0, .slice none 0 0, .bool false, .bool false] 26)) := (HC2.out).alloc (HC2.out).size _
          have hhb : Hb (u2.alloc (.cells #[.bool false, .bool false, .slice none 0 0, .slice none 0 0, .slice none 0 0, .slice none 0 0, .bool false, .bool false] 26)) u2.heap.size #[.bool false, .bool false, .slice none 0 0, .slice none 0 0, .slice none 0 0, .slice none 0 0, .bool false, .bool false] := Hb.new u2 _
          have hbn : Below u2.heap.size u2 (u2.alloc (.cells #[.bool false, .bool false, .slice none 0 0, .slice none 0 0, .slice none 0 0, .slice none 0 0, .bool false, .bool false] 26)) := below_new12 u2 _
          have hlq : w0.heap.size ≤ u2.heap.size := (HC2.out).size
          have HO1 := Lib.hid (HO1.out.below hbn (Nat.le_refl _))
          have HO2 := Lib.hid (HO2.out.below hbn (Nat.le_refl _))
          generalize hwk : (u2.alloc (.cells #[.bool false, .bool false, .slice none 0 0, .slice none 0 0, .slice none 0 0, .slice none 0 0, .bool false, .bool false] 26)) = wd2 at *
          generalize hqk : u2.heap.size = qd at *
          have HQd := Lib.hid hhb; have HLd := Lib.hid hlq; have HAwd2 := Lib.hid hal
          clear hhb hlq hal hbn
          refine wpAnyH_ready (rs := [12]) (by kernel_rfl) (by simp) ?_
          refine AllReadyH.cons (o := _) rfl (fun K hK => ?_) (AllReadyH.nil)
          · go_simp
            go_at_call 36
            refine (refSorted1 (.slice A3 n3 c3) c.ats wd2 (sv_on HP0.out.a HAwd2.out) (by omega)).mono ?_
            rintro r u3 ⟨x3, rfl, ho, hc⟩
            obtain ⟨B3, m3, j3, rfl⟩ := own_shape ho
            have HC3 := Lib.hid (show Below w0.heap.size w0 u3 from Below.trans HAwd2.out (Below.mono hc (HAwd2.out).size))
            have HO3 := Lib.hid (show Sown w0.heap.size u3 _ _ from ho.mono (HAwd2.out).size)
            have HO1 := Lib.hid (HO1.out.below hc (Nat.le_refl _))
            have HO2 := Lib.hid (HO2.out.below hc (Nat.le_refl _))
            have HQd := Lib.hid (HQd.out.on hc)
            clear hc ho
            go_wp2_with fail
            refine hK.out _ _ ?_ (fun hHeld => ?_)
            · exact HS.out _ HC3.out
            clear hK K
            try simp only [Act.put, List.getElem_toArray, List.getElem_cons_zero, List.getElem_cons_succ, List.setIfInBounds_toArray, List.set_cons_zero, List.set_cons_succ]
            refine wpAnyH_take (i := 17) (oi := _) (v := ?_) rfl (by kernel_rfl) (by kernel_rfl) (by kernel_rfl) (fun _ _ _ h => h) (Or.inl ⟨by rfl, ?_⟩) (by assumption) ?_
            rotate_left
            · intro w hSw; (try dsimp only at hSw); go_simp; all_goals with_reducible rfl
            try simp only [Act.put, List.getElem_toArray, List.getElem_cons_zero, List.getElem_cons_succ, List.setIfInBounds_toArray, List.set_cons_zero, List.set_cons_succ]
            refine wpAnyH_ready (rs := [19]) (by kernel_rfl) (by simp) ?_
            refine AllReadyH.cons (o := _) rfl (fun K hK => ?_) AllReadyH.nil
            rw [if_pos (by rfl)]
            refine wp_store_mid 26 (.tmp 3) (.tmp 24) rfl qd 0 #[.bool c.allow, .bool c.attrsAllow, .slice B1 m1 j1, .slice B2 m2 j2, .slice B3 m3 j3, .slice none 0 0, .bool c.comments, .bool c.dataAttrs] rfl rfl (HQd.out.there 8 rfl) size_conf (by simp [Value.oneCell']) ?_
            obtain ⟨W, hW, hgW, hbW⟩ := res_hb HQd.out rfl (.bool c.allow) (.bool c.attrsAllow) (.slice B1 m1 j1) (.slice B2 m2 j2) (.slice B3 m3 j3) (.slice none 0 0) (.bool c.comments) (.bool c.dataAttrs)
            have hblW : Below w0.heap.size w0 W := Below.grown HC3.out hgW (HC3.out).size (fun q hq => by injection hq with hq; have := HLd.out; omega)
            have hW' : u3.setCells qd 0 (#[.bool c.allow, .bool c.attrsAllow, .slice B1 m1 j1, .slice B2 m2 j2, .slice B3 m3 j3, .slice none 0 0, .bool c.comments, .bool c.dataAttrs] : Array Value).toList = W := hW.symm
            rw [hW']
            refine hK.out _ _ ?_ (fun hHeld => ?_)
            · exact HS.out _ hblW
            clear hK K
            refine wpAnyH_done (by kernel_rfl) ?_ _
            refine NoPanic.normal ?_
            go_wp2
            go_meet
            exact ⟨qd, B1, m1, j1, B2, m2, j2, B3, m3, j3, rfl, HLd.out, hbW, own_boxed HO1.out HQd.out hgW, own_boxed HO2.out HQd.out hgW, own_boxed HO3.out HQd.out hgW, hblW⟩
      · go_simp
        refine hK.out _ _ ?_ (fun hHeld => ?_)
        · exact HS.out _ ((HC1.out).alloc (HC1.out).size _)
        clear hK K
        try simp only [Act.put, List.getElem_toArray, List.getElem_cons_zero, List.getElem_cons_succ, List.setIfInBounds_toArray, List.set_cons_zero, List.set_cons_succ]
        have hal : Below w0.heap.size w0 (u1.alloc (.cells #[.bool false, .bool false, .slice none 0 0, .slice none 0 0, .slice none 0 0, .slice none 0 0, .bool false, .bool false] 26)) := (HC1.out).alloc (HC1.out).size _
        have hhb : Hb (u1.alloc (.cells #[.bool false, .bool false, .slice none 0 0, .slice none 0 0, .slice none 0 0, .slice none 0 0, .bool false, .bool false] 26)) u1.heap.size #[.bool false, .bool false, .slice none 0 0, .slice none 0 0, .slice none 0 0, .slice none 0 0, .bool false, .bool false] := Hb.new u1 _
        have hbn : Below u1.heap.size u1 (u1.alloc (.cells #[.bool false, .bool false, .slice none 0 0, .slice none 0 0, .slice none 0 0, .slice none 0 0, .bool false, .bool false] 26)) := below_new12 u1 _
        have hlq : w0.heap.size ≤ u1.heap.size := (HC1.out).size
        have HO1 := Lib.hid (HO1.out.below hbn (Nat.le_refl _))
        generalize hwk : (u1.alloc (.cells #[.bool false, .bool false, .slice none 0 0, .slice none 0 0, .slice none 0 0, .slice none 0 0, .bool false, .bool false] 26)) = wd1 at *
        generalize hqk : u1.heap.size = qd at *
        have HQd := Lib.hid hhb; have HLd := Lib.hid hlq; have HAwd1 := Lib.hid hal
        clear hhb hlq hal hbn
        refine wpAnyH_ready (rs := [9]) (by kernel_rfl) (by simp) ?_
        refine AllReadyH.cons (o := _) rfl (fun K hK => ?_) (AllReadyH.nil)
        · go_simp
          go_at_call 36
          refine (refSorted1 (.slice A2 n2 c2) c.reps wd1 (sv_on HP0.out.r HAwd1.out) (by omega)).mono ?_
          rintro r u2 ⟨x2, rfl, ho, hc⟩
          obtain ⟨B2, m2, j2, rfl⟩ := own_shape ho
          have HC2 := Lib.hid (show Below w0.heap.size w0 u2 from Below.trans HAwd1.out (Below.mono hc (HAwd1.out).size))
          have HO2 := Lib.hid (show Sown w0.heap.size u2 _ _ from ho.mono (HAwd1.out).size)
          have HO1 := Lib.hid (HO1.out.below hc (Nat.le_refl _))
          have HQd := Lib.hid (HQd.out.on hc)
          clear hc ho
          go_wp2_with fail
          refine hK.out _ _ ?_ (fun hHeld => ?_)
          · exact HS.out _ HC2.out
          clear hK K
          try simp only [Act.put, List.getElem_toArray, List.getElem_cons_zero, List.getElem_cons_succ, List.setIfInBounds_toArray, List.set_cons_zero, List.set_cons_succ]
          refine wpAnyH_ready (rs := [12]) (by kernel_rfl) (by simp) ?_
          refine AllReadyH.cons (o := _) rfl (fun K hK => ?_) (AllReadyH.nil)
          · go_simp
            go_at_call 36
            refine (refSorted1 (.slice A3 n3 c3) c.ats u2 (sv_on HP0.out.a HC2.out) (by omega)).mono ?_
            rintro r u3 ⟨x3, rfl, ho, hc⟩
            obtain ⟨B3, m3, j3, rfl⟩ := own_shape ho
            have HC3 := Lib.hid (show Below w0.heap.size w0 u3 from Below.trans HC2.out (Below.mono hc (HC2.out).size))
            have HO3 := Lib.hid (show Sown w0.heap.size u3 _ _ from ho.mono (HC2.out).size)
            have HO1 := Lib.hid (HO1.out.below hc (Nat.le_refl _))
            have HO2 := Lib.hid (HO2.out.below hc (Nat.le_refl _))
            have HQd := Lib.hid (HQd.out.on hc)
            clear hc ho
            go_wp2_with fail
            refine hK.out _ _ ?_ (fun hHeld => ?_)
            · exact HS.out _ HC3.out
            clear hK K
            try simp only [Act.put, List.getElem_toArray, List.getElem_cons_zero, List.getElem_cons_succ, List.setIfInBounds_toArray, List.set_cons_zero, List.set_cons_succ]
            refine wpAnyH_take (i := 17) (oi := _) (v := ?_) rfl (by kernel_rfl) (by kernel_rfl) (by kernel_rfl) (fun _ _ _ h => h) (Or.inl ⟨by rfl, ?_⟩) (by assumption) ?_
            rotate_left
            · intro w hSw; (try dsimp only at hSw); go_simp; all_goals with_reducible rfl
            try simp only [Act.put, List.getElem_toArray, List.getElem_cons_zero, List.getElem_cons_succ, List.setIfInBounds_toArray, List.set_cons_zero, List.set_cons_succ]
            refine wpAnyH_ready (rs := [19]) (by kernel_rfl) (by simp) ?_
            refine AllReadyH.cons (o := _) rfl (fun K hK => ?_) AllReadyH.nil
            rw [if_pos (by rfl)]
            refine wp_store_mid 26 (.tmp 3) (.tmp 24) rfl qd 0 #[.bool c.allow, .bool c.attrsAllow, .slice B1 m1 j1, .slice B2 m2 j2, .slice B3 m3 j3, .slice none 0 0, .bool c.comments, .bool c.dataAttrs] rfl rfl (HQd.out.there 8 rfl) size_conf (by simp [Value.oneCell']) ?_
            obtain ⟨W, hW, hgW, hbW⟩ := res_hb HQd.out rfl (.bool c.allow) (.bool c.attrsAllow) (.slice B1 m1 j1) (.slice B2 m2 j2) (.slice B3 m3 j3) (.slice none 0 0) (.bool c.comments) (.bool c.dataAttrs)
            have hblW : Below w0.heap.size w0 W := Below.grown HC3.out hgW (HC3.out).size (fun q hq => by injection hq with hq; have := HLd.out; omega)
            have hW' : u3.setCells qd 0 (#[.bool c.allow, .bool c.attrsAllow, .slice B1 m1 j1, .slice B2 m2 j2, .slice B3 m3 j3, .slice none 0 0, .bool c.comments, .bool c.dataAttrs] : Array Value).toList = W := hW.symm
            rw [hW']
            refine hK.out _ _ ?_ (fun hHeld => ?_)
            · exact HS.out _ hblW
            clear hK K
            refine wpAnyH_done (by kernel_rfl) ?_ _
            refine NoPanic.normal ?_
            go_wp2
            go_meet
            exact ⟨qd, B1, m1, j1, B2, m2, j2, B3, m3, j3, rfl, HLd.out, hbW, own_boxed HO1.out HQd.out hgW, own_boxed HO2.out HQd.out hgW, own_boxed HO3.out HQd.out hgW, hblW⟩
    · go_simp
      refine hK.out _ _ ?_ (fun hHeld => ?_)
      · exact HS.out _ (((show Below w0.heap.size w0 w0.drew from bel_eq12 (Below.refl _ w0) rfl rfl rfl rfl)).alloc ((show Below w0.heap.size w0 w0.drew from bel_eq12 (Below.refl _ w0) rfl rfl rfl rfl)).size _)
      clear hK K
      try simp only [Act.put, List.getElem_toArray, List.getElem_cons_zero, List.getElem_cons_succ, List.setIfInBounds_toArray, List.set_cons_zero, List.set_cons_succ]
      have hal : Below w0.heap.size w0 (w0.alloc (.cells #[.bool false, .bool false, .slice none 0 0, .slice none 0 0, .slice none 0 0, .slice none 0 0, .bool false, .bool false] 26)).drew := bel_eq12 ((Below.refl _ w0).alloc (Nat.le_refl _) _) rfl rfl rfl rfl
      have hhb : Hb (w0.alloc (.cells #[.bool false, .bool false, .slice none 0 0, .slice none 0 0, .slice none 0 0, .slice none 0 0, .bool false, .bool false] 26)).drew w0.heap.size #[.bool false, .bool false, .slice none 0 0, .slice none 0 0, .slice none 0 0, .slice none 0 0, .bool false, .bool false] := Hb.new w0 _
      have hbn : Below w0.heap.size w0 (w0.alloc (.cells #[.bool false, .bool false, .slice none 0 0, .slice none 0 0, .slice none 0 0, .slice none 0 0, .bool false, .bool false] 26)).drew := bel_eq12 (below_new12 w0 _) rfl rfl rfl rfl
      have hlq : w0.heap.size ≤ w0.heap.size := Nat.le_refl _
      generalize hwk : (w0.alloc (.cells #[.bool false, .bool false, .slice none 0 0, .slice none 0 0, .slice none 0 0, .slice none 0 0, .bool false, .bool false] 26)).drew = wd0 at *
      obtain ⟨qd, hqk⟩ : ∃ q, w0.heap.size = q := ⟨_, rfl⟩
      rw [hqk]
      rw [hqk] at hhb
      replace hlq : w0.heap.size ≤ qd := by rw [← hqk]; exact Nat.le_refl _
      have HQd := Lib.hid hhb; have HLd := Lib.hid hlq; have HAwd0 := Lib.hid hal
      clear hhb hlq hal hbn
      refine wpAnyH_ready (rs := [6]) (by kernel_rfl) (by simp) ?_
      refine AllReadyH.cons (o := _) rfl (fun K hK => ?_) (AllReadyH.nil)
      · go_simp
        go_at_call 36
        refine (refSorted1 (.slice A1 n1 c1) c.els wd0 (sv_on HP0.out.e HAwd0.out) (by omega)).mono ?_
        rintro r u1 ⟨x1, rfl, ho, hc⟩
        obtain ⟨B1, m1, j1, rfl⟩ := own_shape ho
        have HC1 := Lib.hid (show Below w0.heap.size w0 u1 from Below.trans HAwd0.out (Below.mono hc (HAwd0.out).size))
        have HO1 := Lib.hid (show Sown w0.heap.size u1 _ _ from ho.mono (HAwd0.out).size)
        have HQd := Lib.hid (HQd.out.on hc)
        clear hc ho
        go_wp2_with fail
        refine hK.out _ _ ?_ (fun hHeld => ?_)
        · exact HS.out _ HC1.out
        clear hK K
        try simp only [Act.put, List.getElem_toArray, List.getElem_cons_zero, List.getElem_cons_succ, List.setIfInBounds_toArray, List.set_cons_zero, List.set_cons_succ]
        refine wpAnyH_ready (rs := [9]) (by kernel_rfl) (by simp) ?_
        refine AllReadyH.cons (o := _) rfl (fun K hK => ?_) (AllReadyH.nil)
        · go_simp
          go_at_call 36
          refine (refSorted1 (.slice A2 n2 c2) c.reps u1 (sv_on HP0.out.r HC1.out) (by omega)).mono ?_
          rintro r u2 ⟨x2, rfl, ho, hc⟩
          obtain ⟨B2, m2, j2, rfl⟩ := own_shape ho
          have HC2 := Lib.hid (show Below w0.heap.size w0 u2 from Below.trans HC1.out (Below.mono hc (HC1.out).size))
          have HO2 := Lib.hid (show Sown w0.heap.size u2 _ _ from ho.mono (HC1.out).size)
          have HO1 := Lib.hid (HO1.out.below hc (Nat.le_refl _))
          have HQd := Lib.hid (HQd.out.on hc)
          clear hc ho
          go_wp2_with fail
          refine hK.out _ _ ?_ (fun hHeld => ?_)
          · exact HS.out _ HC2.out
          clear hK K
          try simp only [Act.put, List.getElem_toArray, List.getElem_cons_zero, List.getElem_cons_succ, List.setIfInBounds_toArray, List.set_cons_zero, List.set_cons_succ]
          refine wpAnyH_ready (rs := [12]) (by kernel_rfl) (by simp) ?_
          refine AllReadyH.cons (o := _) rfl (fun K hK => ?_) (AllReadyH.nil)
          · go_simp
            go_at_call 36
            refine (refSorted1 (.slice A3 n3 c3) c.ats u2 (sv_on HP0.out.a HC2.out) (by omega)).mono ?_
            rintro r u3 ⟨x3, rfl, ho, hc⟩
            obtain ⟨B3, m3, j3, rfl⟩ := own_shape ho
            have HC3 := Lib.hid (show Below w0.heap.size w0 u3 from Below.trans HC2.out (Below.mono hc (HC2.out).size))
            have HO3 := Lib.hid (show Sown w0.heap.size u3 _ _ from ho.mono (HC2.out).size)
            have HO1 := Lib.hid (HO1.out.below hc (Nat.le_refl _))
            have HO2 := Lib.hid (HO2.out.below hc (Nat.le_refl _))
            have HQd := Lib.hid (HQd.out.on hc)
            clear hc ho
            go_wp2_with fail
            refine hK.out _ _ ?_ (fun hHeld => ?_)
            · exact HS.out _ HC3.out
            clear hK K
            try simp only [Act.put, List.getElem_toArray, List.getElem_cons_zero, List.getElem_cons_succ, List.setIfInBounds_toArray, List.set_cons_zero, List.set_cons_succ]
            refine wpAnyH_take (i := 17) (oi := _) (v := ?_) rfl (by kernel_rfl) (by kernel_rfl) (by kernel_rfl) (fun _ _ _ h => h) (Or.inl ⟨by rfl, ?_⟩) (by assumption) ?_
            rotate_left
            · intro w hSw; (try dsimp only at hSw); go_simp; all_goals with_reducible rfl
            try simp only [Act.put, List.getElem_toArray, List.getElem_cons_zero, List.getElem_cons_succ, List.setIfInBounds_toArray, List.set_cons_zero, List.set_cons_succ]
            refine wpAnyH_ready (rs := [19]) (by kernel_rfl) (by simp) ?_
            refine AllReadyH.cons (o := _) rfl (fun K hK => ?_) AllReadyH.nil
            rw [if_pos (by rfl)]
            refine wp_store_mid 26 (.tmp 3) (.tmp 24) rfl qd 0 #[.bool c.allow, .bool c.attrsAllow, .slice B1 m1 j1, .slice B2 m2 j2, .slice B3 m3 j3, .slice none 0 0, .bool c.comments, .bool c.dataAttrs] rfl rfl (HQd.out.there 8 rfl) size_conf (by simp [Value.oneCell']) ?_
            obtain ⟨W, hW, hgW, hbW⟩ := res_hb HQd.out rfl (.bool c.allow) (.bool c.attrsAllow) (.slice B1 m1 j1) (.slice B2 m2 j2) (.slice B3 m3 j3) (.slice none 0 0) (.bool c.comments) (.bool c.dataAttrs)
            have hblW : Below w0.heap.size w0 W := Below.grown HC3.out hgW (HC3.out).size (fun q hq => by injection hq with hq; have := HLd.out; omega)
            have hW' : u3.setCells qd 0 (#[.bool c.allow, .bool c.attrsAllow, .slice B1 m1 j1, .slice B2 m2 j2, .slice B3 m3 j3, .slice none 0 0, .bool c.comments, .bool c.dataAttrs] : Array Value).toList = W := hW.symm
            rw [hW']
            refine hK.out _ _ ?_ (fun hHeld => ?_)
            · exact HS.out _ hblW
            clear hK K
            refine wpAnyH_done (by kernel_rfl) ?_ _
            refine NoPanic.normal ?_
            go_wp2
            go_meet
            exact ⟨qd, B1, m1, j1, B2, m2, j2, B3, m3, j3, rfl, HLd.out, hbW, own_boxed HO1.out HQd.out hgW, own_boxed HO2.out HQd.out hgW, own_boxed HO3.out HQd.out hgW, hblW⟩
  case rest =>
  obtain ⟨q, B1, m1, j1, B2, m2, j2, B3, m3, j3, rfl, hq, hbq, ho1, ho2, ho3, hbl⟩ := hcut
  have hx1 : Hb wc w.heap.size #[.bool c.allow, .bool c.attrsAllow, .slice A1 n1 c1, .slice A2 n2 c2, .slice A3 n3 c3, .slice A4 l.length c4, .bool c.comments, .bool c.dataAttrs] := HX0.out.on hbl
  have HRG := Lib.hid hx1.range
  have HOF := Lib.hid (refOf1 (confV c (.slice A1 n1 c1) (.slice A2 n2 c2) (.slice A3 n3 c3) (.slice A4 l.length c4)) c wc ⟨_, _, _, _, _, rfl, HP0.out.on hbl⟩ HSM.out)
  have HBQ := Lib.hid hbq; have HO1 := Lib.hid ho1; have HO2 := Lib.hid ho2; have HO3 := Lib.hid ho3; have HBL := Lib.hid hbl; have HQ0 := Lib.hid hq
  clear hbq ho1 ho2 ho3 hbl hx1 hq
  go_upto_region 3 with (first
    | (show wpList _ _ _ (⟨_, Op.load 26 (.tmp 1), _, _, _, _⟩ :: _) _ _; refine wpList_load_mid rfl 26 (.tmp 1) rfl w.heap.size 0 rfl _ _ HRG.out Try.underlying26 rfl size_conf ?_)
    | (go_at_call 37; refine HOF.out.mono ?_; rintro r u4 ⟨x4, rfl, ho, hc⟩; have HSO := Lib.hid (refSorted1 x4 (c.per.map Pe.el) u4 (sv_own ho) (by rw [List.length_map]; omega)); have HC4 := Lib.hid hc; clear ho hc)
    | (go_at_call 36; refine HSO.out.mono ?_; rintro r W ⟨x5, rfl, ho, hc⟩; have HS5 := Lib.hid ho; obtain ⟨E6, k6, rfl, hle, hno, hrd⟩ := sv_own ho; have HRD := Lib.hid hrd; have HC5 := Lib.hid (HC4.out.trans (hc.mono HC4.out.size)); clear ho hc hrd)
    | fail)
  obtain ⟨es, hes⟩ : ∃ es, srt lt (c.per.map Pe.el) = es := ⟨_, rfl⟩
  rw [hes] at hle HRD HS5 ⊢
  have hen : es.length ≤ 1000 := by rw [← hes]; exact Nat.le_trans (len_srt _ _) (by rw [List.length_map]; exact hpl)
  have hln : l.length = c.per.length := by have := congrArg List.length HP0.out.m; rwa [len_pes] at this
  have HLN := Lib.hid hln; have HES := Lib.hid hes
  have hb5 : Below w0.heap.size w0 W := HBL.out.trans (HC5.out.mono HBL.out.size)
  have HBQ := Lib.hid (HBQ.out.on HC5.out); have HXW := Lib.hid (HX0.out.on hb5); have HZW := Lib.hid (HZB.out.on hb5); have HPW := Lib.hid (HP0.out.on hb5)
  have HO1 := Lib.hid (HO1.out.below HC5.out (Nat.le_refl _)); have HO2 := Lib.hid (HO2.out.below HC5.out (Nat.le_refl _)); have HO3 := Lib.hid (HO3.out.below HC5.out (Nat.le_refl _)); have HBW := Lib.hid (HB1.out.trans (hb5.mono HB1.out.size))
  have hqp : q ≠ w.heap.size := by have := HX0.out.lt; have := HQ0.out; omega
  have hqz : q ≠ w.heap.size + 1 := by have := HZB.out.lt; have := HQ0.out; omega
  have hln2 : l.length ≤ 1000 := by omega
  have hnS := noStr8 c.allow c.attrsAllow c.comments c.dataAttrs B1 B2 B3 none m1 m2 m3 0 j1 j2 j3 0
  have HSE := Lib.hid (fun wx (hg : W.grownBy wx (some q)) => show Sv wx W.heap.size (.slice E6 es.length k6) es from sv_boxed (sv_own HS5.out) HBQ.out hnS hg (Nat.le_refl _))
  have HCX := Lib.hid (fun wx (hg : W.grownBy wx (some q)) => show Pv wx W.heap.size (.slice A4 l.length c4) l from pv_boxed HPW.out.p HBQ.out hnS hg (Nat.le_refl _))
  have HX5 := Lib.hid (fun wx (hg : W.grownBy wx (some q)) => show wx.cell? ⟨w.heap.size, 5, none⟩ = some (.slice A4 l.length c4) from (HXW.out.keep (hg.block _ HXW.out.lt (by simp; omega))).cell 5 _ rfl)
  clear hln hes hle hno hb5 hnS HRG HOF HSO HBL HC4 HC5 HX0 HZB HRD
  have hg0 : W.grownBy W (some q) := World.grownBy.refl _ _
  go_wp2
  go_loopw [5, 6] (fun i _ wr => ∃ (k : Nat) (vP : Value) (acc : List Pw), i = .int .i64 k ∧ k ≤ es.length ∧ Hb wr q #[.bool c.allow, .bool c.attrsAllow, .slice B1 m1 j1, .slice B2 m2 j2, .slice B3 m3 j3, vP, .bool c.comments, .bool c.dataAttrs] ∧ Po W.heap.size wr vP acc ∧ (∀ x ∈ acc, Fp W.heap.size wr x) ∧ pes acc = groupL (c.per.map sortP) (es.take k) ∧ W.grownBy wr (some q)) (fun i _ _ => es.length - (intOf i).toNat)
  case atStart => exact ⟨0, _, [], rfl, Nat.zero_le _, HBQ.out, Po.nil _ _, (fun x hx => by cases hx), rfl, hg0⟩
  case round =>
    clear hg0
    obtain ⟨k, vP, acc, rfl, hks, hbq, hpo, hfp, hpe, hg⟩ := hrel
    by_cases hk : k < es.length
    · obtain ⟨wo, hwo⟩ : ∃ wo, wo = wr := ⟨_, rfl⟩
      subst hwo
      obtain ⟨e, hee⟩ : ∃ e, es[k] = e := ⟨_, rfl⟩
      have hst : pes acc = groupL (c.per.map sortP) (es.take k) ++ pickP ((c.per.take 0).map sortP) e := by rw [hpe]; show _ = _ ++ []; rw [List.append_nil]
      have hgl := len_groupR (c.per.map sortP) (es.take k)
      have HEE := Lib.hid hee
      have hgl2 : (groupL (c.per.map sortP) (es.take k)).length ≤ 1000000 := by
        have h1 : (es.take k).length ≤ 1000 := by rw [List.length_take]; omega
        have h2 : (c.per.map sortP).length ≤ 1000 := by rw [List.length_map]; exact hpl
        exact Nat.le_trans hgl (Nat.le_trans (Nat.mul_le_mul h1 h2) (by decide))
      have HGL := Lib.hid hgl2
      clear hpe hee hgl hgl2
      go_wp2
      go_loopw [6] (fun j wx => ∃ (m : Nat) (vQ : Value) (ac : List Pw), j = .int .i64 m ∧ m ≤ l.length ∧ Hb wx q #[.bool c.allow, .bool c.attrsAllow, .slice B1 m1 j1, .slice B2 m2 j2, .slice B3 m3 j3, vQ, .bool c.comments, .bool c.dataAttrs] ∧ Po W.heap.size wx vQ ac ∧ (∀ x ∈ ac, Fp W.heap.size wx x) ∧ pes ac = groupL (c.per.map sortP) (es.take k) ++ pickP ((c.per.take m).map sortP) e ∧ W.grownBy wx (some q)) (fun j _ => l.length - (intOf j).toNat)
      case atStart => exact ⟨0, vP, acc, rfl, Nat.zero_le _, hbq, hpo, hfp, hst, hg⟩
      case round =>
        clear hbq hpo hfp hst hg
        obtain ⟨m, vQ, ac, rfl, hms, hbq, hpo, hfp, hpe, hg⟩ := hrel
        have g5 := HX5.out wr hg
        by_cases hm : m < l.length
        · obtain ⟨A', c', e', -, -, hpr⟩ := HCX.out wr hg
          injection e' with e1 e2 e3
          obtain ⟨b2, o2, x, hA, hb2, hx, hcs, hsx, hxm⟩ := hpr.at_ m hm
          rw [hA] at e1
          subst e1; subst e3
          obtain ⟨E', k', ee, -, -, hrd⟩ := HSE.out wr hg
          injection ee with e4 e5 e6
          obtain ⟨be, oe, hE, hbe, hce⟩ := hrd (by omega)
          rw [hE] at e4
          subst e4; subst e6
          have ge := hce k hk
          rw [HEE.out] at ge
          obtain ⟨gx0, gx1⟩ := range2p hcs
          have hpm : c.per[m]? = some x.pe := by rw [← HP0.out.m]; simp [pes, hx]
          have hps := pick_snoc c.per e m x.pe hpm
          have HPO := Lib.hid hpo; have HFP := Lib.hid hfp; have HPE := Lib.hid hpe; have HG := Lib.hid hg; have HBQ1 := Lib.hid hbq; have HSX := Lib.hid hsx; have HEB := Lib.hid hbe; have HPB := Lib.hid hb2
          have hnext : ¬ (x.pe.el = e ∧ x.pe.at_ ≠ []) → ∀ nq : Nat, ∃ (m_1 : Nat) (vQ : Value) (ac : List Pw), Value.int .i64 ((m + 1 : Nat) : Int) = .int .i64 m_1 ∧ m_1 ≤ l.length ∧ Hb (wr.drewN nq) q #[.bool c.allow, .bool c.attrsAllow, .slice B1 m1 j1, .slice B2 m2 j2, .slice B3 m3 j3, vQ, .bool c.comments, .bool c.dataAttrs] ∧ Po W.heap.size (wr.drewN nq) vQ ac ∧ (∀ x ∈ ac, Fp W.heap.size (wr.drewN nq) x) ∧ pes ac = groupL (c.per.map sortP) (es.take k) ++ pickP ((c.per.take m_1).map sortP) e ∧ W.grownBy (wr.drewN nq) (some q) := fun hn nq =>
            have hd : Below wr.heap.size wr (wr.drewN nq) := ⟨rfl, rfl, rfl, Nat.le_refl _, fun _ _ => rfl⟩
            ⟨m + 1, vQ, ac, rfl, hm, HBQ1.out.on hd, HPO.out.below hd, fun x hx => (HFP.out x hx).below hd, by rw [HPE.out, hps, if_neg hn, List.append_nil], ⟨HG.out.os, HG.out.tape, HG.out.output, HG.out.size, HG.out.block⟩⟩
          have HN := Lib.hid hnext; have HPS := Lib.hid hps; have HXM := Lib.hid (show x.pe ∈ c.per from by rw [← HP0.out.m]; exact List.mem_map_of_mem hxm)
          clear hpo hfp hpe hg hbq hsx hnext hps hpr hcs hrd hce hx hxm hpm
          by_cases h1 : x.pe.el = e
          · have hd1 := eq_of_toList (a := x.pe.el) (b := e)
            rw [decide_eq_true h1] at hd1
            by_cases h2 : x.pe.at_ = []
            · have hl0 : x.pe.at_.length = 0 := by rw [h2]; rfl
              have HH := Lib.hid (HN.out fun h => h.2 h2)
              clear h1 h2
              go_upto_region 9 with (fail)
              go_quiet (fail)
              go_wp2
              go_roundw
              case rel => obtain ⟨m_1, vR, ad, e1, e2⟩ := HH.out nq; exact ⟨m_1, vR, ad, e1, e2⟩
              case measure => simp [intOf]; omega
            · have hlp : 0 < x.pe.at_.length := List.length_pos_iff.2 h2
              have hd2 : decide ((0 : Int) < (x.pe.at_.length : Int)) = true := decide_eq_true (by omega)
              have HPS := Lib.hid (show pickP ((c.per.take (m + 1)).map sortP) e = pickP ((c.per.take m).map sortP) e ++ [sortP x.pe] from by rw [HPS.out, if_pos ⟨h1, h2⟩])
              have H1 := Lib.hid h1
              have hd3 : decide (0 < x.pe.at_.length) = true := decide_eq_true hlp
              clear h1 h2
              go_upto_region 9 with (fail)
              go_quiet (fail)
              go_upto_region 10 with (fail)
              obtain ⟨wt, hwt⟩ : ∃ wt, wr.drewN nq = wt := ⟨_, rfl⟩
              rw [hwt]
              have hd : Below wr.heap.size wr wt := by rw [← hwt]; exact ⟨rfl, rfl, rfl, Nat.le_refl _, fun _ _ => rfl⟩
              have hg1 : W.grownBy wt (some q) := gb_on HG.out hd
              have hbt := HBQ1.out.on hd
              have hsz : W.heap.size ≤ wt.heap.size := hg1.size
              have hsz2 := hd.size
              have HBK := Lib.hid (fun wx (hb : Below wt.heap.size wt wx) => show (wx.cell? ⟨q, 5, none⟩ = some vQ ∧ wx.cell? ⟨w.heap.size, 5, none⟩ = some (.slice (some ⟨b2, o2, none⟩) l.length c4) ∧ wx.cell? ⟨be, oe + k, none⟩ = some (.string e) ∧ wx.cell? ⟨b2, o2 + m * 2 + 1, none⟩ = some (.slice x.A x.pe.at_.length x.c)) from ⟨(hbt.on hb).cell 5 _ rfl, HX5.out wx (gb_on hg1 hb), ((hd.trans (hb.mono hsz2)).cell (p := ⟨be, oe + k, none⟩) (Nat.lt_of_lt_of_le HEB.out HG.out.size)).trans ge, ((hd.trans (hb.mono hsz2)).cell (p := ⟨b2, o2 + m * 2 + 1, none⟩) (Nat.lt_of_lt_of_le HPB.out HG.out.size)).trans gx1⟩)
              have hacn : ac.length ≤ 2000000 := by
                have h1 := congrArg List.length HPE.out
                rw [len_pes, List.length_append] at h1
                have h2 := len_pick ((c.per.take m).map sortP) e
                rw [List.length_map, List.length_take] at h2
                have h3 := HGL.out
                omega
              have hal := HSM.out.pa _ HXM.out
              have HGT := Lib.hid hg1; have HBT := Lib.hid hbt; have HD := Lib.hid hd; have HPT := Lib.hid (HPO.out.below hd); have HFT := Lib.hid (fun x hx => (HFP.out x hx).below hd)
              clear hd hg1 hbt hwt
              refine wp_region_noPanic ?_
              refine Ph.T_begin (fun wx => (wx.cell? ⟨q, 5, none⟩ = some vQ ∧ wx.cell? ⟨w.heap.size, 5, none⟩ = some (.slice (some ⟨b2, o2, none⟩) l.length c4) ∧ wx.cell? ⟨be, oe + k, none⟩ = some (.string e) ∧ wx.cell? ⟨b2, o2 + m * 2 + 1, none⟩ = some (.slice x.A x.pe.at_.length x.c))) 17 (by kernel_rfl) ?_ (fun hHeld => ?_)
              · exact HBK.out _ (bel_eq12 (Below.refl _ wt) rfl rfl rfl rfl)
              refine Ph.T_pure (i := 0) (oi := _) (v := ?_) rfl (by kernel_rfl) (by kernel_rfl) (by kernel_rfl) (by kernel_rfl) (fun _ _ _ h => h) (Or.inl ⟨by rfl, ?_⟩) (by assumption) (fun hHeld => ?_)
              rotate_left
              · intro w hSw; (try dsimp only at hSw); go_simp; all_goals with_reducible rfl
              try simp only [Act.put, List.getElem_toArray, List.getElem_cons_zero, List.getElem_cons_succ, List.setIfInBounds_toArray, List.set_cons_zero, List.set_cons_succ]
              refine Ph.T_take (i := 1) (oi := _) (v := ?_) rfl (by kernel_rfl) (by kernel_rfl) (by kernel_rfl) (by kernel_rfl) (fun _ _ _ h => h) (Or.inl ⟨by rfl, ?_⟩) (by assumption) (fun hHeld => ?_)
              rotate_left
              · intro w hSw; (try dsimp only at hSw); go_simp; all_goals with_reducible rfl
              try simp only [Act.put, List.getElem_toArray, List.getElem_cons_zero, List.getElem_cons_succ, List.setIfInBounds_toArray, List.set_cons_zero, List.set_cons_succ]
              refine Ph.T_pure (i := 2) (oi := _) (v := ?_) rfl (by kernel_rfl) (by kernel_rfl) (by kernel_rfl) (by kernel_rfl) (fun _ _ _ h => h) (Or.inl ⟨by rfl, ?_⟩) (by assumption) (fun hHeld => ?_)
              rotate_left
              · intro w hSw; (try dsimp only at hSw); go_simp; all_goals with_reducible rfl
              try simp only [Act.put, List.getElem_toArray, List.getElem_cons_zero, List.getElem_cons_succ, List.setIfInBounds_toArray, List.set_cons_zero, List.set_cons_succ]
              refine Ph.T_pure (i := 3) (oi := _) (v := ?_) rfl (by kernel_rfl) (by kernel_rfl) (by kernel_rfl) (by kernel_rfl) (fun _ _ _ h => h) (Or.inl ⟨by rfl, ?_⟩) (by assumption) (fun hHeld => ?_)
              rotate_left
              · intro w hSw; (try dsimp only at hSw); go_simp; all_goals with_reducible rfl
              try simp only [Act.put, List.getElem_toArray, List.getElem_cons_zero, List.getElem_cons_succ, List.setIfInBounds_toArray, List.set_cons_zero, List.set_cons_succ]
              refine Ph.T_pure (i := 4) (oi := _) (v := ?_) rfl (by kernel_rfl) (by kernel_rfl) (by kernel_rfl) (by kernel_rfl) (fun _ _ _ h => h) (Or.inl ⟨by rfl, ?_⟩) (by assumption) (fun hHeld => ?_)
              rotate_left
              · intro w hSw; (try dsimp only at hSw); go_simp; all_goals with_reducible rfl
              try simp only [Act.put, List.getElem_toArray, List.getElem_cons_zero, List.getElem_cons_succ, List.setIfInBounds_toArray, List.set_cons_zero, List.set_cons_succ]
              refine Ph.T_take (i := 5) (oi := _) (v := ?_) rfl (by kernel_rfl) (by kernel_rfl) (by kernel_rfl) (by kernel_rfl) (fun _ _ _ h => h) (Or.inl ⟨by rfl, ?_⟩) (by assumption) (fun hHeld => ?_)
              rotate_left
              · intro w hSw; (try dsimp only at hSw); go_simp; all_goals with_reducible rfl
              try simp only [Act.put, List.getElem_toArray, List.getElem_cons_zero, List.getElem_cons_succ, List.setIfInBounds_toArray, List.set_cons_zero, List.set_cons_succ]
              refine Ph.T_pure (i := 6) (oi := _) (v := ?_) rfl (by kernel_rfl) (by kernel_rfl) (by kernel_rfl) (by kernel_rfl) (fun _ _ _ h => h) (Or.inl ⟨by rfl, ?_⟩) (by assumption) (fun hHeld => ?_)
              rotate_left
              · intro w hSw; (try dsimp only at hSw); go_simp; all_goals with_reducible rfl
              try simp only [Act.put, List.getElem_toArray, List.getElem_cons_zero, List.getElem_cons_succ, List.setIfInBounds_toArray, List.set_cons_zero, List.set_cons_succ]
              refine Ph.T_take (i := 7) (oi := _) (v := ?_) rfl (by kernel_rfl) (by kernel_rfl) (by kernel_rfl) (by kernel_rfl) (fun _ _ _ h => h) (Or.inl ⟨by rfl, ?_⟩) (by assumption) (fun hHeld => ?_)
              rotate_left
              · intro w hSw; (try dsimp only at hSw); go_simp; all_goals with_reducible rfl
              try simp only [Act.put, List.getElem_toArray, List.getElem_cons_zero, List.getElem_cons_succ, List.setIfInBounds_toArray, List.set_cons_zero, List.set_cons_succ]
              refine Ph.T_pure (i := 8) (oi := _) (v := ?_) rfl (by kernel_rfl) (by kernel_rfl) (by kernel_rfl) (by kernel_rfl) (fun _ _ _ h => h) (Or.inl ⟨by rfl, ?_⟩) (by assumption) (fun hHeld => ?_)
              rotate_left
              · intro w hSw; (try dsimp only at hSw); go_simp; all_goals with_reducible rfl
              try simp only [Act.put, List.getElem_toArray, List.getElem_cons_zero, List.getElem_cons_succ, List.setIfInBounds_toArray, List.set_cons_zero, List.set_cons_succ]
              refine Ph.T_pure (i := 9) (oi := _) (v := ?_) rfl (by kernel_rfl) (by kernel_rfl) (by kernel_rfl) (by kernel_rfl) (fun _ _ _ h => h) (Or.inl ⟨by rfl, ?_⟩) (by assumption) (fun hHeld => ?_)
              rotate_left
              · intro w hSw; (try dsimp only at hSw); go_simp; all_goals with_reducible rfl
              try simp only [Act.put, List.getElem_toArray, List.getElem_cons_zero, List.getElem_cons_succ, List.setIfInBounds_toArray, List.set_cons_zero, List.set_cons_succ]
              refine Ph.T_pure (i := 10) (oi := _) (v := ?_) rfl (by kernel_rfl) (by kernel_rfl) (by kernel_rfl) (by kernel_rfl) (fun _ _ _ h => h) (Or.inl ⟨by rfl, ?_⟩) (by assumption) (fun hHeld => ?_)
              rotate_left
              · intro w hSw; (try dsimp only at hSw); go_simp; all_goals with_reducible rfl
              try simp only [Act.put, List.getElem_toArray, List.getElem_cons_zero, List.getElem_cons_succ, List.setIfInBounds_toArray, List.set_cons_zero, List.set_cons_succ]
              refine Ph.T_take (i := 11) (oi := _) (v := ?_) rfl (by kernel_rfl) (by kernel_rfl) (by kernel_rfl) (by kernel_rfl) (fun _ _ _ h => h) (Or.inl ⟨by rfl, ?_⟩) (by assumption) (fun hHeld => ?_)
              rotate_left
              · intro w hSw; (try dsimp only at hSw); go_simp; all_goals with_reducible rfl
              try simp only [Act.put, List.getElem_toArray, List.getElem_cons_zero, List.getElem_cons_succ, List.setIfInBounds_toArray, List.set_cons_zero, List.set_cons_succ]
              refine Ph.T_one (i := 12) (o := _) (by kernel_rfl) rfl (fun K hK => ?_)
              go_simp
              go_at_call 36
              refine (refSorted1 (.slice x.A x.pe.at_.length x.c) x.pe.at_ wt.drew (sv_on (HSX.out.more HG.out.size) (HD.out.trans (show Below wr.heap.size wt wt.drew from ⟨rfl, rfl, rfl, Nat.le_refl _, fun _ _ => rfl⟩))) (by omega)).mono ?_
              rintro r u6 ⟨x6, rfl, ho, hc⟩
              have HC6 := Lib.hid (show Below wt.heap.size wt u6 from ⟨hc.os, hc.tape, hc.output, hc.size, hc.block⟩)
              have HO6 := Lib.hid (show Sown wt.heap.size u6 x6 _ from ho)
              obtain ⟨ZA, zc, rfl, -⟩ := ho.form
              clear ho hc
              go_wp2_with fail
              refine hK.out _ _ ?_ (fun hHeld => ?_)
              · exact HBK.out _ HC6.out
              clear hK K
              try simp only [Act.put, List.getElem_toArray, List.getElem_cons_zero, List.getElem_cons_succ, List.setIfInBounds_toArray, List.set_cons_zero, List.set_cons_succ]
              refine Ph.T_pure (i := 13) (oi := _) (v := ?_) rfl (by kernel_rfl) (by kernel_rfl) (by kernel_rfl) (by kernel_rfl) (fun _ _ _ h => h) (Or.inl ⟨by rfl, ?_⟩) (by assumption) (fun hHeld => ?_)
              rotate_left
              · intro w hSw; (try dsimp only at hSw); go_simp; all_goals with_reducible rfl
              try simp only [Act.put, List.getElem_toArray, List.getElem_cons_zero, List.getElem_cons_succ, List.setIfInBounds_toArray, List.set_cons_zero, List.set_cons_succ]
              obtain ⟨z, hz⟩ : ∃ z : Pw, z = ⟨⟨e, srt lt x.pe.at_⟩, ZA, zc⟩ := ⟨_, rfl⟩
              have hzo : perO z = .cells #[.string e, .slice ZA (srt lt x.pe.at_).length zc] 48 := by rw [hz]
              have hfz : Fp W.heap.size u6 z := by rw [hz]; exact HO6.out.mono hsz
              have hpe6 : z.pe = sortP x.pe := by rw [hz]; show (⟨e, _⟩ : Pe) = _; rw [← H1.out]; rfl
              have HZO := Lib.hid hzo; have HFZ := Lib.hid hfz; have HPZ := Lib.hid hpe6
              clear hz hzo hfz hpe6
              refine Ph.T_one (i := 14) (o := _) (by kernel_rfl) rfl (fun K hK => ?_)
              go_simp
              go_wp2_with fail
              refine hK.out _ _ ?_ (fun hHeld => ?_)
              · exact HBK.out _ (HC6.out.trans ((below_new12 u6 _).mono HC6.out.size))
              clear hK K
              try simp only [Act.put, List.getElem_toArray, List.getElem_cons_zero, List.getElem_cons_succ, List.setIfInBounds_toArray, List.set_cons_zero, List.set_cons_succ]
              have hp6 := HPT.out.below HC6.out
              have hf6 := fun x hx => (HFT.out x hx).below HC6.out
              have hb6 := HBT.out.on HC6.out
              have hg6 := gb_on HGT.out HC6.out
              refine Ph.T_one (i := 15) (o := _) (by kernel_rfl) rfl (fun K hK => ?_)
              refine step_app_per _ (by rfl) (.tmp 63) (.tmp 76) (by rfl) u6 W.heap.size vQ ac z hp6 HFZ.out.sx HFZ.out.ap (World.grownBy_alloc u6 _ _) (Nat.le_trans hsz HC6.out.size) hacn (by simp [Act.eval, Act.put]) u6.heap.size (by simp [Act.eval, Act.put]) (by rw [HZO.out]; exact heap_alloc_new _ _) ?_
              intro v7 w7 ho7 hg7
              obtain ⟨A7, n7, j7, rfl⟩ := po_shape ho7
              have hf7 : ∀ y ∈ ac ++ [z], Fp W.heap.size w7 y := fun y hy => Sown.grownP hp6.1 hg7 ((List.mem_append.1 hy).elim (hf6 y) (fun h => by rw [List.mem_singleton.1 h];exact HFZ.out))
              have hne : ∀ b, vQ.ownBlock = some b → W.heap.size ≤ b := fun b hb => (World.ownsRow.lt hp6.1 b hb).1
              have hq7 : Hb w7 q _ := hb6.keep (hg7.block q hb6.lt (fun e => by have := hne q e.symm;have := HBQ.out.lt;omega))
              have hg8 : W.grownBy w7 (some q) := gb_own hg6 hg7 hne
              have hs7 := hg7.size
              refine hK.out _ _ ?_ (fun hHeld => ?_)
              · exact ⟨hq7.cell 5 _ rfl, HX5.out w7 hg8, (World.cell?_of_block (a := ⟨be, oe + k, none⟩) (hg7.block be (by have := HC6.out.size; omega) (fun e => by have := hne be e.symm; have := HEB.out; omega))).trans (HBK.out u6 HC6.out).2.2.1, (World.cell?_of_block (a := ⟨b2, o2 + m * 2 + 1, none⟩) (hg7.block b2 (by have := HC6.out.size; omega) (fun e => by have := hne b2 e.symm; have := HPB.out; omega))).trans (HBK.out u6 HC6.out).2.2.2⟩
              clear hK K
              try simp only [Act.put, List.getElem_toArray, List.getElem_cons_zero, List.getElem_cons_succ, List.setIfInBounds_toArray, List.set_cons_zero, List.set_cons_succ]
              refine Ph.T_pure (i := 16) (oi := _) (v := ?_) rfl (by kernel_rfl) (by kernel_rfl) (by kernel_rfl) (by kernel_rfl) (fun _ _ _ h => h) (Or.inl ⟨by rfl, ?_⟩) (by assumption) (fun hHeld => ?_)
              rotate_left
              · intro w hSw; (try dsimp only at hSw); go_simp; all_goals with_reducible rfl
              try simp only [Act.put, List.getElem_toArray, List.getElem_cons_zero, List.getElem_cons_succ, List.setIfInBounds_toArray, List.set_cons_zero, List.set_cons_succ]
              have t5 := hq7.cell 5 _ rfl; have f5 := hq7.f 5
              have HQ7 := Lib.hid hq7; have HG8 := Lib.hid hg8; have HO7 := Lib.hid ho7; have HF7 := Lib.hid hf7
              clear hp6 hf6 hb6 hg6 hq7 hg8 ho7 hf7 hg7 hne
              refine Ph.T_last (i := 17) (o := _) (by kernel_rfl) (by kernel_rfl) rfl (fun K hK => ?_)
              go_simp
              go_wp2_with fail
              refine hK.out _ _ ?_
              clear hK K
              try simp only [Act.put, List.getElem_toArray, List.getElem_cons_zero, List.getElem_cons_succ, List.setIfInBounds_toArray, List.set_cons_zero, List.set_cons_succ]
              refine Ph.T_done (by kernel_rfl) ?_ _
              refine NoPanic.normal ?_
              obtain ⟨W8, hW8⟩ : ∃ W8, w7.setCell ⟨q, 5, none⟩ (.slice A7 n7 j7) = W8 := ⟨_, rfl⟩
              rw [hW8]
              have hgc : w7.grownBy W8 (some q) := hW8 ▸ gcell12 w7 _ 5 _
              have hq8 : Hb W8 q #[.bool c.allow, .bool c.attrsAllow, .slice B1 m1 j1, .slice B2 m2 j2, .slice B3 m3 j3, .slice A7 n7 j7, .bool c.comments, .bool c.dataAttrs] := hW8 ▸ HQ7.out.set 5 (.slice A7 n7 j7)
              have hf8 : ∀ y ∈ ac ++ [z], Fp W.heap.size W8 y := fun y hy => own_boxed (HF7.out y hy) HQ7.out hgc
              have ho8 : Po W.heap.size W8 (.slice A7 n7 j7) (ac ++ [z]) := po_of (row_boxed HO7.out.1 (by decide) HQ7.out hgc) hf8
              have hg9 : W.grownBy W8 (some q) := gb_set HG8.out hgc
              have HPP := Lib.hid (show pes (ac ++ [z]) = groupL (c.per.map sortP) (es.take k) ++ pickP ((c.per.take (m + 1)).map sortP) e from by rw [pes_append, HPE.out, HPS.out, List.append_assoc]; show _ ++ (_ ++ [z.pe]) = _; rw [HPZ.out])
              clear hW8 hgc t5 f5
              go_wp2
              have HPPb : pes (ac ++ [z]) = groupL (c.per.map sortP) (es.take k) ++ pickP (List.take (m + 1) (List.map sortP c.per)) e := by rw [← List.map_take]; exact HPP.out
              go_roundw
              case rel => first | exact ⟨m + 1, .slice A7 n7 j7, ac ++ [z], by go_num, by omega, hq8, ho8, hf8, HPP.out, hg9⟩ | exact ⟨.slice A7 n7 j7, hq8, ac ++ [z], ho8, hf8, HPPb, hg9⟩ | exact ⟨.slice A7 n7 j7, hq8, ac ++ [z], ho8, hf8, HPP.out, hg9⟩ | exact ⟨hm, .slice A7 n7 j7, hq8, ac ++ [z], ho8, hf8, HPPb, hg9⟩
              case measure => simp [intOf]; omega
          · have hd1 := eq_of_toList (a := x.pe.el) (b := e)
            rw [decide_eq_false h1] at hd1
            have HH := Lib.hid (HN.out fun h => h1 h.1)
            clear h1
            go_upto_region 9 with (fail)
            go_quiet (fail)
            go_wp2
            go_roundw
            case rel => obtain ⟨m_1, vR, ad, e1, e2⟩ := HH.out nq; exact ⟨m_1, vR, ad, e1, e2⟩
            case measure => simp [intOf]; omega
        · have hpe2 : pes ac = groupL (c.per.map sortP) (es.take (k + 1)) := by
            have h1 := HLN.out
            have h2 : c.per.take m = c.per := List.take_of_length_le (by omega)
            rw [hpe, group_snoc _ _ _ hk, HEE.out, h2]
          have HPO := Lib.hid hpo; have HFP := Lib.hid hfp; have HPE := Lib.hid hpe2; have HG := Lib.hid hg; have HBQ1 := Lib.hid hbq
          clear hpo hfp hpe hpe2 hg hbq
          go_wp2
          go_roundw
          case rel => exact ⟨k + 1, vQ, ac, by go_num, by omega, HBQ1.out, HPO.out, HFP.out, HPE.out, HG.out⟩
          case measure => simp [intOf]; omega
    · obtain rfl : k = es.length := by omega
      rw [List.take_length] at hpe
      have hz9 := HZW.out.keep (hg.block _ HZW.out.lt (by simp; omega))
      have hcp : Cp wr wr.heap.size (canonC c) (.slice B1 m1 j1) (.slice B2 m2 j2) (.slice B3 m3 j3) vP acc := ⟨sv_own (own_boxed HO1.out HBQ.out hg), sv_own (own_boxed HO2.out HBQ.out hg), sv_own (own_boxed HO3.out HBQ.out hg), hpo.pv, by rw [hpe, ← HES.out]; rfl⟩
      have hbl : Below w.heap.size w wr := HBW.out.grown hg HBW.out.size (fun b hb => by injection hb with hb; have := HQ0.out; have := HB1.out.size; omega)
      have HRG := Lib.hid hbq.range; have HTH := Lib.hid (hz9.there 8 rfl); have HCP := Lib.hid hcp; have HBL := Lib.hid hbl; have HZ9 := Lib.hid hz9
      clear hpe hg hpo hfp hbq hcp hbl hz9
      obtain ⟨A6, n6, j6, rfl⟩ := pv_shape HCP.out.p
      go_wp2_with (first
        | (show wpList _ _ _ (⟨_, Op.load 26 (.tmp 3), _, _, _, _⟩ :: _) _ _; refine wpList_load_mid rfl 26 (.tmp 3) rfl q 0 rfl _ _ HRG.out Try.underlying26 rfl size_conf ?_)
        | (show wpList _ _ _ (⟨none, Op.store 26 (.tmp 2) (.tmp 79), _, _, _, _⟩ :: _) _ _; refine wpList_store_mid rfl 26 (.tmp 2) (.tmp 79) rfl (w.heap.size + 1) 0 #[.bool c.allow, .bool c.attrsAllow, .slice B1 m1 j1, .slice B2 m2 j2, .slice B3 m3 j3, .slice A6 n6 j6, .bool c.comments, .bool c.dataAttrs] rfl rfl HTH.out size_conf (by simp [Value.oneCell']) ?_))
      obtain ⟨WZ, hW, hgW, hbW⟩ := res_hb HZ9.out rfl (.bool c.allow) (.bool c.attrsAllow) (.slice B1 m1 j1) (.slice B2 m2 j2) (.slice B3 m3 j3) (.slice A6 n6 j6) (.bool c.comments) (.bool c.dataAttrs)
      have hbx := (show Bx WZ (w.heap.size + 1) c (.slice B1 m1 j1) (.slice B2 m2 j2) (.slice B3 m3 j3) (.slice A6 n6 j6) from hbW.range)
      obtain ⟨z0, z1, z2, z3, z4, z5, z6, z7⟩ := hbx.at_
      rw [← hW]
      have hcq := cp_boxed HCP.out HZ9.out noZero hgW
      have hblz : Below w.heap.size w WZ := HBL.out.grown hgW HBL.out.size (fun b hb => by injection hb with hb; omega)
      clear HRG HTH hgW hW hbx hbW
      go_wp2
      exact bodyPost_ret (v := confV c (.slice B1 m1 j1) (.slice B2 m2 j2) (.slice B3 m3 j3) (.slice A6 n6 j6)) (by simp [results, Try.f15, go_sem, z0, z1, z2, z3, z4, z5, z6, z7]) rfl ⟨_, rfl, ⟨_, _, _, _, _, rfl, hcq⟩, hblz⟩

end Go.Proofs.Ytgjlfcamgkeibaa.Co
