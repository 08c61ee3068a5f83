/-
  Walk of stage 12: the document's Check.
  Walks of stage 13: the document's Rows.
  Stage 13: rows whose names, and whose attributes' names, are written.
  Stage 13: CleanRows.
  Stage 4: what rows hold in text is no more than the reading's bulk.
-/
import Derived.Test.YtgjlfcamgkeibaaCk07
import Derived.Deep.CutRange
import Derived.Test.YtgjlfcamgkeibaaCk10
import Derived.Test.YtgjlfcamgkeibaaCk08
import Derived.Test.YtgjlfcamgkeibaaCk03
namespace Go.Proofs.Ytgjlfcamgkeibaa.Co
set_option maxRecDepth 100000
set_option linter.unusedVariables false
set_option linter.unusedSimpArgs false
open Go.RowKit Ba Fm Fo Nm Rk
theorem names_split (c : Cf) : namesB c = ((c.els.all rightB && c.reps.all rightB && (c.per.map Pe.el).all rightB && c.ats.all attrB) && c.per.all fun p => p.at_.all attrB) := by
  unfold namesB
  rw [Bool.eq_iff_iff]
  simp only [Bool.and_eq_true, List.all_eq_true]
  constructor
  · rintro ⟨⟨⟨h1, h2⟩, h3⟩, h4⟩
    exact ⟨⟨⟨⟨h1, h2⟩, fun x hx => by obtain ⟨p, hp, rfl⟩ := List.mem_map.1 hx; exact (h4 p hp).1⟩, h3⟩, fun p hp => (h4 p hp).2⟩
  · rintro ⟨⟨⟨⟨h1, h2⟩, h5⟩, h3⟩, h4⟩
    exact ⟨⟨⟨h1, h2⟩, h3⟩, fun p hp => ⟨h5 _ (List.mem_map.2 ⟨p, hp, rfl⟩), h4 p hp⟩⟩
theorem single_split (c : Cf) : singleB c = ((onceB c.els && onceB c.reps && onceB (c.per.map Pe.el) && onceB c.ats) && c.per.all fun p => onceB p.at_) := by
  unfold singleB
  cases onceB c.els <;> cases onceB c.reps <;> cases onceB c.ats <;> cases onceB (c.per.map Pe.el) <;> rfl
theorem all_snocX {α : Type} (p : α → Bool) (l : List α) (k : Nat) (x : α) (h : l[k]? = some x) : (l.take (k + 1)).all p = ((l.take k).all p && p x) := by
  have hk : k < l.length := (List.getElem?_eq_some_iff.1 h).1
  have hx : l[k] = x := (List.getElem?_eq_some_iff.1 h).2
  rw [List.take_succ_eq_append_getElem hk, List.all_append, hx]
  simp
theorem on_eqR {P : Program} {f : FuncId} {args : Array Value} {w0 w : World} {T : Ending → Prop} (h : Calls P f args w fun e w' => T e ∧ w = w') (hb : Below w0.heap.size w0 w) : Calls P f args w fun e w' => T e ∧ Below w0.heap.size w0 w' :=
  h.mono fun e w' ⟨he, hw⟩ => ⟨he, hw ▸ hb⟩
theorem on_baseR {P : Program} {f : FuncId} {args : Array Value} {w0 w : World} {T : Ending → Prop} (h : Calls P f args w fun e w' => T e ∧ Below w.heap.size w w') (hb : Below w0.heap.size w0 w) : Calls P f args w fun e w' => T e ∧ Below w0.heap.size w0 w' :=
  h.mono fun e w' ⟨he, hw⟩ => ⟨he, hb.trans (hw.mono hb.size)⟩
theorem of_onR {P : Program} {f : FuncId} {args : Array Value} {w0 w : World} {l : List ByteArray} (h : Calls P f args w fun e w' => ∃ v', e = .returned v' ∧ Sown w.heap.size w' v' l ∧ Below w.heap.size w w') (hb : Below w0.heap.size w0 w) : Calls P f args w fun e w' => ∃ v', e = .returned v' ∧ Sv w' w'.heap.size v' l ∧ Below w0.heap.size w0 w' :=
  h.mono fun e w' ⟨v', he, ho, hw⟩ => ⟨v', he, sv_own ho, hb.trans (hw.mono hb.size)⟩
set_option maxRecDepth 100000 in
set_option maxHeartbeats 8000000 in
theorem refCheck12 (v : Value) (c : Cf) (w : World) (q : Nat) (h : Cv w w.heap.size v c) (hs : Sm c) (hq : checkN c = q) :
    Calls Try.prog 22 #[v] w fun r w' => r = .returned (.int .i64 q) ∧ Below w.heap.size w w' := by
  obtain ⟨vE, vR, vA, vP, l, rfl, h⟩ := h
  obtain ⟨al, aa, els, reps, ats, per, cm, da⟩ := c
  obtain ⟨w0, hw0⟩ : ∃ w0, w.alloc (.cells #[.bool al, .bool aa, vE, vR, vA, vP, .bool cm, .bool da] 26) = w0 := ⟨_, rfl⟩
  have hb1 : Below w.heap.size w w0 := hw0 ▸ below_new12 w _
  have hbx : Bx w0 w.heap.size ⟨al, aa, els, reps, ats, per, cm, da⟩ vE vR vA vP := hw0 ▸ Bx.new w ⟨al, aa, els, reps, ats, per, cm, da⟩ vE vR vA vP
  have hz : w.heap.size < w0.heap.size := by rw [← hw0]; simp
  have h0 := h.on hb1
  have hcv : Cv w0 w0.heap.size (.agg #[.bool al, .bool aa, vE, vR, vA, vP, .bool cm, .bool da]) ⟨al, aa, els, reps, ats, per, cm, da⟩ := ⟨vE, vR, vA, vP, l, rfl, h0⟩
  have hpl : per.length = l.length := by have := h.m; simp only at this; rw [← this, len_pes]
  have hl : l.length ≤ 1000 := by have := hs.p; simp only at this; omega
  have hl1 := hs.e; have hl2 := hs.r; have hl3 := hs.a
  simp only at hl1 hl2 hl3
  have hlen : ∀ x ∈ l, x.pe.at_.length ≤ 1000 ∧ ∀ s ∈ x.pe.at_, s.size ≤ 140737488355328 := fun x hx => by
    have hm : x.pe ∈ per := by have := h.m; simp only at this; rw [← this]; exact List.mem_map.2 ⟨x, hx, rfl⟩
    exact ⟨hs.pa _ hm, (hs.ps _ hm).2⟩
  have hofs : ∀ s ∈ per.map Pe.el, s.size ≤ 140737488355328 := fun s hs' => by obtain ⟨p, hp, rfl⟩ := List.mem_map.1 hs'; exact (hs.ps _ hp).1
  obtain ⟨m1, hm1⟩ : ∃ b, els.all rightB = b := ⟨_, rfl⟩
  obtain ⟨m2, hm2⟩ : ∃ b, reps.all rightB = b := ⟨_, rfl⟩
  obtain ⟨m3, hm3⟩ : ∃ b, (per.map Pe.el).all rightB = b := ⟨_, rfl⟩
  obtain ⟨m4, hm4⟩ : ∃ b, ats.all attrB = b := ⟨_, rfl⟩
  obtain ⟨o1, ho1⟩ : ∃ b, onceB els = b := ⟨_, rfl⟩
  obtain ⟨o2, ho2⟩ : ∃ b, onceB reps = b := ⟨_, rfl⟩
  obtain ⟨o3, ho3⟩ : ∃ b, onceB (per.map Pe.el) = b := ⟨_, rfl⟩
  obtain ⟨o4, ho4⟩ : ∃ b, onceB ats = b := ⟨_, rfl⟩
  obtain ⟨t1, ht1⟩ : ∃ b, meetB els reps = b := ⟨_, rfl⟩
  obtain ⟨q1, hq1⟩ : ∃ b, decide (64 < els.length) = b := ⟨_, rfl⟩
  obtain ⟨q2, hq2⟩ : ∃ b, decide (64 < reps.length) = b := ⟨_, rfl⟩
  obtain ⟨q3, hq3⟩ : ∃ b, decide (64 < ats.length) = b := ⟨_, rfl⟩
  obtain ⟨q4, hq4⟩ : ∃ b, decide (64 < l.length) = b := ⟨_, rfl⟩
  have hbig : bigB ⟨al, aa, els, reps, ats, per, cm, da⟩ = ((q1 || q2 || q3 || q4) || l.any fun x => decide (64 < x.pe.at_.length)) := by
    have := h.m
    simp only at this
    unfold bigB
    simp only
    rw [hpl, ← this, hq1, hq2, hq3, hq4]
    unfold pes
    rw [List.any_map]
    rfl
  have hnam : namesB ⟨al, aa, els, reps, ats, per, cm, da⟩ = ((m1 && m2 && m3 && m4) && l.all fun x => x.pe.at_.all attrB) := by
    have := h.m
    simp only at this
    rw [names_split]
    simp only
    rw [hm1, hm2, hm3, hm4, ← this]
    unfold pes
    rw [List.all_map]
    rfl
  have hsin : singleB ⟨al, aa, els, reps, ats, per, cm, da⟩ = ((o1 && o2 && o3 && o4) && l.all fun x => onceB x.pe.at_) := by
    have := h.m
    simp only at this
    rw [single_split]
    simp only
    rw [ho1, ho2, ho3, ho4, ← this]
    unfold pes
    rw [List.all_map]
    rfl
  have hbot : bothB ⟨al, aa, els, reps, ats, per, cm, da⟩ = ((t1 || (da && !aa)) || l.any fun x => meetB x.pe.at_ ats) := by
    have := h.m
    simp only at this
    unfold bothB
    simp only
    rw [ht1, ← this]
    unfold pes
    rw [List.any_map]
    rfl
  unfold checkN at hq
  rw [hbig, hnam, hsin, hbot] at hq
  have HQ := Lib.hid hq
  have HBX := Lib.hid (fun wx (hb : Below w0.heap.size w0 wx) => (hbx.below hb hz).at_)
  have HMA := Lib.hid (fun wx (hb : Below w0.heap.size w0 wx) => on_eqR (refMay1 vE els false wx.heap.size wx m1 (sv_on h0.e hb) (by omega) hs.es hm1) hb)
  have HMB := Lib.hid (fun wx (hb : Below w0.heap.size w0 wx) => on_eqR (refMay1 vR reps false wx.heap.size wx m2 (sv_on h0.r hb) (by omega) hs.rs hm2) hb)
  have HMC := Lib.hid (fun u wx (ho : Sv wx wx.heap.size u (per.map Pe.el)) (hb : Below w0.heap.size w0 wx) => on_eqR (refMay1 u (per.map Pe.el) false wx.heap.size wx m3 ho (by rw [List.length_map]; omega) hofs hm3) hb)
  have HMD := Lib.hid (fun wx (hb : Below w0.heap.size w0 wx) => on_eqR (refMay1 vA ats true wx.heap.size wx m4 (sv_on h0.a hb) (by omega) hs.as_ hm4) hb)
  have HOA := Lib.hid (fun wx (hb : Below w0.heap.size w0 wx) => on_baseR (refOnce1 vE els wx o1 (sv_on h0.e hb) (by omega) ho1) hb)
  have HOB := Lib.hid (fun wx (hb : Below w0.heap.size w0 wx) => on_baseR (refOnce1 vR reps wx o2 (sv_on h0.r hb) (by omega) ho2) hb)
  have HOC := Lib.hid (fun u wx (ho : Sv wx wx.heap.size u (per.map Pe.el)) (hb : Below w0.heap.size w0 wx) => on_baseR (refOnce1 u (per.map Pe.el) wx o3 ho (by rw [List.length_map]; omega) ho3) hb)
  have HOD := Lib.hid (fun wx (hb : Below w0.heap.size w0 wx) => on_baseR (refOnce1 vA ats wx o4 (sv_on h0.a hb) (by omega) ho4) hb)
  have HOF := Lib.hid (fun wx (hb : Below w0.heap.size w0 wx) => of_onR (refOf1 (.agg #[.bool al, .bool aa, vE, vR, vA, vP, .bool cm, .bool da]) ⟨al, aa, els, reps, ats, per, cm, da⟩ wx (hcv.on hb) hs) hb)
  have HME := Lib.hid (fun wx (hb : Below w0.heap.size w0 wx) => on_eqR (refMeet1 vE vR wx.heap.size wx.heap.size els reps wx t1 (sv_on h0.e hb) (sv_on h0.r hb) (by omega) (by omega) ht1) hb)
  have HVA := Lib.hid h0.a
  obtain ⟨A, cp, rfl, hcp, hna, hr⟩ := h0.p
  obtain ⟨E, ce, rfl, _, _, _⟩ := h.e
  obtain ⟨R, cr, rfl, _, _, _⟩ := h.r
  obtain ⟨T, ct, rfl, _, _, _⟩ := h.a
  have HR := Lib.hid hr; have HLEN := Lib.hid hlen; have HB1 := Lib.hid hb1; have HW := Lib.hid hw0
  obtain ⟨n1, hn1⟩ : ∃ n, els.length = n := ⟨_, rfl⟩
  obtain ⟨n2, hn2⟩ : ∃ n, reps.length = n := ⟨_, rfl⟩
  obtain ⟨n3, hn3⟩ : ∃ n, ats.length = n := ⟨_, rfl⟩
  rw [hn1] at hq1 HBX HMA HOA HME HOF HW
  rw [hn2] at hq2 HBX HMB HOB HME HOF HW
  rw [hn3] at hq3 HBX HMD HOD HVA HOF HW
  rw [hn1, hn2, hn3]
  have HL3 := Lib.hid hl3; have HN3 := Lib.hid hn3
  clear hq hm1 hm2 hm3 hm4 ho1 ho2 ho3 ho4 ht1 hbig hnam hsin hbot h0 h hs hcv hbx hr hlen hb1 hw0 hofs hpl hl1 hl2 hl3 hn1 hn2 hn3
  go_enter Try.func22, Try.ntmps22
  go_upto_region 1 with (fail)
  rw [HW.out]
  obtain ⟨g0, g1, g2, g3, g4, g5, g6, g7⟩ := HBX.out w0 (Below.refl _ _)
  have e1 : decide ((64 : Int) < (n1 : Int)) = q1 := by rw [← hq1]; exact decide_eq_decide.2 (by omega)
  have e2 : decide ((64 : Int) < (n2 : Int)) = q2 := by rw [← hq2]; exact decide_eq_decide.2 (by omega)
  have e3 : decide ((64 : Int) < (n3 : Int)) = q3 := by rw [← hq3]; exact decide_eq_decide.2 (by omega)
  have e4 : decide ((64 : Int) < (l.length : Int)) = q4 := by rw [← hq4]; exact decide_eq_decide.2 (by omega)
  go_cut [3] from 9 to 30 (fun s wx => s = .bool (q1 || q2 || q3 || q4) ∧ w0 = wx)
  case first =>
    cases q1 with
    | true =>
      go_wp2
      go_meet
      exact ⟨by simp, rfl⟩
    | false =>
    cases q2 with
    | true =>
      go_wp2
      go_meet
      exact ⟨by simp, rfl⟩
    | false =>
    cases q3 with
    | true =>
      go_wp2
      go_meet
      exact ⟨by simp, rfl⟩
    | false =>
    cases q4 with
    | true =>
      go_wp2
      go_meet
      exact ⟨by simp, rfl⟩
    | false =>
      go_wp2
      go_meet
      exact ⟨by simp, rfl⟩
  case rest =>
  obtain ⟨rfl, rfl⟩ := hcut
  clear hq1 hq2 hq3 hq4 e1 e2 e3 e4
  go_upto_region 2 with (fail)
  have hb : Below w0.heap.size w0 w0 := Below.refl _ _
  go_cut [4] from 31 to 48 (fun s wx => s = .bool (m1 && m2 && m3 && m4) ∧ Below w0.heap.size w0 wx)
  case first =>
    cases m1 with
    | false =>
      go_wp2_with (first | (go_at_call 52; (with_reducible show Calls _ _ #[.slice E n1 ce, .bool false] _ _); refine (HMA.out _ hb).mono ?_; rintro r x1 ⟨rfl, hb⟩; clear g0 g1 g2 g3 g4 g5 g6 g7; obtain ⟨g0, g1, g2, g3, g4, g5, g6, g7⟩ := HBX.out _ hb) | (go_at_call 52; (with_reducible show Calls _ _ #[.slice R n2 cr, .bool false] _ _); refine (HMB.out _ hb).mono ?_; rintro r x1 ⟨rfl, hb⟩; clear g0 g1 g2 g3 g4 g5 g6 g7; obtain ⟨g0, g1, g2, g3, g4, g5, g6, g7⟩ := HBX.out _ hb) | (go_at_call 37; refine (HOF.out _ hb).mono ?_; rintro r x1 ⟨u, rfl, hu, hb⟩; clear g0 g1 g2 g3 g4 g5 g6 g7; obtain ⟨g0, g1, g2, g3, g4, g5, g6, g7⟩ := HBX.out _ hb) | (go_at_call 52; (with_reducible show Calls _ _ #[u, .bool false] _ _); refine (HMC.out _ _ hu hb).mono ?_; rintro r x1 ⟨rfl, hb⟩; clear g0 g1 g2 g3 g4 g5 g6 g7; obtain ⟨g0, g1, g2, g3, g4, g5, g6, g7⟩ := HBX.out _ hb) | (go_at_call 52; (with_reducible show Calls _ _ #[.slice T n3 ct, .bool true] _ _); refine (HMD.out _ hb).mono ?_; rintro r x1 ⟨rfl, hb⟩; clear g0 g1 g2 g3 g4 g5 g6 g7; obtain ⟨g0, g1, g2, g3, g4, g5, g6, g7⟩ := HBX.out _ hb))
      go_meet
      exact ⟨by simp, hb⟩
    | true =>
    cases m2 with
    | false =>
      go_wp2_with (first | (go_at_call 52; (with_reducible show Calls _ _ #[.slice E n1 ce, .bool false] _ _); refine (HMA.out _ hb).mono ?_; rintro r x1 ⟨rfl, hb⟩; clear g0 g1 g2 g3 g4 g5 g6 g7; obtain ⟨g0, g1, g2, g3, g4, g5, g6, g7⟩ := HBX.out _ hb) | (go_at_call 52; (with_reducible show Calls _ _ #[.slice R n2 cr, .bool false] _ _); refine (HMB.out _ hb).mono ?_; rintro r x1 ⟨rfl, hb⟩; clear g0 g1 g2 g3 g4 g5 g6 g7; obtain ⟨g0, g1, g2, g3, g4, g5, g6, g7⟩ := HBX.out _ hb) | (go_at_call 37; refine (HOF.out _ hb).mono ?_; rintro r x1 ⟨u, rfl, hu, hb⟩; clear g0 g1 g2 g3 g4 g5 g6 g7; obtain ⟨g0, g1, g2, g3, g4, g5, g6, g7⟩ := HBX.out _ hb) | (go_at_call 52; (with_reducible show Calls _ _ #[u, .bool false] _ _); refine (HMC.out _ _ hu hb).mono ?_; rintro r x1 ⟨rfl, hb⟩; clear g0 g1 g2 g3 g4 g5 g6 g7; obtain ⟨g0, g1, g2, g3, g4, g5, g6, g7⟩ := HBX.out _ hb) | (go_at_call 52; (with_reducible show Calls _ _ #[.slice T n3 ct, .bool true] _ _); refine (HMD.out _ hb).mono ?_; rintro r x1 ⟨rfl, hb⟩; clear g0 g1 g2 g3 g4 g5 g6 g7; obtain ⟨g0, g1, g2, g3, g4, g5, g6, g7⟩ := HBX.out _ hb))
      go_meet
      exact ⟨by simp, hb⟩
    | true =>
    cases m3 with
    | false =>
      go_wp2_with (first | (go_at_call 52; (with_reducible show Calls _ _ #[.slice E n1 ce, .bool false] _ _); refine (HMA.out _ hb).mono ?_; rintro r x1 ⟨rfl, hb⟩; clear g0 g1 g2 g3 g4 g5 g6 g7; obtain ⟨g0, g1, g2, g3, g4, g5, g6, g7⟩ := HBX.out _ hb) | (go_at_call 52; (with_reducible show Calls _ _ #[.slice R n2 cr, .bool false] _ _); refine (HMB.out _ hb).mono ?_; rintro r x1 ⟨rfl, hb⟩; clear g0 g1 g2 g3 g4 g5 g6 g7; obtain ⟨g0, g1, g2, g3, g4, g5, g6, g7⟩ := HBX.out _ hb) | (go_at_call 37; refine (HOF.out _ hb).mono ?_; rintro r x1 ⟨u, rfl, hu, hb⟩; clear g0 g1 g2 g3 g4 g5 g6 g7; obtain ⟨g0, g1, g2, g3, g4, g5, g6, g7⟩ := HBX.out _ hb) | (go_at_call 52; (with_reducible show Calls _ _ #[u, .bool false] _ _); refine (HMC.out _ _ hu hb).mono ?_; rintro r x1 ⟨rfl, hb⟩; clear g0 g1 g2 g3 g4 g5 g6 g7; obtain ⟨g0, g1, g2, g3, g4, g5, g6, g7⟩ := HBX.out _ hb) | (go_at_call 52; (with_reducible show Calls _ _ #[.slice T n3 ct, .bool true] _ _); refine (HMD.out _ hb).mono ?_; rintro r x1 ⟨rfl, hb⟩; clear g0 g1 g2 g3 g4 g5 g6 g7; obtain ⟨g0, g1, g2, g3, g4, g5, g6, g7⟩ := HBX.out _ hb))
      go_meet
      exact ⟨by simp, hb⟩
    | true =>
      go_wp2_with (first | (go_at_call 52; (with_reducible show Calls _ _ #[.slice E n1 ce, .bool false] _ _); refine (HMA.out _ hb).mono ?_; rintro r x1 ⟨rfl, hb⟩; clear g0 g1 g2 g3 g4 g5 g6 g7; obtain ⟨g0, g1, g2, g3, g4, g5, g6, g7⟩ := HBX.out _ hb) | (go_at_call 52; (with_reducible show Calls _ _ #[.slice R n2 cr, .bool false] _ _); refine (HMB.out _ hb).mono ?_; rintro r x1 ⟨rfl, hb⟩; clear g0 g1 g2 g3 g4 g5 g6 g7; obtain ⟨g0, g1, g2, g3, g4, g5, g6, g7⟩ := HBX.out _ hb) | (go_at_call 37; refine (HOF.out _ hb).mono ?_; rintro r x1 ⟨u, rfl, hu, hb⟩; clear g0 g1 g2 g3 g4 g5 g6 g7; obtain ⟨g0, g1, g2, g3, g4, g5, g6, g7⟩ := HBX.out _ hb) | (go_at_call 52; (with_reducible show Calls _ _ #[u, .bool false] _ _); refine (HMC.out _ _ hu hb).mono ?_; rintro r x1 ⟨rfl, hb⟩; clear g0 g1 g2 g3 g4 g5 g6 g7; obtain ⟨g0, g1, g2, g3, g4, g5, g6, g7⟩ := HBX.out _ hb) | (go_at_call 52; (with_reducible show Calls _ _ #[.slice T n3 ct, .bool true] _ _); refine (HMD.out _ hb).mono ?_; rintro r x1 ⟨rfl, hb⟩; clear g0 g1 g2 g3 g4 g5 g6 g7; obtain ⟨g0, g1, g2, g3, g4, g5, g6, g7⟩ := HBX.out _ hb))
      go_meet
      exact ⟨by simp, hb⟩
  case rest =>
  obtain ⟨rfl, hb⟩ := hcut
  clear g0 g1 g2 g3 g4 g5 g6 g7
  obtain ⟨g0, g1, g2, g3, g4, g5, g6, g7⟩ := HBX.out _ hb
  clear HMA HMB HMC HMD
  go_upto_region 3 with (fail)
  go_cut [5] from 49 to 66 (fun s wx => s = .bool (o1 && o2 && o3 && o4) ∧ Below w0.heap.size w0 wx)
  case first =>
    cases o1 with
    | false =>
      go_wp2_with (first | (go_at_call 53; (with_reducible show Calls _ _ #[.slice E n1 ce] _ _); refine (HOA.out _ hb).mono ?_; rintro r x1 ⟨rfl, hb⟩; clear g0 g1 g2 g3 g4 g5 g6 g7; obtain ⟨g0, g1, g2, g3, g4, g5, g6, g7⟩ := HBX.out _ hb) | (go_at_call 53; (with_reducible show Calls _ _ #[.slice R n2 cr] _ _); refine (HOB.out _ hb).mono ?_; rintro r x1 ⟨rfl, hb⟩; clear g0 g1 g2 g3 g4 g5 g6 g7; obtain ⟨g0, g1, g2, g3, g4, g5, g6, g7⟩ := HBX.out _ hb) | (go_at_call 37; refine (HOF.out _ hb).mono ?_; rintro r x1 ⟨u, rfl, hu, hb⟩; clear g0 g1 g2 g3 g4 g5 g6 g7; obtain ⟨g0, g1, g2, g3, g4, g5, g6, g7⟩ := HBX.out _ hb) | (go_at_call 53; (with_reducible show Calls _ _ #[u] _ _); refine (HOC.out _ _ hu hb).mono ?_; rintro r x1 ⟨rfl, hb⟩; clear g0 g1 g2 g3 g4 g5 g6 g7; obtain ⟨g0, g1, g2, g3, g4, g5, g6, g7⟩ := HBX.out _ hb) | (go_at_call 53; (with_reducible show Calls _ _ #[.slice T n3 ct] _ _); refine (HOD.out _ hb).mono ?_; rintro r x1 ⟨rfl, hb⟩; clear g0 g1 g2 g3 g4 g5 g6 g7; obtain ⟨g0, g1, g2, g3, g4, g5, g6, g7⟩ := HBX.out _ hb))
      go_meet
      exact ⟨by simp, hb⟩
    | true =>
    cases o2 with
    | false =>
      go_wp2_with (first | (go_at_call 53; (with_reducible show Calls _ _ #[.slice E n1 ce] _ _); refine (HOA.out _ hb).mono ?_; rintro r x1 ⟨rfl, hb⟩; clear g0 g1 g2 g3 g4 g5 g6 g7; obtain ⟨g0, g1, g2, g3, g4, g5, g6, g7⟩ := HBX.out _ hb) | (go_at_call 53; (with_reducible show Calls _ _ #[.slice R n2 cr] _ _); refine (HOB.out _ hb).mono ?_; rintro r x1 ⟨rfl, hb⟩; clear g0 g1 g2 g3 g4 g5 g6 g7; obtain ⟨g0, g1, g2, g3, g4, g5, g6, g7⟩ := HBX.out _ hb) | (go_at_call 37; refine (HOF.out _ hb).mono ?_; rintro r x1 ⟨u, rfl, hu, hb⟩; clear g0 g1 g2 g3 g4 g5 g6 g7; obtain ⟨g0, g1, g2, g3, g4, g5, g6, g7⟩ := HBX.out _ hb) | (go_at_call 53; (with_reducible show Calls _ _ #[u] _ _); refine (HOC.out _ _ hu hb).mono ?_; rintro r x1 ⟨rfl, hb⟩; clear g0 g1 g2 g3 g4 g5 g6 g7; obtain ⟨g0, g1, g2, g3, g4, g5, g6, g7⟩ := HBX.out _ hb) | (go_at_call 53; (with_reducible show Calls _ _ #[.slice T n3 ct] _ _); refine (HOD.out _ hb).mono ?_; rintro r x1 ⟨rfl, hb⟩; clear g0 g1 g2 g3 g4 g5 g6 g7; obtain ⟨g0, g1, g2, g3, g4, g5, g6, g7⟩ := HBX.out _ hb))
      go_meet
      exact ⟨by simp, hb⟩
    | true =>
    cases o3 with
    | false =>
      go_wp2_with (first | (go_at_call 53; (with_reducible show Calls _ _ #[.slice E n1 ce] _ _); refine (HOA.out _ hb).mono ?_; rintro r x1 ⟨rfl, hb⟩; clear g0 g1 g2 g3 g4 g5 g6 g7; obtain ⟨g0, g1, g2, g3, g4, g5, g6, g7⟩ := HBX.out _ hb) | (go_at_call 53; (with_reducible show Calls _ _ #[.slice R n2 cr] _ _); refine (HOB.out _ hb).mono ?_; rintro r x1 ⟨rfl, hb⟩; clear g0 g1 g2 g3 g4 g5 g6 g7; obtain ⟨g0, g1, g2, g3, g4, g5, g6, g7⟩ := HBX.out _ hb) | (go_at_call 37; refine (HOF.out _ hb).mono ?_; rintro r x1 ⟨u, rfl, hu, hb⟩; clear g0 g1 g2 g3 g4 g5 g6 g7; obtain ⟨g0, g1, g2, g3, g4, g5, g6, g7⟩ := HBX.out _ hb) | (go_at_call 53; (with_reducible show Calls _ _ #[u] _ _); refine (HOC.out _ _ hu hb).mono ?_; rintro r x1 ⟨rfl, hb⟩; clear g0 g1 g2 g3 g4 g5 g6 g7; obtain ⟨g0, g1, g2, g3, g4, g5, g6, g7⟩ := HBX.out _ hb) | (go_at_call 53; (with_reducible show Calls _ _ #[.slice T n3 ct] _ _); refine (HOD.out _ hb).mono ?_; rintro r x1 ⟨rfl, hb⟩; clear g0 g1 g2 g3 g4 g5 g6 g7; obtain ⟨g0, g1, g2, g3, g4, g5, g6, g7⟩ := HBX.out _ hb))
      go_meet
      exact ⟨by simp, hb⟩
    | true =>
      go_wp2_with (first | (go_at_call 53; (with_reducible show Calls _ _ #[.slice E n1 ce] _ _); refine (HOA.out _ hb).mono ?_; rintro r x1 ⟨rfl, hb⟩; clear g0 g1 g2 g3 g4 g5 g6 g7; obtain ⟨g0, g1, g2, g3, g4, g5, g6, g7⟩ := HBX.out _ hb) | (go_at_call 53; (with_reducible show Calls _ _ #[.slice R n2 cr] _ _); refine (HOB.out _ hb).mono ?_; rintro r x1 ⟨rfl, hb⟩; clear g0 g1 g2 g3 g4 g5 g6 g7; obtain ⟨g0, g1, g2, g3, g4, g5, g6, g7⟩ := HBX.out _ hb) | (go_at_call 37; refine (HOF.out _ hb).mono ?_; rintro r x1 ⟨u, rfl, hu, hb⟩; clear g0 g1 g2 g3 g4 g5 g6 g7; obtain ⟨g0, g1, g2, g3, g4, g5, g6, g7⟩ := HBX.out _ hb) | (go_at_call 53; (with_reducible show Calls _ _ #[u] _ _); refine (HOC.out _ _ hu hb).mono ?_; rintro r x1 ⟨rfl, hb⟩; clear g0 g1 g2 g3 g4 g5 g6 g7; obtain ⟨g0, g1, g2, g3, g4, g5, g6, g7⟩ := HBX.out _ hb) | (go_at_call 53; (with_reducible show Calls _ _ #[.slice T n3 ct] _ _); refine (HOD.out _ hb).mono ?_; rintro r x1 ⟨rfl, hb⟩; clear g0 g1 g2 g3 g4 g5 g6 g7; obtain ⟨g0, g1, g2, g3, g4, g5, g6, g7⟩ := HBX.out _ hb))
      go_meet
      exact ⟨by simp, hb⟩
  case rest =>
  obtain ⟨rfl, hb⟩ := hcut
  clear g0 g1 g2 g3 g4 g5 g6 g7
  obtain ⟨g0, g1, g2, g3, g4, g5, g6, g7⟩ := HBX.out _ hb
  clear HOA HOB HOC HOD HOF
  go_upto_region 4 with (fail)
  go_cut [6] from 67 to 80 (fun s wx => s = .bool (t1 || (da && !aa)) ∧ Below w0.heap.size w0 wx)
  case first =>
    cases t1 with
    | true =>
      go_wp2_with (go_at_call 54; (with_reducible show Calls _ _ #[.slice E n1 ce, .slice R n2 cr] _ _); refine (HME.out _ hb).mono ?_; rintro r x1 ⟨rfl, hb⟩; clear g0 g1 g2 g3 g4 g5 g6 g7; obtain ⟨g0, g1, g2, g3, g4, g5, g6, g7⟩ := HBX.out _ hb)
      go_meet
      exact ⟨by simp, hb⟩
    | false =>
    cases da with
    | false =>
      go_wp2_with (go_at_call 54; (with_reducible show Calls _ _ #[.slice E n1 ce, .slice R n2 cr] _ _); refine (HME.out _ hb).mono ?_; rintro r x1 ⟨rfl, hb⟩; clear g0 g1 g2 g3 g4 g5 g6 g7; obtain ⟨g0, g1, g2, g3, g4, g5, g6, g7⟩ := HBX.out _ hb)
      go_meet
      exact ⟨by simp, hb⟩
    | true =>
      go_wp2_with (go_at_call 54; (with_reducible show Calls _ _ #[.slice E n1 ce, .slice R n2 cr] _ _); refine (HME.out _ hb).mono ?_; rintro r x1 ⟨rfl, hb⟩; clear g0 g1 g2 g3 g4 g5 g6 g7; obtain ⟨g0, g1, g2, g3, g4, g5, g6, g7⟩ := HBX.out _ hb)
      go_meet
      exact ⟨by simp, hb⟩
  case rest =>
  obtain ⟨rfl, hb⟩ := hcut
  clear g0 g1 g2 g3 g4 g5 g6 g7 HME
  go_wp2
  go_loopw [3, 4, 5, 6, 7, 8] (fun b n o m i _ wr => ∃ (k : Nat) (fb fn fo fm : Bool), i = .int .i64 k ∧ k ≤ l.length ∧ b = .bool fb ∧ fb = ((q1 || q2 || q3 || q4) || (l.take k).any fun x => decide (64 < x.pe.at_.length)) ∧ n = .bool fn ∧ fn = ((m1 && m2 && m3 && m4) && (l.take k).all fun x => x.pe.at_.all Nm.attrB) ∧ o = .bool fo ∧ fo = ((o1 && o2 && o3 && o4) && (l.take k).all fun x => onceB x.pe.at_) ∧ m = .bool fm ∧ fm = ((t1 || (da && !aa)) || (l.take k).any fun x => meetB x.pe.at_ ats) ∧ Below w0.heap.size w0 wr) (fun _ _ _ _ i _ _ => l.length - (intOf i).toNat)
  case atStart => exact ⟨0, _, _, _, _, rfl, Nat.zero_le _, rfl, by simp, rfl, by simp, rfl, by simp, rfl, by simp, hb⟩
  case round =>
    clear hb
    obtain ⟨k, fb, fn, fo, fm, rfl, hks, rfl, hfb, rfl, hfn, rfl, hfo, rfl, hfm, hb⟩ := hrel
    obtain ⟨g0, g1, g2, g3, g4, g5, g6, g7⟩ := HBX.out _ hb
    by_cases hk : k < l.length
    · obtain ⟨b, off, x, rfl, hlt, hx, hcs, _, hxm⟩ := (HR.out.below hb).at_ k hk
      obtain ⟨k0, k1⟩ := range2p hcs
      have hs0 := HR.out.2 x hxm
      obtain ⟨hx1, hx2⟩ := HLEN.out x hxm
      obtain ⟨xb, hxb⟩ : ∃ b, decide (64 < x.pe.at_.length) = b := ⟨_, rfl⟩
      obtain ⟨xn, hxn⟩ : ∃ b, x.pe.at_.all Nm.attrB = b := ⟨_, rfl⟩
      obtain ⟨xo, hxo⟩ : ∃ b, onceB x.pe.at_ = b := ⟨_, rfl⟩
      obtain ⟨xm, hxmm⟩ : ∃ b, meetB x.pe.at_ ats = b := ⟨_, rfl⟩
      have HFB := Lib.hid (show (fb || xb) = ((q1 || q2 || q3 || q4) || (l.take (k + 1)).any fun x => decide (64 < x.pe.at_.length)) from by rw [any_snoc _ l k x hx, hfb, ← hxb]; exact Bool.or_assoc _ _ _)
      have HFN := Lib.hid (show (fn && xn) = ((m1 && m2 && m3 && m4) && (l.take (k + 1)).all fun x => x.pe.at_.all Nm.attrB) from by rw [all_snocX _ l k x hx, hfn, ← hxn]; exact Bool.and_assoc _ _ _)
      have HFO := Lib.hid (show (fo && xo) = ((o1 && o2 && o3 && o4) && (l.take (k + 1)).all fun x => onceB x.pe.at_) from by rw [all_snocX _ l k x hx, hfo, ← hxo]; exact Bool.and_assoc _ _ _)
      have HFM := Lib.hid (show (fm || xm) = ((t1 || (da && !aa)) || (l.take (k + 1)).any fun x => meetB x.pe.at_ ats) from by rw [any_snoc _ l k x hx, hfm, ← hxmm]; exact Bool.or_assoc _ _ _)
      have hl3 := HL3.out
      have HMX := Lib.hid (fun wx (hb : Below w0.heap.size w0 wx) => on_eqR (refMay1 (.slice x.A x.pe.at_.length x.c) x.pe.at_ true wx.heap.size wx xn (sv_on hs0 hb) (by omega) hx2 hxn) hb)
      have HOX := Lib.hid (fun wx (hb : Below w0.heap.size w0 wx) => on_baseR (refOnce1 (.slice x.A x.pe.at_.length x.c) x.pe.at_ wx xo (sv_on hs0 hb) (by omega) hxo) hb)
      have HEX := Lib.hid (fun wx (hb : Below w0.heap.size w0 wx) => on_eqR (refMeet1 (.slice x.A x.pe.at_.length x.c) (.slice T n3 ct) wx.heap.size wx.heap.size x.pe.at_ ats wx xm (sv_on hs0 hb) (sv_on HVA.out hb) (by omega) (by omega) hxmm) hb)
      have hexb : decide ((64 : Int) < (x.pe.at_.length : Int)) = xb := by rw [← hxb]; exact decide_eq_decide.2 (by omega)
      clear hfb hfn hfo hfm hcs hs0 hx hx2 hxn hxo hxmm hxb hl3
      go_upto_region 9 with (fail)
      go_cut [3] from 94 to 99 (fun s wx => s = .bool (fb || xb) ∧ wr = wx)
      case first =>
        cases fb with
        | true =>
          go_wp2
          go_meet
          exact ⟨by simp, rfl⟩
        | false =>
          go_wp2
          go_meet
          exact ⟨by simp, rfl⟩
      case rest =>
      obtain ⟨rfl, rfl⟩ := hcut
      clear hexb
      go_upto_region 10 with (fail)
      go_cut [4] from 100 to 104 (fun s wx => s = .bool (fn && xn) ∧ Below w0.heap.size w0 wx)
      case first =>
        cases fn with
        | false =>
          go_wp2
          go_meet
          exact ⟨by simp, hb⟩
        | true =>
          go_wp2_with (go_at_call 52; refine (HMX.out _ hb).mono ?_; rintro r x1 ⟨rfl, hb⟩)
          go_meet
          exact ⟨by simp, hb⟩
      case rest =>
      clear hb
      obtain ⟨rfl, hb⟩ := hcut
      go_upto_region 11 with (fail)
      go_cut [5] from 105 to 109 (fun s wx => s = .bool (fo && xo) ∧ Below w0.heap.size w0 wx)
      case first =>
        cases fo with
        | false =>
          go_wp2
          go_meet
          exact ⟨by simp, hb⟩
        | true =>
          go_wp2_with (go_at_call 53; refine (HOX.out _ hb).mono ?_; rintro r x1 ⟨rfl, hb⟩)
          go_meet
          exact ⟨by simp, hb⟩
      case rest =>
      clear hb
      obtain ⟨rfl, hb⟩ := hcut
      clear g0 g1 g2 g3 g4 g5 g6 g7
      obtain ⟨g0, g1, g2, g3, g4, g5, g6, g7⟩ := HBX.out _ hb
      go_upto_region 12 with (fail)
      cases fm with
      | true =>
        go_wp2
        go_roundw
        case rel => exact ⟨k + 1, _, _, _, true, by go_num, by omega, rfl, HFB.out, rfl, HFN.out, rfl, HFO.out, rfl, (Bool.true_or xm).symm.trans HFM.out, hb⟩
        case measure => simp [intOf]; omega
      | false =>
        go_wp2_with (go_at_call 54; refine (HEX.out _ hb).mono ?_; rintro r x1 ⟨rfl, hb⟩)
        go_roundw
        case rel => exact ⟨k + 1, _, _, _, xm, by go_num, by omega, rfl, HFB.out, rfl, HFN.out, rfl, HFO.out, rfl, (Bool.false_or xm).symm.trans HFM.out, hb⟩
        case measure => simp [intOf]; omega
    · rw [List.take_of_length_le (by omega)] at hfb hfn hfo hfm
      have hq := HQ.out
      rw [← hfb, ← hfn, ← hfo, ← hfm] at hq
      have HBL := Lib.hid (HB1.out.trans (hb.mono (Nat.le_of_lt hz)))
      clear hfb hfn hfo hfm
      cases fb with
      | true =>
        simp at hq
        subst hq
        go_wp2
        go_ret
        exact ⟨rfl, HBL.out⟩
      | false =>
      cases fn with
      | false =>
        simp at hq
        subst hq
        go_wp2
        go_ret
        exact ⟨rfl, HBL.out⟩
      | true =>
      cases fo with
      | false =>
        simp at hq
        subst hq
        go_wp2
        go_ret
        exact ⟨rfl, HBL.out⟩
      | true =>
      cases fm with
      | true =>
        simp at hq
        subst hq
        go_wp2
        go_ret
        exact ⟨rfl, HBL.out⟩
      | false =>
        simp at hq
        subst hq
        go_wp2
        go_ret
        exact ⟨rfl, HBL.out⟩

end Go.Proofs.Ytgjlfcamgkeibaa.Co

namespace Go.Proofs.Ytgjlfcamgkeibaa.Cn
set_option maxRecDepth 100000
set_option linter.unusedVariables false
set_option linter.unusedSimpArgs false
open Go.RowKit Ba Ro
open Co (Cf Cv Sm confV confO attrB12 elementN checkN bel_eq12)
theorem kept_all (A0 : Option Addr) (c0 : Nat) (l : List Cw) (v : Value) (c : Cf) (s : Bool) (w : World) (hr : Rr w w.heap.size A0 l) (hlc : l.length ≤ c0) (hcm : c0 ≤ maxLen) (hll : l.length ≤ 1000) (hz : Rz.Small (ros l)) (hf : Few (ros l)) (hc : Cv w w.heap.size v c) (hs : Sm c) (hck : check (ros l) = 0) :
    Calls Try.prog 26 #[.slice A0 l.length c0, .int .i64 (-1), .int .i64 0, v, .bool s] w fun r w' => ∃ V y, r = .returned V ∧ Od w.heap.size w' V y ∧ ros y = keptL c s (ros l) ∧ Below w.heap.size w w' := by
  have hrt := (check_parts hck).2
  have hb : below (ros l) (-1) = ros l := below_all (fun x hx => ⟨(fo_right hrt).1 x hx, by
    have hn : ¬ exceeds (ros l) 4096 60 = true := by rw [(check_parts hck).1]; decide
    rw [exceeds_iff] at hn
    have h4 : ¬ 60 ≤ x.depth := fun h => hn (.inr ⟨x, hx, h⟩)
    omega⟩)
  refine (kept_any A0 c0 l v c s hlc hcm hll hz hf hs hrt l.length (-1) 0 w (by rw [hb, len_ros]; exact Nat.le_refl _) (by omega) (by omega) (by omega) (by omega) hr hc).mono ?_
  rintro r w1 ⟨V, y, h1, h2, h3, h4⟩
  exact ⟨V, y, h1, h2, by rw [h3, hb]; rfl, h4⟩
set_option maxRecDepth 100000 in
set_option maxHeartbeats 2000000 in
theorem refRows13 (u v : Value) (l : List Cw) (c : Cf) (s : Bool) (w : World) (hl : Rv w u l) (hll : l.length ≤ 1000) (hz : Rz.Small (ros l)) (hf : Few (ros l)) (ht : (txt (ros l)).length ≤ 1000000000) (hc : Cv w w.heap.size v c) (hs : Sm c) (E : Int) (q : List Ro) (hE : errI c (ros l) = E) (hq : outL c s (ros l) = q) :
    Calls Try.prog 8 #[u, v, .bool s] w fun r w' => ∃ V y, r = .returned (.tuple #[V, .int .i64 E]) ∧ ros y = q ∧ Rv w' V y ∧ Below w.heap.size w w' := by
  obtain ⟨vE, vR, vA, vP, pl, rfl, hc⟩ := hc
  obtain ⟨w1, hw1⟩ : ∃ w1, w.alloc (confO c vE vR vA vP) = w1 := ⟨_, rfl⟩
  have hb1 : Below w.heap.size w w1 := hw1 ▸ below_new w _
  have hbx : Co.Bx w1 w.heap.size c vE vR vA vP := hw1 ▸ Co.Bx.new w c vE vR vA vP
  have hz1 : w.heap.size < w1.heap.size := by rw [← hw1]; simp
  have hcv : Cv w1 w1.heap.size (confV c vE vR vA vP) c := ⟨_, _, _, _, _, rfl, hc.on hb1⟩
  obtain ⟨qc, hqc⟩ : ∃ q, checkN c = q := ⟨_, rfl⟩
  obtain ⟨qr, hqr⟩ : ∃ q, check (ros l) = q := ⟨_, rfl⟩
  have HCK := Lib.hid (Co.refCheck12 (confV c vE vR vA vP) c w1 qc hcv hs hqc)
  have hl1 := hl.below hb1
  have HBX := Lib.hid hbx; have HW1 := Lib.hid hw1; have HB1 := Lib.hid hb1; have HCV := Lib.hid hcv; have HL1 := Lib.hid hl1; have HSM := Lib.hid hs; have HZ := Lib.hid hz; have HF := Lib.hid hf; have HT := Lib.hid ht; have HE := Lib.hid hE; have HQ := Lib.hid hq; have HQC := Lib.hid hqc; have HQR := Lib.hid hqr
  have HCP := Lib.hid hc
  clear hc hl hs hz hf ht hE hq hw1 hb1 hbx hcv hl1 hqc hqr
  have nil13 : ∀ w' : World, Rv w' (.slice none 0 0) [] := fun w' => ⟨none, 0, rfl, Nat.le_refl _, Nat.zero_le _, Rr.nil _ _ _, fun x hx => by cases hx⟩
  have HNL := Lib.hid nil13
  clear nil13
  go_enter Try.func8, Try.ntmps8
  go_upto_region 1 with (fail)
  rw [HW1.out]
  clear HW1
  by_cases h0 : qc = 0
  · subst h0
    go_upto_region 4 with (first
      | (show wpList _ _ _ (⟨_, Op.load 26 (.tmp 4), _, _, _, _⟩ :: _) _ _; refine wpList_load_mid rfl 26 (.tmp 4) rfl w.heap.size 0 rfl _ _ HBX.out Try.underlying26 rfl Co.size_conf ?_)
      | (go_at_call 22; refine HCK.out.mono ?_; rintro r w2 ⟨rfl, hb2⟩; have HB2 := Lib.hid hb2; clear hb2)
      | fail)
    have HBX2 := Lib.hid (HBX.out.below HB2.out hz1)
    have HRC := Lib.hid (refCheck1 u l w2 qr (HL1.out.below HB2.out) hll HQR.out)
    have hz2 := HB2.out.size
    by_cases h1 : qr = 0
    · subst h1
      obtain ⟨hex, hrt⟩ := check_parts HQR.out
      have hEq : E = 0 := by rw [← HE.out]; exact err_ok.2 ⟨HQC.out, HQR.out⟩
      subst hEq
      have hqn : normal (keptL c s (ros l)) = q := by rw [← HQ.out]; unfold outL; rw [if_pos HE.out]; rfl
      have hkf : Few (keptL c s (ros l)) := few_kept hrt HF.out
      have hkl : (keptL c s (ros l)).length ≤ 1000 := Nat.le_trans (K_len (fo_right hrt) 0) (by rw [len_ros]; exact hll)
      have hkt : (txt (keptL c s (ros l))).length ≤ 1000000000 := Nat.le_trans (txt_K (fo_right hrt) 0) HT.out
      have hkh : Held (keptL c s (ros l)) := fun y hy => by
        obtain ⟨x, hx, _, hd, _⟩ := K_mem (fo_right hrt) 0 (by omega) y hy
        have h3 := held_check HQR.out x hx
        have h4 := (kept_wd c s hrt).1 y hy
        omega
      have hkr : right (keptL c s (ros l)) = true := (kept_wd c s hrt).2
      have HKR := Lib.hid hkr; clear hkr
      have hqh : Held q := by rw [← hqn]; exact held_check (clean_check c s HQR.out)
      have HQN := Lib.hid hqn; have HKF := Lib.hid hkf; have HKL := Lib.hid hkl; have HKT := Lib.hid hkt; have HKH := Lib.hid hkh; have HQH := Lib.hid hqh
      clear hex hrt hqn hkf hkl hkt hkh hqh
      go_upto_region 7 with (first
        | (go_at_call 24; refine HRC.out.mono ?_; rintro r w3 ⟨rfl, hb3⟩; have HB3 := Lib.hid (HB2.out.trans (hb3.mono HB2.out.size)); clear hb3)
        | fail)
      have HBX3 := Lib.hid (HBX.out.below HB3.out hz1)
      have hb03 := HB1.out.trans (HB3.out.mono HB1.out.size)
      obtain ⟨A0, c0, eU, hlc, hcm, hrr, hhe⟩ := HL1.out.below HB3.out
      subst eU
      have HFI := Lib.hid (kept_all A0 c0 l (confV c vE vR vA vP) c s w3 hrr hlc hcm hll HZ.out HF.out ⟨_, _, _, _, _, rfl, HCP.out.on hb03⟩ HSM.out HQR.out)
      have HB03 := Lib.hid hb03
      clear hb03 hlc hcm hrr hhe
      go_wp2_with (first
        | (show wpList _ _ _ (⟨_, Op.load 26 (.tmp 4), _, _, _, _⟩ :: _) _ _; refine wpList_load_mid rfl 26 (.tmp 4) rfl w.heap.size 0 rfl _ _ HBX3.out Try.underlying26 rfl Co.size_conf ?_)
        | (go_at_call 26; refine HFI.out.mono ?_; rintro r w4 ⟨v4, l4, rfl, ho4, hr4, hb4⟩; have HO4 := Lib.hid ho4; have HR4 := Lib.hid hr4; have HB4 := Lib.hid hb4; clear ho4 hr4 hb4)
        | (go_at_call 25; refine (refNormal1 v4 l4 w4 q (HO4.out.ow.rv (by rw [HR4.out]; exact HKH.out)) (by rw [← len_ros, HR4.out]; exact HKL.out) (by rw [HR4.out]; exact HKF.out) (by rw [HR4.out]; exact HKT.out) (by rw [HR4.out]; exact HKR.out) (by rw [HR4.out]; exact HQN.out) HQH.out).mono ?_; rintro r w5 ⟨v5, y5, rfl, hy5, hv5, hb5⟩; have HY5 := Lib.hid hy5; have HV5 := Lib.hid hv5; have HB5 := Lib.hid hb5; clear hy5 hv5 hb5)
        | fail)
      go_ret2
      have h4 := HB03.out.trans (HB4.out.mono HB03.out.size)
      exact ⟨v5, y5, rfl, HY5.out, HV5.out, h4.trans (HB5.out.mono h4.size)⟩
    · have hEq : E = qr := by rw [← HE.out]; unfold errI; rw [if_pos HQC.out, HQR.out]
      subst hEq
      have hq0 : q = [] := by rw [← HQ.out]; unfold outL; rw [if_neg (by rw [HE.out]; exact h1)]
      subst hq0
      have hqb : (E == 0) = false := by simpa using h1
      go_wp2_with (first
        | (go_at_call 24; refine HRC.out.mono ?_; rintro r w3 ⟨rfl, hb3⟩; have HB3 := Lib.hid (HB2.out.trans (hb3.mono HB2.out.size)); clear hb3)
        | fail)
      go_ret2
      exact ⟨_, [], rfl, rfl, HNL.out _, HB1.out.trans (HB3.out.mono HB1.out.size)⟩
  · have hEq : E = (qc : Int) := by rw [← HE.out]; unfold errI; rw [if_neg (by rw [HQC.out]; exact h0), HQC.out]
    subst hEq
    have hq0 : q = [] := by rw [← HQ.out]; unfold outL; rw [if_neg (by rw [HE.out]; omega)]
    subst hq0
    have hqb : ((qc : Int) == 0) = false := by simp; omega
    go_wp2_with (first
      | (show wpList _ _ _ (⟨_, Op.load 26 (.tmp 4), _, _, _, _⟩ :: _) _ _; refine wpList_load_mid rfl 26 (.tmp 4) rfl w.heap.size 0 rfl _ _ HBX.out Try.underlying26 rfl Co.size_conf ?_)
      | (go_at_call 22; refine HCK.out.mono ?_; rintro r w2 ⟨rfl, hb2⟩; have HB2 := Lib.hid hb2; clear hb2)
      | fail)
    go_ret2
    exact ⟨_, [], rfl, rfl, HNL.out _, HB1.out.trans (HB2.out.mono HB1.out.size)⟩

end Go.Proofs.Ytgjlfcamgkeibaa.Cn

namespace Go.Proofs.Ytgjlfcamgkeibaa.Cn
set_option linter.unusedVariables false
set_option linter.unusedSimpArgs false
open Go.RowKit Ba Ro
/-- Rows that lie at A from block N on, with all that they hold: their names can be written. -/
def Tw (N : Nat) (w : World) (A : Option Addr) (l : List Cw) : Prop :=
  (∀ j x, l[j]? = some x → ∃ G cur, A = some ⟨G, 0, none⟩ ∧ N ≤ G ∧ Hv 36 w G cur ∧ cur[j * 5 + 4]? = some (.slice x.A x.ro.attrs.length x.c) ∧ ∃ s, cur[j * 5 + 2]? = some (.string s)) ∧
  ∀ x ∈ l, ∀ k, k < x.ro.attrs.length → ∃ g cur, x.A = some ⟨g, 0, none⟩ ∧ N ≤ g ∧ Hv 40 w g cur ∧ ∃ s, cur[k * 2]? = some (.string s)
theorem hv_same {t u : TypeId} {w : World} {g : Nat} {cs ds : Array Value} (h : Hv t w g cs) (k : Hv u w g ds) : t = u := by
  unfold Hv at h k
  rw [h] at k
  injection k with k
  injection k
theorem str_set {cur : Array Value} {o p : Nat} {s : ByteArray} (h : ∃ s, cur[p]? = some (.string s)) : ∃ s', (cur.setIfInBounds o (.string s))[p]? = some (.string s') := by
  obtain ⟨s0, h⟩ := h
  by_cases e : o = p
  · subst e
    have hlt := (Array.getElem?_eq_some_iff.1 h).1
    exact ⟨s, by simp [hlt]⟩
  · exact ⟨s0, by rw [Array.getElem?_setIfInBounds_ne e]; exact h⟩
theorem Tw.row_set {N G i : Nat} {w : World} {A : Option Addr} {l : List Cw} {cs : Array Value} (h : Tw N w A l) (hG : Hv 36 w G cs) (s : ByteArray) : Tw N (w.setCell ⟨G, i * 5 + 2, none⟩ (.string s)) A l := by
  refine ⟨fun j x hx => ?_, fun x hx k hk => ?_⟩
  · obtain ⟨G1, cur, e, hN, hv, h4, h2⟩ := h.1 j x hx
    by_cases he : G1 = G
    · subst he
      exact ⟨G1, _, e, hN, hv.set _ _, by rw [Array.getElem?_setIfInBounds_ne (by omega)]; exact h4, str_set h2⟩
    · exact ⟨G1, cur, e, hN, hv.other _ _ he, h4, h2⟩
  · obtain ⟨g, cur, e, hN, hv, h2⟩ := h.2 x hx k hk
    exact ⟨g, cur, e, hN, hv.other _ _ (fun he => by subst he; exact absurd (hv_same hv hG) (by decide)), h2⟩
theorem Tw.att_set {N g o : Nat} {w : World} {A : Option Addr} {l : List Cw} {cs : Array Value} (h : Tw N w A l) (hg : Hv 40 w g cs) (s : ByteArray) : Tw N (w.setCell ⟨g, o, none⟩ (.string s)) A l := by
  refine ⟨fun j x hx => ?_, fun x hx k hk => ?_⟩
  · obtain ⟨G1, cur, e, hN, hv, h4, h2⟩ := h.1 j x hx
    exact ⟨G1, cur, e, hN, hv.other _ _ (fun he => by subst he; exact absurd (hv_same hv hg) (by decide)), h4, h2⟩
  · obtain ⟨g1, cur, e, hN, hv, h2⟩ := h.2 x hx k hk
    by_cases he : g1 = g
    · subst he
      exact ⟨g1, _, e, hN, hv.set _ _, str_set h2⟩
    · exact ⟨g1, cur, e, hN, hv.other _ _ he, h2⟩
theorem Tw.below {N : Nat} {w w' : World} {A : Option Addr} {l : List Cw} (h : Tw N w A l) (hb : Below w.heap.size w w') : Tw N w' A l := by
  refine ⟨fun j x hx => ?_, fun x hx k hk => ?_⟩
  · obtain ⟨G1, cur, e, hN, hv, h4, h2⟩ := h.1 j x hx
    exact ⟨G1, cur, e, hN, hv.on hb, h4, h2⟩
  · obtain ⟨g, cur, e, hN, hv, h2⟩ := h.2 x hx k hk
    exact ⟨g, cur, e, hN, hv.on hb, h2⟩
theorem Od.tw {N k : Nat} {w : World} {A : Option Addr} {l : List Cw} (h : Od N w (.slice A l.length k) l) : Tw N w A l := by
  refine ⟨fun j x hx => ?_, fun x hx k hk => ?_⟩
  · obtain ⟨hj, rfl⟩ := List.getElem?_eq_some_iff.1 hx
    have h1 := h.1
    obtain ⟨h0, hr⟩ := h1
    rcases hr with ⟨hv, hn⟩ | ⟨g, cap, cur, hv, hg, hh, _⟩
    · omega
    · injection hv with e1 e2 e3
      subst e1
      have hH : Hv 36 w g cur := hh
      have c4 := World.ownsRow.cellAt h.1 (j * 5 + 4) (by omega)
      have c2 := World.ownsRow.cellAt h.1 (j * 5 + 2) (by omega)
      rw [Ro.flat_at cells 5 Ro.len_cells _ _ _ hj (by decide)] at c4 c2
      rw [cell_of_row w g _ _ _ _ hH] at c4 c2
      exact ⟨g, cur, rfl, hg, hH, c4, _, c2⟩
  · have hf := h.2 x hx
    obtain ⟨h0, hr⟩ := hf.1
    rcases hr with ⟨hv, hn⟩ | ⟨g, cap, cur, hv, hg, hh, _⟩
    · omega
    · injection hv with e1 e2 e3
      have hH : Hv 40 w g cur := hh
      have ho := hf.1
      rw [e1] at ho
      have c2 := World.ownsRow.cellAt ho (k * 2 + 0) (by omega)
      rw [Ro.flat_at acells 2 (fun _ => rfl) _ _ _ hk (by decide)] at c2
      rw [cell_of_row w g _ _ _ _ hH] at c2
      exact ⟨g, cur, e1, hg, hH, _, c2⟩
theorem Tw.form {N j : Nat} {w : World} {A : Option Addr} {l : List Cw} {x : Cw} (h : Tw N w A l) (hx : l[j]? = some x) : ∃ G, A = some ⟨G, 0, none⟩ := by
  obtain ⟨G, _, e, _⟩ := h.1 j x hx
  exact ⟨G, e⟩
theorem Tw.rowAt {N G j : Nat} {w : World} {l : List Cw} {x : Cw} (h : Tw N w (some ⟨G, 0, none⟩) l) (hx : l[j]? = some x) : N ≤ G ∧ (∃ cs, Hv 36 w G cs) ∧ w.cell? ⟨G, j * 5 + 4, none⟩ = some (.slice x.A x.ro.attrs.length x.c) ∧ (∃ s, w.cell? ⟨G, j * 5 + 2, none⟩ = some (.string s)) ∧ ∀ o, w.frozen? ⟨G, o, none⟩ = false := by
  obtain ⟨G1, cur, e, hN, hv, h4, s, h2⟩ := h.1 j x hx
  injection e with e
  injection e with e
  subst e
  exact ⟨hN, ⟨cur, hv⟩, hv.cell _ _ h4, ⟨s, hv.cell _ _ h2⟩, fun o => hv.f o⟩
theorem Tw.attAt {N j k : Nat} {w : World} {A : Option Addr} {l : List Cw} {x : Cw} (h : Tw N w A l) (hx : l[j]? = some x) (hk : k < x.ro.attrs.length) : ∃ g, x.A = some ⟨g, 0, none⟩ ∧ N ≤ g ∧ (∃ cs, Hv 40 w g cs) ∧ (∃ s, w.cell? ⟨g, k * 2, none⟩ = some (.string s)) ∧ ∀ o, w.frozen? ⟨g, o, none⟩ = false := by
  obtain ⟨g, cur, e, hN, hv, s, h2⟩ := h.2 x (List.mem_of_getElem? hx) k hk
  exact ⟨g, e, hN, ⟨cur, hv⟩, ⟨s, hv.cell _ _ h2⟩, fun o => hv.f o⟩

end Go.Proofs.Ytgjlfcamgkeibaa.Cn

namespace Go.Proofs.Ytgjlfcamgkeibaa.Cn
set_option maxRecDepth 100000
set_option linter.unusedVariables false
set_option linter.unusedSimpArgs false
open Go.RowKit Ba Ro
open Co (Cf Cv Sm confV confO attrB12 elementN checkN bel_eq12 Hb noStr noStr8 allC)
open Rk (safeB)
set_option maxRecDepth 100000 in
set_option maxHeartbeats 1600000 in
theorem law13_rows (vl v : Value) (s : Bool) (ll : List Cw) (c : Cf) (w : World) (hv : Rv w vl ll) (hz : Rz.Small (ros ll)) (ht : (txt (ros ll)).length ≤ 1000000000) (h : Cv w w.heap.size v c) (hst : Co.St c) :
    Calls Try.prog 3 #[vl, v, .bool s] w fun r w' => r = .returned (.bool true) ∧ Below w.heap.size w w' := by
  obtain ⟨d, hd⟩ : ∃ d, Co.boundC c = d := ⟨_, rfl⟩
  have hsm := Co.sm_bound hst
  rw [hd] at hsm
  obtain ⟨uE, uR, uA, uP, lu, rfl, h⟩ := h
  obtain ⟨E0, e0, k0, rfl⟩ := Co.sv_shape h.e
  obtain ⟨R0, r0, k1, rfl⟩ := Co.sv_shape h.r
  obtain ⟨T0, t0, k2, rfl⟩ := Co.sv_shape h.a
  obtain ⟨P0, p0, k3, rfl⟩ := Co.pv_shape h.p
  obtain ⟨W0, hW0⟩ : ∃ W0, w.alloc (confO c (.slice E0 e0 k0) (.slice R0 r0 k1) (.slice T0 t0 k2) (.slice P0 p0 k3)) = W0 := ⟨_, rfl⟩
  have hb0 : Below w.heap.size w W0 := hW0 ▸ Co.below_new12 w _
  have hx0 : Hb W0 w.heap.size #[.bool c.allow, .bool c.attrsAllow, .slice E0 e0 k0, .slice R0 r0 k1, .slice T0 t0 k2, .slice P0 p0 k3, .bool c.comments, .bool c.dataAttrs] := hW0 ▸ Hb.new w _
  have HBN := Lib.hid (bound13 vl ll W0 (hv.below hb0) hz ht)
  have HBD := Lib.hid (fun wx (hb : Below W0.heap.size W0 wx) => Co.bound12 (confV c (.slice E0 e0 k0) (.slice R0 r0 k1) (.slice T0 t0 k2) (.slice P0 p0 k3)) c wx ⟨_, _, _, _, _, rfl, (h.on hb0).on hb⟩)
  rw [hd] at HBD
  have HW0 := Lib.hid hW0; have HB0 := Lib.hid hb0; have HX0 := Lib.hid hx0; have HSM := Lib.hid hsm
  clear hW0 hb0 hx0 hsm hd hst h hv hz ht
  go_enter Try.func3, Try.ntmps3
  go_upto_region 1 with (fail)
  rw [HW0.out]
  clear HW0
  go_upto_region 3 with (first
    | (go_at_call 5; refine HBN.out.mono ?_; rintro r w1 ⟨v1, l1, rfl, hv1, hl1, hw1, hb1⟩; have HV1 := Lib.hid hv1; have HL1 := Lib.hid hl1; have HLW := Lib.hid hw1; have HB1 := Lib.hid hb1; have HR1 := Lib.hid (HX0.out.on hb1).range; clear hv1 hl1 hw1 hb1)
    | (show wpList _ _ _ (⟨_, Op.load 26 (.tmp 4), _, _, _, _⟩ :: _) _ _; refine wpList_load_mid rfl 26 (.tmp 4) rfl w.heap.size 0 rfl _ _ HR1.out Try.underlying26 rfl Co.size_conf ?_)
    | (go_at_call 6; refine (HBD.out w1 HB1.out).mono ?_; rintro r w2 ⟨v2, rfl, hc2, hb2⟩; obtain ⟨vE, vR, vA, vP, pl, rfl, hc2⟩ := hc2; obtain ⟨A1, n1, c1, rfl⟩ := Co.sv_shape hc2.e; obtain ⟨A2, n2, c2, rfl⟩ := Co.sv_shape hc2.r; obtain ⟨A3, n3, c3, rfl⟩ := Co.sv_shape hc2.a; obtain ⟨A4, n4, c4, rfl⟩ := Co.pv_shape hc2.p; have hx2 := (HX0.out.on HB1.out).on hb2; have HTH := Lib.hid (hx2.there 8 rfl); have HX2 := Lib.hid hx2; have HC2 := Lib.hid hc2; have HB2 := Lib.hid hb2; clear hx2 hc2 hb2)
    | (show wpList _ _ _ (⟨none, Op.store 26 (.tmp 4) (.tmp 18), _, _, _, _⟩ :: _) _ _; refine wpList_store_mid rfl 26 (.tmp 4) (.tmp 18) rfl w.heap.size 0 #[.bool d.allow, .bool d.attrsAllow, .slice A1 n1 c1, .slice A2 n2 c2, .slice A3 n3 c3, .slice A4 n4 c4, .bool d.comments, .bool d.dataAttrs] rfl rfl HTH.out Co.size_conf (by simp [Value.oneCell']) ?_)
    | fail)
  obtain ⟨W, hW1, hg1, hh1⟩ := Co.res_hb HX2.out rfl (.bool d.allow) (.bool d.attrsAllow) (.slice A1 n1 c1) (.slice A2 n2 c2) (.slice A3 n3 c3) (.slice A4 n4 c4) (.bool d.comments) (.bool d.dataAttrs)
  rw [← hW1]
  have hnS := noStr8 c.allow c.attrsAllow c.comments c.dataAttrs E0 R0 T0 P0 e0 r0 t0 p0 k0 k1 k2 k3
  have hcW := Co.cp_boxed HC2.out HX2.out hnS hg1
  have hvW := rv_boxed (HV1.out.below HB2.out) HX2.out hnS hg1
  have HNR : Hid (n2 = d.reps.length) := Lib.hid (by
    obtain ⟨_, _, e, _⟩ := HC2.out.r
    injection e)
  have h01 := HB0.out.trans (HB1.out.mono HB0.out.size)
  have hbW : Below w.heap.size w W := (h01.trans (HB2.out.mono h01.size)).grown hg1 (Nat.le_trans h01.size HB2.out.size) (fun q hq => by injection hq with hq; omega)
  have HVF := Lib.hid (fun wx (hb : Below W.heap.size W wx) => hvW.below hb)
  have HCF := Lib.hid (fun wx (hb : Below W.heap.size W wx) => show Cv wx wx.heap.size (confV d (.slice A1 n1 c1) (.slice A2 n2 c2) (.slice A3 n3 c3) (.slice A4 n4 c4)) d from ⟨_, _, _, _, _, rfl, hcW.on hb⟩)
  have HXF := Lib.hid (fun wx (hb : Below W.heap.size W wx) => show wx.rangeAt w.heap.size 0 [.bool d.allow, .bool d.attrsAllow, .slice A1 n1 c1, .slice A2 n2 c2, .slice A3 n3 c3, .slice A4 n4 c4, .bool d.comments, .bool d.dataAttrs] from (hh1.on hb).range)
  have HBW := Lib.hid hbW
  have HVW := Lib.hid hvW
  obtain ⟨L, hL⟩ : ∃ L, ros l1 = L := ⟨_, rfl⟩
  have HLL := Lib.hid hL
  have hlw := HLW.out
  rw [hL] at hlw
  have HLW := Lib.hid hlw
  have hrf := Below.refl W.heap.size W
  have HRF := Lib.hid hrf
  obtain ⟨AL, kL, rfl⟩ := rv_shape hvW
  clear hW1 hg1 hh1 hcW hvW h01 hbW hnS hL hlw hrf HTH HX2 HC2 HB2 HB1 HV1 HR1 HX0 HB0 HBD HBN HL1
  obtain ⟨E, hE⟩ : ∃ E, errI d L = E := ⟨_, rfl⟩
  obtain ⟨T, hT⟩ : ∃ T, outL d s L = T := ⟨_, rfl⟩
  have hTn : T.length ≤ 40 := by
    rw [← hT]
    unfold outL
    split
    · rename_i h0
      exact Nat.le_trans (clean_len d s (check_parts (err_ok.1 h0).2).2) HLW.out.n
    · exact Nat.zero_le _
  have hl40 : l1.length ≤ 40 := by rw [← len_ros, HLL.out]; exact HLW.out.n
  have HE := Lib.hid hE; have HT := Lib.hid hT; have HTN := Lib.hid hTn; have HZL := Lib.hid (show Rz.Small (ros l1) from by rw [HLL.out]; exact HLW.out.z); have HFL := Lib.hid (show Few (ros l1) from by rw [HLL.out]; exact HLW.out.f); have HTL := Lib.hid (show (txt (ros l1)).length ≤ 1000000000 from by rw [HLL.out]; exact HLW.out.t)
  have HE1 := Lib.hid (show errI d (ros l1) = E from by rw [HLL.out]; exact hE); have HT1 := Lib.hid (show outL d s (ros l1) = T from by rw [HLL.out]; exact hT)
  have hee : (E == E) = true := by simp
  clear hE hT hTn
  go_upto_region 4 with (first
    | (go_at_call 7; refine (moved0 _ l1 W (HVF.out W HRF.out) (by omega) HFL.out).mono ?_; rintro r a1 ⟨u1, y1, rfl, _, _, hy1, hn1, hv1, hb1⟩; obtain ⟨B1, j1, rfl⟩ := rv_shape hv1; have HY1 := Lib.hid hy1; have HN1 := Lib.hid hn1; have HV1 := Lib.hid hv1; have HA1 := Lib.hid hb1; clear hy1 hv1 hb1 hn1)
    | fail)
  go_upto_region 5 with (first
    | (show wpList _ _ _ (⟨_, Op.load 26 (.tmp 4), _, _, _, _⟩ :: _) _ _; refine wpList_load_mid rfl 26 (.tmp 4) rfl w.heap.size 0 rfl _ _ (HXF.out _ HA1.out) Try.underlying26 rfl Co.size_conf ?_)
    | (go_at_call 8; refine (refRows13 _ _ l1 d s a1 (HVF.out a1 HA1.out) (by omega) HZL.out HFL.out HTL.out (HCF.out a1 HA1.out) HSM.out E T HE1.out HT1.out).mono ?_; rintro r a2 ⟨V2, y2, rfl, hy2, hv2, hb2⟩; obtain ⟨B2, j2, rfl⟩ := rv_shape hv2; have HY2 := Lib.hid hy2; have HV2 := Lib.hid hv2; have HA2 := Lib.hid (HA1.out.trans (hb2.mono HA1.out.size)); have HV1 := Lib.hid (HV1.out.below hb2); clear hy2 hv2 hb2)
    | fail)
  go_upto_region 6 with (first
    | (show wpList _ _ _ (⟨_, Op.load 26 (.tmp 4), _, _, _, _⟩ :: _) _ _; refine wpList_load_mid rfl 26 (.tmp 4) rfl w.heap.size 0 rfl _ _ (HXF.out _ HA2.out) Try.underlying26 rfl Co.size_conf ?_)
    | (go_at_call 9; refine (rows13 _ _ l1 d s a2 (HVF.out a2 HA2.out) (by omega) HZL.out HFL.out HTL.out (HCF.out a2 HA2.out) HSM.out E T HE1.out HT1.out).mono ?_; rintro r a3 ⟨V3, y3, rfl, ho3, hy3, hv3, hb3⟩; obtain ⟨B3, j3, rfl⟩ := rv_shape hv3; have HY3 := Lib.hid hy3; have HV3 := Lib.hid hv3; have HTW := Lib.hid ho3.tw; have HA3 := Lib.hid hb3; clear hy3 hv3 hb3 ho3)
    | fail)
  have hy2n : y2.length ≤ 40 := by rw [← len_ros, HY2.out]; exact HTN.out
  have hy3n : y3.length ≤ 40 := by rw [← len_ros, HY3.out]; exact HTN.out
  go_upto_region 8 with (first
    | (go_at_call 10; refine (refSame1 _ _ y3 y2 a3 true HV3.out (HV2.out.below HA3.out) (by omega) (by omega) (decide_eq_true (HY3.out.trans HY2.out.symm))).mono ?_; rintro r a4 ⟨rfl, hb⟩; have HA4 := Lib.hid (HA3.out.trans (hb.mono HA3.out.size)); have HTW := Lib.hid (HTW.out.below hb); clear hb)
    | fail)
  have hr4 := Below.refl a4.heap.size a4
  go_wp2
  go_loopw [12] (fun i wr => ∃ k : Nat, i = .int .i64 k ∧ k ≤ l1.length ∧ Below a4.heap.size a4 wr) (fun i _ => l1.length - (intOf i).toNat)
  case atStart => exact ⟨0, rfl, Nat.zero_le _, hr4⟩
  case round =>
    clear hr4
    obtain ⟨k, rfl, hks, hbk⟩ := hrel
    by_cases hk : k < l1.length
    · have hbw : Below W.heap.size W wr := HA2.out.trans ((HA4.out.trans (hbk.mono HA4.out.size)).mono HA2.out.size)
      obtain ⟨A', c', e, h1, h2, hr, hh⟩ := HVF.out wr hbw
      injection e with e1 e2 e3
      obtain ⟨b, off, x, e4, hb, hdx, hx, hxa, hxm⟩ := hr.at_ k hk
      rw [e4] at e1
      subst e1
      obtain ⟨⟨dep, kd, nm, dt, ats⟩, A, cc⟩ := x
      have hxz := HZL.out _ (List.mem_map.2 ⟨_, hxm, rfl⟩)
      obtain ⟨f0, f1, f2, f3, f4⟩ := range5 hx
      have hbl : b < wr.heap.size := by omega
      have HON := Lib.hid (fun wx (h : Below wr.heap.size wr wx) => show (wx.cell? ⟨b, off + k * 5, none⟩ = some (.int .i64 dep) ∧ wx.cell? ⟨b, off + k * 5 + 1, none⟩ = some (.int .i64 kd) ∧ wx.cell? ⟨b, off + k * 5 + 2, none⟩ = some (.string nm) ∧ wx.cell? ⟨b, off + k * 5 + 3, none⟩ = some (.string dt) ∧ wx.cell? ⟨b, off + k * 5 + 4, none⟩ = some (.slice A ats.length cc)) from ⟨(h.cell (p := ⟨b, off + k * 5, none⟩) hbl).trans f0, (h.cell (p := ⟨b, off + k * 5 + 1, none⟩) hbl).trans f1, (h.cell (p := ⟨b, off + k * 5 + 2, none⟩) hbl).trans f2, (h.cell (p := ⟨b, off + k * 5 + 3, none⟩) hbl).trans f3, (h.cell (p := ⟨b, off + k * 5 + 4, none⟩) hbl).trans f4⟩)
      have HBK := Lib.hid hbw; have HBR := Lib.hid hbk
      clear hbk h1 h2 hr hh e2 e3 e4 hb hdx hx f0 f1 f2 f3 f4 hbw
      by_cases hkd : kd = 0
      · subst hkd
        have hxl : ats.length ≤ 1000000 := HFL.out _ (List.mem_map.2 ⟨_, hxm, rfl⟩)
        obtain ⟨ys, hys⟩ : ∃ ys, attrsF d s ⟨dep, 0, nm, dt, ats⟩ = ys := ⟨_, rfl⟩
        have HYS := Lib.hid hys; have HXZ := Lib.hid (show Rz.SmallR (⟨dep, 0, nm, dt, ats⟩ : Ro) from hxz); have HXM := Lib.hid hxm
        have HXA := Lib.hid (fun wx (h : Below wr.heap.size wr wx) => show Att wx wx.heap.size ⟨⟨dep, 0, nm, dt, ats⟩, A, cc⟩ from (hxa.below h).more h.size)
        have HBL := Lib.hid (fun wx (h : Below wr.heap.size wr wx) => show (wx.cell? ⟨b, off + k * 5, none⟩ = some (.int .i64 dep) ∧ wx.cell? ⟨b, off + k * 5 + 1, none⟩ = some (.int .i64 0) ∧ wx.cell? ⟨b, off + k * 5 + 2, none⟩ = some (.string nm) ∧ wx.cell? ⟨b, off + k * 5 + 3, none⟩ = some (.string dt) ∧ wx.cell? ⟨b, off + k * 5 + 4, none⟩ = some (.slice A ats.length cc) ∧ wx.cell? ⟨w.heap.size, 0, none⟩ = some (.bool d.allow) ∧ wx.cell? ⟨w.heap.size, 1, none⟩ = some (.bool d.attrsAllow) ∧ wx.cell? ⟨w.heap.size, 2, none⟩ = some (.slice A1 n1 c1) ∧ wx.cell? ⟨w.heap.size, 3, none⟩ = some (.slice A2 n2 c2) ∧ wx.cell? ⟨w.heap.size, 4, none⟩ = some (.slice A3 n3 c3) ∧ wx.cell? ⟨w.heap.size, 5, none⟩ = some (.slice A4 n4 c4) ∧ wx.cell? ⟨w.heap.size, 6, none⟩ = some (.bool d.comments) ∧ wx.cell? ⟨w.heap.size, 7, none⟩ = some (.bool d.dataAttrs)) from by
            obtain ⟨p0, p1, p2, p3, p4⟩ := HON.out wx h
            obtain ⟨a0, a1, a2, a3, a4, a5, a6, a7⟩ := (show Co.Bx wx w.heap.size d (.slice A1 n1 c1) (.slice A2 n2 c2) (.slice A3 n3 c3) (.slice A4 n4 c4) from HXF.out wx (HBK.out.trans (h.mono HBK.out.size))).at_
            exact ⟨p0, p1, p2, p3, p4, a0, a1, a2, a3, a4, a5, a6, a7⟩)
        have form : ∀ {wx w' : World} {u : Value} {r : Ending}, To.Aw wx.heap.size w' u (attrsF d s ⟨dep, 0, nm, dt, ats⟩) → r = Ending.returned u → Below wr.heap.size wr wx → Below wx.heap.size wx w' → ∃ B j, r = Ending.returned (.slice B (attrsF d s ⟨dep, 0, nm, dt, ats⟩).length j) ∧ (attrsF d s ⟨dep, 0, nm, dt, ats⟩).length ≤ j ∧ j ≤ maxLen ∧ Ra w' w'.heap.size B (attrsF d s ⟨dep, 0, nm, dt, ats⟩) ∧ Below wx.heap.size wx w' ∧ Below wr.heap.size wr w' := fun {wx w' u r} ho e hb hb' => by
          obtain ⟨B, j, rfl⟩ := ho.form
          have hat := (show Fr wx.heap.size w' ⟨⟨0, 0, .empty, .empty, attrsF d s ⟨dep, 0, nm, dt, ats⟩⟩, B, j⟩ from ho).att
          exact ⟨B, j, e, hat.1, hat.2.2.1, hat.2.2.2.1, hb', hb.trans (hb'.mono hb.size)⟩
        have HAF := Lib.hid (fun (wx : World) (hb : Below wr.heap.size wr wx) => show Calls Try.prog 12 #[.agg #[.int .i64 dep, .int .i64 0, .string nm, .string dt, .slice A ats.length cc], (confV d (.slice A1 n1 c1) (.slice A2 n2 c2) (.slice A3 n3 c3) (.slice A4 n4 c4)), .bool s] wx (fun r w' => ∃ B j, r = Ending.returned (.slice B ys.length j) ∧ ys.length ≤ j ∧ j ≤ maxLen ∧ Ra w' w'.heap.size B ys ∧ Below wx.heap.size wx w' ∧ Below wr.heap.size wr w') from (attrs_any ⟨⟨dep, 0, nm, dt, ats⟩, A, cc⟩ (confV d (.slice A1 n1 c1) (.slice A2 n2 c2) (.slice A3 n3 c3) (.slice A4 n4 c4)) d s wx (HXA.out wx hb) HXZ.out (HCF.out wx (HBK.out.trans (hb.mono HBK.out.size))) HSM.out (by show ats.length ≤ _; omega)).mono fun r w' ⟨u, e, ho, hb'⟩ => (show (fun r w' => ∃ B j, r = Ending.returned (.slice B ys.length j) ∧ ys.length ≤ j ∧ j ≤ maxLen ∧ Ra w' w'.heap.size B ys ∧ Below wx.heap.size wx w' ∧ Below wr.heap.size wr w') r w' from by rw [← HYS.out]; exact form ho e hb hb'))
        have HRF := Lib.hid (fun (wx : World) (hb : Below wr.heap.size wr wx) => show Calls Try.prog 13 #[.agg #[.int .i64 dep, .int .i64 0, .string nm, .string dt, .slice A ats.length cc], (confV d (.slice A1 n1 c1) (.slice A2 n2 c2) (.slice A3 n3 c3) (.slice A4 n4 c4)), .bool s] wx (fun r w' => ∃ B j, r = Ending.returned (.slice B ys.length j) ∧ ys.length ≤ j ∧ j ≤ maxLen ∧ Ra w' w'.heap.size B ys ∧ Below wx.heap.size wx w' ∧ Below wr.heap.size wr w') from (refAttrs_any ⟨⟨dep, 0, nm, dt, ats⟩, A, cc⟩ (confV d (.slice A1 n1 c1) (.slice A2 n2 c2) (.slice A3 n3 c3) (.slice A4 n4 c4)) d s wx (HXA.out wx hb) HXZ.out (HCF.out wx (HBK.out.trans (hb.mono HBK.out.size))) HSM.out (by show ats.length ≤ _; omega)).mono fun r w' ⟨u, e, ho, hb'⟩ => (show (fun r w' => ∃ B j, r = Ending.returned (.slice B ys.length j) ∧ ys.length ≤ j ∧ j ≤ maxLen ∧ Ra w' w'.heap.size B ys ∧ Below wx.heap.size wx w' ∧ Below wr.heap.size wr w') r w' from by rw [← HYS.out]; exact form ho e hb hb'))
        have HQF := Lib.hid (fun (wx : World) (B1 B2 : Option Addr) (k1 k2 : Nat) (h1 : Ra wx wx.heap.size B1 ys) (h2 : Ra wx wx.heap.size B2 ys) (e1 : ys.length ≤ k1) (e2 : ys.length ≤ k2) (m1 : k1 ≤ maxLen) (m2 : k2 ≤ maxLen) (hb : Below wr.heap.size wr wx) => show Calls Try.prog 11 #[.slice B1 ys.length k1, .slice B2 ys.length k2] wx (fun r w' => r = .returned (.bool true) ∧ Below wr.heap.size wr w') from (Ro.refAttrs_any B1 B2 k1 k2 ys ys wx h1 h2 e1 e2 m1 m2).mono fun r w' ⟨e, n, hw⟩ => ⟨by rw [e]; simp, by rw [hw]; exact bel_eq12 hb rfl rfl rfl rfl⟩)
        clear hxz hxa hys form hxl hxm HYS HXM HXZ HXA HON
        go_upto_region 11 with (fail)
        go_region_held3 (fun wx => (wx.cell? ⟨b, off + k * 5, none⟩ = some (.int .i64 dep) ∧ wx.cell? ⟨b, off + k * 5 + 1, none⟩ = some (.int .i64 0) ∧ wx.cell? ⟨b, off + k * 5 + 2, none⟩ = some (.string nm) ∧ wx.cell? ⟨b, off + k * 5 + 3, none⟩ = some (.string dt) ∧ wx.cell? ⟨b, off + k * 5 + 4, none⟩ = some (.slice A ats.length cc) ∧ wx.cell? ⟨w.heap.size, 0, none⟩ = some (.bool d.allow) ∧ wx.cell? ⟨w.heap.size, 1, none⟩ = some (.bool d.attrsAllow) ∧ wx.cell? ⟨w.heap.size, 2, none⟩ = some (.slice A1 n1 c1) ∧ wx.cell? ⟨w.heap.size, 3, none⟩ = some (.slice A2 n2 c2) ∧ wx.cell? ⟨w.heap.size, 4, none⟩ = some (.slice A3 n3 c3) ∧ wx.cell? ⟨w.heap.size, 5, none⟩ = some (.slice A4 n4 c4) ∧ wx.cell? ⟨w.heap.size, 6, none⟩ = some (.bool d.comments) ∧ wx.cell? ⟨w.heap.size, 7, none⟩ = some (.bool d.dataAttrs))) (first
          | exact HBL.out _ (bel_eq12 (Below.refl _ wr) rfl rfl rfl rfl)
          | exact HBL.out _ (bel_eq12 HZ.out rfl rfl rfl rfl)
          | exact HBL.out _ (bel_eq12 HWN.out rfl rfl rfl rfl)
          | go_keep) (first
          | (go_at_call 12; (with_reducible show Calls _ _ #[_, _, _] _ _); refine (HAF.out _ (by first | exact bel_eq12 HWN.out rfl rfl rfl rfl | exact bel_eq12 (Below.refl _ wr) rfl rfl rfl rfl)).mono ?_; rintro r xA ⟨BA, jA, rfl, hl, hj, hr, hc, hw⟩; have HRA := Lib.hid hr; have HLA := Lib.hid hl; have HJA := Lib.hid hj; have HWN := Lib.hid hw; (try have HRR := Lib.hid ((HRR.out.below hc).more hc.size)); clear hl hj hr hc hw)
          | (go_at_call 13; (with_reducible show Calls _ _ #[_, _, _] _ _); refine (HRF.out _ (by first | exact bel_eq12 HWN.out rfl rfl rfl rfl | exact bel_eq12 (Below.refl _ wr) rfl rfl rfl rfl)).mono ?_; rintro r xR ⟨BR, jR, rfl, hl, hj, hr, hc, hw⟩; have HRR := Lib.hid hr; have HLR := Lib.hid hl; have HJR := Lib.hid hj; have HWN := Lib.hid hw; (try have HRA := Lib.hid ((HRA.out.below hc).more hc.size)); clear hl hj hr hc hw)
          | (go_at_call 11; (with_reducible show Calls _ _ #[_, _] _ _); refine (HQF.out _ BA BR jA jR HRA.out HRR.out HLA.out HLR.out HJA.out HJR.out HWN.out).mono ?_; rintro r xZ ⟨rfl, hb⟩; have HZ := Lib.hid hb; clear hb))
        all_goals
          have hbz : Below wr.heap.size wr xZ := HZ.out
          have hba : Below a4.heap.size a4 xZ := HBR.out.trans (hbz.mono HBR.out.size)
          go_wp2
          go_roundw
          case rel => exact ⟨k + 1, by go_num, by omega, hba⟩
          case measure => simp [intOf]; omega
      · have hk0 : (kd == 0) = false := by simpa using hkd
        have hba : Below a4.heap.size a4 wr := HBR.out
        have HK := Lib.hid (fun wx (h : Below wr.heap.size wr wx) => (HON.out wx h).2.1)
        clear hkd hxa hxm hxz HON
        go_upto_region 11 with (fail)
        refine wp_region_noPanic ?_
        refine wp_region_held_drew (S := fun wx => (wx.cell? ⟨b, off + k * 5 + 1, none⟩ = some (.int .i64 kd))) (by kernel_rfl) ?_ (fun hHeld => ?_)
        · exact HK.out _ (bel_eq12 (Below.refl _ wr) rfl rfl rfl rfl)
        refine wpAnyH_take (i := 0) (oi := _) (v := ?_) rfl (by kernel_rfl) (by kernel_rfl) (by kernel_rfl) (fun _ _ _ h => h) (Or.inl ⟨by rfl, ?_⟩) (by assumption) ?_
        rotate_left
        · intro w hSw; (try dsimp only at hSw); go_simp; all_goals with_reducible rfl
        try simp only [Act.put, List.getElem_toArray, List.getElem_cons_zero, List.getElem_cons_succ, List.setIfInBounds_toArray, List.set_cons_zero, List.set_cons_succ]
        refine wpAnyH_take (i := 1) (oi := _) (v := ?_) rfl (by kernel_rfl) (by kernel_rfl) (by kernel_rfl) (fun _ _ _ h => h) (Or.inl ⟨by rfl, ?_⟩) (by assumption) ?_
        rotate_left
        · intro w hSw; (try dsimp only at hSw); go_simp; all_goals with_reducible rfl
        try simp only [Act.put, List.getElem_toArray, List.getElem_cons_zero, List.getElem_cons_succ, List.setIfInBounds_toArray, List.set_cons_zero, List.set_cons_succ]
        refine wpAnyH_take (i := 2) (oi := _) (v := ?_) rfl (by kernel_rfl) (by kernel_rfl) (by kernel_rfl) (fun _ _ _ h => h) (Or.inl ⟨by rfl, ?_⟩) (by assumption) ?_
        rotate_left
        · intro w hSw; (try dsimp only at hSw); go_simp; all_goals with_reducible rfl
        try simp only [Act.put, List.getElem_toArray, List.getElem_cons_zero, List.getElem_cons_succ, List.setIfInBounds_toArray, List.set_cons_zero, List.set_cons_succ]
        refine wpAnyH_take (i := 3) (oi := _) (v := ?_) rfl (by kernel_rfl) (by kernel_rfl) (by kernel_rfl) (fun _ _ _ h => h) (Or.inl ⟨by rfl, ?_⟩) (by assumption) ?_
        rotate_left
        · intro w hSw; (try dsimp only at hSw); go_simp; all_goals with_reducible rfl
        try simp only [Act.put, List.getElem_toArray, List.getElem_cons_zero, List.getElem_cons_succ, List.setIfInBounds_toArray, List.set_cons_zero, List.set_cons_succ]
        refine wpAnyH_take (i := 4) (oi := _) (v := ?_) rfl (by kernel_rfl) (by kernel_rfl) (by kernel_rfl) (fun _ _ _ h => h) (Or.inl ⟨by rfl, ?_⟩) (by assumption) ?_
        rotate_left
        · intro w hSw; (try dsimp only at hSw); go_simp; all_goals with_reducible rfl
        try simp only [Act.put, List.getElem_toArray, List.getElem_cons_zero, List.getElem_cons_succ, List.setIfInBounds_toArray, List.set_cons_zero, List.set_cons_succ]
        refine wpAnyH_take (i := 5) (oi := _) (v := ?_) rfl (by kernel_rfl) (by kernel_rfl) (by kernel_rfl) (fun _ _ _ h => h) (Or.inl ⟨by rfl, ?_⟩) (by assumption) ?_
        rotate_left
        · intro w hSw; (try dsimp only at hSw); go_simp; all_goals with_reducible rfl
        try simp only [Act.put, List.getElem_toArray, List.getElem_cons_zero, List.getElem_cons_succ, List.setIfInBounds_toArray, List.set_cons_zero, List.set_cons_succ]
        refine wpAnyH_take (i := 6) (oi := _) (v := ?_) rfl (by kernel_rfl) (by kernel_rfl) (by kernel_rfl) (fun _ _ _ h => h) (Or.inl ⟨by rfl, ?_⟩) (by assumption) ?_
        rotate_left
        · intro w hSw; (try dsimp only at hSw); go_simp; all_goals with_reducible rfl
        try simp only [Act.put, List.getElem_toArray, List.getElem_cons_zero, List.getElem_cons_succ, List.setIfInBounds_toArray, List.set_cons_zero, List.set_cons_succ]
        refine wpAnyH_take (i := 7) (oi := _) (v := undef) rfl (by kernel_rfl) (by kernel_rfl) (by kernel_rfl) (fun _ _ _ h => h) (Or.inr ⟨by rfl, rfl⟩) (by assumption) ?_
        try simp only [Act.put, List.getElem_toArray, List.getElem_cons_zero, List.getElem_cons_succ, List.setIfInBounds_toArray, List.set_cons_zero, List.set_cons_succ]
        refine wpAnyH_take (i := 8) (oi := _) (v := undef) rfl (by kernel_rfl) (by kernel_rfl) (by kernel_rfl) (fun _ _ _ h => h) (Or.inr ⟨by rfl, rfl⟩) (by assumption) ?_
        try simp only [Act.put, List.getElem_toArray, List.getElem_cons_zero, List.getElem_cons_succ, List.setIfInBounds_toArray, List.set_cons_zero, List.set_cons_succ]
        refine wpAnyH_take (i := 9) (oi := _) (v := undef) rfl (by kernel_rfl) (by kernel_rfl) (by kernel_rfl) (fun _ _ _ h => h) (Or.inr ⟨by rfl, rfl⟩) (by assumption) ?_
        try simp only [Act.put, List.getElem_toArray, List.getElem_cons_zero, List.getElem_cons_succ, List.setIfInBounds_toArray, List.set_cons_zero, List.set_cons_succ]
        refine wpAnyH_take (i := 10) (oi := _) (v := undef) rfl (by kernel_rfl) (by kernel_rfl) (by kernel_rfl) (fun _ _ _ h => h) (Or.inr ⟨by rfl, rfl⟩) (by assumption) ?_
        try simp only [Act.put, List.getElem_toArray, List.getElem_cons_zero, List.getElem_cons_succ, List.setIfInBounds_toArray, List.set_cons_zero, List.set_cons_succ]
        refine wpAnyH_take (i := 11) (oi := _) (v := undef) rfl (by kernel_rfl) (by kernel_rfl) (by kernel_rfl) (fun _ _ _ h => h) (Or.inr ⟨by rfl, rfl⟩) (by assumption) ?_
        try simp only [Act.put, List.getElem_toArray, List.getElem_cons_zero, List.getElem_cons_succ, List.setIfInBounds_toArray, List.set_cons_zero, List.set_cons_succ]
        refine wpAnyH_take (i := 12) (oi := _) (v := undef) rfl (by kernel_rfl) (by kernel_rfl) (by kernel_rfl) (fun _ _ _ h => h) (Or.inr ⟨by rfl, rfl⟩) (by assumption) ?_
        try simp only [Act.put, List.getElem_toArray, List.getElem_cons_zero, List.getElem_cons_succ, List.setIfInBounds_toArray, List.set_cons_zero, List.set_cons_succ]
        refine wpAnyH_take (i := 13) (oi := _) (v := undef) rfl (by kernel_rfl) (by kernel_rfl) (by kernel_rfl) (fun _ _ _ h => h) (Or.inr ⟨by rfl, rfl⟩) (by assumption) ?_
        try simp only [Act.put, List.getElem_toArray, List.getElem_cons_zero, List.getElem_cons_succ, List.setIfInBounds_toArray, List.set_cons_zero, List.set_cons_succ]
        refine wpAnyH_take (i := 14) (oi := _) (v := undef) rfl (by kernel_rfl) (by kernel_rfl) (by kernel_rfl) (fun _ _ _ h => h) (Or.inr ⟨by rfl, rfl⟩) (by assumption) ?_
        try simp only [Act.put, List.getElem_toArray, List.getElem_cons_zero, List.getElem_cons_succ, List.setIfInBounds_toArray, List.set_cons_zero, List.set_cons_succ]
        refine wpAnyH_take (i := 15) (oi := _) (v := undef) rfl (by kernel_rfl) (by kernel_rfl) (by kernel_rfl) (fun _ _ _ h => h) (Or.inr ⟨by rfl, rfl⟩) (by assumption) ?_
        try simp only [Act.put, List.getElem_toArray, List.getElem_cons_zero, List.getElem_cons_succ, List.setIfInBounds_toArray, List.set_cons_zero, List.set_cons_succ]
        refine wpAnyH_take (i := 16) (oi := _) (v := undef) rfl (by kernel_rfl) (by kernel_rfl) (by kernel_rfl) (fun _ _ _ h => h) (Or.inr ⟨by rfl, rfl⟩) (by assumption) ?_
        try simp only [Act.put, List.getElem_toArray, List.getElem_cons_zero, List.getElem_cons_succ, List.setIfInBounds_toArray, List.set_cons_zero, List.set_cons_succ]
        refine wpAnyH_take (i := 17) (oi := _) (v := undef) rfl (by kernel_rfl) (by kernel_rfl) (by kernel_rfl) (fun _ _ _ h => h) (Or.inr ⟨by rfl, rfl⟩) (by assumption) ?_
        try simp only [Act.put, List.getElem_toArray, List.getElem_cons_zero, List.getElem_cons_succ, List.setIfInBounds_toArray, List.set_cons_zero, List.set_cons_succ]
        refine wpAnyH_take (i := 18) (oi := _) (v := undef) rfl (by kernel_rfl) (by kernel_rfl) (by kernel_rfl) (fun _ _ _ h => h) (Or.inr ⟨by rfl, rfl⟩) (by assumption) ?_
        try simp only [Act.put, List.getElem_toArray, List.getElem_cons_zero, List.getElem_cons_succ, List.setIfInBounds_toArray, List.set_cons_zero, List.set_cons_succ]
        refine wpAnyH_take (i := 19) (oi := _) (v := undef) rfl (by kernel_rfl) (by kernel_rfl) (by kernel_rfl) (fun _ _ _ h => h) (Or.inr ⟨by rfl, rfl⟩) (by assumption) ?_
        try simp only [Act.put, List.getElem_toArray, List.getElem_cons_zero, List.getElem_cons_succ, List.setIfInBounds_toArray, List.set_cons_zero, List.set_cons_succ]
        refine wpAnyH_take (i := 20) (oi := _) (v := undef) rfl (by kernel_rfl) (by kernel_rfl) (by kernel_rfl) (fun _ _ _ h => h) (Or.inr ⟨by rfl, rfl⟩) (by assumption) ?_
        try simp only [Act.put, List.getElem_toArray, List.getElem_cons_zero, List.getElem_cons_succ, List.setIfInBounds_toArray, List.set_cons_zero, List.set_cons_succ]
        refine wpAnyH_take (i := 21) (oi := _) (v := undef) rfl (by kernel_rfl) (by kernel_rfl) (by kernel_rfl) (fun _ _ _ h => h) (Or.inr ⟨by rfl, rfl⟩) (by assumption) ?_
        try simp only [Act.put, List.getElem_toArray, List.getElem_cons_zero, List.getElem_cons_succ, List.setIfInBounds_toArray, List.set_cons_zero, List.set_cons_succ]
        refine wpAnyH_take (i := 22) (oi := _) (v := undef) rfl (by kernel_rfl) (by kernel_rfl) (by kernel_rfl) (fun _ _ _ h => h) (Or.inr ⟨by rfl, rfl⟩) (by assumption) ?_
        try simp only [Act.put, List.getElem_toArray, List.getElem_cons_zero, List.getElem_cons_succ, List.setIfInBounds_toArray, List.set_cons_zero, List.set_cons_succ]
        refine wpAnyH_take (i := 23) (oi := _) (v := ?_) rfl (by kernel_rfl) (by kernel_rfl) (by kernel_rfl) (fun _ _ _ h => h) (Or.inl ⟨by rfl, ?_⟩) (by assumption) ?_
        rotate_left
        · intro w hSw; (try dsimp only at hSw); go_simp; all_goals with_reducible rfl
        try simp only [Act.put, List.getElem_toArray, List.getElem_cons_zero, List.getElem_cons_succ, List.setIfInBounds_toArray, List.set_cons_zero, List.set_cons_succ]
        refine wpAnyH_done (by kernel_rfl) ?_ _
        refine NoPanic.normal ?_
        go_wp2
        go_roundw
        case rel => exact ⟨k + 1, by go_num, by omega, bel_eq12 hba rfl rfl rfl rfl⟩
        case measure => simp [intOf]; omega
    · have HTW5 := Lib.hid (HTW.out.below hbk); have HA5 := Lib.hid (HA4.out.trans (hbk.mono HA4.out.size))
      clear hbk hee
      go_wp2
      go_loopw [13, 14] (fun i _ wx => ∃ k : Nat, i = .int .i64 k ∧ k ≤ y3.length ∧ Tw a2.heap.size wx B3 y3 ∧ Below a2.heap.size a2 wx) (fun i _ _ => y3.length - (intOf i).toNat)
      case atStart => exact ⟨0, rfl, Nat.zero_le _, HTW5.out, HA5.out⟩
      case round =>
        obtain ⟨m, rfl, hms, htw, hbm⟩ := hrel
        by_cases hm : m < y3.length
        · have hx := List.getElem?_eq_getElem hm
          obtain ⟨x, hxe⟩ : ∃ x, y3[m] = x := ⟨_, rfl⟩
          rw [hxe] at hx
          obtain ⟨G, rfl⟩ := htw.form hx
          obtain ⟨hN, ⟨cs, hG⟩, g4, ⟨s2, g2⟩, gf⟩ := htw.rowAt hx
          have f2 := gf (m * 5 + 2)
          have hxn : x.ro.attrs.length ≤ maxLen := by
            obtain ⟨_, _, _, _, _, hrr, _⟩ := HV3.out
            have ha := hrr.2 x (List.mem_of_getElem? hx)
            exact Nat.le_trans ha.1 ha.2.2.1
          unfold maxLen at hxn
          have HX := Lib.hid hx
          have HTM := Lib.hid (htw.row_set (i := m) hG ⟨#[120]⟩); have HBM := Lib.hid (hbm.setCell (p := ⟨G, m * 5 + 2, none⟩) hN (.string ⟨#[120]⟩))
          clear htw hbm hG gf hx hxe g4
          go_wp2
          go_loopw [14] (fun j wy => ∃ q : Nat, j = .int .i64 q ∧ q ≤ x.ro.attrs.length ∧ Tw a2.heap.size wy (some ⟨G, 0, none⟩) y3 ∧ Below a2.heap.size a2 wy) (fun j _ => x.ro.attrs.length - (intOf j).toNat)
          case atStart => exact ⟨0, rfl, Nat.zero_le _, HTM.out, HBM.out⟩
          case round =>
            clear g2 f2 HTM HBM
            obtain ⟨q, rfl, hqs, htq, hbq⟩ := hrel
            obtain ⟨hN, ⟨cs, hG⟩, g4, _, gf⟩ := htq.rowAt HX.out
            by_cases hq : q < x.ro.attrs.length
            · obtain ⟨g, hxA, hNg, ⟨ds, hg⟩, ⟨s3, g0⟩, gfg⟩ := htq.attAt HX.out hq
              have f0 := gfg (q * 2)
              rw [hxA] at g4
              have HTQ := Lib.hid (htq.att_set (o := q * 2) hg ⟨#[]⟩); have HBQ := Lib.hid (hbq.setCell (p := ⟨g, q * 2, none⟩) hNg (.string ⟨#[]⟩))
              clear htq hbq hg hG gf gfg hxA
              go_wp2
              go_roundw
              case rel => exact ⟨q + 1, by go_num, by omega, HTQ.out, HBQ.out⟩
              case measure => simp [intOf]; omega
            · have HTQ := Lib.hid htq; have HBQ := Lib.hid hbq
              clear htq hbq hG gf
              go_wp2
              go_roundw
              case rel => exact ⟨m + 1, by go_num, by omega, HTQ.out, HBQ.out⟩
              case measure => simp [intOf]; omega
        · have HBZ := Lib.hid (HA2.out.trans (hbm.mono HA2.out.size)); have HV1Z := Lib.hid (HV1.out.below hbm)
          have hy1n : y1.length ≤ 40 := by rw [HN1.out]; exact hl40
          have HSQ := Lib.hid (refSame1 (.slice AL l1.length kL) (.slice B1 y1.length j1) l1 y1 wr true (HVF.out wr HBZ.out) HV1Z.out (by omega) (by omega) (decide_eq_true HY1.out.symm))
          clear htw hbm
          go_wp2_with (first
            | (go_at_call 10; refine HSQ.out.mono ?_; rintro r z1 ⟨rfl, hb⟩; have HZ1 := Lib.hid (HBZ.out.trans (hb.mono HBZ.out.size)); clear hb)
            | (go_at_call 14; refine (Co.on_base (fixed13 z1) HZ1.out).mono ?_; rintro r z4 ⟨rfl, hb⟩; have HZ4 := Lib.hid hb; clear hb)
            | fail)
          go_ret
          exact ⟨rfl, HBW.out.trans (HZ4.out.mono HBW.out.size)⟩

end Go.Proofs.Ytgjlfcamgkeibaa.Cn

namespace Go.Proofs.Ytgjlfcamgkeibaa.Ro
set_option maxRecDepth 100000
set_option linter.unusedVariables false
set_option linter.unusedSimpArgs false
open Go.RowKit Ba Go.ChangeShapes Go.WideShapes Go.Deep
section
variable {H : Type} {enc : TypeId × Value → H} {P : Program} {w : World} {base : Nat} {spare : Nat → Bool} {held : Bool}
theorem open_rows_data {t e : TypeId} {fs : Array Field} {fuel : Nat} {cs : List Value} {x : DataW H × List MemPlace} (ht : P.underlying t = some (.slice e)) (he : P.underlying e = some (.struct fs))
    (hone : oneCellFields P fs = true) (hC : P.cellsOf e = fs.size) (h : DataW.trod enc P w base spare held fuel t cs = some x) :
    cs = [.slice none 0 0] ∨
    ∃ (a : Addr) (len cap : Nat) (D : Nat → DataW H) (sp : List (DataW H)), cs = [.slice (some a) len cap] ∧ x.1 = .slice ((List.range len).map D) sp ∧
      ∀ i, i < len → ∀ (j : Nat) (f : Field), fs[j]? = some f → ∃ (v : Value) (y : DataW H × List MemPlace) (n : Nat) (parts : List (DataW H)), w.cell? (a.add (i * fs.size + j)) = some v ∧ D i = .agg parts ∧ y.1 ∈ parts ∧ DataW.trod enc P w base spare held n f.type [v] = some y := by
  rcases open_slice ht h with ⟨h0, _⟩ | ⟨a, len, cap, m, n, D, Pl, hcs, hb, hl, hm, hmm, hx, hi⟩
  · exact .inl h0
  · refine .inr ⟨a, len, cap, D, _, hcs, by rw [hx], fun i hil j f hj => ?_⟩
    have him : i < m := by rw [hmm]; split <;> omega
    obtain ⟨cs', hc, ht'⟩ := hi i him
    rw [hC] at hc
    obtain ⟨ys, n', hn', hy, hlen, hyl, hf⟩ := DataW.trod_struct he ht'
    obtain ⟨_, hcl, hat⟩ := World.cells?_some hc
    simp only [Prod.mk.injEq] at hy
    obtain ⟨ho, hk⟩ := hone_of hone j f hj
    have hjl : j < fs.size := (Array.getElem?_eq_some_iff.1 hj).1
    have hcell := hat j hjl
    have hv : cs'[j]? = some (cs'[j]'(by omega)) := List.getElem?_eq_getElem (by omega)
    have h1 := hf j f hj
    rw [ho, hk] at h1
    have hone' : (cs'.drop j).take 1 = [cs'[j]'(by omega)] := by
      rw [List.drop_eq_getElem_cons (by omega)]
      rfl
    rw [hone'] at h1
    have hys : ys[j]? = some (ys[j]'(by omega)) := List.getElem?_eq_getElem (by omega)
    refine ⟨_, _, n', _, ?_, hy.1, List.mem_map.2 ⟨_, List.getElem_mem _, rfl⟩, h1.trans hys⟩
    rw [← Go.Deep.add_add, hcell, hv]
end

theorem txt_bulk {H : Type} (D : Nat → DataW H) : ∀ (l : List Cw) (o : Nat), (∀ i (h : i < l.length), l[i].ro.data.size ≤ Rows.uptoBulk (D (o + i))) → (txt (ros l)).length ≤ Rows.uptoBulkAll ((List.range' o l.length).map D)
  | [], o, _ => by simp [ros, txt]
  | x :: r, o, h => by
    have h0 := h 0 (by simp)
    have ih := txt_bulk D r (o + 1) fun i hi => by
      have := h (i + 1) (by simp; omega)
      rw [show o + 1 + i = o + (i + 1) by omega]
      exact this
    rw [ros_cons, txt, List.length_append, List.length_cons, List.range'_succ, List.map_cons, Rows.uptoBulkAll]
    have h1 : x.ro.data.size ≤ Rows.uptoBulk (D o) := h0
    have h2 : (if x.ro.kind = 1 then L x.ro.data else []).length ≤ x.ro.data.size := by
      split
      · rw [size_L]; exact Nat.le_refl _
      · exact Nat.zero_le _
    omega

theorem rows_bulk {H : Type} {enc : TypeId × Value → H} {w : World} {N : Nat} {v : Value} {A : Option Addr} {c : Nat} {l : List Cw} {d : DataW H} {p : List MemPlace} (hv : v = .slice A l.length c) (hr : Rr w N A l)
    (h : ∃ fuel, DataW.trod enc Try.prog w 0 (fun _ => true) true fuel 22 v.cells.toList = some (d, p)) : (txt (ros l)).length ≤ Rows.uptoBulk d := by
  obtain ⟨fuel, hf⟩ := h
  subst hv
  rcases open_rows_data Try.underlying22 Try.underlying36 (by kernel_rfl) (by kernel_rfl) hf with hcs | ⟨a, len, cap, D, sp, hcs, hx, hi⟩
  · simp [Value.cells] at hcs
    obtain ⟨_, hl, _⟩ := hcs
    have : l = [] := hl
    subst this
    simp [ros, txt]
  · simp [Value.cells] at hcs
    obtain ⟨hA, hl, _⟩ := hcs
    have hx : d = _ := hx
    rw [hx, Rows.uptoBulk]
    have := txt_bulk D l 0 fun i hil => by
      obtain ⟨b, off, e, _, hc⟩ := hr.1 (by omega)
      obtain ⟨u, y, n, parts, hcell, hD, hy, ht⟩ := hi i (by omega) 3 _ rfl
      obtain ⟨s, e1, e2, _⟩ := DataW.trod_string Try.underlying9 ht
      have hcl := hc i hil 3 (.string l[i].ro.data) rfl
      rw [hA] at e
      injection e with e
      subst e
      rw [add_plain] at hcell
      rw [show off + i * 5 + 3 = off + (i * 5 + 3) by omega] at hcl
      have huv : u = .string l[i].ro.data := Option.some.inj (hcell.symm.trans hcl)
      have hs : s = l[i].ro.data := by
        have : u = .string s := by simpa using e1
        rw [this] at huv
        injection huv
      rw [Nat.zero_add, hD, Rows.uptoBulk]
      have h3 := mem_bulk hy
      have h4 : Rows.uptoBulk y.1 = s.size + 1 := by rw [e2, Rows.uptoBulk, Array.length_toList]; rfl
      rw [hs] at h4
      omega
    rw [← List.range_eq_range', hl] at this
    omega

end Go.Proofs.Ytgjlfcamgkeibaa.Ro
