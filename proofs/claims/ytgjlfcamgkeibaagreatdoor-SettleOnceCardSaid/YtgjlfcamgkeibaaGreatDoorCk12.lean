/-
  Walks of stage 13: the attributes that are kept.
  Walks of stage 13: what becomes of a row.
  Stage 13: rows of the call's own whose attributes are its own; blocks of a type; an array of numbers in a block.
  Stage 14: the boxes that the rounds share.
  Walks of stage 13: filtered.
  Walks of stage 12: exceeds, misnames and its closure.
  Walks of stage 12: meet and twice, of names, of names and api.Per, of api.Per.
  Walks of stage 12: meet of api.Per, and twice.
  Walks of stage 12: misnames, repeats, contradicts, Check.
-/
import Derived.Test.YtgjlfcamgkeibaaGreatDoorCk02
import Derived.Test.YtgjlfcamgkeibaaGreatDoorCk11
import Derived.Test.YtgjlfcamgkeibaaGreatDoorCk04
import Derived.Test.YtgjlfcamgkeibaaGreatDoorCk01
import Derived.Test.YtgjlfcamgkeibaaGreatDoorCk10
import Derived.Deep.CutRange
import Derived.Deep.LoopGhost
import Derived.WalkMore
import Derived.Test.YtgjlfcamgkeibaaGreatDoorCk08
import Derived.Deep.Cut
import Derived.Deep.RegionWith
namespace Go.Proofs.YtgjlfcamgkeibaaGreatDoor.Cn
set_option maxRecDepth 100000
set_option linter.unusedVariables false
set_option linter.unusedSimpArgs false
open Go.RowKit Ba Ro
open Co (Cf Cv Sm confV confO attrB12 elementN)
open To (Aw app_attr)
theorem attrs_take (c : Cf) (s : Bool) (e : ByteArray) (l : List At) (k : Nat) {y : At} (h : l.drop k = y :: l.drop (k + 1)) : attrsL c s e (l.take (k + 1)) = attrsL c s e (l.take k) ++ if keepB c s e y = true then [y] else [] := by
  have e1 : l.take (k + 1) = l.take k ++ [y] := by
    rw [List.take_add_one]
    congr 1
    rw [getElem_of_drop h]
    rfl
  unfold attrsL
  rw [e1, List.filter_append, List.filter_cons, List.filter_nil]
theorem keep_yes {c : Cf} {s : Bool} {e : ByteArray} {l : List At} {k : Nat} {y : At} (h : l.drop k = y :: l.drop (k + 1)) (hk : keepB c s e y = true) : attrsL c s e (l.take (k + 1)) = attrsL c s e (l.take k) ++ [y] := by rw [attrs_take c s e l k h, if_pos hk]
theorem keep_no {c : Cf} {s : Bool} {e : ByteArray} {l : List At} {k : Nat} {y : At} (h : l.drop k = y :: l.drop (k + 1)) (hk : keepB c s e y = false) : attrsL c s e (l.take (k + 1)) = attrsL c s e (l.take k) := by rw [attrs_take c s e l k h, if_neg (by rw [hk]; decide), List.append_nil]
theorem attrs_le (c : Cf) (s : Bool) (e : ByteArray) (l : List At) (k : Nat) : (attrsL c s e (l.take k)).length ≤ l.length := Nat.le_trans (List.length_filter_le _ _) (List.length_take_le' _ _)

theorem aw_on {N : Nat} {w w' : World} {v : Value} {l : List At} (h : Aw N w v l) (hb : Below w.heap.size w w') : Aw N w' v l := by
  refine ⟨⟨h.1.1, ?_⟩, h.2⟩
  rcases h.1.2 with hn | ⟨g, cap, cur, hv, hg, hh, rest⟩
  · exact .inl hn
  · refine .inr ⟨g, cap, cur, hv, hg, ?_, rest⟩
    rw [hb.block g (Array.getElem?_eq_some_iff.1 hh).1]
    exact hh
structure Bb (w : World) (b : Nat) (x : Cw) (c : Cf) (vE vR vA vP : Value) : Prop where
  row : ∀ j, w.cell? ⟨b, j, none⟩ = (cells x)[j]?
  cf : w.rangeAt (b + 1) 0 [.bool c.allow, .bool c.attrsAllow, vE, vR, vA, vP, .bool c.comments, .bool c.dataAttrs]
  lt : b + 1 < w.heap.size
theorem Bb.new (w : World) (x : Cw) (c : Cf) (vE vR vA vP : Value) : Bb ((w.alloc (rowO x)).alloc (confO c vE vR vA vP)) w.heap.size x c vE vR vA vP :=
  ⟨box_kept (below_new _ _), by have := Co.Bx.new (w.alloc (rowO x)) c vE vR vA vP; rwa [World.size_alloc] at this, by simp⟩
theorem Bb.on {w w' : World} {b : Nat} {x : Cw} {c : Cf} {vE vR vA vP : Value} (h : Bb w b x c vE vR vA vP) (hb : Below w.heap.size w w') : Bb w' b x c vE vR vA vP :=
  ⟨fun j => (hb.cell (p := ⟨b, j, none⟩) (by have := h.lt; show b < _; omega)).trans (h.row j), range_keep h.cf fun o => hb.cell (p := ⟨b + 1, o, none⟩) (show b + 1 < _ from h.lt), Nat.lt_of_lt_of_le h.lt hb.size⟩
theorem below_two (w : World) (a b : Obj) : Below w.heap.size w ((w.alloc a).alloc b) := (below_new w a).trans ((below_new _ b).mono (by simp))

set_option maxRecDepth 100000 in
set_option maxHeartbeats 4000000 in
theorem attrs_any (x : Cw) (v : Value) (c : Cf) (s : Bool) (w : World) (hx : Att w w.heap.size x) (hz : Rz.SmallR x.ro) (hc : Cv w w.heap.size v c) (hs : Sm c) (hm : x.ro.attrs.length ≤ 1000000) :
    Calls Tryz.prog 103 #[rowV x, v, .bool s] w fun r w' => ∃ v', r = .returned v' ∧ Aw w.heap.size w' v' (attrsF c s x.ro) ∧ Below w.heap.size w w' := by
  obtain ⟨vE, vR, vA, vP, pl, rfl, hc⟩ := hc
  obtain ⟨⟨dep, kd, nm, dt, ats⟩, A, cc⟩ := x
  obtain ⟨hz1, _, hz3⟩ := hz
  have hxc := hx.1; have hxm := hx.2.2.1
  unfold maxLen at hxm
  simp only at hxc hxm hm hz1 hz3
  obtain ⟨w0, hw0⟩ : ∃ w0, (w.alloc (rowO ⟨⟨dep, kd, nm, dt, ats⟩, A, cc⟩)).alloc (confO c vE vR vA vP) = w0 := ⟨_, rfl⟩
  have hb0 : Below w.heap.size w w0 := hw0 ▸ below_two w _ _
  have hbb : Bb w0 w.heap.size ⟨⟨dep, kd, nm, dt, ats⟩, A, cc⟩ c vE vR vA vP := hw0 ▸ Bb.new w _ c vE vR vA vP
  have HBX := Lib.hid (fun wr (hb : Below w0.heap.size w0 wr) => show wr.cell? ⟨w.heap.size, 2, none⟩ = some (.string nm) ∧ wr.cell? ⟨w.heap.size, 4, none⟩ = some (.slice A ats.length cc) ∧ wr.rangeAt (w.heap.size + 1) 0 _ from ⟨(hbb.on hb).row 2, (hbb.on hb).row 4, (hbb.on hb).cf⟩)
  have HCV := Lib.hid (fun wr (hb : Below w0.heap.size w0 wr) => show Cv wr wr.heap.size (confV c vE vR vA vP) c from ⟨_, _, _, _, _, rfl, (hc.on hb0).on hb⟩)
  have HRA := Lib.hid (fun wr (hb : Below w0.heap.size w0 wr) => show Ra wr w.heap.size A ats from (hx.2.2.2.1.below hb0).below hb hb0.size)
  have HW := Lib.hid hw0; have HB0 := Lib.hid hb0; have HSM := Lib.hid hs; have HSH := Lib.hid hx.2.2.2.2; have HZ := Lib.hid hz3
  have hsz0 := hb0.size
  have hlt0 := hbb.lt
  clear hc hx hw0 hb0 hbb hs hz3
  go_enter Tryz.func103, Tryz.ntmps103
  go_upto_region 1 with (fail)
  rw [HW.out]
  clear HW
  obtain ⟨g2, g4, g5⟩ := HBX.out w0 (Below.refl _ _)
  go_wp2
  clear g2 g4 g5
  go_loopw [7, 13] (fun u' i wr => ∃ (k : Nat) (u : Value), i = .int .i64 k ∧ u = u' ∧ k ≤ ats.length ∧ Aw w0.heap.size wr u (attrsL c s nm (ats.take k)) ∧ Below w0.heap.size w0 wr) (fun _ i _ => ats.length - (intOf i).toNat)
  case atStart => exact ⟨0, _, rfl, rfl, by omega, Aw.nil _ _, Below.refl _ _⟩
  case round =>
    obtain ⟨k, u, rfl, rfl, hk, ho, hbel⟩ := hrel
    have hsz := hbel.size
    by_cases hp : k < ats.length
    · obtain ⟨b, off, y, rfl, hb, hd, hy, hym⟩ := (HRA.out wr hbel).at_ k hp
      obtain ⟨f1, f2⟩ := range2 hy
      obtain ⟨hy1, hy2⟩ := HZ.out y hym
      have hy3 := HSH.out y hym
      obtain ⟨w1, hw1⟩ : ∃ w1, wr.alloc (.cells #[.string y.name, .string y.value] 51) = w1 := ⟨_, rfl⟩
      have hb1 : Below wr.heap.size wr w1 := hw1 ▸ below_new wr _
      have hbx1 : Below w0.heap.size w0 w1 := hbel.trans (hb1.mono hsz)
      have HAB := Lib.hid (fun wx (hb : Below w1.heap.size w1 wx) => show wx.cell? ⟨wr.heap.size, 0, none⟩ = some (.string y.name) ∧ wx.cell? ⟨wr.heap.size, 1, none⟩ = some (.string y.value) from by
        have h0 : wr.heap.size < w1.heap.size := by rw [← hw1]; simp
        have e : ∀ j, w1.cell? ⟨wr.heap.size, j, none⟩ = (acells y)[j]? := fun j => by rw [← hw1, World.cell?_alloc_mark]; simp [acells]
        exact ⟨(hb.cell (p := ⟨_, 0, none⟩) h0).trans (e 0), (hb.cell (p := ⟨_, 1, none⟩) h0).trans (e 1)⟩)
      have how1 : Aw w0.heap.size w1 u (attrsL c s nm (ats.take k)) := hw1 ▸ ho.alloc _
      have hle := attrs_le c s nm ats k
      have HO := Lib.hid how1; have HD := Lib.hid hd; have HB1 := Lib.hid hbx1; have HBL := Lib.hid hbel; have HS3 := Lib.hid hy3; have HE1 := Lib.hid hw1
      have HBN := Lib.hid hb1
      clear ho hd hbx1 hbel hy hy3 hym how1 hb1 hw1
      obtain ⟨q1, hq1⟩ : ∃ q, attrB12 c nm y.name = q := ⟨_, rfl⟩
      obtain ⟨q2, hq2⟩ : ∃ q, Rk.attrB nm y = q := ⟨_, rfl⟩
      have HQ1 := Lib.hid hq1; have HQ2 := Lib.hid hq2
      have HKB : Hid (keepB c s nm y = (q1 && !(s && q2))) := Lib.hid (by unfold keepB; rw [hq1, hq2])
      clear hq1 hq2
      go_upto_region 5 with (fail)
      rw [HE1.out]
      obtain ⟨g2, g4, g5⟩ := HBX.out w1 HB1.out
      obtain ⟨e0, e1⟩ := HAB.out w1 (Below.refl _ _)
      cases q1 with
      | false =>
        have hkb : keepB c s nm y = false := HKB.out
        go_wp2_with (first | (show wpList _ _ _ (⟨_, Op.load 26 (.tmp 4), _, _, _, _⟩ :: _) _ _; refine wpList_load_mid rfl 26 (.tmp 4) rfl (w.heap.size + 1) 0 rfl _ _ g5 Tryz.underlying26 rfl Co.size_conf ?_) | (go_at_call 154; refine (Co.attr1 _ c nm y.name _ _ (HCV.out _ HB1.out) HSM.out hy1 HQ1.out).mono ?_; rintro r w3 ⟨rfl, hb3⟩; have hbx3 := HB1.out.trans (hb3.mono HB1.out.size); have HB3 := Lib.hid hb3; have HX3 := Lib.hid hbx3; clear g2 g4 g5 e0 e1 hb3 hbx3; obtain ⟨g2, g4, g5⟩ := HBX.out w3 HX3.out; obtain ⟨e0, e1⟩ := HAB.out w3 HB3.out) | fail)
        go_roundw
        case rel => exact ⟨k + 1, _, by go_num, rfl, by omega, by rw [keep_no HD.out hkb]; exact aw_on HO.out HB3.out, HX3.out⟩
        case measure => simp [intOf]; omega
      | true =>
        cases s with
        | false =>
          have hkb : keepB c false nm y = true := HKB.out
          have HOW := Lib.hid (fun wx (hb : Below w1.heap.size w1 wx) => aw_on HO.out hb)
          go_upto_region 6 with (first | (show wpList _ _ _ (⟨_, Op.load 26 (.tmp 4), _, _, _, _⟩ :: _) _ _; refine wpList_load_mid rfl 26 (.tmp 4) rfl (w.heap.size + 1) 0 rfl _ _ g5 Tryz.underlying26 rfl Co.size_conf ?_) | (go_at_call 154; refine (Co.attr1 _ c nm y.name _ _ (HCV.out _ HB1.out) HSM.out hy1 HQ1.out).mono ?_; rintro r w3 ⟨rfl, hb3⟩; have hbx3 := HB1.out.trans (hb3.mono HB1.out.size); have HB3 := Lib.hid hb3; have HX3 := Lib.hid hbx3; clear g2 g4 g5 e0 e1 hb3 hbx3; obtain ⟨g2, g4, g5⟩ := HBX.out w3 HX3.out; obtain ⟨e0, e1⟩ := HAB.out w3 HB3.out) | fail)
          have how := HOW.out _ HB3.out
          clear HOW; have HOW := Lib.hid how
          clear how
          go_wp2_with (first | (at_builtin; refine app_attr _ rfl (.tmp 33) (.tmp 35) rfl w0.heap.size u _ y rfl HOW.out HS3.out _ rfl rfl (by omega) (by have := HX3.out.size; omega) ?_; intro v6 w6 ho6 hg6) | fail)
          go_roundw
          case rel =>
            refine ⟨k + 1, _, by go_num, rfl, by omega, by rw [keep_yes HD.out hkb]; exact ho6, ?_⟩
            exact HX3.out.grown hg6 HX3.out.size fun q hq => (World.ownsRow.lt HOW.out.1 q hq).1
          case measure => simp [intOf]; omega
        | true =>
          cases q2 with
          | true =>
            have hkb : keepB c true nm y = false := HKB.out
            go_wp2_with (first | (show wpList _ _ _ (⟨_, Op.load 26 (.tmp 4), _, _, _, _⟩ :: _) _ _; refine wpList_load_mid rfl 26 (.tmp 4) rfl (w.heap.size + 1) 0 rfl _ _ g5 Tryz.underlying26 rfl Co.size_conf ?_) | (go_at_call 154; refine (Co.attr1 _ c nm y.name _ _ (HCV.out _ HB1.out) HSM.out hy1 HQ1.out).mono ?_; rintro r w3 ⟨rfl, hb3⟩; have hbx3 := HB1.out.trans (hb3.mono HB1.out.size); have HB3 := Lib.hid hb3; have HX3 := Lib.hid hbx3; clear g2 g4 g5 e0 e1 hb3 hbx3; obtain ⟨g2, g4, g5⟩ := HBX.out w3 HX3.out; obtain ⟨e0, e1⟩ := HAB.out w3 HB3.out) | (go_at_call 84; refine (Rk.attr1 nm y hz1 hy1 hy2 _ _ HQ2.out).mono ?_; rintro r w4 ⟨rfl, hb4⟩; have hb34 := HB3.out.trans (hb4.mono HB3.out.size); have hbx4 := HX3.out.trans (hb4.mono HX3.out.size); have HB4 := Lib.hid hb34; have HX4 := Lib.hid hbx4; clear g2 g4 g5 e0 e1 hb4 hbx4 hb34; obtain ⟨g2, g4, g5⟩ := HBX.out w4 HX4.out; obtain ⟨e0, e1⟩ := HAB.out w4 HB4.out) | fail)
            go_roundw
            case rel => exact ⟨k + 1, _, by go_num, rfl, by omega, by rw [keep_no HD.out hkb]; exact aw_on HO.out HB4.out, HX4.out⟩
            case measure => simp [intOf]; omega
          | false =>
            have hkb : keepB c true nm y = true := HKB.out
            have HOW := Lib.hid (fun wx (hb : Below w1.heap.size w1 wx) => aw_on HO.out hb)
            go_upto_region 6 with (first | (show wpList _ _ _ (⟨_, Op.load 26 (.tmp 4), _, _, _, _⟩ :: _) _ _; refine wpList_load_mid rfl 26 (.tmp 4) rfl (w.heap.size + 1) 0 rfl _ _ g5 Tryz.underlying26 rfl Co.size_conf ?_) | (go_at_call 154; refine (Co.attr1 _ c nm y.name _ _ (HCV.out _ HB1.out) HSM.out hy1 HQ1.out).mono ?_; rintro r w3 ⟨rfl, hb3⟩; have hbx3 := HB1.out.trans (hb3.mono HB1.out.size); have HB3 := Lib.hid hb3; have HX3 := Lib.hid hbx3; clear g2 g4 g5 e0 e1 hb3 hbx3; obtain ⟨g2, g4, g5⟩ := HBX.out w3 HX3.out; obtain ⟨e0, e1⟩ := HAB.out w3 HB3.out) | (go_at_call 84; refine (Rk.attr1 nm y hz1 hy1 hy2 _ _ HQ2.out).mono ?_; rintro r w4 ⟨rfl, hb4⟩; have hb34 := HB3.out.trans (hb4.mono HB3.out.size); have hbx4 := HX3.out.trans (hb4.mono HX3.out.size); have HB4 := Lib.hid hb34; have HX4 := Lib.hid hbx4; clear g2 g4 g5 e0 e1 hb4 hbx4 hb34; obtain ⟨g2, g4, g5⟩ := HBX.out w4 HX4.out; obtain ⟨e0, e1⟩ := HAB.out w4 HB4.out) | fail)
            have how := HOW.out _ HB4.out
            clear HOW; have HOW := Lib.hid how
            clear how
            go_wp2_with (first | (at_builtin; refine app_attr _ rfl (.tmp 33) (.tmp 35) rfl w0.heap.size u _ y rfl HOW.out HS3.out _ rfl rfl (by omega) (by have := HX4.out.size; omega) ?_; intro v6 w6 ho6 hg6) | fail)
            go_roundw
            case rel =>
              refine ⟨k + 1, _, by go_num, rfl, by omega, by rw [keep_yes HD.out hkb]; exact ho6, ?_⟩
              exact HX4.out.grown hg6 HX4.out.size fun q hq => (World.ownsRow.lt HOW.out.1 q hq).1
            case measure => simp [intOf]; omega
    · have e : ats.take k = ats := List.take_of_length_le (by omega)
      rw [e] at ho
      have HO := Lib.hid ho; have HBL := Lib.hid hbel
      clear ho hbel
      go_wp2
      go_ret
      exact ⟨_, rfl, ⟨World.ownsRow.mono HO.out.1 hsz0, HO.out.2⟩, HB0.out.trans (HBL.out.mono hsz0)⟩

end Go.Proofs.YtgjlfcamgkeibaaGreatDoor.Cn

namespace Go.Proofs.YtgjlfcamgkeibaaGreatDoor.Cn
set_option maxRecDepth 100000
set_option linter.unusedVariables false
set_option linter.unusedSimpArgs false
open Go.RowKit Ba Ro
open Co (Cf Cv Sm confV confO attrB12 elementN bel_eq12)
open Rk (neverB)
set_option maxRecDepth 100000 in
set_option maxHeartbeats 2000000 in
theorem fate_any (x : Cw) (v : Value) (c : Cf) (s : Bool) (w : World) (q : Nat) (hc : Cv w w.heap.size v c) (hs : Sm c) (hq : fateN c s x.ro = q) :
    Calls Tryz.prog 102 #[rowV x, v, .bool s] w fun r w' => r = .returned (.int .i64 q) ∧ Below w.heap.size w w' := by
  obtain ⟨vE, vR, vA, vP, pl, rfl, hc⟩ := hc
  obtain ⟨⟨dep, kd, nm, dt, ats⟩, A, cc⟩ := x
  obtain ⟨al, aa, els, reps, cats, per, cm, da⟩ := c
  obtain ⟨w0, hw0⟩ : ∃ w0, (w.alloc (rowO ⟨⟨dep, kd, nm, dt, ats⟩, A, cc⟩)).alloc (confO ⟨al, aa, els, reps, cats, per, cm, da⟩ vE vR vA vP) = w0 := ⟨_, rfl⟩
  have hb0 : Below w.heap.size w w0 := hw0 ▸ below_two w _ _
  have hbb : Bb w0 w.heap.size ⟨⟨dep, kd, nm, dt, ats⟩, A, cc⟩ ⟨al, aa, els, reps, cats, per, cm, da⟩ vE vR vA vP := hw0 ▸ Bb.new w _ _ vE vR vA vP
  have HEL := Lib.hid (fun q (hq : elementN ⟨al, aa, els, reps, cats, per, cm, da⟩ nm = q) => Co.element1 (confV ⟨al, aa, els, reps, cats, per, cm, da⟩ vE vR vA vP) _ nm w0 q ⟨_, _, _, _, _, rfl, hc.on hb0⟩ hs hq)
  have HCF := Lib.hid hbb.cf
  have HW := Lib.hid hw0; have HB0 := Lib.hid hb0
  have g1 := hbb.row 1; have g2 := hbb.row 2
  simp only [cells, List.getElem?_cons_zero, List.getElem?_cons_succ] at g1 g2
  have c6 : w0.cell? ⟨w.heap.size + 1, 6, none⟩ = some (.bool cm) := hbb.cf 6 _ rfl
  clear hc hs hw0 hb0 hbb
  unfold fateN at hq
  simp only at hq
  go_enter Tryz.func102, Tryz.ntmps102
  go_upto_region 1 with (fail)
  rw [HW.out]
  clear HW
  by_cases h1 : kd = 1
  · rw [if_pos h1] at hq
    subst hq
    have k1 : (kd == 1) = true := by simpa using h1
    go_wp2
    go_ret
    exact ⟨rfl, HB0.out⟩
  rw [if_neg h1] at hq
  have k1 : (kd == 1) = false := by simpa using h1
  by_cases h2 : kd = 2
  · rw [if_pos h2] at hq
    have k2 : (kd == 2) = true := by simpa using h2
    cases cm with
    | true =>
      rw [if_pos rfl] at hq
      subst hq
      go_wp2
      go_ret
      exact ⟨rfl, HB0.out⟩
    | false =>
      rw [if_neg (by decide)] at hq
      subst hq
      go_wp2
      go_ret
      exact ⟨rfl, HB0.out⟩
  rw [if_neg h2] at hq
  have k2 : (kd == 2) = false := by simpa using h2
  obtain ⟨nv, hnv⟩ : ∃ b, neverB nm = b := ⟨_, rfl⟩
  rw [hnv] at hq
  have HNV := Lib.hid hnv
  clear hnv
  cases s with
  | false =>
    have HQ := Lib.hid (show elementN _ nm = q from hq)
    clear hq
    go_wp2_with (first
      | (show wpList _ _ _ (⟨_, Op.load 26 (.tmp 4), _, _, _, _⟩ :: _) _ _; refine wpList_load_mid rfl 26 (.tmp 4) rfl (w.heap.size + 1) 0 rfl _ _ HCF.out Tryz.underlying26 rfl Co.size_conf ?_)
      | (go_at_call 153; refine (HEL.out q HQ.out).mono ?_; rintro r w3 ⟨rfl, hb3⟩)
      | fail)
    go_ret
    exact ⟨rfl, HB0.out.trans (hb3.mono HB0.out.size)⟩
  | true =>
    cases nv with
    | true =>
      have hq : 1 = q := hq
      subst hq
      go_wp2_with (first
        | (go_at_call 83; refine (Rk.element1 nm _ true HNV.out).mono ?_; rintro r w3 ⟨rfl, rfl⟩)
        | fail)
      go_ret
      exact ⟨rfl, HB0.out⟩
    | false =>
      have HQ := Lib.hid (show elementN _ nm = q from hq)
      clear hq
      go_wp2_with (first
        | (show wpList _ _ _ (⟨_, Op.load 26 (.tmp 4), _, _, _, _⟩ :: _) _ _; refine wpList_load_mid rfl 26 (.tmp 4) rfl (w.heap.size + 1) 0 rfl _ _ HCF.out Tryz.underlying26 rfl Co.size_conf ?_)
        | (go_at_call 83; refine (Rk.element1 nm _ false HNV.out).mono ?_; rintro r w3 ⟨rfl, rfl⟩)
        | (go_at_call 153; refine (HEL.out q HQ.out).mono ?_; rintro r w3 ⟨rfl, hb3⟩)
        | fail)
      go_ret
      exact ⟨rfl, HB0.out.trans (hb3.mono HB0.out.size)⟩

end Go.Proofs.YtgjlfcamgkeibaaGreatDoor.Cn

namespace Go.Proofs.YtgjlfcamgkeibaaGreatDoor.Cn
set_option linter.unusedVariables false
set_option linter.unusedSimpArgs false
open Go.RowKit Ba Ro
def Od (N : Nat) (w : World) (v : Value) (l : List Cw) : Prop := w.ownsRow N 47 5 v l.length (l.flatMap cells) ∧ ∀ x ∈ l, Fr N w x
theorem Od.ow {N : Nat} {w : World} {v : Value} {l : List Cw} (h : Od N w v l) : Ow N w v l := ⟨h.1, fun x hx => ⟨(h.2 x hx).att, (h.2 x hx).ap⟩⟩
theorem Od.nil (N : Nat) (w : World) : Od N w (.slice none 0 0) [] := ⟨World.ownsRow_nil w N _ 5, fun _ h => by simp at h⟩
theorem Od.made (w : World) : Od w.heap.size (w.alloc (.cells #[] 47)) (.slice (some ⟨w.heap.size, 0, none⟩) 0 0) [] :=
  ⟨World.ownsRow_made w #[] 0 (Nat.le_refl _) (Nat.zero_le _) rfl, fun _ h => by simp at h⟩
theorem Od.grown {N b : Nat} {w w' : World} {v : Value} {l : List Cw} (h : Od N w v l) (hg : w.grownBy w' (some b)) (hb : b < N) : Od N w' v l :=
  ⟨Co.row_elder h.1 hg (fun q hq => by injection hq with hq; omega), fun x hx => ⟨Co.row_elder (h.2 x hx).1 hg (fun q hq => by injection hq with hq; omega), (h.2 x hx).2⟩⟩
theorem Od.below {N : Nat} {w w' : World} {v : Value} {l : List Cw} (h : Od N w v l) (hb : Below w.heap.size w w') : Od N w' v l := ⟨(h.ow.below hb).1, fun x hx => (h.2 x hx).below hb⟩
theorem Od.mono {N M : Nat} {w : World} {v : Value} {l : List Cw} (h : Od N w v l) (hN : M ≤ N) : Od M w v l := ⟨World.ownsRow.mono h.1 hN, fun x hx => ⟨World.ownsRow.mono (h.2 x hx).1 hN, (h.2 x hx).2⟩⟩
theorem below_grown {w w1 : World} (b : Nat) (hb : Below w.heap.size w w1) : w.grownBy w1 (some b) := ⟨hb.os, hb.tape, hb.output, hb.size, fun k hk _ => hb.block k hk⟩

theorem rr_on {w w' : World} {A : Option Addr} {l : List Cw} (h : Rr w w.heap.size A l) (hb : Below w.heap.size w w') : Rr w' w'.heap.size A l := (h.below hb).more hb.size
def Hv (t : TypeId) (w : World) (g : Nat) (cs : Array Value) : Prop := w.heap[g]? = some (.cells cs t)
theorem Hv.new (t : TypeId) (w : World) (cs : Array Value) : Hv t (w.alloc (.cells cs t)) w.heap.size cs := heap_alloc_new w _
theorem Hv.keep {t : TypeId} {w w' : World} {g : Nat} {cs : Array Value} (h : Hv t w g cs) (hb : w'.heap[g]? = w.heap[g]?) : Hv t w' g cs := hb.trans h
theorem Hv.lt {t : TypeId} {w : World} {g : Nat} {cs : Array Value} (h : Hv t w g cs) : g < w.heap.size := (Array.getElem?_eq_some_iff.1 h).1
theorem Hv.on {t : TypeId} {w w' : World} {g : Nat} {cs : Array Value} (h : Hv t w g cs) (hb : Below w.heap.size w w') : Hv t w' g cs := h.keep (hb.block g h.lt)
theorem Hv.set {t : TypeId} {w : World} {g : Nat} {cs : Array Value} (h : Hv t w g cs) (j : Nat) (u : Value) : Hv t (w.setCell ⟨g, j, none⟩ u) g (cs.setIfInBounds j u) := by
  unfold Hv at h ⊢
  simp [World.setCell, Array.getElem?_modify, h]
theorem Hv.other {t : TypeId} {w : World} {g b : Nat} {cs : Array Value} (h : Hv t w g cs) (j : Nat) (u : Value) (hne : g ≠ b) : Hv t (w.setCell ⟨b, j, none⟩ u) g cs := h.keep (Below.heap_setCell _ _ _ _ hne)
theorem Hv.cell {t : TypeId} {w : World} {g : Nat} {cs : Array Value} (h : Hv t w g cs) (j : Nat) (u : Value) (hu : cs[j]? = some u) : w.cell? ⟨g, j, none⟩ = some u := by
  rw [cell_of_row w g j _ _ _ h]
  exact hu
theorem Hv.f {t : TypeId} {w : World} {g : Nat} {cs : Array Value} (h : Hv t w g cs) (j : Nat) : w.frozen? ⟨g, j, none⟩ = false := by
  unfold Hv at h
  simp [World.frozen?, h]
theorem Hv.range {t : TypeId} {w : World} {g : Nat} {cs : Array Value} (h : Hv t w g cs) : w.rangeAt g 0 cs.toList := fun j u hu => by
  rw [Nat.zero_add]
  exact h.cell j u (by rwa [Array.getElem?_toList] at hu)
def Db (w : World) (b : Nat) (D : Int → Int) : Prop := ∃ cs, Hv 100 w b cs ∧ ∀ j : Nat, j < 61 → cs[j]? = some (.int .i64 (D j))
theorem Db.keep {w w' : World} {b : Nat} {D : Int → Int} (h : Db w b D) (hb : w'.heap[b]? = w.heap[b]?) : Db w' b D := by
  obtain ⟨cs, h, hc⟩ := h
  exact ⟨cs, h.keep hb, hc⟩
theorem Db.lt {w : World} {b : Nat} {D : Int → Int} (h : Db w b D) : b < w.heap.size := by
  obtain ⟨cs, h, _⟩ := h
  exact h.lt
theorem Db.on {w w' : World} {b : Nat} {D : Int → Int} (h : Db w b D) (hb : Below w.heap.size w w') : Db w' b D := h.keep (hb.block b h.lt)
theorem Db.cell {w : World} {b : Nat} {D : Int → Int} (h : Db w b D) (j : Nat) (hj : j < 61) : w.cell? ⟨b, j, none⟩ = some (.int .i64 (D j)) := by
  obtain ⟨cs, h, hc⟩ := h
  exact h.cell j _ (hc j hj)
theorem Db.f {w : World} {b : Nat} {D : Int → Int} (h : Db w b D) (j : Nat) : w.frozen? ⟨b, j, none⟩ = false := by
  obtain ⟨cs, h, hc⟩ := h
  exact h.f j
theorem Db.set {w : World} {b : Nat} {D : Int → Int} (h : Db w b D) (j : Nat) (v : Int) : Db (w.setCell ⟨b, j, none⟩ (.int .i64 v)) b (put_ D j v) := by
  obtain ⟨cs, h, hc⟩ := h
  refine ⟨_, h.set j (.int .i64 v), fun i hi => ?_⟩
  have hs : 61 ≤ cs.size := by
    have := (Array.getElem?_eq_some_iff.1 (hc 60 (by omega))).1
    omega
  rw [Array.getElem?_setIfInBounds]
  unfold put_
  by_cases e : j = i
  · subst e
    rw [if_pos rfl, if_pos (by omega), if_pos rfl]
  · rw [if_neg e, if_neg (by omega)]
    exact hc i hi

end Go.Proofs.YtgjlfcamgkeibaaGreatDoor.Cn

namespace Go.Proofs.YtgjlfcamgkeibaaGreatDoor.Se
set_option linter.unusedVariables false
set_option linter.unusedSimpArgs false
open Go.RowKit Ba Ro
open Cn (Hv)
def noS (v : Value) : Prop := ∀ s, v ≠ .string s
theorem ra_set {w : World} {t : TypeId} {b N : Nat} {v0 : Value} {A : Option Addr} {l : List At} (h : Ra w N A l) (hb : Hv t w b #[v0]) (hn : noS v0) (u : Value) : Ra (w.setCell ⟨b, 0, none⟩ u) N A l := fun h0 => by
  obtain ⟨b', off, e, hb', hc⟩ := h h0
  have hne : b' ≠ b := by
    rintro rfl
    have := hc 0 h0 0 (.string l[0].name) rfl
    rw [cell_of_row w b' _ _ _ _ hb] at this
    match hk : (off + 0 * 2 + 0) with
    | 0 => rw [hk] at this; simp at this; exact hn _ this
    | k + 1 => rw [hk] at this; simp at this
  exact ⟨b', off, e, hb', fun j hj => range_keep (hc j hj) fun o => World.cell?_of_block (a := ⟨b', o, none⟩) (Below.heap_setCell _ _ _ _ hne)⟩
theorem rv_set {w : World} {t : TypeId} {b : Nat} {v0 : Value} {v : Value} {l : List Cw} (h : Rv w v l) (hb : Hv t w b #[v0]) (hn : noS v0) (u : Value) : Rv (w.setCell ⟨b, 0, none⟩ u) v l := by
  obtain ⟨A, c, e, h1, h2, h3, h4⟩ := h
  have hsz : (w.setCell ⟨b, 0, none⟩ u).heap.size = w.heap.size := by simp [World.setCell]
  refine ⟨A, c, e, h1, h2, ?_, h4⟩
  rw [hsz]
  refine ⟨fun h0 => ?_, fun x hx => ?_⟩
  · obtain ⟨b', off, eA, hb', hc⟩ := h3.1 h0
    have hne : b' ≠ b := by
      rintro rfl
      have := hc 0 h0 2 (.string l[0].ro.name) rfl
      rw [cell_of_row w b' _ _ _ _ hb] at this
      simp at this
    exact ⟨b', off, eA, hb', fun j hj => range_keep (hc j hj) fun o => World.cell?_of_block (a := ⟨b', o, none⟩) (Below.heap_setCell _ _ _ _ hne)⟩
  · obtain ⟨a1, a2, a3, a4, a5⟩ := h3.2 x hx
    exact ⟨a1, a2, a3, ra_set a4 hb hn u, a5⟩
structure Bxs (w : World) (a : Nat) (vl vf vk : Value) (f n : Int) : Prop where
  l : Hv 22 w a #[vl]
  g : Hv 59 w (a + 1) #[vf]
  k : Hv 22 w (a + 2) #[vk]
  f : Hv 29 w (a + 3) #[.int .i64 f]
  n : Hv 3 w (a + 4) #[.int .i64 n]
variable {w w' : World} {a : Nat} {vl vf vk : Value} {f n : Int}
theorem Bxs.on (h : Bxs w a vl vf vk f n) (hb : Below w.heap.size w w') : Bxs w' a vl vf vk f n := ⟨h.l.on hb, h.g.on hb, h.k.on hb, h.f.on hb, h.n.on hb⟩
theorem Bxs.setL (h : Bxs w a vl vf vk f n) (u : Value) : Bxs (w.setCell ⟨a, 0, none⟩ u) a u vf vk f n := ⟨h.l.set 0 u, h.g.other 0 u (by omega), h.k.other 0 u (by omega), h.f.other 0 u (by omega), h.n.other 0 u (by omega)⟩
theorem Bxs.setK (h : Bxs w a vl vf vk f n) (u : Value) : Bxs (w.setCell ⟨a + 2, 0, none⟩ u) a vl vf u f n := ⟨h.l.other 0 u (by omega), h.g.other 0 u (by omega), h.k.set 0 u, h.f.other 0 u (by omega), h.n.other 0 u (by omega)⟩
theorem Bxs.setF (h : Bxs w a vl vf vk f n) (u : Int) : Bxs (w.setCell ⟨a + 3, 0, none⟩ (.int .i64 u)) a vl vf vk u n := ⟨h.l.other 0 _ (by omega), h.g.other 0 _ (by omega), h.k.other 0 _ (by omega), h.f.set 0 _, h.n.other 0 _ (by omega)⟩
theorem Bxs.setN (h : Bxs w a vl vf vk f n) (u : Int) : Bxs (w.setCell ⟨a + 4, 0, none⟩ (.int .i64 u)) a vl vf vk f u := ⟨h.l.other 0 _ (by omega), h.g.other 0 _ (by omega), h.k.other 0 _ (by omega), h.f.other 0 _ (by omega), h.n.set 0 _⟩
theorem Bxs.lt (h : Bxs w a vl vf vk f n) : a + 4 < w.heap.size := h.n.lt
theorem below_set {w0 w : World} {M b : Nat} (h : Below M w0 w) (hb : M ≤ b) (u : Value) : Below M w0 (w.setCell ⟨b, 0, none⟩ u) := h.setCell hb u
theorem noS_slice (A : Option Addr) (n c : Nat) : noS (.slice A n c) := fun s h => by cases h
theorem noS_int (n : Int) : noS (.int .i64 n) := fun s h => by cases h
theorem noS_rv {v : Value} {l : List Cw} (h : Rv w v l) : noS v := by
  obtain ⟨A, c, rfl, _⟩ := h
  exact noS_slice _ _ _

end Go.Proofs.YtgjlfcamgkeibaaGreatDoor.Se

namespace Go.Proofs.YtgjlfcamgkeibaaGreatDoor.Cn
set_option maxRecDepth 100000
set_option linter.unusedVariables false
set_option linter.unusedSimpArgs false
open Go.RowKit Ba Ro
open Co (Cf Cv Sm confV confO attrB12 elementN bel_eq12)
open To (Aw app_attr)
theorem below_of_grown {w w' : World} {b : Nat} (h : w.grownBy w' (some b)) (hs : b ≤ w.heap.size) : Below b w w' := ⟨h.os, h.tape, h.output, h.size, fun k hk => h.block k (by omega) (fun e => by injection e with e; omega)⟩
theorem db_zero (w : World) (cs : Array Value) (h : cs = Array.replicate 61 (.int .i64 0)) : Db (w.alloc (.cells cs 100)) w.heap.size (fun _ => 0) :=
  ⟨cs, Hv.new _ _ _, fun j hj => by rw [h, Array.getElem?_replicate, if_pos hj]⟩
theorem step_gone {g : Ro → Nat} {f : Ro → List At} {l : List Ro} {k : Nat} {x : Ro} {r : List Ro} (h : l.drop k = x :: r) (hr : r = l.drop (k + 1)) (hg : g x = 1) (D : Int → Int) : flt g f D none (l.drop k) = flt g f D none (l.drop (endOf l k)) := by
  have hd : dep l k = x.depth := dep_at (getElem_of_drop h)
  rw [h, flt_cons, if_neg (by rw [under_none]; decide), if_pos hg, flt_skip, hr]
  congr 1
  rw [List.drop_drop]
  congr 1
  unfold endOf below more
  rw [hd, show ((k : Int) + 1).toNat = k + 1 by omega]
theorem step_keep {g : Ro → Nat} {f : Ro → List At} {l : List Ro} {k : Nat} {x : Ro} (h : l.drop k = x :: l.drop (k + 1)) (hg : g x = 0) (D : Int → Int) : flt g f D none (l.drop k) = ⟨D x.depth, x.kind, x.name, x.data, f x⟩ :: flt g f (put_ D (x.depth + 1) (D x.depth + 1)) none (l.drop (k + 1)) := by
  rw [h, flt_cons, if_neg (by rw [under_none]; decide), if_neg (by omega), if_pos hg]
theorem step_open {g : Ro → Nat} {f : Ro → List At} {l : List Ro} {k : Nat} {x : Ro} (h : l.drop k = x :: l.drop (k + 1)) (hg0 : g x ≠ 0) (hg1 : g x ≠ 1) (D : Int → Int) : flt g f D none (l.drop k) = flt g f (put_ D (x.depth + 1) (D x.depth)) none (l.drop (k + 1)) := by
  rw [h, flt_cons, if_neg (by rw [under_none]; decide), if_neg hg1, if_neg hg0]
theorem put_twice (D : Int → Int) (k a b : Int) : put_ (put_ D k a) k b = put_ D k b := by
  funext j
  unfold put_
  split <;> rfl
theorem put_at (D : Int → Int) (k a : Int) : put_ D k a k = a := by unfold put_; rw [if_pos rfl]
theorem put_le {D : Int → Int} {n : Nat} {k a : Int} (h : ∀ j, 0 ≤ D j ∧ D j ≤ n) (h0 : 0 ≤ a) (h1 : a ≤ n + 1) : ∀ j, 0 ≤ put_ D k a j ∧ put_ D k a j ≤ (n + 1 : Nat) := fun j => by
  unfold put_
  split
  · exact ⟨h0, by omega⟩
  · have := h j; omega

set_option maxRecDepth 100000 in
set_option maxHeartbeats 16000000 in
theorem filtered_any (A0 : Option Addr) (c0 : Nat) (l : List Cw) (v : Value) (c : Cf) (s : Bool) (w : World) (hr : Rr w w.heap.size A0 l) (hlc : l.length ≤ c0) (hcm : c0 ≤ maxLen) (hz : Rz.Small (ros l)) (hf : Few (ros l)) (hc : Cv w w.heap.size v c) (hs : Sm c) (hck : check (ros l) = 0) :
    Calls Tryz.prog 67 #[.slice A0 l.length c0, v, .bool s] w fun r w' => ∃ v' l', r = .returned v' ∧ Od w.heap.size w' v' l' ∧ ros l' = keptL c s (ros l) ∧ Below w.heap.size w w' := by
  obtain ⟨vE, vR, vA, vP, pl, rfl, hc⟩ := hc
  obtain ⟨hex, hrt⟩ := check_parts hck
  have hlen : l.length ≤ 4096 := by
    have hn : ¬ exceeds (ros l) 4096 60 = true := by rw [hex]; decide
    rw [exceeds_iff] at hn
    rw [← len_ros]
    omega
  have hdeep : ∀ x ∈ ros l, 0 ≤ x.depth ∧ x.depth < 60 := fun x hx => by
    have hn : ¬ exceeds (ros l) 4096 60 = true := by rw [hex]; decide
    rw [exceeds_iff] at hn
    exact ⟨(fo_right hrt).1 x hx, Int.not_le.1 fun h => hn (.inr ⟨x, hx, h⟩)⟩
  obtain ⟨w1, hw1⟩ : ∃ w1, w.alloc (confO c vE vR vA vP) = w1 := ⟨_, rfl⟩
  have hb1 : Below w.heap.size w w1 := hw1 ▸ below_new w _
  have hbx : Co.Bx w1 w.heap.size c vE vR vA vP := hw1 ▸ Co.Bx.new w c vE vR vA vP
  have hz1 : w1.heap.size = w.heap.size + 1 := by rw [← hw1]; simp
  have HW1 := Lib.hid hw1; have HCK := Lib.hid hck; have HRT := Lib.hid hrt; have HZ := Lib.hid hz; have HF := Lib.hid hf; have HDP := Lib.hid hdeep; have HR := Lib.hid hr; have HSM := Lib.hid hs; have HCP := Lib.hid hc
  have HB1 := Lib.hid hb1; have HX1 := Lib.hid hbx; have HZ1 := Lib.hid hz1
  clear hw1 hck hrt hz hf hex hdeep hr hs hc hb1 hbx
  go_enter Tryz.func67, Tryz.ntmps67
  go_upto_region 1 with (fail)
  rw [HW1.out]
  clear HW1
  go_step3
  go_wp2
  go_step3
  go_wp2
  clear hz1
  go_loopg [7, 9] l.length (fun g u' i wr => ∃ (k : Nat) (u : Value) (acc : List Cw) (D : Int → Int), k + g = l.length ∧ i = .int .i64 k ∧ u = u' ∧ acc.length ≤ k ∧ Od (w.heap.size + 2) wr u acc ∧ Db wr (w.heap.size + 1) D ∧ Hid (∀ j, 0 ≤ D j ∧ D j ≤ k) ∧ Co.Bx wr w.heap.size c vE vR vA vP ∧ Below w.heap.size w wr ∧ w.heap.size + 2 ≤ wr.heap.size ∧ Hid (ros acc ++ flt (fateN c s) (attrsF c s) D none ((ros l).drop k) = keptL c s (ros l)))
  case atStart =>
    refine ⟨0, _, [], fun _ => 0, by omega, rfl, rfl, Nat.le_refl _, Od.nil _ _, by rw [← HZ1.out]; exact db_zero w1 _ rfl, Lib.hid fun j => ⟨Int.le_refl _, Int.le_refl _⟩, HX1.out.below (below_new w1 _) (by have := HZ1.out; omega), HB1.out.trans ((below_new w1 _).mono HB1.out.size), by simp; have := HZ1.out; omega, rfl⟩
  case round =>
    obtain ⟨k, u, acc, D, hkg, rfl, rfl, hal, hod, hdb, hD, hbx, hbel, hN, hros⟩ := hrel
    obtain ⟨G, rfl⟩ : ∃ G, G = gk := ⟨_, rfl⟩
    obtain ⟨w5, rfl⟩ : ∃ w5, w5 = wr := ⟨_, rfl⟩
    by_cases hp : k < l.length
    · have HOD := Lib.hid hod; have HDB := Lib.hid hdb; have HBX := Lib.hid hbx; have HBL := Lib.hid hbel
      clear hod hdb hbx hbel
      go_wp2
      go_loopg [9] (l.length - k) (fun g2 i wi => ∃ k2 : Nat, k2 + g2 = l.length ∧ i = .int .i64 k2 ∧ k2 < l.length ∧ k ≤ k2 ∧ Below w5.heap.size w5 wi ∧ Hid (flt (fateN c s) (attrsF c s) D none ((ros l).drop k2) = flt (fateN c s) (attrsF c s) D none ((ros l).drop k)))
      case atStart => exact ⟨k, by omega, rfl, hp, Nat.le_refl _, Below.refl _ _, rfl⟩
      case round =>
        obtain ⟨k2, hkg2, rfl, hp2, hkk, hbi, hfl⟩ := hrel
        have hbI : Below w.heap.size w wr := HBL.out.trans (hbi.mono HBL.out.size)
        obtain ⟨b, off, x, rfl, hb, hdx, hxr, hxa, hxm⟩ := (HR.out.below hbI).at_ k2 hp2
        have hxR : x.ro ∈ ros l := List.mem_map_of_mem hxm
        have hdr : (ros l).drop k2 = x.ro :: (ros l).drop (k2 + 1) := by rw [ros_drop, hdx, ros_cons, ← ros_drop]
        obtain ⟨hd0, hd1⟩ := HDP.out _ hxR
        have hzx := HZ.out _ hxR
        have hfx := HF.out _ hxR
        obtain ⟨⟨dep, kd, nm, dt, ats⟩, A, cc⟩ := x
        simp only at hd0 hd1 hdr hxR hfx hxr
        obtain ⟨d, rfl⟩ : ∃ d : Nat, dep = d := ⟨dep.toNat, by omega⟩
        have hcc := hxa.1; have hcx := hxa.2.2.1
        unfold maxLen at hcx
        simp only at hcc hcx
        have hd60 : d < 60 := by omega
        have hsi := hbi.size
        have HXR := Lib.hid (fun wx (hb' : Below wr.heap.size wr wx) => show wx.rangeAt b (off + k2 * 5) _ from range_keep hxr fun o => hb'.cell (p := ⟨b, o, none⟩) (show b < wr.heap.size by omega))
        have HXA := Lib.hid (fun wx (hb' : Below w.heap.size w wx) => ((HR.out.2 _ hxm).below hb').more hb'.size)
        have HCV := Lib.hid (fun wx (hb' : Below wr.heap.size wr wx) => show Cv wx wx.heap.size (confV c vE vR vA vP) c from ⟨_, _, _, _, _, rfl, (HCP.out.on hbI).on hb'⟩)
        have HCB := Lib.hid (fun wx (hb' : Below wr.heap.size wr wx) => show Co.Bx wx w.heap.size c vE vR vA vP from (HBX.out.below hbi (by omega)).below hb' (by omega))
        have HBS := Lib.hid (fun wx (hb' : Below wr.heap.size wr wx) => show (wx.cell? ⟨b, off + k2 * 5, none⟩ = some (.int .i64 (d : Int)) ∧ wx.cell? ⟨b, off + k2 * 5 + 1, none⟩ = some (.int .i64 kd) ∧ wx.cell? ⟨b, off + k2 * 5 + 2, none⟩ = some (.string nm) ∧ wx.cell? ⟨b, off + k2 * 5 + 3, none⟩ = some (.string dt) ∧ wx.cell? ⟨b, off + k2 * 5 + 4, none⟩ = some (.slice A ats.length cc) ∧ wx.cell? ⟨w.heap.size, 0, none⟩ = some (.bool c.allow) ∧ wx.cell? ⟨w.heap.size, 1, none⟩ = some (.bool c.attrsAllow) ∧ wx.cell? ⟨w.heap.size, 2, none⟩ = some (vE) ∧ wx.cell? ⟨w.heap.size, 3, none⟩ = some (vR) ∧ wx.cell? ⟨w.heap.size, 4, none⟩ = some (vA) ∧ wx.cell? ⟨w.heap.size, 5, none⟩ = some (vP) ∧ wx.cell? ⟨w.heap.size, 6, none⟩ = some (.bool c.comments) ∧ wx.cell? ⟨w.heap.size, 7, none⟩ = some (.bool c.dataAttrs)) from by
          obtain ⟨f0, f1, f2, f3, f4⟩ := range5 (HXR.out wx hb')
          obtain ⟨a0, a1, a2, a3, a4, a5, a6, a7⟩ := (HCB.out wx hb').at_
          exact ⟨f0, f1, f2, f3, f4, a0, a1, a2, a3, a4, a5, a6, a7⟩)
        obtain ⟨q, hq⟩ : ∃ q, fateN c s ⟨(d : Int), kd, nm, dt, ats⟩ = q := ⟨_, rfl⟩
        have HFT := Lib.hid (fun wx (hb' : Below wr.heap.size wr wx) => (fate_any ⟨⟨(d : Int), kd, nm, dt, ats⟩, A, cc⟩ (confV c vE vR vA vP) c s wx q (HCV.out wx hb') HSM.out hq).mono fun r w' ⟨e, h⟩ => (show r = Ending.returned (.int .i64 q) ∧ Below wr.heap.size wr w' from ⟨e, hb'.trans (h.mono hb'.size)⟩))
        have HQ := Lib.hid hq; have HFL := Lib.hid hfl; have HBI := Lib.hid hbi; have HDR := Lib.hid hdr; have HZX := Lib.hid hzx; have HFX := Lib.hid hfx; have HBIW := Lib.hid hbI
        have HXM := Lib.hid hxR
        clear hxr hxa hq hfl hbi hdr hzx hfx hxm hxR hbI hdx
        by_cases hq1 : q = 1
        · have hqb : ((q : Int) == 1) = true := by rw [hq1]; rfl
          go_wp2_with fail
          refine wp_region_noPanic ?_
          refine wp_region_held_drew (S := fun wx => (wx.cell? ⟨b, off + k2 * 5, none⟩ = some (.int .i64 (d : Int)) ∧ wx.cell? ⟨b, off + k2 * 5 + 1, none⟩ = some (.int .i64 kd) ∧ wx.cell? ⟨b, off + k2 * 5 + 2, none⟩ = some (.string nm) ∧ wx.cell? ⟨b, off + k2 * 5 + 3, none⟩ = some (.string dt) ∧ wx.cell? ⟨b, off + k2 * 5 + 4, none⟩ = some (.slice A ats.length cc) ∧ wx.cell? ⟨w.heap.size, 0, none⟩ = some (.bool c.allow) ∧ wx.cell? ⟨w.heap.size, 1, none⟩ = some (.bool c.attrsAllow) ∧ wx.cell? ⟨w.heap.size, 2, none⟩ = some (vE) ∧ wx.cell? ⟨w.heap.size, 3, none⟩ = some (vR) ∧ wx.cell? ⟨w.heap.size, 4, none⟩ = some (vA) ∧ wx.cell? ⟨w.heap.size, 5, none⟩ = some (vP) ∧ wx.cell? ⟨w.heap.size, 6, none⟩ = some (.bool c.comments) ∧ wx.cell? ⟨w.heap.size, 7, none⟩ = some (.bool c.dataAttrs))) (by kernel_rfl) ?_ (fun hHeld => ?_)
          · exact HBS.out _ (bel_eq12 (Below.refl _ wr) rfl rfl rfl rfl)
          refine wpAnyH_take (i := 0) (oi := _) (v := ?_) rfl (by kernel_rfl) (by kernel_rfl) (by kernel_rfl) (fun _ _ _ h => h) (Or.inl ⟨by rfl, ?_⟩) (by assumption) ?_
          rotate_left
          · intro w hSw; (try dsimp only at hSw); go_simp; all_goals with_reducible rfl
          try simp only [Act.put, List.getElem_toArray, List.getElem_cons_zero, List.getElem_cons_succ, List.setIfInBounds_toArray, List.set_cons_zero, List.set_cons_succ]
          refine wpAnyH_take (i := 1) (oi := _) (v := ?_) rfl (by kernel_rfl) (by kernel_rfl) (by kernel_rfl) (fun _ _ _ h => h) (Or.inl ⟨by rfl, ?_⟩) (by assumption) ?_
          rotate_left
          · intro w hSw; (try dsimp only at hSw); go_simp; all_goals with_reducible rfl
          try simp only [Act.put, List.getElem_toArray, List.getElem_cons_zero, List.getElem_cons_succ, List.setIfInBounds_toArray, List.set_cons_zero, List.set_cons_succ]
          refine wpAnyH_take (i := 2) (oi := _) (v := ?_) rfl (by kernel_rfl) (by kernel_rfl) (by kernel_rfl) (fun _ _ _ h => h) (Or.inl ⟨by rfl, ?_⟩) (by assumption) ?_
          rotate_left
          · intro w hSw; (try dsimp only at hSw); go_simp; all_goals with_reducible rfl
          try simp only [Act.put, List.getElem_toArray, List.getElem_cons_zero, List.getElem_cons_succ, List.setIfInBounds_toArray, List.set_cons_zero, List.set_cons_succ]
          refine wpAnyH_take (i := 3) (oi := _) (v := ?_) rfl (by kernel_rfl) (by kernel_rfl) (by kernel_rfl) (fun _ _ _ h => h) (Or.inl ⟨by rfl, ?_⟩) (by assumption) ?_
          rotate_left
          · intro w hSw; (try dsimp only at hSw); go_simp; all_goals with_reducible rfl
          try simp only [Act.put, List.getElem_toArray, List.getElem_cons_zero, List.getElem_cons_succ, List.setIfInBounds_toArray, List.set_cons_zero, List.set_cons_succ]
          refine wpAnyH_take (i := 4) (oi := _) (v := ?_) rfl (by kernel_rfl) (by kernel_rfl) (by kernel_rfl) (fun _ _ _ h => h) (Or.inl ⟨by rfl, ?_⟩) (by assumption) ?_
          rotate_left
          · intro w hSw; (try dsimp only at hSw); go_simp; all_goals with_reducible rfl
          try simp only [Act.put, List.getElem_toArray, List.getElem_cons_zero, List.getElem_cons_succ, List.setIfInBounds_toArray, List.set_cons_zero, List.set_cons_succ]
          refine wpAnyH_take (i := 5) (oi := _) (v := ?_) rfl (by kernel_rfl) (by kernel_rfl) (by kernel_rfl) (fun _ _ _ h => h) (Or.inl ⟨by rfl, ?_⟩) (by assumption) ?_
          rotate_left
          · intro w hSw; (try dsimp only at hSw); go_simp; all_goals with_reducible rfl
          try simp only [Act.put, List.getElem_toArray, List.getElem_cons_zero, List.getElem_cons_succ, List.setIfInBounds_toArray, List.set_cons_zero, List.set_cons_succ]
          refine wpAnyH_ready (rs := [6]) (by kernel_rfl) (by simp) ?_
          refine AllReadyH.cons (o := _) rfl (fun K hK => ?_) AllReadyH.nil
          go_simp
          go_at_call 102
          refine (HFT.out _ (by exact bel_eq12 (Below.refl _ wr) rfl rfl rfl rfl)).mono ?_
          rintro r x1 ⟨rfl, hbx⟩
          have HBX1 := Lib.hid hbx
          clear hbx
          go_wp2_with fail
          refine hK.out _ _ ?_ (fun hHeld => ?_)
          · exact HBS.out _ (bel_eq12 HBX1.out rfl rfl rfl rfl)
          clear hK K
          try simp only [Act.put, List.getElem_toArray, List.getElem_cons_zero, List.getElem_cons_succ, List.setIfInBounds_toArray, List.set_cons_zero, List.set_cons_succ]
          refine wpAnyH_take (i := 7) (oi := _) (v := ?_) rfl (by kernel_rfl) (by kernel_rfl) (by kernel_rfl) (fun _ _ _ h => h) (Or.inl ⟨by rfl, ?_⟩) (by assumption) ?_
          rotate_left
          · intro w hSw; (try dsimp only at hSw); go_simp; all_goals with_reducible rfl
          try simp only [Act.put, List.getElem_toArray, List.getElem_cons_zero, List.getElem_cons_succ, List.setIfInBounds_toArray, List.set_cons_zero, List.set_cons_succ]
          refine wpAnyH_done (by kernel_rfl) ?_ _
          refine NoPanic.normal ?_
          have hbx1 := HBX1.out
          have HXW := Lib.hid (HBIW.out.trans (hbx1.mono HBIW.out.size))
          have HRX := Lib.hid (rr_on HR.out HXW.out)
          clear hbx1
          obtain ⟨E, hE⟩ : ∃ E, endAt (ros l) (k2 : Int) = E := ⟨_, rfl⟩
          have hE1 := Lib.hid hE
          have hEo : endOf (ros l) k2 = E := by rw [← hE, endAt_of (by rw [len_ros]; exact hp2)]
          have hEl := end_le (l := ros l) (k := k2) (by rw [len_ros]; exact hp2)
          rw [hEo, len_ros] at hEl
          have HEO := Lib.hid hEo
          clear hE hEo
          have HST := Lib.hid ((step_gone HDR.out rfl (HQ.out.trans hq1) D).symm.trans HFL.out)
          rw [HEO.out] at HST
          by_cases hel : E = l.length
          · have helb : ((E : Int) == (l.length : Int)) = true := by rw [hel]; simp
            go_wp2_with (first
              | (go_at_call 81; refine (End_any _ c0 l k2 x1 HRX.out hlc (by omega)).mono ?_; rintro r w4 ⟨rfl, rfl⟩; rw [hE1.out])
              | fail)
            (try rw [Exit.noGoto_ret])
            go_ret
            have hod1 := (HOD.out.below HBI.out).below (HBX1.out.mono (Nat.le_refl _))
            refine ⟨_, acc, rfl, hod1.mono (by omega), ?_, HXW.out⟩
            have := hros.out
            rw [← HST.out, hel, List.drop_of_length_le (by rw [len_ros]; exact Nat.le_refl _)] at this
            rw [← this]
            exact (List.append_nil _).symm
          · have helb : ((E : Int) == (l.length : Int)) = false := by simp; omega
            go_wp2_with (first
              | (go_at_call 81; refine (End_any _ c0 l k2 x1 HRX.out hlc (by omega)).mono ?_; rintro r w4 ⟨rfl, rfl⟩; rw [hE1.out])
              | fail)
            go_roundg (l.length - E)
            case measure => omega
            case rel => exact ⟨E, by omega, rfl, by omega, by omega, HBI.out.trans (HBX1.out.mono HBI.out.size), HST.out⟩
        · have hqb : ((q : Int) == 1) = false := by simp; omega
          go_wp2_with fail
          refine wp_region_noPanic ?_
          refine wp_region_held_drew (S := fun wx => (wx.cell? ⟨b, off + k2 * 5, none⟩ = some (.int .i64 (d : Int)) ∧ wx.cell? ⟨b, off + k2 * 5 + 1, none⟩ = some (.int .i64 kd) ∧ wx.cell? ⟨b, off + k2 * 5 + 2, none⟩ = some (.string nm) ∧ wx.cell? ⟨b, off + k2 * 5 + 3, none⟩ = some (.string dt) ∧ wx.cell? ⟨b, off + k2 * 5 + 4, none⟩ = some (.slice A ats.length cc) ∧ wx.cell? ⟨w.heap.size, 0, none⟩ = some (.bool c.allow) ∧ wx.cell? ⟨w.heap.size, 1, none⟩ = some (.bool c.attrsAllow) ∧ wx.cell? ⟨w.heap.size, 2, none⟩ = some (vE) ∧ wx.cell? ⟨w.heap.size, 3, none⟩ = some (vR) ∧ wx.cell? ⟨w.heap.size, 4, none⟩ = some (vA) ∧ wx.cell? ⟨w.heap.size, 5, none⟩ = some (vP) ∧ wx.cell? ⟨w.heap.size, 6, none⟩ = some (.bool c.comments) ∧ wx.cell? ⟨w.heap.size, 7, none⟩ = some (.bool c.dataAttrs))) (by kernel_rfl) ?_ (fun hHeld => ?_)
          · exact HBS.out _ (bel_eq12 (Below.refl _ wr) rfl rfl rfl rfl)
          refine wpAnyH_take (i := 0) (oi := _) (v := ?_) rfl (by kernel_rfl) (by kernel_rfl) (by kernel_rfl) (fun _ _ _ h => h) (Or.inl ⟨by rfl, ?_⟩) (by assumption) ?_
          rotate_left
          · intro w hSw; (try dsimp only at hSw); go_simp; all_goals with_reducible rfl
          try simp only [Act.put, List.getElem_toArray, List.getElem_cons_zero, List.getElem_cons_succ, List.setIfInBounds_toArray, List.set_cons_zero, List.set_cons_succ]
          refine wpAnyH_take (i := 1) (oi := _) (v := ?_) rfl (by kernel_rfl) (by kernel_rfl) (by kernel_rfl) (fun _ _ _ h => h) (Or.inl ⟨by rfl, ?_⟩) (by assumption) ?_
          rotate_left
          · intro w hSw; (try dsimp only at hSw); go_simp; all_goals with_reducible rfl
          try simp only [Act.put, List.getElem_toArray, List.getElem_cons_zero, List.getElem_cons_succ, List.setIfInBounds_toArray, List.set_cons_zero, List.set_cons_succ]
          refine wpAnyH_take (i := 2) (oi := _) (v := ?_) rfl (by kernel_rfl) (by kernel_rfl) (by kernel_rfl) (fun _ _ _ h => h) (Or.inl ⟨by rfl, ?_⟩) (by assumption) ?_
          rotate_left
          · intro w hSw; (try dsimp only at hSw); go_simp; all_goals with_reducible rfl
          try simp only [Act.put, List.getElem_toArray, List.getElem_cons_zero, List.getElem_cons_succ, List.setIfInBounds_toArray, List.set_cons_zero, List.set_cons_succ]
          refine wpAnyH_take (i := 3) (oi := _) (v := ?_) rfl (by kernel_rfl) (by kernel_rfl) (by kernel_rfl) (fun _ _ _ h => h) (Or.inl ⟨by rfl, ?_⟩) (by assumption) ?_
          rotate_left
          · intro w hSw; (try dsimp only at hSw); go_simp; all_goals with_reducible rfl
          try simp only [Act.put, List.getElem_toArray, List.getElem_cons_zero, List.getElem_cons_succ, List.setIfInBounds_toArray, List.set_cons_zero, List.set_cons_succ]
          refine wpAnyH_take (i := 4) (oi := _) (v := ?_) rfl (by kernel_rfl) (by kernel_rfl) (by kernel_rfl) (fun _ _ _ h => h) (Or.inl ⟨by rfl, ?_⟩) (by assumption) ?_
          rotate_left
          · intro w hSw; (try dsimp only at hSw); go_simp; all_goals with_reducible rfl
          try simp only [Act.put, List.getElem_toArray, List.getElem_cons_zero, List.getElem_cons_succ, List.setIfInBounds_toArray, List.set_cons_zero, List.set_cons_succ]
          refine wpAnyH_take (i := 5) (oi := _) (v := ?_) rfl (by kernel_rfl) (by kernel_rfl) (by kernel_rfl) (fun _ _ _ h => h) (Or.inl ⟨by rfl, ?_⟩) (by assumption) ?_
          rotate_left
          · intro w hSw; (try dsimp only at hSw); go_simp; all_goals with_reducible rfl
          try simp only [Act.put, List.getElem_toArray, List.getElem_cons_zero, List.getElem_cons_succ, List.setIfInBounds_toArray, List.set_cons_zero, List.set_cons_succ]
          refine wpAnyH_ready (rs := [6]) (by kernel_rfl) (by simp) ?_
          refine AllReadyH.cons (o := _) rfl (fun K hK => ?_) AllReadyH.nil
          go_simp
          go_at_call 102
          refine (HFT.out _ (by exact bel_eq12 (Below.refl _ wr) rfl rfl rfl rfl)).mono ?_
          rintro r x1 ⟨rfl, hbx⟩
          have HBX1 := Lib.hid hbx
          clear hbx
          go_wp2_with fail
          refine hK.out _ _ ?_ (fun hHeld => ?_)
          · exact HBS.out _ (bel_eq12 HBX1.out rfl rfl rfl rfl)
          clear hK K
          try simp only [Act.put, List.getElem_toArray, List.getElem_cons_zero, List.getElem_cons_succ, List.setIfInBounds_toArray, List.set_cons_zero, List.set_cons_succ]
          refine wpAnyH_take (i := 7) (oi := _) (v := ?_) rfl (by kernel_rfl) (by kernel_rfl) (by kernel_rfl) (fun _ _ _ h => h) (Or.inl ⟨by rfl, ?_⟩) (by assumption) ?_
          rotate_left
          · intro w hSw; (try dsimp only at hSw); go_simp; all_goals with_reducible rfl
          try simp only [Act.put, List.getElem_toArray, List.getElem_cons_zero, List.getElem_cons_succ, List.setIfInBounds_toArray, List.set_cons_zero, List.set_cons_succ]
          refine wpAnyH_done (by kernel_rfl) ?_ _
          refine NoPanic.normal ?_
          have HX1R := Lib.hid (HXR.out x1 HBX1.out)
          have hx1s : w.heap.size + 2 ≤ x1.heap.size := Nat.le_trans hN (Nat.le_trans hsi HBX1.out.size)
          have hdb1 := (HDB.out.on HBI.out).on (HBX1.out)
          go_upto_region 10 with (first | (refine wpList_load_mid rfl 47 (.tmp 35) rfl b (off + k2 * 5) rfl _ _ HX1R.out Tryz.underlying47 rfl size_row ?_) | fail)
          obtain ⟨w6, hw6⟩ : ∃ w6, x1.alloc (rowO ⟨⟨(d : Int), kd, nm, dt, ats⟩, A, cc⟩) = w6 := ⟨_, rfl⟩
          rw [hw6]
          have hv6 : Hv 47 w6 x1.heap.size #[.int .i64 (d : Int), .int .i64 kd, .string nm, .string dt, .slice A ats.length cc] := hw6 ▸ Hv.new _ _ _
          have hb6 : Below x1.heap.size x1 w6 := hw6 ▸ below_new x1 _
          have hdb6 : Db w6 (w.heap.size + 1) D := hdb1.on hb6
          have r0 := hv6.cell 0 _ rfl
          have f0 := hv6.f 0
          have d0 := hdb6.cell d (by omega)
          have HV6 := Lib.hid hv6; have HB6 := Lib.hid hb6; have HDB6 := Lib.hid hdb6
          clear hw6 hdb1 hv6 hb6 hdb6
          go_upto_region 12 with (fail)
          obtain ⟨w7, hw7⟩ : ∃ w7, w6.setCell ⟨x1.heap.size, 0, none⟩ (.int .i64 (D (d : Int))) = w7 := ⟨_, rfl⟩
          rw [hw7]
          have hv7 : Hv 47 w7 x1.heap.size #[.int .i64 (D (d : Int)), .int .i64 kd, .string nm, .string dt, .slice A ats.length cc] := hw7 ▸ HV6.out.set 0 (.int .i64 (D (d : Int)))
          have hb7 : Below x1.heap.size x1 w7 := hw7 ▸ HB6.out.setCell (Nat.le_refl _) _
          have hdb7 : Db w7 (w.heap.size + 1) D := hw7 ▸ HDB6.out.keep (Below.heap_setCell _ _ _ _ (show w.heap.size + 1 ≠ x1.heap.size by omega))
          clear r0 f0 d0 hw7
          have r0 := hv7.cell 0 _ rfl
          have d1 := hdb7.cell (d + 1) (by omega)
          have f1 := hdb7.f (d + 1)
          have HV7 := Lib.hid hv7; have HB7 := Lib.hid hb7; have HDB7 := Lib.hid hdb7
          clear hv7 hb7 hdb7 HV6 HB6 HDB6
          go_upto_region 13 with (fail)
          obtain ⟨w8, hw8⟩ : ∃ w8, w7.setCell ⟨w.heap.size + 1, d + 1, none⟩ (.int .i64 (D (d : Int))) = w8 := ⟨_, rfl⟩
          rw [hw8]
          have hv8 : Hv 47 w8 x1.heap.size #[.int .i64 (D (d : Int)), .int .i64 kd, .string nm, .string dt, .slice A ats.length cc] := hw8 ▸ HV7.out.other (d + 1) _ (show x1.heap.size ≠ w.heap.size + 1 by omega)
          have hdb8 : Db w8 (w.heap.size + 1) (put_ D ((d + 1 : Nat) : Int) (D (d : Int))) := hw8 ▸ HDB7.out.set (d + 1) _
          have hg8 : x1.grownBy w8 (some (w.heap.size + 1)) := hw8 ▸ (below_grown _ HB7.out).trans (Co.gcell12 w7 _ (d + 1) _)
          have hs8 := hg8.size
          have HG8 := Lib.hid hg8
          have hod8 : Od (w.heap.size + 2) w8 u acc := ((HOD.out.below HBI.out).below HBX1.out).grown hg8 (by omega)
          have hbel8 : Below w.heap.size w w8 := (HBIW.out.trans (HBX1.out.mono HBIW.out.size)).grown hg8 (by omega) (fun j hj => by injection hj with hj; omega)
          have hbx8 : Co.Bx w8 w.heap.size c vE vR vA vP := by
            have h1 := HCB.out x1 HBX1.out
            exact range_keep h1 fun o => World.cell?_of_block (a := ⟨w.heap.size, o, none⟩) (hg8.block w.heap.size (by omega) (by simp))
          have HVR8 := Lib.hid (show w8.rangeAt x1.heap.size 0 [.int .i64 (D (d : Int)), .int .i64 kd, .string nm, .string dt, .slice A ats.length cc] from hv8.range)
          have HCV8 := Lib.hid (show Cv w8 w8.heap.size (confV c vE vR vA vP) c from ⟨_, _, _, _, _, rfl, HCP.out.on hbel8⟩)
          have HV8 := Lib.hid hv8; have HDB8 := Lib.hid hdb8; have HOD8 := Lib.hid hod8; have HBL8 := Lib.hid hbel8; have HBX8 := Lib.hid hbx8
          have hs8' : w.heap.size + 2 ≤ w8.heap.size := by omega
          have hgl : x1.heap.size < w8.heap.size := hv8.lt
          clear r0 d1 f1 hw8 hv8 hdb8 hg8 hod8 hbel8 hbx8 HV7 HB7 HDB7
          obtain ⟨hDd0, hDd1⟩ := hD.out (d : Int)
          have hcast : ((d + 1 : Nat) : Int) = (d : Int) + 1 := by omega
          have HFT8 := Lib.hid (fate_any ⟨⟨D (d : Int), kd, nm, dt, ats⟩, A, cc⟩ (confV c vE vR vA vP) c s w8 q HCV8.out HSM.out HQ.out)
          by_cases hq0 : q = 0
          · have hqb0 : ((q : Int) == 0) = true := by rw [hq0]; rfl
            go_upto_region 14 with (first
              | (show wpList _ _ _ (⟨_, Op.load 47 (.tmp 10), _, _, _, _⟩ :: _) _ _; refine wpList_load_mid rfl 47 (.tmp 10) rfl x1.heap.size 0 rfl _ _ HVR8.out Tryz.underlying47 rfl size_row ?_)
              | (show wpList _ _ _ (⟨_, Op.load 26 (.tmp 4), _, _, _, _⟩ :: _) _ _; refine wpList_load_mid rfl 26 (.tmp 4) rfl w.heap.size 0 rfl _ _ HBX8.out Tryz.underlying26 rfl Co.size_conf ?_)
              | (go_at_call 102; refine HFT8.out.mono ?_; rintro r w9 ⟨rfl, hb9⟩; have HB9 := Lib.hid hb9; clear hb9)
              | fail)
            have hbel9 := HBL8.out.trans (HB9.out.mono HBL8.out.size)
            have HBX9 := Lib.hid (HBX8.out.below HB9.out (by omega))
            have HV9 := Lib.hid (HV8.out.on HB9.out)
            have HVR9 := Lib.hid (show w9.rangeAt x1.heap.size 0 [.int .i64 (D (d : Int)), .int .i64 kd, .string nm, .string dt, .slice A ats.length cc] from HV9.out.range)
            have HCV9 := Lib.hid (show Cv w9 w9.heap.size (confV c vE vR vA vP) c from ⟨_, _, _, _, _, rfl, HCP.out.on hbel9⟩)
            have HAT := Lib.hid (attrs_any ⟨⟨D (d : Int), kd, nm, dt, ats⟩, A, cc⟩ (confV c vE vR vA vP) c s w9 (HXA.out w9 hbel9) HZX.out HCV9.out HSM.out HFX.out)
            have HBL9 := Lib.hid hbel9
            have hs9 := HB9.out.size
            clear hbel9
            go_upto_region 15 with (first
              | (show wpList _ _ _ (⟨_, Op.load 47 (.tmp 10), _, _, _, _⟩ :: _) _ _; refine wpList_load_mid rfl 47 (.tmp 10) rfl x1.heap.size 0 rfl _ _ HVR9.out Tryz.underlying47 rfl size_row ?_)
              | (show wpList _ _ _ (⟨_, Op.load 26 (.tmp 4), _, _, _, _⟩ :: _) _ _; refine wpList_load_mid rfl 26 (.tmp 4) rfl w.heap.size 0 rfl _ _ HBX9.out Tryz.underlying26 rfl Co.size_conf ?_)
              | (go_at_call 103; refine HAT.out.mono ?_; rintro r w10 ⟨v10, rfl, haw10, hb10⟩; obtain ⟨A9, c9, rfl⟩ := haw10.form; have HB10 := Lib.hid hb10; have HAW10 := Lib.hid haw10; have HV10 := Lib.hid (HV9.out.on hb10); have r4 := HV10.out.cell 4 _ rfl; have f4 := HV10.out.f 4; clear hb10 haw10)
              | fail)
            obtain ⟨w11, hw11⟩ : ∃ w11, w10.setCell ⟨x1.heap.size, 4, none⟩ (.slice A9 (attrsF c s ⟨D (d : Int), kd, nm, dt, ats⟩).length c9) = w11 := ⟨_, rfl⟩
            rw [hw11]
            have hs10 := HB10.out.size
            have hs11 : w11.heap.size = w10.heap.size := by rw [← hw11]; simp [World.setCell]
            have hv11 : Hv 47 w11 x1.heap.size #[.int .i64 (D (d : Int)), .int .i64 kd, .string nm, .string dt, .slice A9 (attrsF c s ⟨D (d : Int), kd, nm, dt, ats⟩).length c9] := hw11 ▸ HV10.out.set 4 _
            have hg11 : x1.grownBy w11 (some (w.heap.size + 1)) := by
              have hx8 : x1.heap.size ≤ w8.heap.size := HG8.out.size
              refine ⟨?_, ?_, ?_, by omega, fun j hj hne => ?_⟩
              · rw [← hw11]; exact HB10.out.os.trans (HB9.out.os.trans HG8.out.os)
              · rw [← hw11]; exact HB10.out.tape.trans (HB9.out.tape.trans HG8.out.tape)
              · rw [← hw11]; exact HB10.out.output.trans (HB9.out.output.trans HG8.out.output)
              · rw [← hw11, Below.heap_setCell _ _ _ _ (show j ≠ x1.heap.size by omega), HB10.out.block j (by omega), HB9.out.block j (by omega)]
                exact HG8.out.block j hj hne
            have hod11 : Od (w.heap.size + 2) w11 u acc := ((HOD.out.below HBI.out).below HBX1.out).grown hg11 (by omega)
            have hfr11 : Fr (w.heap.size + 2) w11 ⟨⟨D (d : Int), kd, nm, dt, attrsF c s ⟨D (d : Int), kd, nm, dt, ats⟩⟩, A9, c9⟩ := hw11 ▸ ⟨World.ownsRow.mono (Co.row_elder HAW10.out.1 (Co.gcell12 w10 x1.heap.size 4 _) (fun q hq => by injection hq with hq; omega)) (by omega), HAW10.out.2⟩
            have hbel11 : Below w.heap.size w w11 := (HBIW.out.trans (HBX1.out.mono HBIW.out.size)).grown hg11 (by omega) (fun j hj => by injection hj with hj; omega)
            have hdb11 : Db w11 (w.heap.size + 1) (put_ D ((d + 1 : Nat) : Int) (D (d : Int))) := hw11 ▸ (((HDB8.out.on HB9.out).on HB10.out).keep (Below.heap_setCell _ _ _ _ (show w.heap.size + 1 ≠ x1.heap.size by omega)))
            have hbx11 : Co.Bx w11 w.heap.size c vE vR vA vP := range_keep (HCB.out x1 HBX1.out) fun o => World.cell?_of_block (a := ⟨w.heap.size, o, none⟩) (hg11.block w.heap.size (by omega) (by simp))
            have HVR11 := Lib.hid (show w11.rangeAt x1.heap.size 0 [.int .i64 (D (d : Int)), .int .i64 kd, .string nm, .string dt, .slice A9 (attrsF c s ⟨D (d : Int), kd, nm, dt, ats⟩).length c9] from hv11.range)
            have HOD11 := Lib.hid hod11; have HFR11 := Lib.hid hfr11; have HBL11 := Lib.hid hbel11; have HDB11 := Lib.hid hdb11; have HBX11 := Lib.hid hbx11
            have hs11' : w.heap.size + 2 ≤ w11.heap.size := by omega
            have HS11 := Lib.hid hs11
            clear hs11
            clear r4 f4 hw11 hv11 hg11 hod11 hfr11 hbel11 hdb11 hbx11
            go_upto_region 16 with (first
              | (show wpList _ _ _ (⟨_, Op.load 47 (.tmp 10), _, _, _, _⟩ :: _) _ _; refine wpList_load_mid rfl 47 (.tmp 10) rfl x1.heap.size 0 rfl _ _ HVR11.out Tryz.underlying47 rfl size_row ?_)
              | (at_builtin; refine app_row w11 rfl (.tmp 59) (.tmp 61) rfl (w.heap.size + 2) u acc ⟨⟨D (d : Int), kd, nm, dt, attrsF c s ⟨D (d : Int), kd, nm, dt, ats⟩⟩, A9, c9⟩ rfl HOD11.out.ow HFR11.out.att HFR11.out.ap w11.heap.size rfl rfl (by omega) hs11' ?_; intro v12 w12 ho12 hk12 hf12)
              | fail)
            have hb12 : Below (w.heap.size + 2) w11 w12 := hk12 w11 (Below.refl _ _)
            have hod12 : Od (w.heap.size + 2) w12 v12 (acc ++ [⟨⟨D (d : Int), kd, nm, dt, attrsF c s ⟨D (d : Int), kd, nm, dt, ats⟩⟩, A9, c9⟩]) := ⟨ho12.1, fun z hz => hf12 z (by
              rcases List.mem_append.1 hz with hz | hz
              · exact HOD11.out.2 z hz
              · rw [List.mem_singleton.1 hz]; exact HFR11.out)⟩
            have hdb12 := HDB11.out.keep (hb12.block (w.heap.size + 1) (by omega))
            have HDC := Lib.hid hdb12
            have d1 := hdb12.cell (d + 1) (by omega)
            rw [put_at] at d1
            have f1 := hdb12.f (d + 1)
            have HB12 := Lib.hid hb12; have HOD12 := Lib.hid hod12
            clear ho12 hk12 hf12 hb12 hod12 hdb12
            go_wp2
            go_roundg (l.length - (k2 + 1))
            case measure => omega
            case rel =>
              have hg13 := Co.gcell12 w12 (w.heap.size + 1) (d + 1) (.int .i64 (D (d : Int) + 1))
              have hs13 := hg13.size
              have hs12 := HB12.out.size
              have hdb13 := HDC.out.set (d + 1) (D (d : Int) + 1)
              rw [put_twice] at hdb13
              refine ⟨k2 + 1, v12, acc ++ [⟨⟨D (d : Int), kd, nm, dt, attrsF c s ⟨D (d : Int), kd, nm, dt, ats⟩⟩, A9, c9⟩], put_ D ((d + 1 : Nat) : Int) (D (d : Int) + 1), by omega, by go_num, rfl, by rw [List.length_append]; show acc.length + 1 ≤ _; omega, HOD12.out.grown hg13 (by omega), hdb13, Lib.hid ?_, (HBX11.out.below HB12.out (by omega)).below (below_of_grown hg13 (by omega)) (Nat.lt_succ_self _), (HBL11.out.trans (HB12.out.mono (by omega))).grown hg13 (by omega) (fun j hj => by injection hj with hj; omega), by omega, Lib.hid ?_⟩
              · have h := put_le (n := k2) (k := ((d + 1 : Nat) : Int)) (a := D (d : Int) + 1) (fun j => ⟨(hD.out j).1, Int.le_trans (hD.out j).2 (by omega)⟩) (by omega) (by omega)
                exact h
              · have h1 := step_keep (g := fateN c s) (f := attrsF c s) HDR.out (HQ.out.trans hq0) D
                rw [HFL.out] at h1
                have := hros.out
                rw [h1] at this
                rw [hcast, ros_append, List.append_assoc]
                exact this
          · have hqb0 : ((q : Int) == 0) = false := by simp; omega
            go_wp2_with (first
              | (show wpList _ _ _ (⟨_, Op.load 47 (.tmp 10), _, _, _, _⟩ :: _) _ _; refine wpList_load_mid rfl 47 (.tmp 10) rfl x1.heap.size 0 rfl _ _ HVR8.out Tryz.underlying47 rfl size_row ?_)
              | (show wpList _ _ _ (⟨_, Op.load 26 (.tmp 4), _, _, _, _⟩ :: _) _ _; refine wpList_load_mid rfl 26 (.tmp 4) rfl w.heap.size 0 rfl _ _ HBX8.out Tryz.underlying26 rfl Co.size_conf ?_)
              | (go_at_call 102; refine HFT8.out.mono ?_; rintro r w9 ⟨rfl, hb9⟩; have HB9 := Lib.hid hb9; clear hb9)
              | fail)
            go_roundg (l.length - (k2 + 1))
            case measure => omega
            case rel =>
              refine ⟨k2 + 1, _, acc, put_ D ((d + 1 : Nat) : Int) (D (d : Int)), by omega, by go_num, rfl, by omega, HOD8.out.below HB9.out, HDB8.out.on HB9.out, Lib.hid ?_, HBX8.out.below HB9.out (by omega), HBL8.out.trans (HB9.out.mono HBL8.out.size), Nat.le_trans hs8' HB9.out.size, Lib.hid ?_⟩
              · have h := put_le (n := k2) (k := ((d + 1 : Nat) : Int)) (a := D (d : Int)) (fun j => ⟨(hD.out j).1, Int.le_trans (hD.out j).2 (by omega)⟩) hDd0 (by omega)
                exact h
              · have h1 := step_open (g := fateN c s) (f := attrsF c s) HDR.out (fun e => hq0 (HQ.out.symm.trans e)) (fun e => hq1 (HQ.out.symm.trans e)) D
                rw [HFL.out] at h1
                have := hros.out
                rw [h1] at this
                rw [hcast]
                exact this
    · have e : (ros l).drop k = [] := List.drop_of_length_le (by rw [len_ros]; omega)
      have HE := Lib.hid e
      have HOD := Lib.hid hod; have HBL := Lib.hid hbel
      clear e hod hdb hbx hbel
      go_wp2
      (try rw [Exit.noGoto_ret])
      go_ret
      have := hros.out
      rw [HE.out] at this
      exact ⟨_, acc, rfl, HOD.out.mono (by omega), by rw [← this]; exact (List.append_nil _).symm, HBL.out⟩

end Go.Proofs.YtgjlfcamgkeibaaGreatDoor.Cn

namespace Go.Proofs.YtgjlfcamgkeibaaGreatDoor.Co
set_option maxRecDepth 100000
set_option linter.unusedVariables false
set_option linter.unusedSimpArgs false
open Go.RowKit Ba Fm Fo Nm Rk
theorem max_any (x y : Nat) : ∃ m : Nat, (∀ n : Nat, n < m ↔ n < x ∨ n < y) ∧ ∀ ts t (w : World), (Builtin.max_ ts t #[.int .i64 x, .int .i64 y]).run Tryz.prog w = .ok (.int .i64 m) w := by
  refine ⟨max x y, fun n => by omega, fun ts t w => ?_⟩
  rw [run_max_int2]
  congr 2
  split <;> omega
theorem max_any4 (x y z u : Nat) : ∃ m : Nat, (∀ n : Nat, n < m ↔ ((n < x ∨ n < y) ∨ n < z) ∨ n < u) ∧ ∀ ts t (w : World), (Builtin.max_ ts t #[.int .i64 x, .int .i64 y, .int .i64 z, .int .i64 u]).run Tryz.prog w = .ok (.int .i64 m) w := by
  refine ⟨max (max (max x y) z) u, fun n => by omega, fun ts t w => ?_⟩
  simp only [Builtin.max_, Builtin.max2, List.foldlM, List.toList_toArray, pure_bind]
  show Result.ok _ _ = _
  congr 2
  split <;> split <;> split <;> omega
set_option maxRecDepth 100000 in
set_option maxHeartbeats 2000000 in
theorem exceeds1 (v : Value) (c : Cf) (w : World) (q : Bool) (h : Cv w w.heap.size v c) (hs : Sm c) (hq : bigB c = q) :
    Calls Tryz.prog 93 #[v] w fun r w' => r = .returned (.bool q) ∧ Below w.heap.size w w' := by
  obtain ⟨vE, vR, vA, vP, l, rfl, h⟩ := h
  obtain ⟨w0, hw0⟩ : ∃ w0, w.alloc (confO c vE vR vA vP) = w0 := ⟨_, rfl⟩
  have hb1 : Below w.heap.size w w0 := hw0 ▸ below_new12 w (confO c vE vR vA vP)
  obtain ⟨E, ce, rfl, _, _, _⟩ := h.e
  obtain ⟨R, cr, rfl, _, _, _⟩ := h.r
  obtain ⟨T, ct, rfl, _, _, _⟩ := h.a
  obtain ⟨A, cp, rfl, hcp, hna, hr⟩ := h.p
  have hpl : c.per.length = l.length := by rw [← h.m, len_pes]
  have hl : l.length ≤ 1000 := by have := hs.p; omega
  have hlen : ∀ x ∈ l, x.pe.at_.length ≤ 1000 := fun x hx => hs.pa _ (by rw [← h.m]; exact List.mem_map.2 ⟨x, hx, rfl⟩)
  have hel := hs.e; have hrl := hs.r; have hal := hs.a
  obtain ⟨m0, hm0, hmax⟩ := max_any4 c.els.length c.reps.length c.ats.length l.length
  have hbig : (decide (64 < m0) || l.any fun x => decide (64 < x.pe.at_.length)) = q := by
    rw [← hq]
    unfold bigB
    rw [hpl, ← h.m]
    unfold pes
    rw [List.any_map]
    congr 1
    rw [Bool.eq_iff_iff]
    simp only [decide_eq_true_eq, Bool.or_eq_true]
    exact hm0 64
  have hm00 : m0 ≤ 1000 := by have := (hm0 1000); omega
  have HQ := Lib.hid hbig; have HLEN := Lib.hid hlen; have HW := Lib.hid hw0; have HB1 := Lib.hid hb1; have HR := Lib.hid hr
  have hz : w.heap.size < w0.heap.size := by rw [← hw0]; simp
  have hcp0 : c.per.length = l.length := hpl
  clear hq hbig hlen hw0 hs h hm0 hpl hr hb1
  obtain ⟨n1, hn1⟩ : ∃ n, c.els.length = n := ⟨_, rfl⟩
  obtain ⟨n2, hn2⟩ : ∃ n, c.reps.length = n := ⟨_, rfl⟩
  obtain ⟨n3, hn3⟩ : ∃ n, c.ats.length = n := ⟨_, rfl⟩
  rw [hn1] at hmax hel HW
  rw [hn2] at hmax hrl HW
  rw [hn3] at hmax hal HW
  simp only [hn1, hn2, hn3]
  clear hn1 hn2 hn3 hcp0
  go_enter Tryz.func93, Tryz.ntmps93
  go_wp2
  rw [HW.out]
  clear hmax
  go_loopw [3, 5, 22] (fun n _ i wr => ∃ k m : Nat, i = .int .i64 k ∧ k ≤ l.length ∧ n = .int .i64 m ∧ m ≤ 1000 ∧ decide (64 < m) = (decide (64 < m0) || (l.take k).any fun x => decide (64 < x.pe.at_.length)) ∧ Below w0.heap.size w0 wr) (fun _ _ i _ => l.length - (intOf i).toNat)
  case atStart => exact ⟨0, m0, rfl, Nat.zero_le _, rfl, hm00, by simp, Below.refl _ _⟩
  case round =>
    obtain ⟨k, m, rfl, hks, rfl, hm1, hn, hbel⟩ := hrel
    by_cases hk : k < l.length
    · obtain ⟨b, off, x, rfl, hb, hx, hcs, hsx, hxm⟩ := (HR.out.below (HB1.out.trans (hbel.mono (Nat.le_of_lt hz)))).at_ k hk
      obtain ⟨g0, g1⟩ := range2p hcs
      have hxl := HLEN.out x hxm
      have hsn := any_snoc (fun x : Pw => decide (64 < x.pe.at_.length)) l k x hx
      obtain ⟨m2, hm2, hmax⟩ := max_any m x.pe.at_.length
      have hm3 : m2 ≤ 1000 := by have := hm2 1000; omega
      have hn2 : decide (64 < m2) = (decide (64 < m0) || (l.take (k + 1)).any fun x => decide (64 < x.pe.at_.length)) := by
        rw [hsn, ← Bool.or_assoc, ← hn, Bool.eq_iff_iff]
        simp only [decide_eq_true_eq, Bool.or_eq_true]
        exact hm2 64
      have HN := Lib.hid hn2; have HBL := Lib.hid (hbel.trans ((below_new12 wr (perO x)).mono hbel.size))
      clear hn hn2 hsn hm2 hcs hsx
      go_wp2
      go_roundw
      case rel => exact ⟨k + 1, m2, by go_num, by omega, rfl, hm3, HN.out, HBL.out⟩
      case measure => simp [intOf]; omega
    · rw [List.take_of_length_le (by omega), HQ.out] at hn
      have HN := Lib.hid hn
      have HBL := Lib.hid (HB1.out.trans (hbel.mono (Nat.le_of_lt hz)))
      clear hn hbel
      go_wp2
      go_ret
      exact ⟨ret_bool (by rw [← HN.out, Bool.eq_iff_iff]; simp only [decide_eq_true_eq]; omega), HBL.out⟩

def Bb (w : World) (g : Nat) (b : Bool) : Prop := w.heap[g]? = some (.cells #[.bool b] 4)
section
variable {w w' : World} {g : Nat} {b : Bool}
theorem Bb.cell (h : Bb w g b) : w.cell? ⟨g, 0, none⟩ = some (.bool b) := by rw [cell_of_row w g 0 _ _ _ h]; rfl
theorem Bb.f (h : Bb w g b) : w.frozen? ⟨g, 0, none⟩ = false := by
  unfold Bb at h
  simp [World.frozen?, h]
theorem Bb.lt (h : Bb w g b) : g < w.heap.size := (Array.getElem?_eq_some_iff.1 h).1
theorem Bb.set (h : Bb w g b) (u : Bool) : Bb (w.setCell ⟨g, 0, none⟩ (.bool u)) g u := by
  unfold Bb at h ⊢
  simp [World.setCell, Array.getElem?_modify, h]
theorem Bb.below (h : Bb w g b) (hb : Below w.heap.size w w') : Bb w' g b := (hb.block g h.lt).trans h
end
theorem gset12 (w : World) (b j : Nat) (u : Value) : w.grownBy (w.setCell ⟨b, j, none⟩ u) (some b) :=
  ⟨rfl, rfl, rfl, by simp [World.setCell], fun k _ hk => Below.heap_setCell _ _ _ _ (fun e => hk (by simp [e]))⟩
theorem all_snoc12 (p : ByteArray → Bool) (l : List ByteArray) (k : Nat) (h : k < l.length) : (l.take (k + 1)).all p = ((l.take k).all p && p l[k]) := by
  rw [List.take_succ_eq_append_getElem h, List.all_append]
  simp
set_option maxRecDepth 100000 in
set_option maxHeartbeats 2000000 in
theorem mis_R (A : Option Addr) (c : Nat) (l : List ByteArray) (w : World) (g : Nat) (b : Bool) (hr : 0 < l.length → ∃ b0 off, A = some ⟨b0, off, none⟩ ∧ b0 < w.heap.size ∧ b0 ≠ g ∧ ∀ j (h : j < l.length), w.cell? ⟨b0, off + j, none⟩ = some (.string l[j])) (hl : l.length ≤ 1000000)
    (hsz : ∀ s ∈ l, s.size ≤ 140737488355328) (hg : Bb w g b) :
    Calls Tryz.prog 141 #[.func (.func 142) #[] #[], .slice A l.length c, .pointer (some ⟨g, 0, none⟩)] w fun r w' => r = .returned (.tuple #[]) ∧ Bb w' g (b || !l.all rightB) ∧ w.grownBy w' (some g) := by
  have HSZ := Lib.hid hsz; clear hsz
  go_enter Tryz.func141, Tryz.ntmps141
  go_wp2
  go_loopw [6, 9] (fun _ i wr => ∃ k : Nat, i = .int .i64 k ∧ k ≤ l.length ∧ Bb wr g (b || !(l.take k).all rightB) ∧ w.grownBy wr (some g)) (fun _ i _ => l.length - (intOf i).toNat)
  case atStart => exact ⟨0, rfl, Nat.zero_le _, by simpa using hg, World.grownBy.refl _ _⟩
  case round =>
    clear hg
    obtain ⟨k, rfl, hks, hg, hgr⟩ := hrel
    by_cases hk : k < l.length
    · obtain ⟨b0, off, rfl, hb0, hne, hc⟩ := hr (by omega)
      have hcell := (World.cell?_of_block (a := ⟨b0, off + k, none⟩) (hgr.block b0 hb0 (by simpa using hne))).trans (hc k hk)
      have hsn := all_snoc12 rightB l k hk
      have hxs := HSZ.out _ (List.getElem_mem hk)
      obtain ⟨t, ht⟩ : ∃ t, (b || !(l.take k).all rightB) = t := ⟨_, rfl⟩
      have hsn2 : (b || !(l.take (k + 1)).all rightB) = (t || !rightB l[k]) := by
        rw [hsn, ← ht]
        cases b <;> cases (l.take k).all rightB <;> cases rightB l[k] <;> rfl
      rw [ht] at hg
      have g0 := hg.cell; have f0 := hg.f
      have HSN := Lib.hid hsn2; have HG := Lib.hid hg; have HGR := Lib.hid hgr
      clear hc hr hsn hsn2 hg hgr ht
      cases t with
      | true =>
        go_wp2
        go_roundw
        case rel => exact ⟨k + 1, by go_num, by omega, by rw [HSN.out]; exact HG.out.set true, HGR.out.trans (gset12 wr g 0 _)⟩
        case measure => simp [intOf]; omega
      | false =>
        obtain ⟨u, hu⟩ : ∃ u, rightB l[k] = u := ⟨_, rfl⟩
        have HU := Lib.hid hu; clear hu
        go_wp2_with (go_at_call 142; refine (Na.right_any l[k] _ hxs).mono ?_; rw [HU.out]; rintro r w3 ⟨rfl, rfl⟩)
        go_roundw
        case rel => exact ⟨k + 1, by go_num, by omega, by rw [HSN.out, HU.out]; exact HG.out.set (!u), HGR.out.trans (gset12 wr g 0 _)⟩
        case measure => simp [intOf]; omega
    · rw [List.take_of_length_le (by omega)] at hg
      have HG := Lib.hid hg; have HGR := Lib.hid hgr
      clear hg hgr
      go_wp2
      go_end0
      exact ⟨rfl, HG.out, HGR.out⟩
set_option maxRecDepth 100000 in
set_option maxHeartbeats 2000000 in
theorem mis_T (A : Option Addr) (c : Nat) (l : List ByteArray) (w : World) (g : Nat) (b : Bool) (hr : 0 < l.length → ∃ b0 off, A = some ⟨b0, off, none⟩ ∧ b0 < w.heap.size ∧ b0 ≠ g ∧ ∀ j (h : j < l.length), w.cell? ⟨b0, off + j, none⟩ = some (.string l[j])) (hl : l.length ≤ 1000000)
    (hsz : ∀ s ∈ l, s.size ≤ 140737488355328) (hg : Bb w g b) :
    Calls Tryz.prog 141 #[.func (.func 143) #[] #[], .slice A l.length c, .pointer (some ⟨g, 0, none⟩)] w fun r w' => r = .returned (.tuple #[]) ∧ Bb w' g (b || !l.all Nm.attrB) ∧ w.grownBy w' (some g) := by
  have HSZ := Lib.hid hsz; clear hsz
  go_enter Tryz.func141, Tryz.ntmps141
  go_wp2
  go_loopw [6, 9] (fun _ i wr => ∃ k : Nat, i = .int .i64 k ∧ k ≤ l.length ∧ Bb wr g (b || !(l.take k).all Nm.attrB) ∧ w.grownBy wr (some g)) (fun _ i _ => l.length - (intOf i).toNat)
  case atStart => exact ⟨0, rfl, Nat.zero_le _, by simpa using hg, World.grownBy.refl _ _⟩
  case round =>
    clear hg
    obtain ⟨k, rfl, hks, hg, hgr⟩ := hrel
    by_cases hk : k < l.length
    · obtain ⟨b0, off, rfl, hb0, hne, hc⟩ := hr (by omega)
      have hcell := (World.cell?_of_block (a := ⟨b0, off + k, none⟩) (hgr.block b0 hb0 (by simpa using hne))).trans (hc k hk)
      have hsn := all_snoc12 Nm.attrB l k hk
      have hxs := HSZ.out _ (List.getElem_mem hk)
      obtain ⟨t, ht⟩ : ∃ t, (b || !(l.take k).all Nm.attrB) = t := ⟨_, rfl⟩
      have hsn2 : (b || !(l.take (k + 1)).all Nm.attrB) = (t || !Nm.attrB l[k]) := by
        rw [hsn, ← ht]
        cases b <;> cases (l.take k).all Nm.attrB <;> cases Nm.attrB l[k] <;> rfl
      rw [ht] at hg
      have g0 := hg.cell; have f0 := hg.f
      have HSN := Lib.hid hsn2; have HG := Lib.hid hg; have HGR := Lib.hid hgr
      clear hc hr hsn hsn2 hg hgr ht
      cases t with
      | true =>
        go_wp2
        go_roundw
        case rel => exact ⟨k + 1, by go_num, by omega, by rw [HSN.out]; exact HG.out.set true, HGR.out.trans (gset12 wr g 0 _)⟩
        case measure => simp [intOf]; omega
      | false =>
        obtain ⟨u, hu⟩ : ∃ u, Nm.attrB l[k] = u := ⟨_, rfl⟩
        have HU := Lib.hid hu; clear hu
        go_wp2_with (go_at_call 143; refine (Na.attr_any l[k] _ hxs).mono ?_; rw [HU.out]; rintro r w3 ⟨rfl, rfl⟩)
        go_roundw
        case rel => exact ⟨k + 1, by go_num, by omega, by rw [HSN.out, HU.out]; exact HG.out.set (!u), HGR.out.trans (gset12 wr g 0 _)⟩
        case measure => simp [intOf]; omega
    · rw [List.take_of_length_le (by omega)] at hg
      have HG := Lib.hid hg; have HGR := Lib.hid hgr
      clear hg hgr
      go_wp2
      go_end0
      exact ⟨rfl, HG.out, HGR.out⟩

end Go.Proofs.YtgjlfcamgkeibaaGreatDoor.Co

namespace Go.Proofs.YtgjlfcamgkeibaaGreatDoor.Co
set_option maxRecDepth 100000
set_option linter.unusedVariables false
set_option linter.unusedSimpArgs false
open Go.RowKit Ba Fm Fo Nm Rk
theorem any_snoc' {α : Type} (p : α → Bool) (l : List α) (k : Nat) (h : k < l.length) : (l.take (k + 1)).any p = ((l.take k).any p || p l[k]) := any_snoc p l k _ (List.getElem?_eq_getElem h)

set_option maxRecDepth 100000 in
set_option maxHeartbeats 2000000 in
theorem meetSS (va vb : Value) (N M : Nat) (a b : List ByteArray) (w : World) (q : Bool) (ha : Sv w N va a) (hb : Sv w M vb b) (hla : a.length ≤ 1000000) (hlb : b.length ≤ 1000000) (hq : meetB a b = q) :
    Calls Tryz.prog 150 #[va, vb, .func (.func 146) #[] #[]] w fun e w' => e = .returned (.bool q) ∧ w = w' := by
  obtain ⟨A, c, rfl, _, _, hra⟩ := ha
  obtain ⟨C, d, rfl, _, _, hrb⟩ := hb
  have HQ := Lib.hid hq; clear hq
  go_enter Tryz.func150, Tryz.ntmps150
  go_wp2
  go_loopw [8, 10, 13] (fun _ _ i wr => ∃ k : Nat, i = .int .i64 k ∧ k ≤ a.length ∧ meetB (a.take k) b = false ∧ w = wr) (fun _ _ i _ => a.length - (intOf i).toNat)
  case atStart => exact ⟨0, rfl, Nat.zero_le _, rfl, rfl⟩
  case round =>
    obtain ⟨k, rfl, hks, hn, rfl⟩ := hrel
    by_cases hk : k < a.length
    · obtain ⟨b0, off, rfl, _, hc⟩ := hra (by omega)
      have hcell := hc k hk
      have hsn := any_snoc' (fun x => isIn x b) a k hk
      have hn' : (a.take k).any (fun x => isIn x b) = false := hn
      rw [hn', Bool.false_or] at hsn
      generalize hx : a[k] = x at *
      have hxm : x ∈ a := hx ▸ List.getElem_mem _
      have HSN := Lib.hid hsn; have HXM := Lib.hid hxm
      clear hc hn hn' hra hx hsn hxm
      go_wp2
      go_loopw [10, 19] (fun _ i wr => ∃ j : Nat, i = .int .i64 j ∧ j ≤ b.length ∧ ¬ x ∈ b.take j ∧ w = wr) (fun _ i _ => b.length - (intOf i).toNat)
      case atStart => exact ⟨0, rfl, Nat.zero_le _, by simp, rfl⟩
      case round =>
        obtain ⟨j, rfl, hjs, hj0, rfl⟩ := hrel
        by_cases hj : j < b.length
        · obtain ⟨b1, off1, rfl, _, hc1⟩ := hrb (by omega)
          have hcell1 := hc1 j hj
          clear hc1 hrb
          by_cases he : x = b[j]
          · have HE := Lib.hid (decide_eq_true he)
            have HM := Lib.hid (show meetB a b = true from meet_iff.2 ⟨x, HXM.out, he ▸ List.getElem_mem _⟩)
            clear he hj0
            go_wp2_with (go_at_call 146; refine (equal1 x b[j] _ true HE.out).mono ?_; rintro r w3 ⟨rfl, rfl⟩)
            go_ret
            exact ⟨ret_bool (by rw [← HQ.out, HM.out]), rfl⟩
          · have HE := Lib.hid (decide_eq_false he)
            have HN := Lib.hid (in_snoc b x j hj hj0 (fun h => he h.symm))
            clear he hj0
            go_wp2_with (go_at_call 146; refine (equal1 x b[j] _ false HE.out).mono ?_; rintro r w3 ⟨rfl, rfl⟩)
            go_roundw
            case rel => exact ⟨j + 1, by go_num, by omega, HN.out, by trivial⟩
            case measure => simp [intOf]; omega
        · rw [List.take_of_length_le (by omega)] at hj0
          have HN := Lib.hid (isIn_no hj0)
          clear hj0
          go_wp2
          go_roundw
          case rel => exact ⟨k + 1, by go_num, by omega, by rw [show meetB (a.take (k + 1)) b = isIn x b from HSN.out]; exact HN.out, by trivial⟩
          case measure => simp [intOf]; omega
    · rw [List.take_of_length_le (by omega)] at hn
      have hq := HQ.out
      rw [hn] at hq
      subst hq
      clear hn
      go_wp2
      go_ret
      exact ⟨rfl, rfl⟩

theorem has12 (x : ByteArray) (y : Pw) (w : World) (q : Bool) (h : Sx w w.heap.size y) (hl : y.pe.at_.length ≤ 1000000) (hq : isIn x y.pe.at_ = q) :
    Calls Tryz.prog 148 #[.string x, perV y] w fun e w' => e = .returned (.bool q) ∧ Below w.heap.size w w' := by
  have hb := below_new12 w (perO y)
  have h1 : Sx (w.alloc (perO y)) w.heap.size y := h.below hb
  go_enter Tryz.func148, Tryz.ntmps148
  go_wp2_with (go_at_call 149; refine (among1 _ _ y.pe.at_ x _ q h1 hl hq).mono ?_; rintro r w3 ⟨rfl, rfl⟩)
  go_ret
  exact ⟨rfl, hb⟩
theorem ofOne1 (x y : Pw) (w : World) (q : Bool) (hq : decide (x.pe.el = y.pe.el) = q) :
    Calls Tryz.prog 144 #[perV x, perV y] w fun e w' => e = .returned (.bool q) ∧ Below w.heap.size w w' := by
  have h := (eq_of_toList (a := x.pe.el) (b := y.pe.el)).trans hq
  have hb := (below_new12 w (perO x)).trans ((below_new12 (w.alloc (perO x)) (perO y)).mono (below_new12 w (perO x)).size)
  go_enter Tryz.func144, Tryz.ntmps144
  go_wp2
  go_ret
  exact ⟨rfl, hb⟩

def meetSPB (a : List ByteArray) (l : List Pe) : Bool := a.any fun x => l.any fun p => isIn x p.at_
def meetPPB (a b : List Pe) : Bool := a.any fun x => b.any fun y => decide (x.el = y.el)
set_option maxRecDepth 100000 in
set_option maxHeartbeats 2000000 in
theorem meetSP (va vb : Value) (a : List ByteArray) (b : List Pw) (w : World) (q : Bool) (ha : Sv w w.heap.size va a) (hb : Pv w w.heap.size vb b) (hla : a.length ≤ 1000000) (hlb : b.length ≤ 1000000) (hlx : ∀ y ∈ b, y.pe.at_.length ≤ 1000000) (hq : meetSPB a (pes b) = q) :
    Calls Tryz.prog 151 #[va, vb, .func (.func 148) #[] #[]] w fun e w' => e = .returned (.bool q) ∧ Below w.heap.size w w' := by
  obtain ⟨A, c, rfl, _, _, hra⟩ := ha
  obtain ⟨C, d, rfl, _, _, hrb⟩ := hb
  have HQ := Lib.hid hq; have HLX := Lib.hid hlx; clear hq hlx
  go_enter Tryz.func151, Tryz.ntmps151
  go_wp2
  go_loopw [8, 10, 13] (fun _ _ i wr => ∃ k : Nat, i = .int .i64 k ∧ k ≤ a.length ∧ meetSPB (a.take k) (pes b) = false ∧ Below w.heap.size w wr) (fun _ _ i _ => a.length - (intOf i).toNat)
  case atStart => exact ⟨0, rfl, Nat.zero_le _, rfl, Below.refl _ _⟩
  case round =>
    obtain ⟨w5, hw5⟩ : ∃ x, x = wr := ⟨_, rfl⟩
    subst hw5
    obtain ⟨k, rfl, hks, hn, hbel⟩ := hrel
    by_cases hk : k < a.length
    · obtain ⟨b0, off, rfl, hb0, hc⟩ := hra (by omega)
      have hcell := (hbel.cell (p := ⟨b0, off + k, none⟩) hb0).trans (hc k hk)
      have hsn := any_snoc' (fun x => (pes b).any fun p => isIn x p.at_) a k hk
      have hn' : (a.take k).any (fun x => (pes b).any fun p => isIn x p.at_) = false := hn
      rw [hn', Bool.false_or] at hsn
      generalize hx : a[k] = x at *
      have hxm : x ∈ a := hx ▸ List.getElem_mem _
      have HSN := Lib.hid hsn; have HXM := Lib.hid hxm; have HB0 := Lib.hid hbel
      clear hc hn hn' hra hx hsn hxm hbel
      go_wp2
      go_loopw [10, 19] (fun _ i wr => ∃ j : Nat, i = .int .i64 j ∧ j ≤ b.length ∧ (b.take j).any (fun y => isIn x y.pe.at_) = false ∧ Below w.heap.size w wr) (fun _ i _ => b.length - (intOf i).toNat)
      case atStart => exact ⟨0, rfl, Nat.zero_le _, by simp, HB0.out⟩
      case round =>
        obtain ⟨j, rfl, hjs, hj0, hbel⟩ := hrel
        by_cases hj : j < b.length
        · obtain ⟨b1, off1, y, rfl, _, hy, hcs, hsy, hym⟩ := (hrb.below hbel).at_ j hj
          obtain ⟨g0, g1⟩ := range2p hcs
          have hsn2 := any_snoc (fun y => isIn x y.pe.at_) b j y hy
          rw [hj0, Bool.false_or] at hsn2
          have hsy1 : Sx (wr.alloc (perO y)) (wr.alloc (perO y)).heap.size y := Sx.boxed hsy hbel (perO y)
          have hb1 := hbel.trans ((below_new12 wr (perO y)).mono hbel.size)
          have hyl := HLX.out y hym
          clear hcs hsy hrb hj0 hbel
          cases he : isIn x y.pe.at_ with
          | true =>
            have HE := Lib.hid he
            have HM := Lib.hid (show meetSPB a (pes b) = true from any_yes _ a x HXM.out (any_yes _ (pes b) y.pe (List.mem_map.2 ⟨y, hym, rfl⟩) he))
            have HSY := Lib.hid hsy1; have HB1 := Lib.hid hb1
            clear he hsn2 hsy1 hb1
            go_wp2_with (go_at_call 148; refine (has12 x y _ true HSY.out hyl HE.out).mono ?_; rintro r w3 ⟨rfl, hb3⟩)
            go_ret
            exact ⟨ret_bool (by rw [← HQ.out, HM.out]), HB1.out.trans (hb3.mono HB1.out.size)⟩
          | false =>
            have HE := Lib.hid he
            rw [he] at hsn2
            have HN := Lib.hid hsn2
            have HSY := Lib.hid hsy1; have HB1 := Lib.hid hb1
            clear he hsn2 hsy1 hb1
            go_wp2_with (go_at_call 148; refine (has12 x y _ false HSY.out hyl HE.out).mono ?_; rintro r w3 ⟨rfl, hb3⟩)
            go_roundw
            case rel => exact ⟨j + 1, by go_num, by omega, HN.out, HB1.out.trans (hb3.mono HB1.out.size)⟩
            case measure => simp [intOf]; omega
        · rw [List.take_of_length_le (by omega)] at hj0
          have hj1 : (pes b).any (fun p => isIn x p.at_) = false := by unfold pes; rw [List.any_map]; exact hj0
          have HN := Lib.hid hj1; have HBL := Lib.hid hbel
          clear hj0 hj1 hbel
          go_wp2
          go_roundw
          case rel => exact ⟨k + 1, by go_num, by omega, by rw [show meetSPB (a.take (k + 1)) (pes b) = _ from HSN.out]; exact HN.out, HBL.out⟩
          case measure => simp [intOf]; omega
    · rw [List.take_of_length_le (by omega)] at hn
      have hq := HQ.out
      rw [hn] at hq
      subst hq
      have HBL := Lib.hid hbel
      clear hn hbel
      go_wp2
      go_ret
      exact ⟨rfl, HBL.out⟩

end Go.Proofs.YtgjlfcamgkeibaaGreatDoor.Co

namespace Go.Proofs.YtgjlfcamgkeibaaGreatDoor.Co
set_option maxRecDepth 100000
set_option linter.unusedVariables false
set_option linter.unusedSimpArgs false
open Go.RowKit Ba Fm Fo Nm Rk
set_option maxRecDepth 100000 in
set_option maxHeartbeats 2000000 in
theorem meetPP (va vb : Value) (a b : List Pw) (w : World) (q : Bool) (ha : Pv w w.heap.size va a) (hb : Pv w w.heap.size vb b) (hla : a.length ≤ 1000000) (hlb : b.length ≤ 1000000) (hq : meetPPB (pes a) (pes b) = q) :
    Calls Tryz.prog 193 #[va, vb, .func (.func 144) #[] #[]] w fun e w' => e = .returned (.bool q) ∧ Below w.heap.size w w' := by
  obtain ⟨A, c, rfl, _, _, hra⟩ := ha
  obtain ⟨C, d, rfl, _, _, hrb⟩ := hb
  have hq' : (a.any fun x => b.any fun y => decide (x.pe.el = y.pe.el)) = q := by
    rw [← hq]
    unfold meetPPB pes
    rw [List.any_map]
    congr 1
    funext x
    rw [Function.comp, List.any_map]
    rfl
  have HQ := Lib.hid hq'; clear hq hq'
  go_enter Tryz.func193, Tryz.ntmps193
  go_wp2
  go_loopw [8, 10, 13] (fun _ _ i wr => ∃ k : Nat, i = .int .i64 k ∧ k ≤ a.length ∧ ((a.take k).any fun x => b.any fun y => decide (x.pe.el = y.pe.el)) = false ∧ Below w.heap.size w wr) (fun _ _ i _ => a.length - (intOf i).toNat)
  case atStart => exact ⟨0, rfl, Nat.zero_le _, rfl, Below.refl _ _⟩
  case round =>
    obtain ⟨w5, hw5⟩ : ∃ x, x = wr := ⟨_, rfl⟩
    subst hw5
    obtain ⟨k, rfl, hks, hn, hbel⟩ := hrel
    by_cases hk : k < a.length
    · obtain ⟨b0, off, x, rfl, _, hx, hcs, hsx, hxm⟩ := (hra.below hbel).at_ k hk
      obtain ⟨g0, g1⟩ := range2p hcs
      have hsn := any_snoc (fun x => b.any fun y => decide (x.pe.el = y.pe.el)) a k x hx
      rw [hn, Bool.false_or] at hsn
      obtain ⟨w6, hw6⟩ : ∃ w6, w5.alloc (perO x) = w6 := ⟨_, rfl⟩
      have hb6 : Below w5.heap.size w5 w6 := hw6 ▸ below_new12 w5 (perO x)
      have hbk : ∀ j w3, Below w6.heap.size w6 w3 → w3.cell? ⟨w5.heap.size, j, none⟩ = (pcells x)[j]? := fun j w3 h => by subst hw6; exact pbox_kept h j
      have hz6 : w6.heap.size = w5.heap.size + 1 := by rw [← hw6]; simp
      have hB6 := hbel.trans (hb6.mono hbel.size)
      have HSN := Lib.hid hsn; have HXM := Lib.hid hxm; have HB6 := Lib.hid hB6; have HBK := Lib.hid hbk; have HW6 := Lib.hid hw6
      clear hcs hsx hn hra hx hsn hxm hbel hb6 hbk hB6 hw6
      go_wp2
      rw [HW6.out]
      go_loopw [10, 19] (fun _ i wr => ∃ j : Nat, i = .int .i64 j ∧ j ≤ b.length ∧ ((b.take j).any fun y => decide (x.pe.el = y.pe.el)) = false ∧ Below w6.heap.size w6 wr) (fun _ i _ => b.length - (intOf i).toNat)
      case atStart => exact ⟨0, rfl, Nat.zero_le _, by simp, Below.refl _ _⟩
      case round =>
        obtain ⟨j, rfl, hjs, hj0, hbel⟩ := hrel
        have hbel0 := HB6.out.trans (hbel.mono HB6.out.size)
        by_cases hj : j < b.length
        · obtain ⟨b1, off1, y, rfl, _, hy, hcs, hsy, hym⟩ := (hrb.below hbel0).at_ j hj
          obtain ⟨k0, k1⟩ := range2p hcs
          have hsn2 := any_snoc (fun y => decide (x.pe.el = y.pe.el)) b j y hy
          rw [hj0, Bool.false_or] at hsn2
          have hb1 := hbel.trans ((below_new12 wr (perO y)).mono hbel.size)
          have e0 : (wr.alloc (perO y)).cell? ⟨w5.heap.size, 0, none⟩ = some (.string x.pe.el) := HBK.out 0 _ hb1
          have e1 : (wr.alloc (perO y)).cell? ⟨w5.heap.size, 1, none⟩ = some (.slice x.A x.pe.at_.length x.c) := HBK.out 1 _ hb1
          clear hcs hrb hj0 hbel hbel0
          cases he : decide (x.pe.el = y.pe.el) with
          | true =>
            have HE := Lib.hid he
            have HM := Lib.hid (show (a.any fun x => b.any fun y => decide (x.pe.el = y.pe.el)) = true from any_yes _ a x HXM.out (any_yes _ b y hym he))
            have HB1 := Lib.hid hb1
            clear he hsn2 hb1 hsy
            go_wp2_with (go_at_call 144; refine (ofOne1 x y _ true HE.out).mono ?_; rintro r w3 ⟨rfl, hb3⟩)
            go_ret
            exact ⟨ret_bool (by rw [← HQ.out, HM.out]), HB6.out.trans ((HB1.out.trans (hb3.mono HB1.out.size)).mono HB6.out.size)⟩
          | false =>
            have HE := Lib.hid he
            rw [he] at hsn2
            have HN := Lib.hid hsn2
            have HB1 := Lib.hid hb1
            clear he hsn2 hb1 hsy
            go_wp2_with (go_at_call 144; refine (ofOne1 x y _ false HE.out).mono ?_; rintro r w3 ⟨rfl, hb3⟩)
            go_roundw
            case rel => exact ⟨j + 1, by go_num, by omega, HN.out, HB1.out.trans (hb3.mono HB1.out.size)⟩
            case measure => simp [intOf]; omega
        · rw [List.take_of_length_le (by omega)] at hj0
          have HN := Lib.hid hj0; have HBL := Lib.hid hbel0
          clear hj0 hbel hbel0
          go_wp2
          go_roundw
          case rel => exact ⟨k + 1, by go_num, by omega, by rw [HSN.out]; exact HN.out, HBL.out⟩
          case measure => simp [intOf]; omega
    · rw [List.take_of_length_le (by omega)] at hn
      have hq := HQ.out
      rw [hn] at hq
      subst hq
      have HBL := Lib.hid hbel
      clear hn hbel
      go_wp2
      go_ret
      exact ⟨rfl, HBL.out⟩

theorem once_snoc {l : List ByteArray} {k : Nat} (h : k < l.length) (hn : (l.take k).Nodup) (hm : l[k] ∉ l.take k) : (l.take (k + 1)).Nodup := by
  rw [List.take_succ_eq_append_getElem h, List.nodup_append]
  refine ⟨hn, by simp, fun x hx y hy e => ?_⟩
  rw [List.mem_singleton] at hy
  subst hy
  exact hm (e ▸ hx)
theorem once_no {l : List ByteArray} {k : Nat} (h : k < l.length) (hm : l[k] ∈ l.take k) : ¬ l.Nodup := fun hn => by
  rw [← List.take_append_drop k l, List.nodup_append] at hn
  exact hn.2.2 _ hm _ (by rw [List.drop_eq_getElem_cons h]; exact List.mem_cons_self) rfl
theorem meet_one (a : List ByteArray) (x : ByteArray) : meetB a [x] = isIn x a := by
  rw [Bool.eq_iff_iff, meet_iff, isIn_iff]
  constructor
  · rintro ⟨y, h1, h2⟩
    rw [List.mem_singleton] at h2
    exact h2 ▸ h1
  · exact fun h => ⟨x, h, List.mem_singleton.2 rfl⟩
theorem sv_one {w : World} {N b off c k : Nat} {l : List ByteArray} (hr : Rd w N (some ⟨b, off, none⟩) l) (hk : k < l.length) (hc : l.length ≤ c) : Sv w N (.slice (some ⟨b, off + k, none⟩) 1 (c - k)) [l[k]] := by
  refine ⟨_, _, rfl, by simp; omega, (fun e => by cases e), fun _ => ?_⟩
  obtain ⟨b', o', e, hb, hcc⟩ := hr (by omega)
  injection e with e
  injection e with e1 e2
  subst e1 e2
  exact ⟨b, off + k, rfl, hb, fun j hj => by
    have : j = 0 := by simpa using hj
    subst this
    exact hcc k hk⟩
set_option maxRecDepth 100000 in
set_option maxHeartbeats 2000000 in
theorem twiceS (v : Value) (l : List ByteArray) (w : World) (q : Bool) (h : Sv w w.heap.size v l) (hl : l.length ≤ 1000000) (hq : (!onceB l) = q) :
    Calls Tryz.prog 145 #[v, .func (.func 146) #[] #[]] w fun e w' => e = .returned (.bool q) ∧ Below w.heap.size w w' := by
  obtain ⟨A, c, rfl, hlc, hna, hr⟩ := h
  have HQ := Lib.hid hq; clear hq
  go_enter Tryz.func145, Tryz.ntmps145
  go_wp2
  go_loopw [5, 8] (fun _ i wr => ∃ k : Nat, i = .int .i64 k ∧ k ≤ l.length ∧ (l.take k).Nodup ∧ Below w.heap.size w wr) (fun _ i _ => l.length - (intOf i).toNat)
  case atStart => exact ⟨0, rfl, Nat.zero_le _, by simp, Below.refl _ _⟩
  case round =>
    obtain ⟨k, rfl, hks, hn, hbel⟩ := hrel
    by_cases hk : k < l.length
    · obtain ⟨b0, off, rfl, hb0, _⟩ := hr (by omega)
      have hr1 := hr.below hbel (Nat.le_refl _)
      have h1 : Sv wr w.heap.size (.slice (some ⟨b0, off, none⟩) k c) (l.take k) := ⟨_, c, by rw [List.length_take, Nat.min_eq_left hks], by rw [List.length_take]; omega, hna, hr1.take k⟩
      have h2 := sv_one hr1 hk hlc
      obtain ⟨m, hm⟩ : ∃ m, isIn l[k] (l.take k) = m := ⟨_, rfl⟩
      have hmq : ∀ n, Calls Tryz.prog 150 #[.slice (some ⟨b0, off, none⟩) k c, .slice (some ⟨b0, off + k, none⟩) 1 (c - k), .func (.func 146) #[] #[]] (wr.drewN n) fun e w'' => e = .returned (.bool m) ∧ ∃ m, w'' = wr.drewN m := fun n => (meetSS _ _ _ _ (l.take k) [l[k]] (wr.drewN n) m h1 h2 (by rw [List.length_take]; omega) (by simp) ((meet_one _ _).trans hm)).mono fun e w' ⟨he, hw⟩ => ⟨he, n, hw.symm⟩
      have HM := Lib.hid hmq; have HI := Lib.hid hm; have HN := Lib.hid hn
      clear hmq h1 h2 hm hn hr hr1
      have hk0 : (0 : Int) ≤ (k : Int) := by omega
      have hk1 : (k : Int) ≤ (c : Int) := by omega
      have hck : ¬ c = k := by omega
      obtain ⟨j, hj⟩ : ∃ j, k + 1 = j := ⟨_, rfl⟩
      have hj1 : IntKind.i64.wrap ((k : Int) + 1) = (j : Int) := by rw [← hj]; exact IntWalk.i64_in _ (by omega)
      have hj2 : (j : Int) ≤ (c : Int) := by omega
      have hj3 : (k : Int) ≤ (j : Int) := by omega
      have hj4 : j - k = 1 := by omega
      have HJ := Lib.hid hj
      clear hj
      cases m with
      | true =>
        have hq : true = q := by rw [← HQ.out, show onceB l = false from decide_eq_false (once_no hk (isIn_of HI.out))]; rfl
        subst hq
        go_wp2
        go_quiet ((go_at_call 150; exact HM.out _))
        go_wp2
        go_ret
        exact ⟨rfl, below_dN hbel _⟩
      | false =>
        have HN1 := Lib.hid (once_snoc hk HN.out (notIn_of HI.out))
        clear hck hj2 hj3 hj4
        have hck : ¬ c = k := by omega
        have hj2 : (j : Int) ≤ (c : Int) := by have := HJ.out; omega
        have hj3 : (k : Int) ≤ (j : Int) := by have := HJ.out; omega
        have hj4 : j - k = 1 := by have := HJ.out; omega
        go_wp2
        go_quiet ((go_at_call 150; exact HM.out _))
        go_wp2
        go_roundw
        case rel => exact ⟨k + 1, by rw [HJ.out], by omega, HN1.out, below_dN hbel _⟩
        case measure => have := HJ.out; simp [intOf]; omega
    · rw [List.take_of_length_le (by omega)] at hn
      have hq : false = q := by rw [← HQ.out, show onceB l = true from decide_eq_true hn]; rfl
      subst hq
      go_wp2
      go_ret
      exact ⟨rfl, hbel⟩

theorem meetPP_one (a : List Pe) (x : Pe) : meetPPB a [x] = isIn x.el (a.map Pe.el) := by
  rw [Bool.eq_iff_iff, isIn_iff, List.mem_map]
  unfold meetPPB
  rw [List.any_eq_true]
  constructor
  · rintro ⟨y, h1, h2⟩
    simp only [List.any_cons, List.any_nil, Bool.or_false, decide_eq_true_eq] at h2
    exact ⟨y, h1, h2⟩
  · rintro ⟨y, h1, h2⟩
    exact ⟨y, h1, by simp [h2]⟩
theorem pv_one {w : World} {N b off c k : Nat} {l : List Pw} (hr : Pr w N (some ⟨b, off, none⟩) l) (hk : k < l.length) (hc : l.length ≤ c) : Pv w N (.slice (some ⟨b, off + k * 2, none⟩) 1 (c - k)) [l[k]] := by
  refine ⟨_, _, rfl, by simp; omega, (fun e => by cases e), fun _ => ?_, fun x hx => ?_⟩
  · obtain ⟨b', o', e, hb, hcc⟩ := hr.1 (by omega)
    injection e with e
    injection e with e1 e2
    subst e1 e2
    exact ⟨b, off + k * 2, rfl, hb, fun j hj => by
      have : j = 0 := by simpa using hj
      subst this
      exact hcc k hk⟩
  · rw [List.mem_singleton] at hx
    subst hx
    exact hr.2 _ (List.getElem_mem _)
theorem pv_take {w : World} {N c k : Nat} {A : Option Addr} {l : List Pw} (hr : Pr w N A l) (hk : k ≤ l.length) (hc : l.length ≤ c) (hn : A = none → c = 0) : Pv w N (.slice A k c) (l.take k) := by
  refine ⟨A, c, by rw [List.length_take, Nat.min_eq_left hk], by rw [List.length_take]; omega, hn, fun h0 => ?_, fun x hx => hr.2 x (List.mem_of_mem_take hx)⟩
  rw [List.length_take] at h0
  obtain ⟨b, off, e, hb, hcc⟩ := hr.1 (by omega)
  refine ⟨b, off, e, hb, fun j hj => ?_⟩
  rw [List.length_take] at hj
  rw [List.getElem_take]
  exact hcc j (by omega)
set_option maxRecDepth 100000 in
set_option maxHeartbeats 2000000 in
theorem twiceP (v : Value) (l : List Pw) (w : World) (q : Bool) (h : Pv w w.heap.size v l) (hl : l.length ≤ 1000000) (hq : (!onceB ((pes l).map Pe.el)) = q) :
    Calls Tryz.prog 147 #[v, .func (.func 144) #[] #[]] w fun e w' => e = .returned (.bool q) ∧ Below w.heap.size w w' := by
  obtain ⟨A, c, rfl, hlc, hna, hr⟩ := h
  have HQ := Lib.hid hq; clear hq
  obtain ⟨es, hes⟩ : ∃ es, es = (pes l).map Pe.el := ⟨_, rfl⟩
  have hel : es.length = l.length := by rw [hes, List.length_map, len_pes]
  have htk : ∀ k, es.take k = (pes (l.take k)).map Pe.el := fun k => by rw [hes, ← pes_take, List.map_take]
  have hat : ∀ k (h : k < l.length), es[k]? = some l[k].pe.el := fun k h => by subst hes; simp [pes, h]
  have HE := Lib.hid hel; have HT := Lib.hid htk; have HA := Lib.hid hat
  rw [← hes] at HQ
  clear hes hel htk hat
  go_enter Tryz.func147, Tryz.ntmps147
  go_wp2
  go_loopw [5, 8] (fun _ i wr => ∃ k : Nat, i = .int .i64 k ∧ k ≤ l.length ∧ (es.take k).Nodup ∧ Below w.heap.size w wr) (fun _ i _ => l.length - (intOf i).toNat)
  case atStart => exact ⟨0, rfl, Nat.zero_le _, by simp, Below.refl _ _⟩
  case round =>
    obtain ⟨k, rfl, hks, hn, hbel⟩ := hrel
    by_cases hk : k < l.length
    · obtain ⟨b0, off, rfl, hb0, _⟩ := hr.1 (by omega)
      have hr1 := (hr.below hbel).more hbel.size
      have h1 : Pv wr wr.heap.size (.slice (some ⟨b0, off, none⟩) k c) (l.take k) := pv_take hr1 hks hlc hna
      have h2 := pv_one hr1 hk hlc
      obtain ⟨m, hm⟩ : ∃ m, isIn l[k].pe.el (es.take k) = m := ⟨_, rfl⟩
      have hmm : meetPPB (pes (l.take k)) (pes [l[k]]) = m := by
        rw [← hm, HT.out]
        exact meetPP_one _ _
      have HMC := Lib.hid (fun (wx : World) (hb : Below wr.heap.size wr wx) => meetPP _ _ (l.take k) [l[k]] wx m (h1.on hb) (h2.on hb) (by rw [List.length_take]; omega) (by simp) hmm)
      have HI := Lib.hid hm; have HN := Lib.hid hn
      clear h1 h2 hm hn hr hr1 hmm
      have hk0 : (0 : Int) ≤ (k : Int) := by omega
      have hk1 : (k : Int) ≤ (c : Int) := by omega
      have hck : ¬ c = k := by omega
      obtain ⟨j, hj⟩ : ∃ j, k + 1 = j := ⟨_, rfl⟩
      have hj1 : IntKind.i64.wrap ((k : Int) + 1) = (j : Int) := by rw [← hj]; exact IntWalk.i64_in _ (by omega)
      have hj2 : (j : Int) ≤ (c : Int) := by omega
      have hj3 : (k : Int) ≤ (j : Int) := by omega
      have hj4 : j - k = 1 := by omega
      have HJ := Lib.hid hj; have HBL := Lib.hid hbel
      clear hj hbel
      cases m with
      | true =>
        have hq : true = q := by rw [← HQ.out, show onceB es = false from decide_eq_false (once_no (k := k) (by have := HE.out; omega) (by rw [(List.getElem?_eq_some_iff.1 (HA.out k hk)).2]; exact isIn_of HI.out))]; rfl
        subst hq
        go_wp2
        go_region_with (go_at_call 193; refine (HMC.out _ (by exact bel_eq12 (Below.refl _ wr) rfl rfl rfl rfl)).mono ?_; rintro e w3 ⟨rfl, hb3⟩)
        all_goals go_wp2
        all_goals go_ret
        all_goals exact ⟨rfl, HBL.out.trans ((Below.refl _ wr).drew.trans (hb3.mono HBL.out.size))⟩
      | false =>
        have HN1 := Lib.hid (once_snoc (l := es) (k := k) (by have := HE.out; omega) HN.out (by rw [(List.getElem?_eq_some_iff.1 (HA.out k hk)).2]; exact notIn_of HI.out))
        go_wp2
        go_region_with (go_at_call 193; refine (HMC.out _ (by exact bel_eq12 (Below.refl _ wr) rfl rfl rfl rfl)).mono ?_; rintro e w3 ⟨rfl, hb3⟩)
        all_goals go_wp2
        all_goals go_roundw
        case rel => exact ⟨k + 1, by rw [HJ.out], by omega, HN1.out, HBL.out.trans ((Below.refl _ wr).drew.trans (hb3.mono HBL.out.size))⟩
        case measure => have := HJ.out; simp [intOf]; omega
    · rw [List.take_of_length_le (by have := HE.out; omega)] at hn
      have hq : false = q := by rw [← HQ.out, show onceB es = true from decide_eq_true hn]; rfl
      subst hq
      go_wp2
      go_ret
      exact ⟨rfl, hbel⟩

end Go.Proofs.YtgjlfcamgkeibaaGreatDoor.Co

namespace Go.Proofs.YtgjlfcamgkeibaaGreatDoor.Co
set_option maxRecDepth 100000
set_option linter.unusedVariables false
set_option linter.unusedSimpArgs false
open Go.RowKit Ba Fm Fo Nm Rk
theorem rd_ne {w : World} {N g : Nat} {A : Option Addr} {l : List ByteArray} (h : Rd w N A l) (h1 : N ≤ w.heap.size) (h2 : N ≤ g) :
    0 < l.length → ∃ b0 off, A = some ⟨b0, off, none⟩ ∧ b0 < w.heap.size ∧ b0 ≠ g ∧ ∀ j (h : j < l.length), w.cell? ⟨b0, off + j, none⟩ = some (.string l[j]) := fun h0 => by
  obtain ⟨b, off, e, hb, hc⟩ := h h0
  exact ⟨b, off, e, by omega, by omega, hc⟩
theorem mis_R1 (v : Value) (N : Nat) (l : List ByteArray) (w : World) (g : Nat) (b q : Bool) (h : Sv w N v l) (hN : N ≤ w.heap.size) (hg0 : N ≤ g) (hl : l.length ≤ 1000000) (hsz : ∀ s ∈ l, s.size ≤ 140737488355328) (hg : Bb w g b) (hq : (b || !l.all rightB) = q) :
    Calls Tryz.prog 141 #[.func (.func 142) #[] #[], v, .pointer (some ⟨g, 0, none⟩)] w fun r w' => r = .returned (.tuple #[]) ∧ Bb w' g q ∧ w.grownBy w' (some g) := by
  obtain ⟨A, c, rfl, _, _, hr⟩ := h
  subst hq
  exact mis_R A c l w g b (rd_ne hr hN hg0) hl hsz hg
theorem mis_T1 (v : Value) (N : Nat) (l : List ByteArray) (w : World) (g : Nat) (b q : Bool) (h : Sv w N v l) (hN : N ≤ w.heap.size) (hg0 : N ≤ g) (hl : l.length ≤ 1000000) (hsz : ∀ s ∈ l, s.size ≤ 140737488355328) (hg : Bb w g b) (hq : (b || !l.all Nm.attrB) = q) :
    Calls Tryz.prog 141 #[.func (.func 143) #[] #[], v, .pointer (some ⟨g, 0, none⟩)] w fun r w' => r = .returned (.tuple #[]) ∧ Bb w' g q ∧ w.grownBy w' (some g) := by
  obtain ⟨A, c, rfl, _, _, hr⟩ := h
  subst hq
  exact mis_T A c l w g b (rd_ne hr hN hg0) hl hsz hg
theorem mis_R2 (s : ByteArray) (w : World) (g : Nat) (b q : Bool) (hsz : s.size ≤ 140737488355328) (hg : Bb w g b) (hq : (b || !rightB s) = q) :
    Calls Tryz.prog 141 #[.func (.func 142) #[] #[], .slice (some ⟨w.heap.size, 0, none⟩) 1 1, .pointer (some ⟨g, 0, none⟩)] (w.alloc (.cells #[.string s] 9)) fun r w' => r = .returned (.tuple #[]) ∧ Bb w' g q ∧ w.grownBy w' (some g) := by
  subst hq
  have hgl := hg.lt
  refine (mis_R (some ⟨w.heap.size, 0, none⟩) 1 [s] (w.alloc (.cells #[.string s] 9)) g b (fun _ => ⟨w.heap.size, 0, rfl, by simp, by omega, fun j hj => ?_⟩) (by simp) (fun t ht => by rw [List.mem_singleton] at ht; rw [ht]; exact hsz) (hg.below (below_new12 w _))).mono ?_
  · have : j = 0 := by simpa using hj
    subst this
    rw [World.cell?_alloc_mark]
    rfl
  · rintro r w' ⟨rfl, h1, h2⟩
    refine ⟨rfl, by simpa using h1, (World.grownBy_alloc w _ _).trans h2⟩
theorem all_snocP (p : Pw → Bool) (l : List Pw) (k : Nat) (x : Pw) (h : l[k]? = some x) : (l.take (k + 1)).all p = ((l.take k).all p && p x) := by
  have hk : k < l.length := (List.getElem?_eq_some_iff.1 h).1
  have hx : l[k] = x := (List.getElem?_eq_some_iff.1 h).2
  rw [List.take_succ_eq_append_getElem hk, List.all_append, hx]
  simp
set_option maxRecDepth 100000 in
set_option maxHeartbeats 4000000 in
theorem misnames1 (v : Value) (c : Cf) (w : World) (q : Bool) (h : Cv w w.heap.size v c) (hs : Sm c) (hq : (!namesB c) = q) :
    Calls Tryz.prog 94 #[v] w fun r w' => r = .returned (.bool q) ∧ Below w.heap.size w w' := by
  have hmf : ∀ (fn : Fn) (first cap : Array Value) (w : World), (Instr.makeFunc fn first cap).run Tryz.prog w = .ok (.func fn first cap) w := fun _ _ _ _ => rfl
  obtain ⟨vE, vR, vA, vP, l, rfl, h⟩ := h
  obtain ⟨w0, hw0⟩ : ∃ w0, (w.alloc (confO c vE vR vA vP)).alloc (.cells #[.bool false] 4) = w0 := ⟨_, rfl⟩
  have hba : Below w.heap.size w (w.alloc (confO c vE vR vA vP)) := below_new12 w _
  have hb1 : Below w.heap.size w w0 := hw0 ▸ hba.trans ((below_new12 _ _).mono hba.size)
  have hbx : Bx w0 w.heap.size c vE vR vA vP := hw0 ▸ (Bx.new w c vE vR vA vP).below (below_new12 _ _) (by simp)
  have hbb : Bb w0 (w.heap.size + 1) false := by
    rw [← hw0]
    unfold Bb
    have := heap_alloc_new (w.alloc (confO c vE vR vA vP)) (.cells #[.bool false] 4)
    rwa [World.size_alloc] at this
  have hz : w0.heap.size = w.heap.size + 2 := by rw [← hw0]; simp
  obtain ⟨A, cp, rfl, hcp, hna, hr⟩ := h.p
  have hpl : c.per.length = l.length := by rw [← h.m, len_pes]
  have hl : l.length ≤ 1000 := by have := hs.p; omega
  have hlen : ∀ x ∈ l, x.pe.at_.length ≤ 1000 ∧ x.pe.el.size ≤ 140737488355328 ∧ ∀ s ∈ x.pe.at_, s.size ≤ 140737488355328 := fun x hx => by
    have hm : x.pe ∈ c.per := by rw [← h.m]; exact List.mem_map.2 ⟨x, hx, rfl⟩
    exact ⟨hs.pa _ hm, hs.ps _ hm⟩
  obtain ⟨b1, hb1'⟩ : ∃ b, (false || !c.els.all rightB) = b := ⟨_, rfl⟩
  obtain ⟨b2, hb2'⟩ : ∃ b, (b1 || !c.reps.all rightB) = b := ⟨_, rfl⟩
  obtain ⟨b3, hb3'⟩ : ∃ b, (b2 || !c.ats.all Nm.attrB) = b := ⟨_, rfl⟩
  have hfin : (b3 || !l.all fun x => rightB x.pe.el && x.pe.at_.all Nm.attrB) = q := by
    rw [← hq, ← hb3', ← hb2', ← hb1']
    unfold namesB
    rw [← h.m]
    unfold pes
    rw [List.all_map]
    simp only [Bool.not_and, Bool.false_or]
    rfl
  have HQ := Lib.hid hfin; have HLEN := Lib.hid hlen; have HW := Lib.hid hw0; have HB1 := Lib.hid hb1; have HR := Lib.hid hr
  -- what stays under a growth of the truth's block
  have hst : ∀ wx, w0.grownBy wx (some (w.heap.size + 1)) → Below w.heap.size w wx := fun wx hg => hb1.grown hg (by omega) (fun k hk => by injection hk with hk; omega)
  have hbox : ∀ wx, w0.grownBy wx (some (w.heap.size + 1)) → Bx wx w.heap.size c vE vR vA (.slice A l.length cp) := fun wx hg j u hu => (World.cell?_of_block (a := ⟨w.heap.size, 0 + j, none⟩) (hg.block _ (by show w.heap.size < _; omega) (by simp))).trans (hbx j u hu)
  have HST := Lib.hid hst; have HBX := Lib.hid hbox; have HBB := Lib.hid hbb
  have HE := Lib.hid (fun wx hg hb => mis_R1 vE w.heap.size c.els wx (w.heap.size + 1) false b1 (h.e.below (hst wx hg) (Nat.le_refl _)) (hst wx hg).size (Nat.le_succ _) (by have := hs.e; omega) hs.es hb hb1')
  have HRR := Lib.hid (fun wx hg hb => mis_R1 vR w.heap.size c.reps wx (w.heap.size + 1) b1 b2 (h.r.below (hst wx hg) (Nat.le_refl _)) (hst wx hg).size (Nat.le_succ _) (by have := hs.r; omega) hs.rs hb hb2')
  have HAA := Lib.hid (fun wx hg hb => mis_T1 vA w.heap.size c.ats wx (w.heap.size + 1) b2 b3 (h.a.below (hst wx hg) (Nat.le_refl _)) (hst wx hg).size (Nat.le_succ _) (by have := hs.a; omega) hs.as_ hb hb3')
  have g2 := (hbox w0 (World.grownBy.refl _ _)).at_.2.2.1
  clear hq hfin hlen hs h hpl hr hb1 hbx hbb hst hbox hb1' hb2' hb3' hba hw0
  go_enter Tryz.func94, Tryz.ntmps94
  go_upto_region 3 with (fail)
  rw [HW.out]
  go_wp2_with fail
  refine (HE.out w0 (World.grownBy.refl _ _) HBB.out).mono ?_
  rintro r w1 ⟨rfl, hbb1, hg1⟩
  have g3 := (HBX.out w1 hg1).at_.2.2.2.1
  clear g2
  have HBB1 := Lib.hid hbb1; have HG1 := Lib.hid hg1; clear hbb1 hg1
  go_wp2_with fail
  refine (HRR.out w1 HG1.out HBB1.out).mono ?_
  rintro r w2 ⟨rfl, hbb2, hg2⟩
  have HBB2 := Lib.hid hbb2; have HG2 := Lib.hid (HG1.out.trans hg2); clear hbb2 hg2 g3
  have g4 := (HBX.out w2 HG2.out).at_.2.2.2.2.1
  go_wp2_with fail
  refine (HAA.out w2 HG2.out HBB2.out).mono ?_
  rintro r w3 ⟨rfl, hbb3, hg3⟩
  have HBB3 := Lib.hid hbb3; have HG3 := Lib.hid (HG2.out.trans hg3); clear hbb3 hg3 g4
  have g5 := (HBX.out w3 HG3.out).at_.2.2.2.2.2.1
  clear hmf
  go_wp2
  clear g5
  go_loopw [6, 23] (fun _ i wr => ∃ k : Nat, i = .int .i64 k ∧ k ≤ l.length ∧ Bb wr (w.heap.size + 1) (b3 || !(l.take k).all fun x => rightB x.pe.el && x.pe.at_.all Nm.attrB) ∧ w0.grownBy wr (some (w.heap.size + 1))) (fun _ i _ => l.length - (intOf i).toNat)
  case atStart => exact ⟨0, rfl, Nat.zero_le _, by simpa using HBB3.out, HG3.out⟩
  case round =>
    obtain ⟨k, rfl, hks, hn, hgr⟩ := hrel
    by_cases hk : k < l.length
    · have hbel := HST.out wr hgr
      obtain ⟨b, off, x, rfl, hb, hx, hcs, hsx, hxm⟩ := (HR.out.below hbel).at_ k hk
      obtain ⟨k0, k1⟩ := range2p hcs
      obtain ⟨hx1, hx2, hx3⟩ := HLEN.out x hxm
      have hsn := all_snocP (fun x => rightB x.pe.el && x.pe.at_.all Nm.attrB) l k x hx
      obtain ⟨t, ht⟩ : ∃ t, (b3 || !(l.take k).all fun x => rightB x.pe.el && x.pe.at_.all Nm.attrB) = t := ⟨_, rfl⟩
      rw [ht] at hn
      obtain ⟨t1, ht1⟩ : ∃ t1, (t || !rightB x.pe.el) = t1 := ⟨_, rfl⟩
      obtain ⟨t2, ht2⟩ : ∃ t2, (t1 || !x.pe.at_.all Nm.attrB) = t2 := ⟨_, rfl⟩
      have hsn2 : (b3 || !(l.take (k + 1)).all fun x => rightB x.pe.el && x.pe.at_.all Nm.attrB) = t2 := by
        rw [hsn, ← ht2, ← ht1, ← ht]
        cases b3 <;> cases ((l.take k).all fun x => rightB x.pe.el && x.pe.at_.all Nm.attrB) <;> cases rightB x.pe.el <;> cases x.pe.at_.all Nm.attrB <;> rfl
      have hgr1 := hgr.trans (World.grownBy_alloc wr (perO x) (some (w.heap.size + 1)))
      have hz1 : w.heap.size ≤ wr.heap.size := hbel.size
      have hgne : ¬ wr.heap.size = w.heap.size + 1 := by have := hgr.size; omega
      have hpx : ∀ wx, (wr.alloc (perO x)).grownBy wx (some (w.heap.size + 1)) → wx.cell? ⟨wr.heap.size, 1, none⟩ = some (.slice x.A x.pe.at_.length x.c) := fun wx hg => (World.cell?_of_block (a := ⟨wr.heap.size, 1, none⟩) (hg.block _ (by simp) (by simpa using hgne))).trans (pbox_at wr x 1)
      have HPX := Lib.hid hpx
      have hR2 := mis_R2 x.pe.el (wr.alloc (perO x)) (w.heap.size + 1) t t1 hx2 (hn.below (below_new12 wr (perO x))) ht1
      rw [World.size_alloc] at hR2
      have HR2 := Lib.hid hR2
      clear hR2
      have hbw : ∀ wx, (wr.alloc (perO x)).grownBy wx (some (w.heap.size + 1)) → Below w.heap.size wr wx := fun wx hg => ((Below.refl w.heap.size wr).alloc hz1 _).grown hg (by simp; omega) (fun k hk => by injection hk with hk; omega)
      have HT2 := Lib.hid (fun wx (hg : (wr.alloc (perO x)).grownBy wx (some (w.heap.size + 1))) hb => mis_T1 (.slice x.A x.pe.at_.length x.c) w.heap.size x.pe.at_ wx (w.heap.size + 1) t1 t2 (hsx.below (hbw wx hg) (Nat.le_refl _)) (HST.out wx (hgr1.trans hg)).size (Nat.le_succ _) (by omega) hx3 hb ht2)
      have HSN := Lib.hid hsn2; have HGR := Lib.hid hgr1
      clear hcs hsx hsn hsn2 hgr hgr1 hn ht ht1 ht2 hbel hpx hx3 hx2 hbw
      go_wp2_with fail
      refine HR2.out.mono ?_
      rintro r w4 ⟨rfl, hbb4, hg4⟩
      have p1 := HPX.out w4 hg4
      have HB4 := Lib.hid hbb4; have HG4 := Lib.hid hg4
      clear hbb4 hg4
      go_wp2_with fail
      refine (HT2.out w4 HG4.out HB4.out).mono ?_
      rintro r w5 ⟨rfl, hbb5, hg5⟩
      have HB5 := Lib.hid hbb5; have HG5 := Lib.hid (HGR.out.trans (HG4.out.trans hg5))
      clear hbb5 hg5
      go_wp2
      go_roundw
      case rel => exact ⟨k + 1, by go_num, by omega, by rw [HSN.out]; exact HB5.out, HG5.out⟩
      case measure => simp [intOf]; omega
    · rw [List.take_of_length_le (by omega), HQ.out] at hn
      have g0 := hn.cell
      have HBL := Lib.hid (HST.out wr hgr)
      clear hn hgr
      go_wp2
      go_ret
      exact ⟨rfl, HBL.out⟩

set_option maxRecDepth 100000 in
set_option maxHeartbeats 4000000 in
theorem repeats1 (v : Value) (c : Cf) (w : World) (q : Bool) (h : Cv w w.heap.size v c) (hs : Sm c) (hq : (!singleB c) = q) :
    Calls Tryz.prog 95 #[v] w fun r w' => r = .returned (.bool q) ∧ Below w.heap.size w w' := by
  obtain ⟨vE, vR, vA, vP, l, rfl, h⟩ := h
  obtain ⟨w0, hw0⟩ : ∃ w0, w.alloc (confO c vE vR vA vP) = w0 := ⟨_, rfl⟩
  have hb1 : Below w.heap.size w w0 := hw0 ▸ below_new12 w (confO c vE vR vA vP)
  have hbx : Bx w0 w.heap.size c vE vR vA vP := hw0 ▸ Bx.new w c vE vR vA vP
  have hz : w.heap.size < w0.heap.size := by rw [← hw0]; simp
  have h0 := h.on hb1
  obtain ⟨A, cp, rfl, hcp, hna, hr⟩ := h0.p
  have hpl : c.per.length = l.length := by rw [← h.m, len_pes]
  have hl : l.length ≤ 1000 := by have := hs.p; omega
  have hlen : ∀ x ∈ l, x.pe.at_.length ≤ 1000 := fun x hx => hs.pa _ (by rw [← h.m]; exact List.mem_map.2 ⟨x, hx, rfl⟩)
  obtain ⟨e1, he1⟩ : ∃ b, (!onceB c.els) = b := ⟨_, rfl⟩
  obtain ⟨e2, he2⟩ : ∃ b, (!onceB c.reps) = b := ⟨_, rfl⟩
  obtain ⟨e3, he3⟩ : ∃ b, (!onceB c.ats) = b := ⟨_, rfl⟩
  obtain ⟨e4, he4⟩ : ∃ b, (!onceB ((pes l).map Pe.el)) = b := ⟨_, rfl⟩
  have hfin : ((l.any fun x => !onceB x.pe.at_) || (e1 || e2 || e3 || e4)) = q := by
    rw [← hq, ← he1, ← he2, ← he3, ← he4]
    unfold singleB
    rw [← h.m]
    unfold pes
    rw [List.all_map, List.any_eq_not_all_not, show (l.all ((fun p => onceB p.at_) ∘ Pw.pe)) = l.all fun x => onceB x.pe.at_ from rfl]
    simp only [Bool.not_not]
    cases onceB c.els <;> cases onceB c.reps <;> cases onceB c.ats <;> cases onceB ((l.map Pw.pe).map Pe.el) <;> cases (l.all fun x => onceB x.pe.at_) <;> rfl
  have HQ := Lib.hid hfin; have HLEN := Lib.hid hlen; have HW := Lib.hid hw0; have HB1 := Lib.hid hb1; have HR := Lib.hid hr
  have HBX := Lib.hid (fun wx (hb : Below w0.heap.size w0 wx) => hbx.below hb hz)
  have HE := Lib.hid (fun wx hb => twiceS vE c.els wx e1 (sv_on h0.e hb) (by have := hs.e; omega) he1)
  have HRR := Lib.hid (fun wx hb => twiceS vR c.reps wx e2 (sv_on h0.r hb) (by have := hs.r; omega) he2)
  have HAA := Lib.hid (fun wx hb => twiceS vA c.ats wx e3 (sv_on h0.a hb) (by have := hs.a; omega) he3)
  have HPP := Lib.hid (fun wx hb => twiceP (.slice A l.length cp) l wx e4 (h0.p.on hb) (by omega) he4)
  clear hq hfin hlen hs h h0 hpl hr hb1 hbx he1 he2 he3 he4 hw0
  go_enter Tryz.func95, Tryz.ntmps95
  go_wp2
  rw [HW.out]
  go_loopw [5, 9] (fun _ i wr => ∃ k : Nat, i = .int .i64 k ∧ k ≤ l.length ∧ ((l.take k).any fun x => !onceB x.pe.at_) = false ∧ Below w0.heap.size w0 wr) (fun _ i _ => l.length - (intOf i).toNat)
  case atStart => exact ⟨0, rfl, Nat.zero_le _, rfl, Below.refl _ _⟩
  case round =>
    obtain ⟨k, rfl, hks, hn, hbel⟩ := hrel
    by_cases hk : k < l.length
    · obtain ⟨b, off, x, rfl, hb, hx, hcs, hsx, hxm⟩ := (HR.out.below hbel).at_ k hk
      obtain ⟨k0, k1⟩ := range2p hcs
      have hx1 := HLEN.out x hxm
      have hsn := any_snoc (fun x : Pw => !onceB x.pe.at_) l k x hx
      rw [hn, Bool.false_or] at hsn
      obtain ⟨t, ht⟩ : ∃ t, (!onceB x.pe.at_) = t := ⟨_, rfl⟩
      rw [ht] at hsn
      have hsx1 : Sx (wr.alloc (perO x)) (wr.alloc (perO x)).heap.size x := Sx.boxed hsx hbel (perO x)
      have HT := Lib.hid (twiceS (.slice x.A x.pe.at_.length x.c) x.pe.at_ _ t hsx1 (by omega) ht)
      have HSN := Lib.hid hsn; have HBL := Lib.hid (hbel.trans ((below_new12 wr (perO x)).mono hbel.size))
      clear hcs hsx hsx1 hsn hn hbel
      cases t with
      | true =>
        have HM := Lib.hid (any_yes (fun x : Pw => !onceB x.pe.at_) l x hxm ht)
        clear ht
        go_wp2_with fail
        refine HT.out.mono ?_
        rintro r w3 ⟨rfl, hb3⟩
        go_wp2
        go_ret
        exact ⟨ret_bool (by rw [← HQ.out, HM.out]; rfl), HB1.out.trans ((HBL.out.trans (hb3.mono HBL.out.size)).mono HB1.out.size)⟩
      | false =>
        clear ht
        go_wp2_with fail
        refine HT.out.mono ?_
        rintro r w3 ⟨rfl, hb3⟩
        go_wp2
        go_roundw
        case rel => exact ⟨k + 1, by go_num, by omega, HSN.out, HBL.out.trans (hb3.mono HBL.out.size)⟩
        case measure => simp [intOf]; omega
    · rw [List.take_of_length_le (by omega)] at hn
      have hq := HQ.out
      rw [hn, Bool.false_or] at hq
      have g2 := (HBX.out wr hbel).at_.2.2.1
      have HBL := Lib.hid hbel; have HQ2 := Lib.hid hq
      clear hn hbel hq
      cases e1 with
      | true =>
        go_wp2_with (go_at_call 145; refine (HE.out _ HBL.out).mono ?_; rintro r w3 ⟨rfl, hb3⟩)
        go_ret
        exact ⟨ret_bool (by rw [← HQ2.out]; rfl), HB1.out.trans ((HBL.out.trans (hb3.mono HBL.out.size)).mono (Nat.le_of_lt hz))⟩
      | false =>
        go_wp2_with fail
        refine (HE.out _ HBL.out).mono ?_
        rintro r w3 ⟨rfl, hb3⟩
        have HBL3 := Lib.hid (HBL.out.trans (hb3.mono HBL.out.size))
        clear hb3 g2
        have g3 := (HBX.out w3 HBL3.out).at_.2.2.2.1
        cases e2 with
        | true =>
          go_wp2_with (go_at_call 145; refine (HRR.out _ HBL3.out).mono ?_; rintro r w4 ⟨rfl, hb4⟩)
          go_ret
          exact ⟨ret_bool (by rw [← HQ2.out]; rfl), HB1.out.trans ((HBL3.out.trans (hb4.mono HBL3.out.size)).mono (Nat.le_of_lt hz))⟩
        | false =>
          go_wp2_with fail
          refine (HRR.out _ HBL3.out).mono ?_
          rintro r w4 ⟨rfl, hb4⟩
          have HBL4 := Lib.hid (HBL3.out.trans (hb4.mono HBL3.out.size))
          clear hb4 g3
          have g4 := (HBX.out w4 HBL4.out).at_.2.2.2.2.1
          cases e3 with
          | true =>
            go_wp2_with (go_at_call 145; refine (HAA.out _ HBL4.out).mono ?_; rintro r w5 ⟨rfl, hb5⟩)
            go_ret
            exact ⟨ret_bool (by rw [← HQ2.out]; rfl), HB1.out.trans ((HBL4.out.trans (hb5.mono HBL4.out.size)).mono (Nat.le_of_lt hz))⟩
          | false =>
            go_wp2_with fail
            refine (HAA.out _ HBL4.out).mono ?_
            rintro r w5 ⟨rfl, hb5⟩
            have HBL5 := Lib.hid (HBL4.out.trans (hb5.mono HBL4.out.size))
            clear hb5 g4
            have g5 := (HBX.out w5 HBL5.out).at_.2.2.2.2.2.1
            go_wp2_with (go_at_call 147; refine (HPP.out _ HBL5.out).mono ?_; rintro r w6 ⟨rfl, hb6⟩)
            go_ret
            exact ⟨ret_bool (by rw [← HQ2.out]; rfl), HB1.out.trans ((HBL5.out.trans (hb6.mono HBL5.out.size)).mono (Nat.le_of_lt hz))⟩

end Go.Proofs.YtgjlfcamgkeibaaGreatDoor.Co
