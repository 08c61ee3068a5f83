/-
  Walks of stage 12: Strip.
  Walks of stage 12: All, Plain, the document's Plain.
  Walks of stage 12: exceeds, misnames and its closure.
  Walks of stage 12: misnames, repeats, contradicts, Check.
  Walks of stage 12: contradicts, Check.
  Walk of stage 12: the calls whose answers the document fixes.
  Stage 12: what the laws have in common: a configuration bounded, in a box of the law's own.
  Stage 12: ConfigKeeps.
-/
import Derived.Test.YtnogneknoponkaaCk03
import Derived.Test.YtnogneknoponkaaCk01
import Derived.Test.YtnogneknoponkaaCk02
import Derived.Deep.Cut
import Derived.Deep.CutRange
namespace Go.Proofs.Ytnogneknoponkaa.Co
set_option maxRecDepth 100000
set_option linter.unusedVariables false
set_option linter.unusedSimpArgs false
open Go.RowKit Ba Fm Fo Nm Rk
theorem row_below {w w' : World} {N size n : Nat} {e : TypeId} {v : Value} {xs : List Value} (h : w.ownsRow N e size v n xs) (hb : Below w.heap.size w w') : w'.ownsRow N e size v n xs := by
  refine ⟨h.1, ?_⟩
  rcases h.2 with hn | ⟨b, cap, cur, hv, hN, hh, rest⟩
  · exact .inl hn
  · exact .inr ⟨b, cap, cur, hv, hN, (hb.block b (Array.getElem?_eq_some_iff.1 hh).1).trans hh, rest⟩
theorem strip_yes {c : Cf} (h : c.allow = true) : (stripC c).els = mns c.els unsafeL := by
  show (if c.allow = true then mns c.els unsafeL else c.els ++ mns unsafeL c.els) = _
  rw [if_pos h]
theorem strip_no {c : Cf} (h : c.allow = false) : (stripC c).els = c.els ++ mns unsafeL c.els := by
  show (if c.allow = true then mns c.els unsafeL else c.els ++ mns unsafeL c.els) = _
  rw [if_neg (by simp [h])]
theorem strip_own {N0 N1 M M2 : Nat} {w w' : World} {c : Cf} {s1 vE vR vA vP : Value} {l : List Pw} (hal : c.allow = false) (hg : w.grownBy w' s1.ownBlock) (hlow : ∀ b, s1.ownBlock = some b → b < M) (hlow2 : ∀ b, s1.ownBlock = some b → b < M2)
    (hM : N0 ≤ M) (hM2 : N0 ≤ M2) (hN : N0 ≤ N1) (he : Sown N1 w' vE (sameL c.els ++ mns unsafeL c.els)) (hr : Sown M2 w vR (mns c.reps unsafeL)) (ha : Sown M w vA (sameL c.ats)) (hp : w.ownsRow M 39 2 vP l.length (l.flatMap pcells)) (hf : ∀ x ∈ l, Fp M w x) (hm : pes l = c.per) : Own12 N0 w' (stripC c) vE vR vA vP l :=
  have hf' : ∀ x ∈ l, Fp N0 w' x := fun x hx => World.ownsRow.mono (row_elder (hf x hx) hg hlow) hM
  ⟨by rw [strip_no hal]; exact he.mono hN, World.ownsRow.mono (row_elder hr hg hlow2) hM2, World.ownsRow.mono (row_elder ha hg hlow) hM, po_of (World.ownsRow.mono (row_elder hp hg hlow) hM) hf', hf', hm⟩
theorem same_per (l : List Pe) : l.map (fun p => (⟨p.el, sameL p.at_⟩ : Pe)) = l := (List.map_congr_left (g := id) fun p _ => rfl).trans (List.map_id l)
set_option maxRecDepth 100000 in
set_option maxHeartbeats 4000000 in
theorem strip1 (v : Value) (c : Cf) (w : World) (h : Cv w w.heap.size v c) (hs : Sm c) :
    Calls Try.prog 15 #[v] w fun r w' => ∃ v', r = .returned v' ∧ Cow w.heap.size w' v' (stripC c) ∧ Below w.heap.size w w' := by
  obtain ⟨vE, vR, vA, vP, l, rfl, h⟩ := h
  obtain ⟨w0, hw0⟩ : ∃ w0, (w.alloc (confO c vE vR vA vP)).alloc zeroO = w0 := ⟨_, rfl⟩
  have hba : Below w.heap.size w (w.alloc (confO c vE vR vA vP)) := below_new12 w _
  have hb1 : Below w.heap.size w w0 := hw0 ▸ hba.trans ((below_new12 _ _).mono hba.size)
  have hz : w0.heap.size = w.heap.size + 2 := by rw [← hw0]; simp
  have hzb : Hb w0 (w.heap.size + 1) zeroA := by
    rw [← hw0]
    have := Hb.new (w.alloc (confO c vE vR vA vP)) zeroA
    rwa [World.size_alloc] at this
  have hcv : Cv w0 w0.heap.size (confV c vE vR vA vP) c := ⟨vE, vR, vA, vP, l, rfl, h.on hb1⟩
  have hbx : Bx w0 w.heap.size c vE vR vA vP := hw0 ▸ (Bx.new w c vE vR vA vP).below (below_new12 _ _) (by simp)
  have HRG := Lib.hid (hbx : w0.rangeAt w.heap.size 0 _)
  have HRM := Lib.hid (remade_C (confV c vE vR vA vP) c w0 hcv hs)
  have HW := Lib.hid hw0; have HB1 := Lib.hid hb1; have HZB := Lib.hid hzb; have HBX := Lib.hid hbx; have HP := Lib.hid h
  have hel := hs.e; have hrl := hs.r
  clear hs h hb1 hw0 hba hzb hcv hbx
  go_enter Try.func15, Try.ntmps15
  go_upto_region 1 with (fail)
  rw [HW.out]
  go_upto_region 2 with (first
    | (show wpList _ _ _ (⟨_, Op.load 25 (.tmp 1), _, _, _, _⟩ :: _) _ _; refine wpList_load_mid rfl 25 (.tmp 1) rfl w.heap.size 0 rfl _ _ HRG.out Try.underlying25 rfl size_conf ?_)
    | (go_at_call 33; refine HRM.out.mono ?_; rintro r w1 ⟨x1, x2, x3, x4, l1, M, rfl, hM, hlow, ho1, ho2, ho3, ho4, hf4, hm4, hb4⟩; obtain ⟨A1, n1, k1, rfl⟩ := own_shape ho1; obtain ⟨A2, n2, k2, rfl⟩ := own_shape ho2; obtain ⟨A3, n3, k3, rfl⟩ := own_shape ho3; obtain ⟨A4, n4, k4, rfl⟩ := po_shape ho4; have HO1 := Lib.hid ho1; have HO2 := Lib.hid ho2; have HO3 := Lib.hid ho3; have HO4 := Lib.hid ho4; have HF4 := Lib.hid hf4; have HM4 := Lib.hid hm4; have HB4 := Lib.hid hb4; have HMM := Lib.hid hM; have HLOW := Lib.hid hlow; have HLOW1 := Lib.hid (show ∀ b, (Value.slice A1 n1 k1).ownBlock = some b → b < w1.heap.size from fun b hb => (World.ownsRow.lt ho1 b hb).2); clear ho1 ho2 ho3 ho4 hf4 hm4 hb4 hM hlow)
    | fail)
  obtain ⟨w2, hw2⟩ : ∃ w2, w1.alloc (confO c (.slice A1 n1 k1) (.slice A2 n2 k2) (.slice A3 n3 k3) (.slice A4 n4 k4)) = w2 := ⟨_, rfl⟩
  have hb2 : Below w1.heap.size w1 w2 := hw2 ▸ below_new12 w1 _
  have hx2 : Hb w2 w1.heap.size #[.bool c.allow, .bool c.attrsAllow, .slice A1 n1 k1, .slice A2 n2 k2, .slice A3 n3 k3, .slice A4 n4 k4, .bool c.comments, .bool c.dataAttrs] := hw2 ▸ Hb.new w1 _
  have hbel1 : Below w.heap.size w w1 := HB1.out.trans (HB4.out.mono HB1.out.size)
  have hz1 : w.heap.size + 1 < w1.heap.size := Nat.lt_of_lt_of_le (by omega) HB4.out.size
  have hb02 : Below w0.heap.size w0 w2 := HB4.out.trans (hb2.mono HB4.out.size)
  have g3 := (HBX.out.below hb02 (by omega)).at_.2.2.2.1
  have HB02 := Lib.hid hb02; have HB2 := Lib.hid hb2; have HX2 := Lib.hid hx2; have HBL1 := Lib.hid hbel1
  have HBL2 := Lib.hid (HBL1.out.trans (hb2.mono HBL1.out.size))
  have HLOW2 := Lib.hid (fun b hb => Nat.lt_of_lt_of_le (HLOW1.out b hb) hb2.size)
  rw [hw2]
  clear hb2 hx2 hw2 hbel1 hb02
  go_wp2_with fail
  refine (safe12 vR c.reps w2 (sv_on HP.out.r HBL2.out) (by omega)).mono ?_
  rintro r w3 ⟨v6, rfl, ho6, hb3⟩
  obtain ⟨A6, n6, k6, rfl⟩ := own_shape ho6
  have hx3 := HX2.out.on hb3
  have t3 := hx3.cell 3 _ rfl; have f3 := hx3.f 3
  have HO6 := Lib.hid ho6; have HB3 := Lib.hid hb3; have HX3 := Lib.hid hx3
  clear hx3 ho6 hb3 g3
  go_upto_region 3 with (fail)
  obtain ⟨W3, hW3⟩ : ∃ W3, w3.setCell ⟨w1.heap.size, 3, none⟩ (.slice A6 n6 k6) = W3 := ⟨_, rfl⟩
  have hg3 : w3.grownBy W3 (some w1.heap.size) := hW3 ▸ gcell12 w3 _ 3 _
  have hx4 : Hb W3 w1.heap.size #[.bool c.allow, .bool c.attrsAllow, .slice A1 n1 k1, .slice A6 n6 k6, .slice A3 n3 k3, .slice A4 n4 k4, .bool c.comments, .bool c.dataAttrs] := hW3 ▸ HX3.out.set 3 (.slice A6 n6 k6)
  have hb03 : Below w0.heap.size w0 W3 := (HB02.out.trans (HB3.out.mono HB02.out.size)).grown hg3 (Nat.le_trans HB02.out.size HB3.out.size) (fun q hq => by injection hq with hq; have := HB4.out.size; omega)
  have hbelW : Below w.heap.size w W3 := HB1.out.trans (hb03.mono HB1.out.size)
  have hst : ∀ {N : Nat} {v : Value} {m : List ByteArray}, Sown N w1 v m → Sown N W3 v m := fun h => own_boxed ((h.below HB2.out (Nat.le_refl _)).below HB3.out (Nat.le_refl _)) HX3.out hg3
  have hr6 : Sown w2.heap.size W3 (.slice A6 n6 k6) (mns c.reps unsafeL) := own_boxed HO6.out HX3.out hg3
  have hfM : ∀ x ∈ l1, Fp M W3 x := fun x hx => hst (HF4.out x hx)
  have hpM := row_boxed (row_below (row_below (show w1.ownsRow M 39 2 (.slice A4 n4 k4) l1.length (l1.flatMap pcells) from HO4.out.1) HB2.out) HB3.out) (by decide) HX3.out hg3
  have hzW := (((HZB.out.on HB4.out).on HB2.out).on HB3.out).keep (hg3.block _ (Nat.lt_of_lt_of_le (by omega) (Nat.le_trans HB2.out.size HB3.out.size)) (by simp; omega))
  obtain ⟨b0, b1, b2, b3, b4, b5, b6, b7⟩ := (HBX.out.below hb03 (by omega)).at_
  have HWM := Lib.hid (Nat.le_trans HB1.out.size HMM.out); have HW0 := Lib.hid (show w.heap.size ≤ w0.heap.size by omega)
  have HX4 := Lib.hid hx4; have HB03 := Lib.hid hb03; have HBW := Lib.hid hbelW; have HE1 := Lib.hid (hst HO1.out); have HR6 := Lib.hid hr6; have HA3 := Lib.hid (hst HO3.out); have HFM := Lib.hid hfM; have HPM := Lib.hid hpM; have HZW := Lib.hid hzW
  have t2 := hx4.cell 2 _ rfl; have f2 := hx4.f 2
  rw [hW3]
  clear hx4 hb03 hbelW hst hr6 hfM hpM hzW hW3 hg3 t3 f3 b1 b3 b4 b5 b6 b7
  cases hal : c.allow with
  | true =>
    rw [hal] at b0
    have HAL := Lib.hid hal; clear hal
    go_wp2_with fail
    refine (safe12 vE c.els W3 (sv_on HP.out.e HBW.out) (by omega)).mono ?_
    rintro r w4 ⟨v7, rfl, ho7, hb4⟩
    obtain ⟨A7, n7, k7, rfl⟩ := own_shape ho7
    have hx5 := HX4.out.on hb4
    have t2 := hx5.cell 2 _ rfl; have f2 := hx5.f 2
    have ho12 : Own12 w.heap.size w4 (stripC c) (.slice A7 n7 k7) (.slice A6 n6 k6) (.slice A3 n3 k3) (.slice A4 n4 k4) l1 := Own12.mono (N := w.heap.size) ⟨by rw [strip_yes HAL.out]; exact ho7.mono HBW.out.size, (HR6.out.mono HBL2.out.size).below hb4 (Nat.le_refl _), (HA3.out.mono HWM.out).below hb4 (Nat.le_refl _), (po_of (World.ownsRow.mono HPM.out HWM.out) (fun x hx => (HFM.out x hx).mono HWM.out)).below hb4, fun x hx => ((HFM.out x hx).mono HWM.out).below hb4, HM4.out.trans (same_per _)⟩ (Nat.le_refl _)
    have hz5 := HZW.out.on hb4
    have hbel5 := HBW.out.trans (hb4.mono HBW.out.size)
    clear b0 b2
    have HX5 := Lib.hid hx5; have HZ5 := Lib.hid hz5; have HO12 := Lib.hid ho12; have HBL5 := Lib.hid hbel5
    clear hx5 hz5 ho12 hbel5
    go_upto_region 6 with (fail)
    obtain ⟨W9, hW9⟩ : ∃ W9, w4.setCell ⟨w1.heap.size, 2, none⟩ (.slice A7 n7 k7) = W9 := ⟨_, rfl⟩
    have hg9 : w4.grownBy W9 (some w1.heap.size) := hW9 ▸ gcell12 w4 _ 2 _
    have hx9 : Hb W9 w1.heap.size #[.bool c.allow, .bool c.attrsAllow, .slice A7 n7 k7, .slice A6 n6 k6, .slice A3 n3 k3, .slice A4 n4 k4, .bool c.comments, .bool c.dataAttrs] := hW9 ▸ HX5.out.set 2 (.slice A7 n7 k7)
    have hz9 : Hb W9 (w.heap.size + 1) zeroA := HZ5.out.keep (hg9.block _ HZ5.out.lt (by simp; omega))
    rw [hW9]
    have HRG9 := Lib.hid hx9.range; have HTH := Lib.hid (hz9.there 8 rfl)
    clear hW9
    go_wp2_with (first
      | (show wpList _ _ _ (⟨_, Op.load 25 (.tmp 3), _, _, _, _⟩ :: _) _ _; refine wpList_load_mid rfl 25 (.tmp 3) rfl w1.heap.size 0 rfl _ _ HRG9.out Try.underlying25 rfl size_conf ?_)
      | (show wpList _ _ _ (⟨none, Op.store 25 (.tmp 2) (.tmp 24), _, _, _, _⟩ :: _) _ _; refine wpList_store_mid rfl 25 (.tmp 2) (.tmp 24) rfl (w.heap.size + 1) 0 #[.bool c.allow, .bool c.attrsAllow, .slice A7 n7 k7, .slice A6 n6 k6, .slice A3 n3 k3, .slice A4 n4 k4, .bool c.comments, .bool c.dataAttrs] rfl rfl HTH.out size_conf (by simp [Value.oneCell']) ?_))
    obtain ⟨W, hW, hgW, hbW⟩ := res_box (c := c) (vE := .slice A7 n7 k7) (vR := .slice A6 n6 k6) (vA := .slice A3 n3 k3) (vP := .slice A4 n4 k4) hz9 rfl
    obtain ⟨z0, z1, z2, z3, z4, z5, z6, z7⟩ := hbW.at_
    rw [← hW]
    have hoW := (HO12.out.boxed HX5.out hg9).boxed hz9 hgW
    have hbelW : Below w.heap.size w W := ((HBL5.out.grown hg9 HBL5.out.size (fun q hq => by injection hq with hq; omega)).grown hgW (Nat.le_trans HBL5.out.size hg9.size) (fun q hq => by injection hq with hq; omega))
    clear hx9 hz9 HRG9 HTH hgW hW hg9 HRM HRG HO12
    go_wp2
    exact bodyPost_ret (v := confV c (.slice A7 n7 k7) (.slice A6 n6 k6) (.slice A3 n3 k3) (.slice A4 n4 k4)) (by simp [results, Try.f15, go_sem, z0, z1, z2, z3, z4, z5, z6, z7]) rfl ⟨_, rfl, ⟨_, _, _, _, _, rfl, hoW⟩, hbelW⟩
  | false =>
    rw [hal] at b0
    have HAL := Lib.hid hal; clear hal
    go_upto_region 5 with (fail)
    have HS := Lib.hid (fun wx (hb : Below W3.heap.size W3 wx) => show wx.cell? ⟨w1.heap.size, 2, none⟩ = some (.slice A1 n1 k1) ∧ wx.cell? ⟨w.heap.size, 2, none⟩ = some vE from ⟨(HX4.out.on hb).cell 2 _ rfl, (hb.cell (p := ⟨w.heap.size, 2, none⟩) (by have := HX4.out.lt; show w.heap.size < _; omega)).trans b2⟩)
    refine wp_region_noPanic ?_
    refine Ph.T_begin (fun w' => w'.cell? ⟨w1.heap.size, 2, none⟩ = some (.slice A1 n1 k1) ∧ w'.cell? ⟨w.heap.size, 2, none⟩ = some vE) 8 (by kernel_rfl) ?_ (fun hHeld => ?_)
    · exact HS.out _ (bel_eq12 (Below.refl _ W3) rfl rfl rfl rfl)
    refine Ph.T_pure (i := 0) (oi := _) (v := ?_) rfl (by kernel_rfl) (by kernel_rfl) (by kernel_rfl) (by kernel_rfl) (fun _ _ _ h => h) (Or.inl ⟨by rfl, ?_⟩) (by assumption) (fun hHeld => ?_)
    rotate_left
    · intro w hSw; (try dsimp only at hSw); go_simp; all_goals with_reducible rfl
    try simp only [Act.put, List.getElem_toArray, List.getElem_cons_zero, List.getElem_cons_succ, List.setIfInBounds_toArray, List.set_cons_zero, List.set_cons_succ]
    refine Ph.T_pure (i := 3) (oi := _) (v := ?_) rfl (by kernel_rfl) (by kernel_rfl) (by kernel_rfl) (by kernel_rfl) (fun _ _ _ h => h) (Or.inl ⟨by rfl, ?_⟩) (by assumption) (fun hHeld => ?_)
    rotate_left
    · intro w hSw; (try dsimp only at hSw); go_simp; all_goals with_reducible rfl
    try simp only [Act.put, List.getElem_toArray, List.getElem_cons_zero, List.getElem_cons_succ, List.setIfInBounds_toArray, List.set_cons_zero, List.set_cons_succ]
    refine Ph.T_take (i := 1) (oi := _) (v := ?_) rfl (by kernel_rfl) (by kernel_rfl) (by kernel_rfl) (by kernel_rfl) (fun _ _ _ h => h) (Or.inl ⟨by rfl, ?_⟩) (by assumption) (fun hHeld => ?_)
    rotate_left
    · intro w hSw; (try dsimp only at hSw); go_simp; all_goals with_reducible rfl
    try simp only [Act.put, List.getElem_toArray, List.getElem_cons_zero, List.getElem_cons_succ, List.setIfInBounds_toArray, List.set_cons_zero, List.set_cons_succ]
    refine Ph.T_take (i := 4) (oi := _) (v := ?_) rfl (by kernel_rfl) (by kernel_rfl) (by kernel_rfl) (by kernel_rfl) (fun _ _ _ h => h) (Or.inl ⟨by rfl, ?_⟩) (by assumption) (fun hHeld => ?_)
    rotate_left
    · intro w hSw; (try dsimp only at hSw); go_simp; all_goals with_reducible rfl
    try simp only [Act.put, List.getElem_toArray, List.getElem_cons_zero, List.getElem_cons_succ, List.setIfInBounds_toArray, List.set_cons_zero, List.set_cons_succ]
    refine Ph.T_one (i := 2) (o := _) (by kernel_rfl) rfl (fun K hK => ?_)
    go_simp
    go_at_call 39
    refine (neverSafe1 _).mono ?_
    rintro r w4 ⟨v8, rfl, ho8, hc4⟩
    have HC4 := Lib.hid (show Below W3.heap.size W3 w4 from ⟨hc4.os, hc4.tape, hc4.output, hc4.size, hc4.block⟩)
    have HO8 := Lib.hid ho8
    clear hc4 ho8
    go_wp2_with fail
    refine hK.out _ _ ?_ (fun hHeld => ?_)
    · exact HS.out _ HC4.out
    clear hK K
    try simp only [Act.put, List.getElem_toArray, List.getElem_cons_zero, List.getElem_cons_succ, List.setIfInBounds_toArray, List.set_cons_zero, List.set_cons_succ]
    refine Ph.T_one (i := 5) (o := _) (by kernel_rfl) rfl (fun K hK => ?_)
    go_simp
    go_at_call 38
    refine (minus_any v8 vE unsafeL c.els w4 (sv_own HO8.out) (sv_on HP.out.e (HBW.out.trans (HC4.out.mono HBW.out.size))) (by decide) (by omega)).mono ?_
    rintro r w5 ⟨v9, rfl, ho9, hc5⟩
    have HC5 := Lib.hid (show Below W3.heap.size W3 w5 from HC4.out.trans (hc5.mono HC4.out.size))
    have HO9 := Lib.hid ho9
    clear hc5 ho9
    go_wp2_with fail
    refine hK.out _ _ ?_ (fun hHeld => ?_)
    · exact HS.out _ HC5.out
    clear hK K
    try simp only [Act.put, List.getElem_toArray, List.getElem_cons_zero, List.getElem_cons_succ, List.setIfInBounds_toArray, List.set_cons_zero, List.set_cons_succ]
    have hE5 := HE1.out.below HC5.out (Nat.le_refl _)
    have hb15 := (HX4.out.on HC5.out)
    refine Ph.T_one (i := 6) (o := _) (by kernel_rfl) rfl (fun K hK => ?_)
    refine step_app_strs w5 (by rfl) (.tmp 17) (.tmp 21) (by rfl) w0.heap.size (.slice A1 n1 k1) v9 (sameL c.els) (mns unsafeL c.els) hE5 (sv_own HO9.out) (Nat.le_trans HB03.out.size HC5.out.size) (by have := len_mns unsafeL c.els; have : unsafeL.length = 8 := rfl; show c.els.length + _ ≤ _; omega) (by simp [Act.eval, Act.put]) (by simp [Act.eval, Act.put]) ?_
    intro v10 w6 ho10 hg6
    obtain ⟨A9, n9, k9, rfl⟩ := own_shape ho10
    have hx5 := hb_beside hb15 hE5 hg6
    refine hK.out _ _ ?_ (fun hHeld => ?_)
    · exact ⟨hx5.cell 2 _ rfl, (World.cell?_of_block (a := ⟨w.heap.size, 2, none⟩) (hg6.block w.heap.size (by have := HX4.out.lt; have := HC5.out.size; omega) (fun e => by have := (World.ownsRow.lt hE5 _ e.symm).1; omega))).trans (HS.out _ HC5.out).2⟩
    clear hK K
    try simp only [Act.put, List.getElem_toArray, List.getElem_cons_zero, List.getElem_cons_succ, List.setIfInBounds_toArray, List.set_cons_zero, List.set_cons_succ]
    have t2 := hx5.cell 2 _ rfl
    have f2 := hx5.f 2
    refine Ph.T_pure (i := 7) (oi := _) (v := ?_) rfl (by kernel_rfl) (by kernel_rfl) (by kernel_rfl) (by kernel_rfl) (fun _ _ _ h => h) (Or.inl ⟨by rfl, ?_⟩) (by assumption) (fun hHeld => ?_)
    rotate_left
    · intro w hSw; (try dsimp only at hSw); go_simp; all_goals with_reducible rfl
    try simp only [Act.put, List.getElem_toArray, List.getElem_cons_zero, List.getElem_cons_succ, List.setIfInBounds_toArray, List.set_cons_zero, List.set_cons_succ]
    have ho12 : Own12 w.heap.size w6 (stripC c) (.slice A9 n9 k9) (.slice A6 n6 k6) (.slice A3 n3 k3) (.slice A4 n4 k4) l1 := strip_own HAL.out hg6 HLOW.out HLOW2.out HWM.out HBL2.out.size HW0.out ho10 (HR6.out.below HC5.out (Nat.le_refl _)) (HA3.out.below HC5.out (Nat.le_refl _)) (row_below HPM.out HC5.out) (fun x hx => (HFM.out x hx).below HC5.out) (HM4.out.trans (same_per _))
    have hz5 := hb_beside (HZW.out.on HC5.out) hE5 hg6
    have hbel5 := (HBW.out.trans (HC5.out.mono HBW.out.size)).grown hg6 (Nat.le_trans HBW.out.size HC5.out.size) (fun q hq => Nat.le_trans HW0.out (World.ownsRow.lt hE5 q hq).1)
    clear hE5 hb15 ho10 hg6 b0 b2
    refine Ph.T_last (i := 8) (o := _) (by kernel_rfl) (by kernel_rfl) rfl (fun K hK => ?_)
    go_simp
    go_wp2_with fail
    refine hK.out _ _ ?_
    clear hK K
    try simp only [Act.put, List.getElem_toArray, List.getElem_cons_zero, List.getElem_cons_succ, List.setIfInBounds_toArray, List.set_cons_zero, List.set_cons_succ]
    refine Ph.T_done (by kernel_rfl) ?_ _
    refine NoPanic.normal ?_
    have HX5 := Lib.hid hx5; have HZ5 := Lib.hid hz5; have HO12 := Lib.hid ho12; have HBL5 := Lib.hid hbel5
    clear hx5 hz5 ho12 hbel5
    go_upto_region 6 with (fail)
    obtain ⟨W9, hW9⟩ : ∃ W9, w6.setCell ⟨w1.heap.size, 2, none⟩ (.slice A9 n9 k9) = W9 := ⟨_, rfl⟩
    have hg9 : w6.grownBy W9 (some w1.heap.size) := hW9 ▸ gcell12 w6 _ 2 _
    have hx9 : Hb W9 w1.heap.size #[.bool c.allow, .bool c.attrsAllow, .slice A9 n9 k9, .slice A6 n6 k6, .slice A3 n3 k3, .slice A4 n4 k4, .bool c.comments, .bool c.dataAttrs] := hW9 ▸ HX5.out.set 2 (.slice A9 n9 k9)
    have hz9 : Hb W9 (w.heap.size + 1) zeroA := HZ5.out.keep (hg9.block _ HZ5.out.lt (by simp; omega))
    rw [hW9]
    have HRG9 := Lib.hid hx9.range; have HTH := Lib.hid (hz9.there 8 rfl)
    clear hW9
    go_wp2_with (first
      | (show wpList _ _ _ (⟨_, Op.load 25 (.tmp 3), _, _, _, _⟩ :: _) _ _; refine wpList_load_mid rfl 25 (.tmp 3) rfl w1.heap.size 0 rfl _ _ HRG9.out Try.underlying25 rfl size_conf ?_)
      | (show wpList _ _ _ (⟨none, Op.store 25 (.tmp 2) (.tmp 24), _, _, _, _⟩ :: _) _ _; refine wpList_store_mid rfl 25 (.tmp 2) (.tmp 24) rfl (w.heap.size + 1) 0 #[.bool c.allow, .bool c.attrsAllow, .slice A9 n9 k9, .slice A6 n6 k6, .slice A3 n3 k3, .slice A4 n4 k4, .bool c.comments, .bool c.dataAttrs] rfl rfl HTH.out size_conf (by simp [Value.oneCell']) ?_))
    obtain ⟨W, hW, hgW, hbW⟩ := res_box (c := c) (vE := .slice A9 n9 k9) (vR := .slice A6 n6 k6) (vA := .slice A3 n3 k3) (vP := .slice A4 n4 k4) hz9 rfl
    obtain ⟨z0, z1, z2, z3, z4, z5, z6, z7⟩ := hbW.at_
    rw [← hW]
    have hoW := (HO12.out.boxed HX5.out hg9).boxed hz9 hgW
    have hbelW : Below w.heap.size w W := ((HBL5.out.grown hg9 HBL5.out.size (fun q hq => by injection hq with hq; omega)).grown hgW (Nat.le_trans HBL5.out.size hg9.size) (fun q hq => by injection hq with hq; omega))
    clear hx9 hz9 HRG9 HTH hgW hW hg9 HRM HRG HO12
    go_wp2
    exact bodyPost_ret (v := confV c (.slice A9 n9 k9) (.slice A6 n6 k6) (.slice A3 n3 k3) (.slice A4 n4 k4)) (by simp [results, Try.f15, go_sem, z0, z1, z2, z3, z4, z5, z6, z7]) rfl ⟨_, rfl, ⟨_, _, _, _, _, rfl, hoW⟩, hbelW⟩

end Go.Proofs.Ytnogneknoponkaa.Co

namespace Go.Proofs.Ytnogneknoponkaa.Co
set_option maxRecDepth 100000
set_option linter.unusedVariables false
set_option linter.unusedSimpArgs false
open Go.RowKit Ba Fm Fo Nm Rk
theorem all1 (w : World) : Calls Try.prog 29 #[] w fun r w' => ∃ v', r = .returned v' ∧ Cow w.heap.size w' v' allC ∧ Below w.heap.size w w' := by
  have hb := below_new12 w (.cells #[.bool false, .bool false, .slice none 0 0, .slice none 0 0, .slice none 0 0, .slice none 0 0, .bool true, .bool false] 25)
  have ho : ∀ w', Own12 w.heap.size w' allC (.slice none 0 0) (.slice none 0 0) (.slice none 0 0) (.slice none 0 0) [] := fun w' => ⟨Sown.nil _ _, Sown.nil _ _, Sown.nil _ _, Po.nil _ _, (fun x hx => by cases hx), rfl⟩
  have hc : ∀ w', Cow w.heap.size w' (.agg #[.bool false, .bool false, .slice none 0 0, .slice none 0 0, .slice none 0 0, .slice none 0 0, .bool true, .bool false]) allC := fun w' => ⟨_, _, _, _, _, rfl, ho w'⟩
  have HC := Lib.hid hc; have HB := Lib.hid hb
  clear ho hc hb
  go_enter Try.func29, Try.ntmps29
  go_wp2
  exact bodyPost_ret (v := .agg #[.bool false, .bool false, .slice none 0 0, .slice none 0 0, .slice none 0 0, .slice none 0 0, .bool true, .bool false]) (by simp [results, Try.f29, go_sem]) rfl ⟨_, rfl, HC.out _, HB.out⟩

/-- Names written down, in a block of their own. -/
theorem lit_own (w u : World) (l : List ByteArray) (N k : Nat) (hl : l.length ≤ 1000) (hk : k = w.heap.size) (hN : N ≤ k) (hb : Below (w.alloc (.cells (l.map sc).toArray 9)).heap.size (w.alloc (.cells (l.map sc).toArray 9)) u) : Sown N u (.slice (some ⟨k, 0, none⟩) l.length l.length) l := by
  subst hk
  exact ((own_lit12 w l hl).below hb (Nat.le_refl _)).mono hN
def pHref : List ByteArray := [⟨#[104, 114, 101, 102]⟩]
def pSrc : List ByteArray := [⟨#[115, 114, 99]⟩]
def pSpan : List ByteArray := [⟨#[99, 111, 108, 115, 112, 97, 110]⟩, ⟨#[114, 111, 119, 115, 112, 97, 110]⟩]
def pList (k : Nat) : List Pw := [⟨⟨⟨#[97]⟩, pHref⟩, some ⟨k + 1 + 1, 0, none⟩, 1⟩, ⟨⟨⟨#[105, 109, 103]⟩, pSrc⟩, some ⟨k + 1 + 1 + 1, 0, none⟩, 1⟩, ⟨⟨⟨#[116, 100]⟩, pSpan⟩, some ⟨k + 1 + 1 + 1 + 1, 0, none⟩, 2⟩]
def plainW (u : World) (k : Nat) : World := (((((u.alloc (.cells (plainEls.map sc).toArray 9)).alloc (.cells (plainAts.map sc).toArray 9)).alloc (.cells (pHref.map sc).toArray 9)).alloc (.cells (pSrc.map sc).toArray 9)).alloc (.cells (pSpan.map sc).toArray 9)).alloc (.cells ((pList k).flatMap pcells).toArray 39)
theorem below_step {w u : World} {o : Obj} (h : Below (w.alloc o).heap.size (w.alloc o) u) : Below w.heap.size w u := (below_new12 w o).trans (h.mono (below_new12 w o).size)
theorem plain_own (u : World) (N k : Nat) (hk : k = u.heap.size) (hN : N ≤ k) : Own12 N (plainW u k) plainC (.slice (some ⟨k, 0, none⟩) 36 36) (.slice none 0 0) (.slice (some ⟨k + 1, 0, none⟩) 8 8) (.slice (some ⟨k + 1 + 1 + 1 + 1 + 1, 0, none⟩) 3 3) (pList k) ∧ Below u.heap.size u (plainW u k) := by
  unfold plainW
  have h6 : Below ((((((u.alloc (.cells (plainEls.map sc).toArray 9)).alloc (.cells (plainAts.map sc).toArray 9)).alloc (.cells (pHref.map sc).toArray 9)).alloc (.cells (pSrc.map sc).toArray 9)).alloc (.cells (pSpan.map sc).toArray 9)).alloc (.cells ((pList k).flatMap pcells).toArray 39)).heap.size ((((((u.alloc (.cells (plainEls.map sc).toArray 9)).alloc (.cells (plainAts.map sc).toArray 9)).alloc (.cells (pHref.map sc).toArray 9)).alloc (.cells (pSrc.map sc).toArray 9)).alloc (.cells (pSpan.map sc).toArray 9)).alloc (.cells ((pList k).flatMap pcells).toArray 39)) ((((((u.alloc (.cells (plainEls.map sc).toArray 9)).alloc (.cells (plainAts.map sc).toArray 9)).alloc (.cells (pHref.map sc).toArray 9)).alloc (.cells (pSrc.map sc).toArray 9)).alloc (.cells (pSpan.map sc).toArray 9)).alloc (.cells ((pList k).flatMap pcells).toArray 39)) := Below.refl _ _
  have h5 := below_step h6
  have h4 := below_step h5
  have h3 := below_step h4
  have h2 := below_step h3
  have h1 := below_step h2
  have hf : ∀ x ∈ pList k, Fp N ((((((u.alloc (.cells (plainEls.map sc).toArray 9)).alloc (.cells (plainAts.map sc).toArray 9)).alloc (.cells (pHref.map sc).toArray 9)).alloc (.cells (pSrc.map sc).toArray 9)).alloc (.cells (pSpan.map sc).toArray 9)).alloc (.cells ((pList k).flatMap pcells).toArray 39)) x := fun x hx => by
    simp only [pList, List.mem_cons, List.not_mem_nil, or_false] at hx
    rcases hx with rfl | rfl | rfl
    · exact lit_own _ _ pHref N (k + 1 + 1) (by decide) (by simp [hk]) (by omega) h3
    · exact lit_own _ _ pSrc N (k + 1 + 1 + 1) (by decide) (by simp [hk]) (by omega) h4
    · exact lit_own _ _ pSpan N (k + 1 + 1 + 1 + 1) (by decide) (by simp [hk]) (by omega) h5
  refine ⟨⟨lit_own _ _ plainEls N k (by decide) hk hN h1, Sown.nil _ _, lit_own _ _ plainAts N (k + 1) (by decide) (by simp [hk]) (by omega) h2, po_of ?_ hf, hf, rfl⟩, below_step h1⟩
  have := World.ownsRow_lit (e := 39) (size := 2) (base := N) ((((((u.alloc (.cells (plainEls.map sc).toArray 9)).alloc (.cells (plainAts.map sc).toArray 9)).alloc (.cells (pHref.map sc).toArray 9)).alloc (.cells (pSrc.map sc).toArray 9)).alloc (.cells (pSpan.map sc).toArray 9))) ((pList k).flatMap pcells).toArray 3 (by simp; omega) (by decide) rfl
  simp only [World.size_alloc, ← hk] at this
  exact this
set_option maxRecDepth 100000 in
theorem plain1 (w : World) : Calls Try.prog 28 #[] w fun r w' => ∃ v', r = .returned v' ∧ Cow w.heap.size w' v' plainC ∧ Below w.heap.size w w' := by
  have hp := fun O => plain_own (w.alloc O) w.heap.size (w.heap.size + 1) (by simp) (by omega)
  have hb := fun O => below_new12 w O
  have HP := Lib.hid hp; have HB := Lib.hid hb
  clear hp hb
  go_enter Try.func28, Try.ntmps28
  go_wp2
  refine bodyPost_ret (v := .agg #[.bool true, .bool true, .slice (some ⟨w.heap.size + 1, 0, none⟩) 36 36, .slice none 0 0, .slice (some ⟨w.heap.size + 1 + 1, 0, none⟩) 8 8, .slice (some ⟨w.heap.size + 1 + 1 + 1 + 1 + 1 + 1, 0, none⟩) 3 3, .bool false, .bool false]) ?_ rfl ⟨_, rfl, ⟨_, _, _, _, _, rfl, (HP.out _).1⟩, (HB.out _).trans ((HP.out _).2.mono (HB.out _).size)⟩
  simp [results, Try.f28, go_sem]
set_option maxRecDepth 100000 in
theorem refPlain1 (w : World) : Calls Try.prog 48 #[] w fun r w' => ∃ v', r = .returned v' ∧ Cow w.heap.size w' v' plainC ∧ Below w.heap.size w w' := by
  have hp := fun O O2 => plain_own ((w.alloc O).alloc O2) w.heap.size (w.heap.size + 1 + 1) (by simp) (by omega)
  have hb := fun O O2 => (below_new12 w O).trans ((below_new12 (w.alloc O) O2).mono (below_new12 w O).size)
  have HP := Lib.hid hp; have HB := Lib.hid hb
  clear hp hb
  go_enter Try.func48, Try.ntmps48
  go_wp2
  refine bodyPost_ret (v := .agg #[.bool true, .bool true, .slice (some ⟨w.heap.size + 1 + 1, 0, none⟩) 36 36, .slice none 0 0, .slice (some ⟨w.heap.size + 1 + 1 + 1, 0, none⟩) 8 8, .slice (some ⟨w.heap.size + 1 + 1 + 1 + 1 + 1 + 1 + 1, 0, none⟩) 3 3, .bool false, .bool false]) ?_ rfl ⟨_, rfl, ⟨_, _, _, _, _, rfl, (HP.out _ _).1⟩, (HB.out _ _).trans ((HP.out _ _).2.mono (HB.out _ _).size)⟩
  simp [results, Try.f48, go_sem]

end Go.Proofs.Ytnogneknoponkaa.Co

namespace Go.Proofs.Ytnogneknoponkaa.Co
set_option maxRecDepth 100000
set_option linter.unusedVariables false
set_option linter.unusedSimpArgs false
open Go.RowKit Ba Fm Fo Nm Rk
theorem max_any (x y : Nat) : ∃ m : Nat, (∀ n : Nat, n < m ↔ n < x ∨ n < y) ∧ ∀ ts t (w : World), (Builtin.max_ ts t #[.int .i64 x, .int .i64 y]).run Try.prog w = .ok (.int .i64 m) w := by
  refine ⟨max x y, fun n => by omega, fun ts t w => ?_⟩
  rw [run_max_int2]
  congr 2
  split <;> omega
theorem max_any4 (x y z u : Nat) : ∃ m : Nat, (∀ n : Nat, n < m ↔ ((n < x ∨ n < y) ∨ n < z) ∨ n < u) ∧ ∀ ts t (w : World), (Builtin.max_ ts t #[.int .i64 x, .int .i64 y, .int .i64 z, .int .i64 u]).run Try.prog w = .ok (.int .i64 m) w := by
  refine ⟨max (max (max x y) z) u, fun n => by omega, fun ts t w => ?_⟩
  simp only [Builtin.max_, Builtin.max2, List.foldlM, List.toList_toArray, pure_bind]
  show Result.ok _ _ = _
  congr 2
  split <;> split <;> split <;> omega
set_option maxRecDepth 100000 in
set_option maxHeartbeats 2000000 in
theorem exceeds1 (v : Value) (c : Cf) (w : World) (q : Bool) (h : Cv w w.heap.size v c) (hs : Sm c) (hq : bigB c = q) :
    Calls Try.prog 41 #[v] w fun r w' => r = .returned (.bool q) ∧ Below w.heap.size w w' := by
  obtain ⟨vE, vR, vA, vP, l, rfl, h⟩ := h
  obtain ⟨w0, hw0⟩ : ∃ w0, w.alloc (confO c vE vR vA vP) = w0 := ⟨_, rfl⟩
  have hb1 : Below w.heap.size w w0 := hw0 ▸ below_new12 w (confO c vE vR vA vP)
  obtain ⟨E, ce, rfl, _, _, _⟩ := h.e
  obtain ⟨R, cr, rfl, _, _, _⟩ := h.r
  obtain ⟨T, ct, rfl, _, _, _⟩ := h.a
  obtain ⟨A, cp, rfl, hcp, hna, hr⟩ := h.p
  have hpl : c.per.length = l.length := by rw [← h.m, len_pes]
  have hl : l.length ≤ 1000 := by have := hs.p; omega
  have hlen : ∀ x ∈ l, x.pe.at_.length ≤ 1000 := fun x hx => hs.pa _ (by rw [← h.m]; exact List.mem_map.2 ⟨x, hx, rfl⟩)
  have hel := hs.e; have hrl := hs.r; have hal := hs.a
  obtain ⟨m0, hm0, hmax⟩ := max_any4 c.els.length c.reps.length c.ats.length l.length
  have hbig : (decide (64 < m0) || l.any fun x => decide (64 < x.pe.at_.length)) = q := by
    rw [← hq]
    unfold bigB
    rw [hpl, ← h.m]
    unfold pes
    rw [List.any_map]
    congr 1
    rw [Bool.eq_iff_iff]
    simp only [decide_eq_true_eq, Bool.or_eq_true]
    exact hm0 64
  have hm00 : m0 ≤ 1000 := by have := (hm0 1000); omega
  have HQ := Lib.hid hbig; have HLEN := Lib.hid hlen; have HW := Lib.hid hw0; have HB1 := Lib.hid hb1; have HR := Lib.hid hr
  have hz : w.heap.size < w0.heap.size := by rw [← hw0]; simp
  have hcp0 : c.per.length = l.length := hpl
  clear hq hbig hlen hw0 hs h hm0 hpl hr hb1
  obtain ⟨n1, hn1⟩ : ∃ n, c.els.length = n := ⟨_, rfl⟩
  obtain ⟨n2, hn2⟩ : ∃ n, c.reps.length = n := ⟨_, rfl⟩
  obtain ⟨n3, hn3⟩ : ∃ n, c.ats.length = n := ⟨_, rfl⟩
  rw [hn1] at hmax hel HW
  rw [hn2] at hmax hrl HW
  rw [hn3] at hmax hal HW
  simp only [hn1, hn2, hn3]
  clear hn1 hn2 hn3 hcp0
  go_enter Try.func41, Try.ntmps41
  go_wp2
  rw [HW.out]
  clear hmax
  go_loopw [3, 5, 22] (fun n _ i wr => ∃ k m : Nat, i = .int .i64 k ∧ k ≤ l.length ∧ n = .int .i64 m ∧ m ≤ 1000 ∧ decide (64 < m) = (decide (64 < m0) || (l.take k).any fun x => decide (64 < x.pe.at_.length)) ∧ Below w0.heap.size w0 wr) (fun _ _ i _ => l.length - (intOf i).toNat)
  case atStart => exact ⟨0, m0, rfl, Nat.zero_le _, rfl, hm00, by simp, Below.refl _ _⟩
  case round =>
    obtain ⟨k, m, rfl, hks, rfl, hm1, hn, hbel⟩ := hrel
    by_cases hk : k < l.length
    · obtain ⟨b, off, x, rfl, hb, hx, hcs, hsx, hxm⟩ := (HR.out.below (HB1.out.trans (hbel.mono (Nat.le_of_lt hz)))).at_ k hk
      obtain ⟨g0, g1⟩ := range2p hcs
      have hxl := HLEN.out x hxm
      have hsn := any_snoc (fun x : Pw => decide (64 < x.pe.at_.length)) l k x hx
      obtain ⟨m2, hm2, hmax⟩ := max_any m x.pe.at_.length
      have hm3 : m2 ≤ 1000 := by have := hm2 1000; omega
      have hn2 : decide (64 < m2) = (decide (64 < m0) || (l.take (k + 1)).any fun x => decide (64 < x.pe.at_.length)) := by
        rw [hsn, ← Bool.or_assoc, ← hn, Bool.eq_iff_iff]
        simp only [decide_eq_true_eq, Bool.or_eq_true]
        exact hm2 64
      have HN := Lib.hid hn2; have HBL := Lib.hid (hbel.trans ((below_new12 wr (perO x)).mono hbel.size))
      clear hn hn2 hsn hm2 hcs hsx
      go_wp2
      go_roundw
      case rel => exact ⟨k + 1, m2, by go_num, by omega, rfl, hm3, HN.out, HBL.out⟩
      case measure => simp [intOf]; omega
    · rw [List.take_of_length_le (by omega), HQ.out] at hn
      have HN := Lib.hid hn
      have HBL := Lib.hid (HB1.out.trans (hbel.mono (Nat.le_of_lt hz)))
      clear hn hbel
      go_wp2
      go_ret
      exact ⟨ret_bool (by rw [← HN.out, Bool.eq_iff_iff]; simp only [decide_eq_true_eq]; omega), HBL.out⟩

/-- A block that holds one truth. -/
def Bb (w : World) (g : Nat) (b : Bool) : Prop := w.heap[g]? = some (.cells #[.bool b] 4)
section
variable {w w' : World} {g : Nat} {b : Bool}
theorem Bb.cell (h : Bb w g b) : w.cell? ⟨g, 0, none⟩ = some (.bool b) := by rw [cell_of_row w g 0 _ _ _ h]; rfl
theorem Bb.f (h : Bb w g b) : w.frozen? ⟨g, 0, none⟩ = false := by
  unfold Bb at h
  simp [World.frozen?, h]
theorem Bb.lt (h : Bb w g b) : g < w.heap.size := (Array.getElem?_eq_some_iff.1 h).1
theorem Bb.set (h : Bb w g b) (u : Bool) : Bb (w.setCell ⟨g, 0, none⟩ (.bool u)) g u := by
  unfold Bb at h ⊢
  simp [World.setCell, Array.getElem?_modify, h]
theorem Bb.below (h : Bb w g b) (hb : Below w.heap.size w w') : Bb w' g b := (hb.block g h.lt).trans h
end
theorem gset12 (w : World) (b j : Nat) (u : Value) : w.grownBy (w.setCell ⟨b, j, none⟩ u) (some b) :=
  ⟨rfl, rfl, rfl, by simp [World.setCell], fun k _ hk => Below.heap_setCell _ _ _ _ (fun e => hk (by simp [e]))⟩
theorem all_snoc12 (p : ByteArray → Bool) (l : List ByteArray) (k : Nat) (h : k < l.length) : (l.take (k + 1)).all p = ((l.take k).all p && p l[k]) := by
  rw [List.take_succ_eq_append_getElem h, List.all_append]
  simp
set_option maxRecDepth 100000 in
set_option maxHeartbeats 2000000 in
theorem mis_R (A : Option Addr) (c : Nat) (l : List ByteArray) (w : World) (g : Nat) (b : Bool) (hr : 0 < l.length → ∃ b0 off, A = some ⟨b0, off, none⟩ ∧ b0 < w.heap.size ∧ b0 ≠ g ∧ ∀ j (h : j < l.length), w.cell? ⟨b0, off + j, none⟩ = some (.string l[j])) (hl : l.length ≤ 1000000)
    (hsz : ∀ s ∈ l, s.size ≤ 140737488355328) (hg : Bb w g b) :
    Calls Try.prog 55 #[.func (.func 56) #[] #[], .slice A l.length c, .pointer (some ⟨g, 0, none⟩)] w fun r w' => r = .returned (.tuple #[]) ∧ Bb w' g (b || !l.all rightB) ∧ w.grownBy w' (some g) := by
  have HSZ := Lib.hid hsz; clear hsz
  go_enter Try.func55, Try.ntmps55
  go_wp2
  go_loopw [6, 9] (fun _ i wr => ∃ k : Nat, i = .int .i64 k ∧ k ≤ l.length ∧ Bb wr g (b || !(l.take k).all rightB) ∧ w.grownBy wr (some g)) (fun _ i _ => l.length - (intOf i).toNat)
  case atStart => exact ⟨0, rfl, Nat.zero_le _, by simpa using hg, World.grownBy.refl _ _⟩
  case round =>
    clear hg
    obtain ⟨k, rfl, hks, hg, hgr⟩ := hrel
    by_cases hk : k < l.length
    · obtain ⟨b0, off, rfl, hb0, hne, hc⟩ := hr (by omega)
      have hcell := (World.cell?_of_block (a := ⟨b0, off + k, none⟩) (hgr.block b0 hb0 (by simpa using hne))).trans (hc k hk)
      have hsn := all_snoc12 rightB l k hk
      have hxs := HSZ.out _ (List.getElem_mem hk)
      obtain ⟨t, ht⟩ : ∃ t, (b || !(l.take k).all rightB) = t := ⟨_, rfl⟩
      have hsn2 : (b || !(l.take (k + 1)).all rightB) = (t || !rightB l[k]) := by
        rw [hsn, ← ht]
        cases b <;> cases (l.take k).all rightB <;> cases rightB l[k] <;> rfl
      rw [ht] at hg
      have g0 := hg.cell; have f0 := hg.f
      have HSN := Lib.hid hsn2; have HG := Lib.hid hg; have HGR := Lib.hid hgr
      clear hc hr hsn hsn2 hg hgr ht
      cases t with
      | true =>
        go_wp2
        go_roundw
        case rel => exact ⟨k + 1, by go_num, by omega, by rw [HSN.out]; exact HG.out.set true, HGR.out.trans (gset12 wr g 0 _)⟩
        case measure => simp [intOf]; omega
      | false =>
        obtain ⟨u, hu⟩ : ∃ u, rightB l[k] = u := ⟨_, rfl⟩
        have HU := Lib.hid hu; clear hu
        go_wp2_with (go_at_call 56; refine (Na.right_any l[k] _ hxs).mono ?_; rw [HU.out]; rintro r w3 ⟨rfl, rfl⟩)
        go_roundw
        case rel => exact ⟨k + 1, by go_num, by omega, by rw [HSN.out, HU.out]; exact HG.out.set (!u), HGR.out.trans (gset12 wr g 0 _)⟩
        case measure => simp [intOf]; omega
    · rw [List.take_of_length_le (by omega)] at hg
      have HG := Lib.hid hg; have HGR := Lib.hid hgr
      clear hg hgr
      go_wp2
      go_end0
      exact ⟨rfl, HG.out, HGR.out⟩
set_option maxRecDepth 100000 in
set_option maxHeartbeats 2000000 in
theorem mis_T (A : Option Addr) (c : Nat) (l : List ByteArray) (w : World) (g : Nat) (b : Bool) (hr : 0 < l.length → ∃ b0 off, A = some ⟨b0, off, none⟩ ∧ b0 < w.heap.size ∧ b0 ≠ g ∧ ∀ j (h : j < l.length), w.cell? ⟨b0, off + j, none⟩ = some (.string l[j])) (hl : l.length ≤ 1000000)
    (hsz : ∀ s ∈ l, s.size ≤ 140737488355328) (hg : Bb w g b) :
    Calls Try.prog 55 #[.func (.func 57) #[] #[], .slice A l.length c, .pointer (some ⟨g, 0, none⟩)] w fun r w' => r = .returned (.tuple #[]) ∧ Bb w' g (b || !l.all attrB) ∧ w.grownBy w' (some g) := by
  have HSZ := Lib.hid hsz; clear hsz
  go_enter Try.func55, Try.ntmps55
  go_wp2
  go_loopw [6, 9] (fun _ i wr => ∃ k : Nat, i = .int .i64 k ∧ k ≤ l.length ∧ Bb wr g (b || !(l.take k).all attrB) ∧ w.grownBy wr (some g)) (fun _ i _ => l.length - (intOf i).toNat)
  case atStart => exact ⟨0, rfl, Nat.zero_le _, by simpa using hg, World.grownBy.refl _ _⟩
  case round =>
    clear hg
    obtain ⟨k, rfl, hks, hg, hgr⟩ := hrel
    by_cases hk : k < l.length
    · obtain ⟨b0, off, rfl, hb0, hne, hc⟩ := hr (by omega)
      have hcell := (World.cell?_of_block (a := ⟨b0, off + k, none⟩) (hgr.block b0 hb0 (by simpa using hne))).trans (hc k hk)
      have hsn := all_snoc12 attrB l k hk
      have hxs := HSZ.out _ (List.getElem_mem hk)
      obtain ⟨t, ht⟩ : ∃ t, (b || !(l.take k).all attrB) = t := ⟨_, rfl⟩
      have hsn2 : (b || !(l.take (k + 1)).all attrB) = (t || !attrB l[k]) := by
        rw [hsn, ← ht]
        cases b <;> cases (l.take k).all attrB <;> cases attrB l[k] <;> rfl
      rw [ht] at hg
      have g0 := hg.cell; have f0 := hg.f
      have HSN := Lib.hid hsn2; have HG := Lib.hid hg; have HGR := Lib.hid hgr
      clear hc hr hsn hsn2 hg hgr ht
      cases t with
      | true =>
        go_wp2
        go_roundw
        case rel => exact ⟨k + 1, by go_num, by omega, by rw [HSN.out]; exact HG.out.set true, HGR.out.trans (gset12 wr g 0 _)⟩
        case measure => simp [intOf]; omega
      | false =>
        obtain ⟨u, hu⟩ : ∃ u, attrB l[k] = u := ⟨_, rfl⟩
        have HU := Lib.hid hu; clear hu
        go_wp2_with (go_at_call 57; refine (Na.attr_any l[k] _ hxs).mono ?_; rw [HU.out]; rintro r w3 ⟨rfl, rfl⟩)
        go_roundw
        case rel => exact ⟨k + 1, by go_num, by omega, by rw [HSN.out, HU.out]; exact HG.out.set (!u), HGR.out.trans (gset12 wr g 0 _)⟩
        case measure => simp [intOf]; omega
    · rw [List.take_of_length_le (by omega)] at hg
      have HG := Lib.hid hg; have HGR := Lib.hid hgr
      clear hg hgr
      go_wp2
      go_end0
      exact ⟨rfl, HG.out, HGR.out⟩

end Go.Proofs.Ytnogneknoponkaa.Co

namespace Go.Proofs.Ytnogneknoponkaa.Co
set_option maxRecDepth 100000
set_option linter.unusedVariables false
set_option linter.unusedSimpArgs false
open Go.RowKit Ba Fm Fo Nm Rk
theorem rd_ne {w : World} {N g : Nat} {A : Option Addr} {l : List ByteArray} (h : Rd w N A l) (h1 : N ≤ w.heap.size) (h2 : N ≤ g) :
    0 < l.length → ∃ b0 off, A = some ⟨b0, off, none⟩ ∧ b0 < w.heap.size ∧ b0 ≠ g ∧ ∀ j (h : j < l.length), w.cell? ⟨b0, off + j, none⟩ = some (.string l[j]) := fun h0 => by
  obtain ⟨b, off, e, hb, hc⟩ := h h0
  exact ⟨b, off, e, by omega, by omega, hc⟩
/-- mis_R and mis_T at a value that reads as names. -/
theorem mis_R1 (v : Value) (N : Nat) (l : List ByteArray) (w : World) (g : Nat) (b q : Bool) (h : Sv w N v l) (hN : N ≤ w.heap.size) (hg0 : N ≤ g) (hl : l.length ≤ 1000000) (hsz : ∀ s ∈ l, s.size ≤ 140737488355328) (hg : Bb w g b) (hq : (b || !l.all rightB) = q) :
    Calls Try.prog 55 #[.func (.func 56) #[] #[], v, .pointer (some ⟨g, 0, none⟩)] w fun r w' => r = .returned (.tuple #[]) ∧ Bb w' g q ∧ w.grownBy w' (some g) := by
  obtain ⟨A, c, rfl, _, _, hr⟩ := h
  subst hq
  exact mis_R A c l w g b (rd_ne hr hN hg0) hl hsz hg
theorem mis_T1 (v : Value) (N : Nat) (l : List ByteArray) (w : World) (g : Nat) (b q : Bool) (h : Sv w N v l) (hN : N ≤ w.heap.size) (hg0 : N ≤ g) (hl : l.length ≤ 1000000) (hsz : ∀ s ∈ l, s.size ≤ 140737488355328) (hg : Bb w g b) (hq : (b || !l.all attrB) = q) :
    Calls Try.prog 55 #[.func (.func 57) #[] #[], v, .pointer (some ⟨g, 0, none⟩)] w fun r w' => r = .returned (.tuple #[]) ∧ Bb w' g q ∧ w.grownBy w' (some g) := by
  obtain ⟨A, c, rfl, _, _, hr⟩ := h
  subst hq
  exact mis_T A c l w g b (rd_ne hr hN hg0) hl hsz hg
/-- One name, in a block of its own. -/
theorem mis_R2 (s : ByteArray) (w : World) (g : Nat) (b q : Bool) (hsz : s.size ≤ 140737488355328) (hg : Bb w g b) (hq : (b || !rightB s) = q) :
    Calls Try.prog 55 #[.func (.func 56) #[] #[], .slice (some ⟨w.heap.size, 0, none⟩) 1 1, .pointer (some ⟨g, 0, none⟩)] (w.alloc (.cells #[.string s] 9)) fun r w' => r = .returned (.tuple #[]) ∧ Bb w' g q ∧ w.grownBy w' (some g) := by
  subst hq
  have hgl := hg.lt
  refine (mis_R (some ⟨w.heap.size, 0, none⟩) 1 [s] (w.alloc (.cells #[.string s] 9)) g b (fun _ => ⟨w.heap.size, 0, rfl, by simp, by omega, fun j hj => ?_⟩) (by simp) (fun t ht => by rw [List.mem_singleton] at ht; rw [ht]; exact hsz) (hg.below (below_new12 w _))).mono ?_
  · have : j = 0 := by simpa using hj
    subst this
    rw [World.cell?_alloc_mark]
    rfl
  · rintro r w' ⟨rfl, h1, h2⟩
    refine ⟨rfl, by simpa using h1, (World.grownBy_alloc w _ _).trans h2⟩
theorem all_snocP (p : Pw → Bool) (l : List Pw) (k : Nat) (x : Pw) (h : l[k]? = some x) : (l.take (k + 1)).all p = ((l.take k).all p && p x) := by
  have hk : k < l.length := (List.getElem?_eq_some_iff.1 h).1
  have hx : l[k] = x := (List.getElem?_eq_some_iff.1 h).2
  rw [List.take_succ_eq_append_getElem hk, List.all_append, hx]
  simp
set_option maxRecDepth 100000 in
set_option maxHeartbeats 4000000 in
theorem misnames1 (v : Value) (c : Cf) (w : World) (q : Bool) (h : Cv w w.heap.size v c) (hs : Sm c) (hq : (!namesB c) = q) :
    Calls Try.prog 42 #[v] w fun r w' => r = .returned (.bool q) ∧ Below w.heap.size w w' := by
  have hmf : ∀ (fn : Fn) (first cap : Array Value) (w : World), (Instr.makeFunc fn first cap).run Try.prog w = .ok (.func fn first cap) w := fun _ _ _ _ => rfl
  obtain ⟨vE, vR, vA, vP, l, rfl, h⟩ := h
  obtain ⟨w0, hw0⟩ : ∃ w0, (w.alloc (confO c vE vR vA vP)).alloc (.cells #[.bool false] 4) = w0 := ⟨_, rfl⟩
  have hba : Below w.heap.size w (w.alloc (confO c vE vR vA vP)) := below_new12 w _
  have hb1 : Below w.heap.size w w0 := hw0 ▸ hba.trans ((below_new12 _ _).mono hba.size)
  have hbx : Bx w0 w.heap.size c vE vR vA vP := hw0 ▸ (Bx.new w c vE vR vA vP).below (below_new12 _ _) (by simp)
  have hbb : Bb w0 (w.heap.size + 1) false := by
    rw [← hw0]
    unfold Bb
    have := heap_alloc_new (w.alloc (confO c vE vR vA vP)) (.cells #[.bool false] 4)
    rwa [World.size_alloc] at this
  have hz : w0.heap.size = w.heap.size + 2 := by rw [← hw0]; simp
  obtain ⟨A, cp, rfl, hcp, hna, hr⟩ := h.p
  have hpl : c.per.length = l.length := by rw [← h.m, len_pes]
  have hl : l.length ≤ 1000 := by have := hs.p; omega
  have hlen : ∀ x ∈ l, x.pe.at_.length ≤ 1000 ∧ x.pe.el.size ≤ 140737488355328 ∧ ∀ s ∈ x.pe.at_, s.size ≤ 140737488355328 := fun x hx => by
    have hm : x.pe ∈ c.per := by rw [← h.m]; exact List.mem_map.2 ⟨x, hx, rfl⟩
    exact ⟨hs.pa _ hm, hs.ps _ hm⟩
  obtain ⟨b1, hb1'⟩ : ∃ b, (false || !c.els.all rightB) = b := ⟨_, rfl⟩
  obtain ⟨b2, hb2'⟩ : ∃ b, (b1 || !c.reps.all rightB) = b := ⟨_, rfl⟩
  obtain ⟨b3, hb3'⟩ : ∃ b, (b2 || !c.ats.all attrB) = b := ⟨_, rfl⟩
  have hfin : (b3 || !l.all fun x => rightB x.pe.el && x.pe.at_.all attrB) = q := by
    rw [← hq, ← hb3', ← hb2', ← hb1']
    unfold namesB
    rw [← h.m]
    unfold pes
    rw [List.all_map]
    simp only [Bool.not_and, Bool.false_or]
    rfl
  have HQ := Lib.hid hfin; have HLEN := Lib.hid hlen; have HW := Lib.hid hw0; have HB1 := Lib.hid hb1; have HR := Lib.hid hr
  -- what stays under a growth of the truth's block
  have hst : ∀ wx, w0.grownBy wx (some (w.heap.size + 1)) → Below w.heap.size w wx := fun wx hg => hb1.grown hg (by omega) (fun k hk => by injection hk with hk; omega)
  have hbox : ∀ wx, w0.grownBy wx (some (w.heap.size + 1)) → Bx wx w.heap.size c vE vR vA (.slice A l.length cp) := fun wx hg j u hu => (World.cell?_of_block (a := ⟨w.heap.size, 0 + j, none⟩) (hg.block _ (by show w.heap.size < _; omega) (by simp))).trans (hbx j u hu)
  have HST := Lib.hid hst; have HBX := Lib.hid hbox; have HBB := Lib.hid hbb
  have HE := Lib.hid (fun wx hg hb => mis_R1 vE w.heap.size c.els wx (w.heap.size + 1) false b1 (h.e.below (hst wx hg) (Nat.le_refl _)) (hst wx hg).size (Nat.le_succ _) (by have := hs.e; omega) hs.es hb hb1')
  have HRR := Lib.hid (fun wx hg hb => mis_R1 vR w.heap.size c.reps wx (w.heap.size + 1) b1 b2 (h.r.below (hst wx hg) (Nat.le_refl _)) (hst wx hg).size (Nat.le_succ _) (by have := hs.r; omega) hs.rs hb hb2')
  have HAA := Lib.hid (fun wx hg hb => mis_T1 vA w.heap.size c.ats wx (w.heap.size + 1) b2 b3 (h.a.below (hst wx hg) (Nat.le_refl _)) (hst wx hg).size (Nat.le_succ _) (by have := hs.a; omega) hs.as_ hb hb3')
  have g2 := (hbox w0 (World.grownBy.refl _ _)).at_.2.2.1
  clear hq hfin hlen hs h hpl hr hb1 hbx hbb hst hbox hb1' hb2' hb3' hba hw0
  go_enter Try.func42, Try.ntmps42
  go_upto_region 3 with (fail)
  rw [HW.out]
  go_wp2_with fail
  refine (HE.out w0 (World.grownBy.refl _ _) HBB.out).mono ?_
  rintro r w1 ⟨rfl, hbb1, hg1⟩
  have g3 := (HBX.out w1 hg1).at_.2.2.2.1
  clear g2
  have HBB1 := Lib.hid hbb1; have HG1 := Lib.hid hg1; clear hbb1 hg1
  go_wp2_with fail
  refine (HRR.out w1 HG1.out HBB1.out).mono ?_
  rintro r w2 ⟨rfl, hbb2, hg2⟩
  have HBB2 := Lib.hid hbb2; have HG2 := Lib.hid (HG1.out.trans hg2); clear hbb2 hg2 g3
  have g4 := (HBX.out w2 HG2.out).at_.2.2.2.2.1
  go_wp2_with fail
  refine (HAA.out w2 HG2.out HBB2.out).mono ?_
  rintro r w3 ⟨rfl, hbb3, hg3⟩
  have HBB3 := Lib.hid hbb3; have HG3 := Lib.hid (HG2.out.trans hg3); clear hbb3 hg3 g4
  have g5 := (HBX.out w3 HG3.out).at_.2.2.2.2.2.1
  clear hmf
  go_wp2
  clear g5
  go_loopw [6, 23] (fun _ i wr => ∃ k : Nat, i = .int .i64 k ∧ k ≤ l.length ∧ Bb wr (w.heap.size + 1) (b3 || !(l.take k).all fun x => rightB x.pe.el && x.pe.at_.all attrB) ∧ w0.grownBy wr (some (w.heap.size + 1))) (fun _ i _ => l.length - (intOf i).toNat)
  case atStart => exact ⟨0, rfl, Nat.zero_le _, by simpa using HBB3.out, HG3.out⟩
  case round =>
    obtain ⟨k, rfl, hks, hn, hgr⟩ := hrel
    by_cases hk : k < l.length
    · have hbel := HST.out wr hgr
      obtain ⟨b, off, x, rfl, hb, hx, hcs, hsx, hxm⟩ := (HR.out.below hbel).at_ k hk
      obtain ⟨k0, k1⟩ := range2p hcs
      obtain ⟨hx1, hx2, hx3⟩ := HLEN.out x hxm
      have hsn := all_snocP (fun x => rightB x.pe.el && x.pe.at_.all attrB) l k x hx
      obtain ⟨t, ht⟩ : ∃ t, (b3 || !(l.take k).all fun x => rightB x.pe.el && x.pe.at_.all attrB) = t := ⟨_, rfl⟩
      rw [ht] at hn
      obtain ⟨t1, ht1⟩ : ∃ t1, (t || !rightB x.pe.el) = t1 := ⟨_, rfl⟩
      obtain ⟨t2, ht2⟩ : ∃ t2, (t1 || !x.pe.at_.all attrB) = t2 := ⟨_, rfl⟩
      have hsn2 : (b3 || !(l.take (k + 1)).all fun x => rightB x.pe.el && x.pe.at_.all attrB) = t2 := by
        rw [hsn, ← ht2, ← ht1, ← ht]
        cases b3 <;> cases ((l.take k).all fun x => rightB x.pe.el && x.pe.at_.all attrB) <;> cases rightB x.pe.el <;> cases x.pe.at_.all attrB <;> rfl
      have hgr1 := hgr.trans (World.grownBy_alloc wr (perO x) (some (w.heap.size + 1)))
      have hz1 : w.heap.size ≤ wr.heap.size := hbel.size
      have hgne : ¬ wr.heap.size = w.heap.size + 1 := by have := hgr.size; omega
      have hpx : ∀ wx, (wr.alloc (perO x)).grownBy wx (some (w.heap.size + 1)) → wx.cell? ⟨wr.heap.size, 1, none⟩ = some (.slice x.A x.pe.at_.length x.c) := fun wx hg => (World.cell?_of_block (a := ⟨wr.heap.size, 1, none⟩) (hg.block _ (by simp) (by simpa using hgne))).trans (pbox_at wr x 1)
      have HPX := Lib.hid hpx
      have hR2 := mis_R2 x.pe.el (wr.alloc (perO x)) (w.heap.size + 1) t t1 hx2 (hn.below (below_new12 wr (perO x))) ht1
      rw [World.size_alloc] at hR2
      have HR2 := Lib.hid hR2
      clear hR2
      have hbw : ∀ wx, (wr.alloc (perO x)).grownBy wx (some (w.heap.size + 1)) → Below w.heap.size wr wx := fun wx hg => ((Below.refl w.heap.size wr).alloc hz1 _).grown hg (by simp; omega) (fun k hk => by injection hk with hk; omega)
      have HT2 := Lib.hid (fun wx (hg : (wr.alloc (perO x)).grownBy wx (some (w.heap.size + 1))) hb => mis_T1 (.slice x.A x.pe.at_.length x.c) w.heap.size x.pe.at_ wx (w.heap.size + 1) t1 t2 (hsx.below (hbw wx hg) (Nat.le_refl _)) (HST.out wx (hgr1.trans hg)).size (Nat.le_succ _) (by omega) hx3 hb ht2)
      have HSN := Lib.hid hsn2; have HGR := Lib.hid hgr1
      clear hcs hsx hsn hsn2 hgr hgr1 hn ht ht1 ht2 hbel hpx hx3 hx2 hbw
      go_wp2_with fail
      refine HR2.out.mono ?_
      rintro r w4 ⟨rfl, hbb4, hg4⟩
      have p1 := HPX.out w4 hg4
      have HB4 := Lib.hid hbb4; have HG4 := Lib.hid hg4
      clear hbb4 hg4
      go_wp2_with fail
      refine (HT2.out w4 HG4.out HB4.out).mono ?_
      rintro r w5 ⟨rfl, hbb5, hg5⟩
      have HB5 := Lib.hid hbb5; have HG5 := Lib.hid (HGR.out.trans (HG4.out.trans hg5))
      clear hbb5 hg5
      go_wp2
      go_roundw
      case rel => exact ⟨k + 1, by go_num, by omega, by rw [HSN.out]; exact HB5.out, HG5.out⟩
      case measure => simp [intOf]; omega
    · rw [List.take_of_length_le (by omega), HQ.out] at hn
      have g0 := hn.cell
      have HBL := Lib.hid (HST.out wr hgr)
      clear hn hgr
      go_wp2
      go_ret
      exact ⟨rfl, HBL.out⟩

set_option maxRecDepth 100000 in
set_option maxHeartbeats 4000000 in
theorem repeats1 (v : Value) (c : Cf) (w : World) (q : Bool) (h : Cv w w.heap.size v c) (hs : Sm c) (hq : (!singleB c) = q) :
    Calls Try.prog 43 #[v] w fun r w' => r = .returned (.bool q) ∧ Below w.heap.size w w' := by
  obtain ⟨vE, vR, vA, vP, l, rfl, h⟩ := h
  obtain ⟨w0, hw0⟩ : ∃ w0, w.alloc (confO c vE vR vA vP) = w0 := ⟨_, rfl⟩
  have hb1 : Below w.heap.size w w0 := hw0 ▸ below_new12 w (confO c vE vR vA vP)
  have hbx : Bx w0 w.heap.size c vE vR vA vP := hw0 ▸ Bx.new w c vE vR vA vP
  have hz : w.heap.size < w0.heap.size := by rw [← hw0]; simp
  have h0 := h.on hb1
  obtain ⟨A, cp, rfl, hcp, hna, hr⟩ := h0.p
  have hpl : c.per.length = l.length := by rw [← h.m, len_pes]
  have hl : l.length ≤ 1000 := by have := hs.p; omega
  have hlen : ∀ x ∈ l, x.pe.at_.length ≤ 1000 := fun x hx => hs.pa _ (by rw [← h.m]; exact List.mem_map.2 ⟨x, hx, rfl⟩)
  obtain ⟨e1, he1⟩ : ∃ b, (!onceB c.els) = b := ⟨_, rfl⟩
  obtain ⟨e2, he2⟩ : ∃ b, (!onceB c.reps) = b := ⟨_, rfl⟩
  obtain ⟨e3, he3⟩ : ∃ b, (!onceB c.ats) = b := ⟨_, rfl⟩
  obtain ⟨e4, he4⟩ : ∃ b, (!onceB ((pes l).map Pe.el)) = b := ⟨_, rfl⟩
  have hfin : ((l.any fun x => !onceB x.pe.at_) || (e1 || e2 || e3 || e4)) = q := by
    rw [← hq, ← he1, ← he2, ← he3, ← he4]
    unfold singleB
    rw [← h.m]
    unfold pes
    rw [List.all_map, List.any_eq_not_all_not, show (l.all ((fun p => onceB p.at_) ∘ Pw.pe)) = l.all fun x => onceB x.pe.at_ from rfl]
    simp only [Bool.not_not]
    cases onceB c.els <;> cases onceB c.reps <;> cases onceB c.ats <;> cases onceB ((l.map Pw.pe).map Pe.el) <;> cases (l.all fun x => onceB x.pe.at_) <;> rfl
  have HQ := Lib.hid hfin; have HLEN := Lib.hid hlen; have HW := Lib.hid hw0; have HB1 := Lib.hid hb1; have HR := Lib.hid hr
  have HBX := Lib.hid (fun wx (hb : Below w0.heap.size w0 wx) => hbx.below hb hz)
  have HE := Lib.hid (fun wx hb => twiceS vE c.els wx e1 (sv_on h0.e hb) (by have := hs.e; omega) he1)
  have HRR := Lib.hid (fun wx hb => twiceS vR c.reps wx e2 (sv_on h0.r hb) (by have := hs.r; omega) he2)
  have HAA := Lib.hid (fun wx hb => twiceS vA c.ats wx e3 (sv_on h0.a hb) (by have := hs.a; omega) he3)
  have HPP := Lib.hid (fun wx hb => twiceP (.slice A l.length cp) l wx e4 (h0.p.on hb) (by omega) he4)
  clear hq hfin hlen hs h h0 hpl hr hb1 hbx he1 he2 he3 he4 hw0
  go_enter Try.func43, Try.ntmps43
  go_wp2
  rw [HW.out]
  go_loopw [5, 9] (fun _ i wr => ∃ k : Nat, i = .int .i64 k ∧ k ≤ l.length ∧ ((l.take k).any fun x => !onceB x.pe.at_) = false ∧ Below w0.heap.size w0 wr) (fun _ i _ => l.length - (intOf i).toNat)
  case atStart => exact ⟨0, rfl, Nat.zero_le _, rfl, Below.refl _ _⟩
  case round =>
    obtain ⟨k, rfl, hks, hn, hbel⟩ := hrel
    by_cases hk : k < l.length
    · obtain ⟨b, off, x, rfl, hb, hx, hcs, hsx, hxm⟩ := (HR.out.below hbel).at_ k hk
      obtain ⟨k0, k1⟩ := range2p hcs
      have hx1 := HLEN.out x hxm
      have hsn := any_snoc (fun x : Pw => !onceB x.pe.at_) l k x hx
      rw [hn, Bool.false_or] at hsn
      obtain ⟨t, ht⟩ : ∃ t, (!onceB x.pe.at_) = t := ⟨_, rfl⟩
      rw [ht] at hsn
      have hsx1 : Sx (wr.alloc (perO x)) (wr.alloc (perO x)).heap.size x := Sx.boxed hsx hbel (perO x)
      have HT := Lib.hid (twiceS (.slice x.A x.pe.at_.length x.c) x.pe.at_ _ t hsx1 (by omega) ht)
      have HSN := Lib.hid hsn; have HBL := Lib.hid (hbel.trans ((below_new12 wr (perO x)).mono hbel.size))
      clear hcs hsx hsx1 hsn hn hbel
      cases t with
      | true =>
        have HM := Lib.hid (any_yes (fun x : Pw => !onceB x.pe.at_) l x hxm ht)
        clear ht
        go_wp2_with fail
        refine HT.out.mono ?_
        rintro r w3 ⟨rfl, hb3⟩
        go_wp2
        go_ret
        exact ⟨ret_bool (by rw [← HQ.out, HM.out]; rfl), HB1.out.trans ((HBL.out.trans (hb3.mono HBL.out.size)).mono HB1.out.size)⟩
      | false =>
        clear ht
        go_wp2_with fail
        refine HT.out.mono ?_
        rintro r w3 ⟨rfl, hb3⟩
        go_wp2
        go_roundw
        case rel => exact ⟨k + 1, by go_num, by omega, HSN.out, HBL.out.trans (hb3.mono HBL.out.size)⟩
        case measure => simp [intOf]; omega
    · rw [List.take_of_length_le (by omega)] at hn
      have hq := HQ.out
      rw [hn, Bool.false_or] at hq
      have g2 := (HBX.out wr hbel).at_.2.2.1
      have HBL := Lib.hid hbel; have HQ2 := Lib.hid hq
      clear hn hbel hq
      cases e1 with
      | true =>
        go_wp2_with (go_at_call 59; refine (HE.out _ HBL.out).mono ?_; rintro r w3 ⟨rfl, hb3⟩)
        go_ret
        exact ⟨ret_bool (by rw [← HQ2.out]; rfl), HB1.out.trans ((HBL.out.trans (hb3.mono HBL.out.size)).mono (Nat.le_of_lt hz))⟩
      | false =>
        go_wp2_with fail
        refine (HE.out _ HBL.out).mono ?_
        rintro r w3 ⟨rfl, hb3⟩
        have HBL3 := Lib.hid (HBL.out.trans (hb3.mono HBL.out.size))
        clear hb3 g2
        have g3 := (HBX.out w3 HBL3.out).at_.2.2.2.1
        cases e2 with
        | true =>
          go_wp2_with (go_at_call 59; refine (HRR.out _ HBL3.out).mono ?_; rintro r w4 ⟨rfl, hb4⟩)
          go_ret
          exact ⟨ret_bool (by rw [← HQ2.out]; rfl), HB1.out.trans ((HBL3.out.trans (hb4.mono HBL3.out.size)).mono (Nat.le_of_lt hz))⟩
        | false =>
          go_wp2_with fail
          refine (HRR.out _ HBL3.out).mono ?_
          rintro r w4 ⟨rfl, hb4⟩
          have HBL4 := Lib.hid (HBL3.out.trans (hb4.mono HBL3.out.size))
          clear hb4 g3
          have g4 := (HBX.out w4 HBL4.out).at_.2.2.2.2.1
          cases e3 with
          | true =>
            go_wp2_with (go_at_call 59; refine (HAA.out _ HBL4.out).mono ?_; rintro r w5 ⟨rfl, hb5⟩)
            go_ret
            exact ⟨ret_bool (by rw [← HQ2.out]; rfl), HB1.out.trans ((HBL4.out.trans (hb5.mono HBL4.out.size)).mono (Nat.le_of_lt hz))⟩
          | false =>
            go_wp2_with fail
            refine (HAA.out _ HBL4.out).mono ?_
            rintro r w5 ⟨rfl, hb5⟩
            have HBL5 := Lib.hid (HBL4.out.trans (hb5.mono HBL4.out.size))
            clear hb5 g4
            have g5 := (HBX.out w5 HBL5.out).at_.2.2.2.2.2.1
            go_wp2_with (go_at_call 61; refine (HPP.out _ HBL5.out).mono ?_; rintro r w6 ⟨rfl, hb6⟩)
            go_ret
            exact ⟨ret_bool (by rw [← HQ2.out]; rfl), HB1.out.trans ((HBL5.out.trans (hb6.mono HBL5.out.size)).mono (Nat.le_of_lt hz))⟩

end Go.Proofs.Ytnogneknoponkaa.Co

namespace Go.Proofs.Ytnogneknoponkaa.Co
set_option maxRecDepth 100000
set_option linter.unusedVariables false
set_option linter.unusedSimpArgs false
open Go.RowKit Ba Fm Fo Nm Rk
theorem meetSP_eq (a : List ByteArray) (l : List Pe) : meetSPB a l = l.any fun p => meetB p.at_ a := by
  unfold meetSPB
  rw [Bool.eq_iff_iff, List.any_eq_true, List.any_eq_true]
  constructor
  · rintro ⟨x, hx, h⟩
    obtain ⟨p, hp, hi⟩ := List.any_eq_true.1 h
    exact ⟨p, hp, meet_iff.2 ⟨x, isIn_of hi, hx⟩⟩
  · rintro ⟨p, hp, h⟩
    obtain ⟨x, h1, h2⟩ := meet_iff.1 h
    exact ⟨x, h2, any_yes _ _ p hp (isIn_yes h1)⟩
set_option maxRecDepth 100000 in
set_option maxHeartbeats 4000000 in
theorem contradicts1 (v : Value) (c : Cf) (w : World) (q : Bool) (h : Cv w w.heap.size v c) (hs : Sm c) (hq : bothB c = q) :
    Calls Try.prog 44 #[v] w fun r w' => r = .returned (.bool q) ∧ Below w.heap.size w w' := by
  obtain ⟨vE, vR, vA, vP, l, rfl, h⟩ := h
  obtain ⟨al, aa, els, reps, ats, per, cm, da⟩ := c
  obtain ⟨O, hO⟩ : ∃ O : Obj, O = .cells #[.bool al, .bool aa, vE, vR, vA, vP, .bool cm, .bool da] 25 := ⟨_, rfl⟩
  have hb1 : Below w.heap.size w (w.alloc O) := below_new12 w O
  have hz : w.heap.size < (w.alloc O).heap.size := by simp
  have hbx : Bx (w.alloc O) w.heap.size ⟨al, aa, els, reps, ats, per, cm, da⟩ vE vR vA vP := by rw [hO]; exact Bx.new w ⟨al, aa, els, reps, ats, per, cm, da⟩ vE vR vA vP
  have h0 := h.on hb1
  have hpl : per.length = l.length := by have := h.m; simp only at this; rw [← this, len_pes]
  have hl : l.length ≤ 1000 := by have := hs.p; simp only at this; omega
  have hlen : ∀ x ∈ l, x.pe.at_.length ≤ 1000000 := fun x hx => Nat.le_trans (hs.pa x.pe (by rw [← h.m]; exact List.mem_map.2 ⟨x, hx, rfl⟩)) (by omega)
  obtain ⟨e1, he1⟩ : ∃ b, meetB els reps = b := ⟨_, rfl⟩
  obtain ⟨e2, he2⟩ : ∃ b, meetSPB ats (pes l) = b := ⟨_, rfl⟩
  have hfin : (e1 || e2 || (da && !aa)) = q := by
    rw [← hq, ← he1, ← he2, meetSP_eq, h.m]
    show (meetB els reps || (per.any fun p => meetB p.at_ ats) || (da && !aa)) = (meetB els reps || (da && !aa) || per.any fun p => meetB p.at_ ats)
    rw [Bool.or_assoc, Bool.or_assoc, Bool.or_comm (per.any _)]
  have hls := hs.e; have hlr := hs.r; have hla := hs.a
  simp only at hls hlr hla
  have HE := Lib.hid (fun wx (hw : w.alloc O = wx) => meetSS vE vR wx.heap.size wx.heap.size els reps wx e1 (by subst hw; exact h0.e) (by subst hw; exact h0.r) (by omega) (by omega) he1)
  have HP := Lib.hid (fun wx (hw : w.alloc O = wx) => meetSP vA vP ats l wx e2 (by subst hw; exact h0.a) (by subst hw; exact h0.p) (by omega) (by omega) hlen he2)
  have H1 := Lib.hid (fun (wx : World) (hb : Below (w.alloc O).heap.size (w.alloc O) wx) => show wx.cell? ⟨w.heap.size, 1, none⟩ = some (.bool aa) ∧ wx.cell? ⟨w.heap.size, 7, none⟩ = some (.bool da) from ⟨(hbx.below hb hz).at_.2.1, (hbx.below hb hz).at_.2.2.2.2.2.2.2⟩)
  have HB1 := Lib.hid hb1; have HQ := Lib.hid hfin
  clear hq hfin hlen hs h h0 hpl hb1 hbx he1 he2 hls hlr hla
  subst hO
  cases e1 with
  | true =>
    go_enter Try.func44, Try.ntmps44
    go_wp2_with (go_at_call 63; refine (HE.out _ rfl).mono ?_; rintro r w3 ⟨rfl, rfl⟩)
    go_ret
    exact ⟨ret_bool (by rw [← HQ.out]; rfl), HB1.out⟩
  | false =>
    cases e2 with
    | true =>
      go_enter Try.func44, Try.ntmps44
      go_wp2_with (first
        | (go_at_call 63; refine (HE.out _ rfl).mono ?_; rintro r w3 ⟨rfl, rfl⟩)
        | (go_at_call 64; refine (HP.out _ rfl).mono ?_; rintro r w3 ⟨rfl, hb3⟩))
      go_ret
      exact ⟨ret_bool (by rw [← HQ.out]; rfl), bt HB1.out hb3⟩
    | false =>
      cases da with
      | true =>
        go_enter Try.func44, Try.ntmps44
        go_wp2_with (first
          | (go_at_call 63; refine (HE.out _ rfl).mono ?_; rintro r w3 ⟨rfl, rfl⟩)
          | (go_at_call 64; refine (HP.out _ rfl).mono ?_; rintro r w3 ⟨rfl, hb3⟩; obtain ⟨g1, g7⟩ := H1.out _ hb3))
        go_ret
        exact ⟨ret_bool (by rw [← HQ.out]; simp), bt HB1.out hb3⟩
      | false =>
        go_enter Try.func44, Try.ntmps44
        go_wp2_with (first
          | (go_at_call 63; refine (HE.out _ rfl).mono ?_; rintro r w3 ⟨rfl, rfl⟩)
          | (go_at_call 64; refine (HP.out _ rfl).mono ?_; rintro r w3 ⟨rfl, hb3⟩; obtain ⟨g1, g7⟩ := H1.out _ hb3))
        go_ret
        exact ⟨ret_bool (by rw [← HQ.out]; rfl), bt HB1.out hb3⟩
set_option maxRecDepth 100000 in
set_option maxHeartbeats 4000000 in
theorem check12 (v : Value) (c : Cf) (w : World) (q : Nat) (h : Cv w w.heap.size v c) (hs : Sm c) (hq : checkN c = q) :
    Calls Try.prog 18 #[v] w fun r w' => r = .returned (.int .i64 q) ∧ Below w.heap.size w w' := by
  obtain ⟨vE, vR, vA, vP, l, rfl, h⟩ := h
  obtain ⟨w0, hw0⟩ : ∃ w0, w.alloc (confO c vE vR vA vP) = w0 := ⟨_, rfl⟩
  have hb1 : Below w.heap.size w w0 := hw0 ▸ below_new12 w (confO c vE vR vA vP)
  have hbx : Bx w0 w.heap.size c vE vR vA vP := hw0 ▸ Bx.new w c vE vR vA vP
  have hz : w.heap.size < w0.heap.size := by rw [← hw0]; simp
  have hcv : Cv w0 w0.heap.size (confV c vE vR vA vP) c := ⟨vE, vR, vA, vP, l, rfl, h.on hb1⟩
  obtain ⟨e1, he1⟩ : ∃ b, bigB c = b := ⟨_, rfl⟩
  obtain ⟨e2, he2⟩ : ∃ b, (!namesB c) = b := ⟨_, rfl⟩
  obtain ⟨e3, he3⟩ : ∃ b, (!singleB c) = b := ⟨_, rfl⟩
  obtain ⟨e4, he4⟩ : ∃ b, bothB c = b := ⟨_, rfl⟩
  have hfin : (if e1 = true then 2 else if e2 = true then 121 else if e3 = true then 122 else if e4 = true then 120 else 0) = q := by
    rw [← hq, ← he1, ← he2, ← he3, ← he4]
    unfold checkN
    cases namesB c <;> cases singleB c <;> rfl
  have HBX := Lib.hid (fun wx (hb : Below w0.heap.size w0 wx) => (hbx.below hb hz).at_)
  have H1 := Lib.hid (fun wx hb => exceeds1 (confV c vE vR vA vP) c wx e1 (hcv.on hb) hs he1)
  have H2 := Lib.hid (fun wx hb => misnames1 (confV c vE vR vA vP) c wx e2 (hcv.on hb) hs he2)
  have H3 := Lib.hid (fun wx hb => repeats1 (confV c vE vR vA vP) c wx e3 (hcv.on hb) hs he3)
  have H4 := Lib.hid (fun wx hb => contradicts1 (confV c vE vR vA vP) c wx e4 (hcv.on hb) hs he4)
  have HW := Lib.hid hw0; have HB1 := Lib.hid hb1
  clear hq hs h hb1 hbx he1 he2 he3 he4 hw0 hcv
  go_enter Try.func18, Try.ntmps18
  go_wp2_with fail
  rw [HW.out]
  refine (H1.out _ (Below.refl _ _)).mono ?_
  rintro r w1 ⟨rfl, hb1⟩
  have HL1 := Lib.hid hb1
  obtain ⟨g0, g1, g2, g3, g4, g5, g6, g7⟩ := HBX.out w1 hb1
  clear hb1
  cases e1 with
  | true =>
    rw [if_pos rfl] at hfin
    subst hfin
    go_wp2
    go_ret
    exact ⟨rfl, HB1.out.trans (HL1.out.mono (Nat.le_of_lt hz))⟩
  | false =>
  rw [if_neg (by simp)] at hfin
  go_wp2_with fail
  refine (H2.out _ HL1.out).mono ?_
  rintro r w2 ⟨rfl, hb2⟩
  have HL2 := Lib.hid (HL1.out.trans (hb2.mono HL1.out.size))
  clear g0 g1 g2 g3 g4 g5 g6 g7 hb2
  obtain ⟨g0, g1, g2, g3, g4, g5, g6, g7⟩ := HBX.out w2 HL2.out
  cases e2 with
  | true =>
    rw [if_pos rfl] at hfin
    subst hfin
    go_wp2
    go_ret
    exact ⟨rfl, HB1.out.trans (HL2.out.mono (Nat.le_of_lt hz))⟩
  | false =>
  rw [if_neg (by simp)] at hfin
  go_wp2_with fail
  refine (H3.out _ HL2.out).mono ?_
  rintro r w3 ⟨rfl, hb3⟩
  have HL3 := Lib.hid (HL2.out.trans (hb3.mono HL2.out.size))
  clear g0 g1 g2 g3 g4 g5 g6 g7 hb3
  obtain ⟨g0, g1, g2, g3, g4, g5, g6, g7⟩ := HBX.out w3 HL3.out
  cases e3 with
  | true =>
    rw [if_pos rfl] at hfin
    subst hfin
    go_wp2
    go_ret
    exact ⟨rfl, HB1.out.trans (HL3.out.mono (Nat.le_of_lt hz))⟩
  | false =>
  rw [if_neg (by simp)] at hfin
  go_wp2_with fail
  refine (H4.out _ HL3.out).mono ?_
  rintro r w4 ⟨rfl, hb4⟩
  have HL4 := Lib.hid (HL3.out.trans (hb4.mono HL3.out.size))
  clear g0 g1 g2 g3 g4 g5 g6 g7 hb4
  cases e4 with
  | true =>
    rw [if_pos rfl] at hfin
    subst hfin
    go_wp2
    go_ret
    exact ⟨rfl, HB1.out.trans (HL4.out.mono (Nat.le_of_lt hz))⟩
  | false =>
    rw [if_neg (by simp)] at hfin
    subst hfin
    go_wp2
    go_ret
    exact ⟨rfl, HB1.out.trans (HL4.out.mono (Nat.le_of_lt hz))⟩

end Go.Proofs.Ytnogneknoponkaa.Co

namespace Go.Proofs.Ytnogneknoponkaa.Co
set_option maxRecDepth 100000
set_option linter.unusedVariables false
set_option linter.unusedSimpArgs false
open Go.RowKit Ba Fm Fo Nm Rk
theorem sv_nil12 (w : World) (N : Nat) : Sv w N (.slice none 0 0) [] := ⟨none, 0, rfl, Nat.le_refl _, fun _ => rfl, Rd.nil _ _ _⟩
theorem sv_lit12 {w : World} {g : Nat} {l : List ByteArray} (h : w.heap[g]? = some (.cells (l.map sc).toArray 9)) : Sv w w.heap.size (.slice (some ⟨g, 0, none⟩) l.length l.length) l :=
  ⟨some ⟨g, 0, none⟩, l.length, rfl, Nat.le_refl _, (fun e => by cases e), fun h0 => ⟨g, 0, rfl, (Array.getElem?_eq_some_iff.1 h).1, fun j hj => by
    rw [Nat.zero_add, cell_of_row w g j _ _ _ h]
    simp [List.getElem?_eq_getElem hj, sc]⟩⟩
theorem cp_0 (w : World) (N : Nat) : Cp w N ⟨false, false, [], [], [], [], false, true⟩ (.slice none 0 0) (.slice none 0 0) (.slice none 0 0) (.slice none 0 0) [] := ⟨sv_nil12 _ _, sv_nil12 _ _, sv_nil12 _ _, ⟨none, 0, rfl, Nat.le_refl _, fun _ => rfl, Pr.nil _ _ _⟩, rfl⟩
theorem cp_1 (w : World) (g : Nat) (hg : w.heap[g]? = some (.cells #[.string ⟨#[65]⟩] 9)) : Cv w w.heap.size (.agg #[.bool false, .bool false, .slice (some ⟨g, 0, none⟩) 1 1, .slice none 0 0, .slice none 0 0, .slice none 0 0, .bool false, .bool false]) ⟨false, false, [⟨#[65]⟩], [], [], [], false, false⟩ :=
  ⟨_, _, _, _, [], rfl, sv_lit12 (l := [⟨#[65]⟩]) hg, sv_nil12 _ _, sv_nil12 _ _, ⟨none, 0, rfl, Nat.le_refl _, fun _ => rfl, Pr.nil _ _ _⟩, rfl⟩
theorem cp_2 (w : World) (g : Nat) (hg : w.heap[g]? = some (.cells #[.string ⟨#[97]⟩, .string ⟨#[97]⟩] 9)) : Cv w w.heap.size (.agg #[.bool false, .bool false, .slice none 0 0, .slice none 0 0, .slice (some ⟨g, 0, none⟩) 2 2, .slice none 0 0, .bool false, .bool false]) ⟨false, false, [], [], [⟨#[97]⟩, ⟨#[97]⟩], [], false, false⟩ :=
  ⟨_, _, _, _, [], rfl, sv_nil12 _ _, sv_nil12 _ _, sv_lit12 (l := [⟨#[97]⟩, ⟨#[97]⟩]) hg, ⟨none, 0, rfl, Nat.le_refl _, fun _ => rfl, Pr.nil _ _ _⟩, rfl⟩
theorem below_lit12 {w0 X w' : World} {o : Obj} (hb : Below w0.heap.size w0 X) (he : w'.heap = (X.alloc o).heap := by rfl) (ho : w'.os = X.os := by rfl) (ht : w'.tape = X.tape := by rfl) (hp : w'.output = X.output := by rfl) : Below w0.heap.size w0 w' := bel_eq12 (hb.trans ((below_new12 X o).mono hb.size)) he ho ht hp
theorem heap_lit12 {w X : World} {o : Obj} {g : Nat} (h : w.heap = (X.alloc o).heap) (hg : g = X.heap.size := by rfl) : w.heap[g]? = some o := by rw [h, hg]; exact heap_alloc_new X o
theorem sm_few {c : Cf} (h : c.els.length ≤ 1000 ∧ c.reps.length ≤ 1000 ∧ c.ats.length ≤ 1000 ∧ c.per.length ≤ 1000 ∧ c.els.all (·.size ≤ 1000) ∧ c.reps.all (·.size ≤ 1000) ∧ c.ats.all (·.size ≤ 1000) ∧ c.per.all (fun p => decide (p.at_.length ≤ 1000) && decide (p.el.size ≤ 1000) && p.at_.all (·.size ≤ 1000)) = true) : Sm c := by
  obtain ⟨h1, h2, h3, h4, h5, h6, h7, h8⟩ := h
  have hb : ∀ {l : List ByteArray}, l.all (·.size ≤ 1000) = true → ∀ s ∈ l, s.size ≤ 140737488355328 := fun h s hs => Nat.le_trans (by simpa using List.all_eq_true.1 h s hs) (show 1000 ≤ 140737488355328 by omega)
  have h9 := fun p hp => List.all_eq_true.1 h8 p hp
  simp only [Bool.and_eq_true, decide_eq_true_eq] at h9
  exact ⟨h1, h2, h3, h4, fun p hp => (h9 p hp).1.1, hb h5, hb h6, hb h7, fun p hp => ⟨Nat.le_trans (h9 p hp).1.2 (by omega), hb (h9 p hp).2⟩⟩
theorem sm_plain : Sm plainC := sm_few (by decide +kernel)
theorem sm_all : Sm allC := sm_few (by decide +kernel)
theorem sm_sall : Sm (stripC allC) := sm_few (by decide +kernel)
theorem sm_0 : Sm ⟨false, false, [], [], [], [], false, true⟩ := sm_few (by decide +kernel)
theorem sm_1 : Sm ⟨false, false, [⟨#[65]⟩], [], [], [], false, false⟩ := sm_few (by decide +kernel)
theorem sm_2 : Sm ⟨false, false, [], [], [⟨#[97]⟩, ⟨#[97]⟩], [], false, false⟩ := sm_few (by decide +kernel)
set_option maxRecDepth 100000 in
set_option maxHeartbeats 2000000 in
theorem fixed12 (w : World) : Calls Try.prog 20 #[] w fun e w' => e = .returned (.bool true) ∧ Below w.heap.size w w' := by
  go_enter Try.func20, Try.ntmps20
  go_upto_region 2 with (first
    | (go_at_call 28; refine (plain1 _).mono ?_; rintro r w1 ⟨v1, rfl, ho1, hb1⟩; obtain ⟨vE, vR, vA, vP, l, rfl, ho1⟩ := ho1; obtain ⟨A1, n1, c1, rfl⟩ := own_shape ho1.e; obtain ⟨A2, n2, c2, rfl⟩ := own_shape ho1.r; obtain ⟨A3, n3, c3, rfl⟩ := own_shape ho1.a; obtain ⟨A4, n4, c4, rfl⟩ := po_shape ho1.p; have HO1 := Lib.hid ho1; have HB1 := Lib.hid hb1; clear ho1 hb1)
    | (go_at_call 29; refine (all1 _).mono ?_; rintro r w2 ⟨v2, rfl, ho2, hb2⟩; obtain ⟨uE, uR, uA, uP, m, rfl, ho2⟩ := ho2; obtain ⟨B1, k1, d1, rfl⟩ := own_shape ho2.e; obtain ⟨B2, k2, d2, rfl⟩ := own_shape ho2.r; obtain ⟨B3, k3, d3, rfl⟩ := own_shape ho2.a; obtain ⟨B4, k4, d4, rfl⟩ := po_shape ho2.p; have HO2 := Lib.hid ho2; have HB2 := Lib.hid hb2; clear ho2 hb2))
  obtain ⟨w3, hw3⟩ : ∃ w3, ((w2.alloc (.cells #[.bool plainC.allow, .bool plainC.attrsAllow, .slice A1 n1 c1, .slice A2 n2 c2, .slice A3 n3 c3, .slice A4 n4 c4, .bool plainC.comments, .bool plainC.dataAttrs] 25)).alloc (.cells #[.bool allC.allow, .bool allC.attrsAllow, .slice B1 k1 d1, .slice B2 k2 d2, .slice B3 k3 d3, .slice B4 k4 d4, .bool allC.comments, .bool allC.dataAttrs] 25)) = w3 := ⟨_, rfl⟩
  rw [hw3]
  have hz3 : w2.heap.size + 1 < w3.heap.size := by rw [← hw3]; simp
  have hb3 : Below w2.heap.size w2 w3 := hw3 ▸ below_two w2 _ _
  have hx1 : Bx w3 w2.heap.size plainC (.slice A1 n1 c1) (.slice A2 n2 c2) (.slice A3 n3 c3) (.slice A4 n4 c4) := hw3 ▸ (Bx.new w2 plainC _ _ _ _).below (below_new12 _ _) (by simp)
  have hx2 : Bx w3 (w2.heap.size + 1) allC (.slice B1 k1 d1) (.slice B2 k2 d2) (.slice B3 k3 d3) (.slice B4 k4 d4) := by
    have := Bx.new (w2.alloc (confO plainC (.slice A1 n1 c1) (.slice A2 n2 c2) (.slice A3 n3 c3) (.slice A4 n4 c4))) allC (.slice B1 k1 d1) (.slice B2 k2 d2) (.slice B3 k3 d3) (.slice B4 k4 d4)
    rw [World.size_alloc] at this
    exact hw3 ▸ this
  have hp3 : Cp w3 w3.heap.size plainC (.slice A1 n1 c1) (.slice A2 n2 c2) (.slice A3 n3 c3) (.slice A4 n4 c4) l := (HO1.out.cp.on HB2.out).on hb3
  have ha3 : Cp w3 w3.heap.size allC (.slice B1 k1 d1) (.slice B2 k2 d2) (.slice B3 k3 d3) (.slice B4 k4 d4) m := HO2.out.cp.on hb3
  have hb13 : Below w.heap.size w w3 := HB1.out.trans ((HB2.out.trans (hb3.mono HB2.out.size)).mono HB1.out.size)
  have HX1 := Lib.hid hx1; have HX2 := Lib.hid hx2; have HP := Lib.hid hp3; have HA := Lib.hid ha3; have HB := Lib.hid hb13
  obtain ⟨q0, q1, q2, q3, q4, q5, q6, q7⟩ := hx2.at_
  clear hw3 hb3 hx1 hx2 hp3 ha3 hb13 HO1 HO2 HB1 HB2
  generalize w2.heap.size = g at *
  go_upto_region 3 with (first
    | (go_at_call 15; refine (strip1 _ allC w3 ⟨_, _, _, _, _, rfl, HA.out⟩ sm_all).mono ?_; rintro r w4 ⟨v4, rfl, ho4, hb4⟩; obtain ⟨vE, vR, vA, vP, l4, rfl, ho4⟩ := ho4; obtain ⟨D1, i1, j1, rfl⟩ := own_shape ho4.e; obtain ⟨D2, i2, j2, rfl⟩ := own_shape ho4.r; obtain ⟨D3, i3, j3, rfl⟩ := own_shape ho4.a; obtain ⟨D4, i4, j4, rfl⟩ := po_shape ho4.p; have HO4 := Lib.hid ho4; have HB4 := Lib.hid hb4; clear ho4 hb4))
  obtain ⟨w5, hw5⟩ : ∃ w5, (w4.alloc (.cells #[.bool (stripC allC).allow, .bool (stripC allC).attrsAllow, .slice D1 i1 j1, .slice D2 i2 j2, .slice D3 i3 j3, .slice D4 i4 j4, .bool (stripC allC).comments, .bool (stripC allC).dataAttrs] 25) : World) = w5 := ⟨_, rfl⟩
  rw [hw5]
  have hz5 : w4.heap.size < w5.heap.size := by rw [← hw5]; simp
  have hb5 : Below w4.heap.size w4 w5 := hw5 ▸ below_new12 w4 _
  have hx3 : Bx w5 w4.heap.size (stripC allC) (.slice D1 i1 j1) (.slice D2 i2 j2) (.slice D3 i3 j3) (.slice D4 i4 j4) := hw5 ▸ Bx.new w4 (stripC allC) _ _ _ _
  have hb35 : Below w3.heap.size w3 w5 := HB4.out.trans (hb5.mono HB4.out.size)
  have cp := HP.out.on hb35
  have ca := HA.out.on hb35
  have cs := HO4.out.cp.on hb5
  have hwb := HB.out.trans (hb35.mono HB.out.size)
  have hx1 := HX1.out.below hb35 (show g < w3.heap.size by omega)
  have hx2 := HX2.out.below hb35 (show g + 1 < w3.heap.size by omega)
  have hg1 : g < w5.heap.size := Nat.lt_of_lt_of_le (show g < w3.heap.size by omega) hb35.size
  have hg2 : g + 1 < w5.heap.size := Nat.lt_of_lt_of_le (show g + 1 < w3.heap.size by omega) hb35.size
  have HWB := Lib.hid hwb
  generalize w4.heap.size = g3 at *
  have CP := (fun wx (hb : Below w5.heap.size w5 wx) => (show Cv wx wx.heap.size (confV plainC (.slice A1 n1 c1) (.slice A2 n2 c2) (.slice A3 n3 c3) (.slice A4 n4 c4)) plainC from ⟨_, _, _, _, _, rfl, cp.on hb⟩))
  have CA := (fun wx (hb : Below w5.heap.size w5 wx) => (show Cv wx wx.heap.size (.agg #[.bool allC.allow, .bool allC.attrsAllow, .slice B1 k1 d1, .slice B2 k2 d2, .slice B3 k3 d3, .slice B4 k4 d4, .bool true, .bool allC.dataAttrs]) allC from ⟨_, _, _, _, _, rfl, ca.on hb⟩))
  have CS := (fun wx (hb : Below w5.heap.size w5 wx) => (show Cv wx wx.heap.size (confV (stripC allC) (.slice D1 i1 j1) (.slice D2 i2 j2) (.slice D3 i3 j3) (.slice D4 i4 j4)) (stripC allC) from ⟨_, _, _, _, _, rfl, cs.on hb⟩))
  have HBL := Lib.hid (fun wx (hb : Below w5.heap.size w5 wx) => show wx.cell? ⟨g, 0, none⟩ = some (.bool plainC.allow) ∧ wx.cell? ⟨g, 1, none⟩ = some (.bool plainC.attrsAllow) ∧ wx.cell? ⟨g, 2, none⟩ = some (.slice A1 n1 c1) ∧ wx.cell? ⟨g, 3, none⟩ = some (.slice A2 n2 c2) ∧ wx.cell? ⟨g, 4, none⟩ = some (.slice A3 n3 c3) ∧ wx.cell? ⟨g, 5, none⟩ = some (.slice A4 n4 c4) ∧ wx.cell? ⟨g, 6, none⟩ = some (.bool plainC.comments) ∧ wx.cell? ⟨g, 7, none⟩ = some (.bool plainC.dataAttrs) ∧ wx.cell? ⟨(g + 1), 0, none⟩ = some (.bool allC.allow) ∧ wx.cell? ⟨(g + 1), 1, none⟩ = some (.bool allC.attrsAllow) ∧ wx.cell? ⟨(g + 1), 2, none⟩ = some (.slice B1 k1 d1) ∧ wx.cell? ⟨(g + 1), 3, none⟩ = some (.slice B2 k2 d2) ∧ wx.cell? ⟨(g + 1), 4, none⟩ = some (.slice B3 k3 d3) ∧ wx.cell? ⟨(g + 1), 5, none⟩ = some (.slice B4 k4 d4) ∧ wx.cell? ⟨(g + 1), 6, none⟩ = some (.bool true) ∧ wx.cell? ⟨(g + 1), 7, none⟩ = some (.bool allC.dataAttrs) ∧ wx.cell? ⟨g3, 0, none⟩ = some (.bool (stripC allC).allow) ∧ wx.cell? ⟨g3, 1, none⟩ = some (.bool (stripC allC).attrsAllow) ∧ wx.cell? ⟨g3, 2, none⟩ = some (.slice D1 i1 j1) ∧ wx.cell? ⟨g3, 3, none⟩ = some (.slice D2 i2 j2) ∧ wx.cell? ⟨g3, 4, none⟩ = some (.slice D3 i3 j3) ∧ wx.cell? ⟨g3, 5, none⟩ = some (.slice D4 i4 j4) ∧ wx.cell? ⟨g3, 6, none⟩ = some (.bool (stripC allC).comments) ∧ wx.cell? ⟨g3, 7, none⟩ = some (.bool (stripC allC).dataAttrs) from by
    obtain ⟨a0, a1, a2, a3, a4, a5, a6, a7⟩ := (hx1.below hb hg1).at_
    obtain ⟨b0, b1, b2, b3, b4, b5, b6, b7⟩ := (hx2.below hb hg2).at_
    obtain ⟨x0, x1, x2, x3, x4, x5, x6, x7⟩ := (hx3.below hb hz5).at_
    exact ⟨a0, a1, a2, a3, a4, a5, a6, a7, b0, b1, b2, b3, b4, b5, b6, b7, x0, x1, x2, x3, x4, x5, x6, x7⟩)
  have H0 := Lib.hid (fun wx (hb : Below w5.heap.size w5 wx) => (element1 _ plainC ⟨#[98]⟩ wx 0 (CP wx hb) sm_plain plain_b).mono fun r w' ⟨e, h⟩ => (show r = _ ∧ Below w5.heap.size w5 w' from ⟨e, hb.trans (h.mono hb.size)⟩))
  have H1 := Lib.hid (fun wx (hb : Below w5.heap.size w5 wx) => (element1 _ plainC ⟨#[115, 99, 114, 105, 112, 116]⟩ wx 1 (CP wx hb) sm_plain plain_script).mono fun r w' ⟨e, h⟩ => (show r = _ ∧ Below w5.heap.size w5 w' from ⟨e, hb.trans (h.mono hb.size)⟩))
  have H2 := Lib.hid (fun wx (hb : Below w5.heap.size w5 wx) => (attr1 _ plainC ⟨#[97]⟩ ⟨#[104, 114, 101, 102]⟩ wx true (CP wx hb) sm_plain (by decide) plain_a_href).mono fun r w' ⟨e, h⟩ => (show r = _ ∧ Below w5.heap.size w5 w' from ⟨e, hb.trans (h.mono hb.size)⟩))
  have H3 := Lib.hid (fun wx (hb : Below w5.heap.size w5 wx) => (attr1 _ plainC ⟨#[98]⟩ ⟨#[104, 114, 101, 102]⟩ wx false (CP wx hb) sm_plain (by decide) plain_b_href).mono fun r w' ⟨e, h⟩ => (show r = _ ∧ Below w5.heap.size w5 w' from ⟨e, hb.trans (h.mono hb.size)⟩))
  have H4 := Lib.hid (fun wx (hb : Below w5.heap.size w5 wx) => (element1 _ allC ⟨#[115, 99, 114, 105, 112, 116]⟩ wx 0 (CA wx hb) sm_all all_script).mono fun r w' ⟨e, h⟩ => (show r = _ ∧ Below w5.heap.size w5 w' from ⟨e, hb.trans (h.mono hb.size)⟩))
  have H5 := Lib.hid (fun wx (hb : Below w5.heap.size w5 wx) => (attr1 _ allC ⟨#[98]⟩ ⟨#[111, 110, 99, 108, 105, 99, 107]⟩ wx true (CA wx hb) sm_all (by decide) all_onclick).mono fun r w' ⟨e, h⟩ => (show r = _ ∧ Below w5.heap.size w5 w' from ⟨e, hb.trans (h.mono hb.size)⟩))
  have H6 := Lib.hid (fun wx (hb : Below w5.heap.size w5 wx) => (element1 _ (stripC allC) ⟨#[115, 99, 114, 105, 112, 116]⟩ wx 1 (CS wx hb) sm_sall sall_script).mono fun r w' ⟨e, h⟩ => (show r = _ ∧ Below w5.heap.size w5 w' from ⟨e, hb.trans (h.mono hb.size)⟩))
  have H7 := Lib.hid (fun wx (hb : Below w5.heap.size w5 wx) => (element1 _ (stripC allC) ⟨#[98]⟩ wx 0 (CS wx hb) sm_sall sall_b).mono fun r w' ⟨e, h⟩ => (show r = _ ∧ Below w5.heap.size w5 w' from ⟨e, hb.trans (h.mono hb.size)⟩))
  have H8 := Lib.hid (fun wx (hb : Below w5.heap.size w5 wx) => (check12 _ plainC wx 0 (CP wx hb) sm_plain plain_check).mono fun r w' ⟨e, h⟩ => (show r = _ ∧ Below w5.heap.size w5 w' from ⟨e, hb.trans (h.mono hb.size)⟩))
  have H9 := Lib.hid (fun wx (hb : Below w5.heap.size w5 wx) => (check12 _ ⟨false, false, [], [], [], [], false, true⟩ wx 120 ⟨.slice none 0 0, .slice none 0 0, .slice none 0 0, .slice none 0 0, [], rfl, cp_0 _ _⟩ sm_0 c120).mono fun r w' ⟨e, h⟩ => (show r = _ ∧ Below w5.heap.size w5 w' from ⟨e, hb.trans (h.mono hb.size)⟩))
  have H10 := Lib.hid (fun wx gg (hg : wx.heap[gg]? = some (.cells #[.string ⟨#[65]⟩] 9)) (hb : Below w5.heap.size w5 wx) => (check12 _ ⟨false, false, [⟨#[65]⟩], [], [], [], false, false⟩ wx 121 (cp_1 wx gg hg) sm_1 c121).mono fun r w' ⟨e, h⟩ => (show r = _ ∧ Below w5.heap.size w5 w' from ⟨e, hb.trans (h.mono hb.size)⟩))
  have H11 := Lib.hid (fun wx gg (hg : wx.heap[gg]? = some (.cells #[.string ⟨#[97]⟩, .string ⟨#[97]⟩] 9)) (hb : Below w5.heap.size w5 wx) => (check12 _ ⟨false, false, [], [], [⟨#[97]⟩, ⟨#[97]⟩], [], false, false⟩ wx 122 (cp_2 wx gg hg) sm_2 c122).mono fun r w' ⟨e, h⟩ => (show r = _ ∧ Below w5.heap.size w5 w' from ⟨e, hb.trans (h.mono hb.size)⟩))
  have HR := Lib.hid (fun wx (hb : Below w5.heap.size w5 wx) => (refPlain1 wx).mono fun r w' ⟨v', e, ho, h⟩ => (show ∃ v', r = Ending.returned v' ∧ Cv w' w'.heap.size v' plainC ∧ Below w5.heap.size w5 w' from ⟨v', e, ho.cv, hb.trans (h.mono hb.size)⟩))
  have HS := Lib.hid (fun u wx (hu : Cv wx wx.heap.size u plainC) (hb : Below w5.heap.size w5 wx) => (refSame1 (confV plainC (.slice A1 n1 c1) (.slice A2 n2 c2) (.slice A3 n3 c3) (.slice A4 n4 c4)) u plainC wx (CP wx hb) hu sm_plain).mono fun r w' ⟨e, h⟩ => (show r = _ ∧ Below w5.heap.size w5 w' from ⟨e, hb.trans (h.mono hb.size)⟩))
  have HQ := Lib.hid hwb
  clear hw5 hb5 hx1 hx2 hx3 hb35 cp ca cs hwb hz3 HP HA HB HO4 HB4 q0 q1 q2 q3 q4 q5 q6 q7 CP CA CS hz5 hg1 hg2 HX1 HX2
  dsimp only [List.append]
  go_region_held3 (fun wx => wx.cell? ⟨g, 0, none⟩ = some (.bool plainC.allow) ∧ wx.cell? ⟨g, 1, none⟩ = some (.bool plainC.attrsAllow) ∧ wx.cell? ⟨g, 2, none⟩ = some (.slice A1 n1 c1) ∧ wx.cell? ⟨g, 3, none⟩ = some (.slice A2 n2 c2) ∧ wx.cell? ⟨g, 4, none⟩ = some (.slice A3 n3 c3) ∧ wx.cell? ⟨g, 5, none⟩ = some (.slice A4 n4 c4) ∧ wx.cell? ⟨g, 6, none⟩ = some (.bool plainC.comments) ∧ wx.cell? ⟨g, 7, none⟩ = some (.bool plainC.dataAttrs) ∧ wx.cell? ⟨(g + 1), 0, none⟩ = some (.bool allC.allow) ∧ wx.cell? ⟨(g + 1), 1, none⟩ = some (.bool allC.attrsAllow) ∧ wx.cell? ⟨(g + 1), 2, none⟩ = some (.slice B1 k1 d1) ∧ wx.cell? ⟨(g + 1), 3, none⟩ = some (.slice B2 k2 d2) ∧ wx.cell? ⟨(g + 1), 4, none⟩ = some (.slice B3 k3 d3) ∧ wx.cell? ⟨(g + 1), 5, none⟩ = some (.slice B4 k4 d4) ∧ wx.cell? ⟨(g + 1), 6, none⟩ = some (.bool true) ∧ wx.cell? ⟨(g + 1), 7, none⟩ = some (.bool allC.dataAttrs) ∧ wx.cell? ⟨g3, 0, none⟩ = some (.bool (stripC allC).allow) ∧ wx.cell? ⟨g3, 1, none⟩ = some (.bool (stripC allC).attrsAllow) ∧ wx.cell? ⟨g3, 2, none⟩ = some (.slice D1 i1 j1) ∧ wx.cell? ⟨g3, 3, none⟩ = some (.slice D2 i2 j2) ∧ wx.cell? ⟨g3, 4, none⟩ = some (.slice D3 i3 j3) ∧ wx.cell? ⟨g3, 5, none⟩ = some (.slice D4 i4 j4) ∧ wx.cell? ⟨g3, 6, none⟩ = some (.bool (stripC allC).comments) ∧ wx.cell? ⟨g3, 7, none⟩ = some (.bool (stripC allC).dataAttrs)) (first
    | exact HBL.out _ (bel_eq12 (Below.refl _ w5) rfl rfl rfl rfl)
    | exact HBL.out _ (bel_eq12 HBa0.out rfl rfl rfl rfl)
    | exact HBL.out _ (bel_eq12 HBa1.out rfl rfl rfl rfl)
    | exact HBL.out _ (bel_eq12 HBa2.out rfl rfl rfl rfl)
    | exact HBL.out _ (bel_eq12 HBa3.out rfl rfl rfl rfl)
    | exact HBL.out _ (bel_eq12 HBa4.out rfl rfl rfl rfl)
    | exact HBL.out _ (bel_eq12 HBa5.out rfl rfl rfl rfl)
    | exact HBL.out _ (bel_eq12 HBa6.out rfl rfl rfl rfl)
    | exact HBL.out _ (bel_eq12 HBa7.out rfl rfl rfl rfl)
    | exact HBL.out _ (bel_eq12 HBa8.out rfl rfl rfl rfl)
    | exact HBL.out _ (bel_eq12 HBa9.out rfl rfl rfl rfl)
    | exact HBL.out _ (bel_eq12 HBa10.out rfl rfl rfl rfl)
    | exact HBL.out _ (bel_eq12 HBa11.out rfl rfl rfl rfl)
    | exact HBL.out _ (bel_eq12 HBa12.out rfl rfl rfl rfl)
    | exact HBL.out _ (bel_eq12 HBa13.out rfl rfl rfl rfl)
    | exact HBL.out _ (below_lit12 (bel_eq12 HBa11.out rfl rfl rfl rfl))
    | exact HBL.out _ (below_lit12 (bel_eq12 HBa12.out rfl rfl rfl rfl))
    | go_keep) (first
    | (go_at_call 48; refine (HR.out _ (by exact bel_eq12 (Below.refl _ w5) rfl rfl rfl rfl)).mono ?_; rintro r wa0 ⟨va, rfl, hva, hba⟩; have HVA := Lib.hid hva; have HBa0 := Lib.hid hba; clear hva hba)
    | (go_at_call 16; refine (HS.out _ _ HVA.out (by exact bel_eq12 HBa0.out rfl rfl rfl rfl)).mono ?_; rintro r wa1 ⟨rfl, hba⟩; have HBa1 := Lib.hid hba; clear hba)
    | (go_at_call 21; (with_reducible show Calls _ _ #[confV plainC (.slice A1 n1 c1) (.slice A2 n2 c2) (.slice A3 n3 c3) (.slice A4 n4 c4), .string ⟨#[98]⟩] _ _); refine (H0.out _ (by exact bel_eq12 HBa1.out rfl rfl rfl rfl)).mono ?_; rintro r wa2 ⟨rfl, hba⟩; have HBa2 := Lib.hid hba; clear hba)
    | (go_at_call 21; (with_reducible show Calls _ _ #[confV plainC (.slice A1 n1 c1) (.slice A2 n2 c2) (.slice A3 n3 c3) (.slice A4 n4 c4), .string ⟨#[115, 99, 114, 105, 112, 116]⟩] _ _); refine (H1.out _ (by exact bel_eq12 HBa2.out rfl rfl rfl rfl)).mono ?_; rintro r wa3 ⟨rfl, hba⟩; have HBa3 := Lib.hid hba; clear hba)
    | (go_at_call 23; (with_reducible show Calls _ _ #[confV plainC (.slice A1 n1 c1) (.slice A2 n2 c2) (.slice A3 n3 c3) (.slice A4 n4 c4), .string ⟨#[97]⟩, .string ⟨#[104, 114, 101, 102]⟩] _ _); refine (H2.out _ (by exact bel_eq12 HBa3.out rfl rfl rfl rfl)).mono ?_; rintro r wa4 ⟨rfl, hba⟩; have HBa4 := Lib.hid hba; clear hba)
    | (go_at_call 23; (with_reducible show Calls _ _ #[confV plainC (.slice A1 n1 c1) (.slice A2 n2 c2) (.slice A3 n3 c3) (.slice A4 n4 c4), .string ⟨#[98]⟩, .string ⟨#[104, 114, 101, 102]⟩] _ _); refine (H3.out _ (by exact bel_eq12 HBa4.out rfl rfl rfl rfl)).mono ?_; rintro r wa5 ⟨rfl, hba⟩; have HBa5 := Lib.hid hba; clear hba)
    | (go_at_call 21; (with_reducible show Calls _ _ #[.agg #[.bool allC.allow, .bool allC.attrsAllow, .slice B1 k1 d1, .slice B2 k2 d2, .slice B3 k3 d3, .slice B4 k4 d4, .bool true, .bool allC.dataAttrs], .string ⟨#[115, 99, 114, 105, 112, 116]⟩] _ _); refine (H4.out _ (by exact bel_eq12 HBa5.out rfl rfl rfl rfl)).mono ?_; rintro r wa6 ⟨rfl, hba⟩; have HBa6 := Lib.hid hba; clear hba)
    | (go_at_call 23; (with_reducible show Calls _ _ #[.agg #[.bool allC.allow, .bool allC.attrsAllow, .slice B1 k1 d1, .slice B2 k2 d2, .slice B3 k3 d3, .slice B4 k4 d4, .bool true, .bool allC.dataAttrs], .string ⟨#[98]⟩, .string ⟨#[111, 110, 99, 108, 105, 99, 107]⟩] _ _); refine (H5.out _ (by exact bel_eq12 HBa6.out rfl rfl rfl rfl)).mono ?_; rintro r wa7 ⟨rfl, hba⟩; have HBa7 := Lib.hid hba; clear hba)
    | (go_at_call 21; (with_reducible show Calls _ _ #[confV (stripC allC) (.slice D1 i1 j1) (.slice D2 i2 j2) (.slice D3 i3 j3) (.slice D4 i4 j4), .string ⟨#[115, 99, 114, 105, 112, 116]⟩] _ _); refine (H6.out _ (by exact bel_eq12 HBa7.out rfl rfl rfl rfl)).mono ?_; rintro r wa8 ⟨rfl, hba⟩; have HBa8 := Lib.hid hba; clear hba)
    | (go_at_call 21; (with_reducible show Calls _ _ #[confV (stripC allC) (.slice D1 i1 j1) (.slice D2 i2 j2) (.slice D3 i3 j3) (.slice D4 i4 j4), .string ⟨#[98]⟩] _ _); refine (H7.out _ (by exact bel_eq12 HBa8.out rfl rfl rfl rfl)).mono ?_; rintro r wa9 ⟨rfl, hba⟩; have HBa9 := Lib.hid hba; clear hba)
    | (go_at_call 18; (with_reducible show Calls _ _ #[confV plainC (.slice A1 n1 c1) (.slice A2 n2 c2) (.slice A3 n3 c3) (.slice A4 n4 c4)] _ _); refine (H8.out _ (by exact bel_eq12 HBa9.out rfl rfl rfl rfl)).mono ?_; rintro r wa10 ⟨rfl, hba⟩; have HBa10 := Lib.hid hba; clear hba)
    | (go_at_call 18; (with_reducible show Calls _ _ #[.agg #[.bool false, .bool false, .slice none 0 0, .slice none 0 0, .slice none 0 0, .slice none 0 0, .bool false, .bool true]] _ _); refine (H9.out _ (by exact bel_eq12 HBa10.out rfl rfl rfl rfl)).mono ?_; rintro r wa11 ⟨rfl, hba⟩; have HBa11 := Lib.hid hba; clear hba)
    | (go_at_call 18; (with_reducible show Calls _ _ #[.agg #[_, _, .slice _ 1 1, _, _, _, _, _]] _ _); refine (H10.out _ _ (by exact heap_lit12 rfl) (by exact below_lit12 (bel_eq12 HBa11.out rfl rfl rfl rfl))).mono ?_; rintro r wa12 ⟨rfl, hba⟩; have HBa12 := Lib.hid hba; clear hba)
    | (go_at_call 18; (with_reducible show Calls _ _ #[.agg #[_, _, _, _, .slice _ 2 2, _, _, _]] _ _); refine (H11.out _ _ (by exact heap_lit12 rfl) (by exact below_lit12 (bel_eq12 HBa12.out rfl rfl rfl rfl))).mono ?_; rintro r wa13 ⟨rfl, hba⟩; have HBa13 := Lib.hid hba; clear hba))
  go_wp2
  go_ret
  exact ⟨rfl, HQ.out.trans ((bel_eq12 HBa13.out rfl rfl rfl rfl).mono HQ.out.size)⟩

end Go.Proofs.Ytnogneknoponkaa.Co

namespace Go.Proofs.Ytnogneknoponkaa.Co
set_option linter.unusedVariables false
set_option linter.unusedSimpArgs false
open Go.RowKit Ba Fm Fo Nm Rk
/-- No string lies there. -/
def noStr (cs : Array Value) : Prop := ∀ (i : Nat) (s : ByteArray), cs[i]? ≠ some (Value.string s)
theorem noStr8 (a b m d : Bool) (A1 A2 A3 A4 : Option Addr) (n1 n2 n3 n4 c1 c2 c3 c4 : Nat) : noStr #[.bool a, .bool b, .slice A1 n1 c1, .slice A2 n2 c2, .slice A3 n3 c3, .slice A4 n4 c4, .bool m, .bool d] := fun i s => by
  match i with
  | 0 | 1 | 2 | 3 | 4 | 5 | 6 | 7 => simp
  | i + 8 => simp
theorem sv_shape {w : World} {N : Nat} {v : Value} {l : List ByteArray} (h : Sv w N v l) : ∃ A n c, v = .slice A n c := by
  obtain ⟨A, c, e, _⟩ := h
  exact ⟨A, _, c, e⟩
theorem pv_shape {w : World} {N : Nat} {v : Value} {l : List Pw} (h : Pv w N v l) : ∃ A n c, v = .slice A n c := by
  obtain ⟨A, c, e, _⟩ := h
  exact ⟨A, _, c, e⟩
theorem sv_boxed {w w' : World} {b N : Nat} {cs : Array Value} {v : Value} {l : List ByteArray} (h : Sv w N v l) (hb : Hb w b cs) (hn : noStr cs) (hg : w.grownBy w' (some b)) (hN : N ≤ w.heap.size) : Sv w' N v l := by
  obtain ⟨A, c, e, h1, h2, h3⟩ := h
  refine ⟨A, c, e, h1, h2, fun h0 => ?_⟩
  obtain ⟨b', off, eA, hb', hc⟩ := h3 h0
  have hne : b' ≠ b := by
    rintro rfl
    have := hc 0 h0
    rw [cell_of_row w b' (off + 0) _ _ _ hb] at this
    exact hn _ _ this
  exact ⟨b', off, eA, hb', fun j hj => (World.cell?_of_block (a := ⟨b', off + j, none⟩) (hg.block b' (by omega) (by simpa using hne))).trans (hc j hj)⟩
theorem pv_boxed {w w' : World} {b N : Nat} {cs : Array Value} {v : Value} {l : List Pw} (h : Pv w N v l) (hb : Hb w b cs) (hn : noStr cs) (hg : w.grownBy w' (some b)) (hN : N ≤ w.heap.size) : Pv w' N v l := by
  obtain ⟨A, c, e, h1, h2, h3, h4⟩ := h
  refine ⟨A, c, e, h1, h2, fun h0 => ?_, fun x hx => sv_boxed (h4 x hx) hb hn hg hN⟩
  obtain ⟨b', off, eA, hb', hc⟩ := h3 h0
  have hne : b' ≠ b := by
    rintro rfl
    have := hc 0 h0 0 (.string l[0].pe.el) rfl
    rw [cell_of_row w b' _ _ _ _ hb] at this
    exact hn _ _ this
  exact ⟨b', off, eA, hb', fun j hj => range_keep12 (hc j hj) fun o => World.cell?_of_block (a := ⟨b', o, none⟩) (hg.block b' (by omega) (by simpa using hne))⟩
theorem cp_boxed {w w' : World} {b : Nat} {cs : Array Value} {c : Cf} {vE vR vA vP : Value} {l : List Pw} (h : Cp w w.heap.size c vE vR vA vP l) (hb : Hb w b cs) (hn : noStr cs) (hg : w.grownBy w' (some b)) : Cp w' w'.heap.size c vE vR vA vP l :=
  (⟨sv_boxed h.e hb hn hg (Nat.le_refl _), sv_boxed h.r hb hn hg (Nat.le_refl _), sv_boxed h.a hb hn hg (Nat.le_refl _), pv_boxed h.p hb hn hg (Nat.le_refl _), h.m⟩ : Cp w' w.heap.size c vE vR vA vP l).more hg.size
/-- A configuration is stored in a box. -/
theorem res_hb {w : World} {g : Nat} {cs : Array Value} (h : Hb w g cs) (hc : cs.size = 8) (v0 v1 v2 v3 v4 v5 v6 v7 : Value) :
    ∃ W, W = w.setCells g 0 [v0, v1, v2, v3, v4, v5, v6, v7] ∧ w.grownBy W (some g) ∧ Hb W g #[v0, v1, v2, v3, v4, v5, v6, v7] := by
  refine ⟨_, rfl, gcells12 g _ 0 w, ?_⟩
  match cs, hc with
  | ⟨[x0, x1, x2, x3, x4, x5, x6, x7]⟩, _ =>
    exact (((((((h.set 0 v0 (by simp)).set 1 v1 (by simp)).set 2 v2 (by simp)).set 3 v3 (by simp)).set 4 v4 (by simp)).set 5 v5 (by simp)).set 6 v6 (by simp)).set 7 v7 (by simp)
theorem mem_bound {c : Cf} {p : Pe} (h : p ∈ (boundC c).per) : ∃ q ∈ c.per, p.el = q.el ∧ p.at_ = q.at_.take 70 := by
  obtain ⟨q, hq, rfl⟩ := List.mem_map.1 (show p ∈ (c.per.take 12).map fun p => (⟨p.el, p.at_.take 70⟩ : Pe) from h)
  exact ⟨q, List.mem_of_mem_take hq, rfl, rfl⟩
theorem sm_bound {c : Cf} (h : St c) : Sm (boundC c) := by
  refine ⟨?_, ?_, ?_, ?_, fun p hp => ?_, fun s hs => h.es s (List.mem_of_mem_take hs), fun s hs => h.rs s (List.mem_of_mem_take hs), fun s hs => h.as_ s (List.mem_of_mem_take hs), fun p hp => ?_⟩
  · show (c.els.take 70).length ≤ 1000; rw [List.length_take]; omega
  · show (c.reps.take 70).length ≤ 1000; rw [List.length_take]; omega
  · show (c.ats.take 70).length ≤ 1000; rw [List.length_take]; omega
  · show ((c.per.take 12).map _).length ≤ 1000; rw [List.length_map, List.length_take]; omega
  · obtain ⟨q, hq, h1, h2⟩ := mem_bound hp
    rw [h2, List.length_take]; omega
  · obtain ⟨q, hq, h1, h2⟩ := mem_bound hp
    rw [h1, h2]
    exact ⟨(h.ps q hq).1, fun s hs => (h.ps q hq).2 s (List.mem_of_mem_take hs)⟩
/-- A contract, as it is asked for behind a beginning. -/
theorem on_base {P : Program} {f : FuncId} {args : Array Value} {w0 w : World} {T : Ending → Prop} (h : Calls P f args w fun e w' => T e ∧ Below w.heap.size w w') (hb : Below w0.heap.size w0 w) : Calls P f args w fun e w' => T e ∧ Below w0.heap.size w0 w' :=
  h.mono fun e w' ⟨he, hw⟩ => ⟨he, hb.trans (hw.mono hb.size)⟩

end Go.Proofs.Ytnogneknoponkaa.Co

namespace Go.Proofs.Ytnogneknoponkaa.Co
set_option maxRecDepth 100000
set_option linter.unusedVariables false
set_option linter.unusedSimpArgs false
open Go.RowKit Ba Fm Fo Nm Rk
set_option maxRecDepth 100000 in
set_option maxHeartbeats 4000000 in
theorem law_keeps (v : Value) (e a : ByteArray) (c : Cf) (w : World) (he : e.size ≤ 140737488351232) (ha : a.size ≤ 140737488351232) (h : Cv w w.heap.size v c) (hst : St c) :
    Calls Try.prog 4 #[v, .string e, .string a] w fun r w' => r = .returned (.bool true) ∧ Below w.heap.size w w' := by
  obtain ⟨d, hd⟩ : ∃ d, boundC c = d := ⟨_, rfl⟩
  have hsm := sm_bound hst
  rw [hd] at hsm
  obtain ⟨uE, uR, uA, uP, lu, rfl, h⟩ := h
  obtain ⟨E0, e0, k0, rfl⟩ := sv_shape h.e
  obtain ⟨R0, r0, k1, rfl⟩ := sv_shape h.r
  obtain ⟨T0, t0, k2, rfl⟩ := sv_shape h.a
  obtain ⟨P0, p0, k3, rfl⟩ := pv_shape h.p
  have hbd := fun wx hc => bound12 (confV c (.slice E0 e0 k0) (.slice R0 r0 k1) (.slice T0 t0 k2) (.slice P0 p0 k3)) c wx hc
  rw [hd] at hbd
  have HB0 := Lib.hid (below_new12 w (confO c (.slice E0 e0 k0) (.slice R0 r0 k1) (.slice T0 t0 k2) (.slice P0 p0 k3)))
  have HBD := Lib.hid (hbd (w.alloc (confO c (.slice E0 e0 k0) (.slice R0 r0 k1) (.slice T0 t0 k2) (.slice P0 p0 k3))) ⟨_, _, _, _, _, rfl, h.on HB0.out⟩)
  have HX0 := Lib.hid (Hb.new w #[.bool c.allow, .bool c.attrsAllow, .slice E0 e0 k0, .slice R0 r0 k1, .slice T0 t0 k2, .slice P0 p0 k3, .bool c.comments, .bool c.dataAttrs])
  have HSM := Lib.hid hsm; have HD := Lib.hid hd
  clear hd hsm hst h hbd
  go_enter Try.func4, Try.ntmps4
  go_upto_region 2 with (first
    | (go_at_call 11; refine HBD.out.mono ?_; rintro r w1 ⟨v1, rfl, hc1, hb1⟩; obtain ⟨vE, vR, vA, vP, l, rfl, hc1⟩ := hc1; obtain ⟨A1, n1, c1, rfl⟩ := sv_shape hc1.e; obtain ⟨A2, n2, c2, rfl⟩ := sv_shape hc1.r; obtain ⟨A3, n3, c3, rfl⟩ := sv_shape hc1.a; obtain ⟨A4, n4, c4, rfl⟩ := pv_shape hc1.p; have hx1 := HX0.out.on hb1; have HTH := Lib.hid (hx1.there 8 rfl); have HX1 := Lib.hid hx1; have HC1 := Lib.hid hc1; have HB1 := Lib.hid hb1; clear hx1 hc1 hb1)
    | (show wpList _ _ _ (⟨none, Op.store 25 (.tmp 3) (.tmp 8), _, _, _, _⟩ :: _) _ _; refine wpList_store_mid rfl 25 (.tmp 3) (.tmp 8) rfl w.heap.size 0 #[.bool d.allow, .bool d.attrsAllow, .slice A1 n1 c1, .slice A2 n2 c2, .slice A3 n3 c3, .slice A4 n4 c4, .bool d.comments, .bool d.dataAttrs] rfl rfl HTH.out size_conf (by simp [Value.oneCell']) ?_))
  obtain ⟨W1, hW1, hg1, hh1⟩ := res_hb HX1.out rfl (.bool d.allow) (.bool d.attrsAllow) (.slice A1 n1 c1) (.slice A2 n2 c2) (.slice A3 n3 c3) (.slice A4 n4 c4) (.bool d.comments) (.bool d.dataAttrs)
  rw [← hW1]
  have hcW := cp_boxed HC1.out HX1.out (noStr8 _ _ _ _ _ _ _ _ _ _ _ _ _ _ _ _) hg1
  have hbW : Below w.heap.size w W1 := (HB0.out.trans (HB1.out.mono HB0.out.size)).grown hg1 (Nat.le_trans HB0.out.size HB1.out.size) (fun q hq => by injection hq with hq; omega)
  have hzW : w.heap.size < W1.heap.size := hh1.lt
  clear hW1 hg1 HTH HX1 HC1 HB1 HX0 HB0 HBD
  have cv := fun wx (hb : Below W1.heap.size W1 wx) => (show Cv wx wx.heap.size (confV d (.slice A1 n1 c1) (.slice A2 n2 c2) (.slice A3 n3 c3) (.slice A4 n4 c4)) d from ⟨_, _, _, _, _, rfl, hcW.on hb⟩)
  obtain ⟨q1, hq1⟩ : ∃ q, elementN d e = q := ⟨_, rfl⟩
  obtain ⟨q2, hq2⟩ : ∃ q, attrB12 d e a = q := ⟨_, rfl⟩
  have H1 := Lib.hid (fun wx (hb : Below W1.heap.size W1 wx) => on_base (fixed12 wx) hb)
  have H2 := Lib.hid (fun wx (hb : Below W1.heap.size W1 wx) => on_base (element1 (confV d (.slice A1 n1 c1) (.slice A2 n2 c2) (.slice A3 n3 c3) (.slice A4 n4 c4)) d e wx q1 (cv wx hb) HSM.out hq1) hb)
  have H3 := Lib.hid (fun wx (hb : Below W1.heap.size W1 wx) => on_base (refElement1 (confV d (.slice A1 n1 c1) (.slice A2 n2 c2) (.slice A3 n3 c3) (.slice A4 n4 c4)) d e wx q1 (cv wx hb) HSM.out hq1) hb)
  have H4 := Lib.hid (fun wx (hb : Below W1.heap.size W1 wx) => on_base (attr1 (confV d (.slice A1 n1 c1) (.slice A2 n2 c2) (.slice A3 n3 c3) (.slice A4 n4 c4)) d e a wx q2 (cv wx hb) HSM.out (by omega) hq2) hb)
  have H5 := Lib.hid (fun wx (hb : Below W1.heap.size W1 wx) => on_base (refAttr1 (confV d (.slice A1 n1 c1) (.slice A2 n2 c2) (.slice A3 n3 c3) (.slice A4 n4 c4)) d e a wx q2 (cv wx hb) HSM.out (by omega) hq2) hb)
  have HBL := Lib.hid (fun wx (hb : Below W1.heap.size W1 wx) => show wx.cell? ⟨w.heap.size, 0, none⟩ = some (.bool d.allow) ∧ wx.cell? ⟨w.heap.size, 1, none⟩ = some (.bool d.attrsAllow) ∧ wx.cell? ⟨w.heap.size, 2, none⟩ = some (.slice A1 n1 c1) ∧ wx.cell? ⟨w.heap.size, 3, none⟩ = some (.slice A2 n2 c2) ∧ wx.cell? ⟨w.heap.size, 4, none⟩ = some (.slice A3 n3 c3) ∧ wx.cell? ⟨w.heap.size, 5, none⟩ = some (.slice A4 n4 c4) ∧ wx.cell? ⟨w.heap.size, 6, none⟩ = some (.bool d.comments) ∧ wx.cell? ⟨w.heap.size, 7, none⟩ = some (.bool d.dataAttrs) from by
    obtain ⟨a0, a1, a2, a3, a4, a5, a6, a7⟩ := (hh1.bx (c := d)).below hb hzW |>.at_
    exact ⟨a0, a1, a2, a3, a4, a5, a6, a7⟩)
  have HW := Lib.hid hbW
  clear cv hcW hbW hq1 hq2 hh1 hzW
  go_region_held3 (fun wx => wx.cell? ⟨w.heap.size, 0, none⟩ = some (.bool d.allow) ∧ wx.cell? ⟨w.heap.size, 1, none⟩ = some (.bool d.attrsAllow) ∧ wx.cell? ⟨w.heap.size, 2, none⟩ = some (.slice A1 n1 c1) ∧ wx.cell? ⟨w.heap.size, 3, none⟩ = some (.slice A2 n2 c2) ∧ wx.cell? ⟨w.heap.size, 4, none⟩ = some (.slice A3 n3 c3) ∧ wx.cell? ⟨w.heap.size, 5, none⟩ = some (.slice A4 n4 c4) ∧ wx.cell? ⟨w.heap.size, 6, none⟩ = some (.bool d.comments) ∧ wx.cell? ⟨w.heap.size, 7, none⟩ = some (.bool d.dataAttrs)) (first
    | exact HBL.out _ (bel_eq12 (Below.refl _ W1) rfl rfl rfl rfl)
    | exact HBL.out _ (bel_eq12 HB1.out rfl rfl rfl rfl)
    | exact HBL.out _ (bel_eq12 HB2.out rfl rfl rfl rfl)
    | exact HBL.out _ (bel_eq12 HB3.out rfl rfl rfl rfl)
    | exact HBL.out _ (bel_eq12 HB4.out rfl rfl rfl rfl)
    | exact HBL.out _ (bel_eq12 HB5.out rfl rfl rfl rfl)
    | go_keep) (first
    | (go_at_call 20; refine (H1.out _ (by exact bel_eq12 (Below.refl _ W1) rfl rfl rfl rfl)).mono ?_; rintro r x1 ⟨rfl, hbx⟩; have HB1 := Lib.hid hbx; clear hbx)
    | (go_at_call 21; refine (H2.out _ (by exact bel_eq12 HB1.out rfl rfl rfl rfl)).mono ?_; rintro r x2 ⟨rfl, hbx⟩; have HB2 := Lib.hid hbx; clear hbx)
    | (go_at_call 22; refine (H3.out _ (by exact bel_eq12 HB2.out rfl rfl rfl rfl)).mono ?_; rintro r x3 ⟨rfl, hbx⟩; have HB3 := Lib.hid hbx; clear hbx)
    | (go_at_call 23; refine (H4.out _ (by exact bel_eq12 HB3.out rfl rfl rfl rfl)).mono ?_; rintro r x4 ⟨rfl, hbx⟩; have HB4 := Lib.hid hbx; clear hbx)
    | (go_at_call 24; refine (H5.out _ (by exact bel_eq12 HB4.out rfl rfl rfl rfl)).mono ?_; rintro r x5 ⟨rfl, hbx⟩; have HB5 := Lib.hid hbx; clear hbx))
  go_wp2
  go_ret
  exact ⟨rfl, HW.out.trans ((bel_eq12 HB5.out rfl rfl rfl rfl).mono HW.out.size)⟩

end Go.Proofs.Ytnogneknoponkaa.Co
