/-
  Stage 8's law WriteInside: it returns true.
-/
import Derived.Test.YtenmlpfjeohkiaaGreatDoorCk10
namespace Go.Proofs.YtenmlpfjeohkiaaGreatDoor.Wr
set_option maxRecDepth 100000
set_option linter.unusedVariables false
set_option linter.unusedSimpArgs false
open Go.RowKit Ba Fm Fo Nm Wm Bm
open Ro (At Ro Cw ros rowO rowV below_new range2 range5 cells Rv bare rows_new refSame1 deeper)
open Re (Tab)
open Bu (Parse1 InW1 Says rdy)
theorem below_dr8 {w w' : World} (h : Below w.drew.heap.size w.drew w') : Below w.heap.size w w' := ⟨h.os, h.tape, h.output, h.size, h.block⟩
theorem tree_cut8 (l : List Ro) {t E : Nat} {D : Int} (hE : t + 1 + (rest l D (t + 1)).length = E) : (l.take E).drop (t + 1) = rest l D (t + 1) := by
  rw [List.drop_take, show E - (t + 1) = (rest l D (t + 1)).length by omega]
  exact (List.prefix_iff_eq_take.1 (List.takeWhile_prefix (deep D))).symm
/-- The contract of Inside for what was parsed. -/
theorem insideP (v : Value) (x : List Cw) (i : Int) (w : World) (h : Rv w v x) (hl : x.length ≤ 1000000) (hrb : ∀ y ∈ ros x, rb y ≤ 60000) (q : ByteArray) (hq : B (insideB (ros x) i) = q) (hz : (insideB (ros x) i).length ≤ 60000) :
    Calls Tryz.prog 12 #[v, .int .i64 i] w fun e w' => e = .returned (.string q) ∧ Below w.heap.size w w' := by
  obtain ⟨A, c, rfl, hc, hm, hrr, hh⟩ := h
  subst hq
  exact Inside_any A c x i w hrr hc hl (fun y hy => by have := hrb y.ro (List.mem_map_of_mem hy); omega) (by omega)
theorem endP (v : Value) (x : List Cw) (i : Int) (w : World) (q : Nat) (h : Rv w v x) (hl : x.length ≤ 1000000) (hq : Ro.endAt (ros x) i = q) :
    Calls Tryz.prog 15 #[v, .int .i64 i] w fun e w' => e = .returned (.int .i64 q) ∧ Below w.heap.size w w' := by
  obtain ⟨A, c, rfl, hc, hm, hr, hh⟩ := h
  subst hq
  exact (Ro.refEnd_any A c x i w hr hc hl).mono fun e w' ⟨he, n, hn⟩ => ⟨he, by rw [hn]; exact Ba.below_drewN w n⟩
theorem movedP (A : Option Addr) (c n : Nat) (l : List Cw) (d : Int) (w : World) (hn : l.length = n) (hr : Ro.Rr w w.heap.size A l) (hc : n ≤ c) (hm : n ≤ 1000000) (hf : Ro.Few (ros l)) (hd : Ro.Fits d (ros l)) :
    Calls Tryz.prog 14 #[.slice A n c, .int .i64 d] w fun e w' => ∃ v l', e = .returned v ∧ Rv w' v l' ∧ ros l' = deeper d (ros l) ∧ Below w.heap.size w w' := by
  subst hn
  refine (Ro.Moved_any A c l d w hr hc hm hf hd).mono ?_
  rintro e w1 ⟨v, l', rfl, ho, _, hros, hb⟩
  exact ⟨v, l', rfl, ho.rv (by rw [hros]; exact hd.held), hros, hb⟩

set_option maxRecDepth 100000 in
set_option maxHeartbeats 4000000 in
theorem law_inside8 (s : ByteArray) (i : Int) (hs : s.size ≤ 140737488351232) (hi : (Lit.int .i64 i).wf = true) (w : World) (hT : Tab w) :
    Calls Tryz.prog 5 #[.string s, .int .i64 i] w fun e w' => e = .returned (.bool true) ∧ Below w.heap.size w w' := by
  have HT := Lib.hid hT
  clear hT
  obtain ⟨k1, hk1, hk2, -, hmin⟩ := Sm.min_any s.size 300 300 rfl w
  obtain ⟨u, hu⟩ : ∃ u, s.extract 0 k1 = u := ⟨_, rfl⟩
  have hus : u.size ≤ 300 := by
    rw [← hu, ← size_L, L_extract, List.length_take]
    omega
  obtain ⟨r, hr⟩ : ∃ r, treeB ⟨[], []⟩ (Tm.within [] (rdy (L u))) = r := ⟨_, rfl⟩
  have HR := Lib.hid hr
  have HU := Lib.hid hu
  clear hr hu
  go_enter Tryz.func5, Tryz.ntmps5
  go_wp2_with fail
  rw [HU.out]
  refine (Parse1 u w r (by omega) HT.out HR.out).mono ?_
  intro e w1 h1
  cases r with
  | none =>
    obtain ⟨rfl, hb1⟩ := h1
    have HB1 := Lib.hid hb1
    clear hb1
    go_wp2_with fail
    refine (fixed8_any w1).mono ?_
    rintro e w2 ⟨rfl, hb2⟩
    have HB2 := Lib.hid (bt HB1.out hb2)
    clear hb2
    go_wp2
    go_ret
    exact ⟨rfl, HB2.out⟩
  | some o =>
    obtain ⟨⟨v, x, rfl, hv, hx⟩, hb1⟩ := h1
    obtain ⟨m1, m2, m3, m4⟩ := inside_back (by rw [size_L]; exact hus) HR.out
    have hxl : x.length ≤ 4096 := by rw [← Ro.len_ros, hx]; exact m1
    subst hx
    obtain ⟨A, c, rfl, hc, hm, hrr, hh⟩ := hv
    have HV := Lib.hid (show Rv w1 (.slice A x.length c) x from ⟨A, c, rfl, hc, hm, hrr, hh⟩)
    have HB1 := Lib.hid hb1; have M2 := Lib.hid m2; have M3 := Lib.hid m3; have HRR := Lib.hid hrr
    clear hb1 hmin hh m1
    by_cases hn0 : x.length = 0
    · have z1 : ((x.length : Int) == 0) = true := beq_iff_eq.2 (by omega)
      clear m3 m4 hrr
      go_wp2_with fail
      refine (fixed8_any w1).mono ?_
      rintro e w2 ⟨rfl, hb2⟩
      have HB2 := Lib.hid (bt HB1.out hb2)
      clear hb2
      go_wp2
      go_ret
      exact ⟨rfl, HB2.out⟩
    · have z1 : ((x.length : Int) == 0) = false := beq_eq_false_iff_ne.2 (by omega)
      obtain ⟨m, hm1, hm2⟩ := Sm.and_small i 65535 16 (by decide) (by decide)
      rw [show ((65535 : Nat) : Int) = 65535 from rfl] at hm2
      obtain ⟨k, hk⟩ : ∃ k : Nat, k = m % x.length := ⟨_, rfl⟩
      have hkk : (m : Int) % (x.length : Int) = k := by rw [hk]; rfl
      have hkl : k < x.length := by rw [hk]; exact Nat.mod_lt _ (by omega)
      clear hk hn0
      obtain ⟨b, off, y, rfl, hb, hdy, hyy, hya, hym⟩ := Ro.Rr.at_ hrr k hkl
      obtain ⟨c0, c1, c2, c3, c4⟩ := range5 hyy
      have hget := ros_get hdy
      have hd1 := m3 y.ro (List.mem_of_getElem? hget)
      obtain ⟨p1, p2, p3, p4⟩ := m4 k y.ro hget
      have hkc : decide (k < x.length) = true := decide_eq_true hkl
      have C0 := Lib.hid c0; have C1 := Lib.hid c1; have C2 := Lib.hid c2; have HG := Lib.hid hget; have P1 := Lib.hid p1; have P2 := Lib.hid p2; have P3 := Lib.hid p3; have P4 := Lib.hid p4; have HD := Lib.hid hd1
      clear c0 c2 c3 c4 hget p1 p2 p3 p4 hd1 m3 m4 hdy hyy hya hym hrr
      obtain ⟨S, hS⟩ : ∃ S, B (insideB (ros x) k) = S := ⟨_, rfl⟩
      have HS := Lib.hid hS
      clear hS
      by_cases hk0 : y.ro.kind = 0
      · have g0 : (y.ro.kind != 0) = false := bne_eq_false_iff_eq.2 hk0
        obtain ⟨q1, q2⟩ := P4.out hk0
        have hLS : insideB (ros x) k = L S := by rw [← HS.out, L_B]
        rw [hLS] at q1 q2
        have hSs : S.size ≤ 60000 := by have := P1.out; rw [hLS, size_L] at this; exact this
        obtain ⟨O, hO⟩ : ∃ O, deeper (-1 - y.ro.depth) (rest (ros x) y.ro.depth (k + 1)) = O := ⟨_, rfl⟩
        rw [hO] at q1
        have hOl : O.length ≤ 4096 := by
          rw [← hO, Wm.deeper_eq, List.length_map]
          have := rest_le (l := ros x) (D := y.ro.depth) (s := k + 1) (by rw [Ro.len_ros]; omega)
          rw [Ro.len_ros] at this
          omega
        have Q1 := Lib.hid q1; have Q2 := Lib.hid q2; have HO1 := Lib.hid hO
        clear hk0 q1 q2 hLS hO
        go_upto_region 7 with (fail)
        rw [hkk]
        clear hkk hm2
        go_region_held3 (fun w' => w'.cell? ⟨b, off + k * 5 + 2, none⟩ = some (.string y.ro.name)) (first | exact e3 | exact e2 | exact C2.out | go_keep) (first
          | (go_at_call 13; refine (InW1 S y.ro.name w2 (some O) (by omega) (by have := P3.out; omega) (HT.out.below HB2.out) (by have := Q2.out; omega) Q1.out).mono ?_; rintro e w3 ⟨⟨v3, y3, rfl, hv3, hy3⟩, hb3⟩; have HB3 := Lib.hid (bt HB2.out hb3); have HX3 := Lib.hid (HX2.out.below hb3); have HV3 := Lib.hid hv3; have HY3 := Lib.hid hy3; have e3 := (hb3.cell (p := ⟨b, off + k * 5 + 2, none⟩) hbb2).trans e2; have D3 := Lib.hid ((hb3.cell (p := ⟨b, off + k * 5, none⟩) hbb2).trans D2.out); have HR3 := Lib.hid ((HR2.out.below hb3).more hb3.size); have hbb3 := Nat.lt_of_lt_of_le hbb2 hb3.size; clear hb3 hv3 hy3)
          | (go_at_call 12; refine (insideP _ x k w1.drew HV.out (by omega) M2.out S HS.out P1.out).mono ?_; rintro e w2 ⟨rfl, hb2⟩; have HB2 := Lib.hid (bt HB1.out (below_dr8 hb2)); have HX2 := Lib.hid (HV.out.below (below_dr8 hb2)); have e2 := (hb2.cell (p := ⟨b, off + k * 5 + 2, none⟩) hb).trans C2.out; have D2 := Lib.hid ((hb2.cell (p := ⟨b, off + k * 5, none⟩) hb).trans C0.out); have HR2 := Lib.hid ((HRR.out.below (below_dr8 hb2)).more (below_dr8 hb2).size); have hbb2 := Nat.lt_of_lt_of_le hb (below_dr8 hb2).size; clear hb2))
        clear e2 e3
        have hy3l : y3.length ≤ 4096 := by rw [← Ro.len_ros, HY3.out]; exact hOl
        obtain ⟨E, hE⟩ : ∃ E, k + 1 + (rest (ros x) y.ro.depth (k + 1)).length = E := ⟨_, rfl⟩
        have hEe := end_rest HG.out
        rw [hE] at hEe
        have hEl := rest_le (l := ros x) (D := y.ro.depth) (s := k + 1) (by rw [Ro.len_ros]; omega)
        rw [Ro.len_ros, hE] at hEl
        have htc := tree_cut8 (ros x) hE
        obtain ⟨ml, hml⟩ : ∃ ml, (x.take E).drop (k + 1) = ml := ⟨_, rfl⟩
        have hmr : ros ml = rest (ros x) y.ro.depth (k + 1) := by
          rw [← hml, Ro.ros_part, htc]
        have hmll : ml.length = E - (k + 1) := by rw [← hml, List.length_drop, List.length_take]; omega
        have hmem : ∀ z ∈ ros ml, z ∈ ros x := fun z hz => by
          rw [← hml, Ro.ros_part] at hz
          exact List.mem_of_mem_take (List.mem_of_mem_drop hz)
        have hmf : Ro.Few (ros ml) := fun z hz => by
          have := M2.out z (hmem z hz)
          unfold rb at this
          omega
        have hmd : Ro.Fits (-1 - y.ro.depth) (ros ml) := fun z hz => by
          have := M3.out z (hmem z hz)
          have := HD.out
          omega
        have hO2 : deeper (-1 - y.ro.depth) (ros ml) = O := by rw [hmr]; exact HO1.out
        have HMF := Lib.hid hmf; have HMD := Lib.hid hmd; have HO := Lib.hid hO2; have HE := Lib.hid hEe
        have hdd := HD.out
        have n1 : IntKind.i64.wrap (-1 - y.ro.depth) = -1 - y.ro.depth := IntWalk.i64_in _ (by omega)
        obtain ⟨j, hj⟩ : ∃ j, k + 1 = j := ⟨_, rfl⟩
        rw [hj] at hmll hml
        have HML := Lib.hid hmll
        have n2 : IntKind.i64.wrap ((k : Int) + 1) = (j : Int) := by rw [IntWalk.i64_in _ (by omega)]; omega
        have u0 : (0 : Int) ≤ (j : Int) := by omega
        have u1 : (0 : Int) ≤ (E : Int) := by omega
        have u2 : (j : Int) ≤ (E : Int) := by omega
        have u3 : (E : Int) ≤ (c : Int) := by omega
        have u4 : (j : Int) ≤ (c : Int) := by omega
        have u5 : (E : Int) ≤ (x.length : Int) := by omega
        by_cases hcE : c = j
        · have hEk : E - j = 0 := by omega
          have hmn : ml = [] := List.eq_nil_of_length_eq_zero (by omega)
          have HMN := Lib.hid hmn
          clear hmr hmll hmem hmf hmd hO2 hEe htc hml hE hmn hdd hEk
          subst hcE
          go_upto_region 8 with (fail)
          go_region_held3 (fun w' => w'.cell? ⟨b, off + k * 5, none⟩ = some (.int .i64 y.ro.depth)) (first | exact d7 | exact d6 | exact d5 | exact d4 | exact D3.out | go_keep) (first
            | (go_at_call 8; refine (fixed8_any w6).mono ?_; rintro e w7 ⟨rfl, hb7⟩; have HB7 := Lib.hid (bt HB6.out hb7); have d7 := (hb7.cell (p := ⟨b, off + k * 5, none⟩) hbb6).trans d6; clear hb7)
            | (go_at_call 11; refine (refSame1 v3 v5 y3 y5 w5 true HV5.out HX5.out (by omega) (by omega) HSE.out).mono ?_; rintro e w6 ⟨rfl, hb6⟩; have HB6 := Lib.hid (bt HB5.out hb6); have d6 := (hb6.cell (p := ⟨b, off + k * 5, none⟩) hbb5).trans d5; have hbb6 := Nat.lt_of_lt_of_le hbb5 hb6.size; clear hb6)
            | (go_at_call 14; refine (movedP (some ⟨b, off, none⟩) _ _ ml (-1 - y.ro.depth) w4 HML.out (by rw [HMN.out]; exact Ro.Rr.nil _ _ _) (by omega) (by omega) HMF.out HMD.out).mono ?_; rintro e w5 ⟨v5, y5, rfl, hx5, hr5, hb5⟩; have HB5 := Lib.hid (bt HB4.out hb5); have HV5 := Lib.hid (HV4.out.below hb5); have HX5 := Lib.hid hx5; have hse : decide (ros y3 = ros y5) = true := decide_eq_true (by rw [hr5, HO.out]; exact HY3.out); have HSE := Lib.hid hse; have hy5l : y5.length ≤ 4096 := (by rw [← Ro.len_ros, hr5, Wm.deeper_eq, List.length_map, Ro.len_ros, HML.out]; omega); have d5 := (hb5.cell (p := ⟨b, off + k * 5, none⟩) hbb4).trans d4; have hbb5 := Nat.lt_of_lt_of_le hbb4 hb5.size; clear hb5 hx5 hr5 hse)
            | (go_at_call 15; refine (endP _ x k w3.drew E HX3.out (by omega) HE.out).mono ?_; rintro e w4 ⟨rfl, hb4⟩; have HB4 := Lib.hid (bt HB3.out (below_dr8 hb4)); have HB34 := Lib.hid (below_dr8 hb4); have HV4 := Lib.hid (HV3.out.below (below_dr8 hb4)); have d4 := (hb4.cell (p := ⟨b, off + k * 5, none⟩) hbb3).trans D3.out; have hbb4 := Nat.lt_of_lt_of_le hbb3 (below_dr8 hb4).size; clear hb4))
          go_wp2
          go_ret
          exact ⟨rfl, HB7.out⟩
        · have hmid := Ro.Rr.mids HR3.out j E c (by omega) (by omega) (by omega) (by omega)
          rw [hml] at hmid
          have HMR := Lib.hid hmid
          have hck : ¬ c = j := hcE
          clear hmr hmll hmem hmf hmd hO2 hEe htc hml hE hmid hdd hcE
          go_upto_region 8 with (fail)
          go_region_held3 (fun w' => w'.cell? ⟨b, off + k * 5, none⟩ = some (.int .i64 y.ro.depth)) (first | exact d7 | exact d6 | exact d5 | exact d4 | exact D3.out | go_keep) (first
            | (go_at_call 8; refine (fixed8_any w6).mono ?_; rintro e w7 ⟨rfl, hb7⟩; have HB7 := Lib.hid (bt HB6.out hb7); have d7 := (hb7.cell (p := ⟨b, off + k * 5, none⟩) hbb6).trans d6; clear hb7)
            | (go_at_call 11; refine (refSame1 v3 v5 y3 y5 w5 true HV5.out HX5.out (by omega) (by omega) HSE.out).mono ?_; rintro e w6 ⟨rfl, hb6⟩; have HB6 := Lib.hid (bt HB5.out hb6); have d6 := (hb6.cell (p := ⟨b, off + k * 5, none⟩) hbb5).trans d5; have hbb6 := Nat.lt_of_lt_of_le hbb5 hb6.size; clear hb6)
            | (go_at_call 14; refine (movedP (some ⟨b, off + j * 5, none⟩) _ _ ml (-1 - y.ro.depth) w4 HML.out ((HMR.out.below HB34.out).more HB34.out.size) (by omega) (by omega) HMF.out HMD.out).mono ?_; rintro e w5 ⟨v5, y5, rfl, hx5, hr5, hb5⟩; have HB5 := Lib.hid (bt HB4.out hb5); have HV5 := Lib.hid (HV4.out.below hb5); have HX5 := Lib.hid hx5; have hse : decide (ros y3 = ros y5) = true := decide_eq_true (by rw [hr5, HO.out]; exact HY3.out); have HSE := Lib.hid hse; have hy5l : y5.length ≤ 4096 := (by rw [← Ro.len_ros, hr5, Wm.deeper_eq, List.length_map, Ro.len_ros, HML.out]; omega); have d5 := (hb5.cell (p := ⟨b, off + k * 5, none⟩) hbb4).trans d4; have hbb5 := Nat.lt_of_lt_of_le hbb4 hb5.size; clear hb5 hx5 hr5 hse)
            | (go_at_call 15; refine (endP _ x k w3.drew E HX3.out (by omega) HE.out).mono ?_; rintro e w4 ⟨rfl, hb4⟩; have HB4 := Lib.hid (bt HB3.out (below_dr8 hb4)); have HB34 := Lib.hid (below_dr8 hb4); have HV4 := Lib.hid (HV3.out.below (below_dr8 hb4)); have d4 := (hb4.cell (p := ⟨b, off + k * 5, none⟩) hbb3).trans D3.out; have hbb4 := Nat.lt_of_lt_of_le hbb3 (below_dr8 hb4).size; clear hb4))
          go_wp2
          go_ret
          exact ⟨rfl, HB7.out⟩
      · have g0 : (y.ro.kind != 0) = true := bne_iff_ne.2 hk0
        have hno : S = ⟨#[]⟩ := by rw [← HS.out, P2.out hk0]; rfl
        subst hno
        clear hk0
        go_wp2_with fail
        rw [hkk]
        clear hkk hm2
        refine (insideP _ x k w1 HV.out (by omega) M2.out _ HS.out P1.out).mono ?_
        rintro e w2 ⟨rfl, hb2⟩
        have HB2 := Lib.hid (bt HB1.out hb2)
        clear hb2
        go_wp2_with fail
        refine (fixed8_any w2).mono ?_
        rintro e w3 ⟨rfl, hb3⟩
        have HB3 := Lib.hid (bt HB2.out hb3)
        clear hb3
        go_wp2
        go_ret
        exact ⟨rfl, HB3.out⟩

end Go.Proofs.YtenmlpfjeohkiaaGreatDoor.Wr
