/-
  The laws of stage 4, walked: Back.
-/
import Derived.Test.YtblefklfgaohfaaRowBack
import Derived.Test.YtblefklfgaohfaaRowPlace
import Derived.Deep.DeepCutAuto
namespace Go.Proofs.Ytblefklfgaohfaa.Ro
set_option linter.unusedVariables false
set_option linter.unusedSimpArgs false
open Go.RowKit Ba

/-- What the two bounds leave: rows read at both, the box as it was. -/
def TwoRows (W : World) (a b : List Cw) (s3 s4 : Value) (wx : World) : Prop := ∃ x y, Rv wx s3 x ∧ ros x = bounded (ros a) ∧ x.length ≤ 60 ∧ Few (ros x) ∧ Held (ros x) ∧ Rv wx s4 y ∧ ros y = bounded (ros b) ∧ y.length ≤ 60 ∧ Few (ros y) ∧ Held (ros y) ∧ Below W.heap.size W wx
abbrev placeO (vL vS : Value) (I A : Int) : Obj := .cells #[vL, vS, .int .i64 I, .int .i64 A] 37

theorem place_cells (w : World) (vL vS : Value) (I A : Int) (wx : World) (hb : Below (w.alloc (placeO vL vS I A)).heap.size (w.alloc (placeO vL vS I A)) wx) :
    wx.cell? ⟨w.heap.size, 0, none⟩ = some vL ∧ wx.cell? ⟨w.heap.size, 1, none⟩ = some vS ∧ wx.cell? ⟨w.heap.size, 2, none⟩ = some (.int .i64 I) ∧ wx.cell? ⟨w.heap.size, 3, none⟩ = some (.int .i64 A) := by
  have h : ∀ j, wx.cell? ⟨w.heap.size, j, none⟩ = (w.alloc (placeO vL vS I A)).cell? ⟨w.heap.size, j, none⟩ := fun j => hb.cell (p := ⟨w.heap.size, j, none⟩) (by simp)
  exact ⟨(h 0).trans (by rw [World.cell?_alloc_mark]; rfl), (h 1).trans (by rw [World.cell?_alloc_mark]; rfl), (h 2).trans (by rw [World.cell?_alloc_mark]; rfl), (h 3).trans (by rw [World.cell?_alloc_mark]; rfl)⟩

set_option maxRecDepth 100000 in
set_option maxHeartbeats 8000000 in
theorem law_back (vL vS : Value) (I A : Int) (a b : List Cw) (w : World) (hL : Rv w vL a) (hS : Rv w vS b) :
    Calls Try.prog 7 #[.agg #[vL, vS, .int .i64 I, .int .i64 A]] w fun e w' => e = .returned (.bool true) ∧ Below w.heap.size w w' := by
  have hW := below_new w (placeO vL vS I A)
  have hL1 : Rv (w.alloc (placeO vL vS I A)) vL a := hL.below hW
  have hL0 : Rv (w.alloc (placeO vL vS I A)).drew vL a := hL1
  have hS0 : Rv (w.alloc (placeO vL vS I A)) vS b := hS.below hW
  have HL := Lib.hid hL0; have HS := Lib.hid hS0; have HW := Lib.hid hW
  clear hL hS hL0 hL1 hS0 hW
  go_enter Try.func7, Try.ntmps7
  go_wp2
  go_cut [3, 4] from 16 to 21 (fun s3 s4 wx => TwoRows (w.alloc (placeO vL vS I A)) a b s3 s4 wx)
  case first =>
    go_region_with (first
      | (go_at_call 11; refine (bound1 vS b w4 HS4.out).mono ?_; rintro e w5 ⟨v5, y, rfl, _, hv5, hy, h60y, hfy, hhy, hb5⟩)
      | (go_at_call 11; refine (bound1 vL a (w.alloc (placeO vL vS I A)).drew HL.out).mono ?_; rintro e w4 ⟨v4, x, rfl, _, hv4, hx, h60, hf, hh, hb4⟩; have HV4 := Lib.hid hv4; have HS4 := Lib.hid (HS.out.below (below_trick hb4 (Nat.le_refl _))); have HB4 := Lib.hid (below_trick hb4 (Nat.le_refl (w.alloc (placeO vL vS I A)).heap.size)); obtain ⟨_, hc4, _, _⟩ := place_cells w vL vS I A w4 HB4.out; clear hv4 hb4))
    all_goals go_wp2_with fail
    all_goals go_meet
    all_goals exact ⟨x, y, HV4.out.below hb5, hx, h60, hf, hh, hv5, hy, h60y, hfy, hhy, bt HB4.out hb5⟩
  case rest =>
    obtain ⟨x, y, hv3, _, h60, hf, hh, hv4, _, h60y, hfy, hhy, hbc⟩ := hcut
    have HV0 := Lib.hid hv3; have HU0 := Lib.hid hv4; have HB0 := Lib.hid hbc
    clear hv3 hv4 hbc HL HS
    obtain ⟨C, hC⟩ : ∃ C, check (ros x) = C := ⟨_, rfl⟩
    have HC := Lib.hid hC
    clear hC
    go_wp2_with fail
    refine (check1 _ x wc C HV0.out (by omega) HC.out).mono ?_
    rintro e w2 ⟨rfl, hb2⟩
    have HV2 := Lib.hid (HV0.out.below hb2); have HU2 := Lib.hid (HU0.out.below hb2); have HB2 := Lib.hid (bt HB0.out hb2)
    clear hb2 HV0 HU0 HB0
    by_cases hc0 : C = 0
    · subst hc0
      obtain ⟨_, _, c2, c3⟩ := place_cells w vL vS I A w2 HB2.out
      obtain ⟨E, hE⟩ : ∃ E, (put (ros x) I A (ros y)).1 = E := ⟨_, rfl⟩
      obtain ⟨q, hq⟩ : ∃ E, (put (ros x) I A (ros y)).2 = E := ⟨_, rfl⟩
      have HE := Lib.hid hE; have HQ := Lib.hid hq
      clear hE hq
      go_wp2_with fail
      refine (put1 _ _ x y I A w2 E q HV2.out HU2.out (by omega) (by omega) hf hfy HC.out HE.out HQ.out).mono ?_
      rintro e w3 ⟨v3, z3, rfl, _, _, hz3, hl3, hv3, hb3⟩
      have HZ3 := Lib.hid hz3; have HL3 := Lib.hid hl3; have HW3 := Lib.hid hv3
      have HV3 := Lib.hid (HV2.out.below hb3); have HU3 := Lib.hid (HU2.out.below hb3); have HB3 := Lib.hid (bt HB2.out hb3)
      clear hz3 hl3 hv3 hb3 HV2 HU2 HB2 c2 c3
      by_cases hE0 : E = 0
      · subst hE0
        obtain ⟨P, m, S, hys, hqe, hck⟩ := put_ok HC.out (by rw [len_ros]; omega) HE.out
        obtain ⟨D, hD⟩ : ∃ D, dep (ros x) I + 1 = D := ⟨_, rfl⟩
        rw [hD] at S hqe hck
        obtain ⟨a, rfl⟩ : ∃ a : Nat, A = a := ⟨_, S.ha⟩
        have hqP : q = putAt (ros x) P D (ros y) := HQ.out.symm.trans hqe
        have hz3l : z3.length = x.length + y.length := by rw [HL3.out, hqP, len_putAt _ _ _ _ S.Pl, len_ros, len_ros]
        obtain ⟨K0, hK0⟩ : ∃ K, kidsAt (ros y) (-1) = K := ⟨_, rfl⟩
        have hK0l : K0.length ≤ 60 := by
          rw [← hK0]
          unfold kidsAt
          split
          · have := kids_le (ros y) (-1); rw [len_ros] at this; omega
          · simp
        have HS := Lib.hid S; have HYS := Lib.hid hys; have HCK := Lib.hid hck; have HK0 := Lib.hid hK0; have HQP := Lib.hid hqP
        clear S hys hck hK0 hqP hqe hD HE HQ
        obtain ⟨A1, c1, hs3, _⟩ := HV3.out
        obtain ⟨A2, c2', hs4, _⟩ := HU3.out
        obtain ⟨A3, c3', hs5, _⟩ := HW3.out
        subst hs3 hs4 hs5
        have q1 : (((z3.length : Nat) : Int) == ((x.length : Nat) : Int) + ((y.length : Nat) : Int)) = true := beq_iff_eq.2 (by omega)
        have q2 : (((z3.length : Nat) : Int) != ((x.length : Nat) : Int) + ((y.length : Nat) : Int)) = false := by rw [bne, q1]; rfl
        have hz3b : z3.length ≤ 120 := by omega
        clear hz3l
        go_wp2_with fail
        refine (check1 _ z3 w3 0 HW3.out (by omega) (by rw [HZ3.out, HQP.out]; exact HCK.out)).mono ?_
        rintro e w4 ⟨rfl, hb4⟩
        have HV4 := Lib.hid (HV3.out.below hb4); have HU4 := Lib.hid (HU3.out.below hb4); have HW4 := Lib.hid (HW3.out.below hb4); have HB4 := Lib.hid (bt HB3.out hb4)
        clear hb4 HV3 HU3 HW3 HB3 q1 q2
        go_wp2_with fail
        refine (kids1 _ y (-1) w4 K0 HU4.out (by omega) HYS.out HK0.out).mono ?_
        rintro e w5 ⟨u5, rfl, hn5, hb5⟩
        obtain ⟨A5, c5, rfl, hc5, hm5, hrn5⟩ := hn5.form
        have HN5 := Lib.hid hrn5
        have HV5 := Lib.hid (HV4.out.below hb5); have HU5 := Lib.hid (HU4.out.below hb5); have HW5 := Lib.hid (HW4.out.below hb5); have HB5 := Lib.hid (bt HB4.out hb5)
        clear hn5 hb5 hrn5 HV4 HU4 HW4 HB4
        go_wp2
        go_loopw [5, 8, 9, 10, 11, 12, 13, 14, 15] (fun pv i _ _ _ _ _ _ _ wr => ∃ (j r : Nat) (z : List Cw), i = .int .i64 j ∧ j ≤ K0.length ∧ Rv wr pv z ∧ ros z = putAt (ros x) P D ((ros y).drop r) ∧ r ≤ y.length ∧ Forest 0 ((ros y).drop r) ∧ K0.drop j = kidsFrom 0 r ((ros y).drop r) ∧ Below w5.heap.size w5 wr) (fun _ i _ _ _ _ _ _ _ _ => K0.length - (intOf i).toNat)
        case atStart =>
          have hst := roots_any HYS.out (by rw [len_ros]; omega)
          rw [HK0.out] at hst
          exact ⟨0, 0, z3, rfl, Nat.zero_le _, HW5.out, by rw [List.drop_zero, HZ3.out]; exact HQP.out, Nat.zero_le _, hst.1, hst.2, Below.refl _ _⟩
        case round =>
          obtain ⟨w6, hw6⟩ : ∃ x, x = wr := ⟨_, rfl⟩
          subst hw6
          obtain ⟨j, r, z, rfl, hj, hzv, hz, hr, hf0, hk0, hbel⟩ := hrel
          have HZV := Lib.hid hzv; have HZ := Lib.hid hz; have HF := Lib.hid hf0; have HK := Lib.hid hk0; have HBL := Lib.hid hbel
          clear hzv hz hf0 hk0 hbel HW5 HZ3
          have hzl : z.length ≤ 120 := by rw [← len_ros, HZ.out, len_putAt _ _ _ _ HS.out.Pl, List.length_drop, len_ros, len_ros]; omega
          have hzf : Few (ros z) := by rw [HZ.out]; exact few_putAt hf (fun u hu => hfy u (List.mem_of_mem_drop hu)) P D
          have HU6 := Lib.hid (HU5.out.below HBL.out)
          have HB6 := Lib.hid (bt HB5.out HBL.out)
          by_cases hq : j < K0.length
          · obtain ⟨k1, k2, ⟨Kp, hKp, a', ha', hap, hKpa⟩, t1, t2, r', hr', hd', hf', hk'⟩ := back_step HS.out HYS.out (by rw [len_ros]; omega) HF.out HK.out hq
            obtain rfl : a' = a := by omega
            rw [← HZ.out] at hKp t1 t2 hd'
            rw [len_ros] at k2 t1 hr'
            have hzr : right (ros z) = true := by rw [HZ.out]; exact HS.out.right_put (right_tail HYS.out HF.out)
            obtain ⟨T, hT⟩ : ∃ T, takeAt (ros y) r = T := ⟨_, rfl⟩
            rw [hT] at t2
            have hTl : T.length ≤ 120 := by
              rw [← hT, len_take (by rw [len_ros]; exact k2)]
              have := end_le (l := ros y) (k := r) (by rw [len_ros]; exact k2)
              rw [len_ros] at this
              omega
            have hdl : (putAt (ros x) P D ((ros y).drop r')).length ≤ 120 := by rw [len_putAt _ _ _ _ HS.out.Pl, List.length_drop, len_ros, len_ros]; omega
            have HKP := Lib.hid hKp; have HT1 := Lib.hid hT; have HT2 := Lib.hid t2; have HD' := Lib.hid hd'; have HF' := Lib.hid hf'; have HK' := Lib.hid hk'; have HZR := Lib.hid hzr
            clear hKp hT t2 hd' hf' hk' hzr ha'
            obtain ⟨_, _, c2, c3⟩ := place_cells w vL vS I (a' : Nat) w6 HB6.out
            go_wp2_with fail
            refine (kids1 _ z I w6 Kp HZV.out (by omega) HZR.out HKP.out).mono ?_
            rintro e w7 ⟨u7, rfl, hn7, hb7⟩
            obtain ⟨A7, c7, rfl, hc7, hm7, hrn7⟩ := hn7.form
            obtain ⟨b7, off7, rfl, hb7', hcl7⟩ := hrn7 (by omega)
            have hcell7 := hcl7 a' hap
            rw [hKpa] at hcell7
            have HZV7 := Lib.hid (HZV.out.below hb7); have HU7 := Lib.hid (HU6.out.below hb7); have HB7 := Lib.hid (bt HB6.out hb7); have HBL7 := Lib.hid (bt HBL.out hb7)
            obtain ⟨_, _, d2, d3⟩ := place_cells w vL vS I (a' : Nat) w7 HB7.out
            clear hn7 hb7 hrn7 hcl7 hKpa c2 c3 HZV HU6 HB6 HBL
            have i0 : (0 : Int) ≤ (a' : Int) := by omega
            have i1 : (a' : Int) < (Kp.length : Int) := by omega
            have i2 : decide ((a' : Int) < 0) = false := decide_eq_false (by omega)
            have i3 : decide (Kp.length ≤ a') = false := decide_eq_false (by omega)
            go_wp2_with fail
            refine (take1 _ z P w7 T HZV7.out (by omega) t1 hzf HZR.out HT2.out).mono ?_
            rintro e w8 ⟨u8, y8, rfl, _, hy8, hl8, hu8, hb8⟩
            have HY8 := Lib.hid hy8; have HV8 := Lib.hid hu8
            have HZV8 := Lib.hid (HZV7.out.below hb8); have HU8 := Lib.hid (HU7.out.below hb8); have HB8 := Lib.hid (bt HB7.out hb8); have HBL8 := Lib.hid (bt HBL7.out hb8)
            have hcell8 : w8.cell? ⟨b7, off7 + a', none⟩ = some (.int .i64 (P : Nat)) := (hb8.cell (p := ⟨b7, off7 + a', none⟩) hb7').trans hcell7
            obtain ⟨b5, off5, hA5, hb5', hcl5⟩ := HN5.out (by omega)
            subst hA5
            have hcell5 : w8.cell? ⟨b5, off5 + j, none⟩ = some (.int .i64 (r : Nat)) := by
              have := (HBL8.out.cell (p := ⟨b5, off5 + j, none⟩) hb5').trans (hcl5 j hq)
              rw [k1] at this
              exact this
            have hb78 := hb8.size
            clear hy8 hu8 hb8 hcell7 hcl5 d2 d3 HZV7 HU7 HB7 HBL7
            have j0 : (0 : Int) ≤ (j : Int) := by omega
            have j1 : (j : Int) < (K0.length : Int) := by omega
            go_wp2_with fail
            refine (take1 _ y r w8 T HU8.out (by omega) k2 hfy HYS.out HT1.out).mono ?_
            rintro e w9 ⟨u9, y9, rfl, _, hy9, hl9, hu9, hb9⟩
            have HY9 := Lib.hid hy9; have HV9 := Lib.hid hu9; have HX9 := Lib.hid (HV8.out.below hb9)
            have HZV9 := Lib.hid (HZV8.out.below hb9); have HB9 := Lib.hid (bt HB8.out hb9); have HBL9 := Lib.hid (bt HBL8.out hb9)
            have hcell9 : w9.cell? ⟨b7, off7 + a', none⟩ = some (.int .i64 (P : Nat)) := (hb9.cell (p := ⟨b7, off7 + a', none⟩) (show b7 < w8.heap.size by omega)).trans hcell8
            obtain ⟨_, _, e2, e3⟩ := place_cells w vL vS I (a' : Nat) w9 HB9.out
            clear hy9 hu9 hb9 hcell8 hcell5 HZV8 HU8 HB8 HBL8 HV8
            go_wp2_with fail
            refine (drop1 _ z P w9 _ HZV9.out (by omega) t1 hzf HZR.out HD'.out).mono ?_
            rintro e w10 ⟨u10, y10, rfl, _, hy10, hl10, hu10, hb10⟩
            have HY10 := Lib.hid hy10; have HW10 := Lib.hid hu10
            have HV10 := Lib.hid (HV9.out.below hb10); have HX10 := Lib.hid (HX9.out.below hb10); have HBL10 := Lib.hid (bt HBL9.out hb10)
            have hse : decide (ros y8 = ros y9) = true := decide_eq_true (HY8.out.trans HY9.out.symm)
            have HSE := Lib.hid hse
            clear hy10 hu10 hb10 hcell9 e2 e3 HZV9 HB9 HBL9 HV9 HX9 hse
            go_wp2_with fail
            refine (same1 _ _ y8 y9 w10 true HX10.out HV10.out (by omega) (by omega) HSE.out).mono ?_
            rintro e w11 ⟨rfl, hb11⟩
            have HW11 := Lib.hid (HW10.out.below hb11); have HBL11 := Lib.hid (bt HBL10.out hb11)
            clear hb11 HW10 HBL10
            go_wp2
            go_roundw
            case rel => exact ⟨j + 1, r', y10, by go_num, by omega, HW11.out, HY10.out, hr', HF'.out, HK'.out, HBL11.out⟩
            case measure => simp [intOf]; omega
          · have hje : j = K0.length := by omega
            have hre : (ros y).drop r = [] := kids_empty HF.out (by rw [← HK.out, hje]; exact List.drop_length)
            have hzx : decide (ros z = ros x) = true := decide_eq_true (by rw [HZ.out, hre, putAt_nil])
            have HZX := Lib.hid hzx
            have HV6 := Lib.hid (HV5.out.below HBL.out)
            clear hje hre hzx
            go_wp2_with fail
            refine (same1 _ _ z x w6 true HZV.out HV6.out (by omega) (by omega) HZX.out).mono ?_
            rintro e w7 ⟨rfl, hb7⟩
            have HB7 := Lib.hid (bt HB6.out hb7)
            clear hb7
            go_wp2_with fail
            refine (fixed_any w7).mono ?_
            rintro e w8 ⟨rfl, hb8⟩
            go_wp2
            go_ret
            exact ⟨rfl, HW.out.trans ((bt HB7.out hb8).mono HW.out.size)⟩
      · have n1 : (E != 0) = true := by simpa using hE0
        have n2 : (E == 0) = false := by simpa using hE0
        have hq0 : q.length = 0 := by rw [← HQ.out, put_not (by rw [HE.out]; exact hE0)]; rfl
        have hz0 : z3.length = 0 := by rw [HL3.out, hq0]
        obtain ⟨A3, c3, rfl, _⟩ := HW3.out
        rw [hz0]
        go_wp2_with fail
        refine (fixed_any w3).mono ?_
        rintro e w4 ⟨rfl, hb4⟩
        go_wp2
        go_ret
        exact ⟨rfl, HW.out.trans ((bt HB3.out hb4).mono HW.out.size)⟩
    · have n1 : (C != 0) = true := by simpa using hc0
      have n2 : (C == 0) = false := by simpa using hc0
      go_wp2_with fail
      refine (fixed_any w2).mono ?_
      rintro e w3 ⟨rfl, hb3⟩
      go_wp2
      go_ret
      exact ⟨rfl, HW.out.trans ((bt HB2.out hb3).mono HW.out.size)⟩

theorem law_back_p (v : Value) (o : Pv) (w : World) (h : Pw w v o) (_ : True) :
    Calls Try.prog 7 #[v] w fun e w' => e = .returned (.bool true) ∧ Below w.heap.size w w' := by
  obtain ⟨rfl, hL, hS⟩ := h
  exact law_back o.vL o.vS o.I o.A o.a o.b w hL hS

end Go.Proofs.Ytblefklfgaohfaa.Ro
