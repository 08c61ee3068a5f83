/-
  The laws of stage 4, walked: Puts.
-/
import Derived.Test.YtblefklfgaohfaaRowLawsH
import Derived.IntWalk
namespace Go.Proofs.Ytblefklfgaohfaa.Ro
set_option linter.unusedVariables false
set_option linter.unusedSimpArgs false
open Go.RowKit Ba

set_option maxRecDepth 100000 in
set_option maxHeartbeats 16000000 in
theorem law_puts (vL vS : Value) (I A : Int) (a b : List Cw) (w : World) (hL : Rv w vL a) (hS : Rv w vS b) :
    Calls Try.prog 5 #[.agg #[vL, vS, .int .i64 I, .int .i64 A]] w fun e w' => e = .returned (.bool true) ∧ Below w.heap.size w w' := by
  have hW := below_new w (placeO vL vS I A)
  have hL1 : Rv (w.alloc (placeO vL vS I A)) vL a := hL.below hW
  have hL0 : Rv (w.alloc (placeO vL vS I A)).drew vL a := hL1
  have hS0 : Rv (w.alloc (placeO vL vS I A)) vS b := hS.below hW
  have HL := Lib.hid hL0; have HS := Lib.hid hS0; have HW := Lib.hid hW
  clear hL hS hL0 hL1 hS0 hW
  go_enter Try.func5, Try.ntmps5
  go_wp2
  go_cut [3, 4] from 17 to 22 (fun s3 s4 wx => TwoRows (w.alloc (placeO vL vS I A)) a b s3 s4 wx)
  case first =>
    go_region_with (first
      | (go_at_call 11; refine (bound1 vS b w4 HS4.out).mono ?_; rintro e w5 ⟨v5, y, rfl, _, hv5, hy, h60y, hfy, hhy, hb5⟩)
      | (go_at_call 11; refine (bound1 vL a (w.alloc (placeO vL vS I A)).drew HL.out).mono ?_; rintro e w4 ⟨v4, x, rfl, _, hv4, hx, h60, hf, hh, hb4⟩; have HV4 := Lib.hid hv4; have HS4 := Lib.hid (HS.out.below (below_trick hb4 (Nat.le_refl _))); have HB4 := Lib.hid (below_trick hb4 (Nat.le_refl (w.alloc (placeO vL vS I A)).heap.size)); obtain ⟨_, hc4, _, _⟩ := place_cells w vL vS I A w4 HB4.out; clear hv4 hb4))
    all_goals go_wp2_with fail
    all_goals go_meet
    all_goals exact ⟨x, y, HV4.out.below hb5, hx, h60, hf, hh, hv5, hy, h60y, hfy, hhy, bt HB4.out hb5⟩
  case rest =>
    obtain ⟨x, y, hv3, _, h60, hf, hh, hv4, _, h60y, hfy, hhy, hbc⟩ := hcut
    have HV0 := Lib.hid hv3; have HU0 := Lib.hid hv4; have HB0 := Lib.hid hbc
    clear hv3 hv4 hbc HL HS
    obtain ⟨C, hC⟩ : ∃ C, check (ros x) = C := ⟨_, rfl⟩
    have HC := Lib.hid hC
    clear hC
    go_wp2_with fail
    refine (refCheck1 _ x wc C HV0.out (by omega) HC.out).mono ?_
    rintro e w2 ⟨rfl, hb2⟩
    have HV2 := Lib.hid (HV0.out.below hb2); have HU2 := Lib.hid (HU0.out.below hb2); have HB2 := Lib.hid (bt HB0.out hb2)
    clear hb2 HV0 HU0 HB0
    by_cases hc0 : C = 0
    · subst hc0
      go_wp2_with fail
      refine (moved0 _ x w2 HV2.out (by omega) hf).mono ?_
      rintro e w3 ⟨v5, x5, rfl, _, _, hx5, hl5, hv5, hb3⟩
      have HX5 := Lib.hid hx5; have HXV3 := Lib.hid hv5
      have h5l : x5.length ≤ 60 := by rw [hl5]; exact h60
      have HV3 := Lib.hid (HV2.out.below hb3); have HU3 := Lib.hid (HU2.out.below hb3); have HB3 := Lib.hid (bt HB2.out hb3)
      clear hx5 hl5 hv5 hb3 HV2 HU2 HB2
      go_wp2_with fail
      refine (moved0 _ y w3 HU3.out (by omega) hfy).mono ?_
      rintro e w4 ⟨v6, y6, rfl, _, _, hy6, hl6, hv6, hb4⟩
      have HY6 := Lib.hid hy6; have HYV4 := Lib.hid hv6
      have h6l : y6.length ≤ 60 := by rw [hl6]; exact h60y
      have HV4 := Lib.hid (HV3.out.below hb4); have HU4 := Lib.hid (HU3.out.below hb4); have HXV4 := Lib.hid (HXV3.out.below hb4); have HB4 := Lib.hid (bt HB3.out hb4)
      clear hy6 hl6 hv6 hb4 HV3 HU3 HXV3 HB3
      obtain ⟨_, _, c2, c3⟩ := place_cells w vL vS I A w4 HB4.out
      obtain ⟨E, hE⟩ : ∃ E, (put (ros x) I A (ros y)).1 = E := ⟨_, rfl⟩
      obtain ⟨q, hq⟩ : ∃ E, (put (ros x) I A (ros y)).2 = E := ⟨_, rfl⟩
      have hqh : Held q := by rw [← hq]; exact held_put HC.out (by rw [len_ros]; omega) (by rw [len_ros]; omega)
      have hql : q.length ≤ 200 := by rw [← hq]; exact len_put HC.out (by rw [len_ros]; omega) (by rw [len_ros]; omega)
      have hqf : Few q := by
        rw [← hq]
        by_cases h0 : (put (ros x) I A (ros y)).1 = 0
        · obtain ⟨P, m, S, hs, he, hck⟩ := put_ok HC.out (by rw [len_ros]; omega) h0
          rw [he]; exact few_putAt hf hfy P _
        · rw [put_not h0]; exact fun y hy => by cases hy
      have HE := Lib.hid hE; have HQ := Lib.hid hq
      clear hE hq
      go_wp2_with fail
      refine (put1 _ _ x y I A w4 E q HV4.out HU4.out (by omega) (by omega) hf hfy HC.out HE.out HQ.out).mono ?_
      rintro e w5 ⟨v7, z7, rfl, ho7, hfr7, hz7, hl7, hv7, hb5⟩
      have WR5 := Lib.hid (Wr.start ho7 hfr7)
      have HZ7 := Lib.hid hz7; have HZV5 := Lib.hid hv7
      have h7l : z7.length ≤ 200 := by rw [hl7]; exact hql
      have hzf7 : Few (ros z7) := by rw [hz7]; exact hqf
      have BN5 := Lib.hid hb5
      obtain ⟨_, _, d2, d3⟩ := place_cells w vL vS I A w5 (bt HB4.out hb5)
      clear ho7 hfr7 hz7 hl7 hv7 hb5 c2 c3
      go_wp2_with fail
      refine (refPut1 _ _ x y I A w5 E q (HV4.out.below BN5.out) (HU4.out.below BN5.out) (by omega) (by omega) hf hfy HC.out HE.out HQ.out hqh).mono ?_
      rintro e w6 ⟨v9, z9, rfl, hz9, hl9, hv9, hb6⟩
      have h9l : z9.length ≤ 200 := by rw [hl9]; exact hql
      have hse : decide (ros z7 = ros z9) = true := decide_eq_true (HZ7.out.trans hz9.symm)
      have HSE := Lib.hid hse; have HZ9 := Lib.hid hv9
      have WR6 := Lib.hid (WR5.out.below hb6); have HZV6 := Lib.hid (HZV5.out.below hb6); have BN6 := Lib.hid (bt BN5.out hb6)
      clear hse hz9 hl9 hv9 hb6 d2 d3 WR5 HZV5 BN5
      obtain ⟨A1, c1, hs3, hc1, hm1, _⟩ := HV4.out
      subst hs3
      have hnE : (E != E) = false := by simp
      have HV6 := Lib.hid (HV4.out.below BN6.out)
      obtain ⟨_, _, d2, d3⟩ := place_cells w vL vS I A w6 (bt HB4.out BN6.out)
      clear d3
      by_cases hI : 0 ≤ I ∧ I < x.length
      · obtain ⟨k, rfl⟩ : ∃ k : Nat, I = k := ⟨I.toNat, by omega⟩
        have hkl : k < x.length := by omega
        have hk' : k < (ros x).length := by rw [len_ros]; exact hkl
        have hr := (check_parts HC.out).2
        obtain ⟨T, hT⟩ : ∃ T, takeAt (ros x) k = T := ⟨_, rfl⟩
        obtain ⟨Dp, hDp⟩ : ∃ T, dropAt (ros x) k = T := ⟨_, rfl⟩
        obtain ⟨E2, hE2⟩ : ∃ T, endAt (ros x) k = T := ⟨_, rfl⟩
        have hen := end_le hk'
        have hE3 : endOf (ros x) k = E2 := by rw [← hE2, endAt_of hk']
        rw [hE3, len_ros] at hen
        have hTl : T.length ≤ 60 := by rw [← hT, len_take hk', hE3]; omega
        have hDl : Dp.length ≤ 60 := by rw [← hDp, len_drop hk', len_ros]; omega
        have HR := Lib.hid hr; have HT := Lib.hid hT; have HDP := Lib.hid hDp; have HE2 := Lib.hid hE2; have HE3 := Lib.hid hE3
        clear hr hT hDp hE2 hE3 hI
        go_wp2_with fail
        refine (take1 _ x k w6 T HV6.out (by omega) hkl hf HR.out HT.out).mono ?_
        rintro e w7 ⟨v11, y11, rfl, _, hy11, hl11, hv11, hb7⟩
        have HV7 := Lib.hid (HV6.out.below hb7); have HY11 := Lib.hid hy11; have HT7 := Lib.hid hv11
        have h11 : y11.length ≤ 60 := by rw [hl11]; exact hTl
        have WR7 := Lib.hid (WR6.out.below hb7); have BN7 := Lib.hid (bt BN6.out hb7); have HZV7 := Lib.hid (HZV6.out.below hb7); have HZ97 := Lib.hid (HZ9.out.below hb7)
        obtain ⟨_, _, e2, _⟩ := place_cells w vL vS (k : Nat) A w7 (bt HB4.out BN7.out)
        clear hy11 hl11 hv11 hb7 WR6 BN6 HZV6 HZ9 d2 HV6
        go_wp2_with fail
        refine (drop1 _ x k w7 Dp HV7.out (by omega) hkl hf HR.out HDP.out).mono ?_
        rintro e w8 ⟨v13, y13, rfl, _, hy13, hl13, hv13, hb8⟩
        have HV8 := Lib.hid (HV7.out.below hb8); have HY13 := Lib.hid hy13; have HD8 := Lib.hid hv13; have HT8 := Lib.hid (HT7.out.below hb8)
        have h13 : y13.length ≤ 60 := by rw [hl13]; exact hDl
        have WR8 := Lib.hid (WR7.out.below hb8); have BN8 := Lib.hid (bt BN7.out hb8); have HZV8 := Lib.hid (HZV7.out.below hb8); have HZ98 := Lib.hid (HZ97.out.below hb8)
        clear hy13 hl13 hv13 hb8 WR7 BN7 HZV7 HZ97 e2 HV7 HT7
        go_wp2_with fail
        refine (refSame1 _ _ z7 z9 w8 true HZV8.out HZ98.out (by omega) (by omega) HSE.out).mono ?_
        rintro e w9 ⟨rfl, hb9⟩
        have HV9 := Lib.hid (HV8.out.below hb9); have HT9 := Lib.hid (HT8.out.below hb9); have HD9 := Lib.hid (HD8.out.below hb9)
        have WR9 := Lib.hid (WR8.out.below hb9); have BN9 := Lib.hid (bt BN8.out hb9)
        obtain ⟨_, _, e3, _⟩ := place_cells w vL vS (k : Nat) A w9 (bt HB4.out BN9.out)
        clear hb9 WR8 BN8 HZV8 HZ98 HV8 HT8 HD8
        have i0 : decide ((0 : Int) ≤ (k : Int)) = true := decide_eq_true (by omega)
        have i1 : decide (k < x.length) = true := decide_eq_true hkl
        have i2 : (0 : Int) ≤ (k : Int) := by omega
        have i3 : (k : Int) < (x.length : Int) := by omega
        go_wp2
        go_cut [132] from 94 to 131 (fun t wx => t = .bool false ∧ Below w9.heap.size w9 wx)
        case first =>
          obtain ⟨_, _, hAe, _, _, hrr, hhl⟩ := HV9.out
          injection hAe with hAe _ hce
          subst hAe hce
          obtain ⟨b0, off0, y0, rfl, hb0, hdy, hy, _, hym⟩ := hrr.at_ k hkl
          obtain ⟨d, hd⟩ : ∃ d, y0.ro.depth = d := ⟨_, rfl⟩
          have hdp := right_deep HR.out (by rw [len_ros]; omega)
          have hdd : dep (ros x) k = d := by rw [← hd]; exact dep_at (by rw [ros, List.getElem?_map, getElem_of_drop hdy]; rfl)
          obtain ⟨q1, q2⟩ := hdp y0.ro (List.mem_map.2 ⟨y0, hym, rfl⟩)
          rw [hd] at q1 q2
          have hdc := (range5 hy).1
          rw [hd] at hdc
          have hE1 : E2 ≤ x.length := hen.2
          have hEk : k < E2 := hen.1
          have hEc : E2 ≤ c1 := by omega
          have hp1 := hrr.mids k E2 c1 (by omega) hE1 hc1 (by omega)
          have hl1 := len_part x k E2 hE1
          have hpr := ros_part x k E2
          have hte : T = deeper (-d) (ros ((x.take E2).drop k)) := by rw [← HT.out, takeAt, hdd, HE3.out, hpr]; rfl
          have hp2 := hrr.part E2 x.length c1 hE1 (by omega) hc1
          have hp0 := hrr.mids 0 k c1 (by omega) (by omega) hc1 (by omega)
          rw [Nat.zero_mul, Nat.add_zero] at hp0
          have hl0 := len_part x 0 k (by omega)
          have hl2 := len_part x E2 x.length (by omega)
          have hpr0 := ros_part x 0 k
          have hpr2 := ros_part x E2 x.length
          have hde : Dp = ros ((x.take k).drop 0) ++ ros ((x.take x.length).drop E2) := by
            have e : (ros x).take x.length = ros x := List.take_of_length_le (by rw [len_ros]; exact Nat.le_refl _)
            rw [← HDP.out, dropAt, HE3.out, hpr0, hpr2, List.drop_zero, Int.toNat_natCast, e]
          have hfm : Few (ros ((x.take E2).drop k)) := by rw [hpr]; exact (hf.take E2).drop k
          have hf0 : Few (ros ((x.take k).drop 0)) := by rw [hpr0]; exact (hf.take _).drop _
          have hf2 : Few (ros ((x.take x.length).drop E2)) := by rw [hpr2]; exact (hf.take _).drop _
          have hh0 : Held (ros ((x.take k).drop 0)) := by rw [hpr0]; exact (hdp.held.take _).drop _
          have hh2 : Held (ros ((x.take x.length).drop E2)) := by rw [hpr2]; exact (hdp.held.take _).drop _
          have hdm : Fits (-d) (ros ((x.take E2).drop k)) := fun z hz => by
            rw [hpr] at hz
            have := hdp z (List.mem_of_mem_take (List.mem_of_mem_drop hz))
            omega
          have hneg : IntKind.i64.wrap (-d) = -d := IntWalk.i64_in _ (by omega)
          obtain ⟨m1, hm1⟩ : ∃ m, (x.take E2).drop k = m := ⟨_, rfl⟩
          obtain ⟨m0, hm0⟩ : ∃ m, (x.take k).drop 0 = m := ⟨_, rfl⟩
          obtain ⟨m2, hm2⟩ : ∃ m, (x.take x.length).drop E2 = m := ⟨_, rfl⟩
          rw [hm1] at hp1 hl1 hte hfm hdm
          rw [hm0] at hp0 hl0 hde hf0 hh0
          rw [hm2] at hp2 hl2 hde hf2 hh2
          rw [Nat.sub_zero] at hl0
          have HTE := Lib.hid (HY11.out.trans hte); have HDE := Lib.hid (HY13.out.trans hde)
          have HHJ := Lib.hid (show Held (ros m0 ++ ros m2) from hh0.append hh2)
          have HLJ := Lib.hid (show (ros m0 ++ ros m2).length ≤ 100 by rw [List.length_append, len_ros, len_ros, hl0, hl2]; omega)
          have HP1 := Lib.hid hp1; have HL1 := Lib.hid hl1; have HF1 := Lib.hid hfm; have HD1 := Lib.hid hdm
          have HP0 := Lib.hid hp0; have HL0 := Lib.hid hl0; have HF0 := Lib.hid hf0; have HH0 := Lib.hid hh0
          have HL2 := Lib.hid hl2; have HF2 := Lib.hid hf2; have HH2 := Lib.hid hh2
          have h12 : m1.length ≤ 60 := by rw [hl1]; omega
          have hkc : ¬ c1 = k := by omega
          have hkE : k ≤ E2 := by omega
          have hkx : k ≤ c1 := by omega
          have u1 : (0 : Int) ≤ (E2 : Int) := by omega
          have u2 : (k : Int) ≤ (E2 : Int) := by omega
          have u3 : (E2 : Int) ≤ (c1 : Int) := by omega
          have u4' : (k : Int) ≤ (c1 : Int) := by omega
          have u5' : (E2 : Int) ≤ (x.length : Int) := by omega
          clear hrr hdy hy hym hd hdp hdd hpr hte hpr0 hpr2 hde hfm hf0 hf2 hh0 hh2 hdm hm1 hm0 hm2 hp1 hl1 hp0 hl0 hl2 hhl
          by_cases hcE : c1 = E2
          · rw [if_pos hcE] at hp2
            have HP2 := Lib.hid hp2
            have hcE2 := hcE.symm
            clear hp2 hcE
            subst hcE2
            go_region_held3 (fun w' => w'.cell? ⟨w.heap.size, 2, none⟩ = some (.int .i64 (k : Nat)) ∧ w'.cell? ⟨b0, off0 + k * 5, none⟩ = some (.int .i64 d)) (first | exact ⟨f5, g5⟩ | exact ⟨f4, g4⟩ | exact ⟨f3, g3⟩ | exact ⟨f2, g2⟩ | exact ⟨f1, g1⟩ | exact ⟨f0, g0⟩ | exact ⟨e3, hdc⟩ | go_keep) (first
              | (go_at_call 16; refine (refSame1 v13 v14 y13 l14 w14 true HD14.out HJ14.out (by omega) (by omega) HSE2.out).mono ?_; rintro e w15 ⟨rfl, hb15⟩; have HB15 := Lib.hid (bt HB14.out hb15); obtain ⟨_, _, f5, _⟩ := place_cells w vL vS (k : Nat) A w15 (bt HB4.out (bt BN9.out HB15.out)); have g5 := (HB15.out.cell (p := ⟨b0, off0 + k * 5, none⟩) hb0).trans hdc; clear hb15)
              | (go_at_call 32; refine (Join_len (some ⟨b0, off0, none⟩) (some ⟨b0, off0, none⟩) E2 0 k 0 m0 m2 w13 HL0.out (by have := HL2.out; omega) ((HP0.out.below HB13.out).more HB13.out.size) ((HP2.out.below HB13.out).more HB13.out.size) (by omega) (by omega) (by omega) (by omega) HF0.out HF2.out HH0.out HH2.out).mono ?_; rintro e w14 ⟨v14, l14, rfl, ho14, _, hros14, hb14⟩; have HB14 := Lib.hid (bt HB13.out hb14); have HD14 := Lib.hid (HD13.out.below hb14); have HJ14 := Lib.hid (ho14.rv (by rw [hros14]; exact HHJ.out)); have hl14 : l14.length ≤ 100 := (by rw [← len_ros, hros14]; exact HLJ.out); have hse2 : decide (ros y13 = ros l14) = true := decide_eq_true (by rw [hros14]; exact HDE.out); have HSE2 := Lib.hid hse2; obtain ⟨_, _, f4, _⟩ := place_cells w vL vS (k : Nat) A w14 (bt HB4.out (bt BN9.out HB14.out)); have g4 := (HB14.out.cell (p := ⟨b0, off0 + k * 5, none⟩) hb0).trans hdc; clear ho14 hros14 hb14 hse2)
              | (go_at_call 20; refine (refEnd1 _ x k w12 E2 HV12.out (by omega) HE2.out).mono ?_; rintro e w13 ⟨rfl, hb13⟩; have HB13 := Lib.hid (bt HB12.out hb13); have HD13 := Lib.hid (HD12.out.below hb13); have HV13 := Lib.hid (HV12.out.below hb13); obtain ⟨_, _, f3, _⟩ := place_cells w vL vS (k : Nat) A w13 (bt HB4.out (bt BN9.out HB13.out)); have g3 := (HB13.out.cell (p := ⟨b0, off0 + k * 5, none⟩) hb0).trans hdc; clear hb13)
              | (go_at_call 16; refine (refSame1 v11 v12 y11 l12 w11 true HT11.out HM11.out (by omega) (by omega) HSE1.out).mono ?_; rintro e w12 ⟨rfl, hb12⟩; have HB12 := Lib.hid (bt HB11.out hb12); have HV12 := Lib.hid (HV11.out.below hb12); have HD12 := Lib.hid (HD11.out.below hb12); obtain ⟨_, _, f2, _⟩ := place_cells w vL vS (k : Nat) A w12 (bt HB4.out (bt BN9.out HB12.out)); have g2 := (HB12.out.cell (p := ⟨b0, off0 + k * 5, none⟩) hb0).trans hdc; clear hb12)
              | (go_at_call 17; refine (Moved_len (some ⟨b0, off0 + k * 5, none⟩) (E2 - k) (E2 - k) m1 (-d) w10 HL1.out ((HP1.out.below HB10.out).more HB10.out.size) (by omega) (by omega) HF1.out HD1.out).mono ?_; rintro e w11 ⟨v12, l12, rfl, ho12, hros12, hl12, hb11⟩; have HB11 := Lib.hid (bt HB10.out hb11); have HV11 := Lib.hid (HV10.out.below hb11); have HD11 := Lib.hid (HD10.out.below hb11); have HT11 := Lib.hid (HT10.out.below hb11); have HM11 := Lib.hid (ho12.rv (by rw [hros12]; exact HD1.out.held)); have hse1 : decide (ros y11 = ros l12) = true := decide_eq_true (by rw [hros12]; exact HTE.out); have HSE1 := Lib.hid hse1; obtain ⟨_, _, f1, _⟩ := place_cells w vL vS (k : Nat) A w11 (bt HB4.out (bt BN9.out HB11.out)); have g1 := (HB11.out.cell (p := ⟨b0, off0 + k * 5, none⟩) hb0).trans hdc; have hl12b : l12.length ≤ 60 := (by omega); clear ho12 hros12 hb11 hse1 hl12)
              | (go_at_call 20; refine (refEnd1 _ x k w9.drew E2 HV9.out (by omega) HE2.out).mono ?_; rintro e w10 ⟨rfl, hb10⟩; have HB10 := Lib.hid (below_trick hb10 (Nat.le_refl w9.heap.size)); have HV10 := Lib.hid (HV9.out.below HB10.out); have HD10 := Lib.hid (HD9.out.below HB10.out); have HT10 := Lib.hid (HT9.out.below HB10.out); obtain ⟨_, _, f0, _⟩ := place_cells w vL vS (k : Nat) A w10 (bt HB4.out (bt BN9.out HB10.out)); have g0 := (HB10.out.cell (p := ⟨b0, off0 + k * 5, none⟩) hb0).trans hdc; clear hb10))
            all_goals go_wp2_with fail
            all_goals go_meet
            all_goals exact ⟨rfl, HB15.out⟩
          · rw [if_neg hcE, Option.map_some, WideShapes.add_plain] at hp2
            have HP2 := Lib.hid hp2
            clear hp2
            go_region_held3 (fun w' => w'.cell? ⟨w.heap.size, 2, none⟩ = some (.int .i64 (k : Nat)) ∧ w'.cell? ⟨b0, off0 + k * 5, none⟩ = some (.int .i64 d)) (first | exact ⟨f5, g5⟩ | exact ⟨f4, g4⟩ | exact ⟨f3, g3⟩ | exact ⟨f2, g2⟩ | exact ⟨f1, g1⟩ | exact ⟨f0, g0⟩ | exact ⟨e3, hdc⟩ | go_keep) (first
              | (go_at_call 16; refine (refSame1 v13 v14 y13 l14 w14 true HD14.out HJ14.out (by omega) (by omega) HSE2.out).mono ?_; rintro e w15 ⟨rfl, hb15⟩; have HB15 := Lib.hid (bt HB14.out hb15); obtain ⟨_, _, f5, _⟩ := place_cells w vL vS (k : Nat) A w15 (bt HB4.out (bt BN9.out HB15.out)); have g5 := (HB15.out.cell (p := ⟨b0, off0 + k * 5, none⟩) hb0).trans hdc; clear hb15)
              | (go_at_call 32; refine (Join_len (some ⟨b0, off0, none⟩) (some ⟨b0, off0 + E2 * 5, none⟩) c1 (c1 - E2) k (x.length - E2) m0 m2 w13 HL0.out HL2.out ((HP0.out.below HB13.out).more HB13.out.size) ((HP2.out.below HB13.out).more HB13.out.size) (by omega) (by omega) (by omega) (by omega) HF0.out HF2.out HH0.out HH2.out).mono ?_; rintro e w14 ⟨v14, l14, rfl, ho14, _, hros14, hb14⟩; have HB14 := Lib.hid (bt HB13.out hb14); have HD14 := Lib.hid (HD13.out.below hb14); have HJ14 := Lib.hid (ho14.rv (by rw [hros14]; exact HHJ.out)); have hl14 : l14.length ≤ 100 := (by rw [← len_ros, hros14]; exact HLJ.out); have hse2 : decide (ros y13 = ros l14) = true := decide_eq_true (by rw [hros14]; exact HDE.out); have HSE2 := Lib.hid hse2; obtain ⟨_, _, f4, _⟩ := place_cells w vL vS (k : Nat) A w14 (bt HB4.out (bt BN9.out HB14.out)); have g4 := (HB14.out.cell (p := ⟨b0, off0 + k * 5, none⟩) hb0).trans hdc; clear ho14 hros14 hb14 hse2)
              | (go_at_call 20; refine (refEnd1 _ x k w12 E2 HV12.out (by omega) HE2.out).mono ?_; rintro e w13 ⟨rfl, hb13⟩; have HB13 := Lib.hid (bt HB12.out hb13); have HD13 := Lib.hid (HD12.out.below hb13); have HV13 := Lib.hid (HV12.out.below hb13); obtain ⟨_, _, f3, _⟩ := place_cells w vL vS (k : Nat) A w13 (bt HB4.out (bt BN9.out HB13.out)); have g3 := (HB13.out.cell (p := ⟨b0, off0 + k * 5, none⟩) hb0).trans hdc; clear hb13)
              | (go_at_call 16; refine (refSame1 v11 v12 y11 l12 w11 true HT11.out HM11.out (by omega) (by omega) HSE1.out).mono ?_; rintro e w12 ⟨rfl, hb12⟩; have HB12 := Lib.hid (bt HB11.out hb12); have HV12 := Lib.hid (HV11.out.below hb12); have HD12 := Lib.hid (HD11.out.below hb12); obtain ⟨_, _, f2, _⟩ := place_cells w vL vS (k : Nat) A w12 (bt HB4.out (bt BN9.out HB12.out)); have g2 := (HB12.out.cell (p := ⟨b0, off0 + k * 5, none⟩) hb0).trans hdc; clear hb12)
              | (go_at_call 17; refine (Moved_len (some ⟨b0, off0 + k * 5, none⟩) (c1 - k) (E2 - k) m1 (-d) w10 HL1.out ((HP1.out.below HB10.out).more HB10.out.size) (by omega) (by omega) HF1.out HD1.out).mono ?_; rintro e w11 ⟨v12, l12, rfl, ho12, hros12, hl12, hb11⟩; have HB11 := Lib.hid (bt HB10.out hb11); have HV11 := Lib.hid (HV10.out.below hb11); have HD11 := Lib.hid (HD10.out.below hb11); have HT11 := Lib.hid (HT10.out.below hb11); have HM11 := Lib.hid (ho12.rv (by rw [hros12]; exact HD1.out.held)); have hse1 : decide (ros y11 = ros l12) = true := decide_eq_true (by rw [hros12]; exact HTE.out); have HSE1 := Lib.hid hse1; obtain ⟨_, _, f1, _⟩ := place_cells w vL vS (k : Nat) A w11 (bt HB4.out (bt BN9.out HB11.out)); have g1 := (HB11.out.cell (p := ⟨b0, off0 + k * 5, none⟩) hb0).trans hdc; have hl12b : l12.length ≤ 60 := (by omega); clear ho12 hros12 hb11 hse1 hl12)
              | (go_at_call 20; refine (refEnd1 _ x k w9.drew E2 HV9.out (by omega) HE2.out).mono ?_; rintro e w10 ⟨rfl, hb10⟩; have HB10 := Lib.hid (below_trick hb10 (Nat.le_refl w9.heap.size)); have HV10 := Lib.hid (HV9.out.below HB10.out); have HD10 := Lib.hid (HD9.out.below HB10.out); have HT10 := Lib.hid (HT9.out.below HB10.out); obtain ⟨_, _, f0, _⟩ := place_cells w vL vS (k : Nat) A w10 (bt HB4.out (bt BN9.out HB10.out)); have g0 := (HB10.out.cell (p := ⟨b0, off0 + k * 5, none⟩) hb0).trans hdc; clear hb10))
            all_goals go_wp2_with fail
            all_goals go_meet
            all_goals exact ⟨rfl, HB15.out⟩
        case rest =>
          obtain ⟨rfl, hb10⟩ := hcut
          have WR := Lib.hid (WR9.out.below hb10); have BN := Lib.hid (bt BN9.out hb10)
          clear WR9 BN9 hb10 HV9 HT9 HD9 e3
          obtain ⟨A7, c7, hv7⟩ : ∃ A c, v7 = .slice A z7.length c := by obtain ⟨xs, h1, _⟩ := WR.out; exact own_sl h1
          subst hv7
          go_wp2
          go_loopw [15, 16] (fun i _ wr => ∃ k : Nat, i = .int .i64 k ∧ k ≤ z7.length ∧ Wr w4.heap.size wr (.slice A7 z7.length c7) z7.length z7 ∧ Below w4.heap.size w4 wr) (fun i _ _ => z7.length - (intOf i).toNat)
          case atStart => exact ⟨0, rfl, Nat.zero_le _, WR.out, BN.out⟩
          case round =>
            clear WR BN
            obtain ⟨w10, hw10⟩ : ∃ x, x = wr := ⟨_, rfl⟩
            subst hw10
            obtain ⟨k, rfl, hks, hwr, hbn⟩ := hrel
            have WR := Lib.hid hwr; have BN := Lib.hid hbn
            clear hwr hbn
            by_cases hp : k < z7.length
            · obtain ⟨g, rfl⟩ : ∃ g, A7 = some ⟨g, 0, none⟩ := by obtain ⟨xs, h1, _⟩ := WR.out; exact own_some h1 (by omega)
              have hcl : (∃ u, w10.cell? ⟨g, k * 5 + 2, none⟩ = some u) ∧ w10.frozen? ⟨g, k * 5 + 2, none⟩ = false ∧ w4.heap.size ≤ g := by obtain ⟨xs, h1, _⟩ := WR.out; exact (own_cell h1 (k * 5 + 2) (by omega)).2
              obtain ⟨⟨u, hcell⟩, hfz, hng⟩ := hcl
              have WR2 := Lib.hid (WR.out.name k (.string ⟨#[120]⟩))
              have BN2 := Lib.hid (BN.out.setCell (p := ⟨g, k * 5 + 2, none⟩) hng (.string ⟨#[120]⟩))
              clear WR BN
              obtain ⟨y8, hy8⟩ : ∃ y, z7[k] = y := ⟨_, rfl⟩
              have hym : y8 ∈ z7 := by rw [← hy8]; exact List.getElem_mem _
              have hyl : y8.ro.attrs.length ≤ 1000000 := by
                have := hzf7 y8.ro (List.mem_map.2 ⟨y8, hym, rfl⟩)
                exact this
              have HY8 := Lib.hid hy8
              clear hy8
              go_wp2
              go_loopw [16] (fun m wr => ∃ n : Nat, m = .int .i64 n ∧ n ≤ y8.ro.attrs.length ∧ Wr w4.heap.size wr (.slice (some ⟨g, 0, none⟩) z7.length c7) z7.length z7 ∧ Below w4.heap.size w4 wr) (fun m _ => y8.ro.attrs.length - (intOf m).toNat)
              case atStart => exact ⟨0, rfl, Nat.zero_le _, WR2.out, BN2.out⟩
              case round =>
                clear WR2 BN2 hcell hfz
                obtain ⟨w11, hw11⟩ : ∃ x, x = wr := ⟨_, rfl⟩
                subst hw11
                obtain ⟨n, rfl, hns, hwr, hbn⟩ := hrel
                have WR := Lib.hid hwr; have BN := Lib.hid hbn
                clear hwr hbn
                have hc4 : w11.cell? ⟨g, k * 5 + 4, none⟩ = some (.slice y8.A y8.ro.attrs.length y8.c) := by
                  obtain ⟨xs, h1, h2, _⟩ := WR.out
                  rw [(own_cell h1 (k * 5 + 4) (by omega)).1, h2 k hp, HY8.out]
                by_cases hq : n < y8.ro.attrs.length
                · obtain ⟨g2, hA2⟩ : ∃ g, y8.A = some ⟨g, 0, none⟩ := by obtain ⟨xs, _, _, h3⟩ := WR.out; obtain ⟨aw, ha⟩ := h3 y8 hym; exact own_some ha (by omega)
                  have hcl : (∃ u, w11.cell? ⟨g2, n * 2, none⟩ = some u) ∧ w11.frozen? ⟨g2, n * 2, none⟩ = false ∧ w4.heap.size ≤ g2 := by
                    obtain ⟨xs, _, _, h3⟩ := WR.out
                    obtain ⟨aw, ha⟩ := h3 y8 hym
                    rw [hA2] at ha
                    exact (own_cell ha (n * 2) (by omega)).2
                  obtain ⟨⟨u2, hcell2⟩, hfz2, hng2⟩ := hcl
                  have WR3 := Lib.hid (WR.out.attr hym (by omega) hA2 (n * 2) (.string ⟨#[]⟩)).1
                  have BN3 := Lib.hid (BN.out.setCell (p := ⟨g2, n * 2, none⟩) hng2 (.string ⟨#[]⟩))
                  rw [hA2] at hc4
                  clear WR BN hA2
                  go_wp2
                  go_roundw
                  case rel => exact ⟨n + 1, by go_num, by omega, WR3.out, BN3.out⟩
                  case measure => simp [intOf]; omega
                · go_wp2
                  go_roundw
                  case rel => exact ⟨k + 1, by go_num, by omega, WR.out, BN.out⟩
                  case measure => simp [intOf]; omega
            · have h5 : decide (ros x = ros x5) = true := decide_eq_true HX5.out.symm
              have h6 : decide (ros y = ros y6) = true := decide_eq_true HY6.out.symm
              have H5 := Lib.hid h5; have H6 := Lib.hid h6
              clear h5 h6
              have HV10 := Lib.hid (HV4.out.below BN.out); have HU10 := Lib.hid (HU4.out.below BN.out); have HX10 := Lib.hid (HXV4.out.below BN.out); have HY10 := Lib.hid (HYV4.out.below BN.out)
              go_wp2_with fail
              refine (refSame1 _ _ x x5 w10 true HV10.out HX10.out (by omega) (by omega) H5.out).mono ?_
              rintro e w11 ⟨rfl, hb11⟩
              have HU11 := Lib.hid (HU10.out.below hb11); have HY11 := Lib.hid (HY10.out.below hb11); have BN11 := Lib.hid (bt BN.out hb11)
              clear hb11
              go_wp2_with fail
              refine (refSame1 _ _ y y6 w11 true HU11.out HY11.out (by omega) (by omega) H6.out).mono ?_
              rintro e w12 ⟨rfl, hb12⟩
              have BN12 := Lib.hid (bt BN11.out hb12)
              clear hb12
              go_wp2_with fail
              refine (fixed_any w12).mono ?_
              rintro e w13 ⟨rfl, hb13⟩
              go_wp2
              go_ret
              exact ⟨rfl, HW.out.trans ((bt HB4.out (bt BN12.out hb13)).mono HW.out.size)⟩
      · go_wp2_with fail
        refine (TakeNo_any A1 x.length c1 I w6 hc1 hI).mono ?_
        rintro e w7 ⟨rfl, rfl⟩
        go_wp2_with fail
        refine (DropNo_any A1 x.length c1 I w6 hc1 hI).mono ?_
        rintro e w7 ⟨rfl, rfl⟩
        go_wp2_with fail
        refine (refSame1 _ _ z7 z9 w6 true HZV6.out HZ9.out (by omega) (by omega) HSE.out).mono ?_
        rintro e w7 ⟨rfl, hb7⟩
        have WR7 := Lib.hid (WR6.out.below hb7); have BN7 := Lib.hid (bt BN6.out hb7)
        obtain ⟨_, _, e2, e3⟩ := place_cells w vL vS I A w7 (bt HB4.out BN7.out)
        clear hb7 WR6 BN6 HZV6 HZ9 d2 e3
        by_cases hI0 : 0 ≤ I
        · have i0 : decide ((0 : Int) ≤ I) = true := decide_eq_true hI0
          have i1 : decide (I < (x.length : Int)) = false := decide_eq_false (by omega)
          go_wp2
          go_quiet (fail)
          have WR := Lib.hid (WR7.out.below (below_dN (Below.refl _ _) nq)); have BN := Lib.hid (below_dN BN7.out nq)
          clear WR7 BN7 e2
          obtain ⟨A7, c7, hv7⟩ : ∃ A c, v7 = .slice A z7.length c := by obtain ⟨xs, h1, _⟩ := WR.out; exact own_sl h1
          subst hv7
          go_wp2
          go_loopw [15, 16] (fun i _ wr => ∃ k : Nat, i = .int .i64 k ∧ k ≤ z7.length ∧ Wr w4.heap.size wr (.slice A7 z7.length c7) z7.length z7 ∧ Below w4.heap.size w4 wr) (fun i _ _ => z7.length - (intOf i).toNat)
          case atStart => exact ⟨0, rfl, Nat.zero_le _, WR.out, BN.out⟩
          case round =>
            clear WR BN
            obtain ⟨w10, hw10⟩ : ∃ x, x = wr := ⟨_, rfl⟩
            subst hw10
            obtain ⟨k, rfl, hks, hwr, hbn⟩ := hrel
            have WR := Lib.hid hwr; have BN := Lib.hid hbn
            clear hwr hbn
            by_cases hp : k < z7.length
            · obtain ⟨g, rfl⟩ : ∃ g, A7 = some ⟨g, 0, none⟩ := by obtain ⟨xs, h1, _⟩ := WR.out; exact own_some h1 (by omega)
              have hcl : (∃ u, w10.cell? ⟨g, k * 5 + 2, none⟩ = some u) ∧ w10.frozen? ⟨g, k * 5 + 2, none⟩ = false ∧ w4.heap.size ≤ g := by obtain ⟨xs, h1, _⟩ := WR.out; exact (own_cell h1 (k * 5 + 2) (by omega)).2
              obtain ⟨⟨u, hcell⟩, hfz, hng⟩ := hcl
              have WR2 := Lib.hid (WR.out.name k (.string ⟨#[120]⟩))
              have BN2 := Lib.hid (BN.out.setCell (p := ⟨g, k * 5 + 2, none⟩) hng (.string ⟨#[120]⟩))
              clear WR BN
              obtain ⟨y8, hy8⟩ : ∃ y, z7[k] = y := ⟨_, rfl⟩
              have hym : y8 ∈ z7 := by rw [← hy8]; exact List.getElem_mem _
              have hyl : y8.ro.attrs.length ≤ 1000000 := by
                have := hzf7 y8.ro (List.mem_map.2 ⟨y8, hym, rfl⟩)
                exact this
              have HY8 := Lib.hid hy8
              clear hy8
              go_wp2
              go_loopw [16] (fun m wr => ∃ n : Nat, m = .int .i64 n ∧ n ≤ y8.ro.attrs.length ∧ Wr w4.heap.size wr (.slice (some ⟨g, 0, none⟩) z7.length c7) z7.length z7 ∧ Below w4.heap.size w4 wr) (fun m _ => y8.ro.attrs.length - (intOf m).toNat)
              case atStart => exact ⟨0, rfl, Nat.zero_le _, WR2.out, BN2.out⟩
              case round =>
                clear WR2 BN2 hcell hfz
                obtain ⟨w11, hw11⟩ : ∃ x, x = wr := ⟨_, rfl⟩
                subst hw11
                obtain ⟨n, rfl, hns, hwr, hbn⟩ := hrel
                have WR := Lib.hid hwr; have BN := Lib.hid hbn
                clear hwr hbn
                have hc4 : w11.cell? ⟨g, k * 5 + 4, none⟩ = some (.slice y8.A y8.ro.attrs.length y8.c) := by
                  obtain ⟨xs, h1, h2, _⟩ := WR.out
                  rw [(own_cell h1 (k * 5 + 4) (by omega)).1, h2 k hp, HY8.out]
                by_cases hq : n < y8.ro.attrs.length
                · obtain ⟨g2, hA2⟩ : ∃ g, y8.A = some ⟨g, 0, none⟩ := by obtain ⟨xs, _, _, h3⟩ := WR.out; obtain ⟨aw, ha⟩ := h3 y8 hym; exact own_some ha (by omega)
                  have hcl : (∃ u, w11.cell? ⟨g2, n * 2, none⟩ = some u) ∧ w11.frozen? ⟨g2, n * 2, none⟩ = false ∧ w4.heap.size ≤ g2 := by
                    obtain ⟨xs, _, _, h3⟩ := WR.out
                    obtain ⟨aw, ha⟩ := h3 y8 hym
                    rw [hA2] at ha
                    exact (own_cell ha (n * 2) (by omega)).2
                  obtain ⟨⟨u2, hcell2⟩, hfz2, hng2⟩ := hcl
                  have WR3 := Lib.hid (WR.out.attr hym (by omega) hA2 (n * 2) (.string ⟨#[]⟩)).1
                  have BN3 := Lib.hid (BN.out.setCell (p := ⟨g2, n * 2, none⟩) hng2 (.string ⟨#[]⟩))
                  rw [hA2] at hc4
                  clear WR BN hA2
                  go_wp2
                  go_roundw
                  case rel => exact ⟨n + 1, by go_num, by omega, WR3.out, BN3.out⟩
                  case measure => simp [intOf]; omega
                · go_wp2
                  go_roundw
                  case rel => exact ⟨k + 1, by go_num, by omega, WR.out, BN.out⟩
                  case measure => simp [intOf]; omega
            · have h5 : decide (ros x = ros x5) = true := decide_eq_true HX5.out.symm
              have h6 : decide (ros y = ros y6) = true := decide_eq_true HY6.out.symm
              have H5 := Lib.hid h5; have H6 := Lib.hid h6
              clear h5 h6
              have HV10 := Lib.hid (HV4.out.below BN.out); have HU10 := Lib.hid (HU4.out.below BN.out); have HX10 := Lib.hid (HXV4.out.below BN.out); have HY10 := Lib.hid (HYV4.out.below BN.out)
              go_wp2_with fail
              refine (refSame1 _ _ x x5 w10 true HV10.out HX10.out (by omega) (by omega) H5.out).mono ?_
              rintro e w11 ⟨rfl, hb11⟩
              have HU11 := Lib.hid (HU10.out.below hb11); have HY11 := Lib.hid (HY10.out.below hb11); have BN11 := Lib.hid (bt BN.out hb11)
              clear hb11
              go_wp2_with fail
              refine (refSame1 _ _ y y6 w11 true HU11.out HY11.out (by omega) (by omega) H6.out).mono ?_
              rintro e w12 ⟨rfl, hb12⟩
              have BN12 := Lib.hid (bt BN11.out hb12)
              clear hb12
              go_wp2_with fail
              refine (fixed_any w12).mono ?_
              rintro e w13 ⟨rfl, hb13⟩
              go_wp2
              go_ret
              exact ⟨rfl, HW.out.trans ((bt HB4.out (bt BN12.out hb13)).mono HW.out.size)⟩
        · have i0 : decide ((0 : Int) ≤ I) = false := decide_eq_false hI0
          go_wp2
          go_quiet (fail)
          have WR := Lib.hid (WR7.out.below (below_dN (Below.refl _ _) nq)); have BN := Lib.hid (below_dN BN7.out nq)
          clear WR7 BN7 e2
          obtain ⟨A7, c7, hv7⟩ : ∃ A c, v7 = .slice A z7.length c := by obtain ⟨xs, h1, _⟩ := WR.out; exact own_sl h1
          subst hv7
          go_wp2
          go_loopw [15, 16] (fun i _ wr => ∃ k : Nat, i = .int .i64 k ∧ k ≤ z7.length ∧ Wr w4.heap.size wr (.slice A7 z7.length c7) z7.length z7 ∧ Below w4.heap.size w4 wr) (fun i _ _ => z7.length - (intOf i).toNat)
          case atStart => exact ⟨0, rfl, Nat.zero_le _, WR.out, BN.out⟩
          case round =>
            clear WR BN
            obtain ⟨w10, hw10⟩ : ∃ x, x = wr := ⟨_, rfl⟩
            subst hw10
            obtain ⟨k, rfl, hks, hwr, hbn⟩ := hrel
            have WR := Lib.hid hwr; have BN := Lib.hid hbn
            clear hwr hbn
            by_cases hp : k < z7.length
            · obtain ⟨g, rfl⟩ : ∃ g, A7 = some ⟨g, 0, none⟩ := by obtain ⟨xs, h1, _⟩ := WR.out; exact own_some h1 (by omega)
              have hcl : (∃ u, w10.cell? ⟨g, k * 5 + 2, none⟩ = some u) ∧ w10.frozen? ⟨g, k * 5 + 2, none⟩ = false ∧ w4.heap.size ≤ g := by obtain ⟨xs, h1, _⟩ := WR.out; exact (own_cell h1 (k * 5 + 2) (by omega)).2
              obtain ⟨⟨u, hcell⟩, hfz, hng⟩ := hcl
              have WR2 := Lib.hid (WR.out.name k (.string ⟨#[120]⟩))
              have BN2 := Lib.hid (BN.out.setCell (p := ⟨g, k * 5 + 2, none⟩) hng (.string ⟨#[120]⟩))
              clear WR BN
              obtain ⟨y8, hy8⟩ : ∃ y, z7[k] = y := ⟨_, rfl⟩
              have hym : y8 ∈ z7 := by rw [← hy8]; exact List.getElem_mem _
              have hyl : y8.ro.attrs.length ≤ 1000000 := by
                have := hzf7 y8.ro (List.mem_map.2 ⟨y8, hym, rfl⟩)
                exact this
              have HY8 := Lib.hid hy8
              clear hy8
              go_wp2
              go_loopw [16] (fun m wr => ∃ n : Nat, m = .int .i64 n ∧ n ≤ y8.ro.attrs.length ∧ Wr w4.heap.size wr (.slice (some ⟨g, 0, none⟩) z7.length c7) z7.length z7 ∧ Below w4.heap.size w4 wr) (fun m _ => y8.ro.attrs.length - (intOf m).toNat)
              case atStart => exact ⟨0, rfl, Nat.zero_le _, WR2.out, BN2.out⟩
              case round =>
                clear WR2 BN2 hcell hfz
                obtain ⟨w11, hw11⟩ : ∃ x, x = wr := ⟨_, rfl⟩
                subst hw11
                obtain ⟨n, rfl, hns, hwr, hbn⟩ := hrel
                have WR := Lib.hid hwr; have BN := Lib.hid hbn
                clear hwr hbn
                have hc4 : w11.cell? ⟨g, k * 5 + 4, none⟩ = some (.slice y8.A y8.ro.attrs.length y8.c) := by
                  obtain ⟨xs, h1, h2, _⟩ := WR.out
                  rw [(own_cell h1 (k * 5 + 4) (by omega)).1, h2 k hp, HY8.out]
                by_cases hq : n < y8.ro.attrs.length
                · obtain ⟨g2, hA2⟩ : ∃ g, y8.A = some ⟨g, 0, none⟩ := by obtain ⟨xs, _, _, h3⟩ := WR.out; obtain ⟨aw, ha⟩ := h3 y8 hym; exact own_some ha (by omega)
                  have hcl : (∃ u, w11.cell? ⟨g2, n * 2, none⟩ = some u) ∧ w11.frozen? ⟨g2, n * 2, none⟩ = false ∧ w4.heap.size ≤ g2 := by
                    obtain ⟨xs, _, _, h3⟩ := WR.out
                    obtain ⟨aw, ha⟩ := h3 y8 hym
                    rw [hA2] at ha
                    exact (own_cell ha (n * 2) (by omega)).2
                  obtain ⟨⟨u2, hcell2⟩, hfz2, hng2⟩ := hcl
                  have WR3 := Lib.hid (WR.out.attr hym (by omega) hA2 (n * 2) (.string ⟨#[]⟩)).1
                  have BN3 := Lib.hid (BN.out.setCell (p := ⟨g2, n * 2, none⟩) hng2 (.string ⟨#[]⟩))
                  rw [hA2] at hc4
                  clear WR BN hA2
                  go_wp2
                  go_roundw
                  case rel => exact ⟨n + 1, by go_num, by omega, WR3.out, BN3.out⟩
                  case measure => simp [intOf]; omega
                · go_wp2
                  go_roundw
                  case rel => exact ⟨k + 1, by go_num, by omega, WR.out, BN.out⟩
                  case measure => simp [intOf]; omega
            · have h5 : decide (ros x = ros x5) = true := decide_eq_true HX5.out.symm
              have h6 : decide (ros y = ros y6) = true := decide_eq_true HY6.out.symm
              have H5 := Lib.hid h5; have H6 := Lib.hid h6
              clear h5 h6
              have HV10 := Lib.hid (HV4.out.below BN.out); have HU10 := Lib.hid (HU4.out.below BN.out); have HX10 := Lib.hid (HXV4.out.below BN.out); have HY10 := Lib.hid (HYV4.out.below BN.out)
              go_wp2_with fail
              refine (refSame1 _ _ x x5 w10 true HV10.out HX10.out (by omega) (by omega) H5.out).mono ?_
              rintro e w11 ⟨rfl, hb11⟩
              have HU11 := Lib.hid (HU10.out.below hb11); have HY11 := Lib.hid (HY10.out.below hb11); have BN11 := Lib.hid (bt BN.out hb11)
              clear hb11
              go_wp2_with fail
              refine (refSame1 _ _ y y6 w11 true HU11.out HY11.out (by omega) (by omega) H6.out).mono ?_
              rintro e w12 ⟨rfl, hb12⟩
              have BN12 := Lib.hid (bt BN11.out hb12)
              clear hb12
              go_wp2_with fail
              refine (fixed_any w12).mono ?_
              rintro e w13 ⟨rfl, hb13⟩
              go_wp2
              go_ret
              exact ⟨rfl, HW.out.trans ((bt HB4.out (bt BN12.out hb13)).mono HW.out.size)⟩
    · have n1 : (C != 0) = true := by simpa using hc0
      have n2 : (C == 0) = false := by simpa using hc0
      go_wp2_with fail
      refine (fixed_any w2).mono ?_
      rintro e w3 ⟨rfl, hb3⟩
      go_wp2
      go_ret
      exact ⟨rfl, HW.out.trans ((bt HB2.out hb3).mono HW.out.size)⟩

theorem law_puts_p (v : Value) (o : Pv) (w : World) (h : Pw w v o) (_ : True) :
    Calls Try.prog 5 #[v] w fun e w' => e = .returned (.bool true) ∧ Below w.heap.size w w' := by
  obtain ⟨rfl, hL, hS⟩ := h
  exact law_puts o.vL o.vS o.I o.A o.a o.b w hL hS

end Go.Proofs.Ytblefklfgaohfaa.Ro
