/-
  The laws of stage 4, walked: Kin.
-/
import Derived.Test.YtblefklfgaohfaaRowKin
namespace Go.Proofs.Ytblefklfgaohfaa.Ro
set_option linter.unusedVariables false
set_option linter.unusedSimpArgs false
open Go.RowKit Ba

theorem kids_empty {d : Int} {k : Nat} {r : List Ro} (hf : Forest d r) (h : kidsFrom d k r = []) : r = [] := by
  cases r with
  | nil => rfl
  | cons x t => rw [kids_forest hf] at h; cases h
/-- The j-th kid stands where the rest of the forest begins. -/
theorem kid_at {l : List Ro} (hr : right l = true) (hl : l.length ≤ 1000) {i : Int} (h1 : -1 ≤ i) (h2 : i < l.length) {K : List Nat} {j m P : Nat} (hP : P = (i + 1).toNat + m) (hf : Forest (dep l i + 1) ((below l i).drop m))
    (hK : K.drop j = kidsFrom (dep l i + 1) P ((below l i).drop m)) (hj : j < K.length) :
    K[j] = P ∧ P < l.length ∧ parent l P = i ∧ endAt l P = P + 1 + more (dep l i + 1) ((below l i).drop (m + 1)) ∧ Forest (dep l i + 1) ((below l i).drop (m + 1 + more (dep l i + 1) ((below l i).drop (m + 1)))) ∧
      K.drop (j + 1) = kidsFrom (dep l i + 1) (P + 1 + more (dep l i + 1) ((below l i).drop (m + 1))) ((below l i).drop (m + 1 + more (dep l i + 1) ((below l i).drop (m + 1)))) ∧ m + 1 + more (dep l i + 1) ((below l i).drop (m + 1)) ≤ (below l i).length := by
  cases hm : (below l i).drop m with
  | nil => rw [hm] at hK; rw [List.drop_eq_getElem_cons hj] at hK; cases hK
  | cons x r =>
    have hr1 : (below l i).drop (m + 1) = r := by
      have := congrArg (List.drop 1) hm
      rw [List.drop_drop] at this
      exact this
    have hml : m < (below l i).length := by
      have := congrArg List.length hm
      rw [List.length_drop, List.length_cons] at this
      omega
    rw [hr1]
    rw [hm] at hf hK
    obtain ⟨hx, hf2, hmo⟩ := forest_next hf
    rw [kids_forest hf, List.drop_eq_getElem_cons hj] at hK
    injection hK with hK1 hK2
    obtain ⟨f1, f2, f3⟩ := kid_facts hr hl h1 h2 hm hx
    rw [← hP] at f1 f2 f3
    have hd : (below l i).drop (m + 1 + more (dep l i + 1) r) = r.drop (more (dep l i + 1) r) := by rw [← hr1, List.drop_drop]
    rw [hd]
    have hrl : r.length = (below l i).length - (m + 1) := by rw [← hr1, List.length_drop]
    exact ⟨hK1, f1, f3, by rw [endAt_of f1, f2], hf2, hK2, by omega⟩

set_option maxRecDepth 100000 in
set_option maxHeartbeats 8000000 in
theorem law_kin (v : Value) (l : List Cw) (w : World) (hv : Rv w v l) (_ : True) :
    Calls Try.prog 8 #[v] w fun e w' => e = .returned (.bool true) ∧ Below w.heap.size w w' := by
  go_enter Try.func8, Try.ntmps8
  go_wp2_with fail
  refine (bound1 v l w hv).mono ?_
  rintro e w1 ⟨v1, x, rfl, _, hv1, hx, h60, hf, hh, hb1⟩
  have HV1 := Lib.hid hv1
  clear hx hv hv1
  obtain ⟨C, hC⟩ : ∃ C, check (ros x) = C := ⟨_, rfl⟩
  have HC := Lib.hid hC
  clear hC
  go_wp2_with fail
  refine (check1 v1 x w1 C HV1.out (by omega) HC.out).mono ?_
  rintro e w2 ⟨rfl, hb2⟩
  have HV2 := Lib.hid (HV1.out.below hb2)
  have HB2 := Lib.hid (bt hb1 hb2)
  clear hb1 hb2 HV1
  by_cases hc0 : C = 0
  · subst hc0
    have HR := Lib.hid (check_parts HC.out).2
    have hl0 : (ros x).length = x.length := len_ros x
    have HL := Lib.hid hl0
    clear hl0
    obtain ⟨A1, c1, hvA, _⟩ := HV2.out
    subst hvA
    go_wp2
    go_loopw [3, 4, 5, 6, 7, 8] (fun seen i _ _ _ _ wr => ∃ (I : Int) (S : Nat), i = .int .i64 I ∧ seen = .int .i64 S ∧ -1 ≤ I ∧ I ≤ x.length ∧ seenOf (ros x) I = S ∧ Below w2.heap.size w2 wr) (fun _ i _ _ _ _ _ => (x.length - intOf i).toNat)
    case atStart => exact ⟨-1, 0, rfl, rfl, Int.le_refl _, by omega, seen_top _, Below.refl _ _⟩
    case round =>
      obtain ⟨w3, hw3⟩ : ∃ x, x = wr := ⟨_, rfl⟩
      subst hw3
      obtain ⟨I, S, rfl, rfl, hI1, hI2, hS, hbel⟩ := hrel
      have HS := Lib.hid hS; have HBL := Lib.hid hbel
      clear hS hbel
      have hSl : S ≤ 60 := by have := HS.out; have := seen_le (ros x) I; have := HL.out; omega
      by_cases hp : I < x.length
      · obtain ⟨K, hK⟩ : ∃ K, kids (ros x) I = K := ⟨_, rfl⟩
        have hKa : kidsAt (ros x) I = K := by unfold kidsAt; rw [if_pos ⟨hI1, by rw [HL.out]; exact hp⟩]; exact hK
        have hKl : K.length ≤ 60 := by rw [← hK]; have := kids_le (ros x) I; have := HL.out; omega
        have hKe : seenOf (ros x) (I + 1) = S + K.length := by rw [seen_next HR.out (by rw [HL.out]; omega) hI1 (by rw [HL.out]; exact hp), HS.out, hK]
        have HK := Lib.hid hK; have HKA := Lib.hid hKa; have HKE := Lib.hid hKe
        have HV3 := Lib.hid (HV2.out.below HBL.out)
        clear hK hKa hKe
        go_wp2_with fail
        refine (kids1 _ x I w3 K HV3.out (by omega) HR.out HKA.out).mono ?_
        rintro e w4 ⟨u4, rfl, hn4, hb4⟩
        obtain ⟨A4, c4, rfl, hc4, hm4, hrn4⟩ := hn4.form
        have HN4 := Lib.hid hrn4
        have HV4 := Lib.hid (HV3.out.below hb4)
        have HB4 := Lib.hid (bt HBL.out hb4)
        clear hn4 hb4 hrn4 HV3 HKA
        obtain ⟨E, hE⟩ : ∃ E, endOf (ros x) I = E := ⟨_, rfl⟩
        have hEa : 0 ≤ I → endAt (ros x) I = E := fun h => by
          obtain ⟨n, rfl⟩ : ∃ n : Nat, I = n := ⟨I.toNat, by omega⟩
          rw [endAt_of (by rw [HL.out]; omega)]; exact hE
        have hEt : ¬ 0 ≤ I → x.length = E := fun h => by
          have : I = -1 := by omega
          subst this
          rw [← hE]
          unfold endOf
          rw [below_all (right_deep HR.out (by rw [HL.out]; omega)), HL.out]
          show x.length = 0 + x.length
          omega
        have HE := Lib.hid hE; have HEA := Lib.hid hEa; have HET := Lib.hid hEt
        clear hE hEa hEt
        by_cases h0 : 0 ≤ I
        · have d0 : decide ((0 : Int) ≤ I) = true := decide_eq_true h0
          go_wp2_with fail
          refine (end1 _ x I w4 E HV4.out (by omega) (HEA.out h0)).mono ?_
          rintro e w5 ⟨rfl, rfl⟩
          go_wp2
          go_loopw [3, 6, 8] (fun seen next jv wr => ∃ (j m P S' : Nat), jv = .int .i64 j ∧ next = .int .i64 P ∧ seen = .int .i64 S' ∧ j ≤ K.length ∧ S' = S + j ∧ P = (I + 1).toNat + m ∧ m ≤ (below (ros x) I).length ∧ Forest (dep (ros x) I + 1) ((below (ros x) I).drop m) ∧ K.drop j = kidsFrom (dep (ros x) I + 1) P ((below (ros x) I).drop m) ∧ Below w4.heap.size w4 wr) (fun _ _ jv _ => K.length - (intOf jv).toNat)
          case atStart => exact ⟨0, 0, (I + 1).toNat, S, rfl, by rw [show (((I + 1).toNat : Nat) : Int) = I + 1 by omega], rfl, Nat.zero_le _, rfl, rfl, Nat.zero_le _, by rw [List.drop_zero]; exact below_forest HR.out (by rw [HL.out]; omega) I hI1 (by rw [HL.out]; exact hp), by rw [List.drop_zero, List.drop_zero]; exact HK.out.symm, Below.refl _ _⟩
          case round =>
            obtain ⟨w6, hw6⟩ : ∃ x, x = wr := ⟨_, rfl⟩
            subst hw6
            obtain ⟨j, m, P, S', rfl, rfl, rfl, hj, hS', hP, hm, hfo, hkd, hbel6⟩ := hrel
            have HB6 := Lib.hid hbel6
            clear hbel6
            have HV6 := Lib.hid (HV4.out.below HB6.out)
            by_cases hq : j < K.length
            · obtain ⟨k1, k2, k3, k4, k5, k6, k7⟩ := kid_at HR.out (by rw [HL.out]; omega) hI1 (by rw [HL.out]; exact hp) hP hfo hkd hq
              obtain ⟨b, off, rfl, hb6, hcell⟩ := HN4.out (by omega)
              have hc6 : w6.cell? ⟨b, off + j, none⟩ = some (.int .i64 (P : Nat)) := by
                have := (HB6.out.cell (p := ⟨b, off + j, none⟩) hb6).trans (hcell j hq)
                rw [k1] at this
                exact this
              have hj0 : (0 : Int) ≤ (j : Int) := by omega
              have hj1 : (j : Int) < (K.length : Int) := by omega
              have hPl : P < x.length := by rw [HL.out] at k2; exact k2
              generalize hmo : more (dep (ros x) I + 1) ((below (ros x) I).drop (m + 1)) = M at *
              have hML : m + 1 + M ≤ 1000 := by have := below_len (ros x) I hI1 (by rw [HL.out]; exact hp); have := HL.out; omega
              have HP2 := Lib.hid (show P + 1 + M = (I + 1).toNat + (m + 1 + M) by omega)
              have K3 := Lib.hid k3; have K4 := Lib.hid k4; have K5 := Lib.hid k5; have K6 := Lib.hid k6
              clear k1 k3 k4 k5 k6 hcell hP hfo hkd hmo
              go_wp2_with fail
              refine (parent1 _ x P w6 I HV6.out (by omega) K3.out).mono ?_
              rintro e w7 ⟨rfl, hb7⟩
              have hc7 : w7.cell? ⟨b, off + j, none⟩ = some (.int .i64 (P : Nat)) := (hb7.cell (p := ⟨b, off + j, none⟩) (show b < w6.heap.size by have := HB6.out.size; omega)).trans hc6
              have HV7 := Lib.hid (HV6.out.below hb7)
              have HB7 := Lib.hid (bt HB6.out hb7)
              clear hb7 hc6 HV6 HB6
              go_wp2_with fail
              refine (end1 _ x P w7 (P + 1 + M) HV7.out (by omega) K4.out).mono ?_
              rintro e w8 ⟨rfl, rfl⟩
              go_wp2
              go_roundw
              case rel => exact ⟨j + 1, m + 1 + M, P + 1 + M, S' + 1, by go_num, by go_num, by go_num, by omega, by omega, HP2.out, k7, K5.out, K6.out, HB7.out⟩
              case measure => simp [intOf]; omega
            · have hje : j = K.length := by omega
              have hre : (below (ros x) I).drop m = [] := kids_empty hfo (by rw [← hkd, hje]; exact List.drop_length)
              have hme : m = (below (ros x) I).length := by
                have := congrArg List.length hre
                rw [List.length_drop] at this
                have h0 : ([] : List Ro).length = 0 := rfl
                omega
              have hPE : P = E := by
                have h1 : endOf (ros x) I = (I + 1).toNat + (below (ros x) I).length := rfl
                have h2 := HE.out
                skip
                omega
              have HSE := Lib.hid (show seenOf (ros x) (I + 1) = S' by rw [HKE.out, hS', hje])
              clear hre hme hfo hkd hje hP hS'
              subst hPE
              go_wp2
              go_roundw
              case rel => exact ⟨I + 1, S', by go_num, rfl, by omega, by omega, HSE.out, bt HB4.out HB6.out⟩
              case measure => simp [intOf]; omega
        · have d0 : decide ((0 : Int) ≤ I) = false := decide_eq_false h0
          go_wp2
          go_loopw [3, 6, 8] (fun seen next jv wr => ∃ (j m P S' : Nat), jv = .int .i64 j ∧ next = .int .i64 P ∧ seen = .int .i64 S' ∧ j ≤ K.length ∧ S' = S + j ∧ P = (I + 1).toNat + m ∧ m ≤ (below (ros x) I).length ∧ Forest (dep (ros x) I + 1) ((below (ros x) I).drop m) ∧ K.drop j = kidsFrom (dep (ros x) I + 1) P ((below (ros x) I).drop m) ∧ Below w4.heap.size w4 wr) (fun _ _ jv _ => K.length - (intOf jv).toNat)
          case atStart => exact ⟨0, 0, (I + 1).toNat, S, rfl, by rw [show (((I + 1).toNat : Nat) : Int) = I + 1 by omega], rfl, Nat.zero_le _, rfl, rfl, Nat.zero_le _, by rw [List.drop_zero]; exact below_forest HR.out (by rw [HL.out]; omega) I hI1 (by rw [HL.out]; exact hp), by rw [List.drop_zero, List.drop_zero]; exact HK.out.symm, Below.refl _ _⟩
          case round =>
            obtain ⟨w6, hw6⟩ : ∃ x, x = wr := ⟨_, rfl⟩
            subst hw6
            obtain ⟨j, m, P, S', rfl, rfl, rfl, hj, hS', hP, hm, hfo, hkd, hbel6⟩ := hrel
            have HB6 := Lib.hid hbel6
            clear hbel6
            have HV6 := Lib.hid (HV4.out.below HB6.out)
            by_cases hq : j < K.length
            · obtain ⟨k1, k2, k3, k4, k5, k6, k7⟩ := kid_at HR.out (by rw [HL.out]; omega) hI1 (by rw [HL.out]; exact hp) hP hfo hkd hq
              obtain ⟨b, off, rfl, hb6, hcell⟩ := HN4.out (by omega)
              have hc6 : w6.cell? ⟨b, off + j, none⟩ = some (.int .i64 (P : Nat)) := by
                have := (HB6.out.cell (p := ⟨b, off + j, none⟩) hb6).trans (hcell j hq)
                rw [k1] at this
                exact this
              have hj0 : (0 : Int) ≤ (j : Int) := by omega
              have hj1 : (j : Int) < (K.length : Int) := by omega
              have hPl : P < x.length := by rw [HL.out] at k2; exact k2
              generalize hmo : more (dep (ros x) I + 1) ((below (ros x) I).drop (m + 1)) = M at *
              have hML : m + 1 + M ≤ 1000 := by have := below_len (ros x) I hI1 (by rw [HL.out]; exact hp); have := HL.out; omega
              have HP2 := Lib.hid (show P + 1 + M = (I + 1).toNat + (m + 1 + M) by omega)
              have K3 := Lib.hid k3; have K4 := Lib.hid k4; have K5 := Lib.hid k5; have K6 := Lib.hid k6
              clear k1 k3 k4 k5 k6 hcell hP hfo hkd hmo
              go_wp2_with fail
              refine (parent1 _ x P w6 I HV6.out (by omega) K3.out).mono ?_
              rintro e w7 ⟨rfl, hb7⟩
              have hc7 : w7.cell? ⟨b, off + j, none⟩ = some (.int .i64 (P : Nat)) := (hb7.cell (p := ⟨b, off + j, none⟩) (show b < w6.heap.size by have := HB6.out.size; omega)).trans hc6
              have HV7 := Lib.hid (HV6.out.below hb7)
              have HB7 := Lib.hid (bt HB6.out hb7)
              clear hb7 hc6 HV6 HB6
              go_wp2_with fail
              refine (end1 _ x P w7 (P + 1 + M) HV7.out (by omega) K4.out).mono ?_
              rintro e w8 ⟨rfl, rfl⟩
              go_wp2
              go_roundw
              case rel => exact ⟨j + 1, m + 1 + M, P + 1 + M, S' + 1, by go_num, by go_num, by go_num, by omega, by omega, HP2.out, k7, K5.out, K6.out, HB7.out⟩
              case measure => simp [intOf]; omega
            · have hje : j = K.length := by omega
              have hre : (below (ros x) I).drop m = [] := kids_empty hfo (by rw [← hkd, hje]; exact List.drop_length)
              have hme : m = (below (ros x) I).length := by
                have := congrArg List.length hre
                rw [List.length_drop] at this
                have h0 : ([] : List Ro).length = 0 := rfl
                omega
              have hPE : P = x.length := by
                have h1 : endOf (ros x) I = (I + 1).toNat + (below (ros x) I).length := rfl
                have h2 := HE.out
                have h3 := HET.out h0
                omega
              have HSE := Lib.hid (show seenOf (ros x) (I + 1) = S' by rw [HKE.out, hS', hje])
              clear hre hme hfo hkd hje hP hS'
              subst hPE
              go_wp2
              go_roundw
              case rel => exact ⟨I + 1, S', by go_num, rfl, by omega, by omega, HSE.out, bt HB4.out HB6.out⟩
              case measure => simp [intOf]; omega
      · have hIe : I = x.length := by omega
        have hSe : S = x.length := by rw [← HS.out, hIe, ← HL.out]; exact seen_all (ros x)
        have e1 : ((S : Int) == (x.length : Int)) = true := beq_iff_eq.2 (by omega)
        go_wp2_with fail
        refine (fixed_any w3).mono ?_
        rintro e w4 ⟨rfl, hb4⟩
        go_wp2
        go_ret
        exact ⟨rfl, bt HB2.out (bt HBL.out hb4)⟩
  · have n1 : (C != 0) = true := by simpa using hc0
    have n2 : (C == 0) = false := by simpa using hc0
    go_wp2_with fail
    refine (fixed_any w2).mono ?_
    rintro e w3 ⟨rfl, hb3⟩
    go_wp2
    go_ret
    exact ⟨rfl, bt HB2.out hb3⟩

end Go.Proofs.Ytblefklfgaohfaa.Ro
