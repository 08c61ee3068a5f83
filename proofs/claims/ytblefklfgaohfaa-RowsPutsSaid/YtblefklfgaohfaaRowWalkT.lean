/-
  Walks of stage 4: the reference's Put.
-/
import Derived.Test.YtblefklfgaohfaaRowWalkS
namespace Go.Proofs.Ytblefklfgaohfaa.Ro
set_option linter.unusedVariables false
set_option linter.unusedSimpArgs false
open Go.RowKit Ba

def putOut (l : List Ro) (p at_ : Int) (sub : List Ro) : List Ro := l.take (placeAt l p at_).1.toNat ++ deeper (dep l p + 1) sub ++ l.drop (placeAt l p at_).1.toNat
def refPut (l : List Ro) (p at_ : Int) (sub : List Ro) : Int × List Ro :=
  if elemAt l p = false then (41, [])
  else if (placeAt l p at_).2 = false then (1, [])
  else if right sub = false then (40, [])
  else if exceeds (putOut l p at_ sub) 4096 60 = true then (2, [])
  else (0, putOut l p at_ sub)

theorem right_le : ∀ (l : List Ro) (m : Int), rightFrom m l = true → ∀ x ∈ l, x.depth ≤ m + l.length
  | [], _, _, x, h => by cases h
  | y :: r, m, h, x, hx => by
    rw [rightFrom] at h
    simp only [Bool.and_eq_true, decide_eq_true_eq] at h
    rw [List.length_cons]
    rcases List.mem_cons.1 hx with rfl | hx
    · have := h.1.1.2
      omega
    · have h1 := right_le r _ h.2 x hx
      have h2 := h.1.1.2
      split at h1 <;> omega

theorem below_trick {w w' : World} {N : Nat} (h : Below w.drew.heap.size w.drew w') (hN : N ≤ w.heap.size) : Below N w w' := ((below_dN (Below.refl N w) 1).trans (h.mono hN))
theorem Deep.held {l : List Ro} (h : Deep l) : Held l := fun x hx => by have := h x hx; omega

theorem Join_len (A B : Option Addr) (ca cb na nb : Nat) (a b : List Cw) (w : World) (hna : a.length = na) (hnb : b.length = nb) (hra : Rr w w.heap.size A a) (hrb : Rr w w.heap.size B b) (hca : na ≤ ca) (hcb : nb ≤ cb) (hma : na ≤ 1000000) (hmb : nb ≤ 1000000) (hfa : Few (ros a)) (hfb : Few (ros b)) (hda : Held (ros a)) (hdb : Held (ros b)) :
    Calls Try.prog 32 #[.slice A na ca, .slice B nb cb] w fun e w' => ∃ v l', e = .returned v ∧ Ow w.heap.size w' v l' ∧ (∀ x ∈ l', Fr w.heap.size w' x) ∧ ros l' = ros a ++ ros b ∧ Below w.heap.size w w' := by
  subst hna
  subst hnb
  exact Join_any A B ca cb a b w hra hrb hca hcb hma hmb hfa hfb hda hdb

set_option maxRecDepth 100000 in
set_option maxHeartbeats 4000000 in
theorem refPut_any (A B : Option Addr) (ca cb : Nat) (l s : List Cw) (p at_ : Int) (w : World) (hr : Rr w w.heap.size A l) (hs : Rr w w.heap.size B s) (hc : l.length ≤ ca) (hcs : s.length ≤ cb) (hm : l.length + s.length ≤ 1000000) (hf : Few (ros l)) (hfs : Few (ros s)) (hdp : Deep (ros l)) :
    Calls Try.prog 29 #[.slice A l.length ca, .int .i64 p, .int .i64 at_, .slice B s.length cb] w fun e w' => ∃ v l', e = .returned (.tuple #[v, .int .i64 (refPut (ros l) p at_ (ros s)).1]) ∧ Ow w.heap.size w' v l' ∧ (∀ x ∈ l', Fr w.heap.size w' x) ∧ ros l' = (refPut (ros l) p at_ (ros s)).2 ∧ Below w.heap.size w w' := by
  by_cases hE : elemAt (ros l) p = false
  · rw [refPut, if_pos hE]
    have hp1 : ¬ p = -1 := fun e => by rw [e, elem_top] at hE; cases hE
    by_cases hin : 0 ≤ p ∧ p < l.length
    · obtain ⟨j, rfl⟩ := Int.eq_ofNat_of_zero_le hin.1
      have hj : j < l.length := by omega
      obtain ⟨b0, off0, y, rfl, hbl, hdy, hy, _, _⟩ := hr.at_ j hj
      have hk : (y.ro.kind == 0) = false := by
        have e : (ros l)[j]? = some y.ro := by rw [ros, List.getElem?_map, getElem_of_drop hdy]; rfl
        rw [elemAt, decide_eq_false hp1, decide_eq_true (by rw [len_ros]; exact hin), Int.toNat_natCast, e] at hE
        simpa using hE
      have hk2 : (y.ro.kind != 0) = true := by rw [bne, hk]; rfl
      have q1 : decide ((j : Int) < -1) = false := decide_eq_false (by omega)
      have q2 : decide ((l.length : Int) ≤ j) = false := decide_eq_false (by omega)
      have q2' : decide (l.length ≤ j) = false := decide_eq_false (by omega)
      obtain ⟨f0, f1, f2, f3, f4⟩ := range5 hy
      clear hE hdy hy f0 f2 f3 f4
      go_enter Try.func29, Try.ntmps29
      go_wp2
      go_ret2
      exact ⟨_, [], rfl, Ow.nil _ _, fun _ h => by simp at h, rfl, Below.refl _ _⟩
    · clear hE
      by_cases q : p < -1
      · have q1 : decide (p < -1) = true := decide_eq_true q
        go_enter Try.func29, Try.ntmps29
        go_wp2
        go_ret2
        exact ⟨_, [], rfl, Ow.nil _ _, fun _ h => by simp at h, rfl, Below.refl _ _⟩
      · have q1 : decide (p < -1) = false := decide_eq_false q
        have q2 : decide ((l.length : Int) ≤ p) = true := decide_eq_true (by omega)
        go_enter Try.func29, Try.ntmps29
        go_wp2
        go_ret2
        exact ⟨_, rfl, [], Ow.nil _ _, fun _ h => by simp at h, rfl, Below.refl _ _⟩
  · rw [refPut, if_neg hE]
    have hE1 : -1 ≤ p ∧ p < l.length := by
      rw [elemAt, len_ros] at hE
      by_cases h1 : p = -1
      · omega
      · by_cases h2 : 0 ≤ p ∧ p < l.length
        · omega
        · rw [decide_eq_false h1, decide_eq_false h2] at hE
          exact absurd rfl hE
    have hE2 : p = -1 ∨ ∃ j : Nat, p = j ∧ j < l.length ∧ ∀ y : Cw, l.drop j = y :: l.drop (j + 1) → (y.ro.kind == 0) = true := by
      by_cases h1 : p = -1
      · exact .inl h1
      · obtain ⟨j, rfl⟩ := Int.eq_ofNat_of_zero_le (show 0 ≤ p by omega)
        refine .inr ⟨j, rfl, by omega, fun y hdy => ?_⟩
        have e : (ros l)[j]? = some y.ro := by rw [ros, List.getElem?_map, getElem_of_drop hdy]; rfl
        rw [elemAt, decide_eq_false h1, decide_eq_true (by rw [len_ros]; omega), Int.toNat_natCast, e] at hE
        simpa using hE
    obtain ⟨D, hD⟩ : ∃ D, dep (ros l) p = D := ⟨_, rfl⟩
    have hD1 : -1 ≤ D ∧ D ≤ 1000000 := by
      rw [← hD]
      rcases hE2 with rfl | ⟨j, rfl, hj, _⟩
      · rw [dep_top]; omega
      · rw [dep_at (show (ros l)[j]? = some ((ros l)[j]'(by rw [len_ros]; exact hj)) from List.getElem?_eq_getElem (by rw [len_ros]; exact hj))]
        have := hdp _ (List.getElem_mem (show j < (ros l).length by rw [len_ros]; exact hj))
        omega
    obtain ⟨P, hP, hP1⟩ := place_in (ros l) p at_ hE1.1 (by rw [len_ros]; exact hE1.2)
    rw [len_ros] at hP1
    obtain ⟨K, hK⟩ : ∃ K, kids (ros l) p = K := ⟨_, rfl⟩
    obtain ⟨EE, hEE⟩ : ∃ EE, endOf (ros l) p = EE := ⟨_, rfl⟩
    have hEl := endOf_le (ros l) p (by rw [len_ros]; exact hE1.2)
    rw [hEE, len_ros] at hEl
    have hKl := kids_le (ros l) p
    rw [hK, len_ros] at hKl
    rw [placeAt, hK, hEE] at hP
    rw [putOut, placeAt, hK, hEE, hP, hD, Int.toNat_natCast]
    obtain ⟨b, hb⟩ : ∃ b, decide (0 ≤ at_ ∧ at_ ≤ K.length) = b := ⟨_, rfl⟩
    have hb2 : (if 0 ≤ at_ ∧ at_ < K.length then (((K[at_.toNat]?.getD 0 : Nat) : Int), true) else ((EE : Int), decide ((K.length : Int) = at_))).2 = b := by
      rw [← hb]
      split
      · exact (decide_eq_true (by omega)).symm
      · by_cases h : (K.length : Int) = at_
        · rw [decide_eq_true h, decide_eq_true (by omega)]
        · rw [decide_eq_false h, decide_eq_false (by omega)]
    rw [hb2]
    have hTop : p = -1 → D = -1 ∧ EE = l.length := fun e => by
      subst e
      refine ⟨by rw [← hD]; exact dep_top _, ?_⟩
      rw [← hEE, endOf, below_all hdp, len_ros]
      exact Nat.zero_add _
    have hEA : ∀ j : Nat, p = j → endAt (ros l) p = EE := fun j e => by
      subst e
      rw [endAt_yes (by omega) hE1.2, hEE]
    have hDA : ∀ j : Nat, p = j → ∀ y : Cw, l.drop j = y :: l.drop (j + 1) → y.ro.depth = D := fun j e y hdy => by
      subst e
      rw [← hD, dep_at (show (ros l)[j]? = some y.ro by rw [ros, List.getElem?_map, getElem_of_drop hdy]; rfl)]
    have hkids := refKids_any A ca l p w hr hc (by omega) hE1.1 hE1.2 hdp
    rw [hK] at hkids
    obtain ⟨OUT, hOUT⟩ : ∃ OUT, (ros l).take P ++ deeper (D + 1) (ros s) ++ (ros l).drop P = OUT := ⟨_, rfl⟩
    rw [hOUT]
    obtain ⟨R, hR⟩ : ∃ R, (if b = false then ((1 : Int), ([] : List Ro)) else if right (ros s) = false then (40, []) else if exceeds OUT 4096 60 = true then (2, []) else (0, OUT)) = R := ⟨_, rfl⟩
    rw [hR]
    have HRES := Lib.hid hR; have HKI := Lib.hid hkids; have HB := Lib.hid hb; have HOUT := Lib.hid hOUT; have HP := Lib.hid hP; have HTOP := Lib.hid hTop; have HEA := Lib.hid hEA; have HDA := Lib.hid hDA; have HE2 := Lib.hid hE2
    clear hkids hD hP hb hE hR hK hEE hb2 hOUT hTop hEA hDA hE2
    obtain ⟨hD1, hD2⟩ := hD1
    go_enter Try.func29, Try.ntmps29
    go_upto_region 1 with fail
    go_cut [33] (fun t wx => t = .bool false ∧ w = wx)
    case first =>
      rcases HE2.out with rfl | ⟨j, rfl, hj, hk⟩
      · have q2 : decide ((l.length : Int) ≤ -1) = false := decide_eq_false (by omega)
        go_wp2
        go_meet
        exact ⟨rfl, rfl⟩
      · obtain ⟨b0, off0, y, rfl, hbl, hdy, hy, _, _⟩ := hr.at_ j hj
        have hk := hk y hdy
        have hk2 : (y.ro.kind != 0) = false := by rw [bne, hk]; rfl
        have q1 : decide ((j : Int) < -1) = false := decide_eq_false (by omega)
        have q2 : decide ((l.length : Int) ≤ j) = false := decide_eq_false (by omega)
        have q2' : decide (l.length ≤ j) = false := decide_eq_false (by omega)
        obtain ⟨f0, f1, f2, f3, f4⟩ := range5 hy
        clear hdy hy f0 f2 f3 f4
        go_wp2
        go_meet
        exact ⟨rfl, rfl⟩
    case rest =>
      obtain ⟨rfl, rfl⟩ := hcut
      go_wp2_with fail
      refine HKI.out.mono ?_
      rintro e w1 ⟨v, rfl, hnw, hb1⟩
      obtain ⟨AK, cK, rfl, hcK, hmK, hrn⟩ := hnw.form
      have HRN := Lib.hid hrn; have HB1 := Lib.hid hb1
      have HR1 := Lib.hid ((hr.below hb1).more hb1.size); have HS1 := Lib.hid ((hs.below hb1).more hb1.size)
      clear hnw hrn hb1
      go_upto_if 40 with (fail)
      go_cut [11, 12] (fun t u wx => t = .int .i64 (D + 1) ∧ u = .int .i64 EE ∧ Below w1.heap.size w1 wx)
      case first =>
        rcases HE2.out with rfl | ⟨j, rfl, hj, hk⟩
        · obtain ⟨e1, e2⟩ := HTOP.out rfl
          subst e1; subst e2
          go_wp2
          go_meet
          exact ⟨rfl, rfl, Below.refl _ _⟩
        · obtain ⟨b0, off0, y, rfl, hbl, hdy, hy, _, _⟩ := HR1.out.at_ j hj
          have hyd := HDA.out j rfl y hdy
          obtain ⟨f0, f1, f2, f3, f4⟩ := range5 hy
          rw [hyd] at f0
          have e1 : IntKind.i64.wrap (D + 1) = D + 1 := IntWalk.i64_in _ (by omega)
          have hend := refEnd_any (some ⟨b0, off0, none⟩) ca l j w1 HR1.out hc (by omega)
          rw [HEA.out j rfl] at hend
          have HEND := Lib.hid hend
          clear hdy hy f1 f2 f3 f4 hend hyd
          go_wp2_with fail
          refine HEND.out.mono ?_
          rintro e w2 ⟨rfl, n, rfl⟩
          go_wp2
          go_meet
          exact ⟨rfl, rfl, below_dN (Below.refl _ w1) n⟩
      case rest =>
        obtain ⟨rfl, rfl, hb2⟩ := hcut
        have HB2 := Lib.hid (HB1.out.trans (hb2.mono HB1.out.size))
        have hRN := HRN.out.below hb2
        have hr2 := (hr.below HB2.out).more HB2.out.size
        have hs2 := (hs.below HB2.out).more HB2.out.size
        have hsz := hb2.size
        have HRN2 := Lib.hid hRN; have HR2 := Lib.hid hr2; have HS2 := Lib.hid hs2
        clear hb2 hRN hr2 hs2 HRN HKI HR1 HS1
        cases b with
        | false =>
          obtain rfl := (if_pos rfl).symm.trans HRES.out
          have hn := HB.out
          rw [decide_eq_false_iff_not] at hn
          by_cases h0 : at_ < 0
          · have q1 : decide (at_ < 0) = true := decide_eq_true h0
            go_wp2
            go_ret2
            exact ⟨_, rfl, [], Ow.nil _ _, fun _ h => by simp at h, rfl, HB2.out⟩
          · have q1 : decide (at_ < 0) = false := decide_eq_false h0
            have q2 : decide ((K.length : Int) < at_) = true := decide_eq_true (by omega)
            go_wp2
            go_ret2
            exact ⟨_, rfl, [], Ow.nil _ _, fun _ h => by simp at h, rfl, HB2.out⟩
        | true =>
          have hres := (if_neg (by decide)).symm.trans HRES.out
          have hn := HB.out
          rw [decide_eq_true_eq] at hn
          obtain ⟨h0, h1⟩ := hn
          have q1 : decide (at_ < 0) = false := decide_eq_false (by omega)
          have q2 : decide ((K.length : Int) < at_) = false := decide_eq_false (by omega)
          obtain ⟨r, hrt⟩ : ∃ r, right (ros s) = r := ⟨_, rfl⟩
          rw [hrt] at hres
          have hv := refRight_any B cb s wc HS2.out hcs (by omega)
          rw [hrt] at hv
          have HR := Lib.hid hrt; have HV := Lib.hid hv; have HRES2 := Lib.hid hres
          clear hrt hv HRES hres
          cases r with
          | false =>
            obtain rfl := (if_pos rfl).symm.trans HRES2.out
            go_wp2_with fail
            refine HV.out.mono ?_
            rintro e w3 ⟨rfl, hb3⟩
            go_wp2
            go_ret2
            exact ⟨_, rfl, [], Ow.nil _ _, fun _ h => by simp at h, rfl, HB2.out.trans (hb3.mono HB2.out.size)⟩
          | true =>
            have hres := (if_neg (by decide)).symm.trans HRES2.out
            have HRES := Lib.hid hres
            clear hres HRES2
            go_wp2_with fail
            refine HV.out.mono ?_
            rintro e w3 ⟨rfl, hb3⟩
            have HB3 := Lib.hid (HB2.out.trans (hb3.mono HB2.out.size))
            have hRN := HRN2.out.below hb3 hsz
            have HRN3 := Lib.hid hRN
            clear hb3 hRN
            go_upto_if 64 with (fail)
            go_cut [12] (fun t wx => t = .int .i64 P ∧ w3 = wx)
            case first =>
              have hp := HP.out
              obtain ⟨k, rfl⟩ := Int.eq_ofNat_of_zero_le h0
              by_cases hk : k < K.length
              · obtain ⟨bk, ok, x, rfl, _, hdx, hx⟩ := HRN3.out.at_ k hk
                rw [if_pos ⟨h0, by omega⟩, Int.toNat_natCast, getElem_of_drop hdx, Option.getD_some] at hp
                have e : x = P := Int.ofNat_inj.1 hp
                subst e
                have q3 : decide ((k : Int) < K.length) = true := decide_eq_true (by omega)
                have q4 : decide (k < K.length) = true := decide_eq_true hk
                clear hdx hp
                go_wp2
                go_meet
                exact ⟨rfl, rfl⟩
              · rw [if_neg (by omega)] at hp
                have e : EE = P := Int.ofNat_inj.1 hp
                subst e
                have q3 : decide ((k : Int) < K.length) = false := decide_eq_false (by omega)
                have q4 : decide (k < K.length) = false := decide_eq_false (by omega)
                go_wp2
                go_meet
                exact ⟨rfl, rfl⟩
            case rest =>
              obtain ⟨rfl, rfl⟩ := hcut
              have hge := right_ge _ _ HR.out
              have hle := right_le _ _ HR.out
              have hfit : Fits (D + 1) (ros s) := fun z hz => by
                have a1 := hge z hz
                have a2 := hle z hz
                rw [len_ros] at a2
                omega
              have hheld := hfit.held
              have hr3 := (hr.below HB3.out).more HB3.out.size
              have hmv := Moved_any B cb s (D + 1) w3.drew ((hs.below HB3.out).more HB3.out.size) hcs (by omega) hfs hfit
              have HMV := Lib.hid hmv; have HHELD := Lib.hid hheld; have HR3 := Lib.hid hr3
              have hPc : P ≤ ca := by omega
              clear hge hle hfit hheld hr3 hmv HS2 HR2
              go_upto_region 14 with fail
              go_cut [13] (fun t wx => ∃ l', Ow w.heap.size wx t l' ∧ (∀ x ∈ l', Fr w.heap.size wx x) ∧ ros l' = OUT ∧ Below w.heap.size w wx)
              case first =>
                have hpd := hr.rest P ca hP1 hc
                by_cases hcE : ca = P
                · rw [if_pos hcE] at hpd
                  have HPD := Lib.hid hpd
                  have hcE2 := hcE.symm
                  clear hpd hcE
                  subst hcE2
                  have hHL := hdp.held
                  have h1P : (l.take P).length = P := by rw [List.length_take]; omega
                  have h2P : (l.drop P).length = l.length - P := List.length_drop
                  have hfT : Few (ros (l.take P)) := by rw [← ros_take]; exact hf.take P
                  have hfD : Few (ros (l.drop P)) := by rw [← ros_drop]; exact hf.drop P
                  have hhT : Held (ros (l.take P)) := by rw [← ros_take]; exact hHL.take P
                  have hhD : Held (ros (l.drop P)) := by rw [← ros_drop]; exact hHL.drop P
                  have H1P := Lib.hid h1P; have H2P := Lib.hid h2P; have HFT := Lib.hid hfT; have HFD := Lib.hid hfD; have HHT := Lib.hid hhT; have HHD := Lib.hid hhD
                  clear h1P h2P hfT hfD hhT hhD hHL
                  go_region_with (first
                    | (go_at_call 32; refine (Join_len A2 A c2 0 l2.length 0 l2 (l.drop P) w5 rfl (by have := H2P.out; omega) HRR2.out ((HPD.out.below HB5.out).more HB5.out.size) hc2 (by omega) (by rw [← len_ros, HROS2.out, List.length_append, HROS1.out, len_deeper, len_ros, len_ros, H1P.out]; omega) (by omega) (by rw [HROS2.out, HROS1.out]; exact HFT.out.append (hfs.deeper _)) HFD.out (by rw [HROS2.out, HROS1.out]; exact HHT.out.append HHELD.out) HHD.out).mono ?_; rintro e w6 ⟨v3, l3, rfl, ho3, hfr3, hros3, hb3⟩)
                    | (go_at_call 32; refine (Join_len A A1 P c1 P l1.length (l.take P) l1 w4 H1P.out rfl ((hr.take P |>.below HB4.out).more HB4.out.size) HRR1.out hPc hc1 (by omega) (by rw [← len_ros, HROS1.out, len_deeper, len_ros]; omega) HFT.out (by rw [HROS1.out]; exact hfs.deeper _) HHT.out (by rw [HROS1.out]; exact HHELD.out)).mono ?_; rintro e w5 ⟨v2, l2, rfl, ho2, hfr2, hros2, hb2⟩; obtain ⟨A2, c2, rfl, hc2, _, _, hR2⟩ := ho2.form; have HO2 := Lib.hid ho2; have HFR2 := Lib.hid hfr2; have HROS2 := Lib.hid hros2; have HB5 := Lib.hid (HB4.out.trans (hb2.mono HB4.out.size)); have HRR2 := Lib.hid hR2; clear ho2 hfr2 hros2 hb2 hR2)
                    | (go_at_call 17; refine HMV.out.mono ?_; rintro e w4 ⟨v1, l1, rfl, ho1, hfr1, hros1, hb1⟩; obtain ⟨A1, c1, rfl, hc1, _, _, hR1⟩ := ho1.form; have HO1 := Lib.hid ho1; have HFR1 := Lib.hid hfr1; have HROS1 := Lib.hid hros1; have HB4 := Lib.hid (HB3.out.trans (below_trick hb1 HB3.out.size)); have HRR1 := Lib.hid hR1; clear ho1 hfr1 hros1 hb1 hR1))
                  go_wp2_with fail
                  go_meet
                  exact ⟨l3, ho3.mono HB5.out.size (fun x hx => ((hfr3 x hx).mono HB5.out.size).ap), fun x hx => (hfr3 x hx).mono HB5.out.size, by rw [hros3, HROS2.out, HROS1.out, ← ros_take, ← ros_drop]; exact HOUT.out, HB5.out.trans (hb3.mono HB5.out.size)⟩
                · rw [if_neg hcE] at hpd
                  have HPD := Lib.hid hpd
                  clear hpd
                  have hHL := hdp.held
                  have h1P : (l.take P).length = P := by rw [List.length_take]; omega
                  have h2P : (l.drop P).length = l.length - P := List.length_drop
                  have hfT : Few (ros (l.take P)) := by rw [← ros_take]; exact hf.take P
                  have hfD : Few (ros (l.drop P)) := by rw [← ros_drop]; exact hf.drop P
                  have hhT : Held (ros (l.take P)) := by rw [← ros_take]; exact hHL.take P
                  have hhD : Held (ros (l.drop P)) := by rw [← ros_drop]; exact hHL.drop P
                  have H1P := Lib.hid h1P; have H2P := Lib.hid h2P; have HFT := Lib.hid hfT; have HFD := Lib.hid hfD; have HHT := Lib.hid hhT; have HHD := Lib.hid hhD
                  clear h1P h2P hfT hfD hhT hhD hHL
                  go_region_with (first
                    | (go_at_call 32; refine (Join_len A2 (Option.map (fun x => x.add (P * 5)) A) c2 (ca - P) l2.length (l.length - P) l2 (l.drop P) w5 rfl H2P.out HRR2.out ((HPD.out.below HB5.out).more HB5.out.size) hc2 (by omega) (by rw [← len_ros, HROS2.out, List.length_append, HROS1.out, len_deeper, len_ros, len_ros, H1P.out]; omega) (by omega) (by rw [HROS2.out, HROS1.out]; exact HFT.out.append (hfs.deeper _)) HFD.out (by rw [HROS2.out, HROS1.out]; exact HHT.out.append HHELD.out) HHD.out).mono ?_; rintro e w6 ⟨v3, l3, rfl, ho3, hfr3, hros3, hb3⟩)
                    | (go_at_call 32; refine (Join_len A A1 ca c1 P l1.length (l.take P) l1 w4 H1P.out rfl ((hr.take P |>.below HB4.out).more HB4.out.size) HRR1.out hPc hc1 (by omega) (by rw [← len_ros, HROS1.out, len_deeper, len_ros]; omega) HFT.out (by rw [HROS1.out]; exact hfs.deeper _) HHT.out (by rw [HROS1.out]; exact HHELD.out)).mono ?_; rintro e w5 ⟨v2, l2, rfl, ho2, hfr2, hros2, hb2⟩; obtain ⟨A2, c2, rfl, hc2, _, _, hR2⟩ := ho2.form; have HO2 := Lib.hid ho2; have HFR2 := Lib.hid hfr2; have HROS2 := Lib.hid hros2; have HB5 := Lib.hid (HB4.out.trans (hb2.mono HB4.out.size)); have HRR2 := Lib.hid hR2; clear ho2 hfr2 hros2 hb2 hR2)
                    | (go_at_call 17; refine HMV.out.mono ?_; rintro e w4 ⟨v1, l1, rfl, ho1, hfr1, hros1, hb1⟩; obtain ⟨A1, c1, rfl, hc1, _, _, hR1⟩ := ho1.form; have HO1 := Lib.hid ho1; have HFR1 := Lib.hid hfr1; have HROS1 := Lib.hid hros1; have HB4 := Lib.hid (HB3.out.trans (below_trick hb1 HB3.out.size)); have HRR1 := Lib.hid hR1; clear ho1 hfr1 hros1 hb1 hR1))
                  go_wp2_with fail
                  go_meet
                  exact ⟨l3, ho3.mono HB5.out.size (fun x hx => ((hfr3 x hx).mono HB5.out.size).ap), fun x hx => (hfr3 x hx).mono HB5.out.size, by rw [hros3, HROS2.out, HROS1.out, ← ros_take, ← ros_drop]; exact HOUT.out, HB5.out.trans (hb3.mono HB5.out.size)⟩
              case rest =>
                obtain ⟨l1, ho1, hfr1, hros1, hb1⟩ := hcut
                obtain ⟨A1, c1, rfl, hc1, _, _, hR1⟩ := ho1.form
                have hl1 : l1.length ≤ 1000000 := by
                  have h1 := congrArg List.length hros1
                  rw [← HOUT.out, List.length_append, List.length_append, len_deeper, List.length_take, List.length_drop, len_ros, len_ros, len_ros] at h1
                  omega
                have hbig := big_any A1 c1 l1 wc hR1 hc1 hl1
                rw [hros1] at hbig
                obtain ⟨x, hx⟩ : ∃ x, exceeds OUT 4096 60 = x := ⟨_, rfl⟩
                have hres := HRES.out
                rw [hx] at hbig hres
                have HO1 := Lib.hid ho1; have HFR1 := Lib.hid hfr1; have HROS1 := Lib.hid hros1; have HB5 := Lib.hid hb1; have HBIG := Lib.hid hbig; have HRES3 := Lib.hid hres
                clear ho1 hfr1 hros1 hb1 hbig hx hres HRES hR1
                go_wp2_with fail
                refine HBIG.out.mono ?_
                rintro e w6 ⟨rfl, rfl⟩
                cases x with
                | true =>
                  obtain rfl := (if_pos rfl).symm.trans HRES3.out
                  go_wp2
                  go_ret2
                  exact ⟨_, rfl, [], Ow.nil _ _, fun _ h => by simp at h, rfl, HB5.out⟩
                | false =>
                  obtain rfl := (if_neg (by decide)).symm.trans HRES3.out
                  go_wp2
                  go_ret2
                  exact ⟨_, rfl, l1, HO1.out, HFR1.out, HROS1.out, HB5.out⟩

end Go.Proofs.Ytblefklfgaohfaa.Ro
