/-
  Walks of stage 8: the reference's Within, walked.
  Walks of stage 8: the reference's Inside.
  Stage 8's law WriteRows: it returns true.
  Stage 8's law WriteParts: it returns true.
-/
import Derived.Test.YtenmlpfjeohkiaaCk06
import Derived.Deep.CutBlock
import Derived.Deep.DeepCutAuto
import Derived.Test.YtenmlpfjeohkiaaCk05
namespace Go.Proofs.Ytenmlpfjeohkiaa.Wr
set_option maxRecDepth 100000
set_option linter.unusedSimpArgs false
set_option linter.unusedVariables false
open Go.RowKit Ba Fm Fo Nm Wm
open Ro (At Ro Cw ros rowO rowV below_new range2 range5 cells Forest kidsFrom kids kidsAt more Rv Nw Rn)
open To (Kb bulk_at)
open Tm (bulkA)
open Bu (refHas1)
open Re (write_true write_false)
open Rm (dec esc)
theorem kinds_ok {x : Ro} (h : Ro.okRow x = true) : x.kind = 0 ∨ x.kind = 1 ∨ x.kind = 2 := by
  unfold Ro.okRow at h
  by_cases h0 : x.kind = 0
  · exact .inl h0
  · rw [if_neg (by simpa using h0)] at h
    simp only [Bool.and_eq_true, Bool.or_eq_true, beq_iff_eq] at h
    exact .inr h.1.1
theorem holds_no' {x : Ro} (h : x.kind ≠ 0) : holds x = false := by
  unfold holds
  rw [beq_eq_false_iff_ne.2 h, Bool.false_and]
theorem below_drewW {w w' : World} (h : Below w.drew.heap.size w.drew w') : Below w.heap.size w w' := ⟨h.os, h.tape, h.output, h.size, h.block⟩
theorem int_at {l : List Nat} {j t : Nat} (h : j < l.length) (e : l[j] = t) {w : World} {b off : Nat} (hc : ∀ i (h : i < l.length), w.cell? ⟨b, off + i, none⟩ = some (.int .i64 (l[i] : Nat))) : w.cell? ⟨b, off + j, none⟩ = some (.int .i64 (t : Nat)) := by rw [hc j h, e]

set_option maxRecDepth 100000 in
set_option maxHeartbeats 4000000 in
theorem refWithin_step (n : Nat) (A : Option Addr) (c : Nat) (l : List Cw) (hc : l.length ≤ c) (hm : c ≤ maxLen) (hl : l.length ≤ 1000) (hh : Ro.Held (ros l)) (hr : Ro.right (ros l) = true) (hrb : ∀ x ∈ l, rb x.ro ≤ 10000000)
    (ih : ∀ (i : Int) (w : World), Ro.Rr w w.heap.size A l → -1 ≤ i → i < l.length → (Ro.below (ros l) i).length < n → (Wm.wr (rawOf (ros l) i) (Ro.below (ros l) i)).length ≤ 10000000000 →
      Calls Try.prog 10 #[.slice A l.length c, .int .i64 i] w fun e w' => e = .returned (.string (B (Wm.wr (rawOf (ros l) i) (Ro.below (ros l) i)))) ∧ Below w.heap.size w w')
    (i : Int) (w : World) (hrr : Ro.Rr w w.heap.size A l) (h1 : -1 ≤ i) (h2 : i < l.length) (hn : (Ro.below (ros l) i).length < n + 1) (hz : (Wm.wr (rawOf (ros l) i) (Ro.below (ros l) i)).length ≤ 10000000000) :
    Calls Try.prog 10 #[.slice A l.length c, .int .i64 i] w fun e w' => e = .returned (.string (B (Wm.wr (rawOf (ros l) i) (Ro.below (ros l) i)))) ∧ Below w.heap.size w w' := by
  have IH := Lib.hid ih; have HRB := Lib.hid hrb; have HRR := Lib.hid hrr; have HR := Lib.hid hr; have HH := Lib.hid hh
  have HN := Lib.hid hn; have HZ := Lib.hid hz
  clear ih hrb hrr hr hh hn hz
  obtain ⟨raw, hraw⟩ : ∃ raw, rawOf (ros l) i = raw := ⟨_, rfl⟩
  have HRAW := Lib.hid hraw
  rw [hraw]
  clear hraw
  go_enter Try.func10, Try.ntmps10
  go_wp2_with fail
  refine (Ro.refKids1 (.slice A l.length c) l i w _ ⟨A, c, rfl, hc, hm, HRR.out, HH.out⟩ hl HR.out rfl).mono ?_
  rintro e w1 ⟨v1, rfl, hnw, hb1⟩
  have hka : kidsAt (ros l) i = kids (ros l) i := by unfold kidsAt; rw [if_pos ⟨h1, by rw [Ro.len_ros]; exact h2⟩]
  rw [hka] at hnw
  obtain ⟨ks, hks⟩ : ∃ ks, kids (ros l) i = ks := ⟨_, rfl⟩
  rw [hks] at hnw
  obtain ⟨K, ck, rfl, hkc, hkm, hrn⟩ := hnw.form
  have hkn : ks.length ≤ 9223372036854775807 := by unfold maxLen at hkm; omega
  have HKS := Lib.hid hks; have HB1 := Lib.hid hb1; have HRN := Lib.hid hrn
  clear hka hks hb1 hnw hrn
  go_upto_region 3 with (fail)
  go_cut [7] from 13 to 23 (fun s7 wx => s7 = .bool raw ∧ Below w1.heap.size w1 wx)
  case first =>
    by_cases h0 : 0 ≤ i
    · obtain ⟨k, rfl⟩ : ∃ k : Nat, i = (k : Int) := ⟨i.toNat, by omega⟩
      have hk : k < l.length := by omega
      obtain ⟨b, off, x, rfl, hb, hdx, hx, hxa, hxm⟩ := Ro.Rr.at_ (HRR.out.below HB1.out) k hk
      have hrw : isIn x.ro.name rawL = raw := by
        rw [← HRAW.out]
        unfold rawOf
        rw [decide_eq_true h0, Bool.true_and, Int.toNat_natCast, ros_get hdx]
      obtain ⟨x0, x1, x2, x3, x4⟩ := range5 hx
      have HX2 := Lib.hid x2; have HW := Lib.hid hrw
      have hbw : b < w1.heap.size := Nat.lt_of_lt_of_le hb HB1.out.size
      have hlt : decide ((0 : Int) ≤ (k : Int)) = true := decide_eq_true h0
      clear hrw hdx hx hxa hxm x0 x1 x3 x4 hb
      go_region_held3 (fun w' => w'.cell? ⟨b, off + k * 5 + 2, none⟩ = some (.string x.ro.name)) (first | exact e2 | exact d2 | exact HX2.out | go_keep) (first
        | (go_at_call 20; refine (refHas1 _ rawL _ _ (sv_own HS2.out) (by decide) raw HW.out).mono ?_; rintro e w4 ⟨rfl, rfl⟩)
        | (go_at_call 21; refine (Na.refRaw_any _).mono ?_; rintro e w3 ⟨v3, rfl, s3, b3⟩; have d2 := (b3.cell (p := ⟨b, off + k * 5 + 2, none⟩) hbw).trans HX2.out; have HS2 := Lib.hid s3; have HB3 := Lib.hid b3; clear s3 b3))
      all_goals (go_wp2; go_meet; exact ⟨rfl, by first | exact HB3.out | exact below_drewW HB3.out | exact ⟨HB3.out.os, HB3.out.tape, HB3.out.output, HB3.out.size, HB3.out.block⟩⟩)
    · have hf : decide ((0 : Int) ≤ i) = false := decide_eq_false h0
      have hrw : raw = false := by
        rw [← HRAW.out]
        unfold rawOf
        rw [hf, Bool.false_and]
      subst hrw
      go_quiet (fail)
      go_wp2
      go_meet
      exact ⟨rfl, below_dN (Below.refl _ _) _⟩
  case rest =>
    obtain ⟨rfl, hb2⟩ := hcut
    obtain ⟨D, hD⟩ : ∃ D, Ro.dep (ros l) i = D := ⟨_, rfl⟩
    obtain ⟨s, hs⟩ : ∃ s, (i + 1).toNat = s := ⟨_, rfl⟩
    have hbr : Ro.below (ros l) i = rest (ros l) D s := by rw [below_rest, hD, hs]
    have hfo := Ro.below_forest HR.out (by rw [Ro.len_ros]; exact hl) i h1 (by rw [Ro.len_ros]; exact h2)
    rw [hD, hbr] at hfo
    have hks : ks = kidsFrom (D + 1) s (rest (ros l) D s) := by rw [← HKS.out]; unfold kids; rw [hD, hbr, hs]
    have hw0 : WL (ros l) D s raw ks 0 s ⟨#[]⟩ := ⟨Nat.zero_le _, by rw [List.drop_zero]; exact hks, hfo, rfl, Nat.le_refl _, rfl⟩
    have hbw : Below w.heap.size w wc := bt HB1.out hb2
    have HBR := Lib.hid hbr
    have hn' := HN.out; have hz' := HZ.out
    rw [HRAW.out, hbr] at hz'
    rw [hbr] at hn'
    have HW0 := Lib.hid hw0; have HBW := Lib.hid hbw; have HN1 := Lib.hid hn'; have HZ1 := Lib.hid hz'
    clear hD hs hbr hfo hks hw0 hbw hn' hz' HN HZ
    have HB2 := Lib.hid hb2
    clear hb2
    go_wp2
    go_loopw [5, 8] (fun v5 v8 wr => ∃ j t u, v5 = .string u ∧ v8 = .int .i64 ((j : Nat) : Int) ∧ WL (ros l) D s raw ks j t u ∧ Below wc.heap.size wc wr) (fun _ v8 _ => ks.length - (intOf v8).toNat)
    case atStart => exact ⟨0, s, _, rfl, rfl, HW0.out, Below.refl _ _⟩
    case round =>
      obtain ⟨j, t, u, rfl, rfl, hwl, hbl⟩ := hrel
      by_cases hj : j < ks.length
      · obtain ⟨y0, hy0, hyd, hkt, hlt, hzz, hnext⟩ := hwl.go hj
        have htl : t < l.length := by have := (List.getElem?_eq_some_iff.1 hy0).1; rwa [Ro.len_ros] at this
        have hbr := bt HB2.out hbl
        obtain ⟨b, off, y, rfl, hb, hdx, hx, hxa, hxm⟩ := Ro.Rr.at_ (HRR.out.below (bt HBW.out hbl)) t htl
        have hyy : y.ro = y0 := by
          have := ros_get hdx
          rw [hy0] at this
          injection this with this
          exact this.symm
        subst hyy
        obtain ⟨kb, ko, rfl, hkb, hkc'⟩ := HRN.out (by omega)
        have hkcell := int_at hj hkt fun i hi => (hbr.cell (p := ⟨kb, ko + i, none⟩) hkb).trans (hkc' i hi)
        have hkl := hwl.le
        have hrbx := HRB.out y hxm
        have hok : Ro.okRow y.ro = true := Ro.right_ok _ 0 HR.out _ (List.mem_of_getElem? hy0)
        have hkinds := kinds_ok hok
        have hki : (0 : Int) ≤ (t : Int) := by omega
        have hki2 : (t : Int) < (l.length : Int) := by omega
        have hjd : decide (j < ks.length) = true := decide_eq_true hj
        have hus : (L u).length ≤ 10000000000 := by have := HZ1.out; omega
        rw [size_L] at hus
        have hads : (L u).length + (adds (ros l) raw y.ro t).length ≤ 10000000000 := by have := HZ1.out; omega
        have HNX := Lib.hid hnext; have HADS := Lib.hid hads; have HLT := Lib.hid hlt; have HBL := Lib.hid hbl; have HXA := Lib.hid hxa; have HY0 := Lib.hid hy0; have HYD := Lib.hid hyd
        have HKC := Lib.hid hkcell
        have hkbw : kb < wr.heap.size := Nat.lt_of_lt_of_le hkb hbr.size
        have hNw : w.heap.size ≤ wr.heap.size := Nat.le_trans HBW.out.size hbl.size
        clear hnext hads hlt hbl hxa hy0 hyd hkt hzz hwl hbr hb hdx hxm hkb hkc' hok
        go_upto_region 8 with (refine wpList_load_mid rfl 35 (.tmp 35) rfl b (off + t * 5) rfl _ _ hx Try.underlying35 rfl Ro.size_row ?_)
        clear hkcell
        obtain ⟨W1, hW1⟩ : ∃ W1, wr.alloc (rowO y) = W1 := ⟨_, rfl⟩
        have hrb1 : Rb W1 wr.heap.size y := by rw [← hW1]; exact Rb.new wr y
        have hbl1 : Below wr.heap.size wr W1 := by rw [← hW1]; exact below_new wr _
        rw [hW1]
        obtain ⟨g, hg⟩ : ∃ g, wr.heap.size = g := ⟨_, rfl⟩
        rw [hg] at hrb1 ⊢
        have hkc1 : W1.cell? ⟨kb, ko + j, none⟩ = some (.int .i64 (t : Nat)) := (hbl1.cell (p := ⟨kb, ko + j, none⟩) hkbw).trans HKC.out
        obtain ⟨c0, c1, c2, c3, c4⟩ := hrb1.c
        have hxa1 : Ro.Att W1 w.heap.size y := HXA.out.below (hbl1.mono hNw)
        have hbc1 : Below wc.heap.size wc W1 := bt HBL.out hbl1
        have hkb1 : kb < W1.heap.size := Nat.lt_of_lt_of_le hkbw hbl1.size
        have hN1 : w.heap.size ≤ W1.heap.size := Nat.le_trans hNw hbl1.size
        have hg1 : g < W1.heap.size := hrb1.lt
        have HRB1 := Lib.hid hrb1; have HKC1 := Lib.hid hkc1; have HXA1 := Lib.hid hxa1; have HBC1 := Lib.hid hbc1
        clear hW1 hrb1 hbl1 hg hx hkc1 hxa1 hbc1 hkbw hNw
        have hds : y.ro.data.size ≤ 10000000 := by unfold rb at hrbx; omega
        have hns : y.ro.name.size ≤ 10000000 := by unfold rb at hrbx; omega
        rcases hkinds with hk | hk | hk
        · have g1 : (y.ro.kind == 1) = false := beq_eq_false_iff_ne.2 (by omega)
          have g2 : (y.ro.kind == 2) = false := beq_eq_false_iff_ne.2 (by omega)
          obtain ⟨v, hv⟩ : ∃ v, isIn y.ro.name voidL = v := ⟨_, rfl⟩
          have hhv : holds y.ro = !v := by unfold holds; rw [hk, hv]; rfl
          have hnd : node raw y.ro = tagW y.ro := by unfold node; rw [if_pos hk]
          have HV := Lib.hid hv; have HHV := Lib.hid hhv; have HND := Lib.hid hnd
          have HC2 := Lib.hid c2
          clear hk hv hhv hnd
          go_upto_region 14 with (fail)
          go_region_held3 (fun w' => w'.cell? ⟨g, 2, none⟩ = some (.string y.ro.name)) (first | exact d2 | exact HC2.out | go_keep) (first
            | (go_at_call 20; refine (refHas1 _ voidL _ _ (sv_own HS3.out) (by decide) v HV.out).mono ?_; rintro e w4 ⟨rfl, rfl⟩)
            | (go_at_call 23; refine (Na.refVoid_any W1.drew).mono ?_; rintro e w3 ⟨v3, rfl, s3, b3⟩; have d2 := (b3.cell (p := ⟨g, 2, none⟩) hg1).trans HC2.out; have HS3 := Lib.hid s3; have HB3 := Lib.hid (below_drewW b3); clear s3 b3))
          have hrb3 := rb_below HRB1.out HB3.out
          obtain ⟨e0, e1, e2', e3, e4⟩ := hrb3.c
          have HE2 := Lib.hid e2'
          have hkc3 := (HB3.out.cell (p := ⟨kb, ko + j, none⟩) hkb1).trans HKC1.out
          have hxa3 : Ro.Att w3 w.heap.size y := HXA1.out.below (HB3.out.mono hN1)
          have hN3 : w.heap.size ≤ w3.heap.size := Nat.le_trans hN1 HB3.out.size
          have HXA3 := Lib.hid hxa3; have HKC3 := Lib.hid hkc3; have HRB3 := Lib.hid hrb3
          clear c0 c1 c2 c3 c4 hrb3 hkc3 hxa3 d2 HC2 HS3
          cases v with
          | true =>
            have hA : adds (ros l) raw y.ro t = tagW y.ro := by unfold adds; rw [HHV.out, HND.out, if_neg (by simp), List.append_nil]
            have HA := Lib.hid hA
            have hts : (tagW y.ro).length ≤ 10000000000 := by have := HADS.out; rw [hA] at this; omega
            rw [← size_B] at hts
            clear hA
            go_wp2_with fail
            refine (refTag_any y w.heap.size w3 HXA3.out hN3 hrbx).mono ?_
            rintro e w4 ⟨rfl, hb4⟩
            have HB4 := Lib.hid hb4
            clear hb4 e0 e1 e2' e3 e4
            go_wp2
            go_roundw
            case rel => exact ⟨j + 1, _, _, rfl, by go_num, HNX.out _ (by rw [HA.out, L_append, L_B]), bt HBC1.out (bt HB3.out HB4.out)⟩
            case measure => simp [intOf]; omega
          | false =>
            have hra : rawOf (ros l) (t : Int) = isIn y.ro.name rawL := by
              unfold rawOf
              rw [decide_eq_true hki, Bool.true_and, Int.toNat_natCast, HY0.out]
            have hbe : Ro.below (ros l) (t : Int) = rest (ros l) y.ro.depth (t + 1) := by
              rw [below_rest, Ro.dep_at HY0.out, show ((t : Int) + 1).toNat = t + 1 by omega]
            have hA : adds (ros l) raw y.ro t = tagW y.ro ++ (Wm.wr (isIn y.ro.name rawL) (rest (ros l) y.ro.depth (t + 1)) ++ endW y.ro) := by unfold adds; rw [HHV.out, HND.out, if_pos (by rfl)]
            have hsz := HADS.out
            rw [hA] at hsz
            unfold endW at hsz
            simp only [List.length_append, List.length_cons, List.length_nil] at hsz
            have hin : ∀ W, Below w3.heap.size w3 W → Calls Try.prog 10 #[.slice (some ⟨b, off, none⟩) l.length c, .int .i64 (t : Int)] W fun e w' => e = .returned (.string (B (Wm.wr (isIn y.ro.name rawL) (rest (ros l) y.ro.depth (t + 1))))) ∧ Below W.heap.size W w' := fun W hW => by
              have h := IH.out (t : Int) W ((HRR.out.below (bt HBW.out (bt HBC1.out (bt HB3.out hW)))).more (Nat.le_trans hN3 hW.size)) (by omega) hki2 (by rw [hbe]; have e1 := HLT.out; have e2 := HN1.out; omega) (by rw [hbe, hra]; omega)
              rw [hbe, hra] at h
              exact h
            have htg : ∀ W, Below w3.heap.size w3 W → Calls Try.prog 24 #[rowV y] W fun e w' => e = .returned (.string (B (tagW y.ro))) ∧ Below W.heap.size W w' := fun W hW =>
              refTag_any y w.heap.size W (HXA3.out.below (hW.mono hN3)) (Nat.le_trans hN3 hW.size) hrbx
            obtain ⟨IN, hIN⟩ : ∃ IN, B (Wm.wr (isIn y.ro.name rawL) (rest (ros l) y.ro.depth (t + 1))) = IN := ⟨_, rfl⟩
            obtain ⟨TG, hTG⟩ : ∃ TG, B (tagW y.ro) = TG := ⟨_, rfl⟩
            have hLA : adds (ros l) raw y.ro t = L TG ++ (L IN ++ ([60, 47] ++ L y.ro.name ++ [62])) := by
              rw [hA, ← hIN, ← hTG, L_B, L_B]; rfl
            have hz1 : TG.size + (IN.size + (2 + y.ro.name.size + 1)) + u.size ≤ 10000000000 := by
              have e1 := congrArg ByteArray.size hIN
              have e2 := congrArg ByteArray.size hTG
              rw [size_B] at e1 e2
              rw [size_L, size_L] at hsz
              omega
            rw [hIN] at hin
            rw [hTG] at htg
            have s1 : ¬ 9223372036854775807 < TG.size + IN.size := by omega
            have s2 : ¬ 9223372036854775807 < TG.size + IN.size + 2 := by omega
            have s3 : ¬ 9223372036854775807 < TG.size + IN.size + 2 + y.ro.name.size := by omega
            have s4 : ¬ 9223372036854775807 < TG.size + IN.size + 2 + y.ro.name.size + 1 := by omega
            have s5 : ¬ 9223372036854775807 < u.size + (TG.size + IN.size + 2 + y.ro.name.size + 1) := by omega
            have hd3 : Below w3.heap.size w3 w3.drew := (Below.refl _ _).drew
            have hkb3 : kb < w3.heap.size := Nat.lt_of_lt_of_le hkb1 HB3.out.size
            have HIN := Lib.hid hin; have HTG := Lib.hid htg; have HLA := Lib.hid hLA; have HD3 := Lib.hid hd3
            have HE0 := Lib.hid e0; have HE1 := Lib.hid e1; have HE3 := Lib.hid e3; have HE4 := Lib.hid e4
            clear hin htg hLA hd3 hra hbe hA hsz hIN hTG e0 e1 e2' e3 e4
            go_upto_region 16 with (fail)
            go_region_held3 (fun w' => w'.cell? ⟨kb, ko + j, none⟩ = some (.int .i64 (t : Nat)) ∧ w'.cell? ⟨g, 0, none⟩ = some (.int .i64 y.ro.depth) ∧ w'.cell? ⟨g, 1, none⟩ = some (.int .i64 y.ro.kind) ∧ w'.cell? ⟨g, 2, none⟩ = some (.string y.ro.name) ∧ w'.cell? ⟨g, 3, none⟩ = some (.string y.ro.data) ∧ w'.cell? ⟨g, 4, none⟩ = some (.slice y.A y.ro.attrs.length y.c)) (first | exact ⟨r6, b6c⟩ | exact ⟨r5, b5c⟩ | exact ⟨HKC3.out, HE0.out, HE1.out, HE2.out, HE3.out, HE4.out⟩ | go_keep) (first
              | (go_at_call 10; refine (HIN.out w5 HB5.out).mono ?_; rintro e w6 ⟨rfl, hb6⟩; have r6 := (hb6.cell (p := ⟨kb, ko + j, none⟩) hkb5).trans r5; have b6c := (rb_below HRB5.out hb6).c; have HB6 := Lib.hid hb6; clear hb6)
              | (go_at_call 24; refine (HTG.out w5 HB5.out).mono ?_; rintro e w6 ⟨rfl, hb6⟩; have r6 := (hb6.cell (p := ⟨kb, ko + j, none⟩) hkb5).trans r5; have b6c := (rb_below HRB5.out hb6).c; have HB6 := Lib.hid hb6; clear hb6)
              | (go_at_call 24; refine (HTG.out w3.drew HD3.out).mono ?_; rintro e w5 ⟨rfl, hb5⟩; have HB5 := Lib.hid (below_drewW hb5); have r5 := (HB5.out.cell (p := ⟨kb, ko + j, none⟩) hkb3).trans HKC3.out; have hkb5 := Nat.lt_of_lt_of_le hkb3 HB5.out.size; have HRB5 := Lib.hid (rb_below HRB3.out HB5.out); have b5c := HRB5.out.c; clear hb5)
              | (go_at_call 10; refine (HIN.out w3.drew HD3.out).mono ?_; rintro e w5 ⟨rfl, hb5⟩; have HB5 := Lib.hid (below_drewW hb5); have r5 := (HB5.out.cell (p := ⟨kb, ko + j, none⟩) hkb3).trans HKC3.out; have hkb5 := Nat.lt_of_lt_of_le hkb3 HB5.out.size; have HRB5 := Lib.hid (rb_below HRB3.out HB5.out); have b5c := HRB5.out.c; clear hb5))
            all_goals go_wp2
            all_goals go_roundw
            all_goals try (simp only [intOf]; omega)
            all_goals exact ⟨j + 1, _, _, rfl, by go_num, HNX.out _ (by rw [HLA.out]; simp only [L_append, List.append_assoc]), bt HBC1.out (bt HB3.out (bt HB5.out HB6.out))⟩
        · have g1 : (y.ro.kind == 1) = true := beq_iff_eq.2 hk
          have hhf : holds y.ro = false := holds_no' (by rw [hk]; decide)
          cases raw with
          | true =>
            have hA : adds (ros l) true y.ro t = L y.ro.data := by unfold adds node; rw [hhf, if_neg (by rw [hk]; decide), if_pos hk, if_pos rfl, if_neg (by simp), List.append_nil]
            have HA := Lib.hid hA
            clear hk hhf hA
            go_wp2
            go_roundw
            case rel => exact ⟨j + 1, _, _, rfl, by go_num, HNX.out _ (by rw [HA.out, L_append]), HBC1.out⟩
            case measure => simp [intOf]; omega
          | false =>
            have hA : adds (ros l) false y.ro t = esc false (L y.ro.data) := by unfold adds node; rw [hhf, if_neg (by rw [hk]; decide), if_pos hk, if_neg (by simp), if_neg (by simp), List.append_nil]
            have HA := Lib.hid hA
            clear hk hhf hA
            go_wp2_with fail
            refine (write_false y.ro.data W1 hds).mono ?_
            rintro e w4 ⟨rfl, hb4⟩
            have HB4 := Lib.hid hb4
            clear hb4 c0 c1 c2 c3 c4
            have hel := (Rm.len_esc false (L y.ro.data)).2.1
            rw [size_L, ← size_B] at hel
            go_wp2
            go_roundw
            case rel => exact ⟨j + 1, _, _, rfl, by go_num, HNX.out _ (by rw [HA.out, L_append, L_B]), bt HBC1.out HB4.out⟩
            case measure => simp [intOf]; omega
        · have g1 : (y.ro.kind == 1) = false := beq_eq_false_iff_ne.2 (by omega)
          have g2 : (y.ro.kind == 2) = true := beq_iff_eq.2 hk
          have hhf : holds y.ro = false := holds_no' (by rw [hk]; decide)
          have hA : adds (ros l) raw y.ro t = [60, 33, 45, 45] ++ L y.ro.data ++ [45, 45, 62] := by unfold adds node; rw [hhf, if_neg (by rw [hk]; decide), if_neg (by rw [hk]; decide), if_pos hk, if_neg (by simp), List.append_nil]
          have HA := Lib.hid hA
          clear hk hhf hA
          go_wp2
          go_roundw
          case rel => exact ⟨j + 1, _, _, rfl, by go_num, HNX.out _ (by rw [HA.out, L_append, L_append, L_append]), HBC1.out⟩
          case measure => simp [intOf]; omega
      · have hu := hwl.stop hj
        have HU := Lib.hid hu; have HBL := Lib.hid hbl
        have hlt : decide ((j : Int) < ks.length) = false := decide_eq_false (by omega)
        have hlt2 : decide (j < ks.length) = false := decide_eq_false (by omega)
        clear hu hbl hwl
        go_wp2
        go_ret
        exact ⟨ret_str (by rw [HBR.out]; exact HU.out), bt HBW.out HBL.out⟩

theorem refWithin_all (A : Option Addr) (c : Nat) (l : List Cw) (hc : l.length ≤ c) (hm : c ≤ maxLen) (hl : l.length ≤ 1000) (hh : Ro.Held (ros l)) (hr : Ro.right (ros l) = true) (hrb : ∀ x ∈ l, rb x.ro ≤ 10000000) : ∀ (n : Nat) (i : Int) (w : World), Ro.Rr w w.heap.size A l → -1 ≤ i → i < l.length → (Ro.below (ros l) i).length < n → (Wm.wr (rawOf (ros l) i) (Ro.below (ros l) i)).length ≤ 10000000000 →
      Calls Try.prog 10 #[.slice A l.length c, .int .i64 i] w fun e w' => e = .returned (.string (B (Wm.wr (rawOf (ros l) i) (Ro.below (ros l) i)))) ∧ Below w.heap.size w w'
  | 0 => fun _ _ _ _ _ h _ => absurd h (Nat.not_lt_zero _)
  | n + 1 => refWithin_step n A c l hc hm hl hh hr hrb (refWithin_all A c l hc hm hl hh hr hrb n)
/-- What the reference writes of node i. -/
def withinB (l : List Ro) (i : Int) : List UInt8 := Wm.wr (rawOf l i) (Ro.below l i)
theorem refWithin1 (v : Value) (x : List Cw) (i : Int) (w : World) (q : List UInt8) (h : Rv w v x) (hl : x.length ≤ 1000) (hr : Ro.right (ros x) = true) (hrb : ∀ y ∈ x, rb y.ro ≤ 10000000) (h1 : -1 ≤ i) (h2 : i < x.length) (hq : withinB (ros x) i = q) (hz : q.length ≤ 10000000000) :
      Calls Try.prog 10 #[v, .int .i64 i] w fun e w' => e = .returned (.string (B q)) ∧ Below w.heap.size w w' := by
  obtain ⟨A, c, rfl, hc, hm, hrr, hh⟩ := h
  subst hq
  exact refWithin_all A c x hc hm hl hh hr hrb _ i w hrr h1 h2 (Nat.lt_succ_self _) hz

end Go.Proofs.Ytenmlpfjeohkiaa.Wr

namespace Go.Proofs.Ytenmlpfjeohkiaa.Wr
set_option maxRecDepth 100000
set_option linter.unusedSimpArgs false
set_option linter.unusedVariables false
open Go.RowKit Ba Fm Fo Nm Wm
open Ro (At Ro Cw ros rowO rowV below_new range2 range5 cells Rv)
open Bu (refHas1)
theorem within_top (l : List Ro) : withinB l (-1) = insideB l (-1) := by
  unfold withinB insideB rawOf
  rw [if_pos rfl, below_rest, Ro.dep_top]
  rfl
theorem within_at {l : List Ro} {k : Nat} {x : Ro} (h : l[k]? = some x) (hh : holds x = true) : withinB l (k : Int) = insideB l (k : Int) := by
  unfold withinB insideB rawOf
  rw [if_neg (by omega), if_pos (by omega), below_rest, Ro.dep_at h, decide_eq_true (by omega), Int.toNat_natCast, h, Bool.true_and, show ((k : Int) + 1).toNat = k + 1 by omega]
  show _ = if holds x = true then _ else _
  rw [if_pos hh]
theorem inside_no {l : List Ro} {k : Nat} {x : Ro} (h : l[k]? = some x) (hh : holds x = false) : insideB l (k : Int) = [] := goes_no (by rw [goes_in h, hh])
theorem string_nil {l : List UInt8} (h : l = []) : B l = ⟨#[]⟩ := by rw [h]; rfl

set_option maxRecDepth 100000 in
set_option maxHeartbeats 4000000 in
theorem refInside1 (v : Value) (x : List Cw) (i : Int) (w : World) (h : Rv w v x) (hl : x.length ≤ 1000) (hr : Ro.right (ros x) = true) (hrb : ∀ y ∈ x, rb y.ro ≤ 10000000) (hz : (insideB (ros x) i).length ≤ 10000000000) (q : ByteArray) (hq : B (insideB (ros x) i) = q) :
    Calls Try.prog 12 #[v, .int .i64 i] w fun e w' => e = .returned (.string q) ∧ Below w.heap.size w w' := by
  subst hq
  have HV := Lib.hid h
  obtain ⟨A, c, rfl, hc, hm, hrr, hh⟩ := h
  have HR := Lib.hid hr; have HRB := Lib.hid hrb; have HZ := Lib.hid hz; have HRR := Lib.hid hrr
  clear hr hrb hz hrr hh
  by_cases h1 : i < -1
  · have hno := goes_no (goes_out (l := ros x) (i := i) (by omega) (by omega))
    have HN := Lib.hid hno
    have hd : decide (i < -1) = true := decide_eq_true h1
    clear hno
    go_enter Try.func12, Try.ntmps12
    go_wp2
    go_quiet (fail)
    go_wp2
    go_ret
    exact ⟨ret_str (string_nil HN.out).symm, below_dN (Below.refl _ _) _⟩
  have hd1 : decide (i < -1) = false := decide_eq_false h1
  by_cases h2 : (x.length : Int) ≤ i
  · have hno := goes_no (goes_out (l := ros x) (i := i) (by omega) (by rw [Ro.len_ros]; omega))
    have HN := Lib.hid hno
    have hd : decide ((x.length : Int) ≤ i) = true := decide_eq_true h2
    clear hno
    go_enter Try.func12, Try.ntmps12
    go_wp2
    go_quiet (fail)
    go_wp2
    go_ret
    exact ⟨ret_str (string_nil HN.out).symm, below_dN (Below.refl _ _) _⟩
  have hd2 : decide ((x.length : Int) ≤ i) = false := decide_eq_false h2
  by_cases h3 : 0 ≤ i
  · obtain ⟨k, rfl⟩ : ∃ k : Nat, i = (k : Int) := ⟨i.toNat, by omega⟩
    have hk : k < x.length := by omega
    have hd3 : decide ((0 : Int) ≤ (k : Int)) = true := decide_eq_true h3
    have hk3 : decide (x.length ≤ k) = false := decide_eq_false (by omega)
    obtain ⟨b, off, y, rfl, hb, hdy, hy, hya, hym⟩ := Ro.Rr.at_ HRR.out k hk
    have hget := ros_get hdy
    obtain ⟨x0, x1, x2, x3, x4⟩ := range5 hy
    have HX1 := Lib.hid x1; have HX2 := Lib.hid x2; have HG := Lib.hid hget
    clear x0 x3 x4 hdy hy hya hym hget
    cases hkd : y.ro.kind != 0 with
    | true =>
      have hhf : holds y.ro = false := holds_no' (by simpa using hkd)
      have hno := inside_no HG.out hhf
      have HN := Lib.hid hno
      clear hno hhf
      go_enter Try.func12, Try.ntmps12
      go_wp2
      go_quiet (fail)
      go_wp2
      go_ret
      exact ⟨ret_str (string_nil HN.out).symm, below_dN (Below.refl _ _) _⟩
    | false =>
      have hk0 : y.ro.kind = 0 := by simpa using hkd
      obtain ⟨q, hq⟩ : ∃ q, isIn y.ro.name voidL = q := ⟨_, rfl⟩
      have hhq : holds y.ro = !q := by unfold holds; rw [hk0, hq]; rfl
      have HQ := Lib.hid hq; have HHQ := Lib.hid hhq
      clear hq hhq hk0
      go_enter Try.func12, Try.ntmps12
      go_upto_region 1 with (fail)
      go_region_held3 (fun w' => w'.cell? ⟨b, off + k * 5 + 1, none⟩ = some (.int .i64 y.ro.kind) ∧ w'.cell? ⟨b, off + k * 5 + 2, none⟩ = some (.string y.ro.name)) (first | exact ⟨d1, d2⟩ | exact ⟨HX1.out, HX2.out⟩ | go_keep) (first
        | (go_at_call 20; refine (refHas1 _ voidL _ _ (sv_own HS2.out) (by decide) q HQ.out).mono ?_; rintro e w4 ⟨rfl, rfl⟩)
        | (go_at_call 23; refine (Na.refVoid_any w.drew).mono ?_; rintro e w3 ⟨v3, rfl, s3, b3⟩; have d1 := (b3.cell (p := ⟨b, off + k * 5 + 1, none⟩) hb).trans HX1.out; have d2 := (b3.cell (p := ⟨b, off + k * 5 + 2, none⟩) hb).trans HX2.out; have HS2 := Lib.hid s3; have HB3 := Lib.hid (below_drewW b3); clear s3 b3))
      cases q with
      | true =>
        have hno := inside_no HG.out (by rw [HHQ.out]; rfl)
        have HN := Lib.hid hno
        clear hno d1 d2
        go_wp2
        go_ret
        exact ⟨ret_str (string_nil HN.out).symm, HB3.out⟩
      | false =>
        have hwi := within_at HG.out (by rw [HHQ.out]; rfl)
        have HW := Lib.hid hwi
        clear hwi d1 d2
        go_wp2_with fail
        refine (refWithin1 _ x (k : Int) w3 (insideB (ros x) (k : Int)) (HV.out.below HB3.out) hl HR.out HRB.out (by omega) (by omega) HW.out HZ.out).mono ?_
        rintro e w5 ⟨rfl, hb5⟩
        have HB5 := Lib.hid (bt HB3.out hb5)
        clear hb5
        go_wp2
        go_ret
        exact ⟨rfl, HB5.out⟩
  · obtain rfl : i = -1 := by omega
    have hd3 : decide ((0 : Int) ≤ (-1 : Int)) = false := by decide
    have HW := Lib.hid (within_top (ros x))
    go_enter Try.func12, Try.ntmps12
    go_wp2
    go_quiet (fail)
    go_wp2_with fail
    refine (refWithin1 _ x (-1) _ (insideB (ros x) (-1)) (HV.out.below (below_dN (Below.refl _ _) _)) hl HR.out HRB.out (by omega) (by omega) HW.out HZ.out).mono ?_
    rintro e w5 ⟨rfl, hb5⟩
    have HB5 := Lib.hid (bt (below_dN (Below.refl w.heap.size w) _) hb5)
    clear hb5
    go_wp2
    go_ret
    exact ⟨rfl, HB5.out⟩

end Go.Proofs.Ytenmlpfjeohkiaa.Wr

namespace Go.Proofs.Ytenmlpfjeohkiaa.Wr
set_option maxRecDepth 100000
set_option linter.unusedVariables false
set_option linter.unusedSimpArgs false
open Go.RowKit Ba Fm Fo Nm Wm
open Ro (At Ro Cw ros rowO rowV below_new range2 range5 cells Rv bare rows_new)
theorem refInside8 (v : Value) (x : List Cw) (i : Int) (w : World) (h : Rv w v x) (hl : x.length ≤ 1000) (hr : Ro.right (ros x) = true) (hz : rsum (ros x) ≤ 10000000) (q : ByteArray) (hq : B (insideB (ros x) i) = q) :
    Calls Try.prog 12 #[v, .int .i64 i] w fun e w' => e = .returned (.string q) ∧ Below w.heap.size w w' := by
  refine refInside1 v x i w h hl hr (rb_all hz) ?_ q hq
  have := len_inside (ros x) i
  rw [Ro.len_ros] at this
  omega
theorem refWithin8 (v : Value) (x : List Cw) (w : World) (h : Rv w v x) (hl : x.length ≤ 1000) (hr : Ro.right (ros x) = true) (hz : rsum (ros x) ≤ 10000000) (q : ByteArray) (hq : B (insideB (ros x) (-1)) = q) :
    Calls Try.prog 10 #[v, .int .i64 (-1)] w fun e w' => e = .returned (.string q) ∧ Below w.heap.size w w' := by
  subst hq
  refine refWithin1 v x (-1) w (insideB (ros x) (-1)) h hl hr (rb_all hz) (by omega) (by omega) (within_top _) ?_
  have := len_inside (ros x) (-1)
  rw [Ro.len_ros] at this
  omega

set_option maxRecDepth 100000 in
set_option maxHeartbeats 4000000 in
theorem law_rows (v0 : Value) (i : Int) (l0 : List Cw) (w : World) (h0 : Rv w v0 l0) (z0 : rsum (ros l0) ≤ 1048576) :
    Calls Try.prog 3 #[v0, .int .i64 i] w fun e w' => e = .returned (.bool true) ∧ Below w.heap.size w w' := by
  have HV0 := Lib.hid h0
  clear h0
  go_enter Try.func3, Try.ntmps3
  go_wp2_with fail
  refine (bound8 v0 l0 w HV0.out z0).mono ?_
  rintro e w1 ⟨a, x, rfl, _, hx, _, hxl, hx6, hxz, hb1⟩
  have HX := Lib.hid hx; have HB1 := Lib.hid hb1
  clear hx hx6 hb1
  obtain ⟨p, hp⟩ : ∃ p, Ro.right (ros x) = p := ⟨_, rfl⟩
  have HP := Lib.hid hp
  clear hp
  go_wp2_with fail
  refine (Ro.refRight1 a x w1 p HX.out (by omega) HP.out).mono ?_
  rintro e w2 ⟨rfl, hb2⟩
  have HB2 := Lib.hid (bt HB1.out hb2); have HX2 := Lib.hid (HX.out.below hb2)
  clear hb2
  cases p with
  | false =>
    go_wp2_with fail
    refine (fixed8_any w2).mono ?_
    rintro e w4 ⟨rfl, hb4⟩
    have HB4 := Lib.hid (bt HB2.out hb4)
    clear hb4
    go_wp2
    go_ret
    exact ⟨rfl, HB4.out⟩
  | true =>
    obtain ⟨S, hS⟩ : ∃ S, B (insideB (ros x) (-1)) = S := ⟨_, rfl⟩
    obtain ⟨T, hT⟩ : ∃ T, B (insideB (ros x) i) = T := ⟨_, rfl⟩
    have HS := Lib.hid hS; have HT := Lib.hid hT
    clear hS hT
    go_wp2_with fail
    refine (rows8 a x w2 HX2.out (by omega) (by omega) S HS.out).mono ?_
    rintro e w3 ⟨rfl, hb3⟩
    have HB3 := Lib.hid (bt HB2.out hb3); have HX3 := Lib.hid (HX2.out.below hb3)
    clear hb3
    go_wp2_with fail
    refine (refWithin8 a x w3 HX3.out (by omega) HP.out (by omega) S HS.out).mono ?_
    rintro e w4 ⟨rfl, hb4⟩
    have HB4 := Lib.hid (bt HB3.out hb4); have HX4 := Lib.hid (HX3.out.below hb4)
    clear hb4
    go_wp2_with fail
    refine (inside8 a x i w4 HX4.out (by omega) (by omega) T HT.out).mono ?_
    rintro e w5 ⟨rfl, hb5⟩
    have HB5 := Lib.hid (bt HB4.out hb5); have HX5 := Lib.hid (HX4.out.below hb5)
    clear hb5
    go_wp2_with fail
    refine (refInside8 a x i w5 HX5.out (by omega) HP.out (by omega) T HT.out).mono ?_
    rintro e w6 ⟨rfl, hb6⟩
    have HB6 := Lib.hid (bt HB5.out hb6)
    clear hb6
    go_wp2_with fail
    refine (fixed8_any w6).mono ?_
    rintro e w7 ⟨rfl, hb7⟩
    have HB7 := Lib.hid (bt HB6.out hb7)
    clear hb7
    go_wp2
    go_ret
    exact ⟨rfl, HB7.out⟩

end Go.Proofs.Ytenmlpfjeohkiaa.Wr

namespace Go.Proofs.Ytenmlpfjeohkiaa.Wr
set_option maxRecDepth 100000
set_option linter.unusedVariables false
set_option linter.unusedSimpArgs false
open Go.RowKit Ba Fm Fo Nm Wm
open Ro (At Ro Cw ros rowO rowV below_new range2 range5 cells Rv bare rows_new Forest kidsFrom kids kidsAt more Nw Rn)
/-- A tree of these rows, cut out. -/
theorem tree_cut {l : List Ro} {t E : Nat} {y : Ro} (hy : l[t]? = some y) (hE : t + 1 + (rest l y.depth (t + 1)).length = E) : (l.take E).drop t = y :: rest l y.depth (t + 1) := by
  have hlt := (List.getElem?_eq_some_iff.1 hy).1
  have hx : l[t] = y := by
    rw [List.getElem?_eq_getElem hlt] at hy
    injection hy
  have he : Ro.endOf l (t : Int) = E := by
    have := end_rest hy
    rw [Ro.endAt_of hlt] at this
    omega
  have := Ro.part_tree hlt
  rw [he] at this
  rw [this, hx]
  have hb : Ro.below l (t : Int) = rest l y.depth (t + 1) := by rw [below_rest, Ro.dep_at hy, show ((t : Int) + 1).toNat = t + 1 by omega]
  rw [hb]
theorem rest_deep {l : List Ro} {D : Int} {s : Nat} : ∀ x ∈ rest l D s, D < x.depth := fun x hx => by
  have := mem_tw _ _ x hx
  unfold deep at this
  simpa using this
theorem tw_self {α : Type} {p : α → Bool} : ∀ {l : List α}, (∀ x ∈ l, p x = true) → l.takeWhile p = l ∧ l.dropWhile p = []
  | [], _ => ⟨rfl, rfl⟩
  | a :: l, h => by
    obtain ⟨h1, h2⟩ := tw_self (l := l) fun x hx => h x (List.mem_cons_of_mem _ hx)
    have ha := h a List.mem_cons_self
    rw [List.takeWhile_cons, List.dropWhile_cons, if_pos ha, if_pos ha, h1]
    exact ⟨rfl, h2⟩
theorem ext_eq {s t : ByteArray} {i j : Nat} (h : ((L s).drop i).take (j - i) = L t) : ((s.extract i j).toList == t.toList) = true := by
  rw [eq_of_toList]
  exact decide_eq_true (L_inj (by rw [L_extract]; exact h))
/-- What stands between the tags, and the end tag. -/
theorem cut_tag {S IN ES : ByteArray} {T : List UInt8} (h : L S = T ++ (L IN ++ L ES)) : IN.size + ES.size ≤ S.size ∧ ((S.extract (S.size - ES.size) S.size).toList == ES.toList) = true ∧ ((S.extract (S.size - ES.size - IN.size) (S.size - ES.size)).toList == IN.toList) = true := by
  have hs := congrArg List.length h
  rw [size_L, List.length_append, List.length_append, size_L, size_L] at hs
  refine ⟨by omega, ext_eq ?_, ext_eq ?_⟩
  · rw [h, show S.size - ES.size = (T ++ L IN).length by rw [List.length_append, size_L]; omega, ← List.append_assoc, List.drop_left, List.take_of_length_le (by rw [size_L, List.length_append, size_L]; omega)]
  · rw [h, show S.size - ES.size - IN.size = T.length by omega, List.drop_left, show S.size - ES.size - T.length = (L IN).length by rw [size_L]; omega, List.take_left]
theorem inside_tree {l : List Ro} {t : Nat} {y : Ro} (hd : y.depth = 0) : insideB (y :: rest l y.depth (t + 1)) (-1) = adds l false y t ∧ insideB (y :: rest l y.depth (t + 1)) 0 = (if holds y = true then Wm.wr (isIn y.name rawL) (rest l y.depth (t + 1)) else []) := by
  have hr : ∀ x ∈ rest l y.depth (t + 1), deep y.depth x = true := fun x hx => by
    unfold deep
    exact decide_eq_true (rest_deep x hx)
  have hi : inn y (rest l y.depth (t + 1)) = rest l y.depth (t + 1) := by
    unfold inn
    exact (tw_self hr).1
  have hb : beh y (rest l y.depth (t + 1)) = [] := by
    unfold beh
    exact (tw_self hr).2
  constructor
  · rw [inside_all fun x hx => by
      rcases List.mem_cons.1 hx with rfl | hx
      · omega
      · have := rest_deep x hx; omega, wr_cons, hi, hb, wr_nil, List.append_nil]
    rfl
  · unfold insideB
    rw [if_neg (by decide), if_pos (by decide)]
    show (if holds y = true then Wm.wr (isIn y.name rawL) (rest (y :: rest l y.depth (t + 1)) y.depth (0 + 1)) else []) = _
    have : rest (y :: rest l y.depth (t + 1)) y.depth (0 + 1) = rest l y.depth (t + 1) := by
      show ((y :: rest l y.depth (t + 1)).drop 1).takeWhile (deep y.depth) = _
      rw [List.drop_succ_cons, List.drop_zero]
      exact (tw_self hr).1
    rw [this]
theorem rv_cut {w : World} {b off c : Nat} {x : List Cw} (h : Rv w (.slice (some ⟨b, off, none⟩) x.length c) x) (t E : Nat) (h1 : t ≤ E) (h2 : E ≤ x.length) (h3 : t < c) : Rv w (.slice (some ⟨b, off + t * 5, none⟩) (E - t) (c - t)) ((x.take E).drop t) := by
  obtain ⟨A, c', he, hc, hm, hr, hh⟩ := h
  injection he with e1 e2 e3
  subst e1 e3
  have hl : ((x.take E).drop t).length = E - t := by rw [List.length_drop, List.length_take]; omega
  refine ⟨some ⟨b, off + t * 5, none⟩, c - t, by rw [hl], by rw [hl]; omega, by omega, ?_, fun z hz => hh z ?_⟩
  · have := hr.mid t E c h1 h2 hc (by omega)
    simpa [WideShapes.add_plain] using this
  · rw [Ro.ros_part] at hz
    exact List.mem_of_mem_take (List.mem_of_mem_drop hz)

set_option maxRecDepth 100000 in
set_option maxHeartbeats 4000000 in
theorem law_parts8 (v0 : Value) (l0 : List Cw) (w : World) (h0 : Rv w v0 l0) (z0 : rsum (ros l0) ≤ 1048576) :
    Calls Try.prog 4 #[v0] w fun e w' => e = .returned (.bool true) ∧ Below w.heap.size w w' := by
  have HV0 := Lib.hid h0
  clear h0
  go_enter Try.func4, Try.ntmps4
  go_wp2_with fail
  refine (bound8 v0 l0 w HV0.out z0).mono ?_
  rintro e w1 ⟨a, x, rfl, -, hx, -, hxl, hx6, hxz, hb1⟩
  have HX := Lib.hid hx; have HB1 := Lib.hid hb1; have HX6 := Lib.hid (few6 hx6)
  clear hx hx6 hb1
  obtain ⟨p, hp⟩ : ∃ p, Ro.right (ros x) = p := ⟨_, rfl⟩
  have HP := Lib.hid hp
  clear hp
  go_wp2_with fail
  refine (Ro.refRight1 a x w1 p HX.out (by omega) HP.out).mono ?_
  rintro e w2 ⟨rfl, hb2⟩
  have HB2 := Lib.hid (bt HB1.out hb2); have HX2 := Lib.hid (HX.out.below hb2)
  clear hb2
  cases p with
  | false =>
    go_wp2_with fail
    refine (fixed8_any w2).mono ?_
    rintro e w4 ⟨rfl, hb4⟩
    have HB4 := Lib.hid (bt HB2.out hb4)
    clear hb4
    go_wp2
    go_ret
    exact ⟨rfl, HB4.out⟩
  | true =>
    go_wp2_with fail
    refine (Ro.refKids1 a x (-1) w2 _ HX2.out (by omega) HP.out rfl).mono ?_
    rintro e w3 ⟨v3, rfl, hnw, hb3⟩
    have hka : kidsAt (ros x) (-1) = kidsFrom 0 0 (rest (ros x) (-1) 0) := by
      unfold kidsAt
      rw [if_pos ⟨by omega, by omega⟩]
      rfl
    rw [hka] at hnw
    obtain ⟨ks, hks⟩ : ∃ ks, kidsFrom 0 0 (rest (ros x) (-1) 0) = ks := ⟨_, rfl⟩
    rw [hks] at hnw
    obtain ⟨K, ck, rfl, hkc, hkm, hrn⟩ := hnw.form
    have hkn : ks.length ≤ 9223372036854775807 := by unfold maxLen at hkm; omega
    have hfo := Ro.below_forest HP.out (by rw [Ro.len_ros]; omega) (-1) (by omega) (by omega)
    have hw0 : WL (ros x) (-1) 0 false ks 0 0 ⟨#[]⟩ := ⟨Nat.zero_le _, by rw [List.drop_zero]; exact hks.symm, hfo, rfl, Nat.le_refl _, rfl⟩
    obtain ⟨A, c, rfl, hc, hm, hrr, hh⟩ := HX2.out.below hb3
    have HV3 := Lib.hid (show Rv w3 (.slice A x.length c) x from ⟨A, c, rfl, hc, hm, hrr, hh⟩)
    have HB3 := Lib.hid (bt HB2.out hb3); have HRN := Lib.hid hrn; have HW0 := Lib.hid hw0; have HRR := Lib.hid hrr
    clear hka hks hb3 hnw hrn hfo hw0 hrr hh
    go_wp2
    go_loopw [3, 5] (fun v3 v5 wr => ∃ j t u, v3 = .string u ∧ v5 = .int .i64 ((j : Nat) : Int) ∧ WL (ros x) (-1) 0 false ks j t u ∧ Below w3.heap.size w3 wr) (fun _ v5 _ => ks.length - (intOf v5).toNat)
    case atStart => exact ⟨0, 0, _, rfl, rfl, HW0.out, Below.refl _ _⟩
    case round =>
      obtain ⟨j, t, u, rfl, rfl, hwl, hbl⟩ := hrel
      by_cases hj : j < ks.length
      · obtain ⟨y0, hy0, hyd, hkt, hlt, hzz, hnext⟩ := hwl.go hj
        have htl : t < x.length := by have := (List.getElem?_eq_some_iff.1 hy0).1; rwa [Ro.len_ros] at this
        obtain ⟨kb, ko, rfl, hkb, hkc'⟩ := HRN.out (by omega)
        have hkcell := int_at hj hkt fun i hi => (hbl.cell (p := ⟨kb, ko + i, none⟩) hkb).trans (hkc' i hi)
        obtain ⟨E, hE⟩ : ∃ E, t + 1 + (rest (ros x) y0.depth (t + 1)).length = E := ⟨_, rfl⟩
        have hEe := end_rest hy0
        rw [hE] at hEe
        have hEl := rest_le (l := ros x) (D := y0.depth) (s := t + 1) (by rw [Ro.len_ros]; omega)
        rw [Ro.len_ros, hE] at hEl
        have hjd : decide (j < ks.length) = true := decide_eq_true hj
        have i1 : (0 : Int) ≤ (t : Int) := by omega
        have i2 : (t : Int) ≤ (E : Int) := by omega
        have i3 : (E : Int) ≤ (c : Int) := by omega
        have i4 : ¬ c = t := by omega
        obtain ⟨b, off, y, rfl, hb, hdx, hyy, hxa, hxm⟩ := Ro.Rr.at_ (HRR.out.below hbl) t htl
        have hxw := HV3.out.below hbl
        have htc := tree_cut hy0 hE
        have hrt : ros ((x.take E).drop t) = y0 :: rest (ros x) y0.depth (t + 1) := by rw [Ro.ros_part]; exact htc
        have hrz : rsum (ros ((x.take E).drop t)) ≤ 1048576 := by
          rw [hrt]
          have e1 := rsum_append ((ros x).take E) ((ros x).drop E)
          rw [List.take_append_drop] at e1
          have e2 := rsum_append (((ros x).take E).take t) (((ros x).take E).drop t)
          rw [List.take_append_drop, htc] at e2
          omega
        have hTl : ((x.take E).drop t).length ≤ 40 := by rw [List.length_drop, List.length_take]; omega
        have hTf : Ro.Few (ros ((x.take E).drop t)) := fun z hz => HX6.out z (by
          rw [Ro.ros_part] at hz
          exact List.mem_of_mem_take (List.mem_of_mem_drop hz))
        have hcut := fun (W : World) (hW : Below wr.heap.size wr W) => rv_cut (hxw.below hW) t E (by omega) hEl (by omega)
        obtain ⟨hi1, hi2⟩ := inside_tree (l := ros x) (t := t) (y := y0) (by omega)
        have HWL := Lib.hid hwl; have HNX := Lib.hid hnext; have HBL := Lib.hid hbl; have HEE := Lib.hid hEe; have HE := Lib.hid hE; have HYD := Lib.hid hyd; have HKC := Lib.hid hkcell; have HCUT := Lib.hid hcut; have HRT := Lib.hid hrt; have HTF := Lib.hid hTf; have HI1 := Lib.hid hi1; have HI2 := Lib.hid hi2; have HZZ := Lib.hid hzz
        have hkbw : kb < wr.heap.size := Nat.lt_of_lt_of_le hkb hbl.size
        clear hwl hnext hbl hEe hE hyd hkcell hkt hkc' hdx hyy hxa hxm hlt hcut hrt htc hTf hxw hi1 hi2 hzz
        go_upto_region 9 with (fail)
        go_region_held3 (fun w' => w'.cell? ⟨kb, ko + j, none⟩ = some (.int .i64 (t : Nat))) (first | exact e0 | exact d0 | exact HKC.out | go_keep) (first
          | (go_at_call 14; refine (Ro.moved0 _ ((x.take E).drop t) w4 (HCUT.out w4 HB4.out) (by omega) HTF.out).mono ?_; rintro e w5 ⟨u5, y5, rfl, ho5, hf5, hr5, -, hv5, hb5⟩; have hkb4 := Nat.lt_of_lt_of_le hkbw HB4.out.size; have e0 := (hb5.cell (p := ⟨kb, ko + j, none⟩) hkb4).trans d0; have HB5 := Lib.hid (bt HB4.out hb5); have HR5 := Lib.hid hr5; have HV5 := Lib.hid hv5; clear ho5 hf5 hr5 hv5 hb5)
          | (go_at_call 15; refine (Ro.refEnd1 _ x (t : Int) wr.drew E (HV3.out.below (show Below w3.heap.size w3 wr.drew from HBL.out.drew)) (by omega) HEE.out).mono ?_; rintro e w4 ⟨rfl, hb4⟩; have d0 := (hb4.cell (p := ⟨kb, ko + j, none⟩) hkbw).trans HKC.out; have HB4 := Lib.hid (below_drewW hb4); clear hb4))
        obtain ⟨S, hS⟩ : ∃ S, B (insideB (ros y5) (-1)) = S := ⟨_, rfl⟩
        obtain ⟨IN, hIN⟩ : ∃ IN, B (insideB (ros y5) 0) = IN := ⟨_, rfl⟩
        have hR5 : ros y5 = y0 :: rest (ros x) y0.depth (t + 1) := HR5.out.trans HRT.out
        have hS2 : L S = adds (ros x) false y0 t := by rw [← hS, L_B, hR5, HI1.out]
        have hIN2 : L IN = if holds y0 = true then Wm.wr (isIn y0.name rawL) (rest (ros x) y0.depth (t + 1)) else [] := by rw [← hIN, L_B, hR5, HI2.out]
        have hz5 : rsum (ros y5) ≤ 1048576 := by rw [HR5.out]; exact hrz
        have hyl5 : y5.length ≤ 40 := by
          have := congrArg List.length HR5.out
          rw [Ro.len_ros, Ro.len_ros] at this
          omega
        have hS3 : S.size ≤ 10000000 := by
          rw [← hS]
          have := size_inside hz5 (m := 40) (by rw [Ro.len_ros]; omega) (-1)
          omega
        have hIN3 : IN.size ≤ 10000000 := by
          rw [← hIN]
          have := size_inside hz5 (m := 40) (by rw [Ro.len_ros]; omega) 0
          omega
        have hu3 : u.size ≤ 10000000 := by
          have := HZZ.out
          rw [size_L] at this
          have e := len_wr _ (rest (ros x) (-1) 0) false (Nat.le_refl _)
          have e2 := rest_rsum (ros x) (-1) 0
          rw [Ro.len_ros] at e2
          omega
        have HS := Lib.hid hS; have HIN := Lib.hid hIN; have HS2 := Lib.hid hS2; have HIN2 := Lib.hid hIN2; have HR5' := Lib.hid hR5
        clear hS hIN hS2 hIN2 hR5 d0 e0
        go_wp2_with fail
        refine (rows8 u5 y5 w5 HV5.out (by omega) (by omega) S HS.out).mono ?_
        rintro e w6 ⟨rfl, hb6⟩
        have HB6 := Lib.hid (bt HB5.out hb6); have HV6 := Lib.hid (HV5.out.below hb6)
        clear hb6
        go_wp2_with fail
        refine (inside8 u5 y5 0 w6 HV6.out (by omega) (by omega) IN HIN.out).mono ?_
        rintro e w7 ⟨rfl, hb7⟩
        have HB7 := Lib.hid (bt HB6.out hb7); have HV7 := Lib.hid (HV6.out.below hb7)
        clear hb7
        obtain ⟨A7, c7, rfl, hc7, hm7, hr7, hh7⟩ := HV7.out
        have hy5l : 0 < y5.length := by
          have := congrArg List.length HR5'.out
          rw [Ro.len_ros, List.length_cons] at this
          omega
        obtain ⟨b7, off7, z, rfl, hb7, hdz, hzz7, hza, hzm⟩ := Ro.Rr.at_ hr7 0 hy5l
        have hzr : z.ro = y0 := by
          have := ros_get hdz
          rw [HR5'.out] at this
          injection this with this
          exact this.symm
        have HZR := Lib.hid hzr
        have hd7 : decide (0 < y5.length) = true := decide_eq_true hy5l
        clear hr7 hh7 hdz hza hzm hzr
        have hbx := Rb.new w7 z
        obtain ⟨q0, q1, q2, q3, q4⟩ := hbx.c
        have hzn : z.ro.name.size ≤ 10000000 := by
          rw [HZR.out]
          have e1 : rb y0 ≤ rsum (ros y5) := by rw [HR5'.out]; exact rb_mem List.mem_cons_self
          unfold rb at e1
          omega
        clear hbx
        rw [show off7 + 0 * 5 = off7 by omega] at hzz7
        go_upto_region 15 with (refine wpList_load_mid rfl 35 (.tmp 46) rfl b7 off7 rfl _ _ hzz7 Try.underlying35 rfl Ro.size_row ?_)
        obtain ⟨ES, hES⟩ : ∃ ES, (⟨#[60, 47]⟩ : ByteArray) ++ z.ro.name ++ ⟨#[62]⟩ = ES := ⟨_, rfl⟩
        obtain ⟨W9, hW9⟩ : ∃ W, w7.alloc (.cells #[.int .i64 z.ro.depth, .int .i64 z.ro.kind, .string z.ro.name, .string z.ro.data, .slice z.A z.ro.attrs.length z.c] 35) = W := ⟨_, rfl⟩
        rw [hES, hW9]
        rw [hW9] at q0 q1 q2 q3 q4
        have hb9 : Below w7.heap.size w7 W9 := by rw [← hW9]; exact below_new w7 _
        have hLE : L ES = [60, 47] ++ L z.ro.name ++ [62] := by rw [← hES, L_append, L_append]
        have hESs : ES.size ≤ 20000000 := by
          have := congrArg List.length hLE
          rw [size_L] at this
          simp only [List.length_append, List.length_cons, List.length_nil, size_L] at this
          omega
        have HB9 := Lib.hid (bt HBL.out (bt HB7.out hb9)); have HLE := Lib.hid hLE
        clear hES hW9 hb9 hLE hzz7
        go_cut [98] from 52 to 98 (fun s98 wx => s98 = .bool false ∧ wx = W9)
        case first =>
          by_cases hk : z.ro.kind = 0
          · have g0 : (z.ro.kind == 0) = true := beq_iff_eq.2 hk
            by_cases hin : IN = ⟨#[]⟩
            · subst hin
              clear hk
              go_wp2
              go_meet
              exact ⟨rfl, rfl⟩
            · have hne : L IN ≠ [] := fun e => hin (by rw [← B_L IN, e]; rfl)
              have hho : holds y0 = true := by
                cases hh : holds y0 with
                | true => rfl
                | false =>
                  have := HIN2.out
                  rw [hh, if_neg (by simp)] at this
                  exact absurd this hne
              have hLS : L S = tagW y0 ++ (L IN ++ L ES) := by
                rw [HS2.out, HIN2.out, HLE.out, HZR.out, hho, if_pos rfl]
                unfold adds node
                rw [if_pos (by rw [← HZR.out]; exact hk), hho, if_pos rfl]
                unfold endW
                rfl
              obtain ⟨s1, s2, s3⟩ := cut_tag hLS
              have hi1 : IN.toList.isEmpty = false := by rw [toList_L]; cases h : L IN with
                | nil => exact absurd h hne
                | cons a r => rfl
              have hi2 : ¬ IN.toList = [] := by rw [toList_L]; exact hne
              have s4 : 0 ≤ (S.size : Int) - ES.size := by omega
              have s5 : ((S.size : Int) - ES.size).toNat = S.size - ES.size := by omega
              have s6 : 0 ≤ (S.size : Int) - ES.size - IN.size := by omega
              have s7 : ((S.size : Int) - ES.size - IN.size).toNat = S.size - ES.size - IN.size := by omega
              have s8 : decide ((S.size : Int) < IN.size + ES.size) = false := decide_eq_false (by omega)
              clear hk hin hne hho hLS
              go_wp2
              go_meet
              exact ⟨rfl, rfl⟩
          · have g0 : (z.ro.kind == 0) = false := beq_eq_false_iff_ne.2 hk
            clear hk
            go_wp2
            go_meet
            exact ⟨rfl, rfl⟩
        case rest =>
          obtain ⟨rfl, rfl⟩ := hcut
          go_wp2
          go_roundw
          case rel => exact ⟨j + 1, _, _, rfl, by go_num, HNX.out _ (by rw [L_append, HS2.out]), HB9.out⟩
          case measure => simp [intOf]; omega
      · have hu := hwl.stop hj
        have hu2 : B (insideB (ros x) (-1)) = u := by rw [hu]; unfold insideB; rw [if_pos rfl]
        have HU := Lib.hid hu2; have HBL := Lib.hid (bt HB3.out hbl); have HXE := Lib.hid (HV3.out.below hbl)
        have hlt2 : decide (j < ks.length) = false := decide_eq_false (by omega)
        clear hu hu2 hbl hwl
        go_wp2_with fail
        refine (rows8 _ x wr HXE.out (by omega) (by omega) u HU.out).mono ?_
        rintro e w4 ⟨rfl, hb4⟩
        have HB4 := Lib.hid (bt HBL.out hb4); have HX4 := Lib.hid (HXE.out.below hb4)
        clear hb4
        go_wp2_with fail
        refine (inside8 _ x (-1) w4 HX4.out (by omega) (by omega) u HU.out).mono ?_
        rintro e w5 ⟨rfl, hb5⟩
        have HB5 := Lib.hid (bt HB4.out hb5)
        clear hb5
        go_wp2_with fail
        refine (fixed8_any w5).mono ?_
        rintro e w6 ⟨rfl, hb6⟩
        have HB6 := Lib.hid (bt HB5.out hb6)
        clear hb6
        go_wp2
        go_ret
        exact ⟨rfl, HB6.out⟩

end Go.Proofs.Ytenmlpfjeohkiaa.Wr
