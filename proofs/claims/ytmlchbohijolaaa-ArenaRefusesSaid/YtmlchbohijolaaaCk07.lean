/-
  Stage 11: ArenaRefuses, walked.
-/
import Derived.Test.YtmlchbohijolaaaCk06
import Derived.Deep.DeepCutAuto
import Derived.Deep.CutBlock
namespace Go.Proofs.Ytmlchbohijolaaa.Ar
set_option maxRecDepth 100000
set_option linter.unusedSimpArgs false
set_option linter.unusedVariables false
open Go.RowKit Ba
open Ro (At Ro Cw ros Rr Ow Nw Fr Att Ap Sh Ra Rv Held cells acells below_new infoI info_row len_cells rowV rowO Few check right refSame1)
set_option maxRecDepth 100000 in
set_option maxHeartbeats 8000000 in
theorem law_refuses (v : Value) (os : List Op11) (w : World) (S : Script w w.heap.size v os) (_ : True) : Calls Try.prog 8 #[v] w fun e w' => e = .returned (.bool true) ∧ Below w.heap.size w w' := by
  have HSC := Lib.hid S
  obtain ⟨A, c, rfl, hc, hcm, hok⟩ := S.form
  have HOK := Lib.hid hok
  clear S hok
  go_enter Try.func8, Try.ntmps8
  go_wp2_with fail
  refine (One.new w w (Below.refl _ _)).mono ?_
  rintro e w1 ⟨p, rfl, S1⟩
  have HS1 := Lib.hid S1
  clear S1
  go_upto_region 2 with (fail)
  go_wp2_with fail
  go_loopw [4] (fun i wr => ∃ (j : Nat) (M : List Nd), i = .int .i64 j ∧ j ≤ 40 ∧ One w wr p M ∧ Inv (4 + j) M ∧ M.length ≤ 612) (fun i _ => 40 - (intOf i).toNat)
  case atStart => exact ⟨0, M0, rfl, by omega, HS1.out, i_M0, by decide⟩
  case round =>
    clear HS1
    obtain ⟨j, M, rfl, hj, S, I, hm⟩ := hrel
    have HS := Lib.hid S; have HI := Lib.hid I; have HM := Lib.hid hm; have HL := Lib.hid S.len
    clear S I
    by_cases h1 : j < os.length
    · by_cases h2 : j < 40
      · have hj1 : (j : Int) < os.length := by omega
        have hj2 : (j : Int) < 40 := by omega
        by_cases h3 : M.length < 300
        · have hm3 : (M.length : Int) < 300 := by omega
          obtain ⟨b0, off, hA, hbl, hk⟩ := HSC.out.cells HS.out.bel h1
          subst hA
          obtain ⟨o, ho⟩ : ∃ o, os[j] = o := ⟨_, rfl⟩
          have HOO := Lib.hid (HOK.out o (ho ▸ List.getElem_mem h1))
          rw [ho] at hk
          have d0 := hk 0 _ rfl
          have d1 := hk 1 _ rfl
          have d2 := hk 2 _ rfl
          have d3 := hk 3 _ rfl
          have d4 := hk 4 _ rfl
          have d5 := hk 5 _ rfl
          have d6 := hk 6 _ rfl
          have d7 := hk 7 _ rfl
          rw [Nat.add_zero] at d0
          clear ho hk
          go_wp2_with fail
          refine HL.out.mono ?_
          rintro e wr' ⟨rfl, rfl⟩
          go_upto_region 6 with (fail)
          obtain ⟨w3, hw3⟩ : ∃ w3, wr'.alloc (opO o) = w3 := ⟨_, rfl⟩
          have hbx := heap_alloc_new wr' (opO o)
          have hb3 := below_new wr' (opO o)
          have hz3 : wr'.heap.size < (wr'.alloc (opO o)).heap.size := by simp
          rw [hw3] at hbx hb3 hz3
          have S3 := HS.out.below hb3
          have HW3 := Lib.hid hw3; have HBX := Lib.hid hbx; have HZ3 := Lib.hid hz3
          have HL3 := Lib.hid S3.len
          obtain ⟨F, SF⟩ := S3.of
          have HR3 := Lib.hid (SF.rows HI.out (by omega) (by have := HM.out; omega) 0)
          clear hbx hb3 S3 SF hw3 hz3 d0 d1 d2 d3 d4 d5 d6 d7
          rw [HW3.out]
          go_wp2_with fail
          refine HL3.out.mono ?_
          rintro e w3' ⟨rfl, rfl⟩
          go_wp2_with fail
          refine HR3.out.mono ?_
          rintro e w4 ⟨vl, l, rfl, hl, hll, S4, hkeep, hb4⟩
          have hbx4 := (hb4.block _ HZ3.out).trans HBX.out
          obtain ⟨b0', b1', b2', b3', b4', b5', b6', b7'⟩ := op_cells hbx4
          have HS4 := Lib.hid S4; have HKP := Lib.hid hkeep; have HLR := Lib.hid hl; have HLL := Lib.hid hll
          have FIN := Lib.hid (fun (q : Int) (F6 : Nat → Prop) (w6 : World) (hq : q ≠ 0 → opM M o = M) (S6 : OneF w w6 F6 p (opM M o)) (n6 : Next w4 w6 F F6) => show ∃ (q' : Int), Value.int .i64 q = .int .i64 q' ∧ (q' ≠ 0 → opM M o = M) ∧ ∃ F', OneF w w6 F' p (opM M o) ∧ Next w4 w6 F F' from ⟨q, rfl, hq, F6, S6, n6⟩)
          clear hl hll S4 hkeep hb4 hbx4 HL3 HR3
          go_upto_block 2 with (fail)
          go_cut [8] from 39 to 112 (fun s8 wx => ∃ (q : Int), s8 = .int .i64 q ∧ (q ≠ 0 → opM M o = M) ∧ ∃ F', OneF w wx F' p (opM M o) ∧ Next w4 wx F F')
          case first =>
            have hway : o.kind = 0 ∨ o.kind = 1 ∨ o.kind = 2 ∨ o.kind = 3 ∨ o.kind = 4 ∨ o.kind = 5 ∨ o.kind = 6 ∨ o.kind = 7 ∨ (¬ o.kind = 0 ∧ ¬ o.kind = 1 ∧ ¬ o.kind = 2 ∧ ¬ o.kind = 3 ∧ ¬ o.kind = 4 ∧ ¬ o.kind = 5 ∧ ¬ o.kind = 6 ∧ ¬ o.kind = 7) := by omega
            rcases hway with hk | hk | hk | hk | hk | hk | hk | hk | hk
            · have e0 : (o.kind == 0) = true := by rw [hk]; rfl
              have HKN := Lib.hid hk
              clear hk
              have HC := Lib.hid (rf_make (o := o) HS4.out (by have := HM.out; omega) HOO.out.name HKN.out)
              go_wp2_with fail
              refine HC.out.mono ?_
              rintro e6 w6 ⟨a, q, rfl, hq, F6, S6, N6⟩
              have HQ := Lib.hid hq; have HS6 := Lib.hid S6; have HN6 := Lib.hid N6
              clear hq S6 N6
              go_wp2
              go_meet
              exact FIN.out q F6 w6 HQ.out HS6.out HN6.out
            · have e0 : (o.kind == 0) = false := by rw [hk]; rfl
              have e1 : (o.kind == 1) = true := by rw [hk]; rfl
              have HKN := Lib.hid hk
              clear hk
              have HT := Lib.hid (rf_trees HS4.out HOO.out)
              go_wp2_with fail
              refine HT.out.mono ?_
              rintro e5 w5 ⟨v5, l5, rfl, S5, hb5, hr5, hv5⟩
              have HC := Lib.hid (rf_load (o := o) S5 HI.out.wf (by have := HM.out; omega) HKN.out hr5 hv5)
              have HB5 := Lib.hid hb5
              clear S5 hb5 hr5 hv5
              go_wp2_with fail
              refine HC.out.mono ?_
              rintro e6 w6 ⟨a, q, rfl, hq, F6, S6, N6⟩
              have HQ := Lib.hid hq; have HS6 := Lib.hid S6; have HN6 := Lib.hid N6
              clear hq S6 N6
              go_wp2
              go_meet
              exact FIN.out q F6 w6 HQ.out HS6.out ((Next.of_below HB5.out).trans HN6.out)
            · have e0 : (o.kind == 0) = false := by rw [hk]; rfl
              have e1 : (o.kind == 1) = false := by rw [hk]; rfl
              have e2 : (o.kind == 2) = true := by rw [hk]; rfl
              have HKN := Lib.hid hk
              clear hk
              have HC := Lib.hid (rf_ins (o := o) HS4.out HI.out.wf (by have := HM.out; omega) HKN.out)
              go_wp2_with fail
              refine HC.out.mono ?_
              rintro e6 w6 ⟨q, rfl, hq, F6, S6, N6⟩
              have HQ := Lib.hid hq; have HS6 := Lib.hid S6; have HN6 := Lib.hid N6
              clear hq S6 N6
              go_wp2
              go_meet
              exact FIN.out q F6 w6 HQ.out HS6.out HN6.out
            · have e0 : (o.kind == 0) = false := by rw [hk]; rfl
              have e1 : (o.kind == 1) = false := by rw [hk]; rfl
              have e2 : (o.kind == 2) = false := by rw [hk]; rfl
              have e3 : (o.kind == 3) = true := by rw [hk]; rfl
              have HKN := Lib.hid hk
              clear hk
              have HC := Lib.hid (rf_rem (o := o) HS4.out HI.out.wf (by have := HM.out; omega) HKN.out)
              go_wp2_with fail
              refine HC.out.mono ?_
              rintro e6 w6 ⟨q, rfl, hq, F6, S6, N6⟩
              have HQ := Lib.hid hq; have HS6 := Lib.hid S6; have HN6 := Lib.hid N6
              clear hq S6 N6
              go_wp2
              go_meet
              exact FIN.out q F6 w6 HQ.out HS6.out HN6.out
            · have e0 : (o.kind == 0) = false := by rw [hk]; rfl
              have e1 : (o.kind == 1) = false := by rw [hk]; rfl
              have e2 : (o.kind == 2) = false := by rw [hk]; rfl
              have e3 : (o.kind == 3) = false := by rw [hk]; rfl
              have e4 : (o.kind == 4) = true := by rw [hk]; rfl
              have HKN := Lib.hid hk
              clear hk
              have HC := Lib.hid (rf_clone (o := o) HS4.out HI.out (by omega) (by have := HM.out; omega) HKN.out)
              go_wp2_with fail
              refine HC.out.mono ?_
              rintro e6 w6 ⟨a, q, rfl, hq, F6, S6, N6⟩
              have HQ := Lib.hid hq; have HS6 := Lib.hid S6; have HN6 := Lib.hid N6
              clear hq S6 N6
              go_wp2
              go_meet
              exact FIN.out q F6 w6 HQ.out HS6.out HN6.out
            · have e0 : (o.kind == 0) = false := by rw [hk]; rfl
              have e1 : (o.kind == 1) = false := by rw [hk]; rfl
              have e2 : (o.kind == 2) = false := by rw [hk]; rfl
              have e3 : (o.kind == 3) = false := by rw [hk]; rfl
              have e4 : (o.kind == 4) = false := by rw [hk]; rfl
              have e5 : (o.kind == 5) = true := by rw [hk]; rfl
              have HKN := Lib.hid hk
              clear hk
              have HC := Lib.hid (rf_attr (o := o) HS4.out HI.out (by omega) HOO.out.name HKN.out)
              go_wp2_with fail
              refine HC.out.mono ?_
              rintro e6 w6 ⟨q, rfl, hq, F6, S6, N6⟩
              have HQ := Lib.hid hq; have HS6 := Lib.hid S6; have HN6 := Lib.hid N6
              clear hq S6 N6
              go_wp2
              go_meet
              exact FIN.out q F6 w6 HQ.out HS6.out HN6.out
            · have e0 : (o.kind == 0) = false := by rw [hk]; rfl
              have e1 : (o.kind == 1) = false := by rw [hk]; rfl
              have e2 : (o.kind == 2) = false := by rw [hk]; rfl
              have e3 : (o.kind == 3) = false := by rw [hk]; rfl
              have e4 : (o.kind == 4) = false := by rw [hk]; rfl
              have e5 : (o.kind == 5) = false := by rw [hk]; rfl
              have e6 : (o.kind == 6) = true := by rw [hk]; rfl
              have HKN := Lib.hid hk
              clear hk
              have HC := Lib.hid (rf_drop (o := o) HS4.out HI.out (by omega) HKN.out)
              go_wp2_with fail
              refine HC.out.mono ?_
              rintro e6 w6 ⟨q, rfl, hq, F6, S6, N6⟩
              have HQ := Lib.hid hq; have HS6 := Lib.hid S6; have HN6 := Lib.hid N6
              clear hq S6 N6
              go_wp2
              go_meet
              exact FIN.out q F6 w6 HQ.out HS6.out HN6.out
            · have e0 : (o.kind == 0) = false := by rw [hk]; rfl
              have e1 : (o.kind == 1) = false := by rw [hk]; rfl
              have e2 : (o.kind == 2) = false := by rw [hk]; rfl
              have e3 : (o.kind == 3) = false := by rw [hk]; rfl
              have e4 : (o.kind == 4) = false := by rw [hk]; rfl
              have e5 : (o.kind == 5) = false := by rw [hk]; rfl
              have e6 : (o.kind == 6) = false := by rw [hk]; rfl
              have e7 : (o.kind == 7) = true := by rw [hk]; rfl
              have HKN := Lib.hid hk
              clear hk
              have HC := Lib.hid (rf_data (o := o) HS4.out HKN.out)
              go_wp2_with fail
              refine HC.out.mono ?_
              rintro e6 w6 ⟨q, rfl, hq, F6, S6, N6⟩
              have HQ := Lib.hid hq; have HS6 := Lib.hid S6; have HN6 := Lib.hid N6
              clear hq S6 N6
              go_wp2
              go_meet
              exact FIN.out q F6 w6 HQ.out HS6.out HN6.out
            · have hno : opM M o = M := by unfold opM; simp [hk.1, hk.2.1, hk.2.2.1, hk.2.2.2.1, hk.2.2.2.2.1, hk.2.2.2.2.2.1, hk.2.2.2.2.2.2.1, hk.2.2.2.2.2.2.2]
              obtain ⟨k0, k1, k2, k3, k4, k5, k6, k7⟩ := hk
              have e0 : (o.kind == 0) = false := beq_eq_false_iff_ne.2 k0
              have e1 : (o.kind == 1) = false := beq_eq_false_iff_ne.2 k1
              have e2 : (o.kind == 2) = false := beq_eq_false_iff_ne.2 k2
              have e3 : (o.kind == 3) = false := beq_eq_false_iff_ne.2 k3
              have e4 : (o.kind == 4) = false := beq_eq_false_iff_ne.2 k4
              have e5 : (o.kind == 5) = false := beq_eq_false_iff_ne.2 k5
              have e6 : (o.kind == 6) = false := beq_eq_false_iff_ne.2 k6
              have e7 : (o.kind == 7) = false := beq_eq_false_iff_ne.2 k7
              clear k0 k1 k2 k3 k4 k5 k6 k7
              have HNO := Lib.hid hno
              clear hno
              go_wp2
              go_meet
              exact FIN.out 0 F w4 (fun h => absurd rfl h) (by rw [HNO.out]; exact HS4.out) (Next.refl _ _)
          case rest =>
            obtain ⟨q, rfl, hq, F6, S6, n6⟩ := hcut
            rename World => w6
            have HOL := Lib.hid (opM_len HI.out.wf o)
            have HOI := Lib.hid (HI.out.op (by omega) o)
            have HS6 := Lib.hid S6; have HN6 := Lib.hid n6
            have HL6 := Lib.hid S6.one.len
            by_cases hq0 : q = 0
            · subst hq0
              have hlt : ¬ ((opM M o).length : Int) < M.length := by have := HOL.out; omega
              clear hq S6 n6
              go_wp2_with fail
              refine HL6.out.mono ?_
              rintro e7 w7 ⟨rfl, rfl⟩
              go_wp2_with fail
              go_roundw
              case rel => exact ⟨j + 1, opM M o, by go_num, by omega, HS6.out.one, by rw [show 4 + (j + 1) = 4 + j + 1 from rfl]; exact HOI.out, by have := HOL.out; omega⟩
              case measure => simp [intOf]; omega
            · have hno := hq hq0
              have hqb : (q != 0) = true := by rw [bne_iff_ne]; exact hq0
              rw [hno] at HS6 HL6 HOI
              have HI6 := Lib.hid (HOI.out)
              have HR6 := Lib.hid (HS6.out.rows HI.out (by omega) (by have := HM.out; omega) 0)
              have HNO := Lib.hid hno
              clear hq S6 n6 hq0 hno
              go_wp2_with fail
              refine HL6.out.mono ?_
              rintro e7 w7 ⟨rfl, rfl⟩
              go_wp2_with fail
              refine HR6.out.mono ?_
              rintro e8 w8 ⟨v8, l8, rfl, hl8, hll8, S8, hk8, hb8⟩
              have HSA := Lib.hid (refSame1 v8 vl l8 l w8 true (hk8 w8 F6 (Next.refl _ _)) (HKP.out w8 F6 (HN6.out.trans (Next.of_below hb8))) (by omega) (by have := HLL.out; omega) (decide_eq_true (by rw [hl8, HLR.out])))
              have HS8 := Lib.hid S8
              clear hl8 hll8 S8 hk8 hb8
              go_wp2_with fail
              refine HSA.out.mono ?_
              rintro e9 w9 ⟨rfl, hb9⟩
              have S9 := HS8.out.below hb9
              have HL9 := Lib.hid S9.one.len
              have HS9 := Lib.hid S9
              clear hb9 S9
              go_wp2_with fail
              refine HL9.out.mono ?_
              rintro e10 w10 ⟨rfl, rfl⟩
              go_wp2_with fail
              go_roundw
              case rel => exact ⟨j + 1, M, by go_num, by omega, HS9.out.one, HI.out.more (by omega), HM.out⟩
              case measure => simp [intOf]; omega
        · have hm3 : ¬ (M.length : Int) < 300 := by omega
          have HB := Lib.hid HS.out.bel
          go_wp2_with fail
          refine HL.out.mono ?_
          rintro e wr' ⟨rfl, rfl⟩
          go_wp2_with fail
          refine (fixed11 _).mono ?_
          rintro e w6 ⟨rfl, hb6⟩
          have HB6 := Lib.hid (bt HB.out hb6)
          clear hb6
          go_wp2
          go_ret
          exact ⟨rfl, HB6.out⟩
      · have hj1 : (j : Int) < os.length := by omega
        have hj2 : ¬ (j : Int) < 40 := by omega
        have HB := Lib.hid HS.out.bel
        go_wp2_with fail
        refine (fixed11 _).mono ?_
        rintro e w6 ⟨rfl, hb6⟩
        have HB6 := Lib.hid (bt HB.out hb6)
        clear hb6
        go_wp2
        go_ret
        exact ⟨rfl, HB6.out⟩
    · have hj1 : ¬ (j : Int) < os.length := by omega
      have HB := Lib.hid HS.out.bel
      go_wp2_with fail
      refine (fixed11 _).mono ?_
      rintro e w6 ⟨rfl, hb6⟩
      have HB6 := Lib.hid (bt HB.out hb6)
      clear hb6
      go_wp2
      go_ret
      exact ⟨rfl, HB6.out⟩
end Go.Proofs.Ytmlchbohijolaaa.Ar
