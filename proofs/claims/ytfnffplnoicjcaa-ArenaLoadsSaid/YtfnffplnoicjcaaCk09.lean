/-
  Stage 11, in plain words: what was loaded and put into the root stands there.
  Stage 11: ArenaMoves, walked.
  Stage 11: ArenaLoads, walked.
  What a statement's row says of the sizes of strings that lie within slices of structs: each is no greater than the reach.
  Stage 11: arguments that are calls of a script, as the statement's row reads them.
-/
import Derived.Test.YtfnffplnoicjcaaCk08
import Derived.Test.YtfnffplnoicjcaaCk05
import Derived.Deep.RegionHeld3
import Derived.Test.YtfnffplnoicjcaaCk04
import Derived.SizedLaws
namespace Go.Proofs.Ytfnffplnoicjcaa.Ar
set_option linter.unusedSimpArgs false
set_option linter.unusedVariables false
open Ro (At Ro deeper okRow right rightFrom parent dep hasRow kids below endOf dep_at)
theorem up_zero {M : List Nd} (W : Wf M) {b : Nat} (h : Up M 0 b) : b = 0 := by
  rw [up_iff] at h
  obtain ⟨_, h | ⟨p, h, _⟩⟩ := h
  · exact h.symm
  · rw [W.root] at h
    omega
/-- What a document is, a part of the loaded roots put into its root. -/
structure Put11 (M M1 Mi : List Nd) (R : List Nat) (i : Nat) : Prop where
  wf : Wf Mi
  len : Mi.length = M1.length
  ro : ∀ m, (nd Mi m).ro = (nd M1 m).ro
  kids0 : (nd Mi 0).kids = (nd M 0).kids ++ R.take i
  kids : ∀ m, m ≠ 0 → (nd Mi m).kids = (nd M1 m).kids
/-- What is known of a load: the old nodes, the roots. -/
structure Loaded (M M1 : List Nd) (R : List Nat) (l : List Ro) : Prop where
  wf : Wf M
  wf1 : Wf M1
  lt : M.length ≤ M1.length
  len : M1.length = M.length + l.length
  old : ∀ m < M.length, nd M1 m = nd M m
  high : ∀ r ∈ R, M.length ≤ r ∧ r < M1.length ∧ (nd M1 r).up = -1
  nodup : R.Nodup
  rows : R.flatMap (fun r => tr M1 r 0) = l
theorem loaded_of {M : List Nd} {l : List Ro} (W : Wf M) (hr : right l = true) (hl : l.length ≤ 1000) : Loaded M (loadTo M.length l (parI l) M l.length) (rootsTo M.length (parI l) l.length) l := by
  have hll := load_len M.length l (parI l) M l.length
  have hnd := load_nd (l := l) W par_less l.length (Nat.le_refl _)
  refine ⟨W, load_wf (l := l) W l.length par_less, by omega, hll, hnd.2.1, fun r hrr => ?_, ?_, ?_⟩
  · rw [rootsTo_eq] at hrr
    obtain ⟨j, hj, rfl⟩ := List.mem_map.1 hrr
    obtain ⟨hj1, hj2⟩ := List.mem_filter.1 hj
    have hj1 := List.mem_range.1 hj1
    have hj2 := of_decide_eq_true hj2
    refine ⟨by omega, by omega, ?_⟩
    rw [hnd.2.2 j hj1, if_pos hj2]
  · rw [rootsTo_eq]
    have h : ((List.range l.length).filter fun j => decide (parI l j < 0)).Pairwise (· ≠ ·) := List.Pairwise.filter _ List.nodup_range
    exact List.pairwise_map.2 (h.imp fun {a b} h e => h (Nat.add_left_cancel e))
  · rw [roots_are hr hl, List.flatMap_map]
    exact load_roots hr hl W
section
variable {M M1 Mi : List Nd} {R : List Nat} {l : List Ro} {i : Nat}
theorem put_start (L : Loaded M M1 R l) : Put11 M M1 M1 R 0 := ⟨L.wf1, rfl, fun _ => rfl, by rw [List.take_zero, List.append_nil, L.old 0 L.wf.pos], fun _ _ => rfl⟩
theorem put_next (L : Loaded M M1 R l) (P : Put11 M M1 Mi R i) (hi : i < R.length) : insE Mi 0 ((nd Mi 0).kids.length : Nat) (R[i] : Nat) = 0 ∧ Put11 M M1 (insM Mi 0 ((nd Mi 0).kids.length : Nat) (R[i] : Nat)) R (i + 1) := by
  obtain ⟨r, hr⟩ : ∃ r, R[i] = r := ⟨_, rfl⟩
  obtain ⟨h1, h2, h3⟩ := L.high r (hr ▸ List.getElem_mem hi)
  have hlt := L.lt
  have hlen := P.len
  have hpos := L.wf.pos
  have hno0 : r ∉ (nd Mi 0).kids := by
    rw [P.kids0, List.mem_append, not_or]
    refine ⟨fun h => ?_, fun h => ?_⟩
    · have := (L.wf.kid_lt h).1
      omega
    · obtain ⟨j, hj, hjr⟩ := List.getElem_of_mem h
      rw [List.getElem_take, ← hr] at hjr
      rw [List.length_take] at hj
      have := (List.getElem_inj L.nodup).1 hjr
      omega
  have hno : ∀ m, m ≠ 0 → r ∉ (nd Mi m).kids := fun m hm h => by
    rw [P.kids m hm] at h
    have := ((L.wf1.kid m r).1 h).2
    omega
  rw [hr]
  have c1 : ¬ ((0 : Int) < 0 ∨ (Mi.length : Int) ≤ 0 ∨ (r : Int) < 1 ∨ (Mi.length : Int) ≤ r) := by omega
  have c2 : ¬ ((0 < (0 : Int) ∧ (nd Mi (0 : Int).toNat).ro.kind ≠ 0) ∨ Win Mi 0 r) := by
    rintro (h | h)
    · exact absurd h.1 (by omega)
    · have := up_zero P.wf ((win_nat (a := 0) (b := r)).1 h)
      omega
  have hf : ((nd Mi (0 : Int).toNat).kids.filter (· != (r : Int).toNat)) = (nd Mi 0).kids := filter_none11 hno0
  have c3 : ¬ (((nd Mi 0).kids.length : Int) < 0 ∨ (((nd Mi (0 : Int).toNat).kids.filter (· != (r : Int).toNat)).length : Int) < ((nd Mi 0).kids.length : Int)) := by
    rw [hf]
    omega
  obtain ⟨e1, e2⟩ := ins_0 c1 c2 c3
  refine ⟨e1, ?_⟩
  rw [e2]
  show Put11 M M1 (setM Mi 0 (nd Mi 0).kids.length r) R (i + 1)
  have hP : 0 < Mi.length := by omega
  have hN : r < Mi.length := by omega
  refine ⟨P.wf.set hP hN (by omega) (fun hu => by have := up_zero P.wf hu; omega) _, by rw [len_set]; exact hlen, fun m => by rw [nd_set hP hN]; exact P.ro m, ?_, fun m hm => ?_⟩
  · rw [nd_set hP hN, if_pos rfl]
    show putAt10 ((nd Mi 0).kids.filter (· != r)) _ r = _
    rw [filter_none11 hno0]
    unfold putAt10
    rw [List.take_length, List.drop_length, P.kids0, List.take_add_one, List.getElem?_eq_getElem hi, hr, List.append_assoc]
    rfl
  · rw [nd_set hP hN]
    show (if m = 0 then _ else _) = _
    rw [if_neg hm, filter_none11 (hno m hm)]
    exact P.kids m hm
theorem put_end (L : Loaded M M1 R l) (P : Put11 M M1 Mi R R.length) : rowsM Mi 0 = rowsM M 0 ++ l := by
  rw [rows_zero P.wf, rows_zero L.wf, P.kids0, List.take_length, List.flatMap_append]
  have hlen := P.len
  congr 1
  · refine flatMap_congr fun k hk => ?_
    obtain ⟨hk0, hkl⟩ := kid_not_root L.wf hk
    refine tr_congr L.wf P.wf hkl (by have := L.lt; omega) (fun m hu => ?_) 0
    have hm0 : m ≠ 0 := fun e => by
      subst e
      exact hk0 (up_zero L.wf hu)
    have := hu.lt.1
    rw [P.ro, P.kids m hm0, L.old m this]
    exact ⟨rfl, rfl⟩
  · rw [← L.rows]
    refine flatMap_congr fun r hr => ?_
    obtain ⟨h1, h2, h3⟩ := L.high r hr
    have hpos := L.wf.pos
    refine tr_congr L.wf1 P.wf h2 (by omega) (fun m hu => ?_) 0
    have hm0 : m ≠ 0 := fun e => by
      subst e
      have := up_zero L.wf1 hu
      omega
    exact ⟨P.ro m, P.kids m hm0⟩
end
end Go.Proofs.Ytfnffplnoicjcaa.Ar

namespace Go.Proofs.Ytfnffplnoicjcaa.Ar
set_option linter.unusedSimpArgs false
set_option linter.unusedVariables false
open Go.RowKit Ba
open Ro (At Ro Cw ros Rr Ow Nw Fr Att Ap Sh Ra Rv Held cells acells below_new infoI info_row len_cells rowV rowO Few check right refSame1)
theorem Script.to {w w' : World} {v : Value} {os : List Op11} (h : Script w w.heap.size v os) (hb : Below w.heap.size w w') : Script w' w'.heap.size v os := by
  obtain ⟨A, c, rfl, hc, hm, hat, hok⟩ := h
  have hs := hb.size
  refine ⟨A, c, rfl, hc, hm, fun h0 => ?_, fun o ho => ?_⟩
  · obtain ⟨b, off, hA, hbl, hcell⟩ := hat h0
    exact ⟨b, off, hA, by omega, fun j hj i u hu => (hb.cell (p := ⟨b, _, none⟩) hbl).trans (hcell j hj i u hu)⟩
  · have h1 := (hok o ho).below hb
    exact ⟨h1.cap, h1.rows.more hs, h1.held, h1.name, h1.what⟩
theorem bel_eq {w w1 w2 : World} {n : Nat} (h : Below n w w1) (he : w2.heap = w1.heap) (ho : w2.os = w1.os) (ht : w2.tape = w1.tape) (hp : w2.output = w1.output) : Below n w w2 := ⟨ho.trans h.os, ht.trans h.tape, hp.trans h.output, by rw [he]; exact h.size, fun b hb => by rw [he]; exact h.block b hb⟩
end Go.Proofs.Ytfnffplnoicjcaa.Ar

namespace Go.Proofs.Ytfnffplnoicjcaa.Ar
set_option maxRecDepth 100000
set_option linter.unusedSimpArgs false
set_option linter.unusedVariables false
open Go.RowKit Ba
open Ro (At Ro Cw ros Rr Ow Nw Fr Att Ap Sh Ra Rv Held cells acells below_new infoI info_row len_cells rowV rowO Few check right refSame1 Join_any)
theorem OneF.load {w0 w : World} {F : Nat → Prop} {p : Nat} {M : List Nd} (S : OneF w0 w F p M) (W : Wf M) (hm : M.length ≤ 4500) {v : Value} {l : List Cw} (hv : ∀ w2, Touch F w w2 → Rv w2 v l) (hl : l.length ≤ 400) (hf : Few (ros l)) (q : Int) (hq : loadE M (ros l) = q) :
    Calls Try.prog 8 #[ptr p, v] w fun e w' => ∃ u F', e = .returned (.tuple #[u, .int .i64 q]) ∧ OneF w0 w' F' p (if q = 0 then loadTo M.length (ros l) (parI (ros l)) M (ros l).length else M) ∧ Next w w' F F' ∧ Nw w.heap.size w' u (if q = 0 then rootsTo M.length (parI (ros l)) (ros l).length else []) ∧ ∀ b, u.ownBlock = some b → ¬ F' b := by
  subst hq
  refine (loadP1 v l w S.doc W hm hv hl hf).mono ?_
  rintro e w' ⟨u, rfl, hn, F', D', n, hu⟩
  rw [← Ro.len_ros] at hn D'
  obtain ⟨F2, S2, _⟩ := step_of S D' n
  have hs := S.bel.size
  have hs' := n.1.size
  refine ⟨u, F', rfl, ⟨D', fun b h => ?_, S2.bel⟩, n, hn, hu⟩
  rcases n.2.2 b h with h | h
  · exact S.low b h
  · omega
theorem OneF.trees {w0 w : World} {F : Nat → Prop} {p : Nat} {M : List Nd} (S : OneF w0 w F p M) {A : Option Addr} {c : Nat} {l : List Cw} (hr : Rr w0 w0.heap.size A l) (hc : l.length ≤ c) (hm : c ≤ maxLen) (hh : Held (ros l)) : Calls Try.prog 5 #[.slice A l.length c] w fun e w' => ∃ A' c' l', e = .returned (.slice A' l'.length c') ∧ OneF w0 w' F p M ∧ Below w.heap.size w w' ∧ ros l' = cut12 (ros l) ∧ (∀ w2, Touch F w' w2 → Rv w2 (.slice A' l'.length c') l') := by
  have hs := S.bel.size
  refine (trees1 w0.heap.size A c l w (hr.below S.bel) hs hc hm).mono ?_
  rintro e w' ⟨v, l', rfl, ho, ha, hr', hb⟩
  obtain ⟨A', c', rfl, _⟩ := ho.form
  exact ⟨A', c', l', rfl, S.below hb, hb, hr', fun w2 t => rv_trees ho ha (by rw [hr']; exact held_cut hh) (fun b hf => ⟨S.low b hf, S.bd b hf⟩) t⟩
theorem check_of_load {M : List Nd} {l : List Ro} (h : loadE M l = 0) : right l = true := by
  unfold loadE at h
  by_cases hc : check l = 0
  · exact check_right hc
  · rw [if_neg hc] at h
    exact absurd h hc
set_option maxRecDepth 100000 in
set_option maxHeartbeats 8000000 in
theorem law_loads (v v1 : Value) (os : List Op11) (l : List Cw) (w : World) (S : Script w w.heap.size v os) (hv : Rv w v1 l) (_ : True) (_ : True) : Calls Try.prog 3 #[v, v1] w fun e w' => e = .returned (.bool true) ∧ Below w.heap.size w w' := by
  have HPL := Lib.hid (played11 v os w S)
  obtain ⟨A, c, rfl, hc, hcm, hrr, hh⟩ := hv
  have HRR := Lib.hid hrr; have HH := Lib.hid hh
  clear S hrr hh
  go_enter Try.func3, Try.ntmps3
  go_wp2_with fail
  refine HPL.out.mono ?_
  rintro e w1 ⟨p, M, rfl, So, I, hm⟩
  obtain ⟨F, S1⟩ := So.of
  have HI := Lib.hid I; have HM := Lib.hid hm
  have HTR := Lib.hid (S1.trees HRR.out hc hcm HH.out)
  clear So S1 I hm HPL
  go_wp2_with fail
  refine HTR.out.mono ?_
  rintro e w2 ⟨A2, c2, l2, rfl, S2, hb2, hr2, hv2⟩
  have HL2 := Lib.hid hr2; have HV2 := Lib.hid hv2
  have HL12 := Lib.hid (show l2.length ≤ 12 by rw [← Ro.len_ros, hr2]; exact cut12_len _)
  have HRW := Lib.hid (S2.rows HI.out (by decide) (by have := HM.out; omega) 0)
  clear S2 hb2 hr2 hv2 HTR
  go_wp2_with fail
  refine HRW.out.mono ?_
  rintro e w3 ⟨v3, l3, rfl, hl3, hll3, S3, hk3, hb3⟩
  have HL3 := Lib.hid hl3; have HLL3 := Lib.hid hll3; have HK3 := Lib.hid hk3; have HB3 := Lib.hid hb3
  have HLN := Lib.hid S3.one.len; have HS3 := Lib.hid S3
  clear S3 hl3 hll3 hk3 hb3 HRW
  go_wp2_with fail
  refine HLN.out.mono ?_
  rintro e w3' ⟨rfl, rfl⟩
  obtain ⟨q, hq⟩ : ∃ q, loadE M (ros l2) = q := ⟨_, rfl⟩
  have HLD := Lib.hid (HS3.out.load HI.out.wf (by have := HM.out; omega) (fun w2' t => HV2.out w2' ((Touch.of_below HB3.out).trans t fun x _ h => h)) (by have := HL12.out; omega) (by rw [HL2.out]; exact few_cut _) q hq)
  have HQ := Lib.hid hq
  clear hq
  go_wp2_with fail
  refine HLD.out.mono ?_
  rintro e w4 ⟨u, F4, rfl, S4, N4, hn4, hu4⟩
  have HN4 := Lib.hid N4
  by_cases hq0 : q = 0
  · subst hq0
    rw [if_pos rfl] at S4 hn4
    have hright := check_of_load HQ.out
    have hlen2 : (ros l2).length ≤ 12 := by rw [Ro.len_ros]; exact HL12.out
    obtain ⟨M1, hM1⟩ : ∃ M1, loadTo M.length (ros l2) (parI (ros l2)) M (ros l2).length = M1 := ⟨_, rfl⟩
    obtain ⟨R, hR⟩ : ∃ R, rootsTo M.length (parI (ros l2)) (ros l2).length = R := ⟨_, rfl⟩
    have hL := loaded_of HI.out.wf hright (by omega)
    have HRL := Lib.hid (show R.length ≤ 12 from hR ▸ Nat.le_trans (roots_len _ _ _) hlen2)
    have hI1 : Inv 50 M1 := hM1 ▸ HI.out.load hright (fun x hx => by
      rw [HL2.out] at hx
      have := cut12_attrs _ x hx
      omega) (ros l2).length (Nat.le_refl _)
    rw [hM1] at S4 hL
    rw [hR] at hn4 hL
    have HL := Lib.hid hL; have HS4 := Lib.hid S4; have HNW := Lib.hid hn4; have HU := Lib.hid hu4; have HI1 := Lib.hid hI1
    have HLM := Lib.hid (show M1.length ≤ 1000 by have := HM.out; have := hL.len; omega)
    obtain ⟨Au, cu, rfl, hcu, hmu, _⟩ := nw_rn hn4
    clear S4 hn4 hu4 N4 hright hM1 hR hL hI1 HLD
    go_wp2_with fail
    go_loopw [10] (fun i wr => ∃ (k : Nat) (Mk : List Nd) (Fk : Nat → Prop), i = .int .i64 k ∧ k ≤ R.length ∧ OneF w wr Fk p Mk ∧ Put11 M M1 Mk R k ∧ Inv 50 Mk ∧ Next w4 wr F4 Fk) (fun i _ => R.length - (intOf i).toNat)
    case atStart => exact ⟨0, M1, F4, rfl, Nat.zero_le _, HS4.out, put_start HL.out, HI1.out, Next.refl _ _⟩
    case round =>
      obtain ⟨k, Mk, Fk, rfl, hk, Sk, Pk, Ik, Nk⟩ := hrel
      have HSk := Lib.hid Sk; have HPk := Lib.hid Pk; have HIk := Lib.hid Ik; have HNk := Lib.hid Nk
      clear Sk Pk Ik Nk
      by_cases hkl : k < R.length
      · have hki : (k : Int) < R.length := by omega
        obtain ⟨r, hr⟩ : ∃ r, R[k] = r := ⟨_, rfl⟩
        obtain ⟨hz, hP⟩ := put_next HL.out HPk.out hkl
        rw [hr] at hz hP
        obtain ⟨M2, hM2⟩ : ∃ M2, insM Mk 0 ((nd Mk 0).kids.length : Nat) (r : Nat) = M2 := ⟨_, rfl⟩
        have hI2 : Inv 50 M2 := hM2 ▸ HIk.out.ins _ _ _
        rw [hM2] at hP
        have hlk : Mk.length ≤ 1000 := by rw [HPk.out.len]; exact HLM.out
        obtain ⟨A', c', he, _, _, hat⟩ := nw_rn (nw_touch HNW.out HNk.out.1 HU.out)
        injection he with he1 he2 he3
        subst he1 he3
        obtain ⟨bu, ou, hA, hbu, hcell⟩ := hat (by omega)
        subst hA
        have x0 := hcell k hkl
        rw [hr] at x0
        have HCU := Lib.hid (fun (wz : World) (Fz : Nat → Prop) (nz : Next w4 wz F4 Fz) => show wz.cell? ⟨bu, ou + k, none⟩ = some (.int .i64 r) from by
          obtain ⟨A', c', he, _, _, hat⟩ := nw_rn (nw_touch HNW.out nz.1 HU.out)
          injection he with he1 he2 he3
          subst he1
          obtain ⟨b2, o2, hA2, _, hc2⟩ := hat (by omega)
          injection hA2 with hA2
          injection hA2 with e1 e2
          subst e1 e2
          have := hc2 k hkl
          rw [hr] at this
          exact this)
        have HKI := Lib.hid (fun (wx : World) (hb : Below wr.heap.size wr wx) => (HSk.out.below hb).one.kids HIk.out.wf (by omega) 0)
        have HIN := Lib.hid (fun (wx : World) (hb : Below wr.heap.size wr wx) => (HSk.out.below hb).insert HIk.out.wf (by omega) 0 ((nd Mk 0).kids.length : Nat) (r : Nat) 0 M2 hz hM2)
        have HP2 := Lib.hid hP; have HI2 := Lib.hid hI2
        have HKL := Lib.hid hkl
        have hrl := HRL.out
        clear hz hP hM2 hI2 hlk hat hcell hr
        go_wp2_with fail
        go_region_held3 (fun w' => w'.cell? ⟨bu, ou + k, none⟩ = some (.int .i64 r)) (first | exact x0 | exact HCU.out _ _ (HNk.out.trans (Next.of_below (F := Fk) (bel_eq HBA.out rfl rfl rfl rfl))) | exact HCU.out _ _ HNB.out | go_keep) (first
          | (go_at_call 12; go_loud (refine (HKI.out _ (by exact bel_eq (Below.refl _ wr) rfl rfl rfl rfl)).mono ?_); rintro ea wA ⟨va, rfl, hna, hba⟩; obtain ⟨A5, c5, rfl, _, _, _⟩ := nw_rn hna; have hba' : Below wr.heap.size wr wA := ⟨hba.os, hba.tape, hba.output, hba.size, hba.block⟩; have HBA := Lib.hid hba'; clear hna hba hba')
          | (go_at_call 11; go_loud (refine (HIN.out _ (by exact bel_eq HBA.out rfl rfl rfl rfl)).mono ?_); rintro eb wB ⟨rfl, FB, SB, NB⟩; have HSB := Lib.hid SB; have hnb : Next w4 wB F4 FB := HNk.out.trans (Next.trans (Next.of_below (bel_eq HBA.out rfl rfl rfl rfl)) NB); have HNB := Lib.hid hnb; clear SB NB hnb))
        go_simp
        go_wp2_with fail
        go_roundw
        case rel => exact ⟨k + 1, M2, FB, by go_num, HKL.out, HSB.out, HP2.out, HI2.out, HNB.out⟩
        case measure =>
          have := HKL.out
          simp [intOf]
          omega
      · have hki : ¬ (k : Int) < R.length := by omega
        have hke : k = R.length := by omega
        subst hke
        have hend := put_end HL.out HPk.out
        have hlk : Mk.length ≤ 1000 := by rw [HPk.out.len]; exact HLM.out
        have hlen2 : (Mk.length : Int) = M.length + l2.length := by
          rw [HPk.out.len, HL.out.len, Ro.len_ros]
          omega
        have HRW := Lib.hid (HSk.out.rows HIk.out (by decide) (by omega) 0)
        have HEND := Lib.hid hend; have HLE := Lib.hid hlen2
        clear hend hlk hlen2
        go_wp2_with fail
        refine HRW.out.mono ?_
        rintro e w5 ⟨v5, l5, rfl, hl5, hll5, S5, hk5, hb5⟩
        have n5 := HN4.out.trans (HNk.out.trans (Next.of_below (F := Fk) hb5))
        have hwas := HK3.out w5 Fk n5
        have hnew := HV2.out w5 ((Touch.of_below HB3.out).trans n5.1 fun x _ h => h)
        obtain ⟨A3, c3, rfl, hc3, hm3, hr3, hh3⟩ := hwas
        obtain ⟨A9, c9, he9, hc9, hm9, hr9, hh9⟩ := hnew
        injection he9 with he1 he2 he3
        subst he1 he3
        have hfw : Few (ros l3) := by
          rw [HL3.out]
          intro x hx
          have := tree_lim HI.out 0 x hx
          omega
        have HJ := Lib.hid (Join_any A3 _ c3 _ l3 l2 w5 hr3 hr9 hc3 hc9 (by have := HLL3.out; omega) (by have := HL12.out; omega) hfw (by rw [HL2.out]; exact few_cut _) hh3 hh9)
        have HK5 := Lib.hid (hk5 w5 Fk (Next.refl _ _)); have HL5 := Lib.hid hl5; have HLL5 := Lib.hid hll5; have HS5 := Lib.hid S5
        clear hl5 hll5 S5 hk5 hb5 n5 hr3 hh3 hr9 hh9 hfw HRW
        go_wp2_with fail
        refine HJ.out.mono ?_
        rintro e w6 ⟨v6, l6, rfl, ho6, hf6, hr6, hb6⟩
        have h6 : ros l6 = rowsM Mk 0 := by rw [hr6, HL3.out, HEND.out]
        have hv6 : Rv w6 v6 l6 := ho6.rv (by rw [h6]; exact rows_held HIk.out (by have := HPk.out.len; have := HLM.out; omega) 0)
        have hll6 : l6.length ≤ 6000 := by
          rw [← Ro.len_ros, hr6, List.length_append, Ro.len_ros, Ro.len_ros]
          have := HLL3.out
          have := HL12.out
          omega
        have HSA := Lib.hid (refSame1 v5 v6 l5 l6 w6 true (HK5.out.below hb6) hv6 (by have := HLL5.out; omega) (by omega) (decide_eq_true (by rw [HL5.out, h6])))
        have HS6 := Lib.hid (HS5.out.below hb6)
        clear ho6 hf6 hr6 hb6 h6 hv6 hll6 HJ
        go_wp2_with fail
        refine HSA.out.mono ?_
        rintro e w7 ⟨rfl, hb7⟩
        have S7 := HS6.out.below hb7
        have HL7 := Lib.hid S7.one.len
        have HB7 := Lib.hid S7.bel
        have hwr : wrap64 ((M.length : Int) + l2.length) = (Mk.length : Int) := by
          have := HLE.out
          have := HM.out
          have := HL12.out
          unfold wrap64
          omega
        clear S7 hb7 HSA
        go_wp2_with fail
        refine HL7.out.mono ?_
        rintro e w8 ⟨rfl, rfl⟩
        go_wp2_with fail
        refine (fixed11 _).mono ?_
        rintro e w9 ⟨rfl, hb9⟩
        have HB9 := Lib.hid (bt HB7.out hb9)
        clear hb9
        go_wp2
        go_ret
        exact ⟨rfl, HB9.out⟩
  · have hqb : (q != 0) = true := by rw [bne_iff_ne]; exact hq0
    rw [if_neg hq0] at S4 hn4
    have HLN4 := Lib.hid S4.one.len
    have HR4 := Lib.hid (S4.rows HI.out (by decide) (by have := HM.out; omega) 0)
    clear S4 hn4 hu4 N4 hq0 HLD
    go_wp2_with fail
    refine HLN4.out.mono ?_
    rintro e w4' ⟨rfl, rfl⟩
    go_wp2_with fail
    refine HR4.out.mono ?_
    rintro e w5 ⟨v5, l5, rfl, hl5, hll5, S5, hk5, hb5⟩
    have HSA := Lib.hid (refSame1 v5 v3 l5 l3 w5 true (hk5 w5 F4 (Next.refl _ _)) (HK3.out w5 F4 (HN4.out.trans (Next.of_below hb5))) (by omega) (by have := HLL3.out; omega) (decide_eq_true (by rw [hl5, HL3.out])))
    have HS5 := Lib.hid S5.bel
    clear hl5 hll5 S5 hk5 hb5 HR4
    go_wp2_with fail
    refine HSA.out.mono ?_
    rintro e w6 ⟨rfl, hb6⟩
    have HB6 := Lib.hid (bt HS5.out hb6)
    clear hb6
    go_wp2_with fail
    refine (fixed11 _).mono ?_
    rintro e w7 ⟨rfl, hb7⟩
    have HB7 := Lib.hid (bt HB6.out hb7)
    clear hb7
    go_wp2
    go_ret
    exact ⟨rfl, HB7.out⟩
end Go.Proofs.Ytfnffplnoicjcaa.Ar

namespace Go.Proofs.Ytfnffplnoicjcaa.Rz
set_option maxRecDepth 100000
set_option linter.unusedVariables false
set_option linter.unusedSimpArgs false
open Go.RowKit Ba Go.ChangeShapes Go.WideShapes Go.Deep
open Ro (At Ro Cw ros Rv Rr Att Held cells acells Ra Sh)
/-- Each string that is read there, and each row of memory, is within the reach. -/
def Within {H : Type} (P : Program) (t : TypeId) (d : DataW H) : Prop := ∀ m ∈ d.weights P t, m ≤ reachBytes
theorem within_all {H : Type} {P : Program} {e : TypeId} {d : DataW H} {m : Nat} : ∀ {l : List (DataW H)}, d ∈ l → m ∈ d.weights P e → m ∈ DataW.weightsAll P e l
  | [], h, _ => by cases h
  | x :: r, h, hm => by
    rw [DataW.weightsAll, List.mem_append]
    rcases List.mem_cons.1 h with rfl | h
    · exact .inl hm
    · exact .inr (within_all h hm)
theorem Within.elem {H : Type} {P : Program} {t e : TypeId} {l sp : List (DataW H)} {d : DataW H} (h : Within P t (.slice l sp)) (ht : P.underlying t = some (.slice e)) (hd : d ∈ l) : Within P e d := fun m hm => h m (by
  simp only [DataW.weights, ht, List.mem_cons, List.mem_append]
  exact .inr (.inl (within_all hd hm)))
theorem Within.part {H : Type} {P : Program} {t : TypeId} {fs : Array Field} {l : List (DataW H)} {d : DataW H} {j : Nat} {f : Field} (h : Within P t (.agg l)) (ht : P.underlying t = some (.struct fs)) (hf : fs[j]? = some f) (hd : l[j]? = some d) : Within P f.type d := fun m hm => h m (by
  simp only [DataW.weights, ht]
  exact DataW.weights_mem_each (j := j) (by rw [List.getElem?_map, Array.getElem?_toList, hf]; rfl) hd m hm)
theorem Within.str {H : Type} {P : Program} {t : TypeId} {s : ByteArray} (h : Within P t (.lit (.string s.data.toList) : DataW H)) : s.size ≤ reachBytes := by
  have := h s.data.toList.length (by simp [DataW.weights])
  rw [Array.length_toList] at this
  exact this
theorem sized_all {H : Type} {P : Program} {ts : List TypeId} {ds : List (DataW H)} (h : (DataW.weightsEach P ts ds).all (· ≤ reachBytes) = true) {j : Nat} {t : TypeId} {d : DataW H} (ht : ts[j]? = some t) (hd : ds[j]? = some d) : Within P t d := fun m hm => by
  have := List.all_eq_true.1 h m (DataW.weights_mem_each ht hd m hm)
  simpa using this

theorem reach_le {n : Nat} (h : n ≤ reachBytes) : n ≤ 140737488355328 := Nat.le_trans h (by decide)
section
variable {H : Type} {enc : TypeId × Value → H} {w : World} {base : Nat}
end
end Go.Proofs.Ytfnffplnoicjcaa.Rz

namespace Go.Proofs.Ytfnffplnoicjcaa.Ar
set_option maxRecDepth 100000
set_option linter.unusedVariables false
set_option linter.unusedSimpArgs false
open Go.RowKit Ba Go.ChangeShapes Go.WideShapes Go.Deep
open Ro (At Ro Cw ros Rr Ow Nw Fr Att Ap Sh Ra Rv Held cells open_attrs int_range list_of open_rows_of)
open Rz (Within reach_le)
section
variable {H : Type} {enc : TypeId × Value → H} {P : Program} {w : World} {base : Nat} {spare : Nat → Bool} {held : Bool}
/-- A slice of structs of one-cell fields: its parts. -/
theorem open_rows_both {t e : TypeId} {fs : Array Field} {fuel : Nat} {cs : List Value} {x : DataW H × List MemPlace} (ht : P.underlying t = some (.slice e)) (he : P.underlying e = some (.struct fs))
    (hone : oneCellFields P fs = true) (hC : P.cellsOf e = fs.size) (h : DataW.trod enc P w base spare held fuel t cs = some x) :
    cs = [.slice none 0 0] ∨
    ∃ (a : Addr) (len cap m : Nat) (Pl : Nat → List MemPlace) (D : Nat → DataW H) (sp : List (DataW H)), cs = [.slice (some a) len cap] ∧ len ≤ cap ∧ cap ≤ maxLen ∧ m = (if spare a.block then cap else len) ∧
      x.1 = .slice ((List.range len).map D) sp ∧ x.2 = MemPlace.row a (m * fs.size) ++ (List.range m).flatMap Pl ∧
      ∀ i, i < m → ∀ (j : Nat) (f : Field), fs[j]? = some f → ∃ (v : Value) (y : DataW H × List MemPlace) (n : Nat) (parts : List (DataW H)), w.cell? (a.add (i * fs.size + j)) = some v ∧ (∀ z ∈ y.2, z ∈ Pl i) ∧ D i = .agg parts ∧ parts[j]? = some y.1 ∧ DataW.trod enc P w base spare held n f.type [v] = some y := by
  rcases open_slice ht h with ⟨h0, _⟩ | ⟨a, len, cap, m, n, D, Pl, hcs, hb, hl, hm, hmm, hx, hi⟩
  · exact .inl h0
  · refine .inr ⟨a, len, cap, m, Pl, D, _, hcs, hl, hm, hmm, by rw [hx], by rw [hx, hC], fun i him j f hj => ?_⟩
    obtain ⟨cs', hc, ht'⟩ := hi i him
    rw [hC] at hc
    obtain ⟨ys, n', hn', hy, hlen, hyl, hf⟩ := DataW.trod_struct he ht'
    obtain ⟨_, hcl, hat⟩ := World.cells?_some hc
    simp only [Prod.mk.injEq] at hy
    obtain ⟨ho, hk⟩ := hone_of hone j f hj
    have hjl : j < fs.size := (Array.getElem?_eq_some_iff.1 hj).1
    have hcell := hat j hjl
    have hv : cs'[j]? = some (cs'[j]'(by omega)) := List.getElem?_eq_getElem (by omega)
    have h1 := hf j f hj
    rw [ho, hk] at h1
    have hone' : (cs'.drop j).take 1 = [cs'[j]'(by omega)] := by
      rw [List.drop_eq_getElem_cons (by omega)]
      rfl
    rw [hone'] at h1
    have hys : ys[j]? = some (ys[j]'(by omega)) := List.getElem?_eq_getElem (by omega)
    refine ⟨_, _, n', _, ?_, fun z hz => ?_, hy.1, by rw [List.getElem?_map, hys]; rfl, h1.trans hys⟩
    · rw [← Go.Deep.add_add, hcell, hv]
    · rw [hy.2]
      exact List.mem_flatMap.2 ⟨_, List.getElem_mem _, hz⟩
end
section
variable {H : Type} {enc : TypeId × Value → H} {w : World} {base : Nat}
/-- Rows within a struct's field. -/
theorem open_rows_in {fuel : Nat} {v : Value} {x : DataW H × List MemPlace} (h : DataW.trod enc Try.prog w base (fun _ => true) true fuel 23 [v] = some x) (N : Nat) (hlt : ∀ z ∈ x.2, z.block < N) :
    ∃ A c l, v = .slice A l.length c ∧ l.length ≤ c ∧ c ≤ maxLen ∧ Rr w N A l ∧ Held (ros l) := by
  rcases open_rows_of Try.underlying23 Try.underlying47 (by kernel_rfl) (by kernel_rfl) h with hcs | ⟨a, len', cap', m, Pl, hcs, hl, hm, hmm, hx, hi⟩
  · obtain rfl : v = .slice none 0 0 := by simpa using hcs
    exact ⟨none, 0, [], rfl, Nat.le_refl _, Nat.zero_le _, Rr.nil _ _ _, fun _ h => by simp [ros] at h⟩
  · obtain rfl : v = .slice (some a) len' cap' := by simpa using hcs
    simp only [if_true] at hmm
    subst hmm
    obtain ⟨b, off, spot⟩ := a
    have hrow : ∀ i < len', ∃ r : Cw, (∀ (j : Nat) (u : Value), (cells r)[j]? = some u → w.cell? ((⟨b, off, spot⟩ : Addr).add (i * 5 + j)) = some u) ∧ Att w N r ∧ (-9223372036854775808 ≤ r.ro.depth ∧ r.ro.depth ≤ 9223372036854775807) := fun i hil => by
      obtain ⟨v0, y0, n0, hc0, _, ht0⟩ := hi i (by omega) 0 _ rfl
      obtain ⟨v1, y1, n1, hc1, _, ht1⟩ := hi i (by omega) 1 _ rfl
      obtain ⟨v2, y2, n2, hc2, _, ht2⟩ := hi i (by omega) 2 _ rfl
      obtain ⟨v3, y3, n3, hc3, _, ht3⟩ := hi i (by omega) 3 _ rfl
      obtain ⟨v4, y4, n4, hc4, hp4, ht4⟩ := hi i (by omega) 4 _ rfl
      obtain ⟨s0, e0, _, hs0⟩ := DataW.trod_int Try.underlying3 ht0
      obtain ⟨s1, e1, _, _⟩ := DataW.trod_int Try.underlying3 ht1
      obtain ⟨s2, e2, _, _⟩ := DataW.trod_string Try.underlying9 ht2
      obtain ⟨s3, e3, _, _⟩ := DataW.trod_string Try.underlying9 ht3
      obtain rfl : v0 = .int .i64 s0 := by simpa using e0
      obtain rfl : v1 = .int .i64 s1 := by simpa using e1
      obtain rfl : v2 = .string s2 := by simpa using e2
      obtain rfl : v3 = .string s3 := by simpa using e3
      obtain ⟨A, c, al, rfl, hac, hA, hcm, hra, hsh⟩ := open_attrs ht4 N fun z hz => hlt z (by
        rw [hx]
        exact List.mem_append_right _ (List.mem_flatMap.2 ⟨i, List.mem_range.2 (by omega), hp4 z hz⟩))
      refine ⟨⟨⟨s0, s1, s2, s3, al⟩, A, c⟩, fun j u hu => ?_, ⟨hac, hA, hcm, hra, hsh⟩, int_range hs0⟩
      match j, hu with
      | 0, hu => exact hc0.trans hu
      | 1, hu => exact hc1.trans hu
      | 2, hu => exact hc2.trans hu
      | 3, hu => exact hc3.trans hu
      | 4, hu => exact hc4.trans hu
      | j + 5, hu => exact absurd hu (by simp [cells])
    obtain ⟨l, hll, hq⟩ := list_of _ len' hrow
    refine ⟨some ⟨b, off, spot⟩, _, l, by rw [hll], by omega, hm, ⟨fun h0 => ?_, fun r hr => ?_⟩, fun r hr => ?_⟩
    · have hspot : spot = none := by
        have := World.cell?_spot ((hq 0 h0).1 0 _ rfl)
        simpa [Addr.add] using this
      subst hspot
      refine ⟨b, off, rfl, hlt (.cell b off) (by rw [hx]; exact List.mem_append_left _ (MemPlace.mem_row.2 ⟨0, by show 0 < _ * 5; omega, by simp⟩)), fun j hj k u hu => ?_⟩
      have := (hq j hj).1 k u hu
      rw [add_plain] at this
      rw [show off + j * 5 + k = off + (j * 5 + k) by omega]
      exact this
    · obtain ⟨j, hj, rfl⟩ := List.getElem_of_mem hr
      exact (hq j hj).2.1
    · obtain ⟨z, hz, rfl⟩ := List.mem_map.1 hr
      obtain ⟨j, hj, rfl⟩ := List.getElem_of_mem hz
      exact (hq j hj).2.2

/-- What eight fields of a call read as. -/
theorem op_of {vs : Nat → Value} {ys : Nat → DataW H × List MemPlace} {ns : Nat → Nat} {parts : List (DataW H)} (N : Nat) (hz : Within Try.prog 44 (.agg parts)) (hp : ∀ j < 8, parts[j]? = some (ys j).1) (hlt : ∀ z ∈ (ys 7).2, z.block < N)
    (t0 : DataW.trod enc Try.prog w base (fun _ => true) true (ns 0) 3 [vs 0] = some (ys 0)) (t1 : DataW.trod enc Try.prog w base (fun _ => true) true (ns 1) 3 [vs 1] = some (ys 1)) (t2 : DataW.trod enc Try.prog w base (fun _ => true) true (ns 2) 3 [vs 2] = some (ys 2)) (t3 : DataW.trod enc Try.prog w base (fun _ => true) true (ns 3) 3 [vs 3] = some (ys 3)) (t4 : DataW.trod enc Try.prog w base (fun _ => true) true (ns 4) 3 [vs 4] = some (ys 4))
    (t5 : DataW.trod enc Try.prog w base (fun _ => true) true (ns 5) 9 [vs 5] = some (ys 5)) (t6 : DataW.trod enc Try.prog w base (fun _ => true) true (ns 6) 9 [vs 6] = some (ys 6)) (t7 : DataW.trod enc Try.prog w base (fun _ => true) true (ns 7) 23 [vs 7] = some (ys 7)) :
    ∃ o : Op11, vs 0 = .int .i64 o.kind ∧ vs 1 = .int .i64 o.node ∧ vs 2 = .int .i64 o.other ∧ vs 3 = .int .i64 o.at_ ∧ vs 4 = .int .i64 o.what ∧ vs 5 = .string o.name ∧ vs 6 = .string o.value ∧ vs 7 = .slice o.A o.x.length o.c ∧ OpOk w N o := by
  obtain ⟨s0, e0, _, _⟩ := DataW.trod_int Try.underlying3 t0
  obtain ⟨s1, e1, _, _⟩ := DataW.trod_int Try.underlying3 t1
  obtain ⟨s2, e2, _, _⟩ := DataW.trod_int Try.underlying3 t2
  obtain ⟨s3, e3, _, _⟩ := DataW.trod_int Try.underlying3 t3
  obtain ⟨s4, e4, _, h4⟩ := DataW.trod_int Try.underlying3 t4
  obtain ⟨s5, e5, b5, _⟩ := DataW.trod_string Try.underlying9 t5
  obtain ⟨s6, e6, _, _⟩ := DataW.trod_string Try.underlying9 t6
  obtain ⟨A, c, l, e7, hlc, hcm, hrr, hh⟩ := open_rows_in t7 N hlt
  have z5 := hz.part Try.underlying44 (j := 5) rfl (hp 5 (by omega))
  rw [b5] at z5
  exact ⟨⟨s0, s1, s2, s3, s4, s5, s6, l, A, c⟩, by simpa using e0, by simpa using e1, by simpa using e2, by simpa using e3, by simpa using e4, by simpa using e5, by simpa using e6, e7, ⟨hlc, hcm⟩, hrr, hh, reach_le z5.str, int_range h4⟩
/-- An argument []Op, as the statement's row reads it. -/
theorem open_ops {v : Value} {d : DataW H} {p : List MemPlace} (hz : Within Try.prog 22 d) (hv : Value.okWide Try.prog w .any base 22 v)
    (h : ∃ fuel, DataW.trod enc Try.prog w 0 (fun _ => true) true fuel 22 v.cells.toList = some (d, p)) (hlt : ∀ z ∈ p, z.block < w.heap.size) : ∃ os, Script w w.heap.size v os ∧ True := by
  obtain ⟨a0, len0, cap0, rfl⟩ := okWide_slice Try.underlying22 hv
  obtain ⟨fuel, hf⟩ := h
  rcases open_rows_both Try.underlying22 Try.underlying44 (by kernel_rfl) (by kernel_rfl) hf with hcs | ⟨a, len, cap, m, Pl, D, sp, hcs, hl, hm, hmm, hx1, hx, hi⟩
  · simp [Value.cells] at hcs
    obtain ⟨rfl, rfl, rfl⟩ := hcs
    exact ⟨[], ⟨none, 0, rfl, Nat.le_refl _, Nat.zero_le _, fun h => absurd h (by simp), fun o ho => by cases ho⟩, trivial⟩
  · simp [Value.cells] at hcs
    obtain ⟨rfl, rfl, rfl⟩ := hcs
    simp only [if_true] at hmm
    subst hmm
    obtain ⟨b, off, spot⟩ := a
    have hx : p = _ := hx
    have hx1 : d = _ := hx1
    have hrow : ∀ i < len0, ∃ o : Op11, (∀ (j : Nat) (u : Value), (ocells o)[j]? = some u → w.cell? ((⟨b, off, spot⟩ : Addr).add (i * 8 + j)) = some u) ∧ OpOk w w.heap.size o := fun i hil => by
      obtain ⟨v0, y0, n0, q0, c0, _, D0, g0, t0⟩ := hi i (by omega) 0 _ rfl
      obtain ⟨v1, y1, n1, q1, c1, _, D1, g1, t1⟩ := hi i (by omega) 1 _ rfl
      obtain ⟨v2, y2, n2, q2, c2, _, D2, g2, t2⟩ := hi i (by omega) 2 _ rfl
      obtain ⟨v3, y3, n3, q3, c3, _, D3, g3, t3⟩ := hi i (by omega) 3 _ rfl
      obtain ⟨v4, y4, n4, q4, c4, _, D4, g4, t4⟩ := hi i (by omega) 4 _ rfl
      obtain ⟨v5, y5, n5, q5, c5, _, D5, g5, t5⟩ := hi i (by omega) 5 _ rfl
      obtain ⟨v6, y6, n6, q6, c6, _, D6, g6, t6⟩ := hi i (by omega) 6 _ rfl
      obtain ⟨v7, y7, n7, q7, c7, p7, D7, g7, t7⟩ := hi i (by omega) 7 _ rfl
      rw [D0] at D1 D2 D3 D4 D5 D6 D7
      injection D1 with D1
      injection D2 with D2
      injection D3 with D3
      injection D4 with D4
      injection D5 with D5
      injection D6 with D6
      injection D7 with D7
      subst D1 D2 D3 D4 D5 D6 D7
      have hzi : Within Try.prog 44 (D i) := by
        rw [hx1] at hz
        exact hz.elem Try.underlying22 (List.mem_map.2 ⟨i, List.mem_range.2 hil, rfl⟩)
      rw [D0] at hzi
      obtain ⟨o, e0, e1, e2, e3, e4, e5, e6, e7, ok⟩ := op_of (w := w) (enc := enc) (base := 0) (vs := fun k => #[v0, v1, v2, v3, v4, v5, v6, v7][k]?.getD v0) (ys := fun k => #[y0, y1, y2, y3, y4, y5, y6, y7][k]?.getD y0) (ns := fun k => #[n0, n1, n2, n3, n4, n5, n6, n7][k]?.getD n0) w.heap.size hzi
        (fun j hj => match j, hj with
          | 0, _ => g0
          | 1, _ => g1
          | 2, _ => g2
          | 3, _ => g3
          | 4, _ => g4
          | 5, _ => g5
          | 6, _ => g6
          | 7, _ => g7) (fun z hzz => hlt z (by
            rw [hx]
            exact List.mem_append_right _ (List.mem_flatMap.2 ⟨i, List.mem_range.2 (by omega), p7 z hzz⟩))) t0 t1 t2 t3 t4 t5 t6 t7
      have e0 : v0 = _ := e0
      have e1 : v1 = _ := e1
      have e2 : v2 = _ := e2
      have e3 : v3 = _ := e3
      have e4 : v4 = _ := e4
      have e5 : v5 = _ := e5
      have e6 : v6 = _ := e6
      have e7 : v7 = _ := e7
      subst e0 e1 e2 e3 e4 e5 e6 e7
      refine ⟨o, fun j u hu => ?_, ok⟩
      match j, hu with
      | 0, hu => exact c0.trans hu
      | 1, hu => exact c1.trans hu
      | 2, hu => exact c2.trans hu
      | 3, hu => exact c3.trans hu
      | 4, hu => exact c4.trans hu
      | 5, hu => exact c5.trans hu
      | 6, hu => exact c6.trans hu
      | 7, hu => exact c7.trans hu
      | j + 8, hu => exact absurd hu (by simp [ocells])
    obtain ⟨os, hll, hq⟩ := list_of _ len0 hrow
    refine ⟨os, ⟨some ⟨b, off, spot⟩, _, by rw [hll], by omega, hm, fun h0 => ?_, fun o ho => ?_⟩, trivial⟩
    · have hspot : spot = none := by
        have := World.cell?_spot ((hq 0 h0).1 0 _ rfl)
        simpa [Addr.add] using this
      subst hspot
      refine ⟨b, off, rfl, hlt (.cell b off) (by rw [hx]; exact List.mem_append_left _ (MemPlace.mem_row.2 ⟨0, by show 0 < _ * 8; omega, by simp⟩)), fun j hj k u hu => ?_⟩
      have := (hq j hj).1 k u hu
      rw [add_plain] at this
      rw [show off + j * 8 + k = off + (j * 8 + k) by omega]
      exact this
    · obtain ⟨j, hj, rfl⟩ := List.getElem_of_mem ho
      exact (hq j hj).2
end
end Go.Proofs.Ytfnffplnoicjcaa.Ar
