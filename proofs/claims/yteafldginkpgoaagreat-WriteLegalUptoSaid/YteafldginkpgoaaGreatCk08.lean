/-
  Walks of stage 8: the reference's Within.
  Walks of stage 8: the reference's Within, walked.
  Walks of stage 8's reference: inner.
  Walks of stage 8's reference: Legal.
  Stage 8's law WriteLegal: it returns true.
-/
import Derived.Test.YteafldginkpgoaaGreatCk06
import Derived.Test.YteafldginkpgoaaGreatCk05
import Derived.Test.YteafldginkpgoaaGreatCk07
import Derived.Deep.CutBlock
import Derived.Deep.DeepCutAuto
import Derived.Test.YteafldginkpgoaaGreatCk02
namespace Go.Proofs.YteafldginkpgoaaGreat.Wr
set_option linter.unusedSimpArgs false
set_option linter.unusedVariables false
open Go.RowKit Ba Fm Fo Nm Wm
open Ro (At Ro Cw ros rowO rowV below_new range2 range5 cells Forest kidsFrom kids kidsAt more Rv Nw Rn)
open To (Kb bulk_at)
open Tm (bulkA)
open Bu (refHas1)
open Rm (dec esc)
theorem rest_head {l : List Ro} {D : Int} {t : Nat} {y : Ro} {r : List Ro} (h : rest l D t = y :: r) : l[t]? = some y ∧ D < y.depth := by
  unfold rest at h
  cases hd : l.drop t with
  | nil => rw [hd] at h; cases h
  | cons z q =>
    rw [hd, List.takeWhile_cons] at h
    split at h
    · rename_i hz
      injection h with h1 h2
      subst h1
      unfold deep at hz
      refine ⟨?_, by simpa using hz⟩
      have := congrArg List.head? hd
      rw [List.head?_drop] at this
      exact this
    · cases h
theorem below_rest (l : List Ro) (i : Int) : Ro.below l i = rest l (Ro.dep l i) (i + 1).toNat := rfl
/-- What the loop over the kids keeps. -/
structure WL (l : List Ro) (D : Int) (s : Nat) (raw : Bool) (ks : List Nat) (j t : Nat) (u : ByteArray) : Prop where
  le : j ≤ ks.length
  kd : ks.drop j = kidsFrom (D + 1) t (rest l D t)
  fo : Forest (D + 1) (rest l D t)
  wrt : L u ++ Wm.wr raw (rest l D t) = Wm.wr raw (rest l D s)
  st : s ≤ t
  len : t + (rest l D t).length = s + (rest l D s).length
theorem more_inn (y : Ro) (r : List Ro) : more y.depth r = (inn y r).length := rfl
/-- What a node adds. -/
def adds (l : List Ro) (raw : Bool) (y : Ro) (t : Nat) : List UInt8 := node raw y ++ (if holds y = true then Wm.wr (isIn y.name rawL) (rest l y.depth (t + 1)) ++ endW y else [])
theorem WL.go {l : List Ro} {D : Int} {s : Nat} {raw : Bool} {ks : List Nat} {j t : Nat} {u : ByteArray} (h : WL l D s raw ks j t u) (hj : j < ks.length) :
    ∃ y, l[t]? = some y ∧ y.depth = D + 1 ∧ ks[j] = t ∧ (rest l y.depth (t + 1)).length < (rest l D s).length ∧ (L u).length + (adds l raw y t).length ≤ (Wm.wr raw (rest l D s)).length ∧
      ∀ u', L u' = L u ++ adds l raw y t → WL l D s raw ks (j + 1) (t + 1 + (rest l y.depth (t + 1)).length) u' := by
  have hkd := h.kd
  rw [List.drop_eq_getElem_cons hj] at hkd
  cases hr : rest l D t with
  | nil => rw [hr] at hkd; cases hkd
  | cons y r =>
    obtain ⟨hy, hD⟩ := rest_head hr
    have hd := (hr ▸ h.fo : Forest (D + 1) (y :: r)).2 y rfl
    obtain ⟨g1, g2, g3⟩ := rest_go hy hD
    have hrr : r = rest l D (t + 1) := by
      rw [hr] at g1
      injection g1
    have hkf := Ro.kids_forest (hr ▸ h.fo : Forest (D + 1) (y :: r)) t
    rw [hr, hkf] at hkd
    injection hkd with e1 e2
    have hm : more (D + 1) r = (rest l y.depth (t + 1)).length := by rw [← hd, more_inn, hrr, g2]
    have hdr : r.drop (more (D + 1) r) = rest l D (t + 1 + (rest l y.depth (t + 1)).length) := by
      rw [hm, ← g2, hrr]
      rw [g2, ← g3, beh, dw_drop]
      show _ = (rest l D (t + 1)).drop (inn y (rest l D (t + 1))).length
      rw [g2]
    have hlr := len_rest hy hD
    have hl0 := h.len
    have hst := h.st
    have hw := wr_rest (raw := raw) hy hD
    have hwt := h.wrt
    rw [hw] at hwt
    refine ⟨y, hy, hd, e1, ?_, ?_, fun u' hu' => ⟨hj, ?_, ?_, ?_, by omega, by omega⟩⟩
    · rw [hr] at hl0 hlr
      simp only [List.length_cons] at hl0 hlr
      omega
    · have := congrArg List.length hwt
      unfold adds
      simp only [List.length_append] at this ⊢
      omega
    · rw [e2, hdr, hm]
    · have := (Ro.forest_next (hr ▸ h.fo : Forest (D + 1) (y :: r))).2.1
      rwa [hdr] at this
    · rw [hu', ← hwt]
      unfold adds
      simp only [List.append_assoc]
theorem WL.stop {l : List Ro} {D : Int} {s : Nat} {raw : Bool} {ks : List Nat} {j t : Nat} {u : ByteArray} (h : WL l D s raw ks j t u) (hj : ¬ j < ks.length) : u = B (Wm.wr raw (rest l D s)) := by
  have hkd := h.kd
  rw [List.drop_of_length_le (by omega)] at hkd
  cases hr : rest l D t with
  | nil =>
    have := h.wrt
    rw [hr, Wm.wr_nil, List.append_nil] at this
    rw [← this, B_L]
  | cons y r =>
    rw [hr, Ro.kids_forest (hr ▸ h.fo : Forest (D + 1) (y :: r)) t] at hkd
    cases hkd

end Go.Proofs.YteafldginkpgoaaGreat.Wr

namespace Go.Proofs.YteafldginkpgoaaGreat.Wr
set_option linter.unusedSimpArgs false
set_option linter.unusedVariables false
open Go.RowKit Ba Fm Fo Nm Wm
open Ro (At Ro Cw ros rowO rowV below_new range2 range5 cells Forest kidsFrom kids kidsAt more Rv Nw Rn)
open To (Kb bulk_at)
open Tm (bulkA)
open Bu (refHas1)
open Rm (dec esc)
theorem below_drewW {w w' : World} (h : Below w.drew.heap.size w.drew w') : Below w.heap.size w w' := ⟨h.os, h.tape, h.output, h.size, h.block⟩
theorem int_at {l : List Nat} {j t : Nat} (h : j < l.length) (e : l[j] = t) {w : World} {b off : Nat} (hc : ∀ i (h : i < l.length), w.cell? ⟨b, off + i, none⟩ = some (.int .i64 (l[i] : Nat))) : w.cell? ⟨b, off + j, none⟩ = some (.int .i64 (t : Nat)) := by rw [hc j h, e]

end Go.Proofs.YteafldginkpgoaaGreat.Wr

namespace Go.Proofs.YteafldginkpgoaaGreat.Wr
set_option maxRecDepth 100000
set_option linter.unusedSimpArgs false
set_option linter.unusedVariables false
open Go.RowKit Ba Fm Fo Nm Wm Bm
open Ro (At Ro Cw ros rowO rowV below_new range2 range5 cells Rv kidsAt kids kidsFrom)
open Bu (refHas1)
theorem right_rest {l : List Ro} (hr : Ro.right l = true) {k : Nat} {y : Ro} (hy : l[k]? = some y) (h0 : y.kind = 0) : Ro.rightFrom (y.depth + 1) (rest l y.depth (k + 1)) = true := by
  have hkl := (List.getElem?_eq_some_iff.1 hy).1
  have e : l = l.take k ++ y :: l.drop (k + 1) := by
    have h := List.take_append_drop k l
    rw [List.drop_eq_getElem_cons hkl, (List.getElem?_eq_some_iff.1 hy).2] at h
    exact h.symm
  have h1 : Ro.rightFrom 0 l = true := hr
  rw [e, Ro.right_append, Bool.and_eq_true] at h1
  have h2 := h1.2
  rw [Ro.rightFrom, if_pos h0] at h2
  simp only [Bool.and_eq_true] at h2
  have h3 := h2.2
  rw [show l.drop (k + 1) = (l.drop (k + 1)).takeWhile (deep y.depth) ++ (l.drop (k + 1)).dropWhile (deep y.depth) from List.takeWhile_append_dropWhile.symm, Ro.right_append, Bool.and_eq_true] at h3
  exact h3.1
theorem kids_rest {l : List Ro} {k : Nat} {y : Ro} (hy : l[k]? = some y) : kidsAt l (k : Int) = kidsFrom (y.depth + 1) (k + 1) (rest l y.depth (k + 1)) := by
  have hkl := (List.getElem?_eq_some_iff.1 hy).1
  unfold kidsAt
  rw [if_pos ⟨by omega, by omega⟩]
  unfold kids
  rw [below_rest, Ro.dep_at hy, show ((k : Int) + 1).toNat = k + 1 by omega]
theorem rest_head8 {l : List Ro} {D : Int} {s : Nat} {z : Ro} {t : List Ro} (h : rest l D s = z :: t) : l[s]? = some z := by
  have h1 : (l.drop s).head? = some z := by
    cases hd : l.drop s with
    | nil => unfold rest at h; rw [hd] at h; cases h
    | cons a b =>
      unfold rest at h
      rw [hd, List.takeWhile_cons] at h
      split at h
      · injection h with h _; rw [h]; rfl
      · cases h
  rwa [List.head?_drop] at h1
theorem raw_soft {n : ByteArray} (h : isIn n rawL = true) : isIn n softL = false := by
  have hall : ∀ x ∈ rawL, isIn x softL = false := by decide
  exact hall n (isIn_of h)
theorem deep_rest {l : List Ro} {D : Int} {s : Nat} : ∀ z ∈ rest l D s, D < z.depth := fun z hz => by
  have := mem_tw _ _ z hz
  unfold Wm.deep at this
  simpa using this
theorem calm_data : ∀ {l : List Ro} {z : Ro}, calm l → z ∈ l → z.kind = 1 → z.data ≠ ⟨#[]⟩
  | [], z, _, hz, _ => by cases hz
  | y :: r, z, h, hz, hk => by
    rcases List.mem_cons.1 hz with e | e
    · rw [e] at hk ⊢; exact h.1 hk
    · exact calm_data h.2.2 e hk
def rawK (k : List Ro) : Bool := match k with | [] => true | [y] => y.kind == 1 && plainB (L y.data) | _ => false
def softK (k : List Ro) : Bool := match k with | [] => true | [y] => y.kind == 1 | _ => false
theorem inner_eq (x : Ro) (k : List Ro) : innerB x k = if isIn x.name voidL = true then k.isEmpty else if isIn x.name rawL = true then rawK k else if isIn x.name softL = true then softK k else true := rfl
theorem row_at {w : World} {x : List Cw} {A : Option Addr} {N k : Nat} {z : Ro} (h : Ro.Rr w N A x) (hz : (ros x)[k]? = some z) : k < x.length ∧ ∃ b off, A = some ⟨b, off, none⟩ ∧ b < N ∧ w.cell? ⟨b, off + k * 5 + 1, none⟩ = some (.int .i64 z.kind) ∧ w.cell? ⟨b, off + k * 5 + 3, none⟩ = some (.string z.data) ∧ ∃ y ∈ x, y.ro = z := by
  have hk : k < (ros x).length := (List.getElem?_eq_some_iff.1 hz).1
  rw [Ro.len_ros] at hk
  obtain ⟨b, off, y, hA, hb, hdy, hyy, hya, hym⟩ := Ro.Rr.at_ h k hk
  have he := ros_get hdy
  rw [hz] at he
  injection he with he
  obtain ⟨c0, c1, c2, c3, c4⟩ := range5 hyy
  rw [← he] at c1 c3
  exact ⟨hk, b, off, hA, hb, c1, c3, y, hym, he.symm⟩
theorem last_60 (d : ByteArray) (h : 0 < d.size) : suf [60] (L d) = (d[d.size - 1] == 60) := by
  unfold suf
  have h1 : ([60] : List UInt8).length ≤ (L d).length := by rw [size_L]; exact h
  rw [decide_eq_true h1, Bool.true_and, size_L]
  show decide ((L d).drop (d.size - 1) = [60]) = _
  rw [drop_cons d (d.size - 1) (by omega), drop_nil d (d.size - 1 + 1) (by omega)]
  by_cases e : d[d.size - 1] = 60
  · rw [e]; simp
  · rw [beq_eq_false_iff_ne.2 e]; simp [e]

set_option maxRecDepth 100000 in
set_option maxHeartbeats 4000000 in
theorem inner1 (v : Value) (x : List Cw) (k : Nat) (y : Ro) (w : World) (q : Bool) (h : Rv w v x) (hl : x.length ≤ 1000) (hr : Ro.right (ros x) = true) (hc : calm (ros x)) (hy : (ros x)[k]? = some y) (h0 : y.kind = 0) (hrb : ∀ z ∈ x, rb z.ro ≤ 10000000) (hq : innerB y (rest (ros x) y.depth (k + 1)) = q) :
    Calls Tryz.prog 28 #[v, .int .i64 k] w fun e w' => e = .returned (.bool q) ∧ Below w.heap.size w w' := by
  have hkl : k < (ros x).length := (List.getElem?_eq_some_iff.1 hy).1
  rw [Ro.len_ros] at hkl
  obtain ⟨A, c, rfl, hcc, hm, hrr, hh⟩ := id h
  obtain ⟨b, off, yc, rfl, hb, hdy, hyy, hya, hym⟩ := Ro.Rr.at_ hrr k hkl
  have hycy : yc.ro = y := by
    have := ros_get hdy
    rw [hy] at this
    injection this with this
    exact this.symm
  obtain ⟨c0, c1, c2, c3, c4⟩ := range5 hyy
  rw [hycy] at c2
  obtain ⟨K, hK⟩ : ∃ K, rest (ros x) y.depth (k + 1) = K := ⟨_, rfl⟩
  have hform := kids_form (k := k + 1) (right_rest hr hy h0) deep_rest
  have hka := kids_rest hy
  rw [hK] at hform hka hq
  obtain ⟨ks, hks⟩ : ∃ ks, kidsFrom (y.depth + 1) (k + 1) K = ks := ⟨_, rfl⟩
  rw [hks] at hform hka
  obtain ⟨va, hva⟩ : ∃ q, isIn y.name voidL = q := ⟨_, rfl⟩
  obtain ⟨ra, hra⟩ : ∃ q, isIn y.name rawL = q := ⟨_, rfl⟩
  obtain ⟨so, hso⟩ : ∃ q, isIn y.name softL = q := ⟨_, rfl⟩
  rw [inner_eq] at hq
  rw [hva, hra, hso] at hq
  have hrs : ra = true → so = false := fun e => by rw [← hso]; exact raw_soft (by rw [hra]; exact e)
  have HV := Lib.hid h; have HR := Lib.hid hr; have HRR := Lib.hid hrr; have HKA := Lib.hid hka; have C2 := Lib.hid c2; have HVA := Lib.hid hva; have HRA := Lib.hid hra; have HSO := Lib.hid hso; have HF := Lib.hid hform; have HQ := Lib.hid hq; have HK := Lib.hid hK; have HRS := Lib.hid hrs; have HC := Lib.hid hc; have HRB := Lib.hid hrb
  clear h hr hrr hka c0 c1 c2 c3 c4 hva hra hso hform hq hK hks hrs hc hrb hdy hyy hya hym hycy hy h0 hh
  go_enter Tryz.func28, Tryz.ntmps28
  go_wp2_with fail
  refine (Ro.refKids1 _ x k w ks HV.out hl HR.out HKA.out).mono ?_
  rintro e w1 ⟨u, rfl, hnw, hb1⟩
  obtain ⟨KA, ck, rfl, hkc, hkm, hrn⟩ := hnw.form
  have HRN := Lib.hid hrn; have HB1 := Lib.hid hb1; have D2 := Lib.hid ((hb1.cell (p := ⟨b, off + k * 5 + 2, none⟩) hb).trans C2.out)
  have hb1s := Nat.lt_of_lt_of_le hb hb1.size
  have hkn : ks.length ≤ 9223372036854775807 := by unfold maxLen at hkm; omega
  have hkd : decide (k < x.length) = true := decide_eq_true hkl
  clear hnw hrn hb1
  go_upto_region 2 with (fail)
  go_region_held3 (fun w' => w'.cell? ⟨b, off + k * 5 + 2, none⟩ = some (.string y.name)) (first | exact e2 | exact d2 | exact D2.out | go_keep) (first
    | (go_at_call 23; refine (refHas1 _ voidL _ _ (sv_own HS2.out) (by decide) va HVA.out).mono ?_; rintro e w4 ⟨rfl, rfl⟩)
    | (go_at_call 58; refine (Na.refVoid_any _).mono ?_; rintro e w2 ⟨v2, rfl, s2, b2⟩; have d2 := (b2.cell (p := ⟨b, off + k * 5 + 2, none⟩) hb1s).trans D2.out; have HS2 := Lib.hid s2; have HB2 := Lib.hid (bt HB1.out (below_drewW b2)); have HB12 := Lib.hid (below_drewW b2); clear s2 b2))
  clear d2
  have hB := HB2.out
  cases va with
  | true =>
    go_wp2
    go_ret
    refine ⟨ret_bool ?_, HB2.out⟩
    rw [← HQ.out]
    rcases HF.out with ⟨e1, e2⟩ | ⟨z, e1, e2⟩ | ⟨z, u, t, q', e1, e2, _⟩ <;> rw [e1, e2] <;> first | rfl | (simp; done) | (simp; omega)
  | false =>
  have hb2s := Nat.lt_of_lt_of_le hb1s HB12.out.size
  have E2 := Lib.hid ((HB12.out.cell (p := ⟨b, off + k * 5 + 2, none⟩) hb1s).trans D2.out)
  clear hB
  go_upto_region 4 with (fail)
  go_region_held3 (fun w' => w'.cell? ⟨b, off + k * 5 + 2, none⟩ = some (.string y.name)) (first | exact d4 | exact d3 | exact E2.out | go_keep) (first
    | (go_at_call 23; refine (refHas1 _ softL _ _ (sv_own HS4.out) (by decide) so HSO.out).mono ?_; rintro e w5 ⟨rfl, rfl⟩)
    | (go_at_call 60; refine (Na.refSoft_any _).mono ?_; rintro e w4 ⟨v4, rfl, s4, b4⟩; have d4 := (b4.cell (p := ⟨b, off + k * 5 + 2, none⟩) hb3s).trans d3; have HS4 := Lib.hid s4; have HB4 := Lib.hid (bt HB3.out b4); have HB24 := Lib.hid (bt HB23.out b4); clear s4 b4)
    | (go_at_call 23; refine (refHas1 _ rawL _ _ (sv_own HS3.out) (by decide) ra HRA.out).mono ?_; rintro e w4 ⟨rfl, rfl⟩)
    | (go_at_call 59; refine (Na.refRaw_any _).mono ?_; rintro e w3 ⟨v3, rfl, s3, b3⟩; have d3 := (b3.cell (p := ⟨b, off + k * 5 + 2, none⟩) hb2s).trans E2.out; have HS3 := Lib.hid s3; have HB3 := Lib.hid (bt HB2.out (below_drewW b3)); have HB23 := Lib.hid (below_drewW b3); have hb3s := Nat.lt_of_lt_of_le hb2s (below_drewW b3).size; clear s3 b3))
  clear d3 d4
  have HBF := Lib.hid (bt HB12.out HB24.out)
  by_cases hno : ra = false ∧ so = false
  · obtain ⟨e1, e2⟩ := hno
    subst e1 e2
    have hq1 := HQ.out
    simp only [Bool.false_eq_true, if_false] at hq1
    subst hq1
    go_wp2
    go_ret
    exact ⟨rfl, HB4.out⟩
  have hcase : (ra = true ∧ so = false) ∨ (ra = false ∧ so = true) := by
    cases ra with
    | true => exact .inl ⟨rfl, HRS.out rfl⟩
    | false =>
      cases so with
      | true => exact .inr ⟨rfl, rfl⟩
      | false => exact absurd ⟨rfl, rfl⟩ hno
  have hq2 : (if ra = true then rawK K else softK K) = q := by
    rw [← HQ.out]
    cases ra with
    | true => rfl
    | false =>
      cases so with
      | true => rfl
      | false => exact absurd ⟨rfl, rfl⟩ hno
  clear hno HQ
  rcases hcase with ⟨rfl, rfl⟩ | ⟨rfl, rfl⟩ <;> simp only [Bool.false_eq_true, if_false, if_true] at hq2 <;> have HQ2 := Lib.hid hq2 <;> clear hq2
  · rcases HF.out with ⟨e1, e2⟩ | ⟨z, e1, e2⟩ | ⟨z, u, t, q', e1, e2, e3⟩
    · have hq0 : q = true := by rw [← HQ2.out, e1]; rfl
      subst hq0
      have z1 : ((ks.length : Int) == 0) = true := by rw [e2]; rfl
      clear e1 e2
      go_wp2
      go_ret
      exact ⟨rfl, HB4.out⟩
    · have hz := rest_head8 (HK.out.trans e1)
      have hzm := List.mem_of_getElem? hz
      obtain ⟨hk1, b', off', hA, hb', r1, r3, yz, hyz, hyzz⟩ := row_at HRR.out hz
      injection hA with hA
      injection hA with hA1 hA2 _
      subst hA1 hA2
      obtain ⟨kb, ko, rfl, hkb, hkc'⟩ := HRN.out (by rw [e2]; simp)
      have k0 := int_at (j := 0) (t := k + 1) (by rw [e2]; simp) (by simp [e2]) hkc'
      have hbz := bt HB1.out HBF.out
      have k00 := (HBF.out.cell (p := ⟨kb, ko + 0, none⟩) hkb).trans k0
      have r10 := (hbz.cell (p := ⟨b, off + (k + 1) * 5 + 1, none⟩) hb).trans r1
      have r30 := (hbz.cell (p := ⟨b, off + (k + 1) * 5 + 3, none⟩) hb).trans r3
      have hzs : z.data.size ≤ 10000000 := by
        have := HRB.out yz hyz
        rw [hyzz] at this
        unfold rb at this
        omega
      obtain ⟨j, hj⟩ : ∃ j, k + 1 = j := ⟨_, rfl⟩
      rw [hj] at k00 r10 r30 hk1
      rw [Nat.add_zero] at k00
      have hjl : decide (j < x.length) = true := decide_eq_true hk1
      have z1 : ((ks.length : Int) == 0) = false := beq_eq_false_iff_ne.2 (by rw [e2]; simp; try omega)
      have hk0l : decide (0 < ks.length) = true := decide_eq_true (by rw [e2]; simp)
      have hk0p : 0 < ks.length := by rw [e2]; simp
      have HZ := Lib.hid hz
      clear hz r1 r3 hkc' k0 hbz hyzz hyz
      have z2 : decide ((1 : Int) < (ks.length : Int)) = false := decide_eq_false (by rw [e2]; simp)
      clear e2
      by_cases hzk : z.kind = 1
      · have g1 : (z.kind != 1) = false := by rw [hzk]; rfl
        have hq3 : q = plainB (L z.data) := by rw [← HQ2.out, e1]; unfold rawK; simp [hzk]
        have hdn : 0 < z.data.size := by
          have hne := (calm_data HC.out hzm) hzk
          rcases Nat.eq_zero_or_pos z.data.size with e | e
          · have h0 : L z.data = [] := List.eq_nil_of_length_eq_zero (by rw [size_L]; exact e)
            exact absurd (by rw [← B_L z.data, h0]; rfl) hne
          · exact e
        obtain ⟨a, ha⟩ : ∃ a, sub [60, 47] (L z.data) = a := ⟨_, rfl⟩
        have hl60 := last_60 z.data hdn
        obtain ⟨l6, hl6⟩ : ∃ l6, (z.data[z.data.size - 1] == 60) = l6 := ⟨_, rfl⟩
        unfold plainB at hq3
        rw [ha, hl60, hl6] at hq3
        have g60 : ((z.data[z.data.size - 1].toNat : Int) != 60) = !l6 := by
          have g6 : ((z.data[z.data.size - 1].toNat : Int) == 60) = (z.data[z.data.size - 1] == 60) := u8_eq (b := 60)
          rw [← hl6, bne, g6]
        have i1 : (0 : Int) ≤ (z.data.size : Int) - 1 := by omega
        have i2 : ((z.data.size : Int) - 1).toNat = z.data.size - 1 := by omega
        have HA := Lib.hid ha; have HQ3 := Lib.hid hq3
        clear hzk hq3 ha hl60 hl6 e1
        go_wp2_with fail
        refine (refHasT z.data ⟨#[60, 47]⟩ _ (by omega) (by decide) (by decide) a HA.out).mono ?_
        rintro e w9 ⟨rfl, rfl⟩
        cases a with
        | true =>
          go_wp2
          go_ret
          exact ⟨ret_bool (by rw [HQ3.out]; rfl), HB4.out⟩
        | false =>
          cases l6 with
          | true =>
            go_wp2
            go_ret
            exact ⟨ret_bool (by rw [HQ3.out]; rfl), HB4.out⟩
          | false =>
            go_wp2
            go_ret
            exact ⟨ret_bool (by rw [HQ3.out]; rfl), HB4.out⟩
      · have g1 : (z.kind != 1) = true := bne_iff_ne.2 hzk
        have hq0 : q = false := by
          rw [← HQ2.out, e1]
          have := beq_eq_false_iff_ne.2 hzk
          unfold rawK
          simp [this]
        subst hq0
        clear hzk e1
        go_wp2
        go_ret
        exact ⟨rfl, HB4.out⟩
    · have hz := rest_head8 (HK.out.trans e1)
      have hzm := List.mem_of_getElem? hz
      obtain ⟨hk1, b', off', hA, hb', r1, r3, yz, hyz, hyzz⟩ := row_at HRR.out hz
      injection hA with hA
      injection hA with hA1 hA2 _
      subst hA1 hA2
      obtain ⟨kb, ko, rfl, hkb, hkc'⟩ := HRN.out (by rw [e2]; simp)
      have k0 := int_at (j := 0) (t := k + 1) (by rw [e2]; simp) (by simp [e2]) hkc'
      have hbz := bt HB1.out HBF.out
      have k00 := (HBF.out.cell (p := ⟨kb, ko + 0, none⟩) hkb).trans k0
      have r10 := (hbz.cell (p := ⟨b, off + (k + 1) * 5 + 1, none⟩) hb).trans r1
      have r30 := (hbz.cell (p := ⟨b, off + (k + 1) * 5 + 3, none⟩) hb).trans r3
      have hzs : z.data.size ≤ 10000000 := by
        have := HRB.out yz hyz
        rw [hyzz] at this
        unfold rb at this
        omega
      obtain ⟨j, hj⟩ : ∃ j, k + 1 = j := ⟨_, rfl⟩
      rw [hj] at k00 r10 r30 hk1
      rw [Nat.add_zero] at k00
      have hjl : decide (j < x.length) = true := decide_eq_true hk1
      have z1 : ((ks.length : Int) == 0) = false := beq_eq_false_iff_ne.2 (by rw [e2]; simp; try omega)
      have hk0l : decide (0 < ks.length) = true := decide_eq_true (by rw [e2]; simp)
      have hk0p : 0 < ks.length := by rw [e2]; simp
      have HZ := Lib.hid hz
      clear hz r1 r3 hkc' k0 hbz hyzz hyz
      have hq0 : q = false := by rw [← HQ2.out, e1]; rfl
      subst hq0
      by_cases hq' : q' = []
      · have z2 : decide ((1 : Int) < (ks.length : Int)) = false := decide_eq_false (by rw [e2, hq']; simp)
        have g1 : (z.kind != 1) = true := bne_iff_ne.2 fun e => e3 e hq'
        clear e1 e2 e3 hq'
        go_wp2
        go_ret
        exact ⟨rfl, HB4.out⟩
      · have z2 : decide ((1 : Int) < (ks.length : Int)) = true := decide_eq_true (by
          have := List.length_pos_iff.2 hq'
          rw [e2, List.length_cons]
          omega)
        clear e1 e2 e3 hq'
        go_wp2
        go_ret
        exact ⟨rfl, HB4.out⟩
  · rcases HF.out with ⟨e1, e2⟩ | ⟨z, e1, e2⟩ | ⟨z, u, t, q', e1, e2, e3⟩
    · have hq0 : q = true := by rw [← HQ2.out, e1]; rfl
      subst hq0
      have z1 : ((ks.length : Int) == 0) = true := by rw [e2]; rfl
      clear e1 e2
      go_wp2
      go_ret
      exact ⟨rfl, HB4.out⟩
    · have hz := rest_head8 (HK.out.trans e1)
      have hzm := List.mem_of_getElem? hz
      obtain ⟨hk1, b', off', hA, hb', r1, r3, yz, hyz, hyzz⟩ := row_at HRR.out hz
      injection hA with hA
      injection hA with hA1 hA2 _
      subst hA1 hA2
      obtain ⟨kb, ko, rfl, hkb, hkc'⟩ := HRN.out (by rw [e2]; simp)
      have k0 := int_at (j := 0) (t := k + 1) (by rw [e2]; simp) (by simp [e2]) hkc'
      have hbz := bt HB1.out HBF.out
      have k00 := (HBF.out.cell (p := ⟨kb, ko + 0, none⟩) hkb).trans k0
      have r10 := (hbz.cell (p := ⟨b, off + (k + 1) * 5 + 1, none⟩) hb).trans r1
      have r30 := (hbz.cell (p := ⟨b, off + (k + 1) * 5 + 3, none⟩) hb).trans r3
      have hzs : z.data.size ≤ 10000000 := by
        have := HRB.out yz hyz
        rw [hyzz] at this
        unfold rb at this
        omega
      obtain ⟨j, hj⟩ : ∃ j, k + 1 = j := ⟨_, rfl⟩
      rw [hj] at k00 r10 r30 hk1
      rw [Nat.add_zero] at k00
      have hjl : decide (j < x.length) = true := decide_eq_true hk1
      have z1 : ((ks.length : Int) == 0) = false := beq_eq_false_iff_ne.2 (by rw [e2]; simp; try omega)
      have hk0l : decide (0 < ks.length) = true := decide_eq_true (by rw [e2]; simp)
      have hk0p : 0 < ks.length := by rw [e2]; simp
      have HZ := Lib.hid hz
      clear hz r1 r3 hkc' k0 hbz hyzz hyz
      have z2 : decide ((1 : Int) < (ks.length : Int)) = false := decide_eq_false (by rw [e2]; simp)
      clear e2
      by_cases hzk : z.kind = 1
      · have g1 : (z.kind != 1) = false := by rw [hzk]; rfl
        have hq0 : q = true := by rw [← HQ2.out, e1]; unfold softK; simp [hzk]
        subst hq0
        clear hzk e1
        go_wp2
        go_ret
        exact ⟨rfl, HB4.out⟩
      · have g1 : (z.kind != 1) = true := bne_iff_ne.2 hzk
        have hq0 : q = false := by
          rw [← HQ2.out, e1]
          have := beq_eq_false_iff_ne.2 hzk
          unfold softK
          simp [this]
        subst hq0
        clear hzk e1
        go_wp2
        go_ret
        exact ⟨rfl, HB4.out⟩
    · have hz := rest_head8 (HK.out.trans e1)
      have hzm := List.mem_of_getElem? hz
      obtain ⟨hk1, b', off', hA, hb', r1, r3, yz, hyz, hyzz⟩ := row_at HRR.out hz
      injection hA with hA
      injection hA with hA1 hA2 _
      subst hA1 hA2
      obtain ⟨kb, ko, rfl, hkb, hkc'⟩ := HRN.out (by rw [e2]; simp)
      have k0 := int_at (j := 0) (t := k + 1) (by rw [e2]; simp) (by simp [e2]) hkc'
      have hbz := bt HB1.out HBF.out
      have k00 := (HBF.out.cell (p := ⟨kb, ko + 0, none⟩) hkb).trans k0
      have r10 := (hbz.cell (p := ⟨b, off + (k + 1) * 5 + 1, none⟩) hb).trans r1
      have r30 := (hbz.cell (p := ⟨b, off + (k + 1) * 5 + 3, none⟩) hb).trans r3
      have hzs : z.data.size ≤ 10000000 := by
        have := HRB.out yz hyz
        rw [hyzz] at this
        unfold rb at this
        omega
      obtain ⟨j, hj⟩ : ∃ j, k + 1 = j := ⟨_, rfl⟩
      rw [hj] at k00 r10 r30 hk1
      rw [Nat.add_zero] at k00
      have hjl : decide (j < x.length) = true := decide_eq_true hk1
      have z1 : ((ks.length : Int) == 0) = false := beq_eq_false_iff_ne.2 (by rw [e2]; simp; try omega)
      have hk0l : decide (0 < ks.length) = true := decide_eq_true (by rw [e2]; simp)
      have hk0p : 0 < ks.length := by rw [e2]; simp
      have HZ := Lib.hid hz
      clear hz r1 r3 hkc' k0 hbz hyzz hyz
      have hq0 : q = false := by rw [← HQ2.out, e1]; rfl
      subst hq0
      by_cases hq' : q' = []
      · have z2 : decide ((1 : Int) < (ks.length : Int)) = false := decide_eq_false (by rw [e2, hq']; simp)
        have g1 : (z.kind != 1) = true := bne_iff_ne.2 fun e => e3 e hq'
        clear e1 e2 e3 hq'
        go_wp2
        go_ret
        exact ⟨rfl, HB4.out⟩
      · have z2 : decide ((1 : Int) < (ks.length : Int)) = true := decide_eq_true (by
          have := List.length_pos_iff.2 hq'
          rw [e2, List.length_cons]
          omega)
        clear e1 e2 e3 hq'
        go_wp2
        go_ret
        exact ⟨rfl, HB4.out⟩

end Go.Proofs.YteafldginkpgoaaGreat.Wr

namespace Go.Proofs.YteafldginkpgoaaGreat.Wr
set_option maxRecDepth 100000
set_option linter.unusedSimpArgs false
set_option linter.unusedVariables false
open Go.RowKit Ba Fm Fo Nm Wm Bm
open Ro (At Ro Cw ros rowO rowV below_new range2 range5 cells Rv)
open Bu (refHas1)
open Tm (pre)
theorem nrm_calm : ∀ {l : List Ro}, Ro.Nrm l → calm l
  | [], _ => trivial
  | x :: r, h => by
    have h : (x.kind = 1 → x.data.toList ≠ [] ∧ ∀ z, r.head? = some z → z.kind = 1 → z.depth ≠ x.depth) ∧ Ro.Nrm r := h
    refine ⟨fun hk e => (h.1 hk).1 (by rw [e]; simp), fun y hy ⟨a, b, c⟩ => (h.1 a).2 y hy b c, nrm_calm h.2⟩
/-- What is asked of node k. -/
def nodeAt (l : List Ro) (k : Nat) (y : Ro) : Bool := nodeR y (pathAt l k y.depth) (rest l y.depth (k + 1))
theorem legal_nodes {l : List Ro} (hr : Ro.right l = true) (hc : calm l) : legB [] l = true ↔ ∀ (k : Nat) (y : Ro), l[k]? = some y → nodeAt l k y = true := by
  rw [leg_same hr hc]
  exact ref_iff l.length [] [] l (Nat.le_refl _) (depth_right hr) hr rfl (Nat.le_refl _)

set_option maxRecDepth 100000 in
set_option maxHeartbeats 8000000 in
theorem refLegal1 (v : Value) (l : List Cw) (w : World) (h : Rv w v l) (hl : l.length ≤ 1000) (hf : Ro.Few (ros l)) (ht : (Ro.txt (ros l)).length ≤ 1000000000) (hrb : ∀ x ∈ l, rb x.ro ≤ 10000000) (q : Bool) (hq : legalB (ros l) = q) :
    Calls Tryz.prog 7 #[v] w fun e w' => e = .returned (.bool q) ∧ Below w.heap.size w w' := by
  obtain ⟨A, c, hv, hc, hm, hrr, hh⟩ := id h
  obtain ⟨ck, hck⟩ : ∃ ck, (!Ro.exceeds (ros l) 4096 60 && Ro.right (ros l)) = ck := ⟨_, rfl⟩
  have HV := Lib.hid h; have HRB := Lib.hid hrb; have HF := Lib.hid hf; have HT := Lib.hid ht
  clear h hrb hf ht
  cases ck with
  | false =>
    obtain ⟨h1, h2⟩ := check_no hck
    rw [h2] at hq
    subst hq hv
    clear h2 hck hrr hh
    go_enter Tryz.func7, Tryz.ntmps7
    go_wp2_with fail
    refine (Ro.refCheck1 _ l w (Ro.check (ros l)) HV.out (by omega) rfl).mono ?_
    rintro e w1 ⟨rfl, hb1⟩
    have HB1 := Lib.hid hb1
    clear hb1
    go_wp2
    go_ret
    exact ⟨rfl, HB1.out⟩
  | true =>
    obtain ⟨h1, h2, h3⟩ := check_yes hck
    have hhn := Ro.held_normal hh
    obtain ⟨nm, hnm⟩ : ∃ nm, Ro.normal (ros l) = nm := ⟨_, rfl⟩
    have hnr := Ro.nrm_normal (ros l).length (ros l) 0 (Nat.le_refl _) h2
    rw [hnm] at hhn hnr
    obtain ⟨sm, hsm⟩ : ∃ sm, decide (ros l = nm) = sm := ⟨_, rfl⟩
    have hnl : nm.length ≤ 1000 := by
      rw [← hnm]
      have := Ro.len_normal (ros l)
      rw [Ro.len_ros] at this
      omega
    unfold legalB at hq
    rw [hck, Bool.true_and, hnm, hsm] at hq
    have H1 := Lib.hid h1; have H2 := Lib.hid h2; have HNM := Lib.hid hnm; have HHN := Lib.hid hhn; have HSM := Lib.hid hsm; have HQ := Lib.hid hq; have HNR := Lib.hid hnr
    clear hck hhn hnm hsm h1 h2 h3 hq hh hnr
    have HRR := Lib.hid hrr
    subst hv
    clear hrr
    go_enter Tryz.func7, Tryz.ntmps7
    go_wp2_with fail
    refine (Ro.refCheck1 _ l w 0 HV.out (by omega) H1.out).mono ?_
    rintro e w1 ⟨rfl, hb1⟩
    have HB1 := Lib.hid hb1
    clear hb1
    go_wp2_with fail
    refine (Ro.refNormal1 _ l w1 nm (HV.out.below HB1.out) (by omega) HF.out HT.out H2.out HNM.out HHN.out).mono ?_
    rintro e w2 ⟨u2, y2, rfl, hy2, hv2, hb2⟩
    have HB2 := Lib.hid (bt HB1.out hb2)
    have hyl : y2.length ≤ 1000000 := by
      have := congrArg List.length hy2
      rw [Ro.len_ros] at this
      omega
    have HV2 := Lib.hid hv2; have HY2 := Lib.hid hy2
    clear hy2 hv2 hb2
    go_wp2_with fail
    refine (Ro.refSame1 u2 _ y2 l w2 sm HV2.out (HV.out.below HB2.out) hyl (by omega) (by rw [HY2.out, ← HSM.out]; exact decide_eq_decide.2 ⟨Eq.symm, Eq.symm⟩)).mono ?_
    rintro e w3 ⟨rfl, hb3⟩
    have HB3 := Lib.hid (bt HB2.out hb3)
    clear hb3
    cases sm with
    | false =>
      go_wp2
      go_ret
      exact ⟨ret_bool (by rw [← HQ.out]; rfl), HB3.out⟩
    | true =>
      have hqq := HQ.out
      rw [Bool.true_and] at hqq
      have hcm : calm (ros l) := by
        rw [of_decide_eq_true HSM.out]
        exact nrm_calm HNR.out
      have hnodes := legal_nodes H2.out hcm
      rw [hqq] at hnodes
      have HN := Lib.hid hnodes; have HCM := Lib.hid hcm
      clear hqq hcm hnodes
      go_wp2
      go_loopw [3] (fun i wr => ∃ k, i = .int .i64 ((k : Nat) : Int) ∧ k ≤ l.length ∧ (∀ j y, j < k → (ros l)[j]? = some y → nodeAt (ros l) j y = true) ∧ Below w.heap.size w wr) (fun i _ => l.length - (intOf i).toNat)
      case atStart => exact ⟨0, rfl, Nat.zero_le _, fun j y hj => absurd hj (by omega), HB3.out⟩
      case round =>
        obtain ⟨k, rfl, hk, hall, hbw⟩ := hrel
        by_cases hp : k < l.length
        · obtain ⟨b, off, x, rfl, hb, hdx, hx, hxa, hxm⟩ := Ro.Rr.at_ (HRR.out.below hbw) k hp
          have hget := ros_get hdx
          have hrbx := HRB.out x hxm
          have hbx := Rb.new wr x
          have hbb := below_new wr (rowO x)
          have hNr := hbw.size
          obtain ⟨W, hW⟩ : ∃ W, wr.alloc (rowO x) = W := ⟨_, rfl⟩
          have hxa1 : Ro.Att W W.heap.size x := by
            rw [← hW]
            exact (hxa.below (hbb.mono hNr)).more (Nat.le_trans hNr hbb.size)
          have hB1 : Below w.heap.size w W := by rw [← hW]; exact hbw.trans (hbb.mono hNr)
          rw [hW] at hbx
          have hgl : wr.heap.size < W.heap.size := by rw [← hW]; simp
          obtain ⟨g, hg⟩ : ∃ g, wr.heap.size = g := ⟨_, rfl⟩
          obtain ⟨s1, s2⟩ : x.ro.data.size ≤ 10000000 ∧ x.ro.name.size ≤ 10000000 := by unfold rb at hrbx; omega
          have HALL := Lib.hid hall; have HG := Lib.hid hget; have HBX := Lib.hid hbx; have HXA := Lib.hid hxa1; have HBW := Lib.hid hB1; have HVX := Lib.hid (HV.out.below hB1)
          clear hall hdx hget hbx hxa1 hB1 hxa hxm hbb hbw
          rw [hg] at HBX hgl
          obtain ⟨c0, c1, c2, c3, c4⟩ := HBX.out.c
          have C1 := Lib.hid c1; have C2 := Lib.hid c2; have C4 := Lib.hid c4
          obtain ⟨S, hS⟩ : ∃ S, pathAt (ros l) k x.ro.depth = S := ⟨_, rfl⟩
          have hSl : S.length ≤ 1000000 := by
            have hd := Ro.right_deep H2.out (by rw [Ro.len_ros]; exact hl) x.ro (List.mem_of_getElem? HG.out)
            rw [← hS]
            unfold pathAt
            rw [List.length_take]
            omega
          obtain ⟨cd, hcd⟩ : ∃ q, cleanB (L x.ro.data) = q := ⟨_, rfl⟩
          obtain ⟨k2, hk2⟩ : ∃ q, (x.ro.kind == 2) = q := ⟨_, rfl⟩
          obtain ⟨n1, hn1⟩ : ∃ q, sub [45, 45, 62] (L x.ro.data) = q := ⟨_, rfl⟩
          obtain ⟨n2, hn2⟩ : ∃ q, sub [45, 45, 33, 62] (L x.ro.data) = q := ⟨_, rfl⟩
          obtain ⟨n3, hn3⟩ : ∃ q, pre [62] (L x.ro.data) = q := ⟨_, rfl⟩
          obtain ⟨n4, hn4⟩ : ∃ q, pre [45, 62] (L x.ro.data) = q := ⟨_, rfl⟩
          obtain ⟨k0, hk0⟩ : ∃ q, (x.ro.kind == 0) = q := ⟨_, rfl⟩
          obtain ⟨rt, hrt⟩ : ∃ q, rightB x.ro.name = q := ⟨_, rfl⟩
          obtain ⟨cn, hcn⟩ : ∃ q, cleanB (L x.ro.name) = q := ⟨_, rfl⟩
          obtain ⟨gn, hgn⟩ : ∃ q, isIn x.ro.name goneL = q := ⟨_, rfl⟩
          obtain ⟨ns, hns⟩ : ∃ q, nestedB x.ro.name S = q := ⟨_, rfl⟩
          obtain ⟨aa, haa⟩ : ∃ q, x.ro.attrs.all attB = q := ⟨_, rfl⟩
          obtain ⟨ib, hib⟩ : ∃ q, innerB x.ro (rest (ros l) x.ro.depth (k + 1)) = q := ⟨_, rfl⟩
          obtain ⟨bad1, hbad1⟩ : ∃ q, (!cd || (k2 && (n1 || n2 || n3 || n4))) = q := ⟨_, rfl⟩
          obtain ⟨bad2, hbad2⟩ : ∃ q, (k0 && (!rt || !cn || gn || !ns || !aa || !ib)) = q := ⟨_, rfl⟩
          have hnode : nodeAt (ros l) k x.ro = (!bad1 && !bad2) := by
            unfold nodeAt nodeR rowR nameB noteB
            rw [hS, hcd, hn1, hn2, hn3, hn4, hrt, hcn, hgn, hns, haa, hib, bne, bne, hk2, hk0, ← hbad1, ← hbad2]
            revert cd k2 n1 n2 n3 n4 k0 rt cn gn ns aa ib
            intro cd _ k2 _ n1 _ n2 _ n3 _ n4 _ k0 _ rt _ cn _ gn _ ns _ aa _ ib _ _ _
            cases cd <;> cases k2 <;> cases n1 <;> cases n2 <;> cases n3 <;> cases n4 <;> cases k0 <;> simp [Bool.and_comm, Bool.and_assoc, Bool.and_left_comm]
          have hbadq : (!bad1 && !bad2) = false → q = false := fun e => by
            cases hqq : q with
            | false => rfl
            | true =>
              have := HN.out.1 hqq k x.ro HG.out
              rw [hnode, e] at this
              cases this
          have HCD := Lib.hid hcd; have HN1 := Lib.hid hn1; have HN2 := Lib.hid hn2; have HN3 := Lib.hid hn3; have HN4 := Lib.hid hn4; have HRT := Lib.hid (show Na.mayB x.ro.name false = rt from hrt); have HCN := Lib.hid hcn; have HGN := Lib.hid hgn; have HNS := Lib.hid hns; have HAA := Lib.hid haa; have HIB := Lib.hid hib; have HSP := Lib.hid hS; have HBAD1 := Lib.hid hbad1; have HBAD2 := Lib.hid hbad2; have HND := Lib.hid hnode; have HBQ := Lib.hid hbadq
          clear hcd hn1 hn2 hn3 hn4 hrt hcn hgn hns haa hib hS hbad1 hbad2 hnode hbadq c0
          have b1 : (x.ro.kind == 2) = k2 := hk2
          clear hk2
          go_upto_region 7 with (refine wpList_load_mid rfl 28 (.tmp 23) rfl b (off + k * 5) rfl _ _ hx Tryz.underlying28 rfl Ro.size_row ?_)
          go_cut [53] from 25 to 53 (fun s wx => s = .bool bad1 ∧ wx = W)
          case first =>
            clear hk0
            go_wp2_with fail
            refine (refClean1 x.ro.data W (by omega) cd HCD.out).mono ?_
            rintro e w5 ⟨rfl, hw5⟩
            subst hw5
            cases cd with
            | false =>
              go_wp2
              go_meet
              exact ⟨congrArg Value.bool (by rw [← HBAD1.out]; rfl), rfl⟩
            | true =>
            cases k2 with
            | false =>
              go_wp2
              go_meet
              exact ⟨congrArg Value.bool (by rw [← HBAD1.out]; rfl), rfl⟩
            | true =>
            go_wp2_with fail
            refine (refHasT x.ro.data ⟨#[45, 45, 62]⟩ W (by omega) (by decide) (by decide) n1 HN1.out).mono ?_
            rintro e w6 ⟨rfl, hw6⟩
            subst hw6
            cases n1 with
            | true =>
              go_wp2
              go_meet
              exact ⟨congrArg Value.bool (by rw [← HBAD1.out]; rfl), rfl⟩
            | false =>
            go_wp2_with fail
            refine (refHasT x.ro.data ⟨#[45, 45, 33, 62]⟩ W (by omega) (by decide) (by decide) n2 HN2.out).mono ?_
            rintro e w6 ⟨rfl, hw6⟩
            subst hw6
            cases n2 with
            | true =>
              go_wp2
              go_meet
              exact ⟨congrArg Value.bool (by rw [← HBAD1.out]; rfl), rfl⟩
            | false =>
            go_wp2_with fail
            refine (refAt8 x.ro.data ⟨#[62]⟩ 0 W (by omega) (by omega) (by decide) (by decide) n3 HN3.out).mono ?_
            rintro e w6 ⟨rfl, hw6⟩
            subst hw6
            cases n3 with
            | true =>
              go_wp2
              go_meet
              exact ⟨congrArg Value.bool (by rw [← HBAD1.out]; rfl), rfl⟩
            | false =>
            go_wp2_with fail
            refine (refAt8 x.ro.data ⟨#[45, 62]⟩ 0 W (by omega) (by omega) (by decide) (by decide) n4 HN4.out).mono ?_
            rintro e w6 ⟨rfl, hw6⟩
            subst hw6
            go_wp2
            go_meet
            exact ⟨congrArg Value.bool (by rw [← HBAD1.out]; rfl), rfl⟩
          case rest =>
          obtain ⟨rfl, hwx⟩ := hcut
          have hwx := hwx.symm
          subst hwx
          cases bad1 with
          | true =>
            have hq0 := HBQ.out rfl
            subst hq0
            go_wp2
            go_ret
            exact ⟨rfl, HBW.out⟩
          | false =>
          go_upto_region 9 with (fail)
          go_cut [95] from 54 to 95 (fun s wx => s = .bool bad2 ∧ Below W.heap.size W wx)
          case first =>
            clear b1
            cases k0 with
            | false =>
              go_quiet (fail)
              go_wp2
              go_meet
              exact ⟨congrArg Value.bool (by rw [← HBAD2.out]; rfl), below_dN (Below.refl _ _) _⟩
            | true =>
              have HK0 := Lib.hid (beq_iff_eq.1 hk0)
              cases rt with
              | false =>
                go_quiet (exact To.quietB (Na.may1 _ x.ro.name false _ (by omega) HRT.out) rfl)
                go_wp2
                go_meet
                exact ⟨congrArg Value.bool (by rw [← HBAD2.out]; rfl), below_dN (Below.refl _ _) _⟩
              | true =>
                cases cn with
                | false =>
                  go_quiet (first | exact To.quietB (Na.may1 _ x.ro.name false _ (by omega) HRT.out) rfl | exact To.quietB (refClean1 x.ro.name _ (by omega) _ HCN.out) rfl)
                  go_wp2
                  go_meet
                  exact ⟨congrArg Value.bool (by rw [← HBAD2.out]; rfl), below_dN (Below.refl _ _) _⟩
                | true =>
                  cases gn with
                  | true =>
                    refine wp_region_noPanic ?_
                    refine wp_region_held_drew (S := (fun w' => w'.cell? ⟨g, 1, none⟩ = some (.int .i64 x.ro.kind) ∧ w'.cell? ⟨g, 2, none⟩ = some (.string x.ro.name) ∧ w'.cell? ⟨g, 4, none⟩ = some (.slice x.A x.ro.attrs.length x.c))) (by kernel_rfl) ?_ (fun hHeld => ?_)
                    · exact ⟨C1.out, C2.out, C4.out⟩
                    refine wpAnyH_take (i := 0) (oi := _) (v := ?_) rfl (by kernel_rfl) (by kernel_rfl) (by kernel_rfl) (fun _ _ _ h => h) (Or.inl ⟨by rfl, ?_⟩) (by assumption) ?_
                    rotate_left
                    · intro w hSw; (try dsimp only at hSw); go_simp; all_goals with_reducible rfl
                    try simp only [Act.put, List.getElem_toArray, List.getElem_cons_zero, List.getElem_cons_succ, List.setIfInBounds_toArray, List.set_cons_zero, List.set_cons_succ]
                    refine wpAnyH_take (i := 1) (oi := _) (v := ?_) rfl (by kernel_rfl) (by kernel_rfl) (by kernel_rfl) (fun _ _ _ h => h) (Or.inl ⟨by rfl, ?_⟩) (by assumption) ?_
                    rotate_left
                    · intro w hSw; (try dsimp only at hSw); go_simp; all_goals with_reducible rfl
                    try simp only [Act.put, List.getElem_toArray, List.getElem_cons_zero, List.getElem_cons_succ, List.setIfInBounds_toArray, List.set_cons_zero, List.set_cons_succ]
                    refine wpAnyH_take (i := 2) (oi := _) (v := ?_) rfl (by kernel_rfl) (by kernel_rfl) (by kernel_rfl) (fun _ _ _ h => h) (Or.inl ⟨by rfl, ?_⟩) (by assumption) ?_
                    rotate_left
                    · intro w hSw; (try dsimp only at hSw); go_simp; all_goals with_reducible rfl
                    try simp only [Act.put, List.getElem_toArray, List.getElem_cons_zero, List.getElem_cons_succ, List.setIfInBounds_toArray, List.set_cons_zero, List.set_cons_succ]
                    refine wpAnyH_take (i := 3) (oi := _) (v := ?_) rfl (by kernel_rfl) (by kernel_rfl) (by kernel_rfl) (fun _ _ _ h => h) (Or.inl ⟨by rfl, ?_⟩) (by assumption) ?_
                    rotate_left
                    · intro w hSw; (try dsimp only at hSw); go_simp; all_goals with_reducible rfl
                    try simp only [Act.put, List.getElem_toArray, List.getElem_cons_zero, List.getElem_cons_succ, List.setIfInBounds_toArray, List.set_cons_zero, List.set_cons_succ]
                    refine wpAnyH_take (i := 4) (oi := _) (v := ?_) rfl (by kernel_rfl) (by kernel_rfl) (by kernel_rfl) (fun _ _ _ h => h) (Or.inl ⟨by rfl, ?_⟩) (by assumption) ?_
                    rotate_left
                    · intro w hSw; (try dsimp only at hSw); go_simp; all_goals with_reducible rfl
                    try simp only [Act.put, List.getElem_toArray, List.getElem_cons_zero, List.getElem_cons_succ, List.setIfInBounds_toArray, List.set_cons_zero, List.set_cons_succ]
                    refine wpAnyH_take (i := 5) (oi := _) (v := ?_) rfl (by kernel_rfl) (by kernel_rfl) (by kernel_rfl) (fun _ _ _ h => h) (Or.inl ⟨by rfl, ?_⟩) (by assumption) ?_
                    rotate_left
                    · intro w hSw; (try dsimp only at hSw); go_simp; all_goals with_reducible rfl
                    try simp only [Act.put, List.getElem_toArray, List.getElem_cons_zero, List.getElem_cons_succ, List.setIfInBounds_toArray, List.set_cons_zero, List.set_cons_succ]
                    refine wpAnyH_ready (rs := [6]) (by kernel_rfl) (by simp) ?_
                    refine AllReadyH.cons (o := _) rfl (fun K hK => ?_) AllReadyH.nil
                    go_simp
                    go_at_call 22
                    refine (Na.may1 _ x.ro.name false _ (by omega) HRT.out).mono ?_
                    rintro e w9 ⟨rfl, rfl⟩
                    go_wp2_with fail
                    refine hK.out _ _ ?_ (fun hHeld => ?_)
                    · exact ⟨C1.out, C2.out, C4.out⟩
                    clear hK K
                    try simp only [Act.put, List.getElem_toArray, List.getElem_cons_zero, List.getElem_cons_succ, List.setIfInBounds_toArray, List.set_cons_zero, List.set_cons_succ]
                    refine wpAnyH_take (i := 7) (oi := _) (v := ?_) rfl (by kernel_rfl) (by kernel_rfl) (by kernel_rfl) (fun _ _ _ h => h) (Or.inl ⟨by rfl, ?_⟩) (by assumption) ?_
                    rotate_left
                    · intro w hSw; (try dsimp only at hSw); go_simp; all_goals with_reducible rfl
                    try simp only [Act.put, List.getElem_toArray, List.getElem_cons_zero, List.getElem_cons_succ, List.setIfInBounds_toArray, List.set_cons_zero, List.set_cons_succ]
                    refine wpAnyH_take (i := 8) (oi := _) (v := ?_) rfl (by kernel_rfl) (by kernel_rfl) (by kernel_rfl) (fun _ _ _ h => h) (Or.inl ⟨by rfl, ?_⟩) (by assumption) ?_
                    rotate_left
                    · intro w hSw; (try dsimp only at hSw); go_simp; all_goals with_reducible rfl
                    try simp only [Act.put, List.getElem_toArray, List.getElem_cons_zero, List.getElem_cons_succ, List.setIfInBounds_toArray, List.set_cons_zero, List.set_cons_succ]
                    refine wpAnyH_take (i := 9) (oi := _) (v := ?_) rfl (by kernel_rfl) (by kernel_rfl) (by kernel_rfl) (fun _ _ _ h => h) (Or.inl ⟨by rfl, ?_⟩) (by assumption) ?_
                    rotate_left
                    · intro w hSw; (try dsimp only at hSw); go_simp; all_goals with_reducible rfl
                    try simp only [Act.put, List.getElem_toArray, List.getElem_cons_zero, List.getElem_cons_succ, List.setIfInBounds_toArray, List.set_cons_zero, List.set_cons_succ]
                    refine wpAnyH_take (i := 10) (oi := _) (v := ?_) rfl (by kernel_rfl) (by kernel_rfl) (by kernel_rfl) (fun _ _ _ h => h) (Or.inl ⟨by rfl, ?_⟩) (by assumption) ?_
                    rotate_left
                    · intro w hSw; (try dsimp only at hSw); go_simp; all_goals with_reducible rfl
                    try simp only [Act.put, List.getElem_toArray, List.getElem_cons_zero, List.getElem_cons_succ, List.setIfInBounds_toArray, List.set_cons_zero, List.set_cons_succ]
                    refine wpAnyH_ready (rs := [11]) (by kernel_rfl) (by simp) ?_
                    refine AllReadyH.cons (o := _) rfl (fun K hK => ?_) AllReadyH.nil
                    go_simp
                    go_at_call 19
                    refine (refClean1 x.ro.name _ (by omega) _ HCN.out).mono ?_
                    rintro e w9 ⟨rfl, rfl⟩
                    go_wp2_with fail
                    refine hK.out _ _ ?_ (fun hHeld => ?_)
                    · exact ⟨C1.out, C2.out, C4.out⟩
                    clear hK K
                    try simp only [Act.put, List.getElem_toArray, List.getElem_cons_zero, List.getElem_cons_succ, List.setIfInBounds_toArray, List.set_cons_zero, List.set_cons_succ]
                    refine wpAnyH_take (i := 12) (oi := _) (v := ?_) rfl (by kernel_rfl) (by kernel_rfl) (by kernel_rfl) (fun _ _ _ h => h) (Or.inl ⟨by rfl, ?_⟩) (by assumption) ?_
                    rotate_left
                    · intro w hSw; (try dsimp only at hSw); go_simp; all_goals with_reducible rfl
                    try simp only [Act.put, List.getElem_toArray, List.getElem_cons_zero, List.getElem_cons_succ, List.setIfInBounds_toArray, List.set_cons_zero, List.set_cons_succ]
                    refine wpAnyH_take (i := 13) (oi := _) (v := ?_) rfl (by kernel_rfl) (by kernel_rfl) (by kernel_rfl) (fun _ _ _ h => h) (Or.inl ⟨by rfl, ?_⟩) (by assumption) ?_
                    rotate_left
                    · intro w hSw; (try dsimp only at hSw); go_simp; all_goals with_reducible rfl
                    try simp only [Act.put, List.getElem_toArray, List.getElem_cons_zero, List.getElem_cons_succ, List.setIfInBounds_toArray, List.set_cons_zero, List.set_cons_succ]
                    refine wpAnyH_take (i := 14) (oi := _) (v := ?_) rfl (by kernel_rfl) (by kernel_rfl) (by kernel_rfl) (fun _ _ _ h => h) (Or.inl ⟨by rfl, ?_⟩) (by assumption) ?_
                    rotate_left
                    · intro w hSw; (try dsimp only at hSw); go_simp; all_goals with_reducible rfl
                    try simp only [Act.put, List.getElem_toArray, List.getElem_cons_zero, List.getElem_cons_succ, List.setIfInBounds_toArray, List.set_cons_zero, List.set_cons_succ]
                    refine wpAnyH_take (i := 16) (oi := _) (v := ?_) rfl (by kernel_rfl) (by kernel_rfl) (by kernel_rfl) (fun _ _ _ h => h) (Or.inl ⟨by rfl, ?_⟩) (by assumption) ?_
                    rotate_left
                    · intro w hSw; (try dsimp only at hSw); go_simp; all_goals with_reducible rfl
                    try simp only [Act.put, List.getElem_toArray, List.getElem_cons_zero, List.getElem_cons_succ, List.setIfInBounds_toArray, List.set_cons_zero, List.set_cons_succ]
                    refine wpAnyH_take (i := 17) (oi := _) (v := ?_) rfl (by kernel_rfl) (by kernel_rfl) (by kernel_rfl) (fun _ _ _ h => h) (Or.inl ⟨by rfl, ?_⟩) (by assumption) ?_
                    rotate_left
                    · intro w hSw; (try dsimp only at hSw); go_simp; all_goals with_reducible rfl
                    try simp only [Act.put, List.getElem_toArray, List.getElem_cons_zero, List.getElem_cons_succ, List.setIfInBounds_toArray, List.set_cons_zero, List.set_cons_succ]
                    refine wpAnyH_ready (rs := [15]) (by kernel_rfl) (by simp) ?_
                    refine AllReadyH.cons (o := _) rfl (fun K hK => ?_) AllReadyH.nil
                    go_simp
                    go_at_call 24
                    refine (Na.refGone_any _).mono ?_
                    rintro e w9 ⟨v9, rfl, s9, b9⟩
                    have HB9 := Lib.hid (show Below W.heap.size W w9 from below_drewW b9)
                    have HS9 := Lib.hid s9
                    have d1 := (b9.cell (p := ⟨g, 1, none⟩) hgl).trans C1.out
                    have d2 := (b9.cell (p := ⟨g, 2, none⟩) hgl).trans C2.out
                    have d4 := (b9.cell (p := ⟨g, 4, none⟩) hgl).trans C4.out
                    have hg9 := Nat.lt_of_lt_of_le hgl HB9.out.size
                    clear s9 b9
                    go_wp2_with fail
                    refine hK.out _ _ ?_ (fun hHeld => ?_)
                    · exact ⟨d1, d2, d4⟩
                    clear hK K
                    try simp only [Act.put, List.getElem_toArray, List.getElem_cons_zero, List.getElem_cons_succ, List.setIfInBounds_toArray, List.set_cons_zero, List.set_cons_succ]
                    refine wpAnyH_ready (rs := [18]) (by kernel_rfl) (by simp) ?_
                    refine AllReadyH.cons (o := _) rfl (fun K hK => ?_) AllReadyH.nil
                    go_simp
                    go_at_call 23
                    refine (refHas1 _ goneL _ _ (sv_own HS9.out) (by decide) _ HGN.out).mono ?_
                    rintro e w10 ⟨rfl, rfl⟩
                    go_wp2_with fail
                    refine hK.out _ _ ?_ (fun hHeld => ?_)
                    · exact ⟨d1, d2, d4⟩
                    clear hK K
                    try simp only [Act.put, List.getElem_toArray, List.getElem_cons_zero, List.getElem_cons_succ, List.setIfInBounds_toArray, List.set_cons_zero, List.set_cons_succ]
                    refine wpAnyH_take (i := 19) (oi := _) (v := ?_) rfl (by kernel_rfl) (by kernel_rfl) (by kernel_rfl) (fun _ _ _ h => h) (Or.inl ⟨by rfl, ?_⟩) (by assumption) ?_
                    rotate_left
                    · intro w hSw; (try dsimp only at hSw); go_simp; all_goals with_reducible rfl
                    try simp only [Act.put, List.getElem_toArray, List.getElem_cons_zero, List.getElem_cons_succ, List.setIfInBounds_toArray, List.set_cons_zero, List.set_cons_succ]
                    refine wpAnyH_take (i := 20) (oi := _) (v := ?_) rfl (by kernel_rfl) (by kernel_rfl) (by kernel_rfl) (fun _ _ _ h => h) (Or.inl ⟨by rfl, ?_⟩) (by assumption) ?_
                    rotate_left
                    · intro w hSw; (try dsimp only at hSw); go_simp; all_goals with_reducible rfl
                    try simp only [Act.put, List.getElem_toArray, List.getElem_cons_zero, List.getElem_cons_succ, List.setIfInBounds_toArray, List.set_cons_zero, List.set_cons_succ]
                    refine wpAnyH_take (i := 21) (oi := _) (v := undef) rfl (by kernel_rfl) (by kernel_rfl) (by kernel_rfl) (fun _ _ _ h => h) (Or.inr ⟨by rfl, rfl⟩) (by assumption) ?_
                    try simp only [Act.put, List.getElem_toArray, List.getElem_cons_zero, List.getElem_cons_succ, List.setIfInBounds_toArray, List.set_cons_zero, List.set_cons_succ]
                    refine wpAnyH_take (i := 22) (oi := _) (v := undef) rfl (by kernel_rfl) (by kernel_rfl) (by kernel_rfl) (fun _ _ _ h => h) (Or.inr ⟨by rfl, rfl⟩) (by assumption) ?_
                    try simp only [Act.put, List.getElem_toArray, List.getElem_cons_zero, List.getElem_cons_succ, List.setIfInBounds_toArray, List.set_cons_zero, List.set_cons_succ]
                    refine wpAnyH_take (i := 23) (oi := _) (v := undef) rfl (by kernel_rfl) (by kernel_rfl) (by kernel_rfl) (fun _ _ _ h => h) (Or.inr ⟨by rfl, rfl⟩) (by assumption) ?_
                    try simp only [Act.put, List.getElem_toArray, List.getElem_cons_zero, List.getElem_cons_succ, List.setIfInBounds_toArray, List.set_cons_zero, List.set_cons_succ]
                    refine wpAnyH_take (i := 24) (oi := _) (v := undef) rfl (by kernel_rfl) (by kernel_rfl) (by kernel_rfl) (fun _ _ _ h => h) (Or.inr ⟨by rfl, rfl⟩) (by assumption) ?_
                    try simp only [Act.put, List.getElem_toArray, List.getElem_cons_zero, List.getElem_cons_succ, List.setIfInBounds_toArray, List.set_cons_zero, List.set_cons_succ]
                    refine wpAnyH_take (i := 25) (oi := _) (v := undef) rfl (by kernel_rfl) (by kernel_rfl) (by kernel_rfl) (fun _ _ _ h => h) (Or.inr ⟨by rfl, rfl⟩) (by assumption) ?_
                    try simp only [Act.put, List.getElem_toArray, List.getElem_cons_zero, List.getElem_cons_succ, List.setIfInBounds_toArray, List.set_cons_zero, List.set_cons_succ]
                    refine wpAnyH_take (i := 26) (oi := _) (v := undef) rfl (by kernel_rfl) (by kernel_rfl) (by kernel_rfl) (fun _ _ _ h => h) (Or.inr ⟨by rfl, rfl⟩) (by assumption) ?_
                    try simp only [Act.put, List.getElem_toArray, List.getElem_cons_zero, List.getElem_cons_succ, List.setIfInBounds_toArray, List.set_cons_zero, List.set_cons_succ]
                    refine wpAnyH_take (i := 27) (oi := _) (v := undef) rfl (by kernel_rfl) (by kernel_rfl) (by kernel_rfl) (fun _ _ _ h => h) (Or.inr ⟨by rfl, rfl⟩) (by assumption) ?_
                    try simp only [Act.put, List.getElem_toArray, List.getElem_cons_zero, List.getElem_cons_succ, List.setIfInBounds_toArray, List.set_cons_zero, List.set_cons_succ]
                    refine wpAnyH_take (i := 28) (oi := _) (v := ?_) rfl (by kernel_rfl) (by kernel_rfl) (by kernel_rfl) (fun _ _ _ h => h) (Or.inl ⟨by rfl, ?_⟩) (by assumption) ?_
                    rotate_left
                    · intro w hSw; (try dsimp only at hSw); go_simp; all_goals with_reducible rfl
                    try simp only [Act.put, List.getElem_toArray, List.getElem_cons_zero, List.getElem_cons_succ, List.setIfInBounds_toArray, List.set_cons_zero, List.set_cons_succ]
                    refine wpAnyH_take (i := 29) (oi := _) (v := ?_) rfl (by kernel_rfl) (by kernel_rfl) (by kernel_rfl) (fun _ _ _ h => h) (Or.inl ⟨by rfl, ?_⟩) (by assumption) ?_
                    rotate_left
                    · intro w hSw; (try dsimp only at hSw); go_simp; all_goals with_reducible rfl
                    try simp only [Act.put, List.getElem_toArray, List.getElem_cons_zero, List.getElem_cons_succ, List.setIfInBounds_toArray, List.set_cons_zero, List.set_cons_succ]
                    refine wpAnyH_take (i := 30) (oi := _) (v := undef) rfl (by kernel_rfl) (by kernel_rfl) (by kernel_rfl) (fun _ _ _ h => h) (Or.inr ⟨by rfl, rfl⟩) (by assumption) ?_
                    try simp only [Act.put, List.getElem_toArray, List.getElem_cons_zero, List.getElem_cons_succ, List.setIfInBounds_toArray, List.set_cons_zero, List.set_cons_succ]
                    refine wpAnyH_take (i := 31) (oi := _) (v := undef) rfl (by kernel_rfl) (by kernel_rfl) (by kernel_rfl) (fun _ _ _ h => h) (Or.inr ⟨by rfl, rfl⟩) (by assumption) ?_
                    try simp only [Act.put, List.getElem_toArray, List.getElem_cons_zero, List.getElem_cons_succ, List.setIfInBounds_toArray, List.set_cons_zero, List.set_cons_succ]
                    refine wpAnyH_take (i := 32) (oi := _) (v := undef) rfl (by kernel_rfl) (by kernel_rfl) (by kernel_rfl) (fun _ _ _ h => h) (Or.inr ⟨by rfl, rfl⟩) (by assumption) ?_
                    try simp only [Act.put, List.getElem_toArray, List.getElem_cons_zero, List.getElem_cons_succ, List.setIfInBounds_toArray, List.set_cons_zero, List.set_cons_succ]
                    refine wpAnyH_take (i := 33) (oi := _) (v := undef) rfl (by kernel_rfl) (by kernel_rfl) (by kernel_rfl) (fun _ _ _ h => h) (Or.inr ⟨by rfl, rfl⟩) (by assumption) ?_
                    try simp only [Act.put, List.getElem_toArray, List.getElem_cons_zero, List.getElem_cons_succ, List.setIfInBounds_toArray, List.set_cons_zero, List.set_cons_succ]
                    refine wpAnyH_take (i := 34) (oi := _) (v := ?_) rfl (by kernel_rfl) (by kernel_rfl) (by kernel_rfl) (fun _ _ _ h => h) (Or.inl ⟨by rfl, ?_⟩) (by assumption) ?_
                    rotate_left
                    · intro w hSw; (try dsimp only at hSw); go_simp; all_goals with_reducible rfl
                    try simp only [Act.put, List.getElem_toArray, List.getElem_cons_zero, List.getElem_cons_succ, List.setIfInBounds_toArray, List.set_cons_zero, List.set_cons_succ]
                    refine wpAnyH_take (i := 35) (oi := _) (v := ?_) rfl (by kernel_rfl) (by kernel_rfl) (by kernel_rfl) (fun _ _ _ h => h) (Or.inl ⟨by rfl, ?_⟩) (by assumption) ?_
                    rotate_left
                    · intro w hSw; (try dsimp only at hSw); go_simp; all_goals with_reducible rfl
                    try simp only [Act.put, List.getElem_toArray, List.getElem_cons_zero, List.getElem_cons_succ, List.setIfInBounds_toArray, List.set_cons_zero, List.set_cons_succ]
                    refine wpAnyH_take (i := 36) (oi := _) (v := undef) rfl (by kernel_rfl) (by kernel_rfl) (by kernel_rfl) (fun _ _ _ h => h) (Or.inr ⟨by rfl, rfl⟩) (by assumption) ?_
                    try simp only [Act.put, List.getElem_toArray, List.getElem_cons_zero, List.getElem_cons_succ, List.setIfInBounds_toArray, List.set_cons_zero, List.set_cons_succ]
                    refine wpAnyH_take (i := 37) (oi := _) (v := undef) rfl (by kernel_rfl) (by kernel_rfl) (by kernel_rfl) (fun _ _ _ h => h) (Or.inr ⟨by rfl, rfl⟩) (by assumption) ?_
                    try simp only [Act.put, List.getElem_toArray, List.getElem_cons_zero, List.getElem_cons_succ, List.setIfInBounds_toArray, List.set_cons_zero, List.set_cons_succ]
                    refine wpAnyH_take (i := 38) (oi := _) (v := undef) rfl (by kernel_rfl) (by kernel_rfl) (by kernel_rfl) (fun _ _ _ h => h) (Or.inr ⟨by rfl, rfl⟩) (by assumption) ?_
                    try simp only [Act.put, List.getElem_toArray, List.getElem_cons_zero, List.getElem_cons_succ, List.setIfInBounds_toArray, List.set_cons_zero, List.set_cons_succ]
                    refine wpAnyH_take (i := 39) (oi := _) (v := undef) rfl (by kernel_rfl) (by kernel_rfl) (by kernel_rfl) (fun _ _ _ h => h) (Or.inr ⟨by rfl, rfl⟩) (by assumption) ?_
                    try simp only [Act.put, List.getElem_toArray, List.getElem_cons_zero, List.getElem_cons_succ, List.setIfInBounds_toArray, List.set_cons_zero, List.set_cons_succ]
                    refine wpAnyH_take (i := 40) (oi := _) (v := ?_) rfl (by kernel_rfl) (by kernel_rfl) (by kernel_rfl) (fun _ _ _ h => h) (Or.inl ⟨by rfl, ?_⟩) (by assumption) ?_
                    rotate_left
                    · intro w hSw; (try dsimp only at hSw); go_simp; all_goals with_reducible rfl
                    try simp only [Act.put, List.getElem_toArray, List.getElem_cons_zero, List.getElem_cons_succ, List.setIfInBounds_toArray, List.set_cons_zero, List.set_cons_succ]
                    refine wpAnyH_take (i := 41) (oi := _) (v := ?_) rfl (by kernel_rfl) (by kernel_rfl) (by kernel_rfl) (fun _ _ _ h => h) (Or.inl ⟨by rfl, ?_⟩) (by assumption) ?_
                    rotate_left
                    · intro w hSw; (try dsimp only at hSw); go_simp; all_goals with_reducible rfl
                    try simp only [Act.put, List.getElem_toArray, List.getElem_cons_zero, List.getElem_cons_succ, List.setIfInBounds_toArray, List.set_cons_zero, List.set_cons_succ]
                    refine wpAnyH_done (by kernel_rfl) ?_ _
                    refine NoPanic.normal ?_
                    go_wp2
                    go_meet
                    exact ⟨congrArg Value.bool (by rw [← HBAD2.out]; rfl), HB9.out⟩
                  | false =>
                    cases ns with
                    | false =>
                      refine wp_region_noPanic ?_
                      refine wp_region_held_drew (S := (fun w' => w'.cell? ⟨g, 1, none⟩ = some (.int .i64 x.ro.kind) ∧ w'.cell? ⟨g, 2, none⟩ = some (.string x.ro.name) ∧ w'.cell? ⟨g, 4, none⟩ = some (.slice x.A x.ro.attrs.length x.c))) (by kernel_rfl) ?_ (fun hHeld => ?_)
                      · exact ⟨C1.out, C2.out, C4.out⟩
                      refine wpAnyH_take (i := 0) (oi := _) (v := ?_) rfl (by kernel_rfl) (by kernel_rfl) (by kernel_rfl) (fun _ _ _ h => h) (Or.inl ⟨by rfl, ?_⟩) (by assumption) ?_
                      rotate_left
                      · intro w hSw; (try dsimp only at hSw); go_simp; all_goals with_reducible rfl
                      try simp only [Act.put, List.getElem_toArray, List.getElem_cons_zero, List.getElem_cons_succ, List.setIfInBounds_toArray, List.set_cons_zero, List.set_cons_succ]
                      refine wpAnyH_take (i := 1) (oi := _) (v := ?_) rfl (by kernel_rfl) (by kernel_rfl) (by kernel_rfl) (fun _ _ _ h => h) (Or.inl ⟨by rfl, ?_⟩) (by assumption) ?_
                      rotate_left
                      · intro w hSw; (try dsimp only at hSw); go_simp; all_goals with_reducible rfl
                      try simp only [Act.put, List.getElem_toArray, List.getElem_cons_zero, List.getElem_cons_succ, List.setIfInBounds_toArray, List.set_cons_zero, List.set_cons_succ]
                      refine wpAnyH_take (i := 2) (oi := _) (v := ?_) rfl (by kernel_rfl) (by kernel_rfl) (by kernel_rfl) (fun _ _ _ h => h) (Or.inl ⟨by rfl, ?_⟩) (by assumption) ?_
                      rotate_left
                      · intro w hSw; (try dsimp only at hSw); go_simp; all_goals with_reducible rfl
                      try simp only [Act.put, List.getElem_toArray, List.getElem_cons_zero, List.getElem_cons_succ, List.setIfInBounds_toArray, List.set_cons_zero, List.set_cons_succ]
                      refine wpAnyH_take (i := 3) (oi := _) (v := ?_) rfl (by kernel_rfl) (by kernel_rfl) (by kernel_rfl) (fun _ _ _ h => h) (Or.inl ⟨by rfl, ?_⟩) (by assumption) ?_
                      rotate_left
                      · intro w hSw; (try dsimp only at hSw); go_simp; all_goals with_reducible rfl
                      try simp only [Act.put, List.getElem_toArray, List.getElem_cons_zero, List.getElem_cons_succ, List.setIfInBounds_toArray, List.set_cons_zero, List.set_cons_succ]
                      refine wpAnyH_take (i := 4) (oi := _) (v := ?_) rfl (by kernel_rfl) (by kernel_rfl) (by kernel_rfl) (fun _ _ _ h => h) (Or.inl ⟨by rfl, ?_⟩) (by assumption) ?_
                      rotate_left
                      · intro w hSw; (try dsimp only at hSw); go_simp; all_goals with_reducible rfl
                      try simp only [Act.put, List.getElem_toArray, List.getElem_cons_zero, List.getElem_cons_succ, List.setIfInBounds_toArray, List.set_cons_zero, List.set_cons_succ]
                      refine wpAnyH_take (i := 5) (oi := _) (v := ?_) rfl (by kernel_rfl) (by kernel_rfl) (by kernel_rfl) (fun _ _ _ h => h) (Or.inl ⟨by rfl, ?_⟩) (by assumption) ?_
                      rotate_left
                      · intro w hSw; (try dsimp only at hSw); go_simp; all_goals with_reducible rfl
                      try simp only [Act.put, List.getElem_toArray, List.getElem_cons_zero, List.getElem_cons_succ, List.setIfInBounds_toArray, List.set_cons_zero, List.set_cons_succ]
                      refine wpAnyH_ready (rs := [6]) (by kernel_rfl) (by simp) ?_
                      refine AllReadyH.cons (o := _) rfl (fun K hK => ?_) AllReadyH.nil
                      go_simp
                      go_at_call 22
                      refine (Na.may1 _ x.ro.name false _ (by omega) HRT.out).mono ?_
                      rintro e w9 ⟨rfl, rfl⟩
                      go_wp2_with fail
                      refine hK.out _ _ ?_ (fun hHeld => ?_)
                      · exact ⟨C1.out, C2.out, C4.out⟩
                      clear hK K
                      try simp only [Act.put, List.getElem_toArray, List.getElem_cons_zero, List.getElem_cons_succ, List.setIfInBounds_toArray, List.set_cons_zero, List.set_cons_succ]
                      refine wpAnyH_take (i := 7) (oi := _) (v := ?_) rfl (by kernel_rfl) (by kernel_rfl) (by kernel_rfl) (fun _ _ _ h => h) (Or.inl ⟨by rfl, ?_⟩) (by assumption) ?_
                      rotate_left
                      · intro w hSw; (try dsimp only at hSw); go_simp; all_goals with_reducible rfl
                      try simp only [Act.put, List.getElem_toArray, List.getElem_cons_zero, List.getElem_cons_succ, List.setIfInBounds_toArray, List.set_cons_zero, List.set_cons_succ]
                      refine wpAnyH_take (i := 8) (oi := _) (v := ?_) rfl (by kernel_rfl) (by kernel_rfl) (by kernel_rfl) (fun _ _ _ h => h) (Or.inl ⟨by rfl, ?_⟩) (by assumption) ?_
                      rotate_left
                      · intro w hSw; (try dsimp only at hSw); go_simp; all_goals with_reducible rfl
                      try simp only [Act.put, List.getElem_toArray, List.getElem_cons_zero, List.getElem_cons_succ, List.setIfInBounds_toArray, List.set_cons_zero, List.set_cons_succ]
                      refine wpAnyH_take (i := 9) (oi := _) (v := ?_) rfl (by kernel_rfl) (by kernel_rfl) (by kernel_rfl) (fun _ _ _ h => h) (Or.inl ⟨by rfl, ?_⟩) (by assumption) ?_
                      rotate_left
                      · intro w hSw; (try dsimp only at hSw); go_simp; all_goals with_reducible rfl
                      try simp only [Act.put, List.getElem_toArray, List.getElem_cons_zero, List.getElem_cons_succ, List.setIfInBounds_toArray, List.set_cons_zero, List.set_cons_succ]
                      refine wpAnyH_take (i := 10) (oi := _) (v := ?_) rfl (by kernel_rfl) (by kernel_rfl) (by kernel_rfl) (fun _ _ _ h => h) (Or.inl ⟨by rfl, ?_⟩) (by assumption) ?_
                      rotate_left
                      · intro w hSw; (try dsimp only at hSw); go_simp; all_goals with_reducible rfl
                      try simp only [Act.put, List.getElem_toArray, List.getElem_cons_zero, List.getElem_cons_succ, List.setIfInBounds_toArray, List.set_cons_zero, List.set_cons_succ]
                      refine wpAnyH_ready (rs := [11]) (by kernel_rfl) (by simp) ?_
                      refine AllReadyH.cons (o := _) rfl (fun K hK => ?_) AllReadyH.nil
                      go_simp
                      go_at_call 19
                      refine (refClean1 x.ro.name _ (by omega) _ HCN.out).mono ?_
                      rintro e w9 ⟨rfl, rfl⟩
                      go_wp2_with fail
                      refine hK.out _ _ ?_ (fun hHeld => ?_)
                      · exact ⟨C1.out, C2.out, C4.out⟩
                      clear hK K
                      try simp only [Act.put, List.getElem_toArray, List.getElem_cons_zero, List.getElem_cons_succ, List.setIfInBounds_toArray, List.set_cons_zero, List.set_cons_succ]
                      refine wpAnyH_take (i := 12) (oi := _) (v := ?_) rfl (by kernel_rfl) (by kernel_rfl) (by kernel_rfl) (fun _ _ _ h => h) (Or.inl ⟨by rfl, ?_⟩) (by assumption) ?_
                      rotate_left
                      · intro w hSw; (try dsimp only at hSw); go_simp; all_goals with_reducible rfl
                      try simp only [Act.put, List.getElem_toArray, List.getElem_cons_zero, List.getElem_cons_succ, List.setIfInBounds_toArray, List.set_cons_zero, List.set_cons_succ]
                      refine wpAnyH_take (i := 13) (oi := _) (v := ?_) rfl (by kernel_rfl) (by kernel_rfl) (by kernel_rfl) (fun _ _ _ h => h) (Or.inl ⟨by rfl, ?_⟩) (by assumption) ?_
                      rotate_left
                      · intro w hSw; (try dsimp only at hSw); go_simp; all_goals with_reducible rfl
                      try simp only [Act.put, List.getElem_toArray, List.getElem_cons_zero, List.getElem_cons_succ, List.setIfInBounds_toArray, List.set_cons_zero, List.set_cons_succ]
                      refine wpAnyH_take (i := 14) (oi := _) (v := ?_) rfl (by kernel_rfl) (by kernel_rfl) (by kernel_rfl) (fun _ _ _ h => h) (Or.inl ⟨by rfl, ?_⟩) (by assumption) ?_
                      rotate_left
                      · intro w hSw; (try dsimp only at hSw); go_simp; all_goals with_reducible rfl
                      try simp only [Act.put, List.getElem_toArray, List.getElem_cons_zero, List.getElem_cons_succ, List.setIfInBounds_toArray, List.set_cons_zero, List.set_cons_succ]
                      refine wpAnyH_take (i := 16) (oi := _) (v := ?_) rfl (by kernel_rfl) (by kernel_rfl) (by kernel_rfl) (fun _ _ _ h => h) (Or.inl ⟨by rfl, ?_⟩) (by assumption) ?_
                      rotate_left
                      · intro w hSw; (try dsimp only at hSw); go_simp; all_goals with_reducible rfl
                      try simp only [Act.put, List.getElem_toArray, List.getElem_cons_zero, List.getElem_cons_succ, List.setIfInBounds_toArray, List.set_cons_zero, List.set_cons_succ]
                      refine wpAnyH_take (i := 17) (oi := _) (v := ?_) rfl (by kernel_rfl) (by kernel_rfl) (by kernel_rfl) (fun _ _ _ h => h) (Or.inl ⟨by rfl, ?_⟩) (by assumption) ?_
                      rotate_left
                      · intro w hSw; (try dsimp only at hSw); go_simp; all_goals with_reducible rfl
                      try simp only [Act.put, List.getElem_toArray, List.getElem_cons_zero, List.getElem_cons_succ, List.setIfInBounds_toArray, List.set_cons_zero, List.set_cons_succ]
                      refine wpAnyH_ready (rs := [15]) (by kernel_rfl) (by simp) ?_
                      refine AllReadyH.cons (o := _) rfl (fun K hK => ?_) AllReadyH.nil
                      go_simp
                      go_at_call 24
                      refine (Na.refGone_any _).mono ?_
                      rintro e w9 ⟨v9, rfl, s9, b9⟩
                      have HB9 := Lib.hid (show Below W.heap.size W w9 from below_drewW b9)
                      have HS9 := Lib.hid s9
                      have d1 := (b9.cell (p := ⟨g, 1, none⟩) hgl).trans C1.out
                      have d2 := (b9.cell (p := ⟨g, 2, none⟩) hgl).trans C2.out
                      have d4 := (b9.cell (p := ⟨g, 4, none⟩) hgl).trans C4.out
                      have hg9 := Nat.lt_of_lt_of_le hgl HB9.out.size
                      clear s9 b9
                      go_wp2_with fail
                      refine hK.out _ _ ?_ (fun hHeld => ?_)
                      · exact ⟨d1, d2, d4⟩
                      clear hK K
                      try simp only [Act.put, List.getElem_toArray, List.getElem_cons_zero, List.getElem_cons_succ, List.setIfInBounds_toArray, List.set_cons_zero, List.set_cons_succ]
                      refine wpAnyH_ready (rs := [18]) (by kernel_rfl) (by simp) ?_
                      refine AllReadyH.cons (o := _) rfl (fun K hK => ?_) AllReadyH.nil
                      go_simp
                      go_at_call 23
                      refine (refHas1 _ goneL _ _ (sv_own HS9.out) (by decide) _ HGN.out).mono ?_
                      rintro e w10 ⟨rfl, rfl⟩
                      go_wp2_with fail
                      refine hK.out _ _ ?_ (fun hHeld => ?_)
                      · exact ⟨d1, d2, d4⟩
                      clear hK K
                      try simp only [Act.put, List.getElem_toArray, List.getElem_cons_zero, List.getElem_cons_succ, List.setIfInBounds_toArray, List.set_cons_zero, List.set_cons_succ]
                      refine wpAnyH_take (i := 19) (oi := _) (v := ?_) rfl (by kernel_rfl) (by kernel_rfl) (by kernel_rfl) (fun _ _ _ h => h) (Or.inl ⟨by rfl, ?_⟩) (by assumption) ?_
                      rotate_left
                      · intro w hSw; (try dsimp only at hSw); go_simp; all_goals with_reducible rfl
                      try simp only [Act.put, List.getElem_toArray, List.getElem_cons_zero, List.getElem_cons_succ, List.setIfInBounds_toArray, List.set_cons_zero, List.set_cons_succ]
                      refine wpAnyH_take (i := 20) (oi := _) (v := ?_) rfl (by kernel_rfl) (by kernel_rfl) (by kernel_rfl) (fun _ _ _ h => h) (Or.inl ⟨by rfl, ?_⟩) (by assumption) ?_
                      rotate_left
                      · intro w hSw; (try dsimp only at hSw); go_simp; all_goals with_reducible rfl
                      try simp only [Act.put, List.getElem_toArray, List.getElem_cons_zero, List.getElem_cons_succ, List.setIfInBounds_toArray, List.set_cons_zero, List.set_cons_succ]
                      refine wpAnyH_take (i := 21) (oi := _) (v := ?_) rfl (by kernel_rfl) (by kernel_rfl) (by kernel_rfl) (fun _ _ _ h => h) (Or.inl ⟨by rfl, ?_⟩) (by assumption) ?_
                      rotate_left
                      · intro w hSw; (try dsimp only at hSw); go_simp; all_goals with_reducible rfl
                      try simp only [Act.put, List.getElem_toArray, List.getElem_cons_zero, List.getElem_cons_succ, List.setIfInBounds_toArray, List.set_cons_zero, List.set_cons_succ]
                      refine wpAnyH_take (i := 22) (oi := _) (v := ?_) rfl (by kernel_rfl) (by kernel_rfl) (by kernel_rfl) (fun _ _ _ h => h) (Or.inl ⟨by rfl, ?_⟩) (by assumption) ?_
                      rotate_left
                      · intro w hSw; (try dsimp only at hSw); go_simp; all_goals with_reducible rfl
                      try simp only [Act.put, List.getElem_toArray, List.getElem_cons_zero, List.getElem_cons_succ, List.setIfInBounds_toArray, List.set_cons_zero, List.set_cons_succ]
                      refine wpAnyH_take (i := 23) (oi := _) (v := ?_) rfl (by kernel_rfl) (by kernel_rfl) (by kernel_rfl) (fun _ _ _ h => h) (Or.inl ⟨by rfl, ?_⟩) (by assumption) ?_
                      rotate_left
                      · intro w hSw; (try dsimp only at hSw); go_simp; all_goals with_reducible rfl
                      try simp only [Act.put, List.getElem_toArray, List.getElem_cons_zero, List.getElem_cons_succ, List.setIfInBounds_toArray, List.set_cons_zero, List.set_cons_succ]
                      refine wpAnyH_take (i := 24) (oi := _) (v := ?_) rfl (by kernel_rfl) (by kernel_rfl) (by kernel_rfl) (fun _ _ _ h => h) (Or.inl ⟨by rfl, ?_⟩) (by assumption) ?_
                      rotate_left
                      · intro w hSw; (try dsimp only at hSw); go_simp; all_goals with_reducible rfl
                      try simp only [Act.put, List.getElem_toArray, List.getElem_cons_zero, List.getElem_cons_succ, List.setIfInBounds_toArray, List.set_cons_zero, List.set_cons_succ]
                      refine wpAnyH_ready (rs := [25]) (by kernel_rfl) (by simp) ?_
                      refine AllReadyH.cons (o := _) rfl (fun K hK => ?_) AllReadyH.nil
                      go_simp
                      go_at_call 26
                      refine (around1 k _ l k x.ro w9 S (Nat.le_refl _) (HVX.out.below HB9.out) hl H2.out HG.out HSP.out).mono ?_
                      rintro e w10 ⟨v10, rfl, s10, b10⟩
                      have HB10 := Lib.hid (bt HB9.out b10)
                      have HS10 := Lib.hid s10
                      have e1 := (b10.cell (p := ⟨g, 1, none⟩) hg9).trans d1
                      have e2 := (b10.cell (p := ⟨g, 2, none⟩) hg9).trans d2
                      have e4 := (b10.cell (p := ⟨g, 4, none⟩) hg9).trans d4
                      have hg10 := Nat.lt_of_lt_of_le hg9 b10.size
                      clear s10 b10
                      go_wp2_with fail
                      refine hK.out _ _ ?_ (fun hHeld => ?_)
                      · exact ⟨e1, e2, e4⟩
                      clear hK K
                      try simp only [Act.put, List.getElem_toArray, List.getElem_cons_zero, List.getElem_cons_succ, List.setIfInBounds_toArray, List.set_cons_zero, List.set_cons_succ]
                      refine wpAnyH_ready (rs := [26]) (by kernel_rfl) (by simp) ?_
                      refine AllReadyH.cons (o := _) rfl (fun K hK => ?_) AllReadyH.nil
                      go_simp
                      go_at_call 25
                      refine (Bu.refNested_any x.ro.name v10 S w10 hSl (sv_own HS10.out) _ HNS.out).mono ?_
                      rintro e w11 ⟨rfl, b11⟩
                      have HB11 := Lib.hid (bt HB10.out b11)
                      have f1 := (b11.cell (p := ⟨g, 1, none⟩) hg10).trans e1
                      have f2 := (b11.cell (p := ⟨g, 2, none⟩) hg10).trans e2
                      have f4 := (b11.cell (p := ⟨g, 4, none⟩) hg10).trans e4
                      have hg11 := Nat.lt_of_lt_of_le hg10 b11.size
                      clear b11
                      go_wp2_with fail
                      refine hK.out _ _ ?_ (fun hHeld => ?_)
                      · exact ⟨f1, f2, f4⟩
                      clear hK K
                      try simp only [Act.put, List.getElem_toArray, List.getElem_cons_zero, List.getElem_cons_succ, List.setIfInBounds_toArray, List.set_cons_zero, List.set_cons_succ]
                      refine wpAnyH_take (i := 27) (oi := _) (v := ?_) rfl (by kernel_rfl) (by kernel_rfl) (by kernel_rfl) (fun _ _ _ h => h) (Or.inl ⟨by rfl, ?_⟩) (by assumption) ?_
                      rotate_left
                      · intro w hSw; (try dsimp only at hSw); go_simp; all_goals with_reducible rfl
                      try simp only [Act.put, List.getElem_toArray, List.getElem_cons_zero, List.getElem_cons_succ, List.setIfInBounds_toArray, List.set_cons_zero, List.set_cons_succ]
                      refine wpAnyH_take (i := 28) (oi := _) (v := ?_) rfl (by kernel_rfl) (by kernel_rfl) (by kernel_rfl) (fun _ _ _ h => h) (Or.inl ⟨by rfl, ?_⟩) (by assumption) ?_
                      rotate_left
                      · intro w hSw; (try dsimp only at hSw); go_simp; all_goals with_reducible rfl
                      try simp only [Act.put, List.getElem_toArray, List.getElem_cons_zero, List.getElem_cons_succ, List.setIfInBounds_toArray, List.set_cons_zero, List.set_cons_succ]
                      refine wpAnyH_take (i := 29) (oi := _) (v := ?_) rfl (by kernel_rfl) (by kernel_rfl) (by kernel_rfl) (fun _ _ _ h => h) (Or.inl ⟨by rfl, ?_⟩) (by assumption) ?_
                      rotate_left
                      · intro w hSw; (try dsimp only at hSw); go_simp; all_goals with_reducible rfl
                      try simp only [Act.put, List.getElem_toArray, List.getElem_cons_zero, List.getElem_cons_succ, List.setIfInBounds_toArray, List.set_cons_zero, List.set_cons_succ]
                      refine wpAnyH_take (i := 30) (oi := _) (v := undef) rfl (by kernel_rfl) (by kernel_rfl) (by kernel_rfl) (fun _ _ _ h => h) (Or.inr ⟨by rfl, rfl⟩) (by assumption) ?_
                      try simp only [Act.put, List.getElem_toArray, List.getElem_cons_zero, List.getElem_cons_succ, List.setIfInBounds_toArray, List.set_cons_zero, List.set_cons_succ]
                      refine wpAnyH_take (i := 31) (oi := _) (v := undef) rfl (by kernel_rfl) (by kernel_rfl) (by kernel_rfl) (fun _ _ _ h => h) (Or.inr ⟨by rfl, rfl⟩) (by assumption) ?_
                      try simp only [Act.put, List.getElem_toArray, List.getElem_cons_zero, List.getElem_cons_succ, List.setIfInBounds_toArray, List.set_cons_zero, List.set_cons_succ]
                      refine wpAnyH_take (i := 32) (oi := _) (v := undef) rfl (by kernel_rfl) (by kernel_rfl) (by kernel_rfl) (fun _ _ _ h => h) (Or.inr ⟨by rfl, rfl⟩) (by assumption) ?_
                      try simp only [Act.put, List.getElem_toArray, List.getElem_cons_zero, List.getElem_cons_succ, List.setIfInBounds_toArray, List.set_cons_zero, List.set_cons_succ]
                      refine wpAnyH_take (i := 33) (oi := _) (v := undef) rfl (by kernel_rfl) (by kernel_rfl) (by kernel_rfl) (fun _ _ _ h => h) (Or.inr ⟨by rfl, rfl⟩) (by assumption) ?_
                      try simp only [Act.put, List.getElem_toArray, List.getElem_cons_zero, List.getElem_cons_succ, List.setIfInBounds_toArray, List.set_cons_zero, List.set_cons_succ]
                      refine wpAnyH_take (i := 34) (oi := _) (v := ?_) rfl (by kernel_rfl) (by kernel_rfl) (by kernel_rfl) (fun _ _ _ h => h) (Or.inl ⟨by rfl, ?_⟩) (by assumption) ?_
                      rotate_left
                      · intro w hSw; (try dsimp only at hSw); go_simp; all_goals with_reducible rfl
                      try simp only [Act.put, List.getElem_toArray, List.getElem_cons_zero, List.getElem_cons_succ, List.setIfInBounds_toArray, List.set_cons_zero, List.set_cons_succ]
                      refine wpAnyH_take (i := 35) (oi := _) (v := ?_) rfl (by kernel_rfl) (by kernel_rfl) (by kernel_rfl) (fun _ _ _ h => h) (Or.inl ⟨by rfl, ?_⟩) (by assumption) ?_
                      rotate_left
                      · intro w hSw; (try dsimp only at hSw); go_simp; all_goals with_reducible rfl
                      try simp only [Act.put, List.getElem_toArray, List.getElem_cons_zero, List.getElem_cons_succ, List.setIfInBounds_toArray, List.set_cons_zero, List.set_cons_succ]
                      refine wpAnyH_take (i := 36) (oi := _) (v := undef) rfl (by kernel_rfl) (by kernel_rfl) (by kernel_rfl) (fun _ _ _ h => h) (Or.inr ⟨by rfl, rfl⟩) (by assumption) ?_
                      try simp only [Act.put, List.getElem_toArray, List.getElem_cons_zero, List.getElem_cons_succ, List.setIfInBounds_toArray, List.set_cons_zero, List.set_cons_succ]
                      refine wpAnyH_take (i := 37) (oi := _) (v := undef) rfl (by kernel_rfl) (by kernel_rfl) (by kernel_rfl) (fun _ _ _ h => h) (Or.inr ⟨by rfl, rfl⟩) (by assumption) ?_
                      try simp only [Act.put, List.getElem_toArray, List.getElem_cons_zero, List.getElem_cons_succ, List.setIfInBounds_toArray, List.set_cons_zero, List.set_cons_succ]
                      refine wpAnyH_take (i := 38) (oi := _) (v := undef) rfl (by kernel_rfl) (by kernel_rfl) (by kernel_rfl) (fun _ _ _ h => h) (Or.inr ⟨by rfl, rfl⟩) (by assumption) ?_
                      try simp only [Act.put, List.getElem_toArray, List.getElem_cons_zero, List.getElem_cons_succ, List.setIfInBounds_toArray, List.set_cons_zero, List.set_cons_succ]
                      refine wpAnyH_take (i := 39) (oi := _) (v := undef) rfl (by kernel_rfl) (by kernel_rfl) (by kernel_rfl) (fun _ _ _ h => h) (Or.inr ⟨by rfl, rfl⟩) (by assumption) ?_
                      try simp only [Act.put, List.getElem_toArray, List.getElem_cons_zero, List.getElem_cons_succ, List.setIfInBounds_toArray, List.set_cons_zero, List.set_cons_succ]
                      refine wpAnyH_take (i := 40) (oi := _) (v := ?_) rfl (by kernel_rfl) (by kernel_rfl) (by kernel_rfl) (fun _ _ _ h => h) (Or.inl ⟨by rfl, ?_⟩) (by assumption) ?_
                      rotate_left
                      · intro w hSw; (try dsimp only at hSw); go_simp; all_goals with_reducible rfl
                      try simp only [Act.put, List.getElem_toArray, List.getElem_cons_zero, List.getElem_cons_succ, List.setIfInBounds_toArray, List.set_cons_zero, List.set_cons_succ]
                      refine wpAnyH_take (i := 41) (oi := _) (v := ?_) rfl (by kernel_rfl) (by kernel_rfl) (by kernel_rfl) (fun _ _ _ h => h) (Or.inl ⟨by rfl, ?_⟩) (by assumption) ?_
                      rotate_left
                      · intro w hSw; (try dsimp only at hSw); go_simp; all_goals with_reducible rfl
                      try simp only [Act.put, List.getElem_toArray, List.getElem_cons_zero, List.getElem_cons_succ, List.setIfInBounds_toArray, List.set_cons_zero, List.set_cons_succ]
                      refine wpAnyH_done (by kernel_rfl) ?_ _
                      refine NoPanic.normal ?_
                      go_wp2
                      go_meet
                      exact ⟨congrArg Value.bool (by rw [← HBAD2.out]; rfl), HB11.out⟩
                    | true =>
                      cases aa with
                      | false =>
                        refine wp_region_noPanic ?_
                        refine wp_region_held_drew (S := (fun w' => w'.cell? ⟨g, 1, none⟩ = some (.int .i64 x.ro.kind) ∧ w'.cell? ⟨g, 2, none⟩ = some (.string x.ro.name) ∧ w'.cell? ⟨g, 4, none⟩ = some (.slice x.A x.ro.attrs.length x.c))) (by kernel_rfl) ?_ (fun hHeld => ?_)
                        · exact ⟨C1.out, C2.out, C4.out⟩
                        refine wpAnyH_take (i := 0) (oi := _) (v := ?_) rfl (by kernel_rfl) (by kernel_rfl) (by kernel_rfl) (fun _ _ _ h => h) (Or.inl ⟨by rfl, ?_⟩) (by assumption) ?_
                        rotate_left
                        · intro w hSw; (try dsimp only at hSw); go_simp; all_goals with_reducible rfl
                        try simp only [Act.put, List.getElem_toArray, List.getElem_cons_zero, List.getElem_cons_succ, List.setIfInBounds_toArray, List.set_cons_zero, List.set_cons_succ]
                        refine wpAnyH_take (i := 1) (oi := _) (v := ?_) rfl (by kernel_rfl) (by kernel_rfl) (by kernel_rfl) (fun _ _ _ h => h) (Or.inl ⟨by rfl, ?_⟩) (by assumption) ?_
                        rotate_left
                        · intro w hSw; (try dsimp only at hSw); go_simp; all_goals with_reducible rfl
                        try simp only [Act.put, List.getElem_toArray, List.getElem_cons_zero, List.getElem_cons_succ, List.setIfInBounds_toArray, List.set_cons_zero, List.set_cons_succ]
                        refine wpAnyH_take (i := 2) (oi := _) (v := ?_) rfl (by kernel_rfl) (by kernel_rfl) (by kernel_rfl) (fun _ _ _ h => h) (Or.inl ⟨by rfl, ?_⟩) (by assumption) ?_
                        rotate_left
                        · intro w hSw; (try dsimp only at hSw); go_simp; all_goals with_reducible rfl
                        try simp only [Act.put, List.getElem_toArray, List.getElem_cons_zero, List.getElem_cons_succ, List.setIfInBounds_toArray, List.set_cons_zero, List.set_cons_succ]
                        refine wpAnyH_take (i := 3) (oi := _) (v := ?_) rfl (by kernel_rfl) (by kernel_rfl) (by kernel_rfl) (fun _ _ _ h => h) (Or.inl ⟨by rfl, ?_⟩) (by assumption) ?_
                        rotate_left
                        · intro w hSw; (try dsimp only at hSw); go_simp; all_goals with_reducible rfl
                        try simp only [Act.put, List.getElem_toArray, List.getElem_cons_zero, List.getElem_cons_succ, List.setIfInBounds_toArray, List.set_cons_zero, List.set_cons_succ]
                        refine wpAnyH_take (i := 4) (oi := _) (v := ?_) rfl (by kernel_rfl) (by kernel_rfl) (by kernel_rfl) (fun _ _ _ h => h) (Or.inl ⟨by rfl, ?_⟩) (by assumption) ?_
                        rotate_left
                        · intro w hSw; (try dsimp only at hSw); go_simp; all_goals with_reducible rfl
                        try simp only [Act.put, List.getElem_toArray, List.getElem_cons_zero, List.getElem_cons_succ, List.setIfInBounds_toArray, List.set_cons_zero, List.set_cons_succ]
                        refine wpAnyH_take (i := 5) (oi := _) (v := ?_) rfl (by kernel_rfl) (by kernel_rfl) (by kernel_rfl) (fun _ _ _ h => h) (Or.inl ⟨by rfl, ?_⟩) (by assumption) ?_
                        rotate_left
                        · intro w hSw; (try dsimp only at hSw); go_simp; all_goals with_reducible rfl
                        try simp only [Act.put, List.getElem_toArray, List.getElem_cons_zero, List.getElem_cons_succ, List.setIfInBounds_toArray, List.set_cons_zero, List.set_cons_succ]
                        refine wpAnyH_ready (rs := [6]) (by kernel_rfl) (by simp) ?_
                        refine AllReadyH.cons (o := _) rfl (fun K hK => ?_) AllReadyH.nil
                        go_simp
                        go_at_call 22
                        refine (Na.may1 _ x.ro.name false _ (by omega) HRT.out).mono ?_
                        rintro e w9 ⟨rfl, rfl⟩
                        go_wp2_with fail
                        refine hK.out _ _ ?_ (fun hHeld => ?_)
                        · exact ⟨C1.out, C2.out, C4.out⟩
                        clear hK K
                        try simp only [Act.put, List.getElem_toArray, List.getElem_cons_zero, List.getElem_cons_succ, List.setIfInBounds_toArray, List.set_cons_zero, List.set_cons_succ]
                        refine wpAnyH_take (i := 7) (oi := _) (v := ?_) rfl (by kernel_rfl) (by kernel_rfl) (by kernel_rfl) (fun _ _ _ h => h) (Or.inl ⟨by rfl, ?_⟩) (by assumption) ?_
                        rotate_left
                        · intro w hSw; (try dsimp only at hSw); go_simp; all_goals with_reducible rfl
                        try simp only [Act.put, List.getElem_toArray, List.getElem_cons_zero, List.getElem_cons_succ, List.setIfInBounds_toArray, List.set_cons_zero, List.set_cons_succ]
                        refine wpAnyH_take (i := 8) (oi := _) (v := ?_) rfl (by kernel_rfl) (by kernel_rfl) (by kernel_rfl) (fun _ _ _ h => h) (Or.inl ⟨by rfl, ?_⟩) (by assumption) ?_
                        rotate_left
                        · intro w hSw; (try dsimp only at hSw); go_simp; all_goals with_reducible rfl
                        try simp only [Act.put, List.getElem_toArray, List.getElem_cons_zero, List.getElem_cons_succ, List.setIfInBounds_toArray, List.set_cons_zero, List.set_cons_succ]
                        refine wpAnyH_take (i := 9) (oi := _) (v := ?_) rfl (by kernel_rfl) (by kernel_rfl) (by kernel_rfl) (fun _ _ _ h => h) (Or.inl ⟨by rfl, ?_⟩) (by assumption) ?_
                        rotate_left
                        · intro w hSw; (try dsimp only at hSw); go_simp; all_goals with_reducible rfl
                        try simp only [Act.put, List.getElem_toArray, List.getElem_cons_zero, List.getElem_cons_succ, List.setIfInBounds_toArray, List.set_cons_zero, List.set_cons_succ]
                        refine wpAnyH_take (i := 10) (oi := _) (v := ?_) rfl (by kernel_rfl) (by kernel_rfl) (by kernel_rfl) (fun _ _ _ h => h) (Or.inl ⟨by rfl, ?_⟩) (by assumption) ?_
                        rotate_left
                        · intro w hSw; (try dsimp only at hSw); go_simp; all_goals with_reducible rfl
                        try simp only [Act.put, List.getElem_toArray, List.getElem_cons_zero, List.getElem_cons_succ, List.setIfInBounds_toArray, List.set_cons_zero, List.set_cons_succ]
                        refine wpAnyH_ready (rs := [11]) (by kernel_rfl) (by simp) ?_
                        refine AllReadyH.cons (o := _) rfl (fun K hK => ?_) AllReadyH.nil
                        go_simp
                        go_at_call 19
                        refine (refClean1 x.ro.name _ (by omega) _ HCN.out).mono ?_
                        rintro e w9 ⟨rfl, rfl⟩
                        go_wp2_with fail
                        refine hK.out _ _ ?_ (fun hHeld => ?_)
                        · exact ⟨C1.out, C2.out, C4.out⟩
                        clear hK K
                        try simp only [Act.put, List.getElem_toArray, List.getElem_cons_zero, List.getElem_cons_succ, List.setIfInBounds_toArray, List.set_cons_zero, List.set_cons_succ]
                        refine wpAnyH_take (i := 12) (oi := _) (v := ?_) rfl (by kernel_rfl) (by kernel_rfl) (by kernel_rfl) (fun _ _ _ h => h) (Or.inl ⟨by rfl, ?_⟩) (by assumption) ?_
                        rotate_left
                        · intro w hSw; (try dsimp only at hSw); go_simp; all_goals with_reducible rfl
                        try simp only [Act.put, List.getElem_toArray, List.getElem_cons_zero, List.getElem_cons_succ, List.setIfInBounds_toArray, List.set_cons_zero, List.set_cons_succ]
                        refine wpAnyH_take (i := 13) (oi := _) (v := ?_) rfl (by kernel_rfl) (by kernel_rfl) (by kernel_rfl) (fun _ _ _ h => h) (Or.inl ⟨by rfl, ?_⟩) (by assumption) ?_
                        rotate_left
                        · intro w hSw; (try dsimp only at hSw); go_simp; all_goals with_reducible rfl
                        try simp only [Act.put, List.getElem_toArray, List.getElem_cons_zero, List.getElem_cons_succ, List.setIfInBounds_toArray, List.set_cons_zero, List.set_cons_succ]
                        refine wpAnyH_take (i := 14) (oi := _) (v := ?_) rfl (by kernel_rfl) (by kernel_rfl) (by kernel_rfl) (fun _ _ _ h => h) (Or.inl ⟨by rfl, ?_⟩) (by assumption) ?_
                        rotate_left
                        · intro w hSw; (try dsimp only at hSw); go_simp; all_goals with_reducible rfl
                        try simp only [Act.put, List.getElem_toArray, List.getElem_cons_zero, List.getElem_cons_succ, List.setIfInBounds_toArray, List.set_cons_zero, List.set_cons_succ]
                        refine wpAnyH_take (i := 16) (oi := _) (v := ?_) rfl (by kernel_rfl) (by kernel_rfl) (by kernel_rfl) (fun _ _ _ h => h) (Or.inl ⟨by rfl, ?_⟩) (by assumption) ?_
                        rotate_left
                        · intro w hSw; (try dsimp only at hSw); go_simp; all_goals with_reducible rfl
                        try simp only [Act.put, List.getElem_toArray, List.getElem_cons_zero, List.getElem_cons_succ, List.setIfInBounds_toArray, List.set_cons_zero, List.set_cons_succ]
                        refine wpAnyH_take (i := 17) (oi := _) (v := ?_) rfl (by kernel_rfl) (by kernel_rfl) (by kernel_rfl) (fun _ _ _ h => h) (Or.inl ⟨by rfl, ?_⟩) (by assumption) ?_
                        rotate_left
                        · intro w hSw; (try dsimp only at hSw); go_simp; all_goals with_reducible rfl
                        try simp only [Act.put, List.getElem_toArray, List.getElem_cons_zero, List.getElem_cons_succ, List.setIfInBounds_toArray, List.set_cons_zero, List.set_cons_succ]
                        refine wpAnyH_ready (rs := [15]) (by kernel_rfl) (by simp) ?_
                        refine AllReadyH.cons (o := _) rfl (fun K hK => ?_) AllReadyH.nil
                        go_simp
                        go_at_call 24
                        refine (Na.refGone_any _).mono ?_
                        rintro e w9 ⟨v9, rfl, s9, b9⟩
                        have HB9 := Lib.hid (show Below W.heap.size W w9 from below_drewW b9)
                        have HS9 := Lib.hid s9
                        have d1 := (b9.cell (p := ⟨g, 1, none⟩) hgl).trans C1.out
                        have d2 := (b9.cell (p := ⟨g, 2, none⟩) hgl).trans C2.out
                        have d4 := (b9.cell (p := ⟨g, 4, none⟩) hgl).trans C4.out
                        have hg9 := Nat.lt_of_lt_of_le hgl HB9.out.size
                        clear s9 b9
                        go_wp2_with fail
                        refine hK.out _ _ ?_ (fun hHeld => ?_)
                        · exact ⟨d1, d2, d4⟩
                        clear hK K
                        try simp only [Act.put, List.getElem_toArray, List.getElem_cons_zero, List.getElem_cons_succ, List.setIfInBounds_toArray, List.set_cons_zero, List.set_cons_succ]
                        refine wpAnyH_ready (rs := [18]) (by kernel_rfl) (by simp) ?_
                        refine AllReadyH.cons (o := _) rfl (fun K hK => ?_) AllReadyH.nil
                        go_simp
                        go_at_call 23
                        refine (refHas1 _ goneL _ _ (sv_own HS9.out) (by decide) _ HGN.out).mono ?_
                        rintro e w10 ⟨rfl, rfl⟩
                        go_wp2_with fail
                        refine hK.out _ _ ?_ (fun hHeld => ?_)
                        · exact ⟨d1, d2, d4⟩
                        clear hK K
                        try simp only [Act.put, List.getElem_toArray, List.getElem_cons_zero, List.getElem_cons_succ, List.setIfInBounds_toArray, List.set_cons_zero, List.set_cons_succ]
                        refine wpAnyH_take (i := 19) (oi := _) (v := ?_) rfl (by kernel_rfl) (by kernel_rfl) (by kernel_rfl) (fun _ _ _ h => h) (Or.inl ⟨by rfl, ?_⟩) (by assumption) ?_
                        rotate_left
                        · intro w hSw; (try dsimp only at hSw); go_simp; all_goals with_reducible rfl
                        try simp only [Act.put, List.getElem_toArray, List.getElem_cons_zero, List.getElem_cons_succ, List.setIfInBounds_toArray, List.set_cons_zero, List.set_cons_succ]
                        refine wpAnyH_take (i := 20) (oi := _) (v := ?_) rfl (by kernel_rfl) (by kernel_rfl) (by kernel_rfl) (fun _ _ _ h => h) (Or.inl ⟨by rfl, ?_⟩) (by assumption) ?_
                        rotate_left
                        · intro w hSw; (try dsimp only at hSw); go_simp; all_goals with_reducible rfl
                        try simp only [Act.put, List.getElem_toArray, List.getElem_cons_zero, List.getElem_cons_succ, List.setIfInBounds_toArray, List.set_cons_zero, List.set_cons_succ]
                        refine wpAnyH_take (i := 21) (oi := _) (v := ?_) rfl (by kernel_rfl) (by kernel_rfl) (by kernel_rfl) (fun _ _ _ h => h) (Or.inl ⟨by rfl, ?_⟩) (by assumption) ?_
                        rotate_left
                        · intro w hSw; (try dsimp only at hSw); go_simp; all_goals with_reducible rfl
                        try simp only [Act.put, List.getElem_toArray, List.getElem_cons_zero, List.getElem_cons_succ, List.setIfInBounds_toArray, List.set_cons_zero, List.set_cons_succ]
                        refine wpAnyH_take (i := 22) (oi := _) (v := ?_) rfl (by kernel_rfl) (by kernel_rfl) (by kernel_rfl) (fun _ _ _ h => h) (Or.inl ⟨by rfl, ?_⟩) (by assumption) ?_
                        rotate_left
                        · intro w hSw; (try dsimp only at hSw); go_simp; all_goals with_reducible rfl
                        try simp only [Act.put, List.getElem_toArray, List.getElem_cons_zero, List.getElem_cons_succ, List.setIfInBounds_toArray, List.set_cons_zero, List.set_cons_succ]
                        refine wpAnyH_take (i := 23) (oi := _) (v := ?_) rfl (by kernel_rfl) (by kernel_rfl) (by kernel_rfl) (fun _ _ _ h => h) (Or.inl ⟨by rfl, ?_⟩) (by assumption) ?_
                        rotate_left
                        · intro w hSw; (try dsimp only at hSw); go_simp; all_goals with_reducible rfl
                        try simp only [Act.put, List.getElem_toArray, List.getElem_cons_zero, List.getElem_cons_succ, List.setIfInBounds_toArray, List.set_cons_zero, List.set_cons_succ]
                        refine wpAnyH_take (i := 24) (oi := _) (v := ?_) rfl (by kernel_rfl) (by kernel_rfl) (by kernel_rfl) (fun _ _ _ h => h) (Or.inl ⟨by rfl, ?_⟩) (by assumption) ?_
                        rotate_left
                        · intro w hSw; (try dsimp only at hSw); go_simp; all_goals with_reducible rfl
                        try simp only [Act.put, List.getElem_toArray, List.getElem_cons_zero, List.getElem_cons_succ, List.setIfInBounds_toArray, List.set_cons_zero, List.set_cons_succ]
                        refine wpAnyH_ready (rs := [25]) (by kernel_rfl) (by simp) ?_
                        refine AllReadyH.cons (o := _) rfl (fun K hK => ?_) AllReadyH.nil
                        go_simp
                        go_at_call 26
                        refine (around1 k _ l k x.ro w9 S (Nat.le_refl _) (HVX.out.below HB9.out) hl H2.out HG.out HSP.out).mono ?_
                        rintro e w10 ⟨v10, rfl, s10, b10⟩
                        have HB10 := Lib.hid (bt HB9.out b10)
                        have HS10 := Lib.hid s10
                        have e1 := (b10.cell (p := ⟨g, 1, none⟩) hg9).trans d1
                        have e2 := (b10.cell (p := ⟨g, 2, none⟩) hg9).trans d2
                        have e4 := (b10.cell (p := ⟨g, 4, none⟩) hg9).trans d4
                        have hg10 := Nat.lt_of_lt_of_le hg9 b10.size
                        clear s10 b10
                        go_wp2_with fail
                        refine hK.out _ _ ?_ (fun hHeld => ?_)
                        · exact ⟨e1, e2, e4⟩
                        clear hK K
                        try simp only [Act.put, List.getElem_toArray, List.getElem_cons_zero, List.getElem_cons_succ, List.setIfInBounds_toArray, List.set_cons_zero, List.set_cons_succ]
                        refine wpAnyH_ready (rs := [26]) (by kernel_rfl) (by simp) ?_
                        refine AllReadyH.cons (o := _) rfl (fun K hK => ?_) AllReadyH.nil
                        go_simp
                        go_at_call 25
                        refine (Bu.refNested_any x.ro.name v10 S w10 hSl (sv_own HS10.out) _ HNS.out).mono ?_
                        rintro e w11 ⟨rfl, b11⟩
                        have HB11 := Lib.hid (bt HB10.out b11)
                        have f1 := (b11.cell (p := ⟨g, 1, none⟩) hg10).trans e1
                        have f2 := (b11.cell (p := ⟨g, 2, none⟩) hg10).trans e2
                        have f4 := (b11.cell (p := ⟨g, 4, none⟩) hg10).trans e4
                        have hg11 := Nat.lt_of_lt_of_le hg10 b11.size
                        clear b11
                        go_wp2_with fail
                        refine hK.out _ _ ?_ (fun hHeld => ?_)
                        · exact ⟨f1, f2, f4⟩
                        clear hK K
                        try simp only [Act.put, List.getElem_toArray, List.getElem_cons_zero, List.getElem_cons_succ, List.setIfInBounds_toArray, List.set_cons_zero, List.set_cons_succ]
                        refine wpAnyH_take (i := 27) (oi := _) (v := ?_) rfl (by kernel_rfl) (by kernel_rfl) (by kernel_rfl) (fun _ _ _ h => h) (Or.inl ⟨by rfl, ?_⟩) (by assumption) ?_
                        rotate_left
                        · intro w hSw; (try dsimp only at hSw); go_simp; all_goals with_reducible rfl
                        try simp only [Act.put, List.getElem_toArray, List.getElem_cons_zero, List.getElem_cons_succ, List.setIfInBounds_toArray, List.set_cons_zero, List.set_cons_succ]
                        refine wpAnyH_take (i := 28) (oi := _) (v := ?_) rfl (by kernel_rfl) (by kernel_rfl) (by kernel_rfl) (fun _ _ _ h => h) (Or.inl ⟨by rfl, ?_⟩) (by assumption) ?_
                        rotate_left
                        · intro w hSw; (try dsimp only at hSw); go_simp; all_goals with_reducible rfl
                        try simp only [Act.put, List.getElem_toArray, List.getElem_cons_zero, List.getElem_cons_succ, List.setIfInBounds_toArray, List.set_cons_zero, List.set_cons_succ]
                        refine wpAnyH_take (i := 29) (oi := _) (v := ?_) rfl (by kernel_rfl) (by kernel_rfl) (by kernel_rfl) (fun _ _ _ h => h) (Or.inl ⟨by rfl, ?_⟩) (by assumption) ?_
                        rotate_left
                        · intro w hSw; (try dsimp only at hSw); go_simp; all_goals with_reducible rfl
                        try simp only [Act.put, List.getElem_toArray, List.getElem_cons_zero, List.getElem_cons_succ, List.setIfInBounds_toArray, List.set_cons_zero, List.set_cons_succ]
                        refine wpAnyH_take (i := 30) (oi := _) (v := ?_) rfl (by kernel_rfl) (by kernel_rfl) (by kernel_rfl) (fun _ _ _ h => h) (Or.inl ⟨by rfl, ?_⟩) (by assumption) ?_
                        rotate_left
                        · intro w hSw; (try dsimp only at hSw); go_simp; all_goals with_reducible rfl
                        try simp only [Act.put, List.getElem_toArray, List.getElem_cons_zero, List.getElem_cons_succ, List.setIfInBounds_toArray, List.set_cons_zero, List.set_cons_succ]
                        refine wpAnyH_take (i := 31) (oi := _) (v := ?_) rfl (by kernel_rfl) (by kernel_rfl) (by kernel_rfl) (fun _ _ _ h => h) (Or.inl ⟨by rfl, ?_⟩) (by assumption) ?_
                        rotate_left
                        · intro w hSw; (try dsimp only at hSw); go_simp; all_goals with_reducible rfl
                        try simp only [Act.put, List.getElem_toArray, List.getElem_cons_zero, List.getElem_cons_succ, List.setIfInBounds_toArray, List.set_cons_zero, List.set_cons_succ]
                        refine wpAnyH_ready (rs := [32]) (by kernel_rfl) (by simp) ?_
                        refine AllReadyH.cons (o := _) rfl (fun K hK => ?_) AllReadyH.nil
                        go_simp
                        go_at_call 27
                        refine (refAttrs1 x.A x.c x.ro.attrs W.heap.size w11 (Ro.Ra.below HXA.out.2.2.2.1 HB11.out) (att_sizes hrbx).1 (att_sizes hrbx).2 _ HAA.out).mono ?_
                        rintro e w12 ⟨rfl, rfl⟩
                        go_wp2_with fail
                        refine hK.out _ _ ?_ (fun hHeld => ?_)
                        · exact ⟨f1, f2, f4⟩
                        clear hK K
                        try simp only [Act.put, List.getElem_toArray, List.getElem_cons_zero, List.getElem_cons_succ, List.setIfInBounds_toArray, List.set_cons_zero, List.set_cons_succ]
                        refine wpAnyH_take (i := 33) (oi := _) (v := ?_) rfl (by kernel_rfl) (by kernel_rfl) (by kernel_rfl) (fun _ _ _ h => h) (Or.inl ⟨by rfl, ?_⟩) (by assumption) ?_
                        rotate_left
                        · intro w hSw; (try dsimp only at hSw); go_simp; all_goals with_reducible rfl
                        try simp only [Act.put, List.getElem_toArray, List.getElem_cons_zero, List.getElem_cons_succ, List.setIfInBounds_toArray, List.set_cons_zero, List.set_cons_succ]
                        refine wpAnyH_take (i := 34) (oi := _) (v := ?_) rfl (by kernel_rfl) (by kernel_rfl) (by kernel_rfl) (fun _ _ _ h => h) (Or.inl ⟨by rfl, ?_⟩) (by assumption) ?_
                        rotate_left
                        · intro w hSw; (try dsimp only at hSw); go_simp; all_goals with_reducible rfl
                        try simp only [Act.put, List.getElem_toArray, List.getElem_cons_zero, List.getElem_cons_succ, List.setIfInBounds_toArray, List.set_cons_zero, List.set_cons_succ]
                        refine wpAnyH_take (i := 35) (oi := _) (v := ?_) rfl (by kernel_rfl) (by kernel_rfl) (by kernel_rfl) (fun _ _ _ h => h) (Or.inl ⟨by rfl, ?_⟩) (by assumption) ?_
                        rotate_left
                        · intro w hSw; (try dsimp only at hSw); go_simp; all_goals with_reducible rfl
                        try simp only [Act.put, List.getElem_toArray, List.getElem_cons_zero, List.getElem_cons_succ, List.setIfInBounds_toArray, List.set_cons_zero, List.set_cons_succ]
                        refine wpAnyH_take (i := 36) (oi := _) (v := undef) rfl (by kernel_rfl) (by kernel_rfl) (by kernel_rfl) (fun _ _ _ h => h) (Or.inr ⟨by rfl, rfl⟩) (by assumption) ?_
                        try simp only [Act.put, List.getElem_toArray, List.getElem_cons_zero, List.getElem_cons_succ, List.setIfInBounds_toArray, List.set_cons_zero, List.set_cons_succ]
                        refine wpAnyH_take (i := 37) (oi := _) (v := undef) rfl (by kernel_rfl) (by kernel_rfl) (by kernel_rfl) (fun _ _ _ h => h) (Or.inr ⟨by rfl, rfl⟩) (by assumption) ?_
                        try simp only [Act.put, List.getElem_toArray, List.getElem_cons_zero, List.getElem_cons_succ, List.setIfInBounds_toArray, List.set_cons_zero, List.set_cons_succ]
                        refine wpAnyH_take (i := 38) (oi := _) (v := undef) rfl (by kernel_rfl) (by kernel_rfl) (by kernel_rfl) (fun _ _ _ h => h) (Or.inr ⟨by rfl, rfl⟩) (by assumption) ?_
                        try simp only [Act.put, List.getElem_toArray, List.getElem_cons_zero, List.getElem_cons_succ, List.setIfInBounds_toArray, List.set_cons_zero, List.set_cons_succ]
                        refine wpAnyH_take (i := 39) (oi := _) (v := undef) rfl (by kernel_rfl) (by kernel_rfl) (by kernel_rfl) (fun _ _ _ h => h) (Or.inr ⟨by rfl, rfl⟩) (by assumption) ?_
                        try simp only [Act.put, List.getElem_toArray, List.getElem_cons_zero, List.getElem_cons_succ, List.setIfInBounds_toArray, List.set_cons_zero, List.set_cons_succ]
                        refine wpAnyH_take (i := 40) (oi := _) (v := ?_) rfl (by kernel_rfl) (by kernel_rfl) (by kernel_rfl) (fun _ _ _ h => h) (Or.inl ⟨by rfl, ?_⟩) (by assumption) ?_
                        rotate_left
                        · intro w hSw; (try dsimp only at hSw); go_simp; all_goals with_reducible rfl
                        try simp only [Act.put, List.getElem_toArray, List.getElem_cons_zero, List.getElem_cons_succ, List.setIfInBounds_toArray, List.set_cons_zero, List.set_cons_succ]
                        refine wpAnyH_take (i := 41) (oi := _) (v := ?_) rfl (by kernel_rfl) (by kernel_rfl) (by kernel_rfl) (fun _ _ _ h => h) (Or.inl ⟨by rfl, ?_⟩) (by assumption) ?_
                        rotate_left
                        · intro w hSw; (try dsimp only at hSw); go_simp; all_goals with_reducible rfl
                        try simp only [Act.put, List.getElem_toArray, List.getElem_cons_zero, List.getElem_cons_succ, List.setIfInBounds_toArray, List.set_cons_zero, List.set_cons_succ]
                        refine wpAnyH_done (by kernel_rfl) ?_ _
                        refine NoPanic.normal ?_
                        go_wp2
                        go_meet
                        exact ⟨congrArg Value.bool (by rw [← HBAD2.out]; rfl), HB11.out⟩
                      | true =>
                        cases ib with
                        | false =>
                          go_region_held3 (fun w' => w'.cell? ⟨g, 1, none⟩ = some (.int .i64 x.ro.kind) ∧ w'.cell? ⟨g, 2, none⟩ = some (.string x.ro.name) ∧ w'.cell? ⟨g, 4, none⟩ = some (.slice x.A x.ro.attrs.length x.c)) (first | exact ⟨h1, h2, h4⟩ | exact ⟨f1, f2, f4⟩ | exact ⟨e1, e2, e4⟩ | exact ⟨d1, d2, d4⟩ | exact ⟨C1.out, C2.out, C4.out⟩ | go_keep) (first
                            | (go_at_call 28; refine (inner1 _ l k x.ro w11 _ (HVX.out.below HB11.out) hl H2.out HCM.out HG.out HK0.out HRB.out HIB.out).mono ?_; rintro e w13 ⟨rfl, b13⟩; have HB13 := Lib.hid (bt HB11.out b13); have h1 := (b13.cell (p := ⟨g, 1, none⟩) hg11).trans f1; have h2 := (b13.cell (p := ⟨g, 2, none⟩) hg11).trans f2; have h4 := (b13.cell (p := ⟨g, 4, none⟩) hg11).trans f4; clear b13)
                            | (go_at_call 27; refine (refAttrs1 x.A x.c x.ro.attrs W.heap.size w11 (Ro.Ra.below HXA.out.2.2.2.1 HB11.out) (att_sizes hrbx).1 (att_sizes hrbx).2 _ HAA.out).mono ?_; rintro e w12 ⟨rfl, rfl⟩)
                            | (go_at_call 25; refine (Bu.refNested_any x.ro.name v10 S w10 hSl (sv_own HS10.out) _ HNS.out).mono ?_; rintro e w11 ⟨rfl, b11⟩; have HB11 := Lib.hid (bt HB10.out b11); have f1 := (b11.cell (p := ⟨g, 1, none⟩) hg10).trans e1; have f2 := (b11.cell (p := ⟨g, 2, none⟩) hg10).trans e2; have f4 := (b11.cell (p := ⟨g, 4, none⟩) hg10).trans e4; have hg11 := Nat.lt_of_lt_of_le hg10 b11.size; clear b11)
                            | (go_at_call 26; refine (around1 k _ l k x.ro w9 S (Nat.le_refl _) (HVX.out.below HB9.out) hl H2.out HG.out HSP.out).mono ?_; rintro e w10 ⟨v10, rfl, s10, b10⟩; have HB10 := Lib.hid (bt HB9.out b10); have HS10 := Lib.hid s10; have e1 := (b10.cell (p := ⟨g, 1, none⟩) hg9).trans d1; have e2 := (b10.cell (p := ⟨g, 2, none⟩) hg9).trans d2; have e4 := (b10.cell (p := ⟨g, 4, none⟩) hg9).trans d4; have hg10 := Nat.lt_of_lt_of_le hg9 b10.size; clear s10 b10)
                            | (go_at_call 23; refine (refHas1 _ goneL _ _ (sv_own HS9.out) (by decide) _ HGN.out).mono ?_; rintro e w10 ⟨rfl, rfl⟩)
                            | (go_at_call 24; refine (Na.refGone_any _).mono ?_; rintro e w9 ⟨v9, rfl, s9, b9⟩; have HB9 := Lib.hid (show Below W.heap.size W w9 from below_drewW b9); have HS9 := Lib.hid s9; have d1 := (b9.cell (p := ⟨g, 1, none⟩) hgl).trans C1.out; have d2 := (b9.cell (p := ⟨g, 2, none⟩) hgl).trans C2.out; have d4 := (b9.cell (p := ⟨g, 4, none⟩) hgl).trans C4.out; have hg9 := Nat.lt_of_lt_of_le hgl HB9.out.size; clear s9 b9)
                            | (go_at_call 19; refine (refClean1 x.ro.name _ (by omega) _ HCN.out).mono ?_; rintro e w9 ⟨rfl, rfl⟩)
                            | (go_at_call 22; refine (Na.may1 _ x.ro.name false _ (by omega) HRT.out).mono ?_; rintro e w9 ⟨rfl, rfl⟩))
                          all_goals go_wp2
                          all_goals go_meet
                          all_goals exact ⟨congrArg Value.bool (by rw [← HBAD2.out]; rfl), by first | exact HB13.out | exact HB11.out | exact HB9.out | exact (Below.refl _ W).drew⟩
                        | true =>
                          go_region_held3 (fun w' => w'.cell? ⟨g, 1, none⟩ = some (.int .i64 x.ro.kind) ∧ w'.cell? ⟨g, 2, none⟩ = some (.string x.ro.name) ∧ w'.cell? ⟨g, 4, none⟩ = some (.slice x.A x.ro.attrs.length x.c)) (first | exact ⟨h1, h2, h4⟩ | exact ⟨f1, f2, f4⟩ | exact ⟨e1, e2, e4⟩ | exact ⟨d1, d2, d4⟩ | exact ⟨C1.out, C2.out, C4.out⟩ | go_keep) (first
                            | (go_at_call 28; refine (inner1 _ l k x.ro w11 _ (HVX.out.below HB11.out) hl H2.out HCM.out HG.out HK0.out HRB.out HIB.out).mono ?_; rintro e w13 ⟨rfl, b13⟩; have HB13 := Lib.hid (bt HB11.out b13); have h1 := (b13.cell (p := ⟨g, 1, none⟩) hg11).trans f1; have h2 := (b13.cell (p := ⟨g, 2, none⟩) hg11).trans f2; have h4 := (b13.cell (p := ⟨g, 4, none⟩) hg11).trans f4; clear b13)
                            | (go_at_call 27; refine (refAttrs1 x.A x.c x.ro.attrs W.heap.size w11 (Ro.Ra.below HXA.out.2.2.2.1 HB11.out) (att_sizes hrbx).1 (att_sizes hrbx).2 _ HAA.out).mono ?_; rintro e w12 ⟨rfl, rfl⟩)
                            | (go_at_call 25; refine (Bu.refNested_any x.ro.name v10 S w10 hSl (sv_own HS10.out) _ HNS.out).mono ?_; rintro e w11 ⟨rfl, b11⟩; have HB11 := Lib.hid (bt HB10.out b11); have f1 := (b11.cell (p := ⟨g, 1, none⟩) hg10).trans e1; have f2 := (b11.cell (p := ⟨g, 2, none⟩) hg10).trans e2; have f4 := (b11.cell (p := ⟨g, 4, none⟩) hg10).trans e4; have hg11 := Nat.lt_of_lt_of_le hg10 b11.size; clear b11)
                            | (go_at_call 26; refine (around1 k _ l k x.ro w9 S (Nat.le_refl _) (HVX.out.below HB9.out) hl H2.out HG.out HSP.out).mono ?_; rintro e w10 ⟨v10, rfl, s10, b10⟩; have HB10 := Lib.hid (bt HB9.out b10); have HS10 := Lib.hid s10; have e1 := (b10.cell (p := ⟨g, 1, none⟩) hg9).trans d1; have e2 := (b10.cell (p := ⟨g, 2, none⟩) hg9).trans d2; have e4 := (b10.cell (p := ⟨g, 4, none⟩) hg9).trans d4; have hg10 := Nat.lt_of_lt_of_le hg9 b10.size; clear s10 b10)
                            | (go_at_call 23; refine (refHas1 _ goneL _ _ (sv_own HS9.out) (by decide) _ HGN.out).mono ?_; rintro e w10 ⟨rfl, rfl⟩)
                            | (go_at_call 24; refine (Na.refGone_any _).mono ?_; rintro e w9 ⟨v9, rfl, s9, b9⟩; have HB9 := Lib.hid (show Below W.heap.size W w9 from below_drewW b9); have HS9 := Lib.hid s9; have d1 := (b9.cell (p := ⟨g, 1, none⟩) hgl).trans C1.out; have d2 := (b9.cell (p := ⟨g, 2, none⟩) hgl).trans C2.out; have d4 := (b9.cell (p := ⟨g, 4, none⟩) hgl).trans C4.out; have hg9 := Nat.lt_of_lt_of_le hgl HB9.out.size; clear s9 b9)
                            | (go_at_call 19; refine (refClean1 x.ro.name _ (by omega) _ HCN.out).mono ?_; rintro e w9 ⟨rfl, rfl⟩)
                            | (go_at_call 22; refine (Na.may1 _ x.ro.name false _ (by omega) HRT.out).mono ?_; rintro e w9 ⟨rfl, rfl⟩))
                          all_goals go_wp2
                          all_goals go_meet
                          all_goals exact ⟨congrArg Value.bool (by rw [← HBAD2.out]; rfl), by first | exact HB13.out | exact HB11.out | exact HB9.out | exact (Below.refl _ W).drew⟩
          case rest =>
          obtain ⟨rfl, hbz⟩ := hcut
          cases bad2 with
          | true =>
            have hq0 := HBQ.out rfl
            subst hq0
            have HBZ := Lib.hid (bt HBW.out hbz)
            go_wp2
            go_ret
            exact ⟨rfl, HBZ.out⟩
          | false =>
            have HBZ := Lib.hid (bt HBW.out hbz)
            clear hbz
            go_wp2
            go_roundw
            case rel => exact ⟨k + 1, by go_num, by omega, fun j y hj hy => by
              by_cases e : j = k
              · subst e
                have hh := HG.out
                rw [hy] at hh
                injection hh with hh
                rw [hh]
                exact HND.out
              · exact HALL.out j y (by omega) hy, HBZ.out⟩
            case measure => simp [intOf]; omega
        · have hq1 : q = true := HN.out.2 fun j y hy => hall j y (by have := (List.getElem?_eq_some_iff.1 hy).1; rw [Ro.len_ros] at this; omega) hy
          subst hq1
          have HBW := Lib.hid hbw
          clear hall hbw
          go_wp2
          go_ret
          exact ⟨rfl, HBW.out⟩

end Go.Proofs.YteafldginkpgoaaGreat.Wr

namespace Go.Proofs.YteafldginkpgoaaGreat.Wr
set_option maxRecDepth 100000
set_option linter.unusedVariables false
set_option linter.unusedSimpArgs false
open Go.RowKit Ba Fm Fo Nm Wm
open Ro (At Ro Cw ros rowO rowV below_new range2 range5 cells Rv bare rows_new)
theorem refLegal8 (v : Value) (x : List Cw) (w : World) (h : Rv w v x) (hl : x.length ≤ 1000) (hf : Ro.Few (ros x)) (hz : rsum (ros x) ≤ 10000000) (q : Bool) (hq : legalB (ros x) = q) :
    Calls Tryz.prog 7 #[v] w fun e w' => e = .returned (.bool q) ∧ Below w.heap.size w w' :=
  refLegal1 v x w h hl hf (Nat.le_trans (txt_rsum _) (by omega)) (rb_all hz) q hq

set_option maxRecDepth 100000 in
set_option maxHeartbeats 4000000 in
theorem law_legal8 (v0 : Value) (l0 : List Cw) (w : World) (h0 : Rv w v0 l0) (z0 : rsum (ros l0) ≤ 1048576) :
    Calls Tryz.prog 3 #[v0] w fun e w' => e = .returned (.bool true) ∧ Below w.heap.size w w' := by
  have HV0 := Lib.hid h0
  clear h0
  go_enter Tryz.func3, Tryz.ntmps3
  go_wp2_with fail
  refine (bound8 v0 l0 w HV0.out z0).mono ?_
  rintro e w1 ⟨a, x, rfl, -, hx, -, hxl, hx6, hxz, hb1⟩
  have HX := Lib.hid hx; have HX6 := Lib.hid (few6 hx6); have HB1 := Lib.hid hb1
  clear hx hx6 hb1
  obtain ⟨p, hp⟩ : ∃ p, legalB (ros x) = p := ⟨_, rfl⟩
  have HP := Lib.hid hp
  clear hp
  go_wp2_with fail
  refine (fixed8_any w1).mono ?_
  rintro e w2 ⟨rfl, hb2⟩
  have HB2 := Lib.hid (bt HB1.out hb2); have HX2 := Lib.hid (HX.out.below hb2)
  clear hb2
  go_wp2_with fail
  refine (legal8 a x w2 HX2.out (by omega) HX6.out (by omega) p HP.out).mono ?_
  rintro e w3 ⟨rfl, hb3⟩
  have HB3 := Lib.hid (bt HB2.out hb3); have HX3 := Lib.hid (HX2.out.below hb3)
  clear hb3
  go_wp2_with fail
  refine (refLegal8 a x w3 HX3.out (by omega) HX6.out (by omega) p HP.out).mono ?_
  rintro e w4 ⟨rfl, hb4⟩
  have HB4 := Lib.hid (bt HB3.out hb4)
  clear hb4
  cases p with
  | true =>
    go_wp2
    go_ret
    exact ⟨rfl, HB4.out⟩
  | false =>
    go_wp2
    go_ret
    exact ⟨rfl, HB4.out⟩

end Go.Proofs.YteafldginkpgoaaGreat.Wr
