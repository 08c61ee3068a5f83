/-
  Stage 14: the bound, said of values.
  Arguments that are slices of structs: their parts, and what is read of each.
  An argument that is a slice of strings, as the row reads it: a list of strings, nil or not.
  An argument api.Conf, as a statement's row reads it.
  Walk of stage 12: the law's Bound.
  Stage 12: what the laws have in common: a configuration bounded, in a box of the law's own.
  Stage 13: a box is none of the blocks of rows.
  Stage 14: SettleParsed.
  Stage 14: SettleSafe.
  Stage 14: SettleFirst.
-/
import Derived.Test.YtgjlfcamgkeibaaGreatDoorCk12
import Derived.Test.YtgjlfcamgkeibaaGreatDoorCk02
import Derived.Test.YtgjlfcamgkeibaaGreatDoorCk07
import Derived.Test.YtgjlfcamgkeibaaGreatDoorCk09
import Derived.Test.YtgjlfcamgkeibaaGreatDoorCk01
import Derived.Deep.Slices
import Derived.Deep.Fields
import Derived.ChangeSame
import Derived.ProofKit
import Derived.Carry
import Derived.Lib.SmallJoins
import Derived.SliceStrings
import Derived.Laws.Small
namespace Go.Proofs.YtgjlfcamgkeibaaGreatDoor.Se
set_option maxRecDepth 100000
set_option linter.unusedVariables false
set_option linter.unusedSimpArgs false
open Go.RowKit Ba Ro
open Co (Cf)
open Cn (errI outL)
open Wm (cost costs)
open Wr (rb insideB)
open Tm (bulkA)
theorem bulk_cut (l : List At) : bulkA ((l.take 5).map cutA) ≤ 400 ∧ ((l.take 5).map cutA).length ≤ 5 := by
  have h : ∀ (m : List At), bulkA (m.map cutA) ≤ 80 * m.length := by
    intro m
    unfold bulkA
    induction m with
    | nil => exact Nat.zero_le _
    | cons a r ih =>
      rw [List.map_cons, List.map_cons, List.sum_cons, List.length_cons]
      have h1 := size_cut40 a.name
      have h2 := size_cut40 a.value
      have e1 : (cutA a).name.size = (cut40 a.name).size := rfl
      have e2 : (cutA a).value.size = (cut40 a.value).size := rfl
      omega
  have h1 := h (l.take 5)
  have h2 : (l.take 5).length ≤ 5 := by rw [List.length_take]; omega
  rw [List.length_map]
  omega
theorem rb_cut14 (x : Ro) : rb (cutR x) ≤ 485 := by
  have h1 := size_cut40 x.name
  have h2 := size_cut40 x.data
  obtain ⟨h3, h4⟩ := bulk_cut x.attrs
  unfold rb
  show (cut40 x.name).size + (cut40 x.data).size + bulkA ((x.attrs.take 5).map cutA) + ((x.attrs.take 5).map cutA).length ≤ 485
  omega
theorem cost_cut14 (x : Ro) : cost (cutR x) ≤ 2505 := by
  have h1 := size_cut40 x.name
  have h2 := size_cut40 x.data
  obtain ⟨h3, h4⟩ := bulk_cut x.attrs
  unfold cost
  show (if x.kind = 0 then 5 + 2 * (cut40 x.name).size + 6 * bulkA ((x.attrs.take 5).map cutA) + 4 * ((x.attrs.take 5).map cutA).length else if x.kind = 1 then 6 * (cut40 x.data).size else 7 + (cut40 x.data).size) ≤ 2505
  split
  · omega
  · split <;> omega
theorem fit_bound (l : List Ro) : Fit (bound14L l) ∧ Few (bound14L l) ∧ (bound14L l).length ≤ 25 := by
  have hl : (l.take 25).length ≤ 25 := by rw [List.length_take]; omega
  have hc : ∀ m : List Ro, costs (m.map cutR) ≤ 2505 * m.length := by
    intro m
    induction m with
    | nil => exact Nat.zero_le _
    | cons x r ih =>
      rw [List.map_cons, costs_cons, List.length_cons]
      have := cost_cut14 x
      omega
  refine ⟨⟨?_, fun y hy => ?_, ?_⟩, fun y hy => ?_, ?_⟩
  · rw [bound14L, List.length_map]; omega
  · obtain ⟨x, _, rfl⟩ := List.mem_map.1 hy
    exact Nat.le_trans (rb_cut14 x) (by decide)
  · exact Nat.le_trans (hc _) (by omega)
  · obtain ⟨x, _, rfl⟩ := List.mem_map.1 hy
    exact Nat.le_trans (bulk_cut x.attrs).2 (by decide)
  · rw [bound14L, List.length_map]; exact hl
theorem held_bound {l : List Ro} (h : Held l) : Held (bound14L l) := fun x hx => by
  obtain ⟨y, hy, rfl⟩ := List.mem_map.1 hx
  exact h y (List.mem_of_mem_take hy)
theorem bound14 (v : Value) (a : List Cw) (w : World) (h : Rv w v a) (hz : Rz.Small (ros a)) :
    Calls Tryz.prog 10 #[v] w fun e w' => ∃ v' x, e = .returned v' ∧ ros x = bound14L (ros a) ∧ Rv w' v' x ∧ Fit (ros x) ∧ Few (ros x) ∧ x.length ≤ 25 ∧ Below w.heap.size w w' := by
  obtain ⟨A, c, rfl, hc, hm, hr, hh⟩ := h
  refine (bound14_any A c a w hr hc hm (fun x hx => ?_)).mono ?_
  · obtain ⟨z1, z2, z3⟩ := hz x.ro (List.mem_map_of_mem hx)
    exact ⟨z1, z2, z3⟩
  · rintro e w' ⟨v', x, he, ho, _, hl, hb⟩
    obtain ⟨f1, f2, f3⟩ := fit_bound (ros a)
    have hn : x.length ≤ 25 := by rw [← len_ros, hl]; exact f3
    exact ⟨v', x, he, hl, ho.rv (by rw [hl]; exact held_bound hh), by rw [hl]; exact f1, by rw [hl]; exact f2, hn, hb⟩
theorem len_le {y : List Cw} {T : List Ro} (h : ros y = T) (hT : T.length ≤ 4096) : y.length ≤ 5000 := by
  have := congrArg List.length h
  rw [len_ros] at this
  omega
theorem mild_snoc {K : Nat} {o : List Ro} {x : Ro} (h : Bm.mild K o) (hx : x.attrs.length ≤ K) : Bm.mild K (o ++ [x]) := fun y hy => by
  rcases List.mem_append.1 hy with hy | hy
  · exact h y hy
  · rw [List.mem_singleton.1 hy]; exact hx
theorem mild_step {K : Nat} {st : Bm.St} {t : Tm.Tk} (h : Bm.mild K st.out) (ht : t.attrs.length ≤ K) : Bm.mild K (Bm.stepB st t).out := by
  rw [Bm.step_eval]
  unfold Bm.stepF
  split
  · split
    · exact h
    · exact Bm.mild_add h
  · split
    · exact mild_snoc h (Nat.zero_le _)
    · split
      · split
        · exact h
        · exact mild_snoc h (Nat.le_trans (Wm.bulk_once t.attrs).2 ht)
      · split
        · split
          · exact h
          · split
            · exact h
            · split
              · exact mild_snoc h (Nat.zero_le _)
              · exact h
        · exact h
theorem mild_tree {K : Nat} : ∀ {T : List Tm.Tk} {st : Bm.St} {o : List Ro}, Bm.treeB st T = some o → Bm.mild K st.out → (∀ t ∈ T, t.attrs.length ≤ K) → Bm.mild K o
  | [], st, o, h, hm, _ => by
    injection h with h
    rw [← h]; exact hm
  | t :: r, st, o, h, hm, hT => by
    have h' : (if Bm.tooBig (Bm.stepB st t).out = true then none else Bm.treeB (Bm.stepB st t) r) = some o := h
    split at h'
    · cases h'
    · exact mild_tree h' (mild_step hm (hT t List.mem_cons_self)) fun x hx => hT x (List.mem_cons_of_mem _ hx)
theorem few_par {s : List UInt8} {o : List Ro} (h : par s = some o) : Few o := by
  obtain ⟨hs, ht⟩ := par_tree h
  have hwb := Tm.bulk_within [] (Bu.rdy s)
  have hlr := Bu.len_rdy s
  refine mild_tree (K := 1000000) ht (fun y hy => by cases hy) fun t hx => ?_
  have h1 := Tm.bulk_mem hx
  unfold Tm.bulkT at h1
  omega
theorem few_loop (c : Cf) (s : Bool) : ∀ (k n : Nat) (l : List Ro), Few l → Few (loopM c s k n l).1
  | 0, n, l, _ => fun x hx => by cases hx
  | k + 1, n, l, h => by
    rw [loopM]
    split
    · cases hp : par (insideB (outL c s l) (-1)) with
      | none => exact fun x hx => by cases hx
      | some p =>
        show Few (if p = _ then _ else _ : List Ro × Nat × Int).1
        split
        · exact few_par hp
        · split
          · exact fun x hx => by cases hx
          · exact few_loop c s k (n + 1) p (few_par hp)
    · exact fun x hx => by cases hx
theorem few_ok {c : Cf} {s : Bool} {k n m : Nat} {l T : List Ro} (h : Few l) (hG : loopM c s k n l = (T, m, 0)) : Few T := by
  have := few_loop c s k n l h
  rw [hG] at this
  exact this

end Go.Proofs.YtgjlfcamgkeibaaGreatDoor.Se

namespace Go.Proofs.YtgjlfcamgkeibaaGreatDoor.Oq
set_option linter.unusedVariables false
set_option linter.unusedSimpArgs false
open Go.RowKit Go.ChangeShapes Go.WideShapes Go.Deep
section
variable {H : Type} {enc : TypeId × Value → H} {P : Program} {w : World} {base : Nat} {spare : Nat → Bool} {held : Bool}
theorem open_rows_both {t e : TypeId} {fs : Array Field} {fuel : Nat} {cs : List Value} {x : DataW H × List MemPlace} (ht : P.underlying t = some (.slice e)) (he : P.underlying e = some (.struct fs))
    (hone : oneCellFields P fs = true) (hC : P.cellsOf e = fs.size) (h : DataW.trod enc P w base spare held fuel t cs = some x) :
    cs = [.slice none 0 0] ∨
    ∃ (a : Addr) (len cap m : Nat) (Pl : Nat → List MemPlace) (D : Nat → DataW H) (sp : List (DataW H)), cs = [.slice (some a) len cap] ∧ len ≤ cap ∧ cap ≤ maxLen ∧ m = (if spare a.block then cap else len) ∧
      x.1 = .slice ((List.range len).map D) sp ∧ x.2 = MemPlace.row a (m * fs.size) ++ (List.range m).flatMap Pl ∧
      ∀ i, i < m → ∀ (j : Nat) (f : Field), fs[j]? = some f → ∃ (v : Value) (y : DataW H × List MemPlace) (n : Nat) (parts : List (DataW H)), w.cell? (a.add (i * fs.size + j)) = some v ∧ (∀ z ∈ y.2, z ∈ Pl i) ∧ D i = .agg parts ∧ parts[j]? = some y.1 ∧ DataW.trod enc P w base spare held n f.type [v] = some y := by
  rcases open_slice ht h with ⟨h0, _⟩ | ⟨a, len, cap, m, n, D, Pl, hcs, hb, hl, hm, hmm, hx, hi⟩
  · exact .inl h0
  · refine .inr ⟨a, len, cap, m, Pl, D, _, hcs, hl, hm, hmm, by rw [hx], by rw [hx, hC], fun i him j f hj => ?_⟩
    obtain ⟨cs', hc, ht'⟩ := hi i him
    rw [hC] at hc
    obtain ⟨ys, n', hn', hy, hlen, hyl, hf⟩ := DataW.trod_struct he ht'
    obtain ⟨_, hcl, hat⟩ := World.cells?_some hc
    simp only [Prod.mk.injEq] at hy
    obtain ⟨ho, hk⟩ := hone_of hone j f hj
    have hjl : j < fs.size := (Array.getElem?_eq_some_iff.1 hj).1
    have hcell := hat j hjl
    have hv : cs'[j]? = some (cs'[j]'(by omega)) := List.getElem?_eq_getElem (by omega)
    have h1 := hf j f hj
    rw [ho, hk] at h1
    have hone' : (cs'.drop j).take 1 = [cs'[j]'(by omega)] := by
      rw [List.drop_eq_getElem_cons (by omega)]
      rfl
    rw [hone'] at h1
    have hys : ys[j]? = some (ys[j]'(by omega)) := List.getElem?_eq_getElem (by omega)
    refine ⟨_, _, n', _, ?_, fun z hz => ?_, hy.1, by rw [List.getElem?_map, hys]; rfl, h1.trans hys⟩
    · rw [← Go.Deep.add_add, hcell, hv]
    · rw [hy.2]
      exact List.mem_flatMap.2 ⟨_, List.getElem_mem _, hz⟩
end
section
variable {H : Type} {enc : TypeId × Value → H} {P : Program} {w : World} {base : Nat} {spare : Nat → Bool} {held : Bool}
theorem list_of {α : Type} (Q : Nat → α → Prop) : ∀ n : Nat, (∀ i < n, ∃ x, Q i x) → ∃ l : List α, l.length = n ∧ ∀ i (h : i < l.length), Q i l[i]
  | 0, _ => ⟨[], rfl, fun i h => absurd h (by simp)⟩
  | n + 1, h => by
    obtain ⟨l, hl, hq⟩ := list_of Q n fun i hi => h i (by omega)
    obtain ⟨x, hx⟩ := h n (by omega)
    refine ⟨l ++ [x], by rw [List.length_append, hl]; rfl, fun i hi => ?_⟩
    rw [List.length_append, List.length_singleton] at hi
    by_cases e : i < l.length
    · rw [List.getElem_append_left e]
      exact hq i e
    · have : i = l.length := by omega
      subst this
      rw [List.getElem_append_right (Nat.le_refl _)]
      simp only [Nat.sub_self, List.getElem_cons_zero]
      rw [hl]; exact hx

theorem open_agg_any {r : Reach} {b0 : Nat} {t : TypeId} {fs : Array Field} {v : Value} {d : DataW H} {p : List MemPlace} (hs : P.underlying t = some (.struct fs)) (hone : oneCellFields P fs = true) (hC : P.cellsOf t = fs.size)
    (hv : Value.okWide P w r b0 t v) (h : DataW.Trod enc P w base spare held t v d p) :
    ∃ (cs : Array Value) (ys : List (DataW H × List MemPlace)) (n : Nat), v = .agg cs ∧ cs.size = fs.size ∧ d = .agg (ys.map (·.1)) ∧ p = ys.flatMap (·.2) ∧
      ∀ (j : Nat) (f : Field), fs[j]? = some f → ∃ (u : Value) (y : DataW H × List MemPlace), cs[j]? = some u ∧ ys[j]? = some y ∧ DataW.trod enc P w base spare held n f.type [u] = some y := by
  obtain ⟨cs, rfl, hsz⟩ := okWide_struct hs hv
  obtain ⟨fuel, hf⟩ := h
  obtain ⟨ys, n', hn', hy, hlen, hyl, hat⟩ := DataW.trod_struct hs hf
  simp only [Prod.mk.injEq] at hy
  refine ⟨cs, ys, n', rfl, hsz.trans hC, hy.1, hy.2, fun j f hj => ?_⟩
  obtain ⟨ho, hk⟩ := hone_of hone j f hj
  have hjl : j < fs.size := (Array.getElem?_eq_some_iff.1 hj).1
  have hjc : j < cs.size := by rw [hsz, hC]; exact hjl
  have h1 := hat j f hj
  rw [ho, hk] at h1
  have hcl : ((Value.agg cs).cells.toList) = cs.toList := rfl
  have hone' : (((Value.agg cs).cells.toList).drop j).take 1 = [cs[j]] := by
    rw [hcl, List.drop_eq_getElem_cons (by rw [Array.length_toList]; exact hjc)]
    simp
  rw [hone'] at h1
  have hys : ys[j]? = some (ys[j]'(by omega)) := List.getElem?_eq_getElem (by omega)
  exact ⟨cs[j], _, Array.getElem?_eq_getElem hjc, hys, h1.trans hys⟩
end
end Go.Proofs.YtgjlfcamgkeibaaGreatDoor.Oq

namespace Go.Proofs.YtgjlfcamgkeibaaGreatDoor.Fo
set_option maxRecDepth 100000
set_option linter.unusedSimpArgs false
set_option linter.unusedVariables false
open Go.RowKit Ba Go.ChangeShapes Go.WideShapes Go.ChangeAt
theorem cells_str : Tryz.prog.cellsOf 9 = 1 := by kernel_rfl
theorem laidOut : laidOutB Tryz.prog = true := by kernel_rfl

end Go.Proofs.YtgjlfcamgkeibaaGreatDoor.Fo

namespace Go.Proofs.YtgjlfcamgkeibaaGreatDoor.Co
set_option maxRecDepth 100000
set_option linter.unusedVariables false
set_option linter.unusedSimpArgs false
open Go.RowKit Ba Fm Fo Nm Rk Go.ChangeShapes Go.WideShapes Go.ChangeAt Go.Deep
open Rz (Within reach_le)
open Oq (open_rows_both open_agg_any list_of)
structure St (c : Cf) : Prop where
  es : ∀ s ∈ c.els, s.size ≤ 140737488355328
  rs : ∀ s ∈ c.reps, s.size ≤ 140737488355328
  as_ : ∀ s ∈ c.ats, s.size ≤ 140737488355328
  ps : ∀ p ∈ c.per, p.el.size ≤ 140737488355328 ∧ ∀ s ∈ p.at_, s.size ≤ 140737488355328
section
variable {H : Type} {enc : TypeId × Value → H} {w : World}
theorem svs_in {fuel : Nat} {v : Value} {x : DataW H × List MemPlace} (hz : Within Tryz.prog 23 x.1) (h : DataW.trod enc Tryz.prog w 0 (fun _ => true) true fuel 23 [v] = some x) (N : Nat) (hlt : ∀ z ∈ x.2, z.block < N) : ∃ l, Sv w N v l ∧ ∀ s ∈ l, s.size ≤ 140737488355328 := by
  rcases open_strings Tryz.underlying23 Tryz.underlying9 cells_str h with ⟨hcs, hx⟩ | ⟨a, len', cap', ss, hcs, _, hl, hm, hzz, hx, hcell, hws⟩
  · obtain rfl : v = .slice none 0 0 := by simpa using hcs
    exact ⟨[], ⟨none, 0, rfl, Nat.le_refl _, fun _ => rfl, Rd.nil _ _ _⟩, fun s hs => by cases hs⟩
  · obtain rfl : v = .slice (some a) len' cap' := by simpa using hcs
    subst hx
    simp only [if_true] at hzz
    have hlen : (ss.take len').length = len' := by rw [List.length_take]; omega
    refine ⟨ss.take len', ⟨some a, cap', by rw [hlen], by rw [hlen]; exact hl, (fun e => by cases e), fun h0 => ?_⟩, fun s hs => reach_le (hz.elem (d := .lit (.string s.data.toList)) Tryz.underlying23 (List.mem_map.2 ⟨s, hs, rfl⟩)).str⟩
    rw [hlen] at h0
    obtain ⟨b, off, spot⟩ := a
    have hspot : spot = none := by simpa [Addr.add] using World.cell?_spot (hcell 0 (by omega))
    subst hspot
    have hbW : b < N := hlt (.cell b off) (MemPlace.mem_row.2 ⟨0, by omega, by simp⟩)
    refine ⟨b, off, rfl, hbW, fun j hj => ?_⟩
    rw [hlen] at hj
    have := hcell j (by omega)
    rw [add_plain] at this
    rw [this, List.getElem_take]
    congr 2
    rw [List.getD_eq_getElem?_getD, List.getElem?_eq_getElem (by omega)]
    rfl
theorem pers_in {fuel : Nat} {v : Value} {x : DataW H × List MemPlace} (hz : Within Tryz.prog 24 x.1) (h : DataW.trod enc Tryz.prog w 0 (fun _ => true) true fuel 24 [v] = some x) (N : Nat) (hlt : ∀ z ∈ x.2, z.block < N) :
    ∃ l, Pv w N v l ∧ ∀ p ∈ pes l, p.el.size ≤ 140737488355328 ∧ ∀ s ∈ p.at_, s.size ≤ 140737488355328 := by
  rcases open_rows_both Tryz.underlying24 Tryz.underlying57 (by kernel_rfl) (by kernel_rfl) h with hcs | ⟨a, len', cap', m, Pl, D, sp, hcs, hl, hm, hmm, hx1, hx, hi⟩
  · obtain rfl : v = .slice none 0 0 := by simpa using hcs
    exact ⟨[], ⟨none, 0, rfl, Nat.le_refl _, fun _ => rfl, Pr.nil _ _ _⟩, fun p hp => by simp [pes] at hp⟩
  · obtain rfl : v = .slice (some a) len' cap' := by simpa using hcs
    simp only [if_true] at hmm
    subst hmm
    obtain ⟨b, off, spot⟩ := a
    have hrow : ∀ i < len', ∃ r : Pw, (∀ (j : Nat) (u : Value), (pcells r)[j]? = some u → w.cell? ((⟨b, off, spot⟩ : Addr).add (i * 2 + j)) = some u) ∧ Sx w N r ∧ r.pe.el.size ≤ 140737488355328 ∧ ∀ s ∈ r.pe.at_, s.size ≤ 140737488355328 := fun i hil => by
      obtain ⟨v0, y0, n0, q0, c0, _, D0, g0, t0⟩ := hi i (by omega) 0 _ rfl
      obtain ⟨v1, y1, n1, q1, c1, p1, D1, g1, t1⟩ := hi i (by omega) 1 _ rfl
      rw [D0] at D1
      injection D1 with D1
      subst D1
      have hzi : Within Tryz.prog 57 (D i) := by
        rw [hx1] at hz
        exact hz.elem Tryz.underlying24 (List.mem_map.2 ⟨i, List.mem_range.2 hil, rfl⟩)
      rw [D0] at hzi
      have z0 := hzi.part Tryz.underlying57 (j := 0) rfl g0
      have z1 := hzi.part Tryz.underlying57 (j := 1) rfl g1
      obtain ⟨s0, e0, b0, _⟩ := DataW.trod_string Tryz.underlying9 t0
      obtain rfl : v0 = .string s0 := by simpa using e0
      rw [b0] at z0
      obtain ⟨l, hs, hk⟩ := svs_in z1 t1 N fun z hzz => hlt z (by
        rw [hx]
        exact List.mem_append_right _ (List.mem_flatMap.2 ⟨i, List.mem_range.2 (by omega), p1 z hzz⟩))
      have hs' := hs
      obtain ⟨A, c, rfl, _, _, _⟩ := hs'
      refine ⟨⟨⟨s0, l⟩, A, c⟩, fun j u hu => ?_, hs, reach_le z0.str, hk⟩
      match j, hu with
      | 0, hu => exact c0.trans hu
      | 1, hu => exact c1.trans hu
      | j + 2, hu => exact absurd hu (by simp [pcells])
    obtain ⟨l, hll, hq⟩ := list_of _ len' hrow
    refine ⟨l, ⟨some ⟨b, off, spot⟩, _, by rw [hll], by omega, (fun e => by cases e), fun h0 => ?_, fun r hr => ?_⟩, fun p hp => ?_⟩
    · have hspot : spot = none := by
        have := World.cell?_spot ((hq 0 h0).1 0 _ rfl)
        simpa [Addr.add] using this
      subst hspot
      refine ⟨b, off, rfl, hlt (.cell b off) (by rw [hx]; exact List.mem_append_left _ (MemPlace.mem_row.2 ⟨0, by show 0 < _ * 2; omega, by simp⟩)), fun j hj k u hu => ?_⟩
      have := (hq j hj).1 k u hu
      rw [add_plain] at this
      rw [show off + j * 2 + k = off + (j * 2 + k) by omega]
      exact this
    · obtain ⟨j, hj, rfl⟩ := List.getElem_of_mem hr
      exact (hq j hj).2.1
    · obtain ⟨z, hz', rfl⟩ := List.mem_map.1 hp
      obtain ⟨j, hj, rfl⟩ := List.getElem_of_mem hz'
      exact (hq j hj).2.2
theorem open_cf {base : Nat} {v : Value} {d : DataW H} {p : List MemPlace} (hz : Within Tryz.prog 26 d) (hv : Value.okWide Tryz.prog w .any base 26 v)
    (h : ∃ fuel, DataW.trod enc Tryz.prog w 0 (fun _ => true) true fuel 26 v.cells.toList = some (d, p)) (hlt : ∀ z ∈ p, z.block < w.heap.size) : ∃ c, Cv w w.heap.size v c ∧ St c := by
  obtain ⟨cs, ys, n, rfl, hcs, hd, hp, hat⟩ := open_agg_any Tryz.underlying26 (by kernel_rfl) (by kernel_rfl) hv h
  obtain ⟨v0, y0, c0, g0, t0⟩ := hat 0 _ rfl
  obtain ⟨v1, y1, c1, g1, t1⟩ := hat 1 _ rfl
  obtain ⟨v2, y2, c2, g2, t2⟩ := hat 2 _ rfl
  obtain ⟨v3, y3, c3, g3, t3⟩ := hat 3 _ rfl
  obtain ⟨v4, y4, c4, g4, t4⟩ := hat 4 _ rfl
  obtain ⟨v5, y5, c5, g5, t5⟩ := hat 5 _ rfl
  obtain ⟨v6, y6, c6, g6, t6⟩ := hat 6 _ rfl
  obtain ⟨v7, y7, c7, g7, t7⟩ := hat 7 _ rfl
  subst hd
  have gm : ∀ {j : Nat} {y : DataW H × List MemPlace}, ys[j]? = some y → (ys.map (·.1))[j]? = some y.1 := fun h => by rw [List.getElem?_map, h]; rfl
  have lt : ∀ {j : Nat} {y : DataW H × List MemPlace}, ys[j]? = some y → ∀ z ∈ y.2, z.block < w.heap.size := fun h z hzz => hlt z (by
    rw [hp]
    exact List.mem_flatMap.2 ⟨_, List.mem_of_getElem? h, hzz⟩)
  obtain ⟨b0, e0, _⟩ := DataW.trod_bool Tryz.underlying4 t0
  obtain ⟨b1, e1, _⟩ := DataW.trod_bool Tryz.underlying4 t1
  obtain ⟨lE, sE, kE⟩ := svs_in (hz.part Tryz.underlying26 (j := 2) rfl (gm g2)) t2 w.heap.size (lt g2)
  obtain ⟨lR, sR, kR⟩ := svs_in (hz.part Tryz.underlying26 (j := 3) rfl (gm g3)) t3 w.heap.size (lt g3)
  obtain ⟨lA, sA, kA⟩ := svs_in (hz.part Tryz.underlying26 (j := 4) rfl (gm g4)) t4 w.heap.size (lt g4)
  obtain ⟨lP, sP, kP⟩ := pers_in (hz.part Tryz.underlying26 (j := 5) rfl (gm g5)) t5 w.heap.size (lt g5)
  obtain ⟨b6, e6, _⟩ := DataW.trod_bool Tryz.underlying4 t6
  obtain ⟨b7, e7, _⟩ := DataW.trod_bool Tryz.underlying4 t7
  obtain rfl : v0 = .bool b0 := by simpa using e0
  obtain rfl : v1 = .bool b1 := by simpa using e1
  obtain rfl : v6 = .bool b6 := by simpa using e6
  obtain rfl : v7 = .bool b7 := by simpa using e7
  refine ⟨⟨b0, b1, lE, lR, lA, pes lP, b6, b7⟩, ⟨v2, v3, v4, v5, lP, ?_, sE, sR, sA, sP, rfl⟩, kE, kR, kA, kP⟩
  have hcs8 : cs.size = 8 := hcs
  congr 1
  apply Array.ext_getElem?
  intro i
  match i with
  | 0 => exact c0
  | 1 => exact c1
  | 2 => exact c2
  | 3 => exact c3
  | 4 => exact c4
  | 5 => exact c5
  | 6 => exact c6
  | 7 => exact c7
  | i + 8 => rw [Array.getElem?_eq_none (by omega), Array.getElem?_eq_none (by simp)]
end

end Go.Proofs.YtgjlfcamgkeibaaGreatDoor.Co

namespace Go.Proofs.YtgjlfcamgkeibaaGreatDoor.Co
set_option maxRecDepth 100000
set_option linter.unusedVariables false
set_option linter.unusedSimpArgs false
open Go.RowKit Ba Fm Fo Nm Rk
def boundC (c : Cf) : Cf := ⟨c.allow, c.attrsAllow, c.els.take 70, c.reps.take 70, c.ats.take 70, (c.per.take 12).map fun p => ⟨p.el, p.at_.take 70⟩, c.comments, c.dataAttrs⟩
theorem min_named (x m k : Nat) (hk : min x m = k) (M : Int) (hM : M = m) (ts : Array TypeId) (t : TypeId) (w : World) : (Builtin.min_ ts t #[.int .i64 x, .int .i64 M]).run Tryz.prog w = .ok (.int .i64 k) w := by
  rw [run_min_int2]
  congr 2
  split <;> omega
theorem sx_snoc {w w' : World} {N : Nat} {acc : List Pw} {z : Pw} (h : ∀ y ∈ acc, Sx w N y) (hz : Sx w N z) (hb : Below N w w') : ∀ y ∈ acc ++ [z], Sx w' N y := fun y hy => by
  rcases List.mem_append.1 hy with h1 | h1
  · exact (h y h1).below hb
  · obtain rfl := List.mem_singleton.1 h1
    exact hz.below hb
theorem po_kept {N : Nat} {w W : World} {v : Value} {l : List Pw} (h : Po N w v l) (hs : ∀ z ∈ l, Sx W W.heap.size z) (hk : ∀ b, N ≤ b → b < w.heap.size → W.heap[b]? = w.heap[b]?) (hz : w.heap.size ≤ W.heap.size) : Pv W W.heap.size v l := by
  obtain ⟨A, c, e, h1, _, h2, h3⟩ := h.form
  refine ⟨A, c, e, h1, h2, fun h0 => ?_, hs⟩
  obtain ⟨b, off, eA, hb, hc⟩ := h3.1 h0
  have hN : N ≤ b := (World.ownsRow.lt h.1 b (by rw [e, eA]; simp [Value.ownBlock])).1
  exact ⟨b, off, eA, by omega, fun j hj => range_keep12 (hc j hj) fun o => World.cell?_of_block (a := ⟨b, o, none⟩) (hk b hN hb)⟩
theorem step_min {ops : Array Oper} {o : Oper} {a : Act} {K : Act → World → Prop} {Q : Exit → Act → World → Prop} {E : Prop} (W : World) (hgd : o.guard = none) (x : Operand)
    (ho : o.op = .call { callee := .builtin .min, args := #[x, .const (.int .i64 70)], argTypes := #[3, 3] }) (n m : Nat) (hm : min n 70 = m) (hx : a.eval x = .int .i64 n) (h : K (a.put o.dst (.int .i64 m)) W) :
    if Region.wanted o (yielded ops a.tmps) = true then Oper.wp Tryz.prog o a W K Q else E := by
  rw [if_pos (show Region.wanted o (yielded ops a.tmps) = true by simp [Region.wanted, hgd])]
  have hrun := fun ts t => min_named n 70 m hm 70 rfl ts t W
  have hc : a.eval (.const (.int .i64 70)) = .int .i64 70 := rfl
  unfold Oper.wp
  simp [execOp, ho, resolve, invoke, builtin, hx, hc, hrun, Result.andThen]
  exact h
theorem sv_takeC {w : World} {N c m : Nat} {A : Option Addr} {l : List ByteArray} (h : Sv w N (.slice A l.length c) l) (k : Nat) (hm : min l.length k = m) : Sv w N (.slice A m c) (l.take k) := by
  obtain ⟨A', c', e, hc, hn, hr⟩ := h
  injection e with e1 e2 e3
  subst e1 e3
  have e : (l.take k).length = m := by rw [List.length_take, Nat.min_comm]; exact hm
  exact ⟨A, c, by rw [e], by rw [e]; omega, hn, hr.take k⟩
theorem cut_snoc {l : List Pw} {k : Nat} {x : Pw} {acc : List Pw} (h : l[k]? = some x) (ha : pes acc = (pes (l.take k)).map fun p => ⟨p.el, p.at_.take 70⟩) (z : Pw) (hz : z.pe = ⟨x.pe.el, x.pe.at_.take 70⟩) : pes (acc ++ [z]) = (pes (l.take (k + 1))).map fun p => ⟨p.el, p.at_.take 70⟩ := by
  have hk : k < l.length := (List.getElem?_eq_some_iff.1 h).1
  have hx : l[k] = x := (List.getElem?_eq_some_iff.1 h).2
  rw [List.take_succ_eq_append_getElem hk, pes_append, pes_append, hx, List.map_append, ha]
  simp [pes, hz]
theorem ap_cut {w : World} {N M : Nat} {x : Pw} (h : Sx w N x) (hN : N ≤ M) (z : Pw) (hA : z.A = x.A) (hz : z.pe.at_.length ≤ x.pe.at_.length) : Ap w M z := fun h0 => by
  obtain ⟨A, c, e, _, _, hr⟩ := h
  injection e with e1 e2 e3
  obtain ⟨b, off, e', hb, _⟩ := hr (by omega)
  exact ⟨b, off, by rw [hA, e1, e'], .inl (by omega)⟩
set_option maxRecDepth 100000 in
set_option maxHeartbeats 2000000 in
theorem bound12 (v : Value) (c : Cf) (w : World) (h : Cv w w.heap.size v c) :
    Calls Tryz.prog 11 #[v] w fun r w' => ∃ v', r = .returned v' ∧ Cv w' w'.heap.size v' (boundC c) ∧ Below w.heap.size w w' := by
  obtain ⟨vE, vR, vA, vP, l, rfl, h⟩ := h
  obtain ⟨al, aa, els, reps, ats, per, cm, da⟩ := c
  obtain ⟨E, ce, rfl, he1, he2, he3⟩ := h.e
  obtain ⟨R, cr, rfl, hr1, hr2, hr3⟩ := h.r
  obtain ⟨T, ct, rfl, ht1, ht2, ht3⟩ := h.a
  obtain ⟨A, cp, rfl, hp1, hp2, hp3⟩ := h.p
  obtain ⟨n1, hn1⟩ : ∃ n, els.length = n := ⟨_, rfl⟩
  obtain ⟨n2, hn2⟩ : ∃ n, reps.length = n := ⟨_, rfl⟩
  obtain ⟨n3, hn3⟩ : ∃ n, ats.length = n := ⟨_, rfl⟩
  obtain ⟨m1, hm1⟩ : ∃ n, min n1 70 = n := ⟨_, rfl⟩
  obtain ⟨m2, hm2⟩ : ∃ n, min n2 70 = n := ⟨_, rfl⟩
  obtain ⟨m3, hm3⟩ : ∃ n, min n3 70 = n := ⟨_, rfl⟩
  have q1 := fun ts t w => min_named n1 70 m1 hm1 70 rfl ts t w
  have q2 := fun ts t w => min_named n2 70 m2 hm2 70 rfl ts t w
  have q3 := fun ts t w => min_named n3 70 m3 hm3 70 rfl ts t w
  have u1 : m1 ≤ ce := by simp only at he1; omega
  have u2 : m2 ≤ cr := by simp only at hr1; omega
  have u3 : m3 ≤ ct := by simp only at ht1; omega
  simp only
  rw [hn1, hn2, hn3]
  have H0 := Lib.hid h
  clear he1 he2 he3 hr1 hr2 hr3 ht1 ht2 ht3 hp1 hp2 hp3 h
  go_enter Tryz.func11, Tryz.ntmps11
  go_upto_region 5 with (fail)
  obtain ⟨w0, hw0⟩ : ∃ w0, (w.alloc (.cells #[.bool al, .bool aa, .slice E m1 ce, .slice R m2 cr, .slice T m3 ct, .slice A l.length cp, .bool cm, .bool da] 26)).alloc (.cells #[.bool false, .bool false, .slice none 0 0, .slice none 0 0, .slice none 0 0, .slice none 0 0, .bool false, .bool false] 26) = w0 := ⟨_, rfl⟩
  rw [hw0]
  have hz0 : w0.heap.size = w.heap.size + 1 + 1 := by rw [← hw0]; simp
  have hb0 : Below w.heap.size w w0 := hw0 ▸ below_two w _ _
  have hh1 : Hb w0 w.heap.size #[.bool al, .bool aa, .slice E m1 ce, .slice R m2 cr, .slice T m3 ct, .slice A l.length cp, .bool cm, .bool da] := hw0 ▸ (Hb.new w _).on (below_new12 _ _)
  have hh2 : Hb w0 (w.heap.size + 1) #[.bool false, .bool false, .slice none 0 0, .slice none 0 0, .slice none 0 0, .slice none 0 0, .bool false, .bool false] := by
    have := Hb.new (w.alloc (.cells #[.bool al, .bool aa, .slice E m1 ce, .slice R m2 cr, .slice T m3 ct, .slice A l.length cp, .bool cm, .bool da] 26)) #[.bool false, .bool false, .slice none 0 0, .slice none 0 0, .slice none 0 0, .slice none 0 0, .bool false, .bool false]
    rw [World.size_alloc] at this
    exact hw0 ▸ this
  have h := H0.out
  have ho0 := Po.made w0
  rw [hz0] at ho0
  obtain ⟨A', cp', e, hp1, hp2, hp3⟩ := h.p
  injection e with e1 e2 e3
  subst e1 e3
  have hlast : Cp w w.heap.size (boundC ⟨al, aa, els, reps, ats, per, cm, da⟩) (.slice E m1 ce) (.slice R m2 cr) (.slice T m3 ct) (.slice none 0 0) [] → True := fun _ => trivial
  have hse := sv_takeC (m := m1) h.e 70 (show min els.length 70 = m1 by rw [hn1]; exact hm1)
  have hsr := sv_takeC (m := m2) h.r 70 (show min reps.length 70 = m2 by rw [hn2]; exact hm2)
  have hst := sv_takeC (m := m3) h.a 70 (show min ats.length 70 = m3 by rw [hn3]; exact hm3)
  have hper : (per.take 12).map (fun p => (⟨p.el, p.at_.take 70⟩ : Pe)) = (pes (l.take 12)).map fun p => ⟨p.el, p.at_.take 70⟩ := by rw [← pes_take]; have := h.m; simp only at this; rw [this]
  have HP := Lib.hid hp3; have HH1 := Lib.hid hh1; have HH2 := Lib.hid hh2; have HB0 := Lib.hid hb0
  have HSE := Lib.hid hse; have HSR := Lib.hid hsr; have HST := Lib.hid hst; have HPER := Lib.hid hper
  clear hw0 hb0 hh1 hh2 h hp3 hlast hse hsr hst hper H0 q1 q2 q3
  go_wp2
  go_loopw [3, 4] (fun v i wr => ∃ (k : Nat) (acc : List Pw), i = .int .i64 k ∧ k ≤ l.length ∧ k ≤ 12 ∧ acc.length = k ∧ Po (w.heap.size + 1 + 1) wr v acc ∧ pes acc = (pes (l.take k)).map (fun p => ⟨p.el, p.at_.take 70⟩) ∧ (∀ z ∈ acc, Sx wr w.heap.size z) ∧ Below w0.heap.size w0 wr) (fun _ i _ => l.length - (intOf i).toNat)
  case atStart => exact ⟨0, [], rfl, Nat.zero_le _, Nat.zero_le _, rfl, ho0, rfl, (fun z hz => by cases hz), below_new12 w0 _⟩
  case round =>
    clear ho0
    obtain ⟨k, acc, rfl, hks, hk12, hal, hown, hpes, hsa, hbel⟩ := hrel
    have hhb1 := HH1.out.below hbel (by omega)
    have g5 := hhb1.cell 5 _ rfl
    have hbw : Below w.heap.size w wr := HB0.out.trans (hbel.mono (by omega))
    have hsz := hbel.size
    by_cases hk : k < l.length
    · by_cases hk2 : k < 12
      · obtain ⟨b, off, x, rfl, hb, hx, hcs, hsx, hxm⟩ := (HP.out.below hbw).at_ k hk
        obtain ⟨k0, k1⟩ := range2p hcs
        obtain ⟨m, hm⟩ : ∃ n, min x.pe.at_.length 70 = n := ⟨_, rfl⟩
        have hmin := fun ts t w => min_named x.pe.at_.length 70 m hm 70 rfl ts t w
        have hif : (if (70 : Int) < (x.pe.at_.length : Int) then (70 : Int) else (x.pe.at_.length : Int)) = (m : Int) := by split <;> omega
        have hmc : m ≤ x.c := by obtain ⟨A', c', e, hc, _, _⟩ := hsx; injection e with e1 e2 e3; omega
        have hlz : (x.pe.at_.take 70).length = m := by rw [List.length_take, Nat.min_comm]; exact hm
        obtain ⟨z, hz⟩ : ∃ z : Pw, z = ⟨⟨x.pe.el, x.pe.at_.take 70⟩, x.A, x.c⟩ := ⟨_, rfl⟩
        have hzv : perO z = .cells #[.string x.pe.el, .slice x.A m x.c] 57 := by rw [hz, ← hlz]
        have hsz1 : Sx wr w.heap.size z := by
          rw [hz]
          unfold Sx
          simp only
          rw [hlz]
          exact sv_takeC hsx 70 hm
        have hap : Ap wr (w.heap.size + 1 + 1) z := ap_cut hsx (by omega) z (by rw [hz]) (by rw [hz]; simp only; rw [hlz]; omega)
        have hpz := cut_snoc hx hpes z (by rw [hz])
        have HO := Lib.hid hown; have HZ1 := Lib.hid (hsz1.more (show w.heap.size ≤ wr.heap.size by omega)); have HAP := Lib.hid hap; have HPZ := Lib.hid hpz; have HZV := Lib.hid hzv; have HBL := Lib.hid hbel; have HAL := Lib.hid hal; have HM := Lib.hid hm; have HSA := Lib.hid hsa; have HZ0 := Lib.hid hsz1
        have hacc : acc.length ≤ 2000000 := by omega
        have hk0 : (0 : Int) ≤ (k : Int) := by omega
        have hk1 : (k : Int) < (l.length : Int) := by omega
        have hk2' : (k : Int) < 12 := by omega
        clear hcs hsx hx hxm hpes hsa hown hbel hbw hsz1 hap hpz hz hzv hhb1 hal hm hlz
        have HBK := Lib.hid (fun wx (hb : Below (w.heap.size + 1 + 1) wr wx) => (show wx.cell? ⟨w.heap.size, 5, none⟩ = some (.slice (some ⟨b, off, none⟩) l.length cp) ∧ wx.cell? ⟨b, off + k * 2, none⟩ = some (.string x.pe.el) ∧ wx.cell? ⟨b, off + k * 2 + 1, none⟩ = some (.slice x.A x.pe.at_.length x.c) from ⟨(hb.cell (p := ⟨w.heap.size, 5, none⟩) (show w.heap.size < w.heap.size + 1 + 1 by omega)).trans g5, (hb.cell (p := ⟨b, off + k * 2, none⟩) (show b < w.heap.size + 1 + 1 by omega)).trans k0, (hb.cell (p := ⟨b, off + k * 2 + 1, none⟩) (show b < w.heap.size + 1 + 1 by omega)).trans k1⟩))
        go_wp2_with fail
        refine wp_region_noPanic ?_
        refine Ph.T_begin (fun wx => wx.cell? ⟨w.heap.size, 5, none⟩ = some (.slice (some ⟨b, off, none⟩) l.length cp) ∧ wx.cell? ⟨b, off + k * 2, none⟩ = some (.string x.pe.el) ∧ wx.cell? ⟨b, off + k * 2 + 1, none⟩ = some (.slice x.A x.pe.at_.length x.c)) 25 (by kernel_rfl) ?_ (fun hHeld => ?_)
        · exact HBK.out _ (bel_eq12 (Below.refl _ wr) rfl rfl rfl rfl)
        refine Ph.T_pure (i := 0) (oi := _) (v := ?_) rfl (by kernel_rfl) (by kernel_rfl) (by kernel_rfl) (by kernel_rfl) (fun _ _ _ h => h) (Or.inl ⟨by rfl, ?_⟩) (by assumption) (fun hHeld => ?_)
        rotate_left
        · intro w hSw; (try dsimp only at hSw); go_simp; all_goals with_reducible rfl
        try simp only [Act.put, List.getElem_toArray, List.getElem_cons_zero, List.getElem_cons_succ, List.setIfInBounds_toArray, List.set_cons_zero, List.set_cons_succ]
        refine Ph.T_pure (i := 1) (oi := _) (v := ?_) rfl (by kernel_rfl) (by kernel_rfl) (by kernel_rfl) (by kernel_rfl) (fun _ _ _ h => h) (Or.inl ⟨by rfl, ?_⟩) (by assumption) (fun hHeld => ?_)
        rotate_left
        · intro w hSw; (try dsimp only at hSw); go_simp; all_goals with_reducible rfl
        try simp only [Act.put, List.getElem_toArray, List.getElem_cons_zero, List.getElem_cons_succ, List.setIfInBounds_toArray, List.set_cons_zero, List.set_cons_succ]
        refine Ph.T_take (i := 2) (oi := _) (v := ?_) rfl (by kernel_rfl) (by kernel_rfl) (by kernel_rfl) (by kernel_rfl) (fun _ _ _ h => h) (Or.inl ⟨by rfl, ?_⟩) (by assumption) (fun hHeld => ?_)
        rotate_left
        · intro w hSw; (try dsimp only at hSw); go_simp; all_goals with_reducible rfl
        try simp only [Act.put, List.getElem_toArray, List.getElem_cons_zero, List.getElem_cons_succ, List.setIfInBounds_toArray, List.set_cons_zero, List.set_cons_succ]
        refine Ph.T_pure (i := 3) (oi := _) (v := ?_) rfl (by kernel_rfl) (by kernel_rfl) (by kernel_rfl) (by kernel_rfl) (fun _ _ _ h => h) (Or.inl ⟨by rfl, ?_⟩) (by assumption) (fun hHeld => ?_)
        rotate_left
        · intro w hSw; (try dsimp only at hSw); go_simp; all_goals with_reducible rfl
        try simp only [Act.put, List.getElem_toArray, List.getElem_cons_zero, List.getElem_cons_succ, List.setIfInBounds_toArray, List.set_cons_zero, List.set_cons_succ]
        refine Ph.T_pure (i := 4) (oi := _) (v := ?_) rfl (by kernel_rfl) (by kernel_rfl) (by kernel_rfl) (by kernel_rfl) (fun _ _ _ h => h) (Or.inl ⟨by rfl, ?_⟩) (by assumption) (fun hHeld => ?_)
        rotate_left
        · intro w hSw; (try dsimp only at hSw); go_simp; all_goals with_reducible rfl
        try simp only [Act.put, List.getElem_toArray, List.getElem_cons_zero, List.getElem_cons_succ, List.setIfInBounds_toArray, List.set_cons_zero, List.set_cons_succ]
        refine Ph.T_pure (i := 5) (oi := _) (v := ?_) rfl (by kernel_rfl) (by kernel_rfl) (by kernel_rfl) (by kernel_rfl) (fun _ _ _ h => h) (Or.inl ⟨by rfl, ?_⟩) (by assumption) (fun hHeld => ?_)
        rotate_left
        · intro w hSw; (try dsimp only at hSw); go_simp; all_goals with_reducible rfl
        try simp only [Act.put, List.getElem_toArray, List.getElem_cons_zero, List.getElem_cons_succ, List.setIfInBounds_toArray, List.set_cons_zero, List.set_cons_succ]
        refine Ph.T_take (i := 6) (oi := _) (v := ?_) rfl (by kernel_rfl) (by kernel_rfl) (by kernel_rfl) (by kernel_rfl) (fun _ _ _ h => h) (Or.inl ⟨by rfl, ?_⟩) (by assumption) (fun hHeld => ?_)
        rotate_left
        · intro w hSw; (try dsimp only at hSw); go_simp; all_goals with_reducible rfl
        try simp only [Act.put, List.getElem_toArray, List.getElem_cons_zero, List.getElem_cons_succ, List.setIfInBounds_toArray, List.set_cons_zero, List.set_cons_succ]
        refine Ph.T_pure (i := 7) (oi := _) (v := ?_) rfl (by kernel_rfl) (by kernel_rfl) (by kernel_rfl) (by kernel_rfl) (fun _ _ _ h => h) (Or.inl ⟨by rfl, ?_⟩) (by assumption) (fun hHeld => ?_)
        rotate_left
        · intro w hSw; (try dsimp only at hSw); go_simp; all_goals with_reducible rfl
        try simp only [Act.put, List.getElem_toArray, List.getElem_cons_zero, List.getElem_cons_succ, List.setIfInBounds_toArray, List.set_cons_zero, List.set_cons_succ]
        refine Ph.T_take (i := 8) (oi := _) (v := ?_) rfl (by kernel_rfl) (by kernel_rfl) (by kernel_rfl) (by kernel_rfl) (fun _ _ _ h => h) (Or.inl ⟨by rfl, ?_⟩) (by assumption) (fun hHeld => ?_)
        rotate_left
        · intro w hSw; (try dsimp only at hSw); go_simp; all_goals with_reducible rfl
        try simp only [Act.put, List.getElem_toArray, List.getElem_cons_zero, List.getElem_cons_succ, List.setIfInBounds_toArray, List.set_cons_zero, List.set_cons_succ]
        refine Ph.T_pure (i := 9) (oi := _) (v := ?_) rfl (by kernel_rfl) (by kernel_rfl) (by kernel_rfl) (by kernel_rfl) (fun _ _ _ h => h) (Or.inl ⟨by rfl, ?_⟩) (by assumption) (fun hHeld => ?_)
        rotate_left
        · intro w hSw; (try dsimp only at hSw); go_simp; all_goals with_reducible rfl
        try simp only [Act.put, List.getElem_toArray, List.getElem_cons_zero, List.getElem_cons_succ, List.setIfInBounds_toArray, List.set_cons_zero, List.set_cons_succ]
        refine Ph.T_pure (i := 10) (oi := _) (v := ?_) rfl (by kernel_rfl) (by kernel_rfl) (by kernel_rfl) (by kernel_rfl) (fun _ _ _ h => h) (Or.inl ⟨by rfl, ?_⟩) (by assumption) (fun hHeld => ?_)
        rotate_left
        · intro w hSw; (try dsimp only at hSw); go_simp; all_goals with_reducible rfl
        try simp only [Act.put, List.getElem_toArray, List.getElem_cons_zero, List.getElem_cons_succ, List.setIfInBounds_toArray, List.set_cons_zero, List.set_cons_succ]
        refine Ph.T_pure (i := 11) (oi := _) (v := ?_) rfl (by kernel_rfl) (by kernel_rfl) (by kernel_rfl) (by kernel_rfl) (fun _ _ _ h => h) (Or.inl ⟨by rfl, ?_⟩) (by assumption) (fun hHeld => ?_)
        rotate_left
        · intro w hSw; (try dsimp only at hSw); go_simp; all_goals with_reducible rfl
        try simp only [Act.put, List.getElem_toArray, List.getElem_cons_zero, List.getElem_cons_succ, List.setIfInBounds_toArray, List.set_cons_zero, List.set_cons_succ]
        refine Ph.T_take (i := 12) (oi := _) (v := ?_) rfl (by kernel_rfl) (by kernel_rfl) (by kernel_rfl) (by kernel_rfl) (fun _ _ _ h => h) (Or.inl ⟨by rfl, ?_⟩) (by assumption) (fun hHeld => ?_)
        rotate_left
        · intro w hSw; (try dsimp only at hSw); go_simp; all_goals with_reducible rfl
        try simp only [Act.put, List.getElem_toArray, List.getElem_cons_zero, List.getElem_cons_succ, List.setIfInBounds_toArray, List.set_cons_zero, List.set_cons_succ]
        refine Ph.T_pure (i := 13) (oi := _) (v := ?_) rfl (by kernel_rfl) (by kernel_rfl) (by kernel_rfl) (by kernel_rfl) (fun _ _ _ h => h) (Or.inl ⟨by rfl, ?_⟩) (by assumption) (fun hHeld => ?_)
        rotate_left
        · intro w hSw; (try dsimp only at hSw); go_simp; all_goals with_reducible rfl
        try simp only [Act.put, List.getElem_toArray, List.getElem_cons_zero, List.getElem_cons_succ, List.setIfInBounds_toArray, List.set_cons_zero, List.set_cons_succ]
        refine Ph.T_take (i := 14) (oi := _) (v := ?_) rfl (by kernel_rfl) (by kernel_rfl) (by kernel_rfl) (by kernel_rfl) (fun _ _ _ h => h) (Or.inl ⟨by rfl, ?_⟩) (by assumption) (fun hHeld => ?_)
        rotate_left
        · intro w hSw; (try dsimp only at hSw); go_simp; all_goals with_reducible rfl
        try simp only [Act.put, List.getElem_toArray, List.getElem_cons_zero, List.getElem_cons_succ, List.setIfInBounds_toArray, List.set_cons_zero, List.set_cons_succ]
        refine Ph.T_pure (i := 15) (oi := _) (v := ?_) rfl (by kernel_rfl) (by kernel_rfl) (by kernel_rfl) (by kernel_rfl) (fun _ _ _ h => h) (Or.inl ⟨by rfl, ?_⟩) (by assumption) (fun hHeld => ?_)
        rotate_left
        · intro w hSw; (try dsimp only at hSw); go_simp; all_goals with_reducible rfl
        try simp only [Act.put, List.getElem_toArray, List.getElem_cons_zero, List.getElem_cons_succ, List.setIfInBounds_toArray, List.set_cons_zero, List.set_cons_succ]
        refine Ph.T_pure (i := 16) (oi := _) (v := ?_) rfl (by kernel_rfl) (by kernel_rfl) (by kernel_rfl) (by kernel_rfl) (fun _ _ _ h => h) (Or.inl ⟨by rfl, ?_⟩) (by assumption) (fun hHeld => ?_)
        rotate_left
        · intro w hSw; (try dsimp only at hSw); go_simp; all_goals with_reducible rfl
        try simp only [Act.put, List.getElem_toArray, List.getElem_cons_zero, List.getElem_cons_succ, List.setIfInBounds_toArray, List.set_cons_zero, List.set_cons_succ]
        refine Ph.T_pure (i := 17) (oi := _) (v := ?_) rfl (by kernel_rfl) (by kernel_rfl) (by kernel_rfl) (by kernel_rfl) (fun _ _ _ h => h) (Or.inl ⟨by rfl, ?_⟩) (by assumption) (fun hHeld => ?_)
        rotate_left
        · intro w hSw; (try dsimp only at hSw); go_simp; all_goals with_reducible rfl
        try simp only [Act.put, List.getElem_toArray, List.getElem_cons_zero, List.getElem_cons_succ, List.setIfInBounds_toArray, List.set_cons_zero, List.set_cons_succ]
        refine Ph.T_take (i := 18) (oi := _) (v := ?_) rfl (by kernel_rfl) (by kernel_rfl) (by kernel_rfl) (by kernel_rfl) (fun _ _ _ h => h) (Or.inl ⟨by rfl, ?_⟩) (by assumption) (fun hHeld => ?_)
        rotate_left
        · intro w hSw; (try dsimp only at hSw); go_simp; all_goals with_reducible rfl
        try simp only [Act.put, List.getElem_toArray, List.getElem_cons_zero, List.getElem_cons_succ, List.setIfInBounds_toArray, List.set_cons_zero, List.set_cons_succ]
        refine Ph.T_pure (i := 19) (oi := _) (v := ?_) rfl (by kernel_rfl) (by kernel_rfl) (by kernel_rfl) (by kernel_rfl) (fun _ _ _ h => h) (Or.inl ⟨by rfl, ?_⟩) (by assumption) (fun hHeld => ?_)
        rotate_left
        · intro w hSw; (try dsimp only at hSw); go_simp; all_goals with_reducible rfl
        try simp only [Act.put, List.getElem_toArray, List.getElem_cons_zero, List.getElem_cons_succ, List.setIfInBounds_toArray, List.set_cons_zero, List.set_cons_succ]
        refine Ph.T_one (i := 20) (o := _) (by kernel_rfl) rfl (fun K hK => ?_)
        refine step_min _ (by rfl) (.tmp 60) (by rfl) _ m HM.out (by simp [Act.eval, Act.put]) ?_
        refine hK.out _ _ ?_ (fun hHeld => ?_)
        · exact HBK.out _ (bel_eq12 (Below.refl _ wr) rfl rfl rfl rfl)
        clear hK K
        try simp only [Act.put, List.getElem_toArray, List.getElem_cons_zero, List.getElem_cons_succ, List.setIfInBounds_toArray, List.set_cons_zero, List.set_cons_succ]
        refine Ph.T_pure (i := 21) (oi := _) (v := ?_) rfl (by kernel_rfl) (by kernel_rfl) (by kernel_rfl) (by kernel_rfl) (fun _ _ _ h => h) (Or.inl ⟨by rfl, ?_⟩) (by assumption) (fun hHeld => ?_)
        rotate_left
        · intro w hSw; (try dsimp only at hSw); go_simp; all_goals with_reducible rfl
        try simp only [Act.put, List.getElem_toArray, List.getElem_cons_zero, List.getElem_cons_succ, List.setIfInBounds_toArray, List.set_cons_zero, List.set_cons_succ]
        refine Ph.T_pure (i := 22) (oi := _) (v := ?_) rfl (by kernel_rfl) (by kernel_rfl) (by kernel_rfl) (by kernel_rfl) (fun _ _ _ h => h) (Or.inl ⟨by rfl, ?_⟩) (by assumption) (fun hHeld => ?_)
        rotate_left
        · intro w hSw; (try dsimp only at hSw); go_simp; all_goals with_reducible rfl
        try simp only [Act.put, List.getElem_toArray, List.getElem_cons_zero, List.getElem_cons_succ, List.setIfInBounds_toArray, List.set_cons_zero, List.set_cons_succ]
        refine Ph.T_one (i := 23) (o := _) (by kernel_rfl) rfl (fun K hK => ?_)
        go_simp
        go_wp2_with fail
        refine hK.out _ _ ?_ (fun hHeld => ?_)
        · exact HBK.out _ (bel_eq12 ((Below.refl (w.heap.size + 1 + 1) wr).alloc (by omega) _) rfl rfl rfl rfl)
        clear hK K
        try simp only [Act.put, List.getElem_toArray, List.getElem_cons_zero, List.getElem_cons_succ, List.setIfInBounds_toArray, List.set_cons_zero, List.set_cons_succ]
        refine Ph.T_one (i := 24) (o := _) (by kernel_rfl) rfl (fun K hK => ?_)
        refine step_app_per _ (by rfl) (.tmp 41) (.tmp 64) (by rfl) wr (w.heap.size + 1 + 1) _ acc z HO.out HZ1.out HAP.out ((grown_drew wr 1 _).trans (World.grownBy_alloc _ _ _)) (by omega) hacc (by simp [Act.eval, Act.put]) wr.heap.size (by simp [Act.eval, Act.put]) (by rw [HZV.out]; exact heap_alloc_new _ _) ?_
        intro v9 w9 ho9 hg9
        have HO9 := Lib.hid ho9
        have hb9 : Below (w.heap.size + 1 + 1) wr w9 := (Below.refl _ wr).grown hg9 (by omega) (fun q hq => (World.ownsRow.lt HO.out.1 q hq).1)
        have HB9 := Lib.hid hb9
        clear hb9 hg9 ho9
        refine hK.out _ _ ?_ (fun hHeld => ?_)
        · exact HBK.out _ HB9.out
        clear hK K
        try simp only [Act.put, List.getElem_toArray, List.getElem_cons_zero, List.getElem_cons_succ, List.setIfInBounds_toArray, List.set_cons_zero, List.set_cons_succ]
        refine Ph.T_free (i := 25) (oi := _) (v := ?_) (by kernel_rfl) (by kernel_rfl) rfl (Or.inl ⟨by rfl, ?_⟩) ?_
        rotate_left
        · intro w; go_simp; all_goals with_reducible rfl
        try simp only [Act.put, List.getElem_toArray, List.getElem_cons_zero, List.getElem_cons_succ, List.setIfInBounds_toArray, List.set_cons_zero, List.set_cons_succ]
        refine Ph.T_done (by kernel_rfl) ?_ _
        refine NoPanic.normal ?_
        go_wp2
        go_roundw
        case rel => exact ⟨k + 1, acc ++ [z], by go_num, by omega, by omega, by rw [List.length_append, HAL.out]; rfl, HO9.out, HPZ.out, sx_snoc HSA.out HZ0.out (HB9.out.mono (by omega)), HBL.out.trans (HB9.out.mono (by omega))⟩
        case measure => simp [intOf]; omega
      · have hfin : pes acc = (per.take 12).map (fun p => (⟨p.el, p.at_.take 70⟩ : Pe)) := by
          obtain rfl : k = 12 := by omega
          rw [HPER.out, hpes]
        have HFIN := Lib.hid hfin; have HOW := Lib.hid hown; have HSA := Lib.hid hsa; have HBL := Lib.hid hbel
        obtain ⟨B, nB, cB, rfl⟩ := po_shape hown
        have hx5 := HH1.out.below hbel (by omega); have hz5 := HH2.out.below hbel (by omega)
        have HX5 := Lib.hid hx5; have HZ5 := Lib.hid hz5; have HBW := Lib.hid hbw
        have hxf := hx5.f 5
        clear hfin hown hsa hbel hpes hx5 hz5 hbw hhb1
        go_upto_region 10 with (fail)
        obtain ⟨W9, hW9⟩ : ∃ W9, wr.setCell ⟨w.heap.size, 5, none⟩ (.slice B nB cB) = W9 := ⟨_, rfl⟩
        have hg9 : wr.grownBy W9 (some w.heap.size) := hW9 ▸ gcell12 wr _ 5 _
        have hx9 : Hb W9 w.heap.size #[.bool al, .bool aa, .slice E m1 ce, .slice R m2 cr, .slice T m3 ct, .slice B nB cB, .bool cm, .bool da] := hW9 ▸ HX5.out.set 5 (.slice B nB cB)
        have hz9 : Hb W9 (w.heap.size + 1) #[.bool false, .bool false, .slice none 0 0, .slice none 0 0, .slice none 0 0, .slice none 0 0, .bool false, .bool false] := HZ5.out.keep (hg9.block _ HZ5.out.lt (by simp))
        rw [hW9]
        have HRG9 := Lib.hid hx9.range; have HTH := Lib.hid (hz9.there 8 rfl)
        clear hW9
        go_wp2_with (first
          | (show wpList _ _ _ (⟨_, Op.load 26 (.tmp 1), _, _, _, _⟩ :: _) _ _; refine wpList_load_mid rfl 26 (.tmp 1) rfl w.heap.size 0 rfl _ _ HRG9.out Tryz.underlying26 rfl size_conf ?_)
          | (show wpList _ _ _ (⟨none, Op.store 26 (.tmp 2) (.tmp 68), _, _, _, _⟩ :: _) _ _; refine wpList_store_mid rfl 26 (.tmp 2) (.tmp 68) rfl (w.heap.size + 1) 0 #[.bool al, .bool aa, .slice E m1 ce, .slice R m2 cr, .slice T m3 ct, .slice B nB cB, .bool cm, .bool da] rfl rfl HTH.out size_conf (by simp [Value.oneCell']) ?_))
        obtain ⟨W, hW, hgW, hbW⟩ := res_box (c := ⟨al, aa, els, reps, ats, per, cm, da⟩) (vE := .slice E m1 ce) (vR := .slice R m2 cr) (vA := .slice T m3 ct) (vP := .slice B nB cB) hz9 rfl
        obtain ⟨z0, z1, z2, z3, z4, z5, z6, z7⟩ := hbW.at_
        rw [← hW]
        have hsz9 := hg9.size
        have hwW : Below w.heap.size wr W := (((Below.refl w.heap.size wr).grown hg9 (by omega) (fun q hq => by injection hq with hq; omega)).grown hgW (by omega) (fun q hq => by injection hq with hq; omega))
        have hbelW : Below w.heap.size w W := HBW.out.trans (hwW.mono (by omega))
        have hpW : Pv W W.heap.size (.slice B nB cB) acc := po_kept HOW.out (fun z hz => ((HSA.out z hz).below hwW).more hbelW.size) (fun b hb hb2 => (hgW.block b (by omega) (by simp; omega)).trans (hg9.block b hb2 (by simp; omega))) hwW.size
        have hcW : Cp W W.heap.size (boundC ⟨al, aa, els, reps, ats, per, cm, da⟩) (.slice E m1 ce) (.slice R m2 cr) (.slice T m3 ct) (.slice B nB cB) acc := ⟨(Sv.below HSE.out hbelW (Nat.le_refl _)).more hbelW.size, (Sv.below HSR.out hbelW (Nat.le_refl _)).more hbelW.size, (Sv.below HST.out hbelW (Nat.le_refl _)).more hbelW.size, hpW, HFIN.out⟩
        clear hx9 hz9 HRG9 HTH hgW hW hg9 HX5 HZ5 HOW HSA HFIN hwW hpW
        go_wp2
        exact bodyPost_ret (v := .agg #[.bool al, .bool aa, .slice E m1 ce, .slice R m2 cr, .slice T m3 ct, .slice B nB cB, .bool cm, .bool da]) (by simp [results, Tryz.f11, go_sem, z0, z1, z2, z3, z4, z5, z6, z7]) rfl ⟨_, rfl, ⟨_, _, _, _, _, rfl, hcW⟩, hbelW⟩
    · have hfin : pes acc = (per.take 12).map (fun p => (⟨p.el, p.at_.take 70⟩ : Pe)) := by
        rw [HPER.out, hpes, List.take_of_length_le (show l.length ≤ k by omega), List.take_of_length_le (show l.length ≤ 12 by omega)]
      have HFIN := Lib.hid hfin; have HOW := Lib.hid hown; have HSA := Lib.hid hsa; have HBL := Lib.hid hbel
      obtain ⟨B, nB, cB, rfl⟩ := po_shape hown
      have hx5 := HH1.out.below hbel (by omega); have hz5 := HH2.out.below hbel (by omega)
      have HX5 := Lib.hid hx5; have HZ5 := Lib.hid hz5; have HBW := Lib.hid hbw
      have hxf := hx5.f 5
      clear hfin hown hsa hbel hpes hx5 hz5 hbw hhb1
      go_upto_region 10 with (fail)
      obtain ⟨W9, hW9⟩ : ∃ W9, wr.setCell ⟨w.heap.size, 5, none⟩ (.slice B nB cB) = W9 := ⟨_, rfl⟩
      have hg9 : wr.grownBy W9 (some w.heap.size) := hW9 ▸ gcell12 wr _ 5 _
      have hx9 : Hb W9 w.heap.size #[.bool al, .bool aa, .slice E m1 ce, .slice R m2 cr, .slice T m3 ct, .slice B nB cB, .bool cm, .bool da] := hW9 ▸ HX5.out.set 5 (.slice B nB cB)
      have hz9 : Hb W9 (w.heap.size + 1) #[.bool false, .bool false, .slice none 0 0, .slice none 0 0, .slice none 0 0, .slice none 0 0, .bool false, .bool false] := HZ5.out.keep (hg9.block _ HZ5.out.lt (by simp))
      rw [hW9]
      have HRG9 := Lib.hid hx9.range; have HTH := Lib.hid (hz9.there 8 rfl)
      clear hW9
      go_wp2_with (first
        | (show wpList _ _ _ (⟨_, Op.load 26 (.tmp 1), _, _, _, _⟩ :: _) _ _; refine wpList_load_mid rfl 26 (.tmp 1) rfl w.heap.size 0 rfl _ _ HRG9.out Tryz.underlying26 rfl size_conf ?_)
        | (show wpList _ _ _ (⟨none, Op.store 26 (.tmp 2) (.tmp 68), _, _, _, _⟩ :: _) _ _; refine wpList_store_mid rfl 26 (.tmp 2) (.tmp 68) rfl (w.heap.size + 1) 0 #[.bool al, .bool aa, .slice E m1 ce, .slice R m2 cr, .slice T m3 ct, .slice B nB cB, .bool cm, .bool da] rfl rfl HTH.out size_conf (by simp [Value.oneCell']) ?_))
      obtain ⟨W, hW, hgW, hbW⟩ := res_box (c := ⟨al, aa, els, reps, ats, per, cm, da⟩) (vE := .slice E m1 ce) (vR := .slice R m2 cr) (vA := .slice T m3 ct) (vP := .slice B nB cB) hz9 rfl
      obtain ⟨z0, z1, z2, z3, z4, z5, z6, z7⟩ := hbW.at_
      rw [← hW]
      have hsz9 := hg9.size
      have hwW : Below w.heap.size wr W := (((Below.refl w.heap.size wr).grown hg9 (by omega) (fun q hq => by injection hq with hq; omega)).grown hgW (by omega) (fun q hq => by injection hq with hq; omega))
      have hbelW : Below w.heap.size w W := HBW.out.trans (hwW.mono (by omega))
      have hpW : Pv W W.heap.size (.slice B nB cB) acc := po_kept HOW.out (fun z hz => ((HSA.out z hz).below hwW).more hbelW.size) (fun b hb hb2 => (hgW.block b (by omega) (by simp; omega)).trans (hg9.block b hb2 (by simp; omega))) hwW.size
      have hcW : Cp W W.heap.size (boundC ⟨al, aa, els, reps, ats, per, cm, da⟩) (.slice E m1 ce) (.slice R m2 cr) (.slice T m3 ct) (.slice B nB cB) acc := ⟨(Sv.below HSE.out hbelW (Nat.le_refl _)).more hbelW.size, (Sv.below HSR.out hbelW (Nat.le_refl _)).more hbelW.size, (Sv.below HST.out hbelW (Nat.le_refl _)).more hbelW.size, hpW, HFIN.out⟩
      clear hx9 hz9 HRG9 HTH hgW hW hg9 HX5 HZ5 HOW HSA HFIN hwW hpW
      go_wp2
      exact bodyPost_ret (v := .agg #[.bool al, .bool aa, .slice E m1 ce, .slice R m2 cr, .slice T m3 ct, .slice B nB cB, .bool cm, .bool da]) (by simp [results, Tryz.f11, go_sem, z0, z1, z2, z3, z4, z5, z6, z7]) rfl ⟨_, rfl, ⟨_, _, _, _, _, rfl, hcW⟩, hbelW⟩

end Go.Proofs.YtgjlfcamgkeibaaGreatDoor.Co

namespace Go.Proofs.YtgjlfcamgkeibaaGreatDoor.Co
set_option linter.unusedVariables false
set_option linter.unusedSimpArgs false
open Go.RowKit Ba Fm Fo Nm Rk
def noStr (cs : Array Value) : Prop := ∀ (i : Nat) (s : ByteArray), cs[i]? ≠ some (Value.string s)
theorem noStr8 (a b m d : Bool) (A1 A2 A3 A4 : Option Addr) (n1 n2 n3 n4 c1 c2 c3 c4 : Nat) : noStr #[.bool a, .bool b, .slice A1 n1 c1, .slice A2 n2 c2, .slice A3 n3 c3, .slice A4 n4 c4, .bool m, .bool d] := fun i s => by
  match i with
  | 0 | 1 | 2 | 3 | 4 | 5 | 6 | 7 => simp
  | i + 8 => simp
theorem sv_shape {w : World} {N : Nat} {v : Value} {l : List ByteArray} (h : Sv w N v l) : ∃ A n c, v = .slice A n c := by
  obtain ⟨A, c, e, _⟩ := h
  exact ⟨A, _, c, e⟩
theorem pv_shape {w : World} {N : Nat} {v : Value} {l : List Pw} (h : Pv w N v l) : ∃ A n c, v = .slice A n c := by
  obtain ⟨A, c, e, _⟩ := h
  exact ⟨A, _, c, e⟩
theorem sv_boxed {w w' : World} {b N : Nat} {cs : Array Value} {v : Value} {l : List ByteArray} (h : Sv w N v l) (hb : Hb w b cs) (hn : noStr cs) (hg : w.grownBy w' (some b)) (hN : N ≤ w.heap.size) : Sv w' N v l := by
  obtain ⟨A, c, e, h1, h2, h3⟩ := h
  refine ⟨A, c, e, h1, h2, fun h0 => ?_⟩
  obtain ⟨b', off, eA, hb', hc⟩ := h3 h0
  have hne : b' ≠ b := by
    rintro rfl
    have := hc 0 h0
    rw [cell_of_row w b' (off + 0) _ _ _ hb] at this
    exact hn _ _ this
  exact ⟨b', off, eA, hb', fun j hj => (World.cell?_of_block (a := ⟨b', off + j, none⟩) (hg.block b' (by omega) (by simpa using hne))).trans (hc j hj)⟩
theorem pv_boxed {w w' : World} {b N : Nat} {cs : Array Value} {v : Value} {l : List Pw} (h : Pv w N v l) (hb : Hb w b cs) (hn : noStr cs) (hg : w.grownBy w' (some b)) (hN : N ≤ w.heap.size) : Pv w' N v l := by
  obtain ⟨A, c, e, h1, h2, h3, h4⟩ := h
  refine ⟨A, c, e, h1, h2, fun h0 => ?_, fun x hx => sv_boxed (h4 x hx) hb hn hg hN⟩
  obtain ⟨b', off, eA, hb', hc⟩ := h3 h0
  have hne : b' ≠ b := by
    rintro rfl
    have := hc 0 h0 0 (.string l[0].pe.el) rfl
    rw [cell_of_row w b' _ _ _ _ hb] at this
    exact hn _ _ this
  exact ⟨b', off, eA, hb', fun j hj => range_keep12 (hc j hj) fun o => World.cell?_of_block (a := ⟨b', o, none⟩) (hg.block b' (by omega) (by simpa using hne))⟩
theorem cp_boxed {w w' : World} {b : Nat} {cs : Array Value} {c : Cf} {vE vR vA vP : Value} {l : List Pw} (h : Cp w w.heap.size c vE vR vA vP l) (hb : Hb w b cs) (hn : noStr cs) (hg : w.grownBy w' (some b)) : Cp w' w'.heap.size c vE vR vA vP l :=
  (⟨sv_boxed h.e hb hn hg (Nat.le_refl _), sv_boxed h.r hb hn hg (Nat.le_refl _), sv_boxed h.a hb hn hg (Nat.le_refl _), pv_boxed h.p hb hn hg (Nat.le_refl _), h.m⟩ : Cp w' w.heap.size c vE vR vA vP l).more hg.size
theorem res_hb {w : World} {g : Nat} {cs : Array Value} (h : Hb w g cs) (hc : cs.size = 8) (v0 v1 v2 v3 v4 v5 v6 v7 : Value) :
    ∃ W, W = w.setCells g 0 [v0, v1, v2, v3, v4, v5, v6, v7] ∧ w.grownBy W (some g) ∧ Hb W g #[v0, v1, v2, v3, v4, v5, v6, v7] := by
  refine ⟨_, rfl, gcells12 g _ 0 w, ?_⟩
  match cs, hc with
  | ⟨[x0, x1, x2, x3, x4, x5, x6, x7]⟩, _ =>
    exact (((((((h.set 0 v0 (by simp)).set 1 v1 (by simp)).set 2 v2 (by simp)).set 3 v3 (by simp)).set 4 v4 (by simp)).set 5 v5 (by simp)).set 6 v6 (by simp)).set 7 v7 (by simp)
theorem mem_bound {c : Cf} {p : Pe} (h : p ∈ (boundC c).per) : ∃ q ∈ c.per, p.el = q.el ∧ p.at_ = q.at_.take 70 := by
  obtain ⟨q, hq, rfl⟩ := List.mem_map.1 (show p ∈ (c.per.take 12).map fun p => (⟨p.el, p.at_.take 70⟩ : Pe) from h)
  exact ⟨q, List.mem_of_mem_take hq, rfl, rfl⟩
theorem sm_bound {c : Cf} (h : St c) : Sm (boundC c) := by
  refine ⟨?_, ?_, ?_, ?_, fun p hp => ?_, fun s hs => h.es s (List.mem_of_mem_take hs), fun s hs => h.rs s (List.mem_of_mem_take hs), fun s hs => h.as_ s (List.mem_of_mem_take hs), fun p hp => ?_⟩
  · show (c.els.take 70).length ≤ 1000; rw [List.length_take]; omega
  · show (c.reps.take 70).length ≤ 1000; rw [List.length_take]; omega
  · show (c.ats.take 70).length ≤ 1000; rw [List.length_take]; omega
  · show ((c.per.take 12).map _).length ≤ 1000; rw [List.length_map, List.length_take]; omega
  · obtain ⟨q, hq, h1, h2⟩ := mem_bound hp
    rw [h2, List.length_take]; omega
  · obtain ⟨q, hq, h1, h2⟩ := mem_bound hp
    rw [h1, h2]
    exact ⟨(h.ps q hq).1, fun s hs => (h.ps q hq).2 s (List.mem_of_mem_take hs)⟩
end Go.Proofs.YtgjlfcamgkeibaaGreatDoor.Co

namespace Go.Proofs.YtgjlfcamgkeibaaGreatDoor.Cn
set_option linter.unusedVariables false
set_option linter.unusedSimpArgs false
open Go.RowKit Ba Ro
open Co (Hb noStr)
theorem ra_boxed {w w' : World} {b N : Nat} {cs : Array Value} {A : Option Addr} {l : List At} (h : Ra w N A l) (hb : Hb w b cs) (hn : noStr cs) (hg : w.grownBy w' (some b)) (hN : N ≤ w.heap.size) : Ra w' N A l := fun h0 => by
  obtain ⟨b', off, e, hb', hc⟩ := h h0
  have hne : b' ≠ b := by
    rintro rfl
    have := hc 0 h0 0 (.string l[0].name) rfl
    rw [cell_of_row w b' _ _ _ _ hb] at this
    exact hn _ _ this
  exact ⟨b', off, e, hb', fun j hj => range_keep (hc j hj) fun o => World.cell?_of_block (a := ⟨b', o, none⟩) (hg.block b' (by omega) (by simpa using hne))⟩
theorem rv_boxed {w w' : World} {b : Nat} {cs : Array Value} {v : Value} {l : List Cw} (h : Rv w v l) (hb : Hb w b cs) (hn : noStr cs) (hg : w.grownBy w' (some b)) : Rv w' v l := by
  obtain ⟨A, c, e, h1, h2, h3, h4⟩ := h
  refine ⟨A, c, e, h1, h2, (show Rr w' w.heap.size A l from ⟨fun h0 => ?_, fun x hx => ?_⟩).more hg.size, h4⟩
  · obtain ⟨b', off, eA, hb', hc⟩ := h3.1 h0
    have hne : b' ≠ b := by
      rintro rfl
      have := hc 0 h0 2 (.string l[0].ro.name) rfl
      rw [cell_of_row w b' _ _ _ _ hb] at this
      exact hn _ _ this
    exact ⟨b', off, eA, hb', fun j hj => range_keep (hc j hj) fun o => World.cell?_of_block (a := ⟨b', o, none⟩) (hg.block b' (by omega) (by simpa using hne))⟩
  · obtain ⟨a1, a2, a3, a4, a5⟩ := h3.2 x hx
    exact ⟨a1, a2, a3, ra_boxed a4 hb hn hg (Nat.le_refl _), a5⟩
theorem rv_shape {w : World} {v : Value} {l : List Cw} (h : Rv w v l) : ∃ A c, v = .slice A l.length c := by
  obtain ⟨A, c, e, _⟩ := h
  exact ⟨A, c, e⟩

end Go.Proofs.YtgjlfcamgkeibaaGreatDoor.Cn

namespace Go.Proofs.YtgjlfcamgkeibaaGreatDoor.Se
set_option maxRecDepth 100000
set_option linter.unusedVariables false
set_option linter.unusedSimpArgs false
open Go.RowKit Ba Ro
open Re (Tab)
open Co (Cf Cv Sm confV confO bel_eq12 Hb noStr noStr8 allC)
open Cn (errI outL rv_boxed rv_shape)
open Wr (insideB)
theorem text_err {c : Cf} {s : Bool} {t q : List UInt8} {E : Int} (h : textM c s t = (q, E)) (hE : E ≠ 0) : q = [] := by
  unfold textM at h
  cases hp : par t with
  | none =>
    rw [hp] at h
    exact (congrArg Prod.fst h).symm
  | some o =>
    rw [hp] at h
    have h1 : insideB (loopM c s 8 0 o).1 (-1) = q := congrArg Prod.fst h
    have h2 : (loopM c s 8 0 o).2.2 = E := congrArg Prod.snd h
    by_cases he : errI c o = 0
    · obtain ⟨T, m, hG, _⟩ := loop_ok c s 7 0 o he
      rw [hG] at h2
      exact absurd h2.symm hE
    · rw [loop_err he] at h1
      rw [← h1]
      exact ins_nil
theorem text_ok {c : Cf} {t q : List UInt8} (h : textM c true t = (q, 0)) : ∃ T, q = insideB T (-1) ∧ par q = some T ∧ Fit T ∧ Rk.safeB T = true ∧ textM c true q = (q, 0) := by
  unfold textM at h
  cases hp : par t with
  | none =>
    rw [hp] at h
    have h2 : (2 : Int) = 0 := congrArg Prod.snd h
    exact absurd h2 (by decide)
  | some o =>
    rw [hp] at h
    have h1 : insideB (loopM c true 8 0 o).1 (-1) = q := congrArg Prod.fst h
    have h2 : (loopM c true 8 0 o).2.2 = 0 := congrArg Prod.snd h
    by_cases he : errI c o = 0
    · obtain ⟨T, m, hG, _, _, h3, h4, h5, h6⟩ := loop_again (c := c) (s := true) (k := 7) (n := 0) he
      have hf := loop_fit c true 8 0 o (par_fit hp)
      rw [hG] at h1 hf
      have h1 : insideB T (-1) = q := h1
      rw [h1] at h5
      refine ⟨T, h1.symm, h5, hf, out_safe h4, ?_⟩
      unfold textM
      rw [h5]
      show (insideB (loopM c true 8 0 T).1 (-1), (loopM c true 8 0 T).2.2) = _
      rw [h6 7 0]
      show (insideB T (-1), (0 : Int)) = _
      rw [h1]
    · rw [loop_err he] at h2
      exact absurd h2 he
set_option maxRecDepth 100000 in
set_option maxHeartbeats 2000000 in
theorem law14_parsed (s : ByteArray) (v : Value) (c : Cf) (w : World) (hs : s.size ≤ 140737488351232) (h : Cv w w.heap.size v c) (hst : Co.St c) (hT : Tab w) :
    Calls Tryz.prog 6 #[.string s, v] w fun r w' => r = .returned (.bool true) ∧ Below w.heap.size w w' := by
  obtain ⟨k1', hkm⟩ : ∃ k, k = min s.size 300 := ⟨_, rfl⟩
  have hk1 : k1' ≤ s.size := by omega
  have hk2 : k1' ≤ 300 := by omega
  have hmin := fun w => min_any s.size 300 300 rfl k1' hkm w
  obtain ⟨u, hu⟩ : ∃ u, s.extract 0 k1' = u := ⟨_, rfl⟩
  have hus : u.size ≤ 300 := by
    rw [← hu, ← size_L, L_extract, List.length_take]
    omega
  have HU := Lib.hid hu; have HUS := Lib.hid hus
  clear hu hus hkm
  have HT := Lib.hid hT
  clear hT
  obtain ⟨d, hd⟩ : ∃ d, Co.boundC c = d := ⟨_, rfl⟩
  have hsm := Co.sm_bound hst
  rw [hd] at hsm
  obtain ⟨uE, uR, uA, uP, lu, rfl, h⟩ := h
  obtain ⟨E0, e0, k0, rfl⟩ := Co.sv_shape h.e
  obtain ⟨R0, r0, k1, rfl⟩ := Co.sv_shape h.r
  obtain ⟨T0, t0, k2, rfl⟩ := Co.sv_shape h.a
  obtain ⟨P0, p0, k3, rfl⟩ := Co.pv_shape h.p
  obtain ⟨W0, hW0⟩ : ∃ W0, w.alloc (confO c (.slice E0 e0 k0) (.slice R0 r0 k1) (.slice T0 t0 k2) (.slice P0 p0 k3)) = W0 := ⟨_, rfl⟩
  have hb0 : Below w.heap.size w W0 := hW0 ▸ bel_new w _
  have hx0 : Hb W0 w.heap.size #[.bool c.allow, .bool c.attrsAllow, .slice E0 e0 k0, .slice R0 r0 k1, .slice T0 t0 k2, .slice P0 p0 k3, .bool c.comments, .bool c.dataAttrs] := hW0 ▸ Hb.new w _
  have HBD := Lib.hid (fun wx (hb : Below W0.heap.size W0 wx) => Co.bound12 (confV c (.slice E0 e0 k0) (.slice R0 r0 k1) (.slice T0 t0 k2) (.slice P0 p0 k3)) c wx ⟨_, _, _, _, _, rfl, (h.on hb0).on hb⟩)
  rw [hd] at HBD
  have HW0 := Lib.hid hW0; have HB0 := Lib.hid hb0; have HX0 := Lib.hid hx0; have HSM := Lib.hid hsm
  clear hW0 hb0 hx0 hsm hd hst h 
  go_enter Tryz.func6, Tryz.ntmps6
  go_upto_region 1 with (fail)
  rw [HW0.out]
  clear HW0
  have HR1 := Lib.hid HX0.out.range
  have hrf0 := Below.refl W0.heap.size W0
  have HB1 := Lib.hid hrf0
  clear hrf0
  go_upto_region 2 with (fail)
  rw [HU.out]
  clear hmin
  go_upto_region 3 with (first
    | (show wpList _ _ _ (⟨_, Op.load 26 (.tmp 3), _, _, _, _⟩ :: _) _ _; refine wpList_load_mid rfl 26 (.tmp 3) rfl w.heap.size 0 rfl _ _ HR1.out Tryz.underlying26 rfl Co.size_conf ?_)
    | (go_at_call 11; refine (HBD.out W0 HB1.out).mono ?_; rintro r w2 ⟨v2, rfl, hc2, hb2⟩; obtain ⟨vE, vR, vA, vP, pl, rfl, hc2⟩ := hc2; obtain ⟨A1, n1, c1, rfl⟩ := Co.sv_shape hc2.e; obtain ⟨A2, n2, c2, rfl⟩ := Co.sv_shape hc2.r; obtain ⟨A3, n3, c3, rfl⟩ := Co.sv_shape hc2.a; obtain ⟨A4, n4, c4, rfl⟩ := Co.pv_shape hc2.p; have hx2 := (HX0.out.on HB1.out).on hb2; have HTH := Lib.hid (hx2.there 8 rfl); have HX2 := Lib.hid hx2; have HC2 := Lib.hid hc2; have HB2 := Lib.hid hb2; clear hx2 hc2 hb2)
    | (show wpList _ _ _ (⟨none, Op.store 26 (.tmp 3) (.tmp 17), _, _, _, _⟩ :: _) _ _; refine wpList_store_mid rfl 26 (.tmp 3) (.tmp 17) rfl w.heap.size 0 #[.bool d.allow, .bool d.attrsAllow, .slice A1 n1 c1, .slice A2 n2 c2, .slice A3 n3 c3, .slice A4 n4 c4, .bool d.comments, .bool d.dataAttrs] rfl rfl HTH.out Co.size_conf (by simp [Value.oneCell']) ?_)
    | fail)
  obtain ⟨W, hW1, hg1, hh1⟩ := Co.res_hb HX2.out rfl (.bool d.allow) (.bool d.attrsAllow) (.slice A1 n1 c1) (.slice A2 n2 c2) (.slice A3 n3 c3) (.slice A4 n4 c4) (.bool d.comments) (.bool d.dataAttrs)
  rw [← hW1]
  have hnS := noStr8 c.allow c.attrsAllow c.comments c.dataAttrs E0 R0 T0 P0 e0 r0 t0 p0 k0 k1 k2 k3
  have hcW := Co.cp_boxed HC2.out HX2.out hnS hg1
  have h01 := HB0.out.trans (HB1.out.mono HB0.out.size)
  have hbW : Below w.heap.size w W := (h01.trans (HB2.out.mono h01.size)).grown hg1 (Nat.le_trans h01.size HB2.out.size) (fun q hq => by injection hq with hq; omega)
  have HCF := Lib.hid (fun wx (hb : Below W.heap.size W wx) => show Cv wx wx.heap.size (confV d (.slice A1 n1 c1) (.slice A2 n2 c2) (.slice A3 n3 c3) (.slice A4 n4 c4)) d from ⟨_, _, _, _, _, rfl, hcW.on hb⟩)
  have HXF := Lib.hid (fun wx (hb : Below W.heap.size W wx) => show wx.rangeAt w.heap.size 0 [.bool d.allow, .bool d.attrsAllow, .slice A1 n1 c1, .slice A2 n2 c2, .slice A3 n3 c3, .slice A4 n4 c4, .bool d.comments, .bool d.dataAttrs] from (hh1.on hb).range)
  have HBW := Lib.hid hbW
  have HTF := Lib.hid (fun wx (hb : Below W.heap.size W wx) => show Tab wx from HT.out.below (HBW.out.trans (hb.mono HBW.out.size)))
  have hrf := Below.refl W.heap.size W
  have HRF := Lib.hid hrf
  clear hW1 hg1 hh1 hcW  h01 hbW hnS hrf HTH HX2 HC2 HB2 HB1 HR1 HX0 HB0 HBD HT 
  obtain ⟨q, E, hq⟩ : ∃ q E, textM d true (L u) = (L q, E) := ⟨B (textM d true (L u)).1, (textM d true (L u)).2, by rw [L_B]⟩
  by_cases hE0 : E = 0
  · subst hE0
    obtain ⟨T, h1, h2, hf, hsT, h3⟩ := text_ok hq
    have hzq : q.size ≤ 200000000000 := by rw [← size_L, h1]; exact hf.wide (-1)
    have hTl := hf.len
    have HQT := Lib.hid hq; have HP2 := Lib.hid h2; have HFT := Lib.hid hf; have HST := Lib.hid hsT; have HQ3' := Lib.hid h3; have HZQ := Lib.hid hzq
    clear hq h1 h2 hf hsT h3 hzq
    go_wp2_with (first
      | (show wpList _ _ _ (⟨_, Op.load 26 (.tmp 3), _, _, _, _⟩ :: _) _ _; refine wpList_load_mid rfl 26 (.tmp 3) rfl w.heap.size 0 rfl _ _ (HXF.out _ HRF.out) Tryz.underlying26 rfl Co.size_conf ?_)
      | (go_at_call 19; (with_reducible show Calls _ _ _ W _); refine (text14 u (confV d (.slice A1 n1 c1) (.slice A2 n2 c2) (.slice A3 n3 c3) (.slice A4 n4 c4)) d true W (by have := HUS.out; omega) (HTF.out _ HRF.out) (HCF.out _ HRF.out) HSM.out q 0 HQT.out).mono ?_; rintro r q1 ⟨rfl, hb⟩; have HQ1 := Lib.hid (HRF.out.trans (hb.mono HRF.out.size)); clear hb)
      | (go_at_call 21; refine (parse14 q q1 (some T) HZQ.out (HTF.out _ HQ1.out) HP2.out).mono ?_; rintro r q2 ⟨⟨V3, y3, rfl, hv, hy, -⟩, hb⟩; obtain ⟨B3, j3, rfl⟩ := rv_form hv; have HQ2 := Lib.hid (HQ1.out.trans (hb.mono HQ1.out.size)); have HY3 := Lib.hid hy; have HV3 := Lib.hid hv; clear hv hy hb)
      | (show wpList _ _ _ (⟨_, Op.load 26 (.tmp 3), _, _, _, _⟩ :: _) _ _; refine wpList_load_mid rfl 26 (.tmp 3) rfl w.heap.size 0 rfl _ _ (HXF.out _ HQ2.out) Tryz.underlying26 rfl Co.size_conf ?_)
      | (go_at_call 19; (with_reducible show Calls _ _ _ q2 _); refine (text14 q (confV d (.slice A1 n1 c1) (.slice A2 n2 c2) (.slice A3 n3 c3) (.slice A4 n4 c4)) d true q2 HZQ.out (HTF.out _ HQ2.out) (HCF.out _ HQ2.out) HSM.out q 0 HQ3'.out).mono ?_; rintro r q3 ⟨rfl, hb⟩; have HQ3 := Lib.hid (HQ2.out.trans (hb.mono HQ2.out.size)); have HV3 := Lib.hid (HV3.out.below hb); clear hb)
      | (go_at_call 23; refine (Rk.safe1 _ y3 q3 HV3.out (by rw [HY3.out]; exact HFT.out.small) true (by rw [HY3.out]; exact HST.out)).mono ?_; rintro r q4 ⟨rfl, hb⟩; have HQ4 := Lib.hid (HQ3.out.trans (hb.mono HQ3.out.size)); clear hb)
      | (go_at_call 14; refine (fixed14 q4 (HTF.out _ HQ4.out)).mono ?_; rintro r q5 ⟨rfl, hb⟩; have HQ5 := Lib.hid (HQ4.out.trans (hb.mono HQ4.out.size)); clear hb)
      | fail)
    go_ret
    exact ⟨rfl, HBW.out.trans (HQ5.out.mono HBW.out.size)⟩
  · have hqn : q = .empty := by rw [← B_L q, text_err hq hE0]; rfl
    subst hqn
    have hne : (E != 0) = true := by simpa using hE0
    have HQT := Lib.hid hq
    clear hq hE0
    go_wp2_with (first
      | (show wpList _ _ _ (⟨_, Op.load 26 (.tmp 3), _, _, _, _⟩ :: _) _ _; refine wpList_load_mid rfl 26 (.tmp 3) rfl w.heap.size 0 rfl _ _ (HXF.out _ HRF.out) Tryz.underlying26 rfl Co.size_conf ?_)
      | (go_at_call 19; refine (text14 u (confV d (.slice A1 n1 c1) (.slice A2 n2 c2) (.slice A3 n3 c3) (.slice A4 n4 c4)) d true W (by have := HUS.out; omega) (HTF.out _ HRF.out) (HCF.out _ HRF.out) HSM.out .empty E HQT.out).mono ?_; rintro r q1 ⟨rfl, hb⟩; have HQ1 := Lib.hid (HRF.out.trans (hb.mono HRF.out.size)); clear hb)
      | (go_at_call 14; refine (fixed14 q1 (HTF.out _ HQ1.out)).mono ?_; rintro r q2 ⟨rfl, hb⟩; have HQ2 := Lib.hid (HQ1.out.trans (hb.mono HQ1.out.size)); clear hb)
      | fail)
    go_ret
    exact ⟨rfl, HBW.out.trans (HQ2.out.mono HBW.out.size)⟩

end Go.Proofs.YtgjlfcamgkeibaaGreatDoor.Se

namespace Go.Proofs.YtgjlfcamgkeibaaGreatDoor.Se
set_option maxRecDepth 100000
set_option linter.unusedVariables false
set_option linter.unusedSimpArgs false
open Go.RowKit Ba Ro
open Re (Tab)
open Co (Cf Cv Sm confV confO bel_eq12 Hb noStr noStr8 allC)
open Cn (errI outL rv_boxed rv_shape)
open Wr (insideB)
set_option maxRecDepth 100000 in
set_option maxHeartbeats 2000000 in
theorem law14_safe (vl v : Value) (ll : List Cw) (c : Cf) (w : World) (hv : Rv w vl ll) (hz : Rz.Small (ros ll)) (h : Cv w w.heap.size v c) (hst : Co.St c) (hT : Tab w) :
    Calls Tryz.prog 5 #[vl, v] w fun r w' => r = .returned (.bool true) ∧ Below w.heap.size w w' := by
  have HT := Lib.hid hT
  clear hT
  obtain ⟨d, hd⟩ : ∃ d, Co.boundC c = d := ⟨_, rfl⟩
  have hsm := Co.sm_bound hst
  rw [hd] at hsm
  obtain ⟨uE, uR, uA, uP, lu, rfl, h⟩ := h
  obtain ⟨E0, e0, k0, rfl⟩ := Co.sv_shape h.e
  obtain ⟨R0, r0, k1, rfl⟩ := Co.sv_shape h.r
  obtain ⟨T0, t0, k2, rfl⟩ := Co.sv_shape h.a
  obtain ⟨P0, p0, k3, rfl⟩ := Co.pv_shape h.p
  obtain ⟨W0, hW0⟩ : ∃ W0, w.alloc (confO c (.slice E0 e0 k0) (.slice R0 r0 k1) (.slice T0 t0 k2) (.slice P0 p0 k3)) = W0 := ⟨_, rfl⟩
  have hb0 : Below w.heap.size w W0 := hW0 ▸ bel_new w _
  have hx0 : Hb W0 w.heap.size #[.bool c.allow, .bool c.attrsAllow, .slice E0 e0 k0, .slice R0 r0 k1, .slice T0 t0 k2, .slice P0 p0 k3, .bool c.comments, .bool c.dataAttrs] := hW0 ▸ Hb.new w _
  have HBN := Lib.hid (bound14 vl ll W0 (hv.below hb0) hz)
  have HBD := Lib.hid (fun wx (hb : Below W0.heap.size W0 wx) => Co.bound12 (confV c (.slice E0 e0 k0) (.slice R0 r0 k1) (.slice T0 t0 k2) (.slice P0 p0 k3)) c wx ⟨_, _, _, _, _, rfl, (h.on hb0).on hb⟩)
  rw [hd] at HBD
  have HW0 := Lib.hid hW0; have HB0 := Lib.hid hb0; have HX0 := Lib.hid hx0; have HSM := Lib.hid hsm
  clear hW0 hb0 hx0 hsm hd hst h hv hz
  go_enter Tryz.func5, Tryz.ntmps5
  go_upto_region 1 with (fail)
  rw [HW0.out]
  clear HW0
  go_upto_region 3 with (first
    | (go_at_call 10; refine HBN.out.mono ?_; rintro r w1 ⟨v1, l1, rfl, hl1, hv1, hf1, hw1, hn1, hb1⟩; have HV1 := Lib.hid hv1; have HL1 := Lib.hid hl1; have HFL := Lib.hid hf1; have HWL := Lib.hid hw1; have HB1 := Lib.hid hb1; have HR1 := Lib.hid (HX0.out.on hb1).range; clear hv1 hl1 hw1 hf1 hb1)
    | (show wpList _ _ _ (⟨_, Op.load 26 (.tmp 3), _, _, _, _⟩ :: _) _ _; refine wpList_load_mid rfl 26 (.tmp 3) rfl w.heap.size 0 rfl _ _ HR1.out Tryz.underlying26 rfl Co.size_conf ?_)
    | (go_at_call 11; refine (HBD.out w1 HB1.out).mono ?_; rintro r w2 ⟨v2, rfl, hc2, hb2⟩; obtain ⟨vE, vR, vA, vP, pl, rfl, hc2⟩ := hc2; obtain ⟨A1, n1, c1, rfl⟩ := Co.sv_shape hc2.e; obtain ⟨A2, n2, c2, rfl⟩ := Co.sv_shape hc2.r; obtain ⟨A3, n3, c3, rfl⟩ := Co.sv_shape hc2.a; obtain ⟨A4, n4, c4, rfl⟩ := Co.pv_shape hc2.p; have hx2 := (HX0.out.on HB1.out).on hb2; have HTH := Lib.hid (hx2.there 8 rfl); have HX2 := Lib.hid hx2; have HC2 := Lib.hid hc2; have HB2 := Lib.hid hb2; clear hx2 hc2 hb2)
    | (show wpList _ _ _ (⟨none, Op.store 26 (.tmp 3) (.tmp 16), _, _, _, _⟩ :: _) _ _; refine wpList_store_mid rfl 26 (.tmp 3) (.tmp 16) rfl w.heap.size 0 #[.bool d.allow, .bool d.attrsAllow, .slice A1 n1 c1, .slice A2 n2 c2, .slice A3 n3 c3, .slice A4 n4 c4, .bool d.comments, .bool d.dataAttrs] rfl rfl HTH.out Co.size_conf (by simp [Value.oneCell']) ?_)
    | fail)
  obtain ⟨W, hW1, hg1, hh1⟩ := Co.res_hb HX2.out rfl (.bool d.allow) (.bool d.attrsAllow) (.slice A1 n1 c1) (.slice A2 n2 c2) (.slice A3 n3 c3) (.slice A4 n4 c4) (.bool d.comments) (.bool d.dataAttrs)
  rw [← hW1]
  have hnS := noStr8 c.allow c.attrsAllow c.comments c.dataAttrs E0 R0 T0 P0 e0 r0 t0 p0 k0 k1 k2 k3
  have hcW := Co.cp_boxed HC2.out HX2.out hnS hg1
  have hvW := rv_boxed (HV1.out.below HB2.out) HX2.out hnS hg1
  have h01 := HB0.out.trans (HB1.out.mono HB0.out.size)
  have hbW : Below w.heap.size w W := (h01.trans (HB2.out.mono h01.size)).grown hg1 (Nat.le_trans h01.size HB2.out.size) (fun q hq => by injection hq with hq; omega)
  have HVF := Lib.hid (fun wx (hb : Below W.heap.size W wx) => hvW.below hb)
  have HCF := Lib.hid (fun wx (hb : Below W.heap.size W wx) => show Cv wx wx.heap.size (confV d (.slice A1 n1 c1) (.slice A2 n2 c2) (.slice A3 n3 c3) (.slice A4 n4 c4)) d from ⟨_, _, _, _, _, rfl, hcW.on hb⟩)
  have HXF := Lib.hid (fun wx (hb : Below W.heap.size W wx) => show wx.rangeAt w.heap.size 0 [.bool d.allow, .bool d.attrsAllow, .slice A1 n1 c1, .slice A2 n2 c2, .slice A3 n3 c3, .slice A4 n4 c4, .bool d.comments, .bool d.dataAttrs] from (hh1.on hb).range)
  have HBW := Lib.hid hbW
  have HTF := Lib.hid (fun wx (hb : Below W.heap.size W wx) => show Tab wx from HT.out.below (HBW.out.trans (hb.mono HBW.out.size)))
  have hrf := Below.refl W.heap.size W
  have HRF := Lib.hid hrf
  obtain ⟨AL, kL, rfl⟩ := rv_shape hvW
  clear hW1 hg1 hh1 hcW hvW h01 hbW hnS hrf HTH HX2 HC2 HB2 HB1 HR1 HX0 HB0 HBD HT HV1 HBN HL1
  obtain ⟨E, hE⟩ : ∃ E, errI d (ros l1) = E := ⟨_, rfl⟩
  by_cases hE0 : E = 0
  · subst hE0
    obtain ⟨T, m, hG, hm1, hm2, he, ho, hp, hag⟩ := loop_again (c := d) (s := true) (k := 7) (n := 0) hE
    have hfT : Fit T := by have := loop_fit d true 8 0 (ros l1) HFL.out; rw [hG] at this; exact this
    have hwT : Few T := few_ok HWL.out hG
    have hsT : Rk.safeB T = true := out_safe ho
    obtain ⟨S, hS⟩ : ∃ S, B (insideB T (-1)) = S := ⟨_, rfl⟩
    have hpS : par (L S) = some T := by rw [← hS, L_B]; exact hp
    have hzS : S.size ≤ 200000000000 := by rw [← hS, size_B]; exact hfT.wide (-1)
    have hd1 : decide ((m : Int) < 1) = false := decide_eq_false (by omega)
    have hd8 : decide ((8 : Int) < (m : Int)) = false := decide_eq_false (by omega)
    have hTl := hfT.len
    have HG := Lib.hid hG; have HFT := Lib.hid hfT; have HWT := Lib.hid hwT; have HST := Lib.hid hsT; have HS := Lib.hid hS; have HPS := Lib.hid hpS; have HZS := Lib.hid hzS; have HA := Lib.hid (hag 7 0); have HSB := Lib.hid (show stableB T = true from decide_eq_true hp)
    clear hE hG hm1 hm2 he ho hp hag hfT hwT hsT hS hpS hzS
    go_wp2_with (first
      | (show wpList _ _ _ (⟨_, Op.load 26 (.tmp 3), _, _, _, _⟩ :: _) _ _; refine wpList_load_mid rfl 26 (.tmp 3) rfl w.heap.size 0 rfl _ _ (HXF.out _ HRF.out) Tryz.underlying26 rfl Co.size_conf ?_)
      | (go_at_call 12; (with_reducible show Calls _ _ _ W _); refine (trees14 (.slice AL l1.length kL) (confV d (.slice A1 n1 c1) (.slice A2 n2 c2) (.slice A3 n3 c3) (.slice A4 n4 c4)) l1 d true W (HVF.out _ HRF.out) HFL.out HWL.out (HTF.out _ HRF.out) (HCF.out _ HRF.out) HSM.out (T, m, 0) HG.out).mono ?_; rintro r q1 ⟨V1, y1, rfl, hy, hv, hb⟩; obtain ⟨B1, j1, rfl⟩ := rv_form hv; have HQ1 := Lib.hid (HRF.out.trans (hb.mono HRF.out.size)); have HY1 := Lib.hid hy; have HV1 := Lib.hid hv; have hy1 := len_le HY1.out hTl; clear hy hv hb)
      | (go_at_call 22; refine (write14 _ y1 q1 HV1.out (by rw [HY1.out]; exact HFT.out) S (by rw [HY1.out]; exact HS.out)).mono ?_; rintro r q2 ⟨rfl, hb⟩; have HQ2 := Lib.hid (HQ1.out.trans (hb.mono HQ1.out.size)); have HV1 := Lib.hid (HV1.out.below hb); clear hb)
      | (go_at_call 21; refine (parse14 S q2 (some T) HZS.out (HTF.out _ HQ2.out) HPS.out).mono ?_; rintro r q3 ⟨⟨V3, y3, rfl, hv, hy, -⟩, hb⟩; have hy3 := len_le hy hTl; have HQ3 := Lib.hid (HQ2.out.trans (hb.mono HQ2.out.size)); have HV1 := Lib.hid (HV1.out.below hb); have HY3 := Lib.hid hy; have HV3 := Lib.hid hv; clear hv hy hb)
      | (go_at_call 15; (with_reducible show Calls _ _ _ q3 _); refine (refSame1 _ _ y3 y1 q3 true HV3.out HV1.out (by omega) (by omega) (decide_eq_true (HY3.out.trans HY1.out.symm))).mono ?_; rintro r q4 ⟨rfl, hb⟩; have HQ4 := Lib.hid (HQ3.out.trans (hb.mono HQ3.out.size)); have HV1 := Lib.hid (HV1.out.below hb); have HV3 := Lib.hid (HV3.out.below hb); clear hb)
      | (go_at_call 23; refine (Rk.safe1 _ y3 q4 HV3.out (by rw [HY3.out]; exact HFT.out.small) true (by rw [HY3.out]; exact HST.out)).mono ?_; rintro r q5 ⟨rfl, hb⟩; have HQ5 := Lib.hid (HQ4.out.trans (hb.mono HQ4.out.size)); have HV1 := Lib.hid (HV1.out.below hb); clear hb)
      | (go_at_call 17; refine (stable14 _ y1 q5 HV1.out (by rw [HY1.out]; exact HFT.out) (HTF.out _ HQ5.out) true (by rw [HY1.out]; exact HSB.out)).mono ?_; rintro r q6 ⟨rfl, hb⟩; have HQ6 := Lib.hid (HQ5.out.trans (hb.mono HQ5.out.size)); have HV1 := Lib.hid (HV1.out.below hb); clear hb)
      | (show wpList _ _ _ (⟨_, Op.load 26 (.tmp 3), _, _, _, _⟩ :: _) _ _; refine wpList_load_mid rfl 26 (.tmp 3) rfl w.heap.size 0 rfl _ _ (HXF.out _ HQ6.out) Tryz.underlying26 rfl Co.size_conf ?_)
      | (go_at_call 12; (with_reducible show Calls _ _ _ q6 _); refine (trees14 _ (confV d (.slice A1 n1 c1) (.slice A2 n2 c2) (.slice A3 n3 c3) (.slice A4 n4 c4)) y1 d true q6 (HV1.out) (by rw [HY1.out]; exact HFT.out) (by rw [HY1.out]; exact HWT.out) (HTF.out _ HQ6.out) (HCF.out _ HQ6.out) HSM.out (T, 1, 0) (by rw [HY1.out]; exact HA.out)).mono ?_; rintro r q7 ⟨V7, y7, rfl, hy, hv, hb⟩; obtain ⟨B7, j7, rfl⟩ := rv_form hv; have HQ7 := Lib.hid (HQ6.out.trans (hb.mono HQ6.out.size)); have HY7 := Lib.hid hy; have HV7 := Lib.hid hv; have hy7 := len_le HY7.out hTl; have HV1 := Lib.hid (HV1.out.below hb); clear hy hv hb)
      | (go_at_call 15; (with_reducible show Calls _ _ _ q7 _); refine (refSame1 _ _ y7 y1 q7 true HV7.out HV1.out (by omega) (by omega) (decide_eq_true (HY7.out.trans HY1.out.symm))).mono ?_; rintro r q8 ⟨rfl, hb⟩; have HQ8 := Lib.hid (HQ7.out.trans (hb.mono HQ7.out.size)); clear hb)
      | (go_at_call 14; refine (fixed14 q8 (HTF.out _ HQ8.out)).mono ?_; rintro r q9 ⟨rfl, hb⟩; have HQ9 := Lib.hid (HQ8.out.trans (hb.mono HQ8.out.size)); clear hb)
      | fail)
    go_ret
    exact ⟨rfl, HBW.out.trans (HQ9.out.mono HBW.out.size)⟩
  · have hG : loopM d true 8 0 (ros l1) = ([], 0, E) := by rw [loop_err (by rw [hE]; exact hE0), hE]
    have hne : (E != 0) = true := by simpa using hE0
    have HG := Lib.hid hG
    clear hE hG hE0
    go_wp2_with (first
      | (show wpList _ _ _ (⟨_, Op.load 26 (.tmp 3), _, _, _, _⟩ :: _) _ _; refine wpList_load_mid rfl 26 (.tmp 3) rfl w.heap.size 0 rfl _ _ (HXF.out _ HRF.out) Tryz.underlying26 rfl Co.size_conf ?_)
      | (go_at_call 12; (with_reducible show Calls _ _ _ W _); refine (trees14 (.slice AL l1.length kL) (confV d (.slice A1 n1 c1) (.slice A2 n2 c2) (.slice A3 n3 c3) (.slice A4 n4 c4)) l1 d true W (HVF.out _ HRF.out) HFL.out HWL.out (HTF.out _ HRF.out) (HCF.out _ HRF.out) HSM.out ([], 0, E) HG.out).mono ?_; rintro r q1 ⟨V1, y1, rfl, hy, hv, hb⟩; obtain ⟨B1, j1, rfl⟩ := rv_form hv; have HQ1 := Lib.hid (HRF.out.trans (hb.mono HRF.out.size)); have HY1 := Lib.hid hy; have HV1 := Lib.hid hv; have hy1 : y1.length = 0 := by { have := congrArg List.length HY1.out; rwa [len_ros] at this }; rw [hy1]; clear hy hv hb)
      | (go_at_call 14; refine (fixed14 q1 (HTF.out _ HQ1.out)).mono ?_; rintro r q2 ⟨rfl, hb⟩; have HQ2 := Lib.hid (HQ1.out.trans (hb.mono HQ1.out.size)); clear hb)
      | fail)
    go_ret
    exact ⟨rfl, HBW.out.trans (HQ2.out.mono HBW.out.size)⟩

end Go.Proofs.YtgjlfcamgkeibaaGreatDoor.Se

namespace Go.Proofs.YtgjlfcamgkeibaaGreatDoor.Se
set_option maxRecDepth 100000
set_option linter.unusedVariables false
set_option linter.unusedSimpArgs false
open Go.RowKit Ba Ro
open Re (Tab)
open Co (Cf Cv Sm confV confO bel_eq12 Hb noStr noStr8 allC)
open Cn (errI outL rv_boxed rv_shape)
open Wr (insideB)
set_option maxRecDepth 100000 in
set_option maxHeartbeats 2000000 in
theorem law14_first (vl v : Value) (s : Bool) (ll : List Cw) (c : Cf) (w : World) (hv : Rv w vl ll) (hz : Rz.Small (ros ll)) (h : Cv w w.heap.size v c) (hst : Co.St c) (hT : Tab w) :
    Calls Tryz.prog 9 #[vl, v, .bool s] w fun r w' => r = .returned (.bool true) ∧ Below w.heap.size w w' := by
  have HT := Lib.hid hT
  clear hT
  obtain ⟨d, hd⟩ : ∃ d, Co.boundC c = d := ⟨_, rfl⟩
  have hsm := Co.sm_bound hst
  rw [hd] at hsm
  obtain ⟨uE, uR, uA, uP, lu, rfl, h⟩ := h
  obtain ⟨E0, e0, k0, rfl⟩ := Co.sv_shape h.e
  obtain ⟨R0, r0, k1, rfl⟩ := Co.sv_shape h.r
  obtain ⟨T0, t0, k2, rfl⟩ := Co.sv_shape h.a
  obtain ⟨P0, p0, k3, rfl⟩ := Co.pv_shape h.p
  obtain ⟨W0, hW0⟩ : ∃ W0, w.alloc (confO c (.slice E0 e0 k0) (.slice R0 r0 k1) (.slice T0 t0 k2) (.slice P0 p0 k3)) = W0 := ⟨_, rfl⟩
  have hb0 : Below w.heap.size w W0 := hW0 ▸ bel_new w _
  have hx0 : Hb W0 w.heap.size #[.bool c.allow, .bool c.attrsAllow, .slice E0 e0 k0, .slice R0 r0 k1, .slice T0 t0 k2, .slice P0 p0 k3, .bool c.comments, .bool c.dataAttrs] := hW0 ▸ Hb.new w _
  have HBN := Lib.hid (bound14 vl ll W0 (hv.below hb0) hz)
  have HBD := Lib.hid (fun wx (hb : Below W0.heap.size W0 wx) => Co.bound12 (confV c (.slice E0 e0 k0) (.slice R0 r0 k1) (.slice T0 t0 k2) (.slice P0 p0 k3)) c wx ⟨_, _, _, _, _, rfl, (h.on hb0).on hb⟩)
  rw [hd] at HBD
  have HW0 := Lib.hid hW0; have HB0 := Lib.hid hb0; have HX0 := Lib.hid hx0; have HSM := Lib.hid hsm
  clear hW0 hb0 hx0 hsm hd hst h hv hz
  go_enter Tryz.func9, Tryz.ntmps9
  go_upto_region 1 with (fail)
  rw [HW0.out]
  clear HW0
  go_upto_region 3 with (first
    | (go_at_call 10; refine HBN.out.mono ?_; rintro r w1 ⟨v1, l1, rfl, hl1, hv1, hf1, hw1, hn1, hb1⟩; have HV1 := Lib.hid hv1; have HL1 := Lib.hid hl1; have HFL := Lib.hid hf1; have HWL := Lib.hid hw1; have HB1 := Lib.hid hb1; have HR1 := Lib.hid (HX0.out.on hb1).range; clear hv1 hl1 hw1 hf1 hb1)
    | (show wpList _ _ _ (⟨_, Op.load 26 (.tmp 4), _, _, _, _⟩ :: _) _ _; refine wpList_load_mid rfl 26 (.tmp 4) rfl w.heap.size 0 rfl _ _ HR1.out Tryz.underlying26 rfl Co.size_conf ?_)
    | (go_at_call 11; refine (HBD.out w1 HB1.out).mono ?_; rintro r w2 ⟨v2, rfl, hc2, hb2⟩; obtain ⟨vE, vR, vA, vP, pl, rfl, hc2⟩ := hc2; obtain ⟨A1, n1, c1, rfl⟩ := Co.sv_shape hc2.e; obtain ⟨A2, n2, c2, rfl⟩ := Co.sv_shape hc2.r; obtain ⟨A3, n3, c3, rfl⟩ := Co.sv_shape hc2.a; obtain ⟨A4, n4, c4, rfl⟩ := Co.pv_shape hc2.p; have hx2 := (HX0.out.on HB1.out).on hb2; have HTH := Lib.hid (hx2.there 8 rfl); have HX2 := Lib.hid hx2; have HC2 := Lib.hid hc2; have HB2 := Lib.hid hb2; clear hx2 hc2 hb2)
    | (show wpList _ _ _ (⟨none, Op.store 26 (.tmp 4) (.tmp 15), _, _, _, _⟩ :: _) _ _; refine wpList_store_mid rfl 26 (.tmp 4) (.tmp 15) rfl w.heap.size 0 #[.bool d.allow, .bool d.attrsAllow, .slice A1 n1 c1, .slice A2 n2 c2, .slice A3 n3 c3, .slice A4 n4 c4, .bool d.comments, .bool d.dataAttrs] rfl rfl HTH.out Co.size_conf (by simp [Value.oneCell']) ?_)
    | fail)
  obtain ⟨W, hW1, hg1, hh1⟩ := Co.res_hb HX2.out rfl (.bool d.allow) (.bool d.attrsAllow) (.slice A1 n1 c1) (.slice A2 n2 c2) (.slice A3 n3 c3) (.slice A4 n4 c4) (.bool d.comments) (.bool d.dataAttrs)
  rw [← hW1]
  have hnS := noStr8 c.allow c.attrsAllow c.comments c.dataAttrs E0 R0 T0 P0 e0 r0 t0 p0 k0 k1 k2 k3
  have hcW := Co.cp_boxed HC2.out HX2.out hnS hg1
  have hvW := rv_boxed (HV1.out.below HB2.out) HX2.out hnS hg1
  have h01 := HB0.out.trans (HB1.out.mono HB0.out.size)
  have hbW : Below w.heap.size w W := (h01.trans (HB2.out.mono h01.size)).grown hg1 (Nat.le_trans h01.size HB2.out.size) (fun q hq => by injection hq with hq; omega)
  have HVF := Lib.hid (fun wx (hb : Below W.heap.size W wx) => hvW.below hb)
  have HCF := Lib.hid (fun wx (hb : Below W.heap.size W wx) => show Cv wx wx.heap.size (confV d (.slice A1 n1 c1) (.slice A2 n2 c2) (.slice A3 n3 c3) (.slice A4 n4 c4)) d from ⟨_, _, _, _, _, rfl, hcW.on hb⟩)
  have HXF := Lib.hid (fun wx (hb : Below W.heap.size W wx) => show wx.rangeAt w.heap.size 0 [.bool d.allow, .bool d.attrsAllow, .slice A1 n1 c1, .slice A2 n2 c2, .slice A3 n3 c3, .slice A4 n4 c4, .bool d.comments, .bool d.dataAttrs] from (hh1.on hb).range)
  have HBW := Lib.hid hbW
  have HTF := Lib.hid (fun wx (hb : Below W.heap.size W wx) => show Tab wx from HT.out.below (HBW.out.trans (hb.mono HBW.out.size)))
  have hrf := Below.refl W.heap.size W
  have HRF := Lib.hid hrf
  obtain ⟨AL, kL, rfl⟩ := rv_shape hvW
  clear hW1 hg1 hh1 hcW hvW h01 hbW hnS hrf HTH HX2 HC2 HB2 HB1 HR1 HX0 HB0 HBD HT HV1 HBN HL1
  obtain ⟨E, hE⟩ : ∃ E, errI d (ros l1) = E := ⟨_, rfl⟩
  obtain ⟨T0, hT0⟩ : ∃ T0, outL d s (ros l1) = T0 := ⟨_, rfl⟩
  have hfT : Fit T0 := by rw [← hT0]; exact out_fit HFL.out
  have hTl := hfT.len
  have HE := Lib.hid hE; have HT0 := Lib.hid hT0; have HFT := Lib.hid hfT
  clear hfT
  by_cases hE0 : E = 0
  · subst hE0
    obtain ⟨g1, g2⟩ := loop_first (c := d) (s := s) (k := 7) (n := 0) hE
    rw [hT0] at g1 g2
    clear hE hT0
    obtain ⟨b, hb⟩ : ∃ b, stableB T0 = b := ⟨_, rfl⟩
    have HSB := Lib.hid hb
    cases b with
    | true =>
      have HG := Lib.hid (g1 hb)
      clear g1 g2 hb
      go_wp2_with (first
        | (show wpList _ _ _ (⟨_, Op.load 26 (.tmp 4), _, _, _, _⟩ :: _) _ _; refine wpList_load_mid rfl 26 (.tmp 4) rfl w.heap.size 0 rfl _ _ (HXF.out _ HRF.out) Tryz.underlying26 rfl Co.size_conf ?_)
        | (go_at_call 30; refine (Cn.rows13 (.slice AL l1.length kL) (confV d (.slice A1 n1 c1) (.slice A2 n2 c2) (.slice A3 n3 c3) (.slice A4 n4 c4)) l1 d s W (HVF.out W HRF.out) (by omega) HFL.out.small HWL.out HFL.out.txt (HCF.out W HRF.out) HSM.out 0 T0 HE.out HT0.out).mono ?_; rintro r q1 ⟨V1, y1, rfl, -, hy, hv, hb⟩; obtain ⟨B1, j1, rfl⟩ := rv_form hv; have HQ1 := Lib.hid (HRF.out.trans (hb.mono HRF.out.size)); have hy1 := len_le hy hTl; have HY1 := Lib.hid hy; have HV1 := Lib.hid hv; clear hy hv hb)
        | (show wpList _ _ _ (⟨_, Op.load 26 (.tmp 4), _, _, _, _⟩ :: _) _ _; refine wpList_load_mid rfl 26 (.tmp 4) rfl w.heap.size 0 rfl _ _ (HXF.out _ HQ1.out) Tryz.underlying26 rfl Co.size_conf ?_)
        | (go_at_call 12; (with_reducible show Calls _ _ _ q1 _); refine (trees14 (.slice AL l1.length kL) (confV d (.slice A1 n1 c1) (.slice A2 n2 c2) (.slice A3 n3 c3) (.slice A4 n4 c4)) l1 d s q1 (HVF.out _ HQ1.out) HFL.out HWL.out (HTF.out _ HQ1.out) (HCF.out _ HQ1.out) HSM.out (T0, 1, 0) HG.out).mono ?_; rintro r q2 ⟨V2, y2, rfl, hy, hv, hb⟩; obtain ⟨B2, j2, rfl⟩ := rv_form hv; have HQ2 := Lib.hid (HQ1.out.trans (hb.mono HQ1.out.size)); have HY2 := Lib.hid hy; have HV2 := Lib.hid hv; have hy2 := len_le HY2.out hTl; have HV1 := Lib.hid (HV1.out.below hb); clear hy hv hb)
        | (go_at_call 17; refine (stable14 _ y1 q2 HV1.out (by rw [HY1.out]; exact HFT.out) (HTF.out _ HQ2.out) true (by rw [HY1.out]; exact HSB.out)).mono ?_; rintro r q3 ⟨rfl, hb⟩; have HQ3 := Lib.hid (HQ2.out.trans (hb.mono HQ2.out.size)); have HV1 := Lib.hid (HV1.out.below hb); have HV2 := Lib.hid (HV2.out.below hb); clear hb)
        | (go_at_call 15; refine (refSame1 _ _ y2 y1 q3 true HV2.out HV1.out (by omega) (by omega) (decide_eq_true (HY2.out.trans HY1.out.symm))).mono ?_; rintro r q4 ⟨rfl, hb⟩; have HQ4 := Lib.hid (HQ3.out.trans (hb.mono HQ3.out.size)); clear hb)
        | (go_at_call 14; refine (fixed14 q4 (HTF.out _ HQ4.out)).mono ?_; rintro r q5 ⟨rfl, hb⟩; have HQ5 := Lib.hid (HQ4.out.trans (hb.mono HQ4.out.size)); clear hb)
        | fail)
      go_ret
      exact ⟨rfl, HBW.out.trans (HQ5.out.mono HBW.out.size)⟩
    | false =>
      obtain ⟨T, m, hG, hm⟩ := g2 hb
      have hfT : Fit T := by have := loop_fit d s 8 0 (ros l1) HFL.out; rw [hG] at this; exact this
      have hTl2 := hfT.len
      have HG := Lib.hid hG
      clear g1 g2 hb hfT hG
      by_cases h1 : 1 < m
      · have hd : decide ((1 : Int) < (m : Int)) = true := decide_eq_true (by omega)
        clear hm
        go_wp2_with (first
          | (show wpList _ _ _ (⟨_, Op.load 26 (.tmp 4), _, _, _, _⟩ :: _) _ _; refine wpList_load_mid rfl 26 (.tmp 4) rfl w.heap.size 0 rfl _ _ (HXF.out _ HRF.out) Tryz.underlying26 rfl Co.size_conf ?_)
          | (go_at_call 30; refine (Cn.rows13 (.slice AL l1.length kL) (confV d (.slice A1 n1 c1) (.slice A2 n2 c2) (.slice A3 n3 c3) (.slice A4 n4 c4)) l1 d s W (HVF.out W HRF.out) (by omega) HFL.out.small HWL.out HFL.out.txt (HCF.out W HRF.out) HSM.out 0 T0 HE.out HT0.out).mono ?_; rintro r q1 ⟨V1, y1, rfl, -, hy, hv, hb⟩; obtain ⟨B1, j1, rfl⟩ := rv_form hv; have HQ1 := Lib.hid (HRF.out.trans (hb.mono HRF.out.size)); have hy1 := len_le hy hTl; have HY1 := Lib.hid hy; have HV1 := Lib.hid hv; clear hy hv hb)
          | (show wpList _ _ _ (⟨_, Op.load 26 (.tmp 4), _, _, _, _⟩ :: _) _ _; refine wpList_load_mid rfl 26 (.tmp 4) rfl w.heap.size 0 rfl _ _ (HXF.out _ HQ1.out) Tryz.underlying26 rfl Co.size_conf ?_)
          | (go_at_call 12; (with_reducible show Calls _ _ _ q1 _); refine (trees14 (.slice AL l1.length kL) (confV d (.slice A1 n1 c1) (.slice A2 n2 c2) (.slice A3 n3 c3) (.slice A4 n4 c4)) l1 d s q1 (HVF.out _ HQ1.out) HFL.out HWL.out (HTF.out _ HQ1.out) (HCF.out _ HQ1.out) HSM.out (T, m, 0) HG.out).mono ?_; rintro r q2 ⟨V2, y2, rfl, hy, hv, hb⟩; obtain ⟨B2, j2, rfl⟩ := rv_form hv; have HQ2 := Lib.hid (HQ1.out.trans (hb.mono HQ1.out.size)); have HY2 := Lib.hid hy; have HV2 := Lib.hid hv; have hy2 := len_le HY2.out hTl2; have HV1 := Lib.hid (HV1.out.below hb); clear hy hv hb)
          | (go_at_call 17; refine (stable14 _ y1 q2 HV1.out (by rw [HY1.out]; exact HFT.out) (HTF.out _ HQ2.out) false (by rw [HY1.out]; exact HSB.out)).mono ?_; rintro r q3 ⟨rfl, hb⟩; have HQ3 := Lib.hid (HQ2.out.trans (hb.mono HQ2.out.size)); have HV1 := Lib.hid (HV1.out.below hb); have HV2 := Lib.hid (HV2.out.below hb); clear hb)
          | (go_at_call 14; refine (fixed14 q3 (HTF.out _ HQ3.out)).mono ?_; rintro r q4 ⟨rfl, hb⟩; have HQ4 := Lib.hid (HQ3.out.trans (hb.mono HQ3.out.size)); clear hb)
          | fail)
        go_ret
        exact ⟨rfl, HBW.out.trans (HQ4.out.mono HBW.out.size)⟩
      · have hd : decide ((1 : Int) < (m : Int)) = false := decide_eq_false (by omega)
        have hTn : T = [] := hm.resolve_left h1
        subst hTn
        clear hm
        go_wp2_with (first
          | (show wpList _ _ _ (⟨_, Op.load 26 (.tmp 4), _, _, _, _⟩ :: _) _ _; refine wpList_load_mid rfl 26 (.tmp 4) rfl w.heap.size 0 rfl _ _ (HXF.out _ HRF.out) Tryz.underlying26 rfl Co.size_conf ?_)
          | (go_at_call 30; refine (Cn.rows13 (.slice AL l1.length kL) (confV d (.slice A1 n1 c1) (.slice A2 n2 c2) (.slice A3 n3 c3) (.slice A4 n4 c4)) l1 d s W (HVF.out W HRF.out) (by omega) HFL.out.small HWL.out HFL.out.txt (HCF.out W HRF.out) HSM.out 0 T0 HE.out HT0.out).mono ?_; rintro r q1 ⟨V1, y1, rfl, -, hy, hv, hb⟩; obtain ⟨B1, j1, rfl⟩ := rv_form hv; have HQ1 := Lib.hid (HRF.out.trans (hb.mono HRF.out.size)); have hy1 := len_le hy hTl; have HY1 := Lib.hid hy; have HV1 := Lib.hid hv; clear hy hv hb)
          | (show wpList _ _ _ (⟨_, Op.load 26 (.tmp 4), _, _, _, _⟩ :: _) _ _; refine wpList_load_mid rfl 26 (.tmp 4) rfl w.heap.size 0 rfl _ _ (HXF.out _ HQ1.out) Tryz.underlying26 rfl Co.size_conf ?_)
          | (go_at_call 12; (with_reducible show Calls _ _ _ q1 _); refine (trees14 (.slice AL l1.length kL) (confV d (.slice A1 n1 c1) (.slice A2 n2 c2) (.slice A3 n3 c3) (.slice A4 n4 c4)) l1 d s q1 (HVF.out _ HQ1.out) HFL.out HWL.out (HTF.out _ HQ1.out) (HCF.out _ HQ1.out) HSM.out ([], m, 0) HG.out).mono ?_; rintro r q2 ⟨V2, y2, rfl, hy, hv, hb⟩; obtain ⟨B2, j2, rfl⟩ := rv_form hv; have HQ2 := Lib.hid (HQ1.out.trans (hb.mono HQ1.out.size)); have HY2 := Lib.hid hy; have HV2 := Lib.hid hv; have hy2 : y2.length = 0 := by { have := congrArg List.length HY2.out; rwa [len_ros] at this }; rw [hy2]; have HV1 := Lib.hid (HV1.out.below hb); clear hy hv hb)
          | (go_at_call 17; refine (stable14 _ y1 q2 HV1.out (by rw [HY1.out]; exact HFT.out) (HTF.out _ HQ2.out) false (by rw [HY1.out]; exact HSB.out)).mono ?_; rintro r q3 ⟨rfl, hb⟩; have HQ3 := Lib.hid (HQ2.out.trans (hb.mono HQ2.out.size)); have HV1 := Lib.hid (HV1.out.below hb); have HV2 := Lib.hid (HV2.out.below hb); clear hb)
          | (go_at_call 14; refine (fixed14 q3 (HTF.out _ HQ3.out)).mono ?_; rintro r q4 ⟨rfl, hb⟩; have HQ4 := Lib.hid (HQ3.out.trans (hb.mono HQ3.out.size)); clear hb)
          | fail)
        go_ret
        exact ⟨rfl, HBW.out.trans (HQ4.out.mono HBW.out.size)⟩
  · have hG : loopM d s 8 0 (ros l1) = ([], 0, E) := by rw [loop_err (by rw [hE]; exact hE0), hE]
    have hne : (E != 0) = true := by simpa using hE0
    have hee : (E == E) = true := by simp
    have HG := Lib.hid hG
    clear hE hG hE0 hT0
    go_wp2_with (first
      | (show wpList _ _ _ (⟨_, Op.load 26 (.tmp 4), _, _, _, _⟩ :: _) _ _; refine wpList_load_mid rfl 26 (.tmp 4) rfl w.heap.size 0 rfl _ _ (HXF.out _ HRF.out) Tryz.underlying26 rfl Co.size_conf ?_)
      | (go_at_call 30; refine (Cn.rows13 (.slice AL l1.length kL) (confV d (.slice A1 n1 c1) (.slice A2 n2 c2) (.slice A3 n3 c3) (.slice A4 n4 c4)) l1 d s W (HVF.out W HRF.out) (by omega) HFL.out.small HWL.out HFL.out.txt (HCF.out W HRF.out) HSM.out E T0 HE.out HT0.out).mono ?_; rintro r q1 ⟨V1, y1, rfl, -, hy, hv, hb⟩; obtain ⟨B1, j1, rfl⟩ := rv_form hv; have HQ1 := Lib.hid (HRF.out.trans (hb.mono HRF.out.size)); have hy1 := len_le hy hTl; have HY1 := Lib.hid hy; have HV1 := Lib.hid hv; clear hy hv hb)
      | (show wpList _ _ _ (⟨_, Op.load 26 (.tmp 4), _, _, _, _⟩ :: _) _ _; refine wpList_load_mid rfl 26 (.tmp 4) rfl w.heap.size 0 rfl _ _ (HXF.out _ HQ1.out) Tryz.underlying26 rfl Co.size_conf ?_)
      | (go_at_call 12; (with_reducible show Calls _ _ _ q1 _); refine (trees14 (.slice AL l1.length kL) (confV d (.slice A1 n1 c1) (.slice A2 n2 c2) (.slice A3 n3 c3) (.slice A4 n4 c4)) l1 d s q1 (HVF.out _ HQ1.out) HFL.out HWL.out (HTF.out _ HQ1.out) (HCF.out _ HQ1.out) HSM.out ([], 0, E) HG.out).mono ?_; rintro r q2 ⟨V2, y2, rfl, hy, hv, hb⟩; obtain ⟨B2, j2, rfl⟩ := rv_form hv; have HQ2 := Lib.hid (HQ1.out.trans (hb.mono HQ1.out.size)); have HY2 := Lib.hid hy; have HV2 := Lib.hid hv; have hy2 : y2.length = 0 := by { have := congrArg List.length HY2.out; rwa [len_ros] at this }; rw [hy2]; have HV1 := Lib.hid (HV1.out.below hb); clear hy hv hb)
      | (go_at_call 14; refine (fixed14 q2 (HTF.out _ HQ2.out)).mono ?_; rintro r q3 ⟨rfl, hb⟩; have HQ3 := Lib.hid (HQ2.out.trans (hb.mono HQ2.out.size)); clear hb)
      | fail)
    go_ret
    exact ⟨rfl, HBW.out.trans (HQ3.out.mono HBW.out.size)⟩

end Go.Proofs.YtgjlfcamgkeibaaGreatDoor.Se
