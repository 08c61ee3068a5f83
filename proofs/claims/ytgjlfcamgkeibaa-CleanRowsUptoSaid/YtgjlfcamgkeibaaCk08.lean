/-
  Arguments that are slices of structs: their parts, and what is read of each.
  An argument that is a slice of strings, as the row reads it: a list of strings, nil or not.
  An argument api.Conf, as a statement's row reads it.
  Walk of stage 12: the law's Bound.
  Stage 12: what the laws have in common: a configuration bounded, in a box of the law's own.
  Stage 13: what the laws have in common: rows and a configuration bounded.
-/
import Derived.Test.YtgjlfcamgkeibaaCk01
import Derived.Deep.Slices
import Derived.Deep.Fields
import Derived.ChangeSame
import Derived.ProofKit
import Derived.Carry
import Derived.Lib.SmallJoins
import Derived.Test.YtgjlfcamgkeibaaCk03
import Derived.SliceStrings
import Derived.Test.YtgjlfcamgkeibaaCk04
import Derived.Test.YtgjlfcamgkeibaaCk07
import Derived.Laws.Small
namespace Go.Proofs.Ytgjlfcamgkeibaa.Oq
set_option linter.unusedVariables false
set_option linter.unusedSimpArgs false
open Go.RowKit Go.ChangeShapes Go.WideShapes Go.Deep
section
variable {H : Type} {enc : TypeId × Value → H} {P : Program} {w : World} {base : Nat} {spare : Nat → Bool} {held : Bool}
/-- A slice of structs of one-cell fields: its parts. -/
theorem open_rows_both {t e : TypeId} {fs : Array Field} {fuel : Nat} {cs : List Value} {x : DataW H × List MemPlace} (ht : P.underlying t = some (.slice e)) (he : P.underlying e = some (.struct fs))
    (hone : oneCellFields P fs = true) (hC : P.cellsOf e = fs.size) (h : DataW.trod enc P w base spare held fuel t cs = some x) :
    cs = [.slice none 0 0] ∨
    ∃ (a : Addr) (len cap m : Nat) (Pl : Nat → List MemPlace) (D : Nat → DataW H) (sp : List (DataW H)), cs = [.slice (some a) len cap] ∧ len ≤ cap ∧ cap ≤ maxLen ∧ m = (if spare a.block then cap else len) ∧
      x.1 = .slice ((List.range len).map D) sp ∧ x.2 = MemPlace.row a (m * fs.size) ++ (List.range m).flatMap Pl ∧
      ∀ i, i < m → ∀ (j : Nat) (f : Field), fs[j]? = some f → ∃ (v : Value) (y : DataW H × List MemPlace) (n : Nat) (parts : List (DataW H)), w.cell? (a.add (i * fs.size + j)) = some v ∧ (∀ z ∈ y.2, z ∈ Pl i) ∧ D i = .agg parts ∧ parts[j]? = some y.1 ∧ DataW.trod enc P w base spare held n f.type [v] = some y := by
  rcases open_slice ht h with ⟨h0, _⟩ | ⟨a, len, cap, m, n, D, Pl, hcs, hb, hl, hm, hmm, hx, hi⟩
  · exact .inl h0
  · refine .inr ⟨a, len, cap, m, Pl, D, _, hcs, hl, hm, hmm, by rw [hx], by rw [hx, hC], fun i him j f hj => ?_⟩
    obtain ⟨cs', hc, ht'⟩ := hi i him
    rw [hC] at hc
    obtain ⟨ys, n', hn', hy, hlen, hyl, hf⟩ := DataW.trod_struct he ht'
    obtain ⟨_, hcl, hat⟩ := World.cells?_some hc
    simp only [Prod.mk.injEq] at hy
    obtain ⟨ho, hk⟩ := hone_of hone j f hj
    have hjl : j < fs.size := (Array.getElem?_eq_some_iff.1 hj).1
    have hcell := hat j hjl
    have hv : cs'[j]? = some (cs'[j]'(by omega)) := List.getElem?_eq_getElem (by omega)
    have h1 := hf j f hj
    rw [ho, hk] at h1
    have hone' : (cs'.drop j).take 1 = [cs'[j]'(by omega)] := by
      rw [List.drop_eq_getElem_cons (by omega)]
      rfl
    rw [hone'] at h1
    have hys : ys[j]? = some (ys[j]'(by omega)) := List.getElem?_eq_getElem (by omega)
    refine ⟨_, _, n', _, ?_, fun z hz => ?_, hy.1, by rw [List.getElem?_map, hys]; rfl, h1.trans hys⟩
    · rw [← Go.Deep.add_add, hcell, hv]
    · rw [hy.2]
      exact List.mem_flatMap.2 ⟨_, List.getElem_mem _, hz⟩
end
section
variable {H : Type} {enc : TypeId × Value → H} {P : Program} {w : World} {base : Nat} {spare : Nat → Bool} {held : Bool}
theorem list_of {α : Type} (Q : Nat → α → Prop) : ∀ n : Nat, (∀ i < n, ∃ x, Q i x) → ∃ l : List α, l.length = n ∧ ∀ i (h : i < l.length), Q i l[i]
  | 0, _ => ⟨[], rfl, fun i h => absurd h (by simp)⟩
  | n + 1, h => by
    obtain ⟨l, hl, hq⟩ := list_of Q n fun i hi => h i (by omega)
    obtain ⟨x, hx⟩ := h n (by omega)
    refine ⟨l ++ [x], by rw [List.length_append, hl]; rfl, fun i hi => ?_⟩
    rw [List.length_append, List.length_singleton] at hi
    by_cases e : i < l.length
    · rw [List.getElem_append_left e]
      exact hq i e
    · have : i = l.length := by omega
      subst this
      rw [List.getElem_append_right (Nat.le_refl _)]
      simp only [Nat.sub_self, List.getElem_cons_zero]
      rw [hl]; exact hx

/-- A struct of one-cell fields: its parts. -/
theorem open_agg_any {r : Reach} {b0 : Nat} {t : TypeId} {fs : Array Field} {v : Value} {d : DataW H} {p : List MemPlace} (hs : P.underlying t = some (.struct fs)) (hone : oneCellFields P fs = true) (hC : P.cellsOf t = fs.size)
    (hv : Value.okWide P w r b0 t v) (h : DataW.Trod enc P w base spare held t v d p) :
    ∃ (cs : Array Value) (ys : List (DataW H × List MemPlace)) (n : Nat), v = .agg cs ∧ cs.size = fs.size ∧ d = .agg (ys.map (·.1)) ∧ p = ys.flatMap (·.2) ∧
      ∀ (j : Nat) (f : Field), fs[j]? = some f → ∃ (u : Value) (y : DataW H × List MemPlace), cs[j]? = some u ∧ ys[j]? = some y ∧ DataW.trod enc P w base spare held n f.type [u] = some y := by
  obtain ⟨cs, rfl, hsz⟩ := okWide_struct hs hv
  obtain ⟨fuel, hf⟩ := h
  obtain ⟨ys, n', hn', hy, hlen, hyl, hat⟩ := DataW.trod_struct hs hf
  simp only [Prod.mk.injEq] at hy
  refine ⟨cs, ys, n', rfl, hsz.trans hC, hy.1, hy.2, fun j f hj => ?_⟩
  obtain ⟨ho, hk⟩ := hone_of hone j f hj
  have hjl : j < fs.size := (Array.getElem?_eq_some_iff.1 hj).1
  have hjc : j < cs.size := by rw [hsz, hC]; exact hjl
  have h1 := hat j f hj
  rw [ho, hk] at h1
  have hcl : ((Value.agg cs).cells.toList) = cs.toList := rfl
  have hone' : (((Value.agg cs).cells.toList).drop j).take 1 = [cs[j]] := by
    rw [hcl, List.drop_eq_getElem_cons (by rw [Array.length_toList]; exact hjc)]
    simp
  rw [hone'] at h1
  have hys : ys[j]? = some (ys[j]'(by omega)) := List.getElem?_eq_getElem (by omega)
  exact ⟨cs[j], _, Array.getElem?_eq_getElem hjc, hys, h1.trans hys⟩
end
end Go.Proofs.Ytgjlfcamgkeibaa.Oq

namespace Go.Proofs.Ytgjlfcamgkeibaa.Fo
set_option maxRecDepth 100000
set_option linter.unusedSimpArgs false
set_option linter.unusedVariables false
open Go.RowKit Ba Go.ChangeShapes Go.WideShapes Go.ChangeAt
theorem cells_str : Try.prog.cellsOf 9 = 1 := by kernel_rfl
theorem laidOut : laidOutB Try.prog = true := by kernel_rfl

end Go.Proofs.Ytgjlfcamgkeibaa.Fo

namespace Go.Proofs.Ytgjlfcamgkeibaa.Co
set_option maxRecDepth 100000
set_option linter.unusedVariables false
set_option linter.unusedSimpArgs false
open Go.RowKit Ba Fm Fo Nm Rk Go.ChangeShapes Go.WideShapes Go.ChangeAt Go.Deep
open Rz (Within reach_le)
open Oq (open_rows_both open_agg_any list_of)
/-- The sizes of what it holds. -/
structure St (c : Cf) : Prop where
  es : ∀ s ∈ c.els, s.size ≤ 140737488355328
  rs : ∀ s ∈ c.reps, s.size ≤ 140737488355328
  as_ : ∀ s ∈ c.ats, s.size ≤ 140737488355328
  ps : ∀ p ∈ c.per, p.el.size ≤ 140737488355328 ∧ ∀ s ∈ p.at_, s.size ≤ 140737488355328
section
variable {H : Type} {enc : TypeId × Value → H} {w : World}
theorem svs_in {fuel : Nat} {v : Value} {x : DataW H × List MemPlace} (hz : Within Try.prog 23 x.1) (h : DataW.trod enc Try.prog w 0 (fun _ => true) true fuel 23 [v] = some x) (N : Nat) (hlt : ∀ z ∈ x.2, z.block < N) : ∃ l, Sv w N v l ∧ ∀ s ∈ l, s.size ≤ 140737488355328 := by
  rcases open_strings Try.underlying23 Try.underlying9 cells_str h with ⟨hcs, hx⟩ | ⟨a, len', cap', ss, hcs, _, hl, hm, hzz, hx, hcell, hws⟩
  · obtain rfl : v = .slice none 0 0 := by simpa using hcs
    exact ⟨[], ⟨none, 0, rfl, Nat.le_refl _, fun _ => rfl, Rd.nil _ _ _⟩, fun s hs => by cases hs⟩
  · obtain rfl : v = .slice (some a) len' cap' := by simpa using hcs
    subst hx
    simp only [if_true] at hzz
    have hlen : (ss.take len').length = len' := by rw [List.length_take]; omega
    refine ⟨ss.take len', ⟨some a, cap', by rw [hlen], by rw [hlen]; exact hl, (fun e => by cases e), fun h0 => ?_⟩, fun s hs => reach_le (hz.elem (d := .lit (.string s.data.toList)) Try.underlying23 (List.mem_map.2 ⟨s, hs, rfl⟩)).str⟩
    rw [hlen] at h0
    obtain ⟨b, off, spot⟩ := a
    have hspot : spot = none := by simpa [Addr.add] using World.cell?_spot (hcell 0 (by omega))
    subst hspot
    have hbW : b < N := hlt (.cell b off) (MemPlace.mem_row.2 ⟨0, by omega, by simp⟩)
    refine ⟨b, off, rfl, hbW, fun j hj => ?_⟩
    rw [hlen] at hj
    have := hcell j (by omega)
    rw [add_plain] at this
    rw [this, List.getElem_take]
    congr 2
    rw [List.getD_eq_getElem?_getD, List.getElem?_eq_getElem (by omega)]
    rfl
theorem pers_in {fuel : Nat} {v : Value} {x : DataW H × List MemPlace} (hz : Within Try.prog 24 x.1) (h : DataW.trod enc Try.prog w 0 (fun _ => true) true fuel 24 [v] = some x) (N : Nat) (hlt : ∀ z ∈ x.2, z.block < N) :
    ∃ l, Pv w N v l ∧ ∀ p ∈ pes l, p.el.size ≤ 140737488355328 ∧ ∀ s ∈ p.at_, s.size ≤ 140737488355328 := by
  rcases open_rows_both Try.underlying24 Try.underlying48 (by kernel_rfl) (by kernel_rfl) h with hcs | ⟨a, len', cap', m, Pl, D, sp, hcs, hl, hm, hmm, hx1, hx, hi⟩
  · obtain rfl : v = .slice none 0 0 := by simpa using hcs
    exact ⟨[], ⟨none, 0, rfl, Nat.le_refl _, fun _ => rfl, Pr.nil _ _ _⟩, fun p hp => by simp [pes] at hp⟩
  · obtain rfl : v = .slice (some a) len' cap' := by simpa using hcs
    simp only [if_true] at hmm
    subst hmm
    obtain ⟨b, off, spot⟩ := a
    have hrow : ∀ i < len', ∃ r : Pw, (∀ (j : Nat) (u : Value), (pcells r)[j]? = some u → w.cell? ((⟨b, off, spot⟩ : Addr).add (i * 2 + j)) = some u) ∧ Sx w N r ∧ r.pe.el.size ≤ 140737488355328 ∧ ∀ s ∈ r.pe.at_, s.size ≤ 140737488355328 := fun i hil => by
      obtain ⟨v0, y0, n0, q0, c0, _, D0, g0, t0⟩ := hi i (by omega) 0 _ rfl
      obtain ⟨v1, y1, n1, q1, c1, p1, D1, g1, t1⟩ := hi i (by omega) 1 _ rfl
      rw [D0] at D1
      injection D1 with D1
      subst D1
      have hzi : Within Try.prog 48 (D i) := by
        rw [hx1] at hz
        exact hz.elem Try.underlying24 (List.mem_map.2 ⟨i, List.mem_range.2 hil, rfl⟩)
      rw [D0] at hzi
      have z0 := hzi.part Try.underlying48 (j := 0) rfl g0
      have z1 := hzi.part Try.underlying48 (j := 1) rfl g1
      obtain ⟨s0, e0, b0, _⟩ := DataW.trod_string Try.underlying9 t0
      obtain rfl : v0 = .string s0 := by simpa using e0
      rw [b0] at z0
      obtain ⟨l, hs, hk⟩ := svs_in z1 t1 N fun z hzz => hlt z (by
        rw [hx]
        exact List.mem_append_right _ (List.mem_flatMap.2 ⟨i, List.mem_range.2 (by omega), p1 z hzz⟩))
      have hs' := hs
      obtain ⟨A, c, rfl, _, _, _⟩ := hs'
      refine ⟨⟨⟨s0, l⟩, A, c⟩, fun j u hu => ?_, hs, reach_le z0.str, hk⟩
      match j, hu with
      | 0, hu => exact c0.trans hu
      | 1, hu => exact c1.trans hu
      | j + 2, hu => exact absurd hu (by simp [pcells])
    obtain ⟨l, hll, hq⟩ := list_of _ len' hrow
    refine ⟨l, ⟨some ⟨b, off, spot⟩, _, by rw [hll], by omega, (fun e => by cases e), fun h0 => ?_, fun r hr => ?_⟩, fun p hp => ?_⟩
    · have hspot : spot = none := by
        have := World.cell?_spot ((hq 0 h0).1 0 _ rfl)
        simpa [Addr.add] using this
      subst hspot
      refine ⟨b, off, rfl, hlt (.cell b off) (by rw [hx]; exact List.mem_append_left _ (MemPlace.mem_row.2 ⟨0, by show 0 < _ * 2; omega, by simp⟩)), fun j hj k u hu => ?_⟩
      have := (hq j hj).1 k u hu
      rw [add_plain] at this
      rw [show off + j * 2 + k = off + (j * 2 + k) by omega]
      exact this
    · obtain ⟨j, hj, rfl⟩ := List.getElem_of_mem hr
      exact (hq j hj).2.1
    · obtain ⟨z, hz', rfl⟩ := List.mem_map.1 hp
      obtain ⟨j, hj, rfl⟩ := List.getElem_of_mem hz'
      exact (hq j hj).2.2
theorem open_cf {base : Nat} {v : Value} {d : DataW H} {p : List MemPlace} (hz : Within Try.prog 26 d) (hv : Value.okWide Try.prog w .any base 26 v)
    (h : ∃ fuel, DataW.trod enc Try.prog w 0 (fun _ => true) true fuel 26 v.cells.toList = some (d, p)) (hlt : ∀ z ∈ p, z.block < w.heap.size) : ∃ c, Cv w w.heap.size v c ∧ St c := by
  obtain ⟨cs, ys, n, rfl, hcs, hd, hp, hat⟩ := open_agg_any Try.underlying26 (by kernel_rfl) (by kernel_rfl) hv h
  obtain ⟨v0, y0, c0, g0, t0⟩ := hat 0 _ rfl
  obtain ⟨v1, y1, c1, g1, t1⟩ := hat 1 _ rfl
  obtain ⟨v2, y2, c2, g2, t2⟩ := hat 2 _ rfl
  obtain ⟨v3, y3, c3, g3, t3⟩ := hat 3 _ rfl
  obtain ⟨v4, y4, c4, g4, t4⟩ := hat 4 _ rfl
  obtain ⟨v5, y5, c5, g5, t5⟩ := hat 5 _ rfl
  obtain ⟨v6, y6, c6, g6, t6⟩ := hat 6 _ rfl
  obtain ⟨v7, y7, c7, g7, t7⟩ := hat 7 _ rfl
  subst hd
  have gm : ∀ {j : Nat} {y : DataW H × List MemPlace}, ys[j]? = some y → (ys.map (·.1))[j]? = some y.1 := fun h => by rw [List.getElem?_map, h]; rfl
  have lt : ∀ {j : Nat} {y : DataW H × List MemPlace}, ys[j]? = some y → ∀ z ∈ y.2, z.block < w.heap.size := fun h z hzz => hlt z (by
    rw [hp]
    exact List.mem_flatMap.2 ⟨_, List.mem_of_getElem? h, hzz⟩)
  obtain ⟨b0, e0, _⟩ := DataW.trod_bool Try.underlying4 t0
  obtain ⟨b1, e1, _⟩ := DataW.trod_bool Try.underlying4 t1
  obtain ⟨lE, sE, kE⟩ := svs_in (hz.part Try.underlying26 (j := 2) rfl (gm g2)) t2 w.heap.size (lt g2)
  obtain ⟨lR, sR, kR⟩ := svs_in (hz.part Try.underlying26 (j := 3) rfl (gm g3)) t3 w.heap.size (lt g3)
  obtain ⟨lA, sA, kA⟩ := svs_in (hz.part Try.underlying26 (j := 4) rfl (gm g4)) t4 w.heap.size (lt g4)
  obtain ⟨lP, sP, kP⟩ := pers_in (hz.part Try.underlying26 (j := 5) rfl (gm g5)) t5 w.heap.size (lt g5)
  obtain ⟨b6, e6, _⟩ := DataW.trod_bool Try.underlying4 t6
  obtain ⟨b7, e7, _⟩ := DataW.trod_bool Try.underlying4 t7
  obtain rfl : v0 = .bool b0 := by simpa using e0
  obtain rfl : v1 = .bool b1 := by simpa using e1
  obtain rfl : v6 = .bool b6 := by simpa using e6
  obtain rfl : v7 = .bool b7 := by simpa using e7
  refine ⟨⟨b0, b1, lE, lR, lA, pes lP, b6, b7⟩, ⟨v2, v3, v4, v5, lP, ?_, sE, sR, sA, sP, rfl⟩, kE, kR, kA, kP⟩
  have hcs8 : cs.size = 8 := hcs
  congr 1
  apply Array.ext_getElem?
  intro i
  match i with
  | 0 => exact c0
  | 1 => exact c1
  | 2 => exact c2
  | 3 => exact c3
  | 4 => exact c4
  | 5 => exact c5
  | 6 => exact c6
  | 7 => exact c7
  | i + 8 => rw [Array.getElem?_eq_none (by omega), Array.getElem?_eq_none (by simp)]
end

end Go.Proofs.Ytgjlfcamgkeibaa.Co

namespace Go.Proofs.Ytgjlfcamgkeibaa.Co
set_option maxRecDepth 100000
set_option linter.unusedVariables false
set_option linter.unusedSimpArgs false
open Go.RowKit Ba Fm Fo Nm Rk
/-- Lists of at most 70, of at most 12 elements with their own. -/
def boundC (c : Cf) : Cf := ⟨c.allow, c.attrsAllow, c.els.take 70, c.reps.take 70, c.ats.take 70, (c.per.take 12).map fun p => ⟨p.el, p.at_.take 70⟩, c.comments, c.dataAttrs⟩
theorem min_named (x m k : Nat) (hk : min x m = k) (M : Int) (hM : M = m) (ts : Array TypeId) (t : TypeId) (w : World) : (Builtin.min_ ts t #[.int .i64 x, .int .i64 M]).run Try.prog w = .ok (.int .i64 k) w := by
  rw [run_min_int2]
  congr 2
  split <;> omega
theorem sx_snoc {w w' : World} {N : Nat} {acc : List Pw} {z : Pw} (h : ∀ y ∈ acc, Sx w N y) (hz : Sx w N z) (hb : Below N w w') : ∀ y ∈ acc ++ [z], Sx w' N y := fun y hy => by
  rcases List.mem_append.1 hy with h1 | h1
  · exact (h y h1).below hb
  · obtain rfl := List.mem_singleton.1 h1
    exact hz.below hb
theorem po_kept {N : Nat} {w W : World} {v : Value} {l : List Pw} (h : Po N w v l) (hs : ∀ z ∈ l, Sx W W.heap.size z) (hk : ∀ b, N ≤ b → b < w.heap.size → W.heap[b]? = w.heap[b]?) (hz : w.heap.size ≤ W.heap.size) : Pv W W.heap.size v l := by
  obtain ⟨A, c, e, h1, _, h2, h3⟩ := h.form
  refine ⟨A, c, e, h1, h2, fun h0 => ?_, hs⟩
  obtain ⟨b, off, eA, hb, hc⟩ := h3.1 h0
  have hN : N ≤ b := (World.ownsRow.lt h.1 b (by rw [e, eA]; simp [Value.ownBlock])).1
  exact ⟨b, off, eA, by omega, fun j hj => range_keep12 (hc j hj) fun o => World.cell?_of_block (a := ⟨b, o, none⟩) (hk b hN hb)⟩
theorem step_min {ops : Array Oper} {o : Oper} {a : Act} {K : Act → World → Prop} {Q : Exit → Act → World → Prop} {E : Prop} (W : World) (hgd : o.guard = none) (x : Operand)
    (ho : o.op = .call { callee := .builtin .min, args := #[x, .const (.int .i64 70)], argTypes := #[3, 3] }) (n m : Nat) (hm : min n 70 = m) (hx : a.eval x = .int .i64 n) (h : K (a.put o.dst (.int .i64 m)) W) :
    if Region.wanted o (yielded ops a.tmps) = true then Oper.wp Try.prog o a W K Q else E := by
  rw [if_pos (show Region.wanted o (yielded ops a.tmps) = true by simp [Region.wanted, hgd])]
  have hrun := fun ts t => min_named n 70 m hm 70 rfl ts t W
  have hc : a.eval (.const (.int .i64 70)) = .int .i64 70 := rfl
  unfold Oper.wp
  simp [execOp, ho, resolve, invoke, builtin, hx, hc, hrun, Result.andThen]
  exact h
theorem sv_takeC {w : World} {N c m : Nat} {A : Option Addr} {l : List ByteArray} (h : Sv w N (.slice A l.length c) l) (k : Nat) (hm : min l.length k = m) : Sv w N (.slice A m c) (l.take k) := by
  obtain ⟨A', c', e, hc, hn, hr⟩ := h
  injection e with e1 e2 e3
  subst e1 e3
  have e : (l.take k).length = m := by rw [List.length_take, Nat.min_comm]; exact hm
  exact ⟨A, c, by rw [e], by rw [e]; omega, hn, hr.take k⟩
theorem cut_snoc {l : List Pw} {k : Nat} {x : Pw} {acc : List Pw} (h : l[k]? = some x) (ha : pes acc = (pes (l.take k)).map fun p => ⟨p.el, p.at_.take 70⟩) (z : Pw) (hz : z.pe = ⟨x.pe.el, x.pe.at_.take 70⟩) : pes (acc ++ [z]) = (pes (l.take (k + 1))).map fun p => ⟨p.el, p.at_.take 70⟩ := by
  have hk : k < l.length := (List.getElem?_eq_some_iff.1 h).1
  have hx : l[k] = x := (List.getElem?_eq_some_iff.1 h).2
  rw [List.take_succ_eq_append_getElem hk, pes_append, pes_append, hx, List.map_append, ha]
  simp [pes, hz]
theorem ap_cut {w : World} {N M : Nat} {x : Pw} (h : Sx w N x) (hN : N ≤ M) (z : Pw) (hA : z.A = x.A) (hz : z.pe.at_.length ≤ x.pe.at_.length) : Ap w M z := fun h0 => by
  obtain ⟨A, c, e, _, _, hr⟩ := h
  injection e with e1 e2 e3
  obtain ⟨b, off, e', hb, _⟩ := hr (by omega)
  exact ⟨b, off, by rw [hA, e1, e'], .inl (by omega)⟩
set_option maxRecDepth 100000 in
set_option maxHeartbeats 2000000 in
theorem bound12 (v : Value) (c : Cf) (w : World) (h : Cv w w.heap.size v c) :
    Calls Try.prog 6 #[v] w fun r w' => ∃ v', r = .returned v' ∧ Cv w' w'.heap.size v' (boundC c) ∧ Below w.heap.size w w' := by
  obtain ⟨vE, vR, vA, vP, l, rfl, h⟩ := h
  obtain ⟨al, aa, els, reps, ats, per, cm, da⟩ := c
  obtain ⟨E, ce, rfl, he1, he2, he3⟩ := h.e
  obtain ⟨R, cr, rfl, hr1, hr2, hr3⟩ := h.r
  obtain ⟨T, ct, rfl, ht1, ht2, ht3⟩ := h.a
  obtain ⟨A, cp, rfl, hp1, hp2, hp3⟩ := h.p
  obtain ⟨n1, hn1⟩ : ∃ n, els.length = n := ⟨_, rfl⟩
  obtain ⟨n2, hn2⟩ : ∃ n, reps.length = n := ⟨_, rfl⟩
  obtain ⟨n3, hn3⟩ : ∃ n, ats.length = n := ⟨_, rfl⟩
  obtain ⟨m1, hm1⟩ : ∃ n, min n1 70 = n := ⟨_, rfl⟩
  obtain ⟨m2, hm2⟩ : ∃ n, min n2 70 = n := ⟨_, rfl⟩
  obtain ⟨m3, hm3⟩ : ∃ n, min n3 70 = n := ⟨_, rfl⟩
  have q1 := fun ts t w => min_named n1 70 m1 hm1 70 rfl ts t w
  have q2 := fun ts t w => min_named n2 70 m2 hm2 70 rfl ts t w
  have q3 := fun ts t w => min_named n3 70 m3 hm3 70 rfl ts t w
  have u1 : m1 ≤ ce := by simp only at he1; omega
  have u2 : m2 ≤ cr := by simp only at hr1; omega
  have u3 : m3 ≤ ct := by simp only at ht1; omega
  simp only
  rw [hn1, hn2, hn3]
  have H0 := Lib.hid h
  clear he1 he2 he3 hr1 hr2 hr3 ht1 ht2 ht3 hp1 hp2 hp3 h
  go_enter Try.func6, Try.ntmps6
  go_upto_region 5 with (fail)
  obtain ⟨w0, hw0⟩ : ∃ w0, (w.alloc (.cells #[.bool al, .bool aa, .slice E m1 ce, .slice R m2 cr, .slice T m3 ct, .slice A l.length cp, .bool cm, .bool da] 26)).alloc (.cells #[.bool false, .bool false, .slice none 0 0, .slice none 0 0, .slice none 0 0, .slice none 0 0, .bool false, .bool false] 26) = w0 := ⟨_, rfl⟩
  rw [hw0]
  have hz0 : w0.heap.size = w.heap.size + 1 + 1 := by rw [← hw0]; simp
  have hb0 : Below w.heap.size w w0 := hw0 ▸ below_two w _ _
  have hh1 : Hb w0 w.heap.size #[.bool al, .bool aa, .slice E m1 ce, .slice R m2 cr, .slice T m3 ct, .slice A l.length cp, .bool cm, .bool da] := hw0 ▸ (Hb.new w _).on (below_new12 _ _)
  have hh2 : Hb w0 (w.heap.size + 1) #[.bool false, .bool false, .slice none 0 0, .slice none 0 0, .slice none 0 0, .slice none 0 0, .bool false, .bool false] := by
    have := Hb.new (w.alloc (.cells #[.bool al, .bool aa, .slice E m1 ce, .slice R m2 cr, .slice T m3 ct, .slice A l.length cp, .bool cm, .bool da] 26)) #[.bool false, .bool false, .slice none 0 0, .slice none 0 0, .slice none 0 0, .slice none 0 0, .bool false, .bool false]
    rw [World.size_alloc] at this
    exact hw0 ▸ this
  have h := H0.out
  have ho0 := Po.made w0
  rw [hz0] at ho0
  obtain ⟨A', cp', e, hp1, hp2, hp3⟩ := h.p
  injection e with e1 e2 e3
  subst e1 e3
  have hlast : Cp w w.heap.size (boundC ⟨al, aa, els, reps, ats, per, cm, da⟩) (.slice E m1 ce) (.slice R m2 cr) (.slice T m3 ct) (.slice none 0 0) [] → True := fun _ => trivial
  have hse := sv_takeC (m := m1) h.e 70 (show min els.length 70 = m1 by rw [hn1]; exact hm1)
  have hsr := sv_takeC (m := m2) h.r 70 (show min reps.length 70 = m2 by rw [hn2]; exact hm2)
  have hst := sv_takeC (m := m3) h.a 70 (show min ats.length 70 = m3 by rw [hn3]; exact hm3)
  have hper : (per.take 12).map (fun p => (⟨p.el, p.at_.take 70⟩ : Pe)) = (pes (l.take 12)).map fun p => ⟨p.el, p.at_.take 70⟩ := by rw [← pes_take]; have := h.m; simp only at this; rw [this]
  have HP := Lib.hid hp3; have HH1 := Lib.hid hh1; have HH2 := Lib.hid hh2; have HB0 := Lib.hid hb0
  have HSE := Lib.hid hse; have HSR := Lib.hid hsr; have HST := Lib.hid hst; have HPER := Lib.hid hper
  clear hw0 hb0 hh1 hh2 h hp3 hlast hse hsr hst hper H0 q1 q2 q3
  go_wp2
  go_loopw [3, 4] (fun v i wr => ∃ (k : Nat) (acc : List Pw), i = .int .i64 k ∧ k ≤ l.length ∧ k ≤ 12 ∧ acc.length = k ∧ Po (w.heap.size + 1 + 1) wr v acc ∧ pes acc = (pes (l.take k)).map (fun p => ⟨p.el, p.at_.take 70⟩) ∧ (∀ z ∈ acc, Sx wr w.heap.size z) ∧ Below w0.heap.size w0 wr) (fun _ i _ => l.length - (intOf i).toNat)
  case atStart => exact ⟨0, [], rfl, Nat.zero_le _, Nat.zero_le _, rfl, ho0, rfl, (fun z hz => by cases hz), below_new12 w0 _⟩
  case round =>
    clear ho0
    obtain ⟨k, acc, rfl, hks, hk12, hal, hown, hpes, hsa, hbel⟩ := hrel
    have hhb1 := HH1.out.below hbel (by omega)
    have g5 := hhb1.cell 5 _ rfl
    have hbw : Below w.heap.size w wr := HB0.out.trans (hbel.mono (by omega))
    have hsz := hbel.size
    by_cases hk : k < l.length
    · by_cases hk2 : k < 12
      · obtain ⟨b, off, x, rfl, hb, hx, hcs, hsx, hxm⟩ := (HP.out.below hbw).at_ k hk
        obtain ⟨k0, k1⟩ := range2p hcs
        obtain ⟨m, hm⟩ : ∃ n, min x.pe.at_.length 70 = n := ⟨_, rfl⟩
        have hmin := fun ts t w => min_named x.pe.at_.length 70 m hm 70 rfl ts t w
        have hif : (if (70 : Int) < (x.pe.at_.length : Int) then (70 : Int) else (x.pe.at_.length : Int)) = (m : Int) := by split <;> omega
        have hmc : m ≤ x.c := by obtain ⟨A', c', e, hc, _, _⟩ := hsx; injection e with e1 e2 e3; omega
        have hlz : (x.pe.at_.take 70).length = m := by rw [List.length_take, Nat.min_comm]; exact hm
        obtain ⟨z, hz⟩ : ∃ z : Pw, z = ⟨⟨x.pe.el, x.pe.at_.take 70⟩, x.A, x.c⟩ := ⟨_, rfl⟩
        have hzv : perO z = .cells #[.string x.pe.el, .slice x.A m x.c] 48 := by rw [hz, ← hlz]
        have hsz1 : Sx wr w.heap.size z := by
          rw [hz]
          unfold Sx
          simp only
          rw [hlz]
          exact sv_takeC hsx 70 hm
        have hap : Ap wr (w.heap.size + 1 + 1) z := ap_cut hsx (by omega) z (by rw [hz]) (by rw [hz]; simp only; rw [hlz]; omega)
        have hpz := cut_snoc hx hpes z (by rw [hz])
        have HO := Lib.hid hown; have HZ1 := Lib.hid (hsz1.more (show w.heap.size ≤ wr.heap.size by omega)); have HAP := Lib.hid hap; have HPZ := Lib.hid hpz; have HZV := Lib.hid hzv; have HBL := Lib.hid hbel; have HAL := Lib.hid hal; have HM := Lib.hid hm; have HSA := Lib.hid hsa; have HZ0 := Lib.hid hsz1
        have hacc : acc.length ≤ 2000000 := by omega
        have hk0 : (0 : Int) ≤ (k : Int) := by omega
        have hk1 : (k : Int) < (l.length : Int) := by omega
        have hk2' : (k : Int) < 12 := by omega
        clear hcs hsx hx hxm hpes hsa hown hbel hbw hsz1 hap hpz hz hzv hhb1 hal hm hlz
        have HBK := Lib.hid (fun wx (hb : Below (w.heap.size + 1 + 1) wr wx) => (show wx.cell? ⟨w.heap.size, 5, none⟩ = some (.slice (some ⟨b, off, none⟩) l.length cp) ∧ wx.cell? ⟨b, off + k * 2, none⟩ = some (.string x.pe.el) ∧ wx.cell? ⟨b, off + k * 2 + 1, none⟩ = some (.slice x.A x.pe.at_.length x.c) from ⟨(hb.cell (p := ⟨w.heap.size, 5, none⟩) (show w.heap.size < w.heap.size + 1 + 1 by omega)).trans g5, (hb.cell (p := ⟨b, off + k * 2, none⟩) (show b < w.heap.size + 1 + 1 by omega)).trans k0, (hb.cell (p := ⟨b, off + k * 2 + 1, none⟩) (show b < w.heap.size + 1 + 1 by omega)).trans k1⟩))
        go_wp2_with fail
        refine wp_region_noPanic ?_
        refine Ph.T_begin (fun wx => wx.cell? ⟨w.heap.size, 5, none⟩ = some (.slice (some ⟨b, off, none⟩) l.length cp) ∧ wx.cell? ⟨b, off + k * 2, none⟩ = some (.string x.pe.el) ∧ wx.cell? ⟨b, off + k * 2 + 1, none⟩ = some (.slice x.A x.pe.at_.length x.c)) 25 (by kernel_rfl) ?_ (fun hHeld => ?_)
        · exact HBK.out _ (bel_eq12 (Below.refl _ wr) rfl rfl rfl rfl)
        refine Ph.T_pure (i := 0) (oi := _) (v := ?_) rfl (by kernel_rfl) (by kernel_rfl) (by kernel_rfl) (by kernel_rfl) (fun _ _ _ h => h) (Or.inl ⟨by rfl, ?_⟩) (by assumption) (fun hHeld => ?_)
        rotate_left
        · intro w hSw; (try dsimp only at hSw); go_simp; all_goals with_reducible rfl
        try simp only [Act.put, List.getElem_toArray, List.getElem_cons_zero, List.getElem_cons_succ, List.setIfInBounds_toArray, List.set_cons_zero, List.set_cons_succ]
        refine Ph.T_pure (i := 1) (oi := _) (v := ?_) rfl (by kernel_rfl) (by kernel_rfl) (by kernel_rfl) (by kernel_rfl) (fun _ _ _ h => h) (Or.inl ⟨by rfl, ?_⟩) (by assumption) (fun hHeld => ?_)
        rotate_left
        · intro w hSw; (try dsimp only at hSw); go_simp; all_goals with_reducible rfl
        try simp only [Act.put, List.getElem_toArray, List.getElem_cons_zero, List.getElem_cons_succ, List.setIfInBounds_toArray, List.set_cons_zero, List.set_cons_succ]
        refine Ph.T_take (i := 2) (oi := _) (v := ?_) rfl (by kernel_rfl) (by kernel_rfl) (by kernel_rfl) (by kernel_rfl) (fun _ _ _ h => h) (Or.inl ⟨by rfl, ?_⟩) (by assumption) (fun hHeld => ?_)
        rotate_left
        · intro w hSw; (try dsimp only at hSw); go_simp; all_goals with_reducible rfl
        try simp only [Act.put, List.getElem_toArray, List.getElem_cons_zero, List.getElem_cons_succ, List.setIfInBounds_toArray, List.set_cons_zero, List.set_cons_succ]
        refine Ph.T_pure (i := 3) (oi := _) (v := ?_) rfl (by kernel_rfl) (by kernel_rfl) (by kernel_rfl) (by kernel_rfl) (fun _ _ _ h => h) (Or.inl ⟨by rfl, ?_⟩) (by assumption) (fun hHeld => ?_)
        rotate_left
        · intro w hSw; (try dsimp only at hSw); go_simp; all_goals with_reducible rfl
        try simp only [Act.put, List.getElem_toArray, List.getElem_cons_zero, List.getElem_cons_succ, List.setIfInBounds_toArray, List.set_cons_zero, List.set_cons_succ]
        refine Ph.T_pure (i := 4) (oi := _) (v := ?_) rfl (by kernel_rfl) (by kernel_rfl) (by kernel_rfl) (by kernel_rfl) (fun _ _ _ h => h) (Or.inl ⟨by rfl, ?_⟩) (by assumption) (fun hHeld => ?_)
        rotate_left
        · intro w hSw; (try dsimp only at hSw); go_simp; all_goals with_reducible rfl
        try simp only [Act.put, List.getElem_toArray, List.getElem_cons_zero, List.getElem_cons_succ, List.setIfInBounds_toArray, List.set_cons_zero, List.set_cons_succ]
        refine Ph.T_pure (i := 5) (oi := _) (v := ?_) rfl (by kernel_rfl) (by kernel_rfl) (by kernel_rfl) (by kernel_rfl) (fun _ _ _ h => h) (Or.inl ⟨by rfl, ?_⟩) (by assumption) (fun hHeld => ?_)
        rotate_left
        · intro w hSw; (try dsimp only at hSw); go_simp; all_goals with_reducible rfl
        try simp only [Act.put, List.getElem_toArray, List.getElem_cons_zero, List.getElem_cons_succ, List.setIfInBounds_toArray, List.set_cons_zero, List.set_cons_succ]
        refine Ph.T_take (i := 6) (oi := _) (v := ?_) rfl (by kernel_rfl) (by kernel_rfl) (by kernel_rfl) (by kernel_rfl) (fun _ _ _ h => h) (Or.inl ⟨by rfl, ?_⟩) (by assumption) (fun hHeld => ?_)
        rotate_left
        · intro w hSw; (try dsimp only at hSw); go_simp; all_goals with_reducible rfl
        try simp only [Act.put, List.getElem_toArray, List.getElem_cons_zero, List.getElem_cons_succ, List.setIfInBounds_toArray, List.set_cons_zero, List.set_cons_succ]
        refine Ph.T_pure (i := 7) (oi := _) (v := ?_) rfl (by kernel_rfl) (by kernel_rfl) (by kernel_rfl) (by kernel_rfl) (fun _ _ _ h => h) (Or.inl ⟨by rfl, ?_⟩) (by assumption) (fun hHeld => ?_)
        rotate_left
        · intro w hSw; (try dsimp only at hSw); go_simp; all_goals with_reducible rfl
        try simp only [Act.put, List.getElem_toArray, List.getElem_cons_zero, List.getElem_cons_succ, List.setIfInBounds_toArray, List.set_cons_zero, List.set_cons_succ]
        refine Ph.T_take (i := 8) (oi := _) (v := ?_) rfl (by kernel_rfl) (by kernel_rfl) (by kernel_rfl) (by kernel_rfl) (fun _ _ _ h => h) (Or.inl ⟨by rfl, ?_⟩) (by assumption) (fun hHeld => ?_)
        rotate_left
        · intro w hSw; (try dsimp only at hSw); go_simp; all_goals with_reducible rfl
        try simp only [Act.put, List.getElem_toArray, List.getElem_cons_zero, List.getElem_cons_succ, List.setIfInBounds_toArray, List.set_cons_zero, List.set_cons_succ]
        refine Ph.T_pure (i := 9) (oi := _) (v := ?_) rfl (by kernel_rfl) (by kernel_rfl) (by kernel_rfl) (by kernel_rfl) (fun _ _ _ h => h) (Or.inl ⟨by rfl, ?_⟩) (by assumption) (fun hHeld => ?_)
        rotate_left
        · intro w hSw; (try dsimp only at hSw); go_simp; all_goals with_reducible rfl
        try simp only [Act.put, List.getElem_toArray, List.getElem_cons_zero, List.getElem_cons_succ, List.setIfInBounds_toArray, List.set_cons_zero, List.set_cons_succ]
        refine Ph.T_pure (i := 10) (oi := _) (v := ?_) rfl (by kernel_rfl) (by kernel_rfl) (by kernel_rfl) (by kernel_rfl) (fun _ _ _ h => h) (Or.inl ⟨by rfl, ?_⟩) (by assumption) (fun hHeld => ?_)
        rotate_left
        · intro w hSw; (try dsimp only at hSw); go_simp; all_goals with_reducible rfl
        try simp only [Act.put, List.getElem_toArray, List.getElem_cons_zero, List.getElem_cons_succ, List.setIfInBounds_toArray, List.set_cons_zero, List.set_cons_succ]
        refine Ph.T_pure (i := 11) (oi := _) (v := ?_) rfl (by kernel_rfl) (by kernel_rfl) (by kernel_rfl) (by kernel_rfl) (fun _ _ _ h => h) (Or.inl ⟨by rfl, ?_⟩) (by assumption) (fun hHeld => ?_)
        rotate_left
        · intro w hSw; (try dsimp only at hSw); go_simp; all_goals with_reducible rfl
        try simp only [Act.put, List.getElem_toArray, List.getElem_cons_zero, List.getElem_cons_succ, List.setIfInBounds_toArray, List.set_cons_zero, List.set_cons_succ]
        refine Ph.T_take (i := 12) (oi := _) (v := ?_) rfl (by kernel_rfl) (by kernel_rfl) (by kernel_rfl) (by kernel_rfl) (fun _ _ _ h => h) (Or.inl ⟨by rfl, ?_⟩) (by assumption) (fun hHeld => ?_)
        rotate_left
        · intro w hSw; (try dsimp only at hSw); go_simp; all_goals with_reducible rfl
        try simp only [Act.put, List.getElem_toArray, List.getElem_cons_zero, List.getElem_cons_succ, List.setIfInBounds_toArray, List.set_cons_zero, List.set_cons_succ]
        refine Ph.T_pure (i := 13) (oi := _) (v := ?_) rfl (by kernel_rfl) (by kernel_rfl) (by kernel_rfl) (by kernel_rfl) (fun _ _ _ h => h) (Or.inl ⟨by rfl, ?_⟩) (by assumption) (fun hHeld => ?_)
        rotate_left
        · intro w hSw; (try dsimp only at hSw); go_simp; all_goals with_reducible rfl
        try simp only [Act.put, List.getElem_toArray, List.getElem_cons_zero, List.getElem_cons_succ, List.setIfInBounds_toArray, List.set_cons_zero, List.set_cons_succ]
        refine Ph.T_take (i := 14) (oi := _) (v := ?_) rfl (by kernel_rfl) (by kernel_rfl) (by kernel_rfl) (by kernel_rfl) (fun _ _ _ h => h) (Or.inl ⟨by rfl, ?_⟩) (by assumption) (fun hHeld => ?_)
        rotate_left
        · intro w hSw; (try dsimp only at hSw); go_simp; all_goals with_reducible rfl
        try simp only [Act.put, List.getElem_toArray, List.getElem_cons_zero, List.getElem_cons_succ, List.setIfInBounds_toArray, List.set_cons_zero, List.set_cons_succ]
        refine Ph.T_pure (i := 15) (oi := _) (v := ?_) rfl (by kernel_rfl) (by kernel_rfl) (by kernel_rfl) (by kernel_rfl) (fun _ _ _ h => h) (Or.inl ⟨by rfl, ?_⟩) (by assumption) (fun hHeld => ?_)
        rotate_left
        · intro w hSw; (try dsimp only at hSw); go_simp; all_goals with_reducible rfl
        try simp only [Act.put, List.getElem_toArray, List.getElem_cons_zero, List.getElem_cons_succ, List.setIfInBounds_toArray, List.set_cons_zero, List.set_cons_succ]
        refine Ph.T_pure (i := 16) (oi := _) (v := ?_) rfl (by kernel_rfl) (by kernel_rfl) (by kernel_rfl) (by kernel_rfl) (fun _ _ _ h => h) (Or.inl ⟨by rfl, ?_⟩) (by assumption) (fun hHeld => ?_)
        rotate_left
        · intro w hSw; (try dsimp only at hSw); go_simp; all_goals with_reducible rfl
        try simp only [Act.put, List.getElem_toArray, List.getElem_cons_zero, List.getElem_cons_succ, List.setIfInBounds_toArray, List.set_cons_zero, List.set_cons_succ]
        refine Ph.T_pure (i := 17) (oi := _) (v := ?_) rfl (by kernel_rfl) (by kernel_rfl) (by kernel_rfl) (by kernel_rfl) (fun _ _ _ h => h) (Or.inl ⟨by rfl, ?_⟩) (by assumption) (fun hHeld => ?_)
        rotate_left
        · intro w hSw; (try dsimp only at hSw); go_simp; all_goals with_reducible rfl
        try simp only [Act.put, List.getElem_toArray, List.getElem_cons_zero, List.getElem_cons_succ, List.setIfInBounds_toArray, List.set_cons_zero, List.set_cons_succ]
        refine Ph.T_take (i := 18) (oi := _) (v := ?_) rfl (by kernel_rfl) (by kernel_rfl) (by kernel_rfl) (by kernel_rfl) (fun _ _ _ h => h) (Or.inl ⟨by rfl, ?_⟩) (by assumption) (fun hHeld => ?_)
        rotate_left
        · intro w hSw; (try dsimp only at hSw); go_simp; all_goals with_reducible rfl
        try simp only [Act.put, List.getElem_toArray, List.getElem_cons_zero, List.getElem_cons_succ, List.setIfInBounds_toArray, List.set_cons_zero, List.set_cons_succ]
        refine Ph.T_pure (i := 19) (oi := _) (v := ?_) rfl (by kernel_rfl) (by kernel_rfl) (by kernel_rfl) (by kernel_rfl) (fun _ _ _ h => h) (Or.inl ⟨by rfl, ?_⟩) (by assumption) (fun hHeld => ?_)
        rotate_left
        · intro w hSw; (try dsimp only at hSw); go_simp; all_goals with_reducible rfl
        try simp only [Act.put, List.getElem_toArray, List.getElem_cons_zero, List.getElem_cons_succ, List.setIfInBounds_toArray, List.set_cons_zero, List.set_cons_succ]
        refine Ph.T_one (i := 20) (o := _) (by kernel_rfl) rfl (fun K hK => ?_)
        refine step_min _ (by rfl) (.tmp 60) (by rfl) _ m HM.out (by simp [Act.eval, Act.put]) ?_
        refine hK.out _ _ ?_ (fun hHeld => ?_)
        · exact HBK.out _ (bel_eq12 (Below.refl _ wr) rfl rfl rfl rfl)
        clear hK K
        try simp only [Act.put, List.getElem_toArray, List.getElem_cons_zero, List.getElem_cons_succ, List.setIfInBounds_toArray, List.set_cons_zero, List.set_cons_succ]
        refine Ph.T_pure (i := 21) (oi := _) (v := ?_) rfl (by kernel_rfl) (by kernel_rfl) (by kernel_rfl) (by kernel_rfl) (fun _ _ _ h => h) (Or.inl ⟨by rfl, ?_⟩) (by assumption) (fun hHeld => ?_)
        rotate_left
        · intro w hSw; (try dsimp only at hSw); go_simp; all_goals with_reducible rfl
        try simp only [Act.put, List.getElem_toArray, List.getElem_cons_zero, List.getElem_cons_succ, List.setIfInBounds_toArray, List.set_cons_zero, List.set_cons_succ]
        refine Ph.T_pure (i := 22) (oi := _) (v := ?_) rfl (by kernel_rfl) (by kernel_rfl) (by kernel_rfl) (by kernel_rfl) (fun _ _ _ h => h) (Or.inl ⟨by rfl, ?_⟩) (by assumption) (fun hHeld => ?_)
        rotate_left
        · intro w hSw; (try dsimp only at hSw); go_simp; all_goals with_reducible rfl
        try simp only [Act.put, List.getElem_toArray, List.getElem_cons_zero, List.getElem_cons_succ, List.setIfInBounds_toArray, List.set_cons_zero, List.set_cons_succ]
        refine Ph.T_one (i := 23) (o := _) (by kernel_rfl) rfl (fun K hK => ?_)
        go_simp
        go_wp2_with fail
        refine hK.out _ _ ?_ (fun hHeld => ?_)
        · exact HBK.out _ (bel_eq12 ((Below.refl (w.heap.size + 1 + 1) wr).alloc (by omega) _) rfl rfl rfl rfl)
        clear hK K
        try simp only [Act.put, List.getElem_toArray, List.getElem_cons_zero, List.getElem_cons_succ, List.setIfInBounds_toArray, List.set_cons_zero, List.set_cons_succ]
        refine Ph.T_one (i := 24) (o := _) (by kernel_rfl) rfl (fun K hK => ?_)
        refine step_app_per _ (by rfl) (.tmp 41) (.tmp 64) (by rfl) wr (w.heap.size + 1 + 1) _ acc z HO.out HZ1.out HAP.out ((grown_drew wr 1 _).trans (World.grownBy_alloc _ _ _)) (by omega) hacc (by simp [Act.eval, Act.put]) wr.heap.size (by simp [Act.eval, Act.put]) (by rw [HZV.out]; exact heap_alloc_new _ _) ?_
        intro v9 w9 ho9 hg9
        have HO9 := Lib.hid ho9
        have hb9 : Below (w.heap.size + 1 + 1) wr w9 := (Below.refl _ wr).grown hg9 (by omega) (fun q hq => (World.ownsRow.lt HO.out.1 q hq).1)
        have HB9 := Lib.hid hb9
        clear hb9 hg9 ho9
        refine hK.out _ _ ?_ (fun hHeld => ?_)
        · exact HBK.out _ HB9.out
        clear hK K
        try simp only [Act.put, List.getElem_toArray, List.getElem_cons_zero, List.getElem_cons_succ, List.setIfInBounds_toArray, List.set_cons_zero, List.set_cons_succ]
        refine Ph.T_free (i := 25) (oi := _) (v := ?_) (by kernel_rfl) (by kernel_rfl) rfl (Or.inl ⟨by rfl, ?_⟩) ?_
        rotate_left
        · intro w; go_simp; all_goals with_reducible rfl
        try simp only [Act.put, List.getElem_toArray, List.getElem_cons_zero, List.getElem_cons_succ, List.setIfInBounds_toArray, List.set_cons_zero, List.set_cons_succ]
        refine Ph.T_done (by kernel_rfl) ?_ _
        refine NoPanic.normal ?_
        go_wp2
        go_roundw
        case rel => exact ⟨k + 1, acc ++ [z], by go_num, by omega, by omega, by rw [List.length_append, HAL.out]; rfl, HO9.out, HPZ.out, sx_snoc HSA.out HZ0.out (HB9.out.mono (by omega)), HBL.out.trans (HB9.out.mono (by omega))⟩
        case measure => simp [intOf]; omega
      · have hfin : pes acc = (per.take 12).map (fun p => (⟨p.el, p.at_.take 70⟩ : Pe)) := by
          obtain rfl : k = 12 := by omega
          rw [HPER.out, hpes]
        have HFIN := Lib.hid hfin; have HOW := Lib.hid hown; have HSA := Lib.hid hsa; have HBL := Lib.hid hbel
        obtain ⟨B, nB, cB, rfl⟩ := po_shape hown
        have hx5 := HH1.out.below hbel (by omega); have hz5 := HH2.out.below hbel (by omega)
        have HX5 := Lib.hid hx5; have HZ5 := Lib.hid hz5; have HBW := Lib.hid hbw
        have hxf := hx5.f 5
        clear hfin hown hsa hbel hpes hx5 hz5 hbw hhb1
        go_upto_region 10 with (fail)
        obtain ⟨W9, hW9⟩ : ∃ W9, wr.setCell ⟨w.heap.size, 5, none⟩ (.slice B nB cB) = W9 := ⟨_, rfl⟩
        have hg9 : wr.grownBy W9 (some w.heap.size) := hW9 ▸ gcell12 wr _ 5 _
        have hx9 : Hb W9 w.heap.size #[.bool al, .bool aa, .slice E m1 ce, .slice R m2 cr, .slice T m3 ct, .slice B nB cB, .bool cm, .bool da] := hW9 ▸ HX5.out.set 5 (.slice B nB cB)
        have hz9 : Hb W9 (w.heap.size + 1) #[.bool false, .bool false, .slice none 0 0, .slice none 0 0, .slice none 0 0, .slice none 0 0, .bool false, .bool false] := HZ5.out.keep (hg9.block _ HZ5.out.lt (by simp))
        rw [hW9]
        have HRG9 := Lib.hid hx9.range; have HTH := Lib.hid (hz9.there 8 rfl)
        clear hW9
        go_wp2_with (first
          | (show wpList _ _ _ (⟨_, Op.load 26 (.tmp 1), _, _, _, _⟩ :: _) _ _; refine wpList_load_mid rfl 26 (.tmp 1) rfl w.heap.size 0 rfl _ _ HRG9.out Try.underlying26 rfl size_conf ?_)
          | (show wpList _ _ _ (⟨none, Op.store 26 (.tmp 2) (.tmp 68), _, _, _, _⟩ :: _) _ _; refine wpList_store_mid rfl 26 (.tmp 2) (.tmp 68) rfl (w.heap.size + 1) 0 #[.bool al, .bool aa, .slice E m1 ce, .slice R m2 cr, .slice T m3 ct, .slice B nB cB, .bool cm, .bool da] rfl rfl HTH.out size_conf (by simp [Value.oneCell']) ?_))
        obtain ⟨W, hW, hgW, hbW⟩ := res_box (c := ⟨al, aa, els, reps, ats, per, cm, da⟩) (vE := .slice E m1 ce) (vR := .slice R m2 cr) (vA := .slice T m3 ct) (vP := .slice B nB cB) hz9 rfl
        obtain ⟨z0, z1, z2, z3, z4, z5, z6, z7⟩ := hbW.at_
        rw [← hW]
        have hsz9 := hg9.size
        have hwW : Below w.heap.size wr W := (((Below.refl w.heap.size wr).grown hg9 (by omega) (fun q hq => by injection hq with hq; omega)).grown hgW (by omega) (fun q hq => by injection hq with hq; omega))
        have hbelW : Below w.heap.size w W := HBW.out.trans (hwW.mono (by omega))
        have hpW : Pv W W.heap.size (.slice B nB cB) acc := po_kept HOW.out (fun z hz => ((HSA.out z hz).below hwW).more hbelW.size) (fun b hb hb2 => (hgW.block b (by omega) (by simp; omega)).trans (hg9.block b hb2 (by simp; omega))) hwW.size
        have hcW : Cp W W.heap.size (boundC ⟨al, aa, els, reps, ats, per, cm, da⟩) (.slice E m1 ce) (.slice R m2 cr) (.slice T m3 ct) (.slice B nB cB) acc := ⟨(Sv.below HSE.out hbelW (Nat.le_refl _)).more hbelW.size, (Sv.below HSR.out hbelW (Nat.le_refl _)).more hbelW.size, (Sv.below HST.out hbelW (Nat.le_refl _)).more hbelW.size, hpW, HFIN.out⟩
        clear hx9 hz9 HRG9 HTH hgW hW hg9 HX5 HZ5 HOW HSA HFIN hwW hpW
        go_wp2
        exact bodyPost_ret (v := .agg #[.bool al, .bool aa, .slice E m1 ce, .slice R m2 cr, .slice T m3 ct, .slice B nB cB, .bool cm, .bool da]) (by simp [results, Try.f6, go_sem, z0, z1, z2, z3, z4, z5, z6, z7]) rfl ⟨_, rfl, ⟨_, _, _, _, _, rfl, hcW⟩, hbelW⟩
    · have hfin : pes acc = (per.take 12).map (fun p => (⟨p.el, p.at_.take 70⟩ : Pe)) := by
        rw [HPER.out, hpes, List.take_of_length_le (show l.length ≤ k by omega), List.take_of_length_le (show l.length ≤ 12 by omega)]
      have HFIN := Lib.hid hfin; have HOW := Lib.hid hown; have HSA := Lib.hid hsa; have HBL := Lib.hid hbel
      obtain ⟨B, nB, cB, rfl⟩ := po_shape hown
      have hx5 := HH1.out.below hbel (by omega); have hz5 := HH2.out.below hbel (by omega)
      have HX5 := Lib.hid hx5; have HZ5 := Lib.hid hz5; have HBW := Lib.hid hbw
      have hxf := hx5.f 5
      clear hfin hown hsa hbel hpes hx5 hz5 hbw hhb1
      go_upto_region 10 with (fail)
      obtain ⟨W9, hW9⟩ : ∃ W9, wr.setCell ⟨w.heap.size, 5, none⟩ (.slice B nB cB) = W9 := ⟨_, rfl⟩
      have hg9 : wr.grownBy W9 (some w.heap.size) := hW9 ▸ gcell12 wr _ 5 _
      have hx9 : Hb W9 w.heap.size #[.bool al, .bool aa, .slice E m1 ce, .slice R m2 cr, .slice T m3 ct, .slice B nB cB, .bool cm, .bool da] := hW9 ▸ HX5.out.set 5 (.slice B nB cB)
      have hz9 : Hb W9 (w.heap.size + 1) #[.bool false, .bool false, .slice none 0 0, .slice none 0 0, .slice none 0 0, .slice none 0 0, .bool false, .bool false] := HZ5.out.keep (hg9.block _ HZ5.out.lt (by simp))
      rw [hW9]
      have HRG9 := Lib.hid hx9.range; have HTH := Lib.hid (hz9.there 8 rfl)
      clear hW9
      go_wp2_with (first
        | (show wpList _ _ _ (⟨_, Op.load 26 (.tmp 1), _, _, _, _⟩ :: _) _ _; refine wpList_load_mid rfl 26 (.tmp 1) rfl w.heap.size 0 rfl _ _ HRG9.out Try.underlying26 rfl size_conf ?_)
        | (show wpList _ _ _ (⟨none, Op.store 26 (.tmp 2) (.tmp 68), _, _, _, _⟩ :: _) _ _; refine wpList_store_mid rfl 26 (.tmp 2) (.tmp 68) rfl (w.heap.size + 1) 0 #[.bool al, .bool aa, .slice E m1 ce, .slice R m2 cr, .slice T m3 ct, .slice B nB cB, .bool cm, .bool da] rfl rfl HTH.out size_conf (by simp [Value.oneCell']) ?_))
      obtain ⟨W, hW, hgW, hbW⟩ := res_box (c := ⟨al, aa, els, reps, ats, per, cm, da⟩) (vE := .slice E m1 ce) (vR := .slice R m2 cr) (vA := .slice T m3 ct) (vP := .slice B nB cB) hz9 rfl
      obtain ⟨z0, z1, z2, z3, z4, z5, z6, z7⟩ := hbW.at_
      rw [← hW]
      have hsz9 := hg9.size
      have hwW : Below w.heap.size wr W := (((Below.refl w.heap.size wr).grown hg9 (by omega) (fun q hq => by injection hq with hq; omega)).grown hgW (by omega) (fun q hq => by injection hq with hq; omega))
      have hbelW : Below w.heap.size w W := HBW.out.trans (hwW.mono (by omega))
      have hpW : Pv W W.heap.size (.slice B nB cB) acc := po_kept HOW.out (fun z hz => ((HSA.out z hz).below hwW).more hbelW.size) (fun b hb hb2 => (hgW.block b (by omega) (by simp; omega)).trans (hg9.block b hb2 (by simp; omega))) hwW.size
      have hcW : Cp W W.heap.size (boundC ⟨al, aa, els, reps, ats, per, cm, da⟩) (.slice E m1 ce) (.slice R m2 cr) (.slice T m3 ct) (.slice B nB cB) acc := ⟨(Sv.below HSE.out hbelW (Nat.le_refl _)).more hbelW.size, (Sv.below HSR.out hbelW (Nat.le_refl _)).more hbelW.size, (Sv.below HST.out hbelW (Nat.le_refl _)).more hbelW.size, hpW, HFIN.out⟩
      clear hx9 hz9 HRG9 HTH hgW hW hg9 HX5 HZ5 HOW HSA HFIN hwW hpW
      go_wp2
      exact bodyPost_ret (v := .agg #[.bool al, .bool aa, .slice E m1 ce, .slice R m2 cr, .slice T m3 ct, .slice B nB cB, .bool cm, .bool da]) (by simp [results, Try.f6, go_sem, z0, z1, z2, z3, z4, z5, z6, z7]) rfl ⟨_, rfl, ⟨_, _, _, _, _, rfl, hcW⟩, hbelW⟩

end Go.Proofs.Ytgjlfcamgkeibaa.Co

namespace Go.Proofs.Ytgjlfcamgkeibaa.Co
set_option linter.unusedVariables false
set_option linter.unusedSimpArgs false
open Go.RowKit Ba Fm Fo Nm Rk
/-- No string lies there. -/
def noStr (cs : Array Value) : Prop := ∀ (i : Nat) (s : ByteArray), cs[i]? ≠ some (Value.string s)
theorem noStr8 (a b m d : Bool) (A1 A2 A3 A4 : Option Addr) (n1 n2 n3 n4 c1 c2 c3 c4 : Nat) : noStr #[.bool a, .bool b, .slice A1 n1 c1, .slice A2 n2 c2, .slice A3 n3 c3, .slice A4 n4 c4, .bool m, .bool d] := fun i s => by
  match i with
  | 0 | 1 | 2 | 3 | 4 | 5 | 6 | 7 => simp
  | i + 8 => simp
theorem sv_shape {w : World} {N : Nat} {v : Value} {l : List ByteArray} (h : Sv w N v l) : ∃ A n c, v = .slice A n c := by
  obtain ⟨A, c, e, _⟩ := h
  exact ⟨A, _, c, e⟩
theorem pv_shape {w : World} {N : Nat} {v : Value} {l : List Pw} (h : Pv w N v l) : ∃ A n c, v = .slice A n c := by
  obtain ⟨A, c, e, _⟩ := h
  exact ⟨A, _, c, e⟩
theorem sv_boxed {w w' : World} {b N : Nat} {cs : Array Value} {v : Value} {l : List ByteArray} (h : Sv w N v l) (hb : Hb w b cs) (hn : noStr cs) (hg : w.grownBy w' (some b)) (hN : N ≤ w.heap.size) : Sv w' N v l := by
  obtain ⟨A, c, e, h1, h2, h3⟩ := h
  refine ⟨A, c, e, h1, h2, fun h0 => ?_⟩
  obtain ⟨b', off, eA, hb', hc⟩ := h3 h0
  have hne : b' ≠ b := by
    rintro rfl
    have := hc 0 h0
    rw [cell_of_row w b' (off + 0) _ _ _ hb] at this
    exact hn _ _ this
  exact ⟨b', off, eA, hb', fun j hj => (World.cell?_of_block (a := ⟨b', off + j, none⟩) (hg.block b' (by omega) (by simpa using hne))).trans (hc j hj)⟩
theorem pv_boxed {w w' : World} {b N : Nat} {cs : Array Value} {v : Value} {l : List Pw} (h : Pv w N v l) (hb : Hb w b cs) (hn : noStr cs) (hg : w.grownBy w' (some b)) (hN : N ≤ w.heap.size) : Pv w' N v l := by
  obtain ⟨A, c, e, h1, h2, h3, h4⟩ := h
  refine ⟨A, c, e, h1, h2, fun h0 => ?_, fun x hx => sv_boxed (h4 x hx) hb hn hg hN⟩
  obtain ⟨b', off, eA, hb', hc⟩ := h3 h0
  have hne : b' ≠ b := by
    rintro rfl
    have := hc 0 h0 0 (.string l[0].pe.el) rfl
    rw [cell_of_row w b' _ _ _ _ hb] at this
    exact hn _ _ this
  exact ⟨b', off, eA, hb', fun j hj => range_keep12 (hc j hj) fun o => World.cell?_of_block (a := ⟨b', o, none⟩) (hg.block b' (by omega) (by simpa using hne))⟩
theorem cp_boxed {w w' : World} {b : Nat} {cs : Array Value} {c : Cf} {vE vR vA vP : Value} {l : List Pw} (h : Cp w w.heap.size c vE vR vA vP l) (hb : Hb w b cs) (hn : noStr cs) (hg : w.grownBy w' (some b)) : Cp w' w'.heap.size c vE vR vA vP l :=
  (⟨sv_boxed h.e hb hn hg (Nat.le_refl _), sv_boxed h.r hb hn hg (Nat.le_refl _), sv_boxed h.a hb hn hg (Nat.le_refl _), pv_boxed h.p hb hn hg (Nat.le_refl _), h.m⟩ : Cp w' w.heap.size c vE vR vA vP l).more hg.size
/-- A configuration is stored in a box. -/
theorem res_hb {w : World} {g : Nat} {cs : Array Value} (h : Hb w g cs) (hc : cs.size = 8) (v0 v1 v2 v3 v4 v5 v6 v7 : Value) :
    ∃ W, W = w.setCells g 0 [v0, v1, v2, v3, v4, v5, v6, v7] ∧ w.grownBy W (some g) ∧ Hb W g #[v0, v1, v2, v3, v4, v5, v6, v7] := by
  refine ⟨_, rfl, gcells12 g _ 0 w, ?_⟩
  match cs, hc with
  | ⟨[x0, x1, x2, x3, x4, x5, x6, x7]⟩, _ =>
    exact (((((((h.set 0 v0 (by simp)).set 1 v1 (by simp)).set 2 v2 (by simp)).set 3 v3 (by simp)).set 4 v4 (by simp)).set 5 v5 (by simp)).set 6 v6 (by simp)).set 7 v7 (by simp)
theorem mem_bound {c : Cf} {p : Pe} (h : p ∈ (boundC c).per) : ∃ q ∈ c.per, p.el = q.el ∧ p.at_ = q.at_.take 70 := by
  obtain ⟨q, hq, rfl⟩ := List.mem_map.1 (show p ∈ (c.per.take 12).map fun p => (⟨p.el, p.at_.take 70⟩ : Pe) from h)
  exact ⟨q, List.mem_of_mem_take hq, rfl, rfl⟩
theorem sm_bound {c : Cf} (h : St c) : Sm (boundC c) := by
  refine ⟨?_, ?_, ?_, ?_, fun p hp => ?_, fun s hs => h.es s (List.mem_of_mem_take hs), fun s hs => h.rs s (List.mem_of_mem_take hs), fun s hs => h.as_ s (List.mem_of_mem_take hs), fun p hp => ?_⟩
  · show (c.els.take 70).length ≤ 1000; rw [List.length_take]; omega
  · show (c.reps.take 70).length ≤ 1000; rw [List.length_take]; omega
  · show (c.ats.take 70).length ≤ 1000; rw [List.length_take]; omega
  · show ((c.per.take 12).map _).length ≤ 1000; rw [List.length_map, List.length_take]; omega
  · obtain ⟨q, hq, h1, h2⟩ := mem_bound hp
    rw [h2, List.length_take]; omega
  · obtain ⟨q, hq, h1, h2⟩ := mem_bound hp
    rw [h1, h2]
    exact ⟨(h.ps q hq).1, fun s hs => (h.ps q hq).2 s (List.mem_of_mem_take hs)⟩
/-- A contract, as it is asked for behind a beginning. -/
theorem on_base {P : Program} {f : FuncId} {args : Array Value} {w0 w : World} {T : Ending → Prop} (h : Calls P f args w fun e w' => T e ∧ Below w.heap.size w w') (hb : Below w0.heap.size w0 w) : Calls P f args w fun e w' => T e ∧ Below w0.heap.size w0 w' :=
  h.mono fun e w' ⟨he, hw⟩ => ⟨he, hb.trans (hw.mono hb.size)⟩

end Go.Proofs.Ytgjlfcamgkeibaa.Co

namespace Go.Proofs.Ytgjlfcamgkeibaa.Cn
set_option maxRecDepth 100000
set_option linter.unusedVariables false
set_option linter.unusedSimpArgs false
open Go.RowKit Ba Ro
open Co (Cf Cv Sm confV confO attrB12 elementN checkN bel_eq12 Hb noStr)
theorem ra_boxed {w w' : World} {b N : Nat} {cs : Array Value} {A : Option Addr} {l : List At} (h : Ra w N A l) (hb : Hb w b cs) (hn : noStr cs) (hg : w.grownBy w' (some b)) (hN : N ≤ w.heap.size) : Ra w' N A l := fun h0 => by
  obtain ⟨b', off, e, hb', hc⟩ := h h0
  have hne : b' ≠ b := by
    rintro rfl
    have := hc 0 h0 0 (.string l[0].name) rfl
    rw [cell_of_row w b' _ _ _ _ hb] at this
    exact hn _ _ this
  exact ⟨b', off, e, hb', fun j hj => range_keep (hc j hj) fun o => World.cell?_of_block (a := ⟨b', o, none⟩) (hg.block b' (by omega) (by simpa using hne))⟩
theorem rv_boxed {w w' : World} {b : Nat} {cs : Array Value} {v : Value} {l : List Cw} (h : Rv w v l) (hb : Hb w b cs) (hn : noStr cs) (hg : w.grownBy w' (some b)) : Rv w' v l := by
  obtain ⟨A, c, e, h1, h2, h3, h4⟩ := h
  refine ⟨A, c, e, h1, h2, (show Rr w' w.heap.size A l from ⟨fun h0 => ?_, fun x hx => ?_⟩).more hg.size, h4⟩
  · obtain ⟨b', off, eA, hb', hc⟩ := h3.1 h0
    have hne : b' ≠ b := by
      rintro rfl
      have := hc 0 h0 2 (.string l[0].ro.name) rfl
      rw [cell_of_row w b' _ _ _ _ hb] at this
      exact hn _ _ this
    exact ⟨b', off, eA, hb', fun j hj => range_keep (hc j hj) fun o => World.cell?_of_block (a := ⟨b', o, none⟩) (hg.block b' (by omega) (by simpa using hne))⟩
  · obtain ⟨a1, a2, a3, a4, a5⟩ := h3.2 x hx
    exact ⟨a1, a2, a3, ra_boxed a4 hb hn hg (Nat.le_refl _), a5⟩
theorem rv_shape {w : World} {v : Value} {l : List Cw} (h : Rv w v l) : ∃ A c, v = .slice A l.length c := by
  obtain ⟨A, c, e, _⟩ := h
  exact ⟨A, c, e⟩
theorem txt_boundR (l : List Ro) : (txt (boundR l)).length ≤ (txt l).length := by
  have e : ∀ m : List Ro, txt (m.map fun x => { x with attrs := x.attrs.take 8 }) = txt m := by
    intro m
    induction m with
    | nil => rfl
    | cons x r ih => rw [List.map_cons, txt, txt, ih]
  rw [boundR, e]
  exact txt_take l 40
/-- Rows as the laws have them. -/
structure Lw (L : List Ro) : Prop where
  n : L.length ≤ 40
  z : Rz.Small L
  f : Few L
  t : (txt L).length ≤ 1000000000
theorem Lw.clean {c : Cf} {s : Bool} {L : List Ro} (h : Lw L) (hr : right L = true) : Lw (cleanL c s L) :=
  ⟨Nat.le_trans (clean_len c s hr) h.n, small_clean hr h.z h.t, few_clean hr h.f, Nat.le_trans (clean_txt_le c s hr) h.t⟩
theorem bound13 (v : Value) (l : List Cw) (w : World) (h : Rv w v l) (hz : Rz.Small (ros l)) (ht : (txt (ros l)).length ≤ 1000000000) :
    Calls Try.prog 5 #[v] w fun e w' => ∃ v' l', e = .returned v' ∧ Rv w' v' l' ∧ ros l' = boundR (ros l) ∧ Lw (ros l') ∧ Below w.heap.size w w' := by
  obtain ⟨A, c, rfl, hlc, hcm, hr, hh⟩ := h
  refine (boundR_any A c l w hr hlc hcm).mono ?_
  rintro e w' ⟨v', l', he, ho, ha, hl, hb⟩
  refine ⟨v', l', he, ho.rv (by rw [hl]; exact held_bound hh), hl, ?_, hb⟩
  rw [hl]
  exact ⟨len_bound40 _, small_bound hz, fun x hx => Nat.le_trans (attrs_bound8 x hx) (by omega), Nat.le_trans (txt_boundR _) ht⟩
end Go.Proofs.Ytgjlfcamgkeibaa.Cn
