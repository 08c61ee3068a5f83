/-
  Stage 11: arguments that are calls of a script, as the statement's row reads them.
-/
import Derived.Test.YtmlchbohijolaaaCk08
import Derived.Test.YtmlchbohijolaaaCk04
namespace Go.Proofs.Ytmlchbohijolaaa.Ar
set_option maxRecDepth 100000
set_option linter.unusedVariables false
set_option linter.unusedSimpArgs false
open Go.RowKit Ba Go.ChangeShapes Go.WideShapes Go.Deep
open Ro (At Ro Cw ros Rr Ow Nw Fr Att Ap Sh Ra Rv Held cells open_attrs int_range list_of open_rows_of)
open Rz (Within reach_le)
section
variable {H : Type} {enc : TypeId × Value → H} {P : Program} {w : World} {base : Nat} {spare : Nat → Bool} {held : Bool}
/-- A slice of structs of one-cell fields: its parts. -/
theorem open_rows_both {t e : TypeId} {fs : Array Field} {fuel : Nat} {cs : List Value} {x : DataW H × List MemPlace} (ht : P.underlying t = some (.slice e)) (he : P.underlying e = some (.struct fs))
    (hone : oneCellFields P fs = true) (hC : P.cellsOf e = fs.size) (h : DataW.trod enc P w base spare held fuel t cs = some x) :
    cs = [.slice none 0 0] ∨
    ∃ (a : Addr) (len cap m : Nat) (Pl : Nat → List MemPlace) (D : Nat → DataW H) (sp : List (DataW H)), cs = [.slice (some a) len cap] ∧ len ≤ cap ∧ cap ≤ maxLen ∧ m = (if spare a.block then cap else len) ∧
      x.1 = .slice ((List.range len).map D) sp ∧ x.2 = MemPlace.row a (m * fs.size) ++ (List.range m).flatMap Pl ∧
      ∀ i, i < m → ∀ (j : Nat) (f : Field), fs[j]? = some f → ∃ (v : Value) (y : DataW H × List MemPlace) (n : Nat) (parts : List (DataW H)), w.cell? (a.add (i * fs.size + j)) = some v ∧ (∀ z ∈ y.2, z ∈ Pl i) ∧ D i = .agg parts ∧ parts[j]? = some y.1 ∧ DataW.trod enc P w base spare held n f.type [v] = some y := by
  rcases open_slice ht h with ⟨h0, _⟩ | ⟨a, len, cap, m, n, D, Pl, hcs, hb, hl, hm, hmm, hx, hi⟩
  · exact .inl h0
  · refine .inr ⟨a, len, cap, m, Pl, D, _, hcs, hl, hm, hmm, by rw [hx], by rw [hx, hC], fun i him j f hj => ?_⟩
    obtain ⟨cs', hc, ht'⟩ := hi i him
    rw [hC] at hc
    obtain ⟨ys, n', hn', hy, hlen, hyl, hf⟩ := DataW.trod_struct he ht'
    obtain ⟨_, hcl, hat⟩ := World.cells?_some hc
    simp only [Prod.mk.injEq] at hy
    obtain ⟨ho, hk⟩ := hone_of hone j f hj
    have hjl : j < fs.size := (Array.getElem?_eq_some_iff.1 hj).1
    have hcell := hat j hjl
    have hv : cs'[j]? = some (cs'[j]'(by omega)) := List.getElem?_eq_getElem (by omega)
    have h1 := hf j f hj
    rw [ho, hk] at h1
    have hone' : (cs'.drop j).take 1 = [cs'[j]'(by omega)] := by
      rw [List.drop_eq_getElem_cons (by omega)]
      rfl
    rw [hone'] at h1
    have hys : ys[j]? = some (ys[j]'(by omega)) := List.getElem?_eq_getElem (by omega)
    refine ⟨_, _, n', _, ?_, fun z hz => ?_, hy.1, by rw [List.getElem?_map, hys]; rfl, h1.trans hys⟩
    · rw [← Go.Deep.add_add, hcell, hv]
    · rw [hy.2]
      exact List.mem_flatMap.2 ⟨_, List.getElem_mem _, hz⟩
end
section
variable {H : Type} {enc : TypeId × Value → H} {w : World} {base : Nat}
/-- Rows within a struct's field. -/
theorem open_rows_in {fuel : Nat} {v : Value} {x : DataW H × List MemPlace} (h : DataW.trod enc Try.prog w base (fun _ => true) true fuel 27 [v] = some x) (N : Nat) (hlt : ∀ z ∈ x.2, z.block < N) :
    ∃ A c l, v = .slice A l.length c ∧ l.length ≤ c ∧ c ≤ maxLen ∧ Rr w N A l ∧ Held (ros l) := by
  rcases open_rows_of Try.underlying27 Try.underlying65 (by kernel_rfl) (by kernel_rfl) h with hcs | ⟨a, len', cap', m, Pl, hcs, hl, hm, hmm, hx, hi⟩
  · obtain rfl : v = .slice none 0 0 := by simpa using hcs
    exact ⟨none, 0, [], rfl, Nat.le_refl _, Nat.zero_le _, Rr.nil _ _ _, fun _ h => by simp [ros] at h⟩
  · obtain rfl : v = .slice (some a) len' cap' := by simpa using hcs
    simp only [if_true] at hmm
    subst hmm
    obtain ⟨b, off, spot⟩ := a
    have hrow : ∀ i < len', ∃ r : Cw, (∀ (j : Nat) (u : Value), (cells r)[j]? = some u → w.cell? ((⟨b, off, spot⟩ : Addr).add (i * 5 + j)) = some u) ∧ Att w N r ∧ (-9223372036854775808 ≤ r.ro.depth ∧ r.ro.depth ≤ 9223372036854775807) := fun i hil => by
      obtain ⟨v0, y0, n0, hc0, _, ht0⟩ := hi i (by omega) 0 _ rfl
      obtain ⟨v1, y1, n1, hc1, _, ht1⟩ := hi i (by omega) 1 _ rfl
      obtain ⟨v2, y2, n2, hc2, _, ht2⟩ := hi i (by omega) 2 _ rfl
      obtain ⟨v3, y3, n3, hc3, _, ht3⟩ := hi i (by omega) 3 _ rfl
      obtain ⟨v4, y4, n4, hc4, hp4, ht4⟩ := hi i (by omega) 4 _ rfl
      obtain ⟨s0, e0, _, hs0⟩ := DataW.trod_int Try.underlying3 ht0
      obtain ⟨s1, e1, _, _⟩ := DataW.trod_int Try.underlying3 ht1
      obtain ⟨s2, e2, _, _⟩ := DataW.trod_string Try.underlying9 ht2
      obtain ⟨s3, e3, _, _⟩ := DataW.trod_string Try.underlying9 ht3
      obtain rfl : v0 = .int .i64 s0 := by simpa using e0
      obtain rfl : v1 = .int .i64 s1 := by simpa using e1
      obtain rfl : v2 = .string s2 := by simpa using e2
      obtain rfl : v3 = .string s3 := by simpa using e3
      obtain ⟨A, c, al, rfl, hac, hA, hcm, hra, hsh⟩ := open_attrs ht4 N fun z hz => hlt z (by
        rw [hx]
        exact List.mem_append_right _ (List.mem_flatMap.2 ⟨i, List.mem_range.2 (by omega), hp4 z hz⟩))
      refine ⟨⟨⟨s0, s1, s2, s3, al⟩, A, c⟩, fun j u hu => ?_, ⟨hac, hA, hcm, hra, hsh⟩, int_range hs0⟩
      match j, hu with
      | 0, hu => exact hc0.trans hu
      | 1, hu => exact hc1.trans hu
      | 2, hu => exact hc2.trans hu
      | 3, hu => exact hc3.trans hu
      | 4, hu => exact hc4.trans hu
      | j + 5, hu => exact absurd hu (by simp [cells])
    obtain ⟨l, hll, hq⟩ := list_of _ len' hrow
    refine ⟨some ⟨b, off, spot⟩, _, l, by rw [hll], by omega, hm, ⟨fun h0 => ?_, fun r hr => ?_⟩, fun r hr => ?_⟩
    · have hspot : spot = none := by
        have := World.cell?_spot ((hq 0 h0).1 0 _ rfl)
        simpa [Addr.add] using this
      subst hspot
      refine ⟨b, off, rfl, hlt (.cell b off) (by rw [hx]; exact List.mem_append_left _ (MemPlace.mem_row.2 ⟨0, by show 0 < _ * 5; omega, by simp⟩)), fun j hj k u hu => ?_⟩
      have := (hq j hj).1 k u hu
      rw [add_plain] at this
      rw [show off + j * 5 + k = off + (j * 5 + k) by omega]
      exact this
    · obtain ⟨j, hj, rfl⟩ := List.getElem_of_mem hr
      exact (hq j hj).2.1
    · obtain ⟨z, hz, rfl⟩ := List.mem_map.1 hr
      obtain ⟨j, hj, rfl⟩ := List.getElem_of_mem hz
      exact (hq j hj).2.2

/-- What eight fields of a call read as. -/
theorem op_of {vs : Nat → Value} {ys : Nat → DataW H × List MemPlace} {ns : Nat → Nat} {parts : List (DataW H)} (N : Nat) (hz : Within Try.prog 33 (.agg parts)) (hp : ∀ j < 8, parts[j]? = some (ys j).1) (hlt : ∀ z ∈ (ys 7).2, z.block < N)
    (t0 : DataW.trod enc Try.prog w base (fun _ => true) true (ns 0) 3 [vs 0] = some (ys 0)) (t1 : DataW.trod enc Try.prog w base (fun _ => true) true (ns 1) 3 [vs 1] = some (ys 1)) (t2 : DataW.trod enc Try.prog w base (fun _ => true) true (ns 2) 3 [vs 2] = some (ys 2)) (t3 : DataW.trod enc Try.prog w base (fun _ => true) true (ns 3) 3 [vs 3] = some (ys 3)) (t4 : DataW.trod enc Try.prog w base (fun _ => true) true (ns 4) 3 [vs 4] = some (ys 4))
    (t5 : DataW.trod enc Try.prog w base (fun _ => true) true (ns 5) 9 [vs 5] = some (ys 5)) (t6 : DataW.trod enc Try.prog w base (fun _ => true) true (ns 6) 9 [vs 6] = some (ys 6)) (t7 : DataW.trod enc Try.prog w base (fun _ => true) true (ns 7) 27 [vs 7] = some (ys 7)) :
    ∃ o : Op11, vs 0 = .int .i64 o.kind ∧ vs 1 = .int .i64 o.node ∧ vs 2 = .int .i64 o.other ∧ vs 3 = .int .i64 o.at_ ∧ vs 4 = .int .i64 o.what ∧ vs 5 = .string o.name ∧ vs 6 = .string o.value ∧ vs 7 = .slice o.A o.x.length o.c ∧ OpOk w N o := by
  obtain ⟨s0, e0, _, _⟩ := DataW.trod_int Try.underlying3 t0
  obtain ⟨s1, e1, _, _⟩ := DataW.trod_int Try.underlying3 t1
  obtain ⟨s2, e2, _, _⟩ := DataW.trod_int Try.underlying3 t2
  obtain ⟨s3, e3, _, _⟩ := DataW.trod_int Try.underlying3 t3
  obtain ⟨s4, e4, _, h4⟩ := DataW.trod_int Try.underlying3 t4
  obtain ⟨s5, e5, b5, _⟩ := DataW.trod_string Try.underlying9 t5
  obtain ⟨s6, e6, _, _⟩ := DataW.trod_string Try.underlying9 t6
  obtain ⟨A, c, l, e7, hlc, hcm, hrr, hh⟩ := open_rows_in t7 N hlt
  have z5 := hz.part Try.underlying33 (j := 5) rfl (hp 5 (by omega))
  rw [b5] at z5
  exact ⟨⟨s0, s1, s2, s3, s4, s5, s6, l, A, c⟩, by simpa using e0, by simpa using e1, by simpa using e2, by simpa using e3, by simpa using e4, by simpa using e5, by simpa using e6, e7, ⟨hlc, hcm⟩, hrr, hh, reach_le z5.str, int_range h4⟩
/-- An argument []Op, as the statement's row reads it. -/
theorem open_ops {v : Value} {d : DataW H} {p : List MemPlace} (hz : Within Try.prog 22 d) (hv : Value.okWide Try.prog w .any base 22 v)
    (h : ∃ fuel, DataW.trod enc Try.prog w 0 (fun _ => true) true fuel 22 v.cells.toList = some (d, p)) (hlt : ∀ z ∈ p, z.block < w.heap.size) : ∃ os, Script w w.heap.size v os ∧ True := by
  obtain ⟨a0, len0, cap0, rfl⟩ := okWide_slice Try.underlying22 hv
  obtain ⟨fuel, hf⟩ := h
  rcases open_rows_both Try.underlying22 Try.underlying33 (by kernel_rfl) (by kernel_rfl) hf with hcs | ⟨a, len, cap, m, Pl, D, sp, hcs, hl, hm, hmm, hx1, hx, hi⟩
  · simp [Value.cells] at hcs
    obtain ⟨rfl, rfl, rfl⟩ := hcs
    exact ⟨[], ⟨none, 0, rfl, Nat.le_refl _, Nat.zero_le _, fun h => absurd h (by simp), fun o ho => by cases ho⟩, trivial⟩
  · simp [Value.cells] at hcs
    obtain ⟨rfl, rfl, rfl⟩ := hcs
    simp only [if_true] at hmm
    subst hmm
    obtain ⟨b, off, spot⟩ := a
    have hx : p = _ := hx
    have hx1 : d = _ := hx1
    have hrow : ∀ i < len0, ∃ o : Op11, (∀ (j : Nat) (u : Value), (ocells o)[j]? = some u → w.cell? ((⟨b, off, spot⟩ : Addr).add (i * 8 + j)) = some u) ∧ OpOk w w.heap.size o := fun i hil => by
      obtain ⟨v0, y0, n0, q0, c0, _, D0, g0, t0⟩ := hi i (by omega) 0 _ rfl
      obtain ⟨v1, y1, n1, q1, c1, _, D1, g1, t1⟩ := hi i (by omega) 1 _ rfl
      obtain ⟨v2, y2, n2, q2, c2, _, D2, g2, t2⟩ := hi i (by omega) 2 _ rfl
      obtain ⟨v3, y3, n3, q3, c3, _, D3, g3, t3⟩ := hi i (by omega) 3 _ rfl
      obtain ⟨v4, y4, n4, q4, c4, _, D4, g4, t4⟩ := hi i (by omega) 4 _ rfl
      obtain ⟨v5, y5, n5, q5, c5, _, D5, g5, t5⟩ := hi i (by omega) 5 _ rfl
      obtain ⟨v6, y6, n6, q6, c6, _, D6, g6, t6⟩ := hi i (by omega) 6 _ rfl
      obtain ⟨v7, y7, n7, q7, c7, p7, D7, g7, t7⟩ := hi i (by omega) 7 _ rfl
      rw [D0] at D1 D2 D3 D4 D5 D6 D7
      injection D1 with D1
      injection D2 with D2
      injection D3 with D3
      injection D4 with D4
      injection D5 with D5
      injection D6 with D6
      injection D7 with D7
      subst D1 D2 D3 D4 D5 D6 D7
      have hzi : Within Try.prog 33 (D i) := by
        rw [hx1] at hz
        exact hz.elem Try.underlying22 (List.mem_map.2 ⟨i, List.mem_range.2 hil, rfl⟩)
      rw [D0] at hzi
      obtain ⟨o, e0, e1, e2, e3, e4, e5, e6, e7, ok⟩ := op_of (w := w) (enc := enc) (base := 0) (vs := fun k => #[v0, v1, v2, v3, v4, v5, v6, v7][k]?.getD v0) (ys := fun k => #[y0, y1, y2, y3, y4, y5, y6, y7][k]?.getD y0) (ns := fun k => #[n0, n1, n2, n3, n4, n5, n6, n7][k]?.getD n0) w.heap.size hzi
        (fun j hj => match j, hj with
          | 0, _ => g0
          | 1, _ => g1
          | 2, _ => g2
          | 3, _ => g3
          | 4, _ => g4
          | 5, _ => g5
          | 6, _ => g6
          | 7, _ => g7) (fun z hzz => hlt z (by
            rw [hx]
            exact List.mem_append_right _ (List.mem_flatMap.2 ⟨i, List.mem_range.2 (by omega), p7 z hzz⟩))) t0 t1 t2 t3 t4 t5 t6 t7
      have e0 : v0 = _ := e0
      have e1 : v1 = _ := e1
      have e2 : v2 = _ := e2
      have e3 : v3 = _ := e3
      have e4 : v4 = _ := e4
      have e5 : v5 = _ := e5
      have e6 : v6 = _ := e6
      have e7 : v7 = _ := e7
      subst e0 e1 e2 e3 e4 e5 e6 e7
      refine ⟨o, fun j u hu => ?_, ok⟩
      match j, hu with
      | 0, hu => exact c0.trans hu
      | 1, hu => exact c1.trans hu
      | 2, hu => exact c2.trans hu
      | 3, hu => exact c3.trans hu
      | 4, hu => exact c4.trans hu
      | 5, hu => exact c5.trans hu
      | 6, hu => exact c6.trans hu
      | 7, hu => exact c7.trans hu
      | j + 8, hu => exact absurd hu (by simp [ocells])
    obtain ⟨os, hll, hq⟩ := list_of _ len0 hrow
    refine ⟨os, ⟨some ⟨b, off, spot⟩, _, by rw [hll], by omega, hm, fun h0 => ?_, fun o ho => ?_⟩, trivial⟩
    · have hspot : spot = none := by
        have := World.cell?_spot ((hq 0 h0).1 0 _ rfl)
        simpa [Addr.add] using this
      subst hspot
      refine ⟨b, off, rfl, hlt (.cell b off) (by rw [hx]; exact List.mem_append_left _ (MemPlace.mem_row.2 ⟨0, by show 0 < _ * 8; omega, by simp⟩)), fun j hj k u hu => ?_⟩
      have := (hq j hj).1 k u hu
      rw [add_plain] at this
      rw [show off + j * 8 + k = off + (j * 8 + k) by omega]
      exact this
    · obtain ⟨j, hj, rfl⟩ := List.getElem_of_mem ho
      exact (hq j hj).2
end
end Go.Proofs.Ytmlchbohijolaaa.Ar
