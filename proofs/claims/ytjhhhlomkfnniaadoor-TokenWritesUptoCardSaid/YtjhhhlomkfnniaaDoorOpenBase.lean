/-
  Arguments that are slices of structs, or structs, as a statement's row reads them: for rows, tokens and whatever has attributes.
-/
import Derived.Test.YtjhhhlomkfnniaaDoorRows
import Derived.Test.YtjhhhlomkfnniaaDoorAttrBase
import Derived.Deep.Slices
import Derived.Deep.Fields
import Derived.ChangeSame
import Derived.ProofKit
import Derived.Carry
import Derived.Lib.SmallJoins
namespace Go.Proofs.YtjhhhlomkfnniaaDoor.Ro
set_option linter.unusedVariables false
set_option linter.unusedSimpArgs false
open Go.RowKit Ba Go.ChangeShapes Go.WideShapes Go.Deep

section
variable {H : Type} {enc : TypeId × Value → H} {P : Program} {w : World} {base : Nat} {spare : Nat → Bool} {held : Bool}
/-- A slice of structs of one-cell fields: its parts. -/
theorem open_rows_of {t e : TypeId} {fs : Array Field} {fuel : Nat} {cs : List Value} {x : DataW H × List MemPlace} (ht : P.underlying t = some (.slice e)) (he : P.underlying e = some (.struct fs))
    (hone : oneCellFields P fs = true) (hC : P.cellsOf e = fs.size) (h : DataW.trod enc P w base spare held fuel t cs = some x) :
    cs = [.slice none 0 0] ∨
    ∃ (a : Addr) (len cap m : Nat) (Pl : Nat → List MemPlace), cs = [.slice (some a) len cap] ∧ len ≤ cap ∧ cap ≤ maxLen ∧ m = (if spare a.block then cap else len) ∧
      x.2 = MemPlace.row a (m * fs.size) ++ (List.range m).flatMap Pl ∧
      ∀ i, i < m → ∀ (j : Nat) (f : Field), fs[j]? = some f → ∃ (v : Value) (y : DataW H × List MemPlace) (n : Nat), w.cell? (a.add (i * fs.size + j)) = some v ∧ (∀ z ∈ y.2, z ∈ Pl i) ∧ DataW.trod enc P w base spare held n f.type [v] = some y := by
  rcases open_slice ht h with ⟨h0, _⟩ | ⟨a, len, cap, m, n, D, Pl, hcs, hb, hl, hm, hmm, hx, hi⟩
  · exact .inl h0
  · refine .inr ⟨a, len, cap, m, Pl, hcs, hl, hm, hmm, by rw [hx, hC], fun i him j f hj => ?_⟩
    obtain ⟨cs', hc, ht'⟩ := hi i him
    rw [hC] at hc
    obtain ⟨ys, n', hn', hy, hlen, hyl, hf⟩ := DataW.trod_struct he ht'
    obtain ⟨_, hcl, hat⟩ := World.cells?_some hc
    simp only [Prod.mk.injEq] at hy
    obtain ⟨ho, hk⟩ := hone_of hone j f hj
    have hjl : j < fs.size := (Array.getElem?_eq_some_iff.1 hj).1
    have hcell := hat j hjl
    have hv : cs'[j]? = some (cs'[j]'(by omega)) := List.getElem?_eq_getElem (by omega)
    have h1 := hf j f hj
    rw [ho, hk] at h1
    have hone' : (cs'.drop j).take 1 = [cs'[j]'(by omega)] := by
      rw [List.drop_eq_getElem_cons (by omega)]
      rfl
    rw [hone'] at h1
    have hys : ys[j]? = some (ys[j]'(by omega)) := List.getElem?_eq_getElem (by omega)
    refine ⟨_, _, n', ?_, fun z hz => ?_, h1.trans hys⟩
    · rw [← Go.Deep.add_add, hcell, hv]
    · rw [hy.2]
      exact List.mem_flatMap.2 ⟨_, List.getElem_mem _, hz⟩
end

theorem list_of {α : Type} (Q : Nat → α → Prop) : ∀ n : Nat, (∀ i < n, ∃ x, Q i x) → ∃ l : List α, l.length = n ∧ ∀ i (h : i < l.length), Q i l[i]
  | 0, _ => ⟨[], rfl, fun i h => absurd h (by simp)⟩
  | n + 1, h => by
    obtain ⟨l, hl, hq⟩ := list_of Q n fun i hi => h i (by omega)
    obtain ⟨x, hx⟩ := h n (by omega)
    refine ⟨l ++ [x], by rw [List.length_append, hl]; rfl, fun i hi => ?_⟩
    rw [List.length_append, List.length_singleton] at hi
    by_cases e : i < l.length
    · rw [List.getElem_append_left e]
      exact hq i e
    · have : i = l.length := by omega
      subst this
      rw [List.getElem_append_right (Nat.le_refl _)]
      simp only [Nat.sub_self, List.getElem_cons_zero]
      rw [hl]; exact hx

section
variable {H : Type} {enc : TypeId × Value → H} {w : World} {base : Nat}
theorem open_attrs {fuel : Nat} {v : Value} {x : DataW H × List MemPlace} (h : DataW.trod enc Tryd.prog w base (fun _ => true) true fuel 33 [v] = some x) (N : Nat) (hlt : ∀ z ∈ x.2, z.block < N) :
    ∃ A c l, v = .slice A l.length c ∧ l.length ≤ c ∧ (A = none → c = 0) ∧ c ≤ maxLen ∧ Ra w N A l ∧ Sh l := by
  rcases open_rows_of Tryd.underlying33 Tryd.underlying37 (by kernel_rfl) (by kernel_rfl) h with hcs | ⟨a, len, cap, m, Pl, hcs, hl, hm, hmm, hx, hi⟩
  · obtain rfl : v = .slice none 0 0 := by simpa using hcs
    exact ⟨none, 0, [], rfl, Nat.le_refl _, fun _ => rfl, Nat.zero_le _, fun h => absurd h (by simp), fun _ h => by simp at h⟩
  · obtain rfl : v = .slice (some a) len cap := by simpa using hcs
    simp only [if_true] at hmm
    subst hmm
    obtain ⟨b, off, spot⟩ := a
    have hrow : ∀ i < len, ∃ t : At, w.cell? ((⟨b, off, spot⟩ : Addr).add (i * 2)) = some (.string t.name) ∧ w.cell? ((⟨b, off, spot⟩ : Addr).add (i * 2 + 1)) = some (.string t.value) ∧ t.name.size ≤ maxLen := fun i hil => by
      obtain ⟨v0, y0, n0, hc0, _, ht0⟩ := hi i (by omega) 0 _ rfl
      obtain ⟨v1, y1, n1, hc1, _, ht1⟩ := hi i (by omega) 1 _ rfl
      obtain ⟨s0, e0, _, hs0⟩ := DataW.trod_string Tryd.underlying9 ht0
      obtain ⟨s1, e1, _, _⟩ := DataW.trod_string Tryd.underlying9 ht1
      obtain rfl : v0 = .string s0 := by simpa using e0
      obtain rfl : v1 = .string s1 := by simpa using e1
      exact ⟨⟨s0, s1⟩, hc0, hc1, hs0⟩
    obtain ⟨l, hll, hq⟩ := list_of _ len hrow
    refine ⟨some ⟨b, off, spot⟩, m, l, by rw [hll], by omega, (fun e => by cases e), hm, fun h0 => ?_, fun t ht => ?_⟩
    · have hspot : spot = none := by
        have := World.cell?_spot (hq 0 h0).1
        simpa [Addr.add] using this
      subst hspot
      refine ⟨b, off, rfl, hlt (.cell b off) (by rw [hx]; exact List.mem_append_left _ (MemPlace.mem_row.2 ⟨0, by show 0 < m * 2; omega, by simp⟩)), fun j hj => ?_⟩
      obtain ⟨h1, h2, _⟩ := hq j hj
      rw [add_plain] at h1 h2
      intro k u hu
      match k, hu with
      | 0, hu => exact h1.trans hu
      | 1, hu => exact (show w.cell? ⟨b, off + j * 2 + 1, none⟩ = _ from h2).trans hu
      | k + 2, hu => exact absurd hu (by simp [acells])
    · obtain ⟨j, hj, rfl⟩ := List.getElem_of_mem ht
      exact (hq j hj).2.2
theorem int_range {n : Int} (h : (Lit.int .i64 n).wf = true) : -9223372036854775808 ≤ n ∧ n ≤ 9223372036854775807 := by
  have h1 : IntKind.i64.min = -9223372036854775808 := by decide
  have h2 : IntKind.i64.max = 9223372036854775807 := by decide
  simp [Lit.wf, h1, h2] at h
  omega
end

section
variable {H : Type} {enc : TypeId × Value → H} {P : Program} {w : World} {base : Nat} {spare : Nat → Bool} {held : Bool}
theorem open_rows_parts {t e : TypeId} {fs : Array Field} {fuel : Nat} {cs : List Value} {x : DataW H × List MemPlace} (ht : P.underlying t = some (.slice e)) (he : P.underlying e = some (.struct fs))
    (hone : oneCellFields P fs = true) (hC : P.cellsOf e = fs.size) (h : DataW.trod enc P w base spare held fuel t cs = some x) :
    cs = [.slice none 0 0] ∨
    ∃ (a : Addr) (len cap : Nat) (D : Nat → DataW H) (sp : List (DataW H)), cs = [.slice (some a) len cap] ∧ x.1 = .slice ((List.range len).map D) sp ∧
      ∀ i, i < len → ∀ (j : Nat) (f : Field), fs[j]? = some f → ∃ (v : Value) (y : DataW H × List MemPlace) (n : Nat) (parts : List (DataW H)), w.cell? (a.add (i * fs.size + j)) = some v ∧ D i = .agg parts ∧ parts[j]? = some y.1 ∧ DataW.trod enc P w base spare held n f.type [v] = some y := by
  rcases open_slice ht h with ⟨h0, _⟩ | ⟨a, len, cap, m, n, D, Pl, hcs, hb, hl, hm, hmm, hx, hi⟩
  · exact .inl h0
  · refine .inr ⟨a, len, cap, D, _, hcs, by rw [hx], fun i hil j f hj => ?_⟩
    have him : i < m := by rw [hmm]; split <;> omega
    obtain ⟨cs', hc, ht'⟩ := hi i him
    rw [hC] at hc
    obtain ⟨ys, n', hn', hy, hlen, hyl, hf⟩ := DataW.trod_struct he ht'
    obtain ⟨_, hcl, hat⟩ := World.cells?_some hc
    simp only [Prod.mk.injEq] at hy
    obtain ⟨ho, hk⟩ := hone_of hone j f hj
    have hjl : j < fs.size := (Array.getElem?_eq_some_iff.1 hj).1
    have hcell := hat j hjl
    have hv : cs'[j]? = some (cs'[j]'(by omega)) := List.getElem?_eq_getElem (by omega)
    have h1 := hf j f hj
    rw [ho, hk] at h1
    have hone' : (cs'.drop j).take 1 = [cs'[j]'(by omega)] := by
      rw [List.drop_eq_getElem_cons (by omega)]
      rfl
    rw [hone'] at h1
    have hys : ys[j]? = some (ys[j]'(by omega)) := List.getElem?_eq_getElem (by omega)
    refine ⟨_, _, n', _, ?_, hy.1, by rw [List.getElem?_map, hys]; rfl, h1.trans hys⟩
    rw [← Go.Deep.add_add, hcell, hv]
end

section
variable {H : Type} {enc : TypeId × Value → H} {P : Program} {w : World} {base : Nat} {spare : Nat → Bool} {held : Bool}
/-- A struct of one-cell fields: its parts. -/
theorem open_agg_any {r : Reach} {b0 : Nat} {t : TypeId} {fs : Array Field} {v : Value} {d : DataW H} {p : List MemPlace} (hs : P.underlying t = some (.struct fs)) (hone : oneCellFields P fs = true) (hC : P.cellsOf t = fs.size)
    (hv : Value.okWide P w r b0 t v) (h : DataW.Trod enc P w base spare held t v d p) :
    ∃ (cs : Array Value) (ys : List (DataW H × List MemPlace)) (n : Nat), v = .agg cs ∧ cs.size = fs.size ∧ d = .agg (ys.map (·.1)) ∧ p = ys.flatMap (·.2) ∧
      ∀ (j : Nat) (f : Field), fs[j]? = some f → ∃ (u : Value) (y : DataW H × List MemPlace), cs[j]? = some u ∧ ys[j]? = some y ∧ DataW.trod enc P w base spare held n f.type [u] = some y := by
  obtain ⟨cs, rfl, hsz⟩ := okWide_struct hs hv
  obtain ⟨fuel, hf⟩ := h
  obtain ⟨ys, n', hn', hy, hlen, hyl, hat⟩ := DataW.trod_struct hs hf
  simp only [Prod.mk.injEq] at hy
  refine ⟨cs, ys, n', rfl, hsz.trans hC, hy.1, hy.2, fun j f hj => ?_⟩
  obtain ⟨ho, hk⟩ := hone_of hone j f hj
  have hjl : j < fs.size := (Array.getElem?_eq_some_iff.1 hj).1
  have hjc : j < cs.size := by rw [hsz, hC]; exact hjl
  have h1 := hat j f hj
  rw [ho, hk] at h1
  have hcl : ((Value.agg cs).cells.toList) = cs.toList := rfl
  have hone' : (((Value.agg cs).cells.toList).drop j).take 1 = [cs[j]] := by
    rw [hcl, List.drop_eq_getElem_cons (by rw [Array.length_toList]; exact hjc)]
    simp
  rw [hone'] at h1
  have hys : ys[j]? = some (ys[j]'(by omega)) := List.getElem?_eq_getElem (by omega)
  exact ⟨cs[j], _, Array.getElem?_eq_getElem hjc, hys, h1.trans hys⟩
end

theorem mem_bulk {H : Type} {d : DataW H} : ∀ {ds : List (DataW H)}, d ∈ ds → Rows.uptoBulk d ≤ Rows.uptoBulkAll ds
  | [], h => by cases h
  | e :: r, h => by
    rw [Rows.uptoBulkAll]
    rcases List.mem_cons.1 h with rfl | h
    · omega
    · have := mem_bulk h
      omega
theorem bulk2 {H : Type} {a b : DataW H} : ∀ {l : List (DataW H)}, l[0]? = some a → l[1]? = some b → Rows.uptoBulk a + Rows.uptoBulk b ≤ Rows.uptoBulkAll l
  | [], h, _ => by cases h
  | [_], _, h => by cases h
  | x :: y :: r, h1, h2 => by
    obtain rfl : x = a := by simpa using h1
    obtain rfl : y = b := by simpa using h2
    rw [Rows.uptoBulkAll, Rows.uptoBulkAll]
    omega
theorem bulk123 {H : Type} {a b c : DataW H} : ∀ {l : List (DataW H)}, l[1]? = some a → l[2]? = some b → l[3]? = some c → Rows.uptoBulk a + (Rows.uptoBulk b + Rows.uptoBulk c) ≤ Rows.uptoBulkAll l
  | [], h, _, _ => by cases h
  | [_], h, _, _ => by cases h
  | [_, _], _, h, _ => by cases h
  | [_, _, _], _, _, h => by cases h
  | x :: y :: z :: u :: r, h1, h2, h3 => by
    obtain rfl : y = a := by simpa using h1
    obtain rfl : z = b := by simpa using h2
    obtain rfl : u = c := by simpa using h3
    rw [Rows.uptoBulkAll, Rows.uptoBulkAll, Rows.uptoBulkAll, Rows.uptoBulkAll]
    omega
/-- A sum over the parts of a slice. -/
theorem sum_bulk {α H : Type} (f : α → Nat) (D : Nat → DataW H) : ∀ (l : List α) (o : Nat), (∀ i (h : i < l.length), f l[i] ≤ Rows.uptoBulk (D (o + i))) → (l.map f).sum ≤ Rows.uptoBulkAll ((List.range' o l.length).map D)
  | [], o, _ => by simp
  | x :: r, o, h => by
    have h0 := h 0 (by simp)
    have ih := sum_bulk f D r (o + 1) fun i hi => by
      have := h (i + 1) (by simp; omega)
      rw [show o + 1 + i = o + (i + 1) by omega]
      exact this
    rw [List.map_cons, List.sum_cons, List.length_cons, List.range'_succ, List.map_cons, Rows.uptoBulkAll]
    have h1 : f x ≤ Rows.uptoBulk (D o) := h0
    omega
theorem lit_bulk {H : Type} (s : ByteArray) : Rows.uptoBulk (DataW.lit (.string s.data.toList) : DataW H) = s.size + 1 := by
  rw [Rows.uptoBulk, Array.length_toList]; rfl
section
variable {H : Type} {enc : TypeId × Value → H} {w : World}
/-- What attributes hold is no more than the reading's bulk. -/
theorem attrs_bulk {fuel N c : Nat} {v : Value} {x : DataW H × List MemPlace} {A : Option Addr} {l : List At} (h : DataW.trod enc Tryd.prog w 0 (fun _ => true) true fuel 33 [v] = some x) (hv : v = .slice A l.length c) (hr : Ra w N A l) :
    (l.map fun a => a.name.size + a.value.size + 1).sum ≤ Rows.uptoBulk x.1 := by
  subst hv
  rcases open_rows_parts Tryd.underlying33 Tryd.underlying37 (by kernel_rfl) (by kernel_rfl) h with hcs | ⟨a, len, cap, D, sp, hcs, hx, hi⟩
  · simp at hcs
    obtain ⟨_, hl, _⟩ := hcs
    have : l = [] := hl
    subst this
    simp
  · simp at hcs
    obtain ⟨hA, hl, _⟩ := hcs
    rw [hx, Rows.uptoBulk]
    have := sum_bulk (fun a : At => a.name.size + a.value.size + 1) D l 0 fun i hil => by
      obtain ⟨b, off, e, _, hc⟩ := hr (by omega)
      rw [hA] at e
      injection e with e
      subst e
      obtain ⟨u0, y0, n0, p0, hc0, hD0, hy0, ht0⟩ := hi i (by omega) 0 _ rfl
      obtain ⟨u1, y1, n1, p1, hc1, hD1, hy1, ht1⟩ := hi i (by omega) 1 _ rfl
      obtain rfl : p0 = p1 := by rw [hD0] at hD1; injection hD1
      obtain ⟨s0, e0, g0, _⟩ := DataW.trod_string Tryd.underlying9 ht0
      obtain ⟨s1, e1, g1, _⟩ := DataW.trod_string Tryd.underlying9 ht1
      rw [add_plain] at hc0 hc1
      have k0 := hc i hil 0 (.string l[i].name) rfl
      have k1 := hc i hil 1 (.string l[i].value) rfl
      have q0 : s0 = l[i].name := by
        obtain rfl : u0 = .string s0 := by simpa using e0
        rw [show off + i * 2 + 0 = off + (i * 2 + 0) by omega] at k0
        have := hc0.symm.trans k0
        injection this with this
        injection this
      have q1 : s1 = l[i].value := by
        obtain rfl : u1 = .string s1 := by simpa using e1
        rw [show off + i * 2 + 1 = off + (i * 2 + 1) by omega] at k1
        have := hc1.symm.trans k1
        injection this with this
        injection this
      rw [Nat.zero_add, hD0, Rows.uptoBulk]
      have h3 := bulk2 hy0 hy1
      have h4 : Rows.uptoBulk y0.1 = s0.size + 1 := by rw [g0]; exact lit_bulk s0
      have h5 : Rows.uptoBulk y1.1 = s1.size + 1 := by rw [g1]; exact lit_bulk s1
      rw [← q0, ← q1]
      omega
    rw [← List.range_eq_range', hl] at this
    omega
end

end Go.Proofs.YtjhhhlomkfnniaaDoor.Ro
