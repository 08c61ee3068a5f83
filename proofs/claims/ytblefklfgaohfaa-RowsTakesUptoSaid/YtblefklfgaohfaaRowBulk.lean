/-
  Stage 4: what rows hold in text is no more than the reading's bulk.
-/
import Derived.Test.YtblefklfgaohfaaRowOpen
namespace Go.Proofs.Ytblefklfgaohfaa.Ro
set_option linter.unusedVariables false
set_option linter.unusedSimpArgs false
open Go.RowKit Ba Go.ChangeShapes Go.WideShapes Go.Deep

section
variable {H : Type} {enc : TypeId × Value → H} {P : Program} {w : World} {base : Nat} {spare : Nat → Bool} {held : Bool}
theorem open_rows_data {t e : TypeId} {fs : Array Field} {fuel : Nat} {cs : List Value} {x : DataW H × List MemPlace} (ht : P.underlying t = some (.slice e)) (he : P.underlying e = some (.struct fs))
    (hone : oneCellFields P fs = true) (hC : P.cellsOf e = fs.size) (h : DataW.trod enc P w base spare held fuel t cs = some x) :
    cs = [.slice none 0 0] ∨
    ∃ (a : Addr) (len cap : Nat) (D : Nat → DataW H) (sp : List (DataW H)), cs = [.slice (some a) len cap] ∧ x.1 = .slice ((List.range len).map D) sp ∧
      ∀ i, i < len → ∀ (j : Nat) (f : Field), fs[j]? = some f → ∃ (v : Value) (y : DataW H × List MemPlace) (n : Nat) (parts : List (DataW H)), w.cell? (a.add (i * fs.size + j)) = some v ∧ D i = .agg parts ∧ y.1 ∈ parts ∧ DataW.trod enc P w base spare held n f.type [v] = some y := by
  rcases open_slice ht h with ⟨h0, _⟩ | ⟨a, len, cap, m, n, D, Pl, hcs, hb, hl, hm, hmm, hx, hi⟩
  · exact .inl h0
  · refine .inr ⟨a, len, cap, D, _, hcs, by rw [hx], fun i hil j f hj => ?_⟩
    have him : i < m := by rw [hmm]; split <;> omega
    obtain ⟨cs', hc, ht'⟩ := hi i him
    rw [hC] at hc
    obtain ⟨ys, n', hn', hy, hlen, hyl, hf⟩ := DataW.trod_struct he ht'
    obtain ⟨_, hcl, hat⟩ := World.cells?_some hc
    simp only [Prod.mk.injEq] at hy
    obtain ⟨ho, hk⟩ := hone_of hone j f hj
    have hjl : j < fs.size := (Array.getElem?_eq_some_iff.1 hj).1
    have hcell := hat j hjl
    have hv : cs'[j]? = some (cs'[j]'(by omega)) := List.getElem?_eq_getElem (by omega)
    have h1 := hf j f hj
    rw [ho, hk] at h1
    have hone' : (cs'.drop j).take 1 = [cs'[j]'(by omega)] := by
      rw [List.drop_eq_getElem_cons (by omega)]
      rfl
    rw [hone'] at h1
    have hys : ys[j]? = some (ys[j]'(by omega)) := List.getElem?_eq_getElem (by omega)
    refine ⟨_, _, n', _, ?_, hy.1, List.mem_map.2 ⟨_, List.getElem_mem _, rfl⟩, h1.trans hys⟩
    rw [← Go.Deep.add_add, hcell, hv]
end

theorem mem_bulk {H : Type} {d : DataW H} : ∀ {ds : List (DataW H)}, d ∈ ds → Rows.uptoBulk d ≤ Rows.uptoBulkAll ds
  | [], h => by cases h
  | e :: r, h => by
    rw [Rows.uptoBulkAll]
    rcases List.mem_cons.1 h with rfl | h
    · omega
    · have := mem_bulk h
      omega
theorem txt_bulk {H : Type} (D : Nat → DataW H) : ∀ (l : List Cw) (o : Nat), (∀ i (h : i < l.length), l[i].ro.data.size ≤ Rows.uptoBulk (D (o + i))) → (txt (ros l)).length ≤ Rows.uptoBulkAll ((List.range' o l.length).map D)
  | [], o, _ => by simp [ros, txt]
  | x :: r, o, h => by
    have h0 := h 0 (by simp)
    have ih := txt_bulk D r (o + 1) fun i hi => by
      have := h (i + 1) (by simp; omega)
      rw [show o + 1 + i = o + (i + 1) by omega]
      exact this
    rw [ros_cons, txt, List.length_append, List.length_cons, List.range'_succ, List.map_cons, Rows.uptoBulkAll]
    have h1 : x.ro.data.size ≤ Rows.uptoBulk (D o) := h0
    have h2 : (if x.ro.kind = 1 then L x.ro.data else []).length ≤ x.ro.data.size := by
      split
      · rw [size_L]; exact Nat.le_refl _
      · exact Nat.zero_le _
    omega

theorem rows_bulk {H : Type} {enc : TypeId × Value → H} {w : World} {N : Nat} {v : Value} {A : Option Addr} {c : Nat} {l : List Cw} {d : DataW H} {p : List MemPlace} (hv : v = .slice A l.length c) (hr : Rr w N A l)
    (h : ∃ fuel, DataW.trod enc Try.prog w 0 (fun _ => true) true fuel 22 v.cells.toList = some (d, p)) : (txt (ros l)).length ≤ Rows.uptoBulk d := by
  obtain ⟨fuel, hf⟩ := h
  subst hv
  rcases open_rows_data Try.underlying22 Try.underlying43 (by kernel_rfl) (by kernel_rfl) hf with hcs | ⟨a, len, cap, D, sp, hcs, hx, hi⟩
  · simp [Value.cells] at hcs
    obtain ⟨_, hl, _⟩ := hcs
    have : l = [] := hl
    subst this
    simp [ros, txt]
  · simp [Value.cells] at hcs
    obtain ⟨hA, hl, _⟩ := hcs
    have hx : d = _ := hx
    rw [hx, Rows.uptoBulk]
    have := txt_bulk D l 0 fun i hil => by
      obtain ⟨b, off, e, _, hc⟩ := hr.1 (by omega)
      obtain ⟨u, y, n, parts, hcell, hD, hy, ht⟩ := hi i (by omega) 3 _ rfl
      obtain ⟨s, e1, e2, _⟩ := DataW.trod_string Try.underlying9 ht
      have hcl := hc i hil 3 (.string l[i].ro.data) rfl
      rw [hA] at e
      injection e with e
      subst e
      rw [add_plain] at hcell
      rw [show off + i * 5 + 3 = off + (i * 5 + 3) by omega] at hcl
      have huv : u = .string l[i].ro.data := Option.some.inj (hcell.symm.trans hcl)
      have hs : s = l[i].ro.data := by
        have : u = .string s := by simpa using e1
        rw [this] at huv
        injection huv
      rw [Nat.zero_add, hD, Rows.uptoBulk]
      have h3 := mem_bulk hy
      have h4 : Rows.uptoBulk y.1 = s.size + 1 := by rw [e2, Rows.uptoBulk, Array.length_toList]; rfl
      rw [hs] at h4
      omega
    rw [← List.range_eq_range', hl] at this
    omega

end Go.Proofs.Ytblefklfgaohfaa.Ro
