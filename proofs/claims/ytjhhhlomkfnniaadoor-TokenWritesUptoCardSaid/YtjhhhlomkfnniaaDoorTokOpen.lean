/-
  Arguments that are tokens, or a token, as a statement's row reads them, and their bulk.
-/
import Derived.Test.YtjhhhlomkfnniaaDoorOpenBase
import Derived.Test.YtjhhhlomkfnniaaDoorTokPut
namespace Go.Proofs.YtjhhhlomkfnniaaDoor.To
set_option linter.unusedVariables false
set_option linter.unusedSimpArgs false
open Go.RowKit Ba Tm Go.ChangeShapes Go.WideShapes Go.Deep
open Ro (At acells Ra Sh open_rows_of open_rows_parts open_attrs attrs_bulk sum_bulk bulk123 lit_bulk mem_bulk list_of open_agg_any)

theorem bulkA_le (l : List At) : bulkA l + l.length ≤ (l.map fun a => a.name.size + a.value.size + 1).sum := by
  induction l with
  | nil => simp [bulkA]
  | cons a r ih =>
    have e : bulkA (a :: r) = a.name.size + a.value.size + bulkA r := by simp [bulkA]
    rw [e, List.map_cons, List.sum_cons, List.length_cons]
    omega
section
variable {H : Type} {enc : TypeId × Value → H} {w : World} {base : Nat}
/-- An argument api.Token, as the statement's row reads it. -/
theorem open_tok {v : Value} {d : DataW H} {p : List MemPlace} (hv : Value.okWide Tryd.prog w .any base 35 v)
    (h : ∃ fuel, DataW.trod enc Tryd.prog w 0 (fun _ => true) true fuel 35 v.cells.toList = some (d, p)) (hlt : ∀ z ∈ p, z.block < w.heap.size) :
    ∃ x : Tw, v = tokV x ∧ Att w w.heap.size x ∧ bulkT x.tk ≤ Rows.uptoBulk d := by
  obtain ⟨cs, ys, n, rfl, hcs, hd, hp, hat⟩ := open_agg_any Tryd.underlying35 (by kernel_rfl) (by kernel_rfl) hv h
  obtain ⟨v0, y0, c0, g0, t0⟩ := hat 0 _ rfl
  obtain ⟨v1, y1, c1, g1, t1⟩ := hat 1 _ rfl
  obtain ⟨v2, y2, c2, g2, t2⟩ := hat 2 _ rfl
  obtain ⟨v3, y3, c3, g3, t3⟩ := hat 3 _ rfl
  obtain ⟨v4, y4, c4, g4, t4⟩ := hat 4 _ rfl
  obtain ⟨s0, e0, b0, _⟩ := DataW.trod_int Tryd.underlying3 t0
  obtain ⟨s1, e1, b1, _⟩ := DataW.trod_string Tryd.underlying9 t1
  obtain ⟨s2, e2, b2, _⟩ := DataW.trod_string Tryd.underlying9 t2
  obtain ⟨s4, e4, b4⟩ := DataW.trod_bool Tryd.underlying4 t4
  obtain rfl : v0 = .int .i64 s0 := by simpa using e0
  obtain rfl : v1 = .string s1 := by simpa using e1
  obtain rfl : v2 = .string s2 := by simpa using e2
  obtain rfl : v4 = .bool s4 := by simpa using e4
  obtain ⟨A, c, al, rfl, hac, hA, hcm, hra, hsh⟩ := open_attrs t3 w.heap.size fun z hz => hlt z (by
    rw [hp]
    exact List.mem_flatMap.2 ⟨y3, List.mem_of_getElem? g3, hz⟩)
  have hb := attrs_bulk t3 rfl hra
  have hcs5 : cs.size = 5 := hcs
  refine ⟨⟨⟨s0, s1, s2, al, s4⟩, A, c⟩, ?_, ⟨hac, hA, hcm, hra, hsh⟩, ?_⟩
  · congr 1
    apply Array.ext'
    match hcl : cs.toList, (show cs.toList.length = 5 by rw [Array.length_toList]; exact hcs5) with
    | [x0, x1, x2, x3, x4], _ =>
      have q : ∀ j, cs[j]? = [x0, x1, x2, x3, x4][j]? := fun j => by rw [← hcl, Array.getElem?_toList]
      rw [q] at c0 c1 c2 c3 c4
      simp only [List.getElem?_cons_zero, List.getElem?_cons_succ, Option.some.injEq] at c0 c1 c2 c3 c4
      rw [c0, c1, c2, c3, c4]
  · rw [hd, Rows.uptoBulk]
    have h3 := bulk123 (a := y1.1) (b := y2.1) (c := y3.1) (l := ys.map (·.1)) (by rw [List.getElem?_map, g1]; rfl) (by rw [List.getElem?_map, g2]; rfl) (by rw [List.getElem?_map, g3]; rfl)
    have h4 : Rows.uptoBulk y1.1 = s1.size + 1 := by rw [b1]; exact lit_bulk s1
    have h5 : Rows.uptoBulk y2.1 = s2.size + 1 := by rw [b2]; exact lit_bulk s2
    have h6 := bulkA_le al
    show s1.size + s2.size + bulkA al + al.length ≤ _
    omega
/-- An argument []api.Token, as the statement's row reads it. -/
theorem open_toks {v : Value} {d : DataW H} {p : List MemPlace} (hv : Value.okWide Tryd.prog w .any base 22 v)
    (h : ∃ fuel, DataW.trod enc Tryd.prog w 0 (fun _ => true) true fuel 22 v.cells.toList = some (d, p)) (hlt : ∀ z ∈ p, z.block < w.heap.size) :
    ∃ A c l, v = .slice A l.length c ∧ l.length ≤ c ∧ c ≤ maxLen ∧ Rr w w.heap.size A l ∧ bulk (tks l) ≤ Rows.uptoBulk d := by
  obtain ⟨a0, len, cap, rfl⟩ := okWide_slice Tryd.underlying22 hv
  obtain ⟨fuel, hf⟩ := h
  rcases open_rows_of Tryd.underlying22 Tryd.underlying35 (by kernel_rfl) (by kernel_rfl) hf with hcs | ⟨a, len', cap', m, Pl, hcs, hl, hm, hmm, hx, hi⟩
  · simp [Value.cells] at hcs
    obtain ⟨rfl, rfl, rfl⟩ := hcs
    exact ⟨none, 0, [], rfl, Nat.le_refl _, Nat.zero_le _, Rr.nil _ _ _, Nat.zero_le _⟩
  · simp [Value.cells] at hcs
    obtain ⟨rfl, rfl, rfl⟩ := hcs
    simp only [if_true] at hmm
    subst hmm
    obtain ⟨b, off, spot⟩ := a
    have hx : p = _ := hx
    rcases open_rows_parts Tryd.underlying22 Tryd.underlying35 (by kernel_rfl) (by kernel_rfl) hf with hcs2 | ⟨a2, len2, cap2, D, sp, hcs2, hx2, hi2⟩
    · simp [Value.cells] at hcs2
    simp [Value.cells] at hcs2
    obtain ⟨ha2, hl2, _⟩ := hcs2
    subst ha2
    subst hl2
    have hx2 : d = _ := hx2
    have hrow : ∀ i < len, ∃ r : Tw, (∀ (j : Nat) (u : Value), (cells r)[j]? = some u → w.cell? ((⟨b, off, spot⟩ : Addr).add (i * 5 + j)) = some u) ∧ Att w w.heap.size r ∧ bulkT r.tk ≤ Rows.uptoBulk (D i) := fun i hil => by
      obtain ⟨v0, y0, n0, hc0, _, ht0⟩ := hi i (by omega) 0 _ rfl
      obtain ⟨v1, y1, n1, p1, hc1, hD1, g1, ht1⟩ := hi2 i (by omega) 1 _ rfl
      obtain ⟨v2, y2, n2, p2, hc2, hD2, g2, ht2⟩ := hi2 i (by omega) 2 _ rfl
      obtain ⟨v3', y3', n3', p3, hc3', hD3, g3, ht3'⟩ := hi2 i (by omega) 3 _ rfl
      obtain ⟨v3, y3, n3, hc3, hp3, ht3⟩ := hi i (by omega) 3 _ rfl
      obtain ⟨v4, y4, n4, hc4, _, ht4⟩ := hi i (by omega) 4 _ rfl
      obtain rfl : p1 = p2 := by rw [hD1] at hD2; injection hD2
      obtain rfl : p1 = p3 := by rw [hD1] at hD3; injection hD3
      obtain ⟨s0, e0, _, _⟩ := DataW.trod_int Tryd.underlying3 ht0
      obtain ⟨s1, e1, b1, _⟩ := DataW.trod_string Tryd.underlying9 ht1
      obtain ⟨s2, e2, b2, _⟩ := DataW.trod_string Tryd.underlying9 ht2
      obtain ⟨s4, e4, _⟩ := DataW.trod_bool Tryd.underlying4 ht4
      obtain rfl : v0 = .int .i64 s0 := by simpa using e0
      obtain rfl : v1 = .string s1 := by simpa using e1
      obtain rfl : v2 = .string s2 := by simpa using e2
      obtain rfl : v4 = .bool s4 := by simpa using e4
      obtain ⟨A, c, al, rfl, hac, hA, hcm, hra, hsh⟩ := open_attrs ht3 w.heap.size fun z hz => hlt z (by
        rw [hx]
        exact List.mem_append_right _ (List.mem_flatMap.2 ⟨i, List.mem_range.2 (by omega), hp3 z hz⟩))
      obtain rfl : v3' = .slice A al.length c := Option.some.inj (hc3'.symm.trans hc3)
      have hb := attrs_bulk ht3' rfl hra
      refine ⟨⟨⟨s0, s1, s2, al, s4⟩, A, c⟩, fun j u hu => ?_, ⟨hac, hA, hcm, hra, hsh⟩, ?_⟩
      · match j, hu with
        | 0, hu => exact hc0.trans hu
        | 1, hu => exact hc1.trans hu
        | 2, hu => exact hc2.trans hu
        | 3, hu => exact hc3.trans hu
        | 4, hu => exact hc4.trans hu
        | j + 5, hu => exact absurd hu (by simp [cells])
      · rw [hD1, Rows.uptoBulk]
        have h3 := bulk123 g1 g2 g3
        have h4 : Rows.uptoBulk y1.1 = s1.size + 1 := by rw [b1]; exact lit_bulk s1
        have h5 : Rows.uptoBulk y2.1 = s2.size + 1 := by rw [b2]; exact lit_bulk s2
        have h6 := bulkA_le al
        show s1.size + s2.size + bulkA al + al.length ≤ _
        omega
    obtain ⟨l, hll, hq⟩ := list_of _ len hrow
    refine ⟨some ⟨b, off, spot⟩, _, l, by rw [hll], by omega, hm, ⟨fun h0 => ?_, fun r hr => ?_⟩, ?_⟩
    · have hspot : spot = none := by
        have := World.cell?_spot ((hq 0 h0).1 0 _ rfl)
        simpa [Addr.add] using this
      subst hspot
      refine ⟨b, off, rfl, hlt (.cell b off) (by rw [hx]; exact List.mem_append_left _ (MemPlace.mem_row.2 ⟨0, by show 0 < _ * 5; omega, by simp⟩)), fun j hj k u hu => ?_⟩
      have := (hq j hj).1 k u hu
      rw [add_plain] at this
      rw [show off + j * 5 + k = off + (j * 5 + k) by omega]
      exact this
    · obtain ⟨j, hj, rfl⟩ := List.getElem_of_mem hr
      exact (hq j hj).2.1
    · rw [hx2, Rows.uptoBulk]
      have h1 := sum_bulk (fun r : Tw => bulkT r.tk) D l 0 fun i hil => by
        rw [Nat.zero_add]
        exact (hq i hil).2.2
      rw [← List.range_eq_range', hll] at h1
      have h2 : bulk (tks l) = (l.map fun r : Tw => bulkT r.tk).sum := by
        unfold bulk tks
        rw [List.map_map]
        rfl
      omega
theorem laidOutT : laidOutB Tryd.prog = true := by kernel_rfl
end

end Go.Proofs.YtjhhhlomkfnniaaDoor.To
