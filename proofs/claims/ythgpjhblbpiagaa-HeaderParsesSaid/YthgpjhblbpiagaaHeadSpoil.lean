/-
  Slices of slices of the call's own, written over.
-/
import Derived.Test.YthgpjhblbpiagaaHeadBox
namespace Go.Proofs.Ythgpjhblbpiagaa.He
set_option maxRecDepth 100000
set_option linter.unusedSimpArgs false
set_option linter.unusedVariables false
open Go.RowKit Ba Fm Fo

theorem So.inner {N M : Nat} {w : World} {v : Value} {ls : List (List ByteArray)} (h : So N M w v ls) {i : Nat} (hi : i < ls.length) (hpos : 0 < ls[i].length) :
    ∃ bo co g cap, v = .slice (some ⟨bo, 0, none⟩) ls.length co ∧ w.cell? ⟨bo, i, none⟩ = some (.slice (some ⟨g, 0, none⟩) ls[i].length cap) ∧ N ≤ g ∧ g < M ∧ ls[i].length ≤ cap ∧ (∀ k < ls[i].length, (∃ z, w.cell? ⟨g, k, none⟩ = some (.string z)) ∧ w.frozen? ⟨g, k, none⟩ = false) ∧
      ∀ k y, So N M (w.setCell ⟨g, k, none⟩ (.string y)) v (ls.set i (ls[i].set k y)) := by
  obtain ⟨h0, gs, h3, h4⟩ := h
  have hgl : i < gs.length := by rw [h4.size]; exact hi
  have hso := h4.own i gs[i] ls[i] (List.getElem?_eq_getElem hgl) (List.getElem?_eq_getElem hi)
  obtain ⟨g, cap, hv⟩ := own_form hso hpos
  have hso' := hso
  rw [hv] at hso'
  obtain ⟨A', c', e, hlc, _, _⟩ := hso'.form
  injection e with _ _ e3
  subst e3
  have hgi : gs[i]? = some (.slice (some ⟨g, 0, none⟩) ls[i].length cap) := by rw [List.getElem?_eq_getElem hgl, hv]
  have hgt : ∃ cur, w.heap[g]? = some (.cells cur 9) := by
    rcases hso'.2 with ⟨e, _⟩ | ⟨g', cap', cur, e, _, hh, _⟩
    · cases e
    · injection e with e
      injection e with e
      injection e with e
      subst e
      exact ⟨cur, hh⟩
  obtain ⟨cur, hcur⟩ := hgt
  rcases h3.2 with ⟨_, hl⟩ | ⟨bo, co, cuo, hvo, hbo, hho, hno, hmo, hss, htt⟩
  · omega
  · have hne : bo ≠ g := fun e => by
      rw [e, hcur] at hho
      injection hho with hho
      injection hho with _ ht
      exact absurd ht (by decide)
    subst hvo
    have hco := World.ownsRow.cells h3 rfl i _ hgi
    rw [WideShapes.add_plain, Nat.zero_add] at hco
    refine ⟨bo, co, g, cap, rfl, hco, (sown_lt hso' rfl).2, h4.top i _ g hgi rfl, hlc, fun k hk => ?_, fun k y => ⟨h0, gs, ?_, ?_⟩⟩
    · obtain ⟨hc1, hf1⟩ := own_cell hso' rfl k hk
      exact ⟨⟨_, hc1⟩, hf1⟩
    · rw [List.length_set]
      exact h3.kept (gcell w g k (.string y)) (.inr (by simp [Value.ownBlock]; exact hne))
    · refine ⟨by rw [List.length_set]; exact h4.size, fun j u p hu hp => ?_, h4.top, h4.apart⟩
      by_cases hj : j = i
      · subst hj
        rw [hgi] at hu
        injection hu with hu
        subst hu
        rw [List.getElem?_set_self hi] at hp
        injection hp with hp
        subst hp
        have := (own_store hso' rfl k y).1
        exact this
      · rw [List.getElem?_set_ne (Ne.symm hj)] at hp
        refine sown_grown (h4.own j u p hu hp) (gcell w g k (.string y)) ?_
        have ha := h4.apart i j _ u g hgi hu (Ne.symm hj) rfl
        exact .inr ha

end Go.Proofs.Ythgpjhblbpiagaa.He
