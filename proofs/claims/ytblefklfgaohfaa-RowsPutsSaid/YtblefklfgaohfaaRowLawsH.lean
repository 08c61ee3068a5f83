/-
  The laws of stage 4, walked: Puts.
-/
import Derived.Test.YtblefklfgaohfaaRowLawsG
namespace Go.Proofs.Ytblefklfgaohfaa.Ro
set_option linter.unusedVariables false
set_option linter.unusedSimpArgs false
open Go.RowKit Ba

/-- A store anywhere leaves what the call owns its own; what lies in another block stays. -/
theorem own_set {N n size : Nat} {e : TypeId} {w : World} {v : Value} {xs : List Value} (h : w.ownsRow N e size v n xs) (b j : Nat) (u : Value) :
    ∃ xs', (w.setCell ⟨b, j, none⟩ u).ownsRow N e size v n xs' ∧ (v.ownBlock ≠ some b → xs' = xs) := by
  rcases h.2 with ⟨hv, h0⟩ | ⟨g, cap, cur, hv, hg, hh, rest⟩
  · exact ⟨xs, ⟨h.1, .inl ⟨hv, h0⟩⟩, fun _ => rfl⟩
  · by_cases hb : g = b
    · subst hb hv
      exact ⟨_, (World.ownsRow.stored h j u).1, fun hne => absurd rfl hne⟩
    · refine ⟨xs, ⟨h.1, .inr ⟨g, cap, cur, hv, hg, ?_, rest⟩⟩, fun _ => rfl⟩
      rw [← hh]
      exact Below.heap_setCell w ⟨b, j, none⟩ u g hb
/-- Rows of the call's own that are written into: where their attributes lie stays. -/
def Wr (N : Nat) (w : World) (v : Value) (n : Nat) (z : List Cw) : Prop :=
  ∃ xs, w.ownsRow N 43 5 v n xs ∧ (∀ k (h : k < z.length), xs[k * 5 + 4]? = some (.slice z[k].A z[k].ro.attrs.length z[k].c)) ∧ ∀ x ∈ z, ∃ aw, w.ownsRow N 46 2 (.slice x.A x.ro.attrs.length x.c) x.ro.attrs.length aw
theorem Wr.start {N : Nat} {w : World} {v : Value} {z : List Cw} (h : Ow N w v z) (hf : ∀ x ∈ z, Fr N w x) : Wr N w v z.length z :=
  ⟨_, h.1, fun k hk => by rw [flat_at cells 5 len_cells _ _ _ hk (by omega)]; rfl, fun x hx => ⟨_, (hf x hx).1⟩⟩
theorem Wr.below {N n : Nat} {w w' : World} {v : Value} {z : List Cw} (h : Wr N w v n z) (hb : Below w.heap.size w w') : Wr N w' v n z := by
  obtain ⟨xs, h1, h2, h3⟩ := h
  exact ⟨xs, own_below h1 hb, h2, fun x hx => by obtain ⟨aw, ha⟩ := h3 x hx; exact ⟨aw, own_below ha hb⟩⟩
theorem Wr.name {N n g cap : Nat} {w : World} {z : List Cw} (h : Wr N w (.slice (some ⟨g, 0, none⟩) n cap) n z) (k : Nat) (u : Value) : Wr N (w.setCell ⟨g, k * 5 + 2, none⟩ u) (.slice (some ⟨g, 0, none⟩) n cap) n z := by
  obtain ⟨xs, h1, h2, h3⟩ := h
  refine ⟨_, (World.ownsRow.stored h1 (k * 5 + 2) u).1, fun j hj => ?_, fun x hx => ?_⟩
  · rw [List.getElem?_set_ne (by omega)]
    exact h2 j hj
  · obtain ⟨aw, ha⟩ := h3 x hx
    obtain ⟨aw', ha', _⟩ := own_set ha g (k * 5 + 2) u
    exact ⟨aw', ha'⟩
theorem Wr.attr {N n g : Nat} {w : World} {v : Value} {z : List Cw} (h : Wr N w v n z) {x : Cw} (hx : x ∈ z) (h0 : 0 < x.ro.attrs.length) (hA : x.A = some ⟨g, 0, none⟩) (j : Nat) (u : Value) : Wr N (w.setCell ⟨g, j, none⟩ u) v n z ∧ N ≤ g := by
  obtain ⟨xs, h1, h2, h3⟩ := h
  obtain ⟨aw, ha⟩ := h3 x hx
  have hg : ∃ cs, w.heap[g]? = some (.cells cs 46 (0, 0)) ∧ N ≤ g := by
    rcases ha.2 with ⟨_, h0'⟩ | ⟨g', cap, cur, hv, hng, hh, _⟩
    · omega
    · injection hv with e
      rw [hA] at e
      injection e with e
      injection e with e
      subst e
      exact ⟨cur, hh, hng⟩
  obtain ⟨cs, hgh, hng⟩ := hg
  have hne := block_ne h1 hgh
  obtain ⟨xs', hx1, hx2⟩ := own_set h1 g j u
  rw [hx2 (fun e => hne e.symm)] at hx1
  refine ⟨⟨xs, hx1, h2, fun y hy => ?_⟩, hng⟩
  obtain ⟨bs, hb⟩ := h3 y hy
  obtain ⟨bs', hb', _⟩ := own_set hb g j u
  exact ⟨bs', hb'⟩
theorem own_cell {N g n cap size : Nat} {w : World} {xs : List Value} {e : TypeId} (h : w.ownsRow N e size (.slice (some ⟨g, 0, none⟩) n cap) n xs) (j : Nat) (hj : j < n * size) :
    w.cell? ⟨g, j, none⟩ = xs[j]? ∧ (∃ u, w.cell? ⟨g, j, none⟩ = some u) ∧ w.frozen? ⟨g, j, none⟩ = false ∧ N ≤ g := by
  have hl : xs.length = n * size := h.1
  have hc := World.ownsRow.cellAt h j hj
  exact ⟨hc, ⟨xs[j], by rw [hc, List.getElem?_eq_getElem (by omega)]⟩, World.ownsRow.frozenAt h _, (World.ownsRow.lt h g rfl).1⟩

theorem Moved_len (A : Option Addr) (c n : Nat) (l : List Cw) (d : Int) (w : World) (hn : l.length = n) (hr : Rr w w.heap.size A l) (hc : n ≤ c) (hm : n ≤ 1000000) (hf : Few (ros l)) (hd : Fits d (ros l)) :
    Calls Try.prog 17 #[.slice A n c, .int .i64 d] w fun e w' => ∃ v l', e = .returned v ∧ Ow w.heap.size w' v l' ∧ ros l' = deeper d (ros l) ∧ l'.length = n ∧ Below w.heap.size w w' := by
  subst hn
  refine (Moved_any A c l d w hr hc hm hf hd).mono ?_
  rintro e w1 ⟨v, l', rfl, ho, _, hros, hb⟩
  exact ⟨v, l', rfl, ho, hros, by rw [← len_ros, hros, len_deeper, len_ros], hb⟩
theorem refPut1 (v u : Value) (x y : List Cw) (p at_ : Int) (w : World) (E : Int) (q : List Ro) (h : Rv w v x) (h2 : Rv w u y) (hl : x.length ≤ 100) (hl2 : y.length ≤ 100) (hf : Few (ros x)) (hf2 : Few (ros y)) (hc : check (ros x) = 0) (hE : (put (ros x) p at_ (ros y)).1 = E) (hq : (put (ros x) p at_ (ros y)).2 = q) (hheld : Held q) :
    Calls Try.prog 29 #[v, .int .i64 p, .int .i64 at_, u] w fun e w' => ∃ t z, e = .returned (.tuple #[t, .int .i64 E]) ∧ ros z = q ∧ z.length = q.length ∧ Rv w' t z ∧ Below w.heap.size w w' := by
  obtain ⟨A, c, rfl, hc1, hm, hrr, hh⟩ := h
  obtain ⟨B, d, rfl, hd1, hm2, hrr2, hh2⟩ := h2
  subst hE
  obtain ⟨hx, hr⟩ := check_parts hc
  rw [← put_ref hx] at hq ⊢
  refine (refPut_any A B c d x y p at_ w hrr hrr2 hc1 hd1 (by omega) hf hf2 (right_deep hr (by rw [len_ros]; omega))).mono ?_
  rintro e w1 ⟨t, z, rfl, ho, hfr, hz, hb⟩
  rw [hq] at hz
  exact ⟨t, z, rfl, hz, by rw [← len_ros, hz], ho.rv (by rw [hz]; exact hheld), hb⟩
theorem held_put {x y : List Ro} {p at_ : Int} (hc : check x = 0) (hl : x.length ≤ 100) (hl2 : y.length ≤ 100) : Held (put x p at_ y).2 := by
  by_cases h0 : (put x p at_ y).1 = 0
  · obtain ⟨P, m, S, hs, he, hck⟩ := put_ok hc (by omega) h0
    rw [he]
    refine held_deep (right_deep (S.right_put hs) ?_)
    rw [len_putAt _ _ _ _ S.Pl]
    omega
  · rw [put_not h0]; exact fun y hy => by cases hy
theorem len_put {x y : List Ro} {p at_ : Int} (hc : check x = 0) (hl : x.length ≤ 100) (hl2 : y.length ≤ 100) : (put x p at_ y).2.length ≤ 200 := by
  by_cases h0 : (put x p at_ y).1 = 0
  · obtain ⟨P, m, S, hs, he, hck⟩ := put_ok hc (by omega) h0
    rw [he, len_putAt _ _ _ _ S.Pl]
    omega
  · rw [put_not h0]; exact Nat.zero_le _

end Go.Proofs.Ytblefklfgaohfaa.Ro
