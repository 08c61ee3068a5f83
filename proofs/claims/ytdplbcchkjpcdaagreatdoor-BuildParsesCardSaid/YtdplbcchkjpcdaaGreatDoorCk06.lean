/-
  Rows and attributes of the call's own: what they hold, what is kept where another one grows, append of a row and of attributes.
  Walks of stage 4: validRow, valid, Check.
  Walks of stage 4: boltingref04.Row, Right, Check.
  Walks of stage 4: boltingref04.Moved, Join; rows.appendMoved; boltinglaw04.bound.
  Walks of stage 4: boltinglaw04.bound, boltingref04.Join; append of rows onto rows.
  Walks of stage 4: joined, Text, textsEnd; boltingref04.Text.
  Walks of stage 4: textsEnd, Normal.
  Walks of stage 4: boltingref04.Normal.
  Walks of stage 4: sameAttrs, sameRow, Same; boltingref04.Attrs, Same.
  Walks of stage 4: sameRow, Same; boltingref04.Same.
  Walks of stage 4: boltingref04.Same.
  A value that reads as rows (Rv), and the contracts of Check, Same, Normal over it.
  Stage 7, in plain words: rows whose texts are joined at the end are those whose texts were joined one by one; nothing of the program.
  Stage 7: a builder in memory: its open elements, its rows, each of the call's own.
-/
import Derived.Test.YtdplbcchkjpcdaaGreatDoorCk05
import Derived.Test.YtdplbcchkjpcdaaGreatDoorCk02
import Derived.Test.YtdplbcchkjpcdaaGreatDoorCk03
import Derived.StillTailTactics
import Derived.Deep.RegionHeld3
import Derived.Deep.CutRange
import Derived.Laws.StructEq
import Derived.Deep.RegionWith
import Derived.Deep.AppendLies
import Derived.Deep.RegionLaw
import Derived.BigRegion
namespace Go.Proofs.YtdplbcchkjpcdaaGreatDoor.Ro
set_option maxRecDepth 100000
set_option linter.unusedVariables false
set_option linter.unusedSimpArgs false
open Go.RowKit Ba
/-- The attributes of a row lie where no row of the call's own can lie. -/
def Ap (w : World) (N : Nat) (x : Cw) : Prop := 0 < x.ro.attrs.length → ∃ b off, x.A = some ⟨b, off, none⟩ ∧ (b < N ∨ ∃ cs fr, w.heap[b]? = some (.cells cs 66 fr))
/-- The attributes of a row are the call's own. -/
def Fr (N : Nat) (w : World) (x : Cw) : Prop := w.ownsRow N 66 2 (.slice x.A x.ro.attrs.length x.c) x.ro.attrs.length (x.ro.attrs.flatMap acells) ∧ Sh x.ro.attrs
/-- v is a slice of rows of the call's own. -/
def Ow (N : Nat) (w : World) (v : Value) (l : List Cw) : Prop := w.ownsRow N 36 5 v l.length (l.flatMap cells) ∧ ∀ x ∈ l, Att w w.heap.size x ∧ Ap w N x

theorem Fr.att {N : Nat} {w : World} {x : Cw} (h : Fr N w x) : Att w w.heap.size x := by
  obtain ⟨⟨hl, h⟩, hs⟩ := h
  rcases h with ⟨hv, hn⟩ | ⟨g, cap, cur, hv, hg, hh, hn, hm, hsz, ht⟩
  · injection hv with e1 e2 e3
    refine ⟨by omega, fun _ => e3, by rw [e3]; exact Nat.zero_le _, fun h0 => by omega, hs⟩
  · have hh0 : w.ownsRow N 66 2 (.slice x.A x.ro.attrs.length x.c) x.ro.attrs.length (x.ro.attrs.flatMap acells) := ⟨hl, .inr ⟨g, cap, cur, hv, hg, hh, hn, hm, hsz, ht⟩⟩
    injection hv with e1 _ e3
    refine ⟨by omega, (fun e => by rw [e] at e1; cases e1), by rw [e3]; exact hm, fun h0 => ⟨g, 0, e1, (Array.getElem?_eq_some_iff.1 hh).1, fun j hj i v hv => ?_⟩, hs⟩
    have hi : i < 2 := (List.getElem?_eq_some_iff.1 hv).1
    have := World.ownsRow.cells hh0 (g := g) (by rw [e1]; rfl) (j * 2 + i) v (by rw [flat_at acells 2 len_acells _ _ _ hj hi]; exact hv)
    rw [WideShapes.add_plain] at this
    rw [show 0 + j * 2 + i = 0 + (j * 2 + i) from by omega]
    exact this
theorem Fr.ap {N : Nat} {w : World} {x : Cw} (h : Fr N w x) : Ap w N x := fun h0 => by
  obtain ⟨⟨_, h⟩, _⟩ := h
  rcases h with ⟨hv, hn⟩ | ⟨g, cap, cur, hv, hg, hh, _⟩
  · omega
  · injection hv with e1
    exact ⟨g, 0, e1, .inr ⟨_, _, hh⟩⟩
theorem Fr.below {N M : Nat} {w w' : World} {x : Cw} (h : Fr N w x) (hb : Below M w w') (hM : w.heap.size ≤ M := by exact Nat.le_refl _) : Fr N w' x := by
  refine ⟨⟨h.1.1, ?_⟩, h.2⟩
  rcases h.1.2 with hn | ⟨g, cap, cur, hv, hg, hh, rest⟩
  · exact .inl hn
  · refine .inr ⟨g, cap, cur, hv, hg, ?_, rest⟩
    have hlt : g < w.heap.size := (Array.getElem?_eq_some_iff.1 hh).1
    rw [hb.block g (by omega)]
    exact hh
theorem Ap.below {N M : Nat} {w w' : World} {x : Cw} (h : Ap w N x) (hb : Below M w w') (hM : w.heap.size ≤ M := by exact Nat.le_refl _) : Ap w' N x := fun h0 => by
  obtain ⟨b, off, e, h⟩ := h h0
  refine ⟨b, off, e, ?_⟩
  rcases h with h | ⟨cs, fr, h⟩
  · exact .inl h
  · refine .inr ⟨cs, fr, ?_⟩
    have hlt : b < w.heap.size := (Array.getElem?_eq_some_iff.1 h).1
    rw [hb.block b (by omega)]
    exact h
theorem Att.apart {N : Nat} {w : World} {x : Cw} (h : Att w N x) : Ap w N x := fun h0 => by
  obtain ⟨b, off, e, hb, _⟩ := h.2.2.2.1 h0
  exact ⟨b, off, e, .inl hb⟩
theorem Ow.nil (N : Nat) (w : World) : Ow N w (.slice none 0 0) [] := ⟨World.ownsRow_nil w N _ 5, fun _ h => by simp at h⟩
theorem Ow.made (w : World) : Ow w.heap.size (w.alloc (.cells #[] 36)) (.slice (some ⟨w.heap.size, 0, none⟩) 0 0) [] :=
  ⟨World.ownsRow_made w #[] 0 (Nat.le_refl _) (Nat.zero_le _) rfl, fun _ h => by simp at h⟩
theorem Ow.below {N M : Nat} {w w' : World} {v : Value} {l : List Cw} (h : Ow N w v l) (hb : Below M w w') (hM : w.heap.size ≤ M := by exact Nat.le_refl _) : Ow N w' v l := by
  refine ⟨⟨h.1.1, ?_⟩, fun x hx => ⟨((h.2 x hx).1.below hb hM).more hb.size, (h.2 x hx).2.below hb hM⟩⟩
  rcases h.1.2 with hn | ⟨g, cap, cur, hv, hg, hh, rest⟩
  · exact .inl hn
  · refine .inr ⟨g, cap, cur, hv, hg, ?_, rest⟩
    have hlt : g < w.heap.size := (Array.getElem?_eq_some_iff.1 hh).1
    rw [hb.block g (by omega)]
    exact hh
theorem Ow.alloc {N : Nat} {w : World} {v : Value} {l : List Cw} (h : Ow N w v l) (o : Obj) : Ow N (w.alloc o) v l := h.below (below_new w o)
theorem Ow.mono {N N' : Nat} {w : World} {v : Value} {l : List Cw} (h : Ow N w v l) (hN : N' ≤ N) (hl : ∀ x ∈ l, Ap w N' x) : Ow N' w v l := ⟨World.ownsRow.mono h.1 hN, fun x hx => ⟨(h.2 x hx).1, hl x hx⟩⟩
/-- What a slice of the call's own is, and reads as. -/
theorem Ow.form {N : Nat} {w : World} {v : Value} {l : List Cw} (h : Ow N w v l) : ∃ A c, v = .slice A l.length c ∧ l.length ≤ c ∧ c ≤ maxLen ∧ (A = none → c = 0) ∧ Rr w w.heap.size A l := by
  rcases h.1.2 with ⟨hv, hl⟩ | ⟨g, cap, cur, hv, hg, hh, hn, hm, hs, ht⟩
  · have : l = [] := List.eq_nil_of_length_eq_zero hl
    subst this
    exact ⟨none, 0, hv, Nat.le_refl _, Nat.zero_le _, fun _ => rfl, Rr.nil _ _ _⟩
  · refine ⟨some ⟨g, 0, none⟩, cap, hv, hn, hm, (fun e => by cases e), fun _ => ⟨g, 0, rfl, (Array.getElem?_eq_some_iff.1 hh).1, fun j hj i u hu => ?_⟩, fun x hx => (h.2 x hx).1⟩
    have hi : i < 5 := (List.getElem?_eq_some_iff.1 hu).1
    subst hv
    have := World.ownsRow.cells h.1 (g := g) rfl (j * 5 + i) u (by rw [flat_at cells 5 len_cells _ _ _ hj hi]; exact hu)
    rw [WideShapes.add_plain] at this
    rw [show 0 + j * 5 + i = 0 + (j * 5 + i) from by omega]
    exact this

/-- A block of attributes is none of rows. -/
theorem block_ne {N n : Nat} {w : World} {v : Value} {xs : List Value} {b : Nat} {cs : Array Value} {fr : Nat × Nat} (h : w.ownsRow N 36 5 v n xs) (hb : w.heap[b]? = some (.cells cs 66 fr)) : some b ≠ v.ownBlock := by
  rcases h.2 with ⟨rfl, _⟩ | ⟨g, cap, cur, rfl, _, hh, _⟩
  · simp [Value.ownBlock]
  · intro e
    have e : b = g := by simpa [Value.ownBlock] using e
    subst e
    rw [hb] at hh
    injection hh with hh
    injection hh with _ ht
    exact absurd ht (by decide)
theorem low_ne {N n : Nat} {w : World} {v : Value} {xs : List Value} {b : Nat} (h : w.ownsRow N 36 5 v n xs) (hb : b < N) : some b ≠ v.ownBlock := fun e => by
  have := (World.ownsRow.lt h b e.symm).1
  omega
theorem Att.grown {N n : Nat} {w w' : World} {v : Value} {xs : List Value} {y : Cw} (h : w.ownsRow N 36 5 v n xs) (hg : w.grownBy w' v.ownBlock) (hy : Att w w.heap.size y) (ha : Ap w N y) : Att w' w'.heap.size y := by
  refine ⟨hy.1, hy.2.1, hy.2.2.1, fun h0 => ?_, hy.2.2.2.2⟩
  obtain ⟨b, off, e, hb, hc⟩ := hy.2.2.2.1 h0
  obtain ⟨b', off', e', ha⟩ := ha h0
  rw [e] at e'
  injection e' with e'
  injection e' with e1 e2
  subst e1 e2
  have hne : some b ≠ v.ownBlock := by
    rcases ha with ha | ⟨cs, fr, ha⟩
    · exact low_ne h ha
    · exact block_ne h ha
  exact ⟨b, off, e, Nat.lt_of_lt_of_le hb hg.size, fun j hj => range_keep (hc j hj) fun o => World.cell?_of_block (a := ⟨b, o, none⟩) (hg.block b hb hne)⟩
theorem Ap.grown {N n : Nat} {w w' : World} {v : Value} {xs : List Value} {y : Cw} (h : w.ownsRow N 36 5 v n xs) (hg : w.grownBy w' v.ownBlock) (ha : Ap w N y) : Ap w' N y := fun h0 => by
  obtain ⟨b, off, e, ha⟩ := ha h0
  refine ⟨b, off, e, ?_⟩
  rcases ha with ha | ⟨cs, fr, ha⟩
  · exact .inl ha
  · exact .inr ⟨cs, fr, (hg.block b (Array.getElem?_eq_some_iff.1 ha).1 (block_ne h ha)).trans ha⟩
theorem Fr.grown {N n : Nat} {w w' : World} {v : Value} {xs : List Value} {y : Cw} (h : w.ownsRow N 36 5 v n xs) (hg : w.grownBy w' v.ownBlock) (hy : Fr N w y) : Fr N w' y := by
  refine ⟨⟨hy.1.1, ?_⟩, hy.2⟩
  rcases hy.1.2 with hn | ⟨g, cap, cur, hv, hg', hh, rest⟩
  · exact .inl hn
  · exact .inr ⟨g, cap, cur, hv, hg', (hg.block g (Array.getElem?_eq_some_iff.1 hh).1 (block_ne h hh)).trans hh, rest⟩

theorem row_cells_new (w : World) (x : Cw) : ∀ j u, (cells x)[j]? = some u → (w.alloc (rowO x)).cell? ((⟨w.heap.size, 0, none⟩ : Addr).add j) = some u := fun j u hu => by
  rw [WideShapes.add_plain, Nat.zero_add]
  exact (box_at w x j).trans hu
theorem cells_one (x : Cw) : ∀ u ∈ cells x, u.oneCell' = true := by
  intro u hu
  simp only [cells, List.mem_cons, List.not_mem_nil, or_false] at hu
  rcases hu with rfl | rfl | rfl | rfl | rfl <;> rfl
/-- append of one row, in a block of its own, onto rows of the call's own. -/
theorem app_row {ops : Array Oper} {rest : List Oper} {o : Oper} {a : Act} {Q : Exit → Act → World → Prop} (w : World) (hgd : o.guard = none) (s x : Operand)
    (ho : o.op = .call { callee := .builtin .append, args := #[s, x], argTypes := #[22, 22] })
    (N : Nat) (v : Value) (l : List Cw) (y : Cw) (hs : a.eval s = v) (hown : Ow N w v l) (hy : Att w w.heap.size y) (hap : Ap w N y) (g : Nat) (hgz : g = w.heap.size) (hx : a.eval x = .slice (some ⟨g, 0, none⟩) 1 1)
    (hl : l.length ≤ 2000000) (hN : N ≤ w.heap.size)
    (h : ∀ v' w', Ow N w' v' (l ++ [y]) → (∀ w0, Below N w0 w → Below N w0 w') → (∀ z, Fr N w z → Fr N w' z) → wpList Tryz.prog ops Q rest (a.put o.dst v') w') :
    wpList Tryz.prog ops Q (o :: rest) a (w.alloc (rowO y)) := by
  subst hgz
  obtain ⟨i0, hi, hz0, hz1, hz2⟩ := info_parts info_row
  have hown' : Ow N (w.alloc (rowO y)) v l := hown.alloc _
  have hsz : (w.alloc (rowO y)).heap.size = w.heap.size + 1 := by simp
  refine wpList_append_own _ hgd s x 22 ho N 36 i0 _ 5 72 Tryz.underlying22 hi hz0 hz1 hz2 rfl (by decide) v l.length (l.flatMap cells) hs hown'.1 ⟨w.heap.size, 0, none⟩ 1 1 (cells y) hx rfl (row_cells_new w y) (cells_one y) (by unfold maxLen; omega) (by omega) (by omega) ?_
  intro v' w' ho2 hg2 _
  have hk : ∀ w0, Below N w0 w → Below N w0 w' := fun w0 hb => (hb.alloc hN _).grown hg2 (by omega) fun k hk => (World.ownsRow.lt hown'.1 k hk).1
  refine h v' w' ⟨?_, ?_⟩ hk fun z hz => (hz.below (below_new w (rowO y))).grown hown'.1 hg2
  · rw [List.length_append, List.flatMap_append]
    simpa using ho2
  · intro z hz
    rcases List.mem_append.1 hz with hz | hz
    · exact ⟨(hown'.2 z hz).1.grown hown'.1 hg2 (hown'.2 z hz).2, (hown'.2 z hz).2.grown hown'.1 hg2⟩
    · obtain rfl := List.mem_singleton.1 hz
      have h1 : Att (w.alloc (rowO z)) (w.alloc (rowO z)).heap.size z := hy.boxed (Below.refl _ _) (rowO z)
      have h2 := hap.below (below_new w (rowO z))
      exact ⟨h1.grown hown'.1 hg2 h2, h2.grown hown'.1 hg2⟩

/-- append of a row's attributes onto none. -/
theorem app_attrs {ops : Array Oper} {rest : List Oper} {o : Oper} {a : Act} {Q : Exit → Act → World → Prop} (w : World) (hgd : o.guard = none) (s x : Operand)
    (ho : o.op = .call { callee := .builtin .append, args := #[s, x], argTypes := #[34, 34] })
    (N : Nat) (v : Value) (y : Cw) (hs : a.eval s = v) (hown : w.ownsRow N 66 2 v 0 []) (hx : a.eval x = .slice y.A y.ro.attrs.length y.c) (hy : Att w w.heap.size y)
    (hl : y.ro.attrs.length ≤ 2000000) (hN : N ≤ w.heap.size)
    (h : ∀ A c w', Fr N w' { y with A := A, c := c } → w.grownBy w' v.ownBlock → wpList Tryz.prog ops Q rest (a.put o.dst (.slice A y.ro.attrs.length c)) w') :
    wpList Tryz.prog ops Q (o :: rest) a w := by
  obtain ⟨i0, hi, hz0, hz1, hz2⟩ := info_parts info_attr
  obtain ⟨h1, h2, h3, h4, h5⟩ := hy
  cases hA : y.A with
  | none =>
    have hm : y.ro.attrs = [] := by
      rcases Nat.eq_zero_or_pos y.ro.attrs.length with h0 | h0
      · exact List.eq_nil_of_length_eq_zero h0
      · obtain ⟨b, off, e, _⟩ := h4 h0
        rw [hA] at e
        cases e
    have hc0 := h2 hA
    rw [hA, hc0, hm] at hx
    refine wpList_append_own_none hgd s x 34 ho N 66 i0 2 Tryz.underlying34 hi v 0 [] hs hown hx ?_
    rcases hown.2 with ⟨hv, _⟩ | ⟨g, cap, cur, hv, _⟩
    · subst hv
      have := h none 0 w ⟨by simpa [hm] using hown, h5⟩ (World.grownBy.refl w _)
      rwa [hm] at this
    · subst hv
      have := h (some ⟨g, 0, none⟩) cap w ⟨by simpa [hm] using hown, h5⟩ (World.grownBy.refl w _)
      rwa [hm] at this
  | some ad =>
    have hcells : ∀ j u, (y.ro.attrs.flatMap acells)[j]? = some u → w.cell? (ad.add j) = some u := by
      intro j u hu
      have hj : j < (y.ro.attrs.flatMap acells).length := (List.getElem?_eq_some_iff.1 hu).1
      rw [flat_len acells 2 len_acells] at hj
      obtain ⟨b, off, e, _, hc⟩ := h4 (by omega)
      rw [hA] at e
      injection e with e
      subst e
      rw [WideShapes.add_plain]
      have hq := hc (j / 2) (by omega) (j % 2) u (by rw [← flat_at acells 2 len_acells _ _ _ (by omega) (Nat.mod_lt _ (by decide)), show j / 2 * 2 + j % 2 = j from by omega]; exact hu)
      rw [show off + j / 2 * 2 + j % 2 = off + j from by omega] at hq
      exact hq
    rw [hA] at hx
    refine wpList_append_own _ hgd s x 34 ho N 66 i0 _ 2 32 Tryz.underlying34 hi hz0 hz1 hz2 rfl (by decide) v 0 [] hs hown ad y.ro.attrs.length y.c (y.ro.attrs.flatMap acells) hx (flat_len acells 2 len_acells _) hcells (acells_one _) (by unfold maxLen; omega) (by omega) hN ?_
    intro v' w' ho2 hg2 _
    rw [Nat.zero_add, List.nil_append] at ho2
    have hform : ∃ A c, v' = .slice A y.ro.attrs.length c := by
      rcases ho2.2 with ⟨hv, hn⟩ | ⟨g, cap, cur, hv, _⟩
      · exact ⟨none, 0, by rw [hn]; exact hv⟩
      · exact ⟨_, _, hv⟩
    obtain ⟨A', c', rfl⟩ := hform
    exact h A' c' w' ⟨ho2, h5⟩ hg2

end Go.Proofs.YtdplbcchkjpcdaaGreatDoor.Ro

namespace Go.Proofs.YtdplbcchkjpcdaaGreatDoor.Ro
set_option linter.unusedVariables false
set_option linter.unusedSimpArgs false
open Go.RowKit Ba
end Go.Proofs.YtdplbcchkjpcdaaGreatDoor.Ro

namespace Go.Proofs.YtdplbcchkjpcdaaGreatDoor.Ro
set_option linter.unusedVariables false
set_option linter.unusedSimpArgs false
open Go.RowKit Ba
theorem twice_snoc (a : List At) (x : At) : twice (a ++ [x]) = (twice a || a.any fun b => decide (b.name = x.name)) := by
  induction a with
  | nil => rfl
  | cons y r ih =>
    rw [List.cons_append, twice, ih, List.any_append, twice, List.any_cons]
    simp only [List.any_cons, List.any_nil, Bool.or_false]
    have e : decide (x.name = y.name) = decide (y.name = x.name) := by
      rw [Bool.eq_iff_iff, decide_eq_true_iff, decide_eq_true_iff]
      exact ⟨fun h => h.symm, fun h => h.symm⟩
    rw [e]
    cases r.any (fun b => decide (b.name = y.name)) <;> cases decide (y.name = x.name) <;> cases twice r <;> simp
theorem take_at {α : Type} {l : List α} {k : Nat} {x : α} {r : List α} (h : l.drop k = x :: r) : l.take (k + 1) = l.take k ++ [x] := by
  rw [List.take_add_one, getElem_of_drop h]
  rfl
theorem below_dN {B : Nat} {w w' : World} (h : Below B w w') (n : Nat) : Below B w (w'.drewN n) := ⟨h.1, h.2, h.3, h.4, h.5⟩

end Go.Proofs.YtdplbcchkjpcdaaGreatDoor.Ro

namespace Go.Proofs.YtdplbcchkjpcdaaGreatDoor.Ro
set_option maxRecDepth 100000
set_option linter.unusedVariables false
set_option linter.unusedSimpArgs false
open Go.RowKit Ba
/-- Rows so much deeper. -/
def deeper (by_ : Int) (l : List Ro) : List Ro := l.map fun x => { x with depth := x.depth + by_ }
theorem deeper_snoc (d : Int) (l : List Ro) (x : Ro) : deeper d (l ++ [x]) = deeper d l ++ [{ x with depth := x.depth + d }] := by simp [deeper]
/-- No row has more attributes than that. -/
def Few (l : List Ro) : Prop := ∀ x ∈ l, x.attrs.length ≤ 1000000
theorem Few.at_ {l : List Cw} (h : Few (ros l)) {x : Cw} (hx : x ∈ l) : x.ro.attrs.length ≤ 1000000 := h _ (List.mem_map.2 ⟨x, hx, rfl⟩)
/-- So much deeper they do not wrap. -/
def Fits (by_ : Int) (l : List Ro) : Prop := ∀ x ∈ l, -9223372036854775808 ≤ x.depth + by_ ∧ x.depth + by_ ≤ 9223372036854775807
theorem Fits.at_ {d : Int} {l : List Cw} (h : Fits d (ros l)) {x : Cw} (hx : x ∈ l) : -9223372036854775808 ≤ x.ro.depth + d ∧ x.ro.depth + d ≤ 9223372036854775807 := h _ (List.mem_map.2 ⟨x, hx, rfl⟩)

theorem Fr.mono {N N' : Nat} {w : World} {x : Cw} (h : Fr N w x) (hN : N' ≤ N) : Fr N' w x := ⟨World.ownsRow.mono h.1 hN, h.2⟩
theorem Fr.set {N : Nat} {w : World} {x : Cw} {p : Addr} {u : Value} (h : Fr N w x) (hp : p.block < N) : Fr N (w.setCell p u) x := by
  refine ⟨⟨h.1.1, ?_⟩, h.2⟩
  rcases h.1.2 with hn | ⟨g, cap, cur, hv, hg, hh, rest⟩
  · exact .inl hn
  · exact .inr ⟨g, cap, cur, hv, hg, (Below.heap_setCell w p u g (by omega)).trans hh, rest⟩
/-- A box that is kept. -/
theorem box_block {w w2 : World} {x : Cw} (hb : Below (w.heap.size + 1) (w.alloc (rowO x)) w2) :
    w2.cell? ⟨w.heap.size, 0, none⟩ = some (.int .i64 x.ro.depth) ∧ w2.cell? ⟨w.heap.size, 1, none⟩ = some (.int .i64 x.ro.kind) ∧ w2.cell? ⟨w.heap.size, 2, none⟩ = some (.string x.ro.name) ∧ w2.cell? ⟨w.heap.size, 3, none⟩ = some (.string x.ro.data) ∧ w2.cell? ⟨w.heap.size, 4, none⟩ = some (.slice x.A x.ro.attrs.length x.c) ∧ w2.frozen? ⟨w.heap.size, 4, none⟩ = false ∧ Below w.heap.size w w2 := by
  have hc : ∀ j, w2.cell? ⟨w.heap.size, j, none⟩ = (cells x)[j]? := fun j => (hb.cell (p := ⟨w.heap.size, j, none⟩) (by simp)).trans (box_at w x j)
  refine ⟨hc 0, hc 1, hc 2, hc 3, hc 4, ?_, (below_new w _).trans (hb.mono (by omega))⟩
  rw [hb.frozen (p := ⟨w.heap.size, 4, none⟩) (by simp)]
  unfold World.frozen?
  rw [heap_alloc_new]
  rfl
abbrev deep1 (d : Int) (x : Cw) : Cw := ⟨⟨x.ro.depth + d, x.ro.kind, x.ro.name, x.ro.data, x.ro.attrs⟩, x.A, x.c⟩
abbrev deep2 (d : Int) (x : Cw) (A : Option Addr) (c : Nat) : Cw := ⟨⟨x.ro.depth + d, x.ro.kind, x.ro.name, x.ro.data, x.ro.attrs⟩, A, c⟩
/-- What a copied row is, in the world where its attributes have been stored into its box. -/
theorem copied {N : Nat} {w w2 : World} {d : Int} {x : Cw} {A : Option Addr} {c : Nat} {v : Value} {acc : List Cw} (hN : N ≤ w.heap.size) (hb : Below w.heap.size w w2) (hf : Fr (w.heap.size + 1) w2 (deep2 d x A c)) (hown : Ow N w v acc) (hfr : ∀ x ∈ acc, Fr N w x) (u : Value) :
    Ow N (w2.setCell ⟨w.heap.size, 4, none⟩ u) v acc ∧ (∀ x ∈ acc, Fr N (w2.setCell ⟨w.heap.size, 4, none⟩ u) x) ∧ Att (w2.setCell ⟨w.heap.size, 4, none⟩ u) (w2.setCell ⟨w.heap.size, 4, none⟩ u).heap.size (deep2 d x A c) ∧ Ap (w2.setCell ⟨w.heap.size, 4, none⟩ u) N (deep2 d x A c) ∧ Fr N (w2.setCell ⟨w.heap.size, 4, none⟩ u) (deep2 d x A c) ∧ N ≤ (w2.setCell ⟨w.heap.size, 4, none⟩ u).heap.size ∧ Below w.heap.size w (w2.setCell ⟨w.heap.size, 4, none⟩ u) := by
  have hb' : Below w.heap.size w (w2.setCell ⟨w.heap.size, 4, none⟩ u) := hb.setCell (Nat.le_refl _) _
  have hf' := (hf.set (p := ⟨w.heap.size, 4, none⟩) (u := u) (Nat.lt_succ_self _)).mono (N' := N) (by omega)
  exact ⟨hown.below hb', fun x hx => (hfr x hx).below hb', hf'.att, hf'.ap, hf', Nat.le_trans hN hb'.size, hb'⟩

theorem after_attrs0 {w w2 : World} {o : Obj} (hg : (w.alloc o).grownBy w2 none) : Below (w.heap.size + 1) (w.alloc o) w2 := by
  have h := Below.refl (w.alloc o).heap.size (w.alloc o)
  have e : (w.alloc o).heap.size = w.heap.size + 1 := by simp
  rw [e] at h
  exact h.grown hg (by simp) fun k hk => by cases hk
theorem Att.boxN {w : World} {N : Nat} {x : Cw} (h : Att w N x) (hN : N ≤ w.heap.size) (o : Obj) : Att (w.alloc o) (w.alloc o).heap.size x := ((h.more hN).below (below_new w o)).more (by simp)

set_option maxRecDepth 100000 in
set_option maxHeartbeats 1000000 in
theorem appendMoved_any (N : Nat) (v0 : Value) (acc0 : List Cw) (A : Option Addr) (c : Nat) (l : List Cw) (d : Int) (w : World) (hN : N ≤ w.heap.size) (hown0 : Ow N w v0 acc0) (hfr0 : ∀ x ∈ acc0, Fr N w x) (hacc0 : acc0.length ≤ 1000000) (hr : Rr w N A l) (hc : l.length ≤ c) (hm : l.length ≤ 1000000) (hf : Few (ros l)) (hd : Fits d (ros l)) :
    Calls Tryz.prog 48 #[v0, .slice A l.length c, .int .i64 d] w fun e w' => ∃ v l', e = .returned v ∧ Ow N w' v l' ∧ (∀ x ∈ l', Fr N w' x) ∧ ros l' = ros acc0 ++ deeper d (ros l) ∧ Below N w w' := by
  go_enter Tryz.func48, Tryz.ntmps48
  go_wp2
  go_loopw [0, 11] (fun v i wr => ∃ (k : Nat) (acc : List Cw), i = .int .i64 k ∧ k ≤ l.length ∧ acc.length = acc0.length + k ∧ Ow N wr v acc ∧ (∀ x ∈ acc, Fr N wr x) ∧ ros acc = ros acc0 ++ deeper d (ros (l.take k)) ∧ Below N w wr) (fun _ i _ => l.length - (intOf i).toNat)
  case atStart => exact ⟨0, acc0, rfl, by omega, rfl, hown0, hfr0, by rw [List.take_zero]; exact (List.append_nil _).symm, Below.refl _ _⟩
  case round =>
    clear hown0 hfr0
    obtain ⟨k, acc, rfl, hk, hal, hown, hfr, hros, hbel⟩ := hrel
    have hsz : N ≤ wr.heap.size := Nat.le_trans hN hbel.size
    by_cases hp : k < l.length
    · obtain ⟨b, off, x, rfl, hb, hdx, hx, hxa, hxm⟩ := (hr.below hbel).at_ k hp
      have hfew : x.ro.attrs.length ≤ 2000000 := Nat.le_trans (hf.at_ hxm) (by decide)
      obtain ⟨hw1, hw2⟩ := hd.at_ hxm
      have hs : ros acc ++ [{ x.ro with depth := x.ro.depth + d }] = ros acc0 ++ deeper d (ros (l.take (k + 1))) := by
        rw [hros, List.take_add_one, getElem_of_drop hdx, ros_append, List.append_assoc, ← deeper_snoc]
        rfl
      have HS := Lib.hid hs
      have HOW := Lib.hid hown; have HFR := Lib.hid hfr
      have HAT : Hid (Att (wr.alloc (rowO (deep1 d x))) (wr.alloc (rowO (deep1 d x))).heap.size (deep1 d x)) := Lib.hid ((show Att wr N (deep1 d x) from hxa).boxN hsz (rowO (deep1 d x)))
      have hacc : acc.length ≤ 2000000 := by omega
      have HAL := Lib.hid hal
      clear hros hdx hs hown hfr hxa hal
      go_wp2_with (first
        | (refine wpList_load_mid rfl 36 (.tmp 13) rfl b (off + k * 5) rfl _ _ hx Tryz.underlying36 rfl size_row ?_)
        | (at_builtin; refine app_attrs _ rfl (.const (.slice none 0 0)) (.tmp 21) rfl (wr.heap.size + 1) (.slice none 0 0) (deep1 d x) rfl (World.ownsRow_nil _ _ _ _) rfl HAT.out hfew (by simp) ?_; intro A' c' w2 hf2 hg2
           obtain ⟨q0, q1, q2, q3, q4, q5, hb2⟩ := box_block (after_attrs0 (w := wr) (o := rowO (deep1 d x)) hg2)
           have HF2 := Lib.hid hf2; have HB2 := Lib.hid hb2
           clear hf2 hb2 hg2)
        | (at_builtin; refine app_row _ rfl (.tmp 24) (.tmp 26) rfl N _ acc (deep2 d x A' c') rfl (copied hsz HB2.out HF2.out HOW.out HFR.out _).1 (copied hsz HB2.out HF2.out HOW.out HFR.out _).2.2.1 (copied hsz HB2.out HF2.out HOW.out HFR.out _).2.2.2.1 w2.heap.size (by simp) rfl hacc (copied hsz HB2.out HF2.out HOW.out HFR.out _).2.2.2.2.2.1 ?_; intro v3 w3 ho3 hk3 hf3))
      go_roundw
      case rel =>
        have C := copied hsz HB2.out HF2.out HOW.out HFR.out (.slice A' x.ro.attrs.length c')
        exact ⟨k + 1, acc ++ [deep2 d x A' c'], by go_num, by omega, by rw [List.length_append, HAL.out]; rfl, ho3, fun z hz => (by
          rcases List.mem_append.1 hz with h | h
          · exact hf3 z (C.2.1 z h)
          · obtain rfl := List.mem_singleton.1 h
            exact hf3 _ C.2.2.2.2.1), by rw [ros_append]; exact HS.out, hk3 w (hbel.trans (C.2.2.2.2.2.2.mono hsz))⟩
      case measure => simp [intOf]; omega
    · rw [List.take_of_length_le (by omega)] at hros
      have HR := Lib.hid hros
      clear hros
      go_wp2
      go_ret
      exact ⟨_, acc, rfl, hown, hfr, HR.out, hbel⟩

theorem Few.append {a b : List Ro} (ha : Few a) (hb : Few b) : Few (a ++ b) := fun x hx => (List.mem_append.1 hx).elim (ha x) (hb x)
theorem Few.deeper {a : List Ro} (ha : Few a) (d : Int) : Few (deeper d a) := fun x hx => by
  obtain ⟨y, hy, rfl⟩ := List.mem_map.1 hx
  exact ha y hy
theorem deeper_zero (l : List Ro) : deeper 0 l = l := by
  unfold deeper
  rw [List.map_congr_left (g := id) fun x _ => by simp]
  exact List.map_id l
/-- Depths that an int64 holds. -/
def Held (l : List Ro) : Prop := ∀ x ∈ l, -9223372036854775808 ≤ x.depth ∧ x.depth ≤ 9223372036854775807
theorem Held.fits {l : List Ro} (h : Held l) : Fits 0 l := fun x hx => by have := h x hx; omega
theorem Held.append {a b : List Ro} (ha : Held a) (hb : Held b) : Held (a ++ b) := fun x hx => (List.mem_append.1 hx).elim (ha x) (hb x)
theorem Few.drop {l : List Ro} (h : Few l) (k : Nat) : Few (l.drop k) := fun x hx => h x (List.mem_of_mem_drop hx)
theorem Few.take {l : List Ro} (h : Few l) (k : Nat) : Few (l.take k) := fun x hx => h x (List.mem_of_mem_take hx)
theorem Held.drop {l : List Ro} (h : Held l) (k : Nat) : Held (l.drop k) := fun x hx => h x (List.mem_of_mem_drop hx)
theorem Held.take {l : List Ro} (h : Held l) (k : Nat) : Held (l.take k) := fun x hx => h x (List.mem_of_mem_take hx)
theorem Fits.drop {d : Int} {l : List Ro} (h : Fits d l) (k : Nat) : Fits d (l.drop k) := fun x hx => h x (List.mem_of_mem_drop hx)
theorem Fits.take {d : Int} {l : List Ro} (h : Fits d l) (k : Nat) : Fits d (l.take k) := fun x hx => h x (List.mem_of_mem_take hx)

end Go.Proofs.YtdplbcchkjpcdaaGreatDoor.Ro

namespace Go.Proofs.YtdplbcchkjpcdaaGreatDoor.Ro
set_option maxRecDepth 100000
set_option linter.unusedVariables false
set_option linter.unusedSimpArgs false
open Go.RowKit Ba
theorem Ra.take {w : World} {N : Nat} {A : Option Addr} {l : List At} (h : Ra w N A l) (k : Nat) : Ra w N A (l.take k) := fun h0 => by
  rw [List.length_take] at h0
  obtain ⟨b, off, e, hb, hc⟩ := h (by omega)
  refine ⟨b, off, e, hb, fun j hj => ?_⟩
  rw [List.length_take] at hj
  rw [List.getElem_take]
  exact hc j (by omega)
abbrev cut (x : Cw) (ys : List At) : Cw := ⟨⟨x.ro.depth, x.ro.kind, x.ro.name, x.ro.data, ys⟩, x.A, x.c⟩
theorem Att.cut {w : World} {N : Nat} {x : Cw} (h : Att w N x) : Att w N (cut x (x.ro.attrs.take 8)) :=
  ⟨Nat.le_trans (List.length_take_le' _ _) h.1, h.2.1, h.2.2.1, h.2.2.2.1.take 8, fun a ha => h.2.2.2.2 a (List.mem_of_mem_take ha)⟩
theorem min_any (x : Nat) (m : Nat) (M : Int) (hM : M = m) (y : Nat) (hy : y = min x m) (w : World) : ∀ ts t, (Builtin.min_ ts t #[.int .i64 x, .int .i64 M]).run Tryz.prog w = .ok (.int .i64 y) w := by
  intro ts t
  rw [run_min_int2, hy]
  congr 2
  split <;> omega

end Go.Proofs.YtdplbcchkjpcdaaGreatDoor.Ro

namespace Go.Proofs.YtdplbcchkjpcdaaGreatDoor.Ro
set_option maxRecDepth 100000
set_option linter.unusedVariables false
set_option linter.unusedSimpArgs false
open Go.RowKit Ba
theorem txt_at {l : List Cw} {k : Nat} {x : Cw} (h : l.drop k = x :: l.drop (k + 1)) : txt (ros (l.take (k + 1))) = txt (ros (l.take k)) ++ txt [x.ro] := by
  rw [take_at h, ros_append, txt_append]
  rfl

set_option maxRecDepth 100000 in
theorem joined_any (A : Option Addr) (c : Nat) (l : List Cw) (w : World) (hr : Rr w w.heap.size A l) (hc : l.length ≤ c) (hm : l.length ≤ 1000000) (ht : (txt (ros l)).length ≤ 1000000000) :
    Calls Tryz.prog 50 #[.slice A l.length c] w fun e w' => e = .returned (.string (B (txt (ros l)))) ∧ Below w.heap.size w w' := by
  go_enter Tryz.func50, Tryz.ntmps50
  go_wp2
  go_loopw [3, 8] (fun v i wr => ∃ k : Nat, i = .int .i64 k ∧ k ≤ l.length ∧ OwnB w.heap.size wr v (txt (ros (l.take k))) ∧ Below w.heap.size w wr) (fun _ i _ => l.length - (intOf i).toNat)
  case atStart => exact ⟨0, rfl, by omega, OwnB.nil _ _, Below.refl _ _⟩
  case round =>
    obtain ⟨k, rfl, hk, hown, hbel⟩ := hrel
    have hsz := hbel.size
    by_cases hp : k < l.length
    · obtain ⟨b, off, x, rfl, hb, hdx, hx, _, _⟩ := (hr.below hbel).at_ k hp
      have htx := txt_at hdx
      have hb1 := hbel.alloc hsz (rowO x)
      cases h1 : x.ro.kind == 1 with
      | true =>
        rw [txt_text (beq_iff_eq.1 h1)] at htx
        have hl2 := congrArg List.length htx
        rw [List.length_append, size_L] at hl2
        have hl3 := txt_take (ros l) (k + 1)
        rw [ros_take] at hl3
        have hle : (txt (ros (l.take k))).length + x.ro.data.size ≤ 140737488355328 := by omega
        have HT := Lib.hid htx; have HO := Lib.hid hown; have HB := Lib.hid hb1; have HL := Lib.hid hle
        clear htx hdx hown hb1 hl2 hl3 hle
        go_wp2_with (first
          | (refine wpList_load_mid rfl 36 (.tmp 10) rfl b (off + k * 5) rfl _ _ hx Tryz.underlying36 rfl size_row ?_)
          | (at_builtin; refine app_strb _ rfl (.tmp 15) (.tmp 17) rfl w.heap.size _ _ x.ro.data rfl (HO.out.alloc _) rfl HL.out (by simp; omega) ?_; intro v3 w3 ho3 hk3))
        go_roundw
        case rel => exact ⟨k + 1, by go_num, by omega, by rw [HT.out]; exact ho3, hk3 w HB.out⟩
        case measure => simp [intOf]; omega
      | false =>
        rw [txt_other (beq_eq_false_iff_ne.1 h1), List.append_nil] at htx
        have HT := Lib.hid htx; have HO := Lib.hid hown; have HB := Lib.hid hb1
        clear htx hdx hown hb1
        go_wp2_with (refine wpList_load_mid rfl 36 (.tmp 10) rfl b (off + k * 5) rfl _ _ hx Tryz.underlying36 rfl size_row ?_)
        go_roundw
        case rel => exact ⟨k + 1, by go_num, by omega, by rw [HT.out]; exact HO.out.alloc _, HB.out⟩
        case measure => simp [intOf]; omega
    · rw [List.take_of_length_le (by omega)] at hown
      have hstr := hown.string
      go_wp2
      go_ret
      exact ⟨rfl, hbel⟩

theorem txt_part (l : List Ro) (f k : Nat) : (txt ((l.take k).drop f)).length ≤ (txt l).length := Nat.le_trans (txt_drop _ _) (txt_take _ _)
end Go.Proofs.YtdplbcchkjpcdaaGreatDoor.Ro

namespace Go.Proofs.YtdplbcchkjpcdaaGreatDoor.Ro
set_option maxRecDepth 100000
set_option linter.unusedVariables false
set_option linter.unusedSimpArgs false
open Go.RowKit Ba
/-- The place behind so many more texts. -/
def j1 (n k : Nat) : Nat := k + 1 + n

set_option maxRecDepth 100000 in
set_option maxHeartbeats 1000000 in
theorem textsEnd_any (A : Option Addr) (c : Nat) (l : List Cw) (j : Nat) (x : Cw) (w : World) (hr : Rr w w.heap.size A l) (hc : l.length ≤ c) (hm : l.length ≤ 1000000) (hx : l.drop j = x :: l.drop (j + 1)) (hj : j < l.length) :
    Calls Tryz.prog 49 #[.slice A l.length c, .int .i64 j] w fun e w' => e = .returned (.int .i64 (j1 (nexts x.ro.depth (ros (l.drop (j + 1)))) j : Nat)) ∧ ∃ n, w' = w.drewN n := by
  obtain ⟨E, hE⟩ : ∃ E, j1 (nexts x.ro.depth (ros (l.drop (j + 1)))) j = E := ⟨_, rfl⟩
  rw [hE]
  obtain ⟨b, off, y, rfl, hb, hdy, hy, _, _⟩ := hr.at_ j hj
  obtain rfl : y = x := by
    rw [hx] at hdy
    injection hdy with e
    exact e.symm
  have hg0 := (range5 hy).1
  have HE := Lib.hid hE
  clear hE hy hdy hx
  go_enter Tryz.func49, Tryz.ntmps49
  go_wp2
  go_loopw [5] (fun v wr => ∃ k : Nat, v = .int .i64 k ∧ k ≤ l.length ∧ k + nexts y.ro.depth (ros (l.drop k)) = E ∧ ∃ n, wr = w.drewN n) (fun v _ => l.length - (intOf v).toNat)
  case atStart => exact ⟨j + 1, by go_num, by omega, HE.out, 0, rfl⟩
  case round =>
    clear HE
    obtain ⟨k, rfl, hk, hv, n, rfl⟩ := hrel
    by_cases hp : k < l.length
    · obtain ⟨b', off', z, e, _, hdz, hz, _, _⟩ := hr.at_ k hp
      injection e with e
      injection e with e1 e2
      subst e1 e2
      have hz0 := (range5 hz).1
      have hz1 := (range5 hz).2.1
      cases h1 : z.ro.kind == 1 with
      | true =>
        cases h2 : z.ro.depth == y.ro.depth with
        | true =>
          have h3 : nexts y.ro.depth (ros (l.drop k)) = nexts y.ro.depth (ros (l.drop (k + 1))) + 1 := take_step hdz (by rw [h1, h2]; rfl)
          rw [h3] at hv
          have HV := Lib.hid hv
          clear hv hz hdz h3
          go_wp2
          go_quiet (fail)
          go_wp2
          go_roundw
          case rel => exact ⟨k + 1, by go_num, by omega, by have := HV.out; omega, _, rfl⟩
          case measure => simp [intOf]; omega
        | false =>
          have h3 : nexts y.ro.depth (ros (l.drop k)) = 0 := take_stop hdz (by rw [h1, h2]; rfl)
          rw [h3] at hv
          have HV := Lib.hid hv
          clear hv hz hdz h3
          go_wp2
          go_quiet (fail)
          go_wp2
          go_ret
          exact ⟨ret_int (by rw [← HV.out]; rfl), _, World.drewN_drewN _ _ _⟩
      | false =>
        have h3 : nexts y.ro.depth (ros (l.drop k)) = 0 := take_stop hdz (by rw [h1]; rfl)
        rw [h3] at hv
        have HV := Lib.hid hv
        clear hv hz hdz h3
        go_wp2
        go_quiet (fail)
        go_wp2
        go_ret
        exact ⟨ret_int (by rw [← HV.out]; rfl), _, World.drewN_drewN _ _ _⟩
    · have hp' : decide (k < l.length) = false := decide_eq_false hp
      rw [List.drop_eq_nil_of_le (by omega)] at hv
      have HV := Lib.hid hv
      clear hv
      go_wp2
      go_quiet (fail)
      go_wp2
      go_ret
      exact ⟨ret_int (by rw [← HV.out]; rfl), _, World.drewN_drewN _ _ _⟩

theorem normal_text {x : Ro} {r : List Ro} (h : x.kind = 1) : normal (x :: r) = (if txt (x :: r.take (nexts x.depth r)) = [] then [] else [⟨x.depth, 1, .empty, B (txt (x :: r.take (nexts x.depth r))), []⟩]) ++ normal (r.drop (nexts x.depth r)) := by
  rw [normal, if_pos h]
theorem normal_other {x : Ro} {r : List Ro} (h : ¬ x.kind = 1) : normal (x :: r) = x :: normal r := by
  rw [normal, if_neg h]
theorem normal_nil : normal [] = [] := by rw [normal]
theorem len_nexts (d : Int) (l : List Ro) : nexts d l ≤ l.length := (List.takeWhile_sublist _).length_le

theorem part_cons {l : List Cw} {k n : Nat} {x : Cw} (h : l.drop k = x :: l.drop (k + 1)) : (l.take (k + 1 + n)).drop k = x :: (l.drop (k + 1)).take n := by
  rw [List.drop_take, h, show k + 1 + n - k = n + 1 from by omega, List.take_succ_cons]
theorem Rr.mids {w : World} {N b off : Nat} {l : List Cw} (h : Rr w N (some ⟨b, off, none⟩) l) (i j cap : Nat) (hij : i ≤ j) (hj : j ≤ l.length) (hc : l.length ≤ cap) (hne : i < cap) :
    Rr w N (some ⟨b, off + i * 5, none⟩) ((l.take j).drop i) := by
  have := h.mid i j cap hij hj hc hne
  rw [Option.map_some, WideShapes.add_plain] at this
  exact this
theorem fr_none (N : Nat) (w : World) (r : Ro) (h : r.attrs = []) : Fr N w ⟨r, none, 0⟩ := by
  refine ⟨?_, by rw [h]; exact fun _ hx => by simp at hx⟩
  show w.ownsRow N _ 2 (.slice none r.attrs.length 0) r.attrs.length (r.attrs.flatMap acells)
  rw [h]
  exact World.ownsRow_nil w N _ 2
abbrev textRow (d : Int) (D : ByteArray) : Cw := ⟨⟨d, 1, .empty, D, []⟩, none, 0⟩

set_option maxRecDepth 100000 in
set_option maxHeartbeats 1000000 in
theorem Normal_any (A : Option Addr) (c : Nat) (l : List Cw) (w : World) (hr : Rr w w.heap.size A l) (hc : l.length ≤ c) (hm : l.length ≤ 1000000) (ht : (txt (ros l)).length ≤ 1000000000) (hf : Few (ros l)) (hh : Held (ros l)) :
    Calls Tryz.prog 20 #[.slice A l.length c] w fun e w' => ∃ v l', e = .returned v ∧ Ow w.heap.size w' v l' ∧ (∀ x ∈ l', Fr w.heap.size w' x) ∧ ros l' = normal (ros l) ∧ Below w.heap.size w w' := by
  obtain ⟨V, hV⟩ : ∃ V, normal (ros l) = V := ⟨_, rfl⟩
  rw [hV]
  have HV := Lib.hid hV
  clear hV
  go_enter Tryz.func20, Tryz.ntmps20
  go_wp2
  go_loopw [3, 4] (fun v i wr => ∃ (k : Nat) (acc : List Cw), i = .int .i64 k ∧ k ≤ l.length ∧ acc.length ≤ k ∧ Ow w.heap.size wr v acc ∧ (∀ x ∈ acc, Fr w.heap.size wr x) ∧ ros acc ++ normal (ros (l.drop k)) = V ∧ Below w.heap.size w wr) (fun _ i _ => l.length - (intOf i).toNat)
  case atStart => exact ⟨0, [], rfl, by omega, by simp, Ow.nil _ _, fun _ h => by simp at h, HV.out, Below.refl _ _⟩
  case round =>
    clear HV
    obtain ⟨k, acc, rfl, hk, hal, hown, hfr, hros, hbel⟩ := hrel
    have hsz := hbel.size
    have hrw := hr.below hbel
    by_cases hp : k < l.length
    · obtain ⟨b, off, x, hA, hb, hdx, hx, hxa, hxm⟩ := hrw.at_ k hp
      have g0 := (range5 hx).1
      have g1 := (range5 hx).2.1
      rw [hdx, ros_cons] at hros
      subst hA
      cases h1 : x.ro.kind == 1 with
      | false =>
        have h1' : (x.ro.kind != 1) = true := by rw [bne, h1]; rfl
        rw [normal_other (beq_eq_false_iff_ne.1 h1)] at hros
        have hpart := hrw.mids k (k + 1) c (by omega) (by omega) hc (by omega)
        have e : (l.take (k + 1)).drop k = [x] := by rw [show k + 1 = k + 1 + 0 from rfl, part_cons hdx]; rfl
        rw [e] at hpart
        have HP := Lib.hid hpart; have HO := Lib.hid hown; have HF := Lib.hid hfr; have HR := Lib.hid hros
        have hfx : Few (ros [x]) := fun z hz => by
          obtain rfl := List.mem_singleton.1 hz
          exact hf.at_ hxm
        have hhx : Held (ros [x]) := fun z hz => by
          obtain rfl := List.mem_singleton.1 hz
          exact hh _ (List.mem_map.2 ⟨x, hxm, rfl⟩)
        clear hpart hown hfr hros hrw e hdx hx hxa
        have HFX := Lib.hid hfx; have HHX := Lib.hid hhx
        clear hfx hhx
        have hal2 : acc.length ≤ 1000000 := by omega
        go_wp2_with fail
        refine (appendMoved_any w.heap.size _ acc _ (c - k) [x] 0 wr hsz HO.out HF.out hal2 HP.out (by simp; omega) (by simp) HFX.out HHX.out.fits).mono ?_
        rintro e w2 ⟨v2, l2, rfl, ho2, hf2, hr2, hb2⟩
        rw [deeper_zero] at hr2
        have HO2 := Lib.hid ho2; have HF2 := Lib.hid hf2; have HR2 := Lib.hid hr2; have HB2 := Lib.hid hb2
        clear ho2 hf2 hr2 hb2
        go_wp2
        go_roundw
        case rel =>
          have hl2 : l2.length = acc.length + 1 := by rw [← len_ros, HR2.out, List.length_append, len_ros]; rfl
          exact ⟨k + 1, l2, by go_num, by omega, by omega, HO2.out, HF2.out, by rw [HR2.out, List.append_assoc]; exact HR.out, hbel.trans HB2.out⟩
        case measure => simp [intOf]; omega
      | true =>
        have h1' : (x.ro.kind != 1) = false := by rw [bne, h1]; rfl
        rw [normal_text (beq_iff_eq.1 h1)] at hros
        obtain ⟨n, hn⟩ : ∃ n, nexts x.ro.depth (ros (l.drop (k + 1))) = n := ⟨_, rfl⟩
        have hnl := len_nexts x.ro.depth (ros (l.drop (k + 1)))
        rw [hn, len_ros, List.length_drop] at hnl
        rw [hn] at hros
        obtain ⟨E, hE⟩ : ∃ E, k + 1 + n = E := ⟨_, rfl⟩
        have hEl : E ≤ l.length := by omega
        have hEk : k < E := by omega
        have hpart := hrw.mids k E c (by omega) hEl hc (by omega)
        have hlen := len_part l k E hEl
        have hpr : ros ((l.take E).drop k) = x.ro :: (ros (l.drop (k + 1))).take n := by rw [← hE, part_cons hdx, ros_cons, ros_take]
        have hte : (txt (ros ((l.take E).drop k))).length ≤ 1000000000 := by rw [ros_part]; exact Nat.le_trans (txt_part _ _ _) ht
        rw [← hpr, ros_drop, List.drop_drop, hE] at hros
        have hee : j1 (nexts x.ro.depth (ros (l.drop (k + 1)))) k = E := by rw [hn, ← hE]; rfl
        obtain ⟨m, hm1⟩ : ∃ m, (l.take E).drop k = m := ⟨_, rfl⟩
        rw [hm1] at hpart hlen hte hros
        obtain ⟨D, hD⟩ : ∃ D, B (txt (ros m)) = D := ⟨_, rfl⟩
        rw [hD] at hros
        have HP := Lib.hid hpart; have HO := Lib.hid hown; have HF := Lib.hid hfr; have HL := Lib.hid hlen; have HD := Lib.hid hD; have HTE := Lib.hid hte; have HEE := Lib.hid hee; have HRW := Lib.hid hrw; have HDX := Lib.hid hdx
        have hal2 : acc.length ≤ 1000000 := by omega
        have hmc : m.length ≤ c - k := by omega
        have hmm : m.length ≤ 1000000 := by omega
        cases hte0 : txt (ros m) with
        | nil =>
          rw [if_pos hte0, List.nil_append] at hros
          have hDl : D.toList = [] := by rw [← hD, toList_B, hte0]
          have hDe : D.toList.isEmpty = true := by rw [hDl]; rfl
          have HR := Lib.hid hros
          clear hpart hown hfr hlen hte hee hrw hdx hm1 hE hn hx hxa hros hte0 hD hpr
          go_wp2_with fail
          refine (textsEnd_any _ c l k x wr (HRW.out.more hsz) hc hm HDX.out hp).mono ?_
          rintro e w1 ⟨rfl, nd, rfl⟩
          rw [HEE.out]
          go_wp2_with fail
          rw [← HL.out]
          refine (joined_any _ (c - k) m (wr.drewN nd) (by exact HP.out.more hsz) hmc hmm HTE.out).mono ?_
          rintro e w2 ⟨rfl, hb2⟩
          rw [HD.out]
          have HB2 : Hid (Below wr.heap.size wr w2) := Lib.hid ((below_dN (Below.refl _ wr) nd).trans hb2)
          clear hb2
          go_wp2
          go_roundw
          case rel => exact ⟨E, acc, rfl, by omega, by omega, HO.out.below HB2.out, fun z hz => (HF.out z hz).below HB2.out, HR.out, hbel.trans (HB2.out.mono hsz)⟩
          case measure => simp [intOf]; omega
        | cons u us =>
          rw [if_neg (by rw [hte0]; exact fun h => by cases h)] at hros
          have hDl : ¬ D.toList = [] := by rw [← hD, toList_B, hte0]; exact fun h => by cases h
          have hDe : D.toList.isEmpty = false := by rw [← hD, toList_B, hte0]; rfl
          have HR := Lib.hid hros
          clear hpart hown hfr hlen hte hee hrw hdx hm1 hE hn hx hxa hros hte0 hD hpr
          go_wp2_with fail
          refine (textsEnd_any _ c l k x wr (HRW.out.more hsz) hc hm HDX.out hp).mono ?_
          rintro e w1 ⟨rfl, nd, rfl⟩
          rw [HEE.out]
          go_wp2_with fail
          rw [← HL.out]
          refine (joined_any _ (c - k) m (wr.drewN nd) (by exact HP.out.more hsz) hmc hmm HTE.out).mono ?_
          rintro e w2 ⟨rfl, hb2⟩
          rw [HD.out]
          have HB2 : Hid (Below wr.heap.size wr w2) := Lib.hid ((below_dN (Below.refl _ wr) nd).trans hb2)
          clear hb2
          have hgd : w2.cell? ⟨b, off + k * 5, none⟩ = some (.int .i64 x.ro.depth) := (HB2.out.cell (p := ⟨b, off + k * 5, none⟩) (Nat.lt_of_lt_of_le hb hsz)).trans g0
          have hsz2 := Nat.le_trans hsz HB2.out.size
          have HFN : Hid (Fr w.heap.size w2 (textRow x.ro.depth D)) := Lib.hid (fr_none _ _ _ rfl)
          have hal3 : acc.length ≤ 2000000 := by omega
          go_wp2_with (at_builtin; refine app_row w2 rfl (.tmp 36) (.tmp 44) rfl w.heap.size _ acc (textRow x.ro.depth D) rfl (HO.out.below HB2.out) HFN.out.att HFN.out.ap w2.heap.size rfl rfl hal3 hsz2 ?_; intro v3 w3 ho3 hk3 hf3)
          go_roundw
          case rel =>
            refine ⟨E, acc ++ [textRow x.ro.depth D], rfl, by omega, by simp; omega, ho3, fun z hz => ?_, by rw [ros_append, List.append_assoc]; exact HR.out, hk3 w (hbel.trans (HB2.out.mono hsz))⟩
            rcases List.mem_append.1 hz with h | h
            · exact hf3 z ((HF.out z h).below HB2.out)
            · obtain rfl := List.mem_singleton.1 h
              exact fr_none _ _ _ rfl
          case measure => simp [intOf]; omega
    · rw [List.drop_eq_nil_of_le (by omega)] at hros
      have HR := Lib.hid hros
      clear hros hrw
      go_wp2
      go_ret
      exact ⟨_, acc, rfl, hown, hfr, by rw [← HR.out, show ros [] = [] from rfl, normal_nil, List.append_nil], hbel⟩

end Go.Proofs.YtdplbcchkjpcdaaGreatDoor.Ro

namespace Go.Proofs.YtdplbcchkjpcdaaGreatDoor.Ro
set_option linter.unusedVariables false
set_option linter.unusedSimpArgs false
open Go.RowKit Ba
def sets (xs : List Value) : Nat → List Value → List Value
  | _, [] => xs
  | o, v :: r => sets (xs.set o v) (o + 1) r
theorem sets_end : ∀ (vs us F : List Value), us.length = vs.length → sets (F ++ us) F.length vs = F ++ vs
  | [], us, F, h => by
    have : us = [] := List.eq_nil_of_length_eq_zero h
    rw [this]
    rfl
  | v :: r, [], F, h => by cases h
  | v :: r, u :: us, F, h => by
    rw [sets, List.set_append_right F.length v (Nat.le_refl _), Nat.sub_self, List.set_cons_zero]
    have := sets_end r us (F ++ [v]) (by simpa using h)
    rw [List.length_append, List.append_assoc, List.append_assoc] at this
    exact this
theorem stored_many {N g n cap : Nat} {e : TypeId} {size : Nat} : ∀ (vs : List Value) (o : Nat) (w : World) (xs : List Value), w.ownsRow N e size (.slice (some ⟨g, 0, none⟩) n cap) n xs →
    (w.setCells g o vs).ownsRow N e size (.slice (some ⟨g, 0, none⟩) n cap) n (sets xs o vs) ∧ w.grownBy (w.setCells g o vs) (some g)
  | [], o, w, xs, h => ⟨h, World.grownBy.refl w _⟩
  | v :: r, o, w, xs, h => by
    obtain ⟨h1, h2⟩ := World.ownsRow.stored h o v
    obtain ⟨h3, h4⟩ := stored_many r (o + 1) _ _ h1
    exact ⟨h3, h2.trans h4⟩
/-- The last row of the call's own, stored anew. -/
theorem Ow.last {N g cap : Nat} {w : World} {init : List Cw} {y y' : Cw} (h : Ow N w (.slice (some ⟨g, 0, none⟩) (init.length + 1) cap) (init ++ [y])) (hy : Att w w.heap.size y') (ha : Ap w N y') :
    Ow N (w.setCells g (init.length * 5) (cells y')) (.slice (some ⟨g, 0, none⟩) (init.length + 1) cap) (init ++ [y']) ∧ w.grownBy (w.setCells g (init.length * 5) (cells y')) (some g) := by
  obtain ⟨h1, h2⟩ := h
  rw [List.length_append, List.flatMap_append] at h1
  have h1 : w.ownsRow N 36 5 (.slice (some ⟨g, 0, none⟩) (init.length + 1) cap) (init.length + 1) (init.flatMap cells ++ cells y) := by simpa using h1
  obtain ⟨h3, h4⟩ := stored_many (cells y') (init.length * 5) w _ h1
  rw [← flat_len cells 5 len_cells init, sets_end (cells y') (cells y) _ rfl, flat_len cells 5 len_cells init] at h3
  refine ⟨⟨?_, fun z hz => ?_⟩, h4⟩
  · rw [List.length_append, List.flatMap_append]
    simpa using h3
  · rcases List.mem_append.1 hz with hz | hz
    · have := h2 z (List.mem_append_left _ hz)
      exact ⟨this.1.grown h1 h4 this.2, this.2.grown h1 h4⟩
    · obtain rfl := List.mem_singleton.1 hz
      exact ⟨hy.grown h1 h4 ha, ha.grown h1 h4⟩
theorem Ow.there {N g cap : Nat} {w : World} {init : List Cw} {y : Cw} (h : Ow N w (.slice (some ⟨g, 0, none⟩) (init.length + 1) cap) (init ++ [y])) : w.there g (init.length * 5) 5 := by
  obtain ⟨h1, _⟩ := h
  rw [List.length_append, List.flatMap_append] at h1
  have h1 : w.ownsRow N 36 5 (.slice (some ⟨g, 0, none⟩) (init.length + 1) cap) (init.length + 1) (init.flatMap cells ++ cells y) := by simpa using h1
  intro j hj
  refine ⟨?_, h1.frozenAt _⟩
  rw [h1.cellAt _ (by omega), List.getElem?_eq_getElem (by rw [List.length_append, flat_len cells 5 len_cells, len_cells]; omega)]
  rfl

theorem Ow.pos {N : Nat} {w : World} {v : Value} {init : List Cw} {y : Cw} (h : Ow N w v (init ++ [y])) :
    ∃ g cap, v = .slice (some ⟨g, 0, none⟩) (init.length + 1) cap ∧ init.length + 1 ≤ cap ∧ cap ≤ maxLen ∧ N ≤ g ∧ g < w.heap.size ∧ w.rangeAt g (init.length * 5) (cells y) := by
  have hl : (init ++ [y]).length = init.length + 1 := by simp
  obtain ⟨A, c, hv, h1, h2, _, h4⟩ := h.form
  rcases h.1.2 with ⟨_, hn⟩ | ⟨g, cap, cur, hv', hg, hh, hn, hm, _⟩
  · omega
  · rw [hl] at hv' hn
    refine ⟨g, cap, hv', hn, hm, hg, (Array.getElem?_eq_some_iff.1 hh).1, ?_⟩
    obtain ⟨b, off, e, _, hc⟩ := h4.1 (by omega)
    rw [hv', hl] at hv
    injection hv with e1
    rw [← e1] at e
    injection e with e
    injection e with e2 e3
    subst e2 e3
    have := hc init.length (by omega)
    rw [Nat.zero_add] at this
    simpa using this

/-- A row with another one's data behind its own. -/
abbrev joinRow (y x : Cw) : Cw := ⟨⟨y.ro.depth, y.ro.kind, y.ro.name, y.ro.data ++ x.ro.data, y.ro.attrs⟩, y.A, y.c⟩
theorem one5 (a b : Int) (c d : ByteArray) (e : Option Addr) (f g : Nat) : (#[.int .i64 a, .int .i64 b, .string c, .string d, .slice e f g] : Array Value).all (·.oneCell') = true := by simp [Value.oneCell']
theorem box_new (w : World) (x : Cw) : (w.alloc (rowO x)).cell? ⟨w.heap.size, 0, none⟩ = some (.int .i64 x.ro.depth) ∧ (w.alloc (rowO x)).cell? ⟨w.heap.size, 1, none⟩ = some (.int .i64 x.ro.kind) ∧ (w.alloc (rowO x)).cell? ⟨w.heap.size, 2, none⟩ = some (.string x.ro.name) ∧ (w.alloc (rowO x)).cell? ⟨w.heap.size, 3, none⟩ = some (.string x.ro.data) ∧ (w.alloc (rowO x)).cell? ⟨w.heap.size, 4, none⟩ = some (.slice x.A x.ro.attrs.length x.c) ∧ ∀ j, (w.alloc (rowO x)).frozen? ⟨w.heap.size, j, none⟩ = false := by
  refine ⟨box_at w x 0, box_at w x 1, box_at w x 2, box_at w x 3, box_at w x 4, fun j => ?_⟩
  unfold World.frozen?
  rw [heap_alloc_new]
  simp

end Go.Proofs.YtdplbcchkjpcdaaGreatDoor.Ro

namespace Go.Proofs.YtdplbcchkjpcdaaGreatDoor.Ro
set_option maxRecDepth 100000
set_option linter.unusedVariables false
set_option linter.unusedSimpArgs false
open Go.RowKit Ba
theorem At.eta (a b : At) (h : ¬ a = b) : ¬ a.name = b.name ∨ (a.name = b.name ∧ ¬ a.value = b.value) := by
  by_cases hn : a.name = b.name
  · exact .inr ⟨hn, fun hv => h (by cases a; cases b; simp_all)⟩
  · exact .inl hn
theorem neq_L {a b : ByteArray} (h : ¬ a = b) : ¬ a.toList = b.toList := fun e => h (L_inj (by rw [← toList_L, ← toList_L, e]))
theorem dec_cons {α : Type} [DecidableEq α] {x y : α} {r s : List α} {V : Bool} (h : decide (x :: r = y :: s) = V) : (x = y → decide (r = s) = V) ∧ (¬ x = y → V = false) := by
  constructor
  · intro e
    rw [← h, e]
    simp
  · intro e
    rw [← h]
    exact decide_eq_false fun e2 => e (by injection e2)

set_option maxRecDepth 100000 in
set_option maxHeartbeats 1000000 in
theorem refAttrs_any (A B : Option Addr) (ca cb : Nat) (xs ys : List At) (w : World) (hra : Ra w w.heap.size A xs) (hrb : Ra w w.heap.size B ys) (hca : xs.length ≤ ca) (hcb : ys.length ≤ cb) (hma : ca ≤ maxLen) (hmb : cb ≤ maxLen) :
    Calls Tryz.prog 18 #[.slice A xs.length ca, .slice B ys.length cb] w fun e w' => e = .returned (.bool (decide (xs = ys))) ∧ ∃ n, w' = w.drewN n := by
  unfold maxLen at hma hmb
  by_cases hlen : xs.length = ys.length
  · obtain ⟨V, hV⟩ : ∃ V, decide (xs = ys) = V := ⟨_, rfl⟩
    rw [hV]
    have hne : ((xs.length : Int) != (ys.length : Int)) = false := by rw [hlen]; simp
    have HV := Lib.hid hV; have HL := Lib.hid hlen
    clear hV hlen
    go_enter Tryz.func18, Tryz.ntmps18
    go_wp2
    go_loopw [5] (fun i wr => ∃ k : Nat, i = .int .i64 k ∧ k ≤ xs.length ∧ decide (xs.drop k = ys.drop k) = V ∧ ∃ n, wr = w.drewN n) (fun i _ => xs.length - (intOf i).toNat)
    case atStart => exact ⟨0, rfl, by omega, HV.out, 0, rfl⟩
    case round =>
      clear HV
      obtain ⟨k, rfl, hk, hv, n, rfl⟩ := hrel
      by_cases hp : k < xs.length
      · obtain ⟨b1, o1, x, rfl, _, hdx, hx, _⟩ := hra.at_ k hp
        have hp2 : k < ys.length := by have := HL.out; omega
        obtain ⟨b2, o2, y, rfl, _, hdy, hy, _⟩ := hrb.at_ k hp2
        rw [hdx, hdy] at hv
        obtain ⟨v1, v2⟩ := dec_cons hv
        clear hv hdx hdy
        by_cases hxy : x = y
        · subst hxy
          have HV := Lib.hid (v1 rfl)
          clear v1 v2
          obtain ⟨f1, f2⟩ := range2 hx
          obtain ⟨f3, f4⟩ := range2 hy
          clear hx hy
          go_wp2
          go_quiet (fail)
          go_wp2
          go_roundw
          case rel => exact ⟨k + 1, by go_num, by omega, HV.out, _, rfl⟩
          case measure => simp [intOf]; omega
        · obtain rfl := v2 hxy
          clear v1 v2
          rcases At.eta x y hxy with h | ⟨h, h'⟩
          · have h1 := neq_L h
            clear h hxy
            obtain ⟨f1, f2⟩ := range2 hx
            obtain ⟨f3, f4⟩ := range2 hy
            clear hx hy
            go_wp2
            go_quiet (fail)
            go_wp2
            go_ret
            exact ⟨rfl, _, World.drewN_drewN _ _ _⟩
          · have h1 := neq_L h'
            have h2 : y.name = x.name := h.symm
            rw [h2] at hy
            clear h h' hxy h2
            obtain ⟨f1, f2⟩ := range2 hx
            obtain ⟨f3, f4⟩ := range2 hy
            clear hx hy
            go_wp2
            go_quiet (fail)
            go_wp2
            go_ret
            exact ⟨rfl, _, World.drewN_drewN _ _ _⟩
      · rw [List.drop_eq_nil_of_le (by omega), List.drop_eq_nil_of_le (by have := HL.out; omega)] at hv
        have HV := Lib.hid hv
        clear hv
        go_wp2
        go_ret
        exact ⟨ret_bool (by rw [← HV.out]; rfl), _, rfl⟩
  · have e : decide (xs = ys) = false := decide_eq_false fun e => hlen (by rw [e])
    rw [e]
    have hne : ((xs.length : Int) != (ys.length : Int)) = true := by rw [bne_iff_ne]; omega
    clear e hlen
    go_enter Tryz.func18, Tryz.ntmps18
    go_wp2
    go_ret
    exact ⟨rfl, 0, rfl⟩

end Go.Proofs.YtdplbcchkjpcdaaGreatDoor.Ro

namespace Go.Proofs.YtdplbcchkjpcdaaGreatDoor.Ro
set_option linter.unusedVariables false
set_option linter.unusedSimpArgs false
open Go.RowKit Ba
theorem ro_eq (x y : Ro) : decide (x = y) = ((x.depth == y.depth) && ((x.kind == y.kind) && ((x.name.toList == y.name.toList) && ((x.data.toList == y.data.toList) && decide (x.attrs = y.attrs))))) := by
  rw [eq_of_toList, eq_of_toList, Bool.eq_iff_iff]
  cases x
  cases y
  simp

theorem ros_drop_eq {l r : List Cw} {k : Nat} {x y : Cw} {V : Bool} (hx : l.drop k = x :: l.drop (k + 1)) (hy : r.drop k = y :: r.drop (k + 1)) (h : decide (ros (l.drop k) = ros (r.drop k)) = V) :
    (x.ro = y.ro → decide (ros (l.drop (k + 1)) = ros (r.drop (k + 1))) = V) ∧ (¬ x.ro = y.ro → V = false) := by
  rw [hx, hy, ros_cons, ros_cons] at h
  exact dec_cons h

end Go.Proofs.YtdplbcchkjpcdaaGreatDoor.Ro

namespace Go.Proofs.YtdplbcchkjpcdaaGreatDoor.Ro
set_option maxRecDepth 100000
set_option linter.unusedVariables false
set_option linter.unusedSimpArgs false
open Go.RowKit Ba
theorem two_boxes (w : World) (x y : Cw) : ((w.alloc (rowO x)).alloc (rowO y)).drew.rangeAt w.heap.size 0 (cells x) ∧ ((w.alloc (rowO x)).alloc (rowO y)).drew.rangeAt (w.heap.size + 1) 0 (cells y) ∧ Below w.heap.size w ((w.alloc (rowO x)).alloc (rowO y)).drew := by
  have hb : Below w.heap.size w ((w.alloc (rowO x)).alloc (rowO y)) := (below_new w (rowO x)).alloc (by simp) _
  refine ⟨fun j v hv => ?_, fun j v hv => ?_, below_dN hb 1⟩
  · rw [Nat.zero_add]
    refine Eq.trans ?_ hv
    exact (World.cell?_alloc_lt _ _ ⟨w.heap.size, j, none⟩ (by simp)).trans (box_at w x j)
  · rw [Nat.zero_add]
    refine Eq.trans ?_ hv
    have e : w.heap.size + 1 = (w.alloc (rowO x)).heap.size := by simp
    rw [e]
    exact box_at (w.alloc (rowO x)) y j
theorem range5z {w : World} {b : Nat} {x : Cw} (h : w.rangeAt b 0 (cells x)) : w.cell? ⟨b, 0, none⟩ = some (.int .i64 x.ro.depth) ∧ w.cell? ⟨b, 1, none⟩ = some (.int .i64 x.ro.kind) ∧ w.cell? ⟨b, 2, none⟩ = some (.string x.ro.name) ∧ w.cell? ⟨b, 3, none⟩ = some (.string x.ro.data) ∧ w.cell? ⟨b, 4, none⟩ = some (.slice x.A x.ro.attrs.length x.c) :=
  ⟨h 0 _ rfl, h 1 _ rfl, h 2 _ rfl, h 3 _ rfl, h 4 _ rfl⟩

set_option maxRecDepth 100000 in
set_option maxHeartbeats 1000000 in
theorem refSame_any (A B : Option Addr) (ca cb : Nat) (l r : List Cw) (w : World) (hl : Rr w w.heap.size A l) (hr : Rr w w.heap.size B r) (hca : l.length ≤ ca) (hcb : r.length ≤ cb) (hml : l.length ≤ 1000000) (hmr : r.length ≤ 1000000) :
    Calls Tryz.prog 8 #[.slice A l.length ca, .slice B r.length cb] w fun e w' => e = .returned (.bool (decide (ros l = ros r))) ∧ Below w.heap.size w w' := by
  by_cases hlen : l.length = r.length
  · obtain ⟨V, hV⟩ : ∃ V, decide (ros l = ros r) = V := ⟨_, rfl⟩
    rw [hV]
    have hne : ((l.length : Int) != (r.length : Int)) = false := by rw [hlen]; simp
    have HV := Lib.hid hV; have HL := Lib.hid hlen
    clear hV hlen
    go_enter Tryz.func8, Tryz.ntmps8
    go_wp2
    go_loopw [5] (fun i wr => ∃ k : Nat, i = .int .i64 k ∧ k ≤ l.length ∧ decide (ros (l.drop k) = ros (r.drop k)) = V ∧ Below w.heap.size w wr) (fun i _ => l.length - (intOf i).toNat)
    case atStart => exact ⟨0, rfl, by omega, HV.out, Below.refl _ _⟩
    case round =>
      clear HV
      obtain ⟨k, rfl, hk, hv, hbel⟩ := hrel
      have hsz := hbel.size
      by_cases hp : k < l.length
      · obtain ⟨b1, o1, x, rfl, _, hdx, hx, hxa, _⟩ := (hl.below hbel).at_ k hp
        have hp2 : k < r.length := by have := HL.out; omega
        obtain ⟨b2, o2, y, rfl, _, hdy, hy, hya, _⟩ := (hr.below hbel).at_ k hp2
        obtain ⟨v1, v2⟩ := ros_drop_eq hdx hdy hv
        have HXA := Lib.hid (hxa.more hsz); have HYA := Lib.hid (hya.more hsz)
        have V1 := Lib.hid v1; have V2 := Lib.hid v2
        obtain ⟨f0, f1, f2, f3, f4⟩ := range5 hx
        obtain ⟨g0, g1, g2, g3, g4⟩ := range5 hy
        clear hv hdx hdy hxa hya v1 v2 hx hy
        have ef0 := World.new_ne wr _ f0
        have eg0 := World.new_ne wr _ g0
        go_upto_region 6 with (fail)
        go_cut [6, 7] from 13 to 60 (fun s6 s7 wx => ∃ g h, s6 = .pointer (some ⟨g, 0, none⟩) ∧ s7 = .pointer (some ⟨h, 0, none⟩) ∧ wx.rangeAt g 0 (cells x) ∧ wx.rangeAt h 0 (cells y) ∧ Below wr.heap.size wr wx)
        case first =>
          go_region_held3 (fun w' => w'.cell? ⟨b1, o1 + k * 5, none⟩ = some (.int .i64 x.ro.depth) ∧ w'.cell? ⟨b1, o1 + k * 5 + 1, none⟩ = some (.int .i64 x.ro.kind) ∧ w'.cell? ⟨b1, o1 + k * 5 + 2, none⟩ = some (.string x.ro.name) ∧ w'.cell? ⟨b1, o1 + k * 5 + 3, none⟩ = some (.string x.ro.data) ∧ w'.cell? ⟨b1, o1 + k * 5 + 4, none⟩ = some (.slice x.A x.ro.attrs.length x.c) ∧ w'.cell? ⟨b2, o2 + k * 5, none⟩ = some (.int .i64 y.ro.depth) ∧ w'.cell? ⟨b2, o2 + k * 5 + 1, none⟩ = some (.int .i64 y.ro.kind) ∧ w'.cell? ⟨b2, o2 + k * 5 + 2, none⟩ = some (.string y.ro.name) ∧ w'.cell? ⟨b2, o2 + k * 5 + 3, none⟩ = some (.string y.ro.data) ∧ w'.cell? ⟨b2, o2 + k * 5 + 4, none⟩ = some (.slice y.A y.ro.attrs.length y.c)) (go_keep) (first | fail)
          all_goals go_wp2_with fail
          all_goals go_meet
          · obtain ⟨q1, q2, q3⟩ := two_boxes wr x y
            exact ⟨_, _, rfl, rfl, q1, q2, q3⟩
          · obtain ⟨q1, q2, q3⟩ := two_boxes wr y x
            exact ⟨_, _, rfl, rfl, q2, q1, q3⟩
        case rest =>
          obtain ⟨g, h, rfl, rfl, hg, hh, hb2⟩ := hcut
          have HX := Lib.hid ((HXA.out.2.2.2.1.below hb2).more hb2.size); have HY := Lib.hid ((HYA.out.2.2.2.1.below hb2).more hb2.size); have HB := Lib.hid (hbel.trans (hb2.mono hsz))
          have a1 := HXA.out.1; have a2 := HXA.out.2.2.1; have a3 := HYA.out.1; have a4 := HYA.out.2.2.1
          obtain ⟨c0, c1, c2, c3, c4⟩ := range5z hg
          obtain ⟨d0, d1, d2, d3, d4⟩ := range5z hh
          clear hg hh hb2 f0 f1 f2 f3 f4 g0 g1 g2 g3 g4 ef0 eg0
          cases h1 : x.ro.depth == y.ro.depth with
          | false =>
            obtain rfl := V2.out (fun e => by rw [e] at h1; simp at h1)
            have n1 : (x.ro.depth != y.ro.depth) = true := by rw [bne, h1]; rfl
            go_wp2
            go_ret
            exact ⟨rfl, HB.out⟩
          | true =>
          have n1 : (x.ro.depth != y.ro.depth) = false := by rw [bne, h1]; rfl
          cases h2 : x.ro.kind == y.ro.kind with
          | false =>
            obtain rfl := V2.out (fun e => by rw [e] at h2; simp at h2)
            have n2 : (x.ro.kind != y.ro.kind) = true := by rw [bne, h2]; rfl
            go_wp2
            go_ret
            exact ⟨rfl, HB.out⟩
          | true =>
          have n2 : (x.ro.kind != y.ro.kind) = false := by rw [bne, h2]; rfl
          cases h3 : x.ro.name.toList == y.ro.name.toList with
          | false =>
            obtain rfl := V2.out (fun e => by rw [e] at h3; simp at h3)
            go_wp2
            go_ret
            exact ⟨rfl, HB.out⟩
          | true =>
          cases h4 : x.ro.data.toList == y.ro.data.toList with
          | false =>
            obtain rfl := V2.out (fun e => by rw [e] at h4; simp at h4)
            go_wp2
            go_ret
            exact ⟨rfl, HB.out⟩
          | true =>
          by_cases h5 : x.ro.attrs = y.ro.attrs
          · have hxy : x.ro = y.ro := of_decide_eq_true (by rw [ro_eq, h1, h2, h3, h4, decide_eq_true h5]; rfl)
            have HV := Lib.hid (V1.out hxy)
            have H5 := Lib.hid h5
            clear hxy h5
            go_wp2_with fail
            refine (refAttrs_any x.A y.A x.c y.c x.ro.attrs y.ro.attrs wc HX.out HY.out a1 a3 a2 a4).mono ?_
            rintro e w3 ⟨rfl, n, rfl⟩
            rw [decide_eq_true H5.out]
            go_wp2
            go_roundw
            case rel => exact ⟨k + 1, by go_num, by omega, HV.out, below_dN HB.out _⟩
            case measure => simp [intOf]; omega
          · obtain rfl := V2.out (fun e => h5 (by rw [e]))
            have H5 := Lib.hid h5
            clear h5
            go_wp2_with fail
            refine (refAttrs_any x.A y.A x.c y.c x.ro.attrs y.ro.attrs wc HX.out HY.out a1 a3 a2 a4).mono ?_
            rintro e w3 ⟨rfl, n, rfl⟩
            rw [decide_eq_false H5.out]
            go_wp2
            go_ret
            exact ⟨rfl, below_dN HB.out _⟩
      · rw [List.drop_eq_nil_of_le (by omega), List.drop_eq_nil_of_le (by have := HL.out; omega)] at hv
        have HV := Lib.hid hv
        clear hv
        go_wp2
        go_ret
        exact ⟨ret_bool (by rw [← HV.out]; rfl), hbel⟩
  · have e : decide (ros l = ros r) = false := decide_eq_false fun e => hlen (by rw [← len_ros, e, len_ros])
    rw [e]
    have hne : ((l.length : Int) != (r.length : Int)) = true := by rw [bne_iff_ne]; omega
    clear e hlen
    go_enter Tryz.func8, Tryz.ntmps8
    go_wp2
    go_ret
    exact ⟨rfl, Below.refl _ _⟩

end Go.Proofs.YtdplbcchkjpcdaaGreatDoor.Ro

namespace Go.Proofs.YtdplbcchkjpcdaaGreatDoor.Ro
set_option maxRecDepth 100000
set_option linter.unusedVariables false
set_option linter.unusedSimpArgs false
open Go.RowKit Ba
/-- A value reads as rows. -/
def Rv (w : World) (v : Value) (l : List Cw) : Prop := ∃ A c, v = .slice A l.length c ∧ l.length ≤ c ∧ c ≤ maxLen ∧ Rr w w.heap.size A l ∧ Held (ros l)
theorem Rv.below {w w' : World} {v : Value} {l : List Cw} (h : Rv w v l) (hb : Below w.heap.size w w') : Rv w' v l := by
  obtain ⟨A, c, e, h1, h2, h3, h4⟩ := h
  exact ⟨A, c, e, h1, h2, (h3.below hb).more hb.size, h4⟩
theorem Ow.rv {N : Nat} {w : World} {v : Value} {l : List Cw} (h : Ow N w v l) (hh : Held (ros l)) : Rv w v l := by
  obtain ⟨A, c, e, h1, h2, _, h3⟩ := h.form
  exact ⟨A, c, e, h1, h2, h3, hh⟩
theorem refSame1 (a b : Value) (x y : List Cw) (w : World) (q : Bool) (ha : Rv w a x) (hb : Rv w b y) (hx : x.length ≤ 1000000) (hy : y.length ≤ 1000000) (hq : decide (ros x = ros y) = q) :
    Calls Tryz.prog 8 #[a, b] w fun e w' => e = .returned (.bool q) ∧ Below w.heap.size w w' := by
  obtain ⟨A, c, rfl, hc, hm, hr, _⟩ := ha
  obtain ⟨B, d, rfl, hd, hm2, hr2, _⟩ := hb
  subst hq
  exact refSame_any A B c d x y w hr hr2 hc hd (by omega) (by omega)
/-- A row that has no attributes. -/
def bare (r : Ro) : Cw := ⟨r, none, 0⟩
theorem bare_att (w : World) (N : Nat) {r : Ro} (h : r.attrs = []) : Att w N (bare r) := by
  refine ⟨?_, fun _ => rfl, Nat.zero_le _, ?_, ?_⟩
  · show r.attrs.length ≤ 0
    rw [h]; exact Nat.le_refl _
  · show Ra w N none r.attrs
    rw [h]; exact fun h => absurd h (by simp)
  · show Sh r.attrs
    rw [h]; exact fun _ hx => by simp at hx
theorem bare_ap (w : World) (N : Nat) {r : Ro} (h : r.attrs = []) : Ap w N (bare r) := fun h0 => by
  have h0 : 0 < r.attrs.length := h0
  rw [h] at h0
  exact absurd h0 (by simp)
/-- Rows without attributes, freshly written down. -/
theorem rows_new (w : World) (l : List Cw) (cs : Array Value) (n : Nat) (hn : l.length = n) (hm : n ≤ maxLen) (hcs : cs.toList = l.flatMap cells) (hl : ∀ x ∈ l, ∃ r : Ro, x = bare r ∧ r.attrs = []) :
    Ow w.heap.size (w.alloc (.cells cs 36)) (.slice (some ⟨w.heap.size, 0, none⟩) n n) l := by
  have hfl : (l.flatMap cells).length = n * 5 := by
    rw [← hn]
    clear hcs hl hn
    induction l with
    | nil => rfl
    | cons x r ih => rw [List.flatMap_cons, List.length_append, ih, List.length_cons]; simp [cells]; omega
  have hsz : cs.size = n * 5 := by rw [← Array.length_toList, hcs, hfl]
  refine ⟨⟨by rw [hn, hfl], .inr ⟨w.heap.size, n, cs, by rw [hn], Nat.le_refl _, heap_alloc_new w _, by rw [hn]; exact Nat.le_refl _, hm, hsz, ?_⟩⟩, fun x hx => ?_⟩
  · rw [hn, hcs, ← hfl, List.take_length]
  · obtain ⟨r, rfl, h⟩ := hl x hx
    exact ⟨bare_att _ _ h, bare_ap _ _ h⟩

end Go.Proofs.YtdplbcchkjpcdaaGreatDoor.Ro

namespace Go.Proofs.YtdplbcchkjpcdaaGreatDoor.Bm
set_option linter.unusedVariables false
set_option linter.unusedSimpArgs false
open Ba Fm Nm
open Ro (At Ro)
open Tm (Tk put)
/-- No text is empty. -/
def full (l : List Ro) : Prop := ∀ x ∈ l, x.kind = 1 → x.data ≠ ⟨#[]⟩
theorem full_nil : full [] := fun x h => by cases h
theorem full_snoc {l : List Ro} {y : Ro} (h : full l) (hy : y.kind = 1 → y.data ≠ ⟨#[]⟩) : full (l ++ [y]) := fun x hx => by
  rcases List.mem_append.1 hx with e | e
  · exact h x e
  · rw [List.mem_singleton.1 e]; exact hy
theorem full_tail {x : Ro} {l : List Ro} (h : full (x :: l)) : full l := fun y hy => h y (List.mem_cons_of_mem _ hy)
theorem full_init {l m : List Ro} (h : full (l ++ m)) : full l := fun y hy => h y (List.mem_append_left _ hy)
/-- Is the last row a text, and how deep is it? -/
def ending (l : List Ro) : Option (Bool × Int) := l.getLast?.map fun x => (decide (x.kind = 1), x.depth)
theorem ending_snoc (l : List Ro) (y : Ro) : ending (l ++ [y]) = some (decide (y.kind = 1), y.depth) := by
  unfold ending
  rw [List.getLast?_append]
  rfl

theorem normal_other {x : Ro} (hk : ¬ x.kind = 1) (r : List Ro) : Ro.normal (x :: r) = x :: Ro.normal r := by rw [Ro.normal, if_neg hk]
theorem normal_text {x : Ro} (hk : x.kind = 1) (hx : x.data ≠ ⟨#[]⟩) (r : List Ro) :
    Ro.normal (x :: r) = ⟨x.depth, 1, ⟨#[]⟩, B (Ro.txt (x :: r.take (Ro.nexts x.depth r))), []⟩ :: Ro.normal (r.drop (Ro.nexts x.depth r)) := by
  rw [Ro.normal, if_pos hk, if_neg]
  · rfl
  · rw [Ro.txt, if_pos hk]
    intro e
    refine hx (L_inj ?_)
    exact (List.append_eq_nil_iff.1 e).1
theorem normal_ne {l : List Ro} (h : full l) (hl : l ≠ []) : Ro.normal l ≠ [] := by
  cases l with
  | nil => exact absurd rfl hl
  | cons x r =>
    by_cases hk : x.kind = 1
    · rw [normal_text hk (h x List.mem_cons_self hk)]
      exact List.cons_ne_nil _ _
    · rw [normal_other hk]
      exact List.cons_ne_nil _ _
theorem nexts_more {d : Int} {r : List Ro} {y : Ro} (h : Ro.nexts d r < r.length) : Ro.nexts d (r ++ [y]) = Ro.nexts d r := by
  unfold Ro.nexts at h ⊢
  rw [List.takeWhile_append, if_neg (by omega)]
theorem nexts_all {d : Int} {r : List Ro} {y : Ro} (h : Ro.nexts d r = r.length) : Ro.nexts d (r ++ [y]) = r.length + (if y.kind = 1 ∧ y.depth = d then 1 else 0) := by
  unfold Ro.nexts at h ⊢
  rw [List.takeWhile_append, if_pos h, List.length_append]
  congr 1
  by_cases hy : y.kind = 1 ∧ y.depth = d
  · rw [if_pos hy, List.takeWhile_cons_of_pos (by rw [hy.1, hy.2]; simp)]
    rfl
  · rw [if_neg hy, List.takeWhile_cons_of_neg (by
      intro e
      rw [Bool.and_eq_true, beq_iff_eq, beq_iff_eq] at e
      exact hy e)]
    rfl
theorem snoc_cases {α : Type} (l : List α) : l = [] ∨ ∃ m y, l = m ++ [y] := by
  rcases List.eq_nil_or_concat l with h | ⟨m, y, h⟩
  · exact .inl h
  · exact .inr ⟨m, y, by rw [h, List.concat_eq_append]⟩
theorem add_ne {a b : List Ro} (hb : b ≠ []) (d : Int) (t : ByteArray) : addText (a ++ b) d t = a ++ addText b d t := by
  obtain ⟨c, z, rfl⟩ : ∃ c z, b = c ++ [z] := (snoc_cases b).resolve_left hb
  unfold addText
  rw [← List.append_assoc, List.getLast?_append, List.getLast?_append, List.getLast?_append]
  show (if z.kind = 1 ∧ z.depth = d then _ else _) = a ++ (if z.kind = 1 ∧ z.depth = d then _ else _)
  rw [List.dropLast_concat, List.dropLast_concat]
  split <;> simp only [List.append_assoc]
theorem add_one {J : Ro} {d : Int} {t : ByteArray} : addText [J] d t = if J.kind = 1 ∧ J.depth = d then [⟨J.depth, J.kind, J.name, J.data ++ t, J.attrs⟩] else [J, ⟨d, 1, ⟨#[]⟩, t, []⟩] := rfl
theorem normal_one {y : Ro} (hk : y.kind = 1) (hy : y.data ≠ ⟨#[]⟩) : Ro.normal [y] = [⟨y.depth, 1, ⟨#[]⟩, y.data, []⟩] := by
  rw [normal_text hk hy]
  show ⟨y.depth, 1, ⟨#[]⟩, B (Ro.txt [y]), []⟩ :: Ro.normal ([] : List Ro) = _
  rw [Ro.txt_text hk, B_L, Ro.normal]
theorem normal_snoc (l : List Ro) (y : Ro) : full (l ++ [y]) → Ro.normal (l ++ [y]) = if y.kind = 1 then addText (Ro.normal l) y.depth y.data else Ro.normal l ++ [y] := by
  induction hn : l.length using Nat.strongRecOn generalizing l with
  | ind n ih =>
    subst hn
    intro hf
    have hy := hf y (List.mem_append_right _ (List.mem_singleton.2 rfl))
    cases l with
    | nil =>
      by_cases hk : y.kind = 1
      · rw [if_pos hk]
        show Ro.normal [y] = addText (Ro.normal []) _ _
        rw [normal_one hk (hy hk), Ro.normal]
        rfl
      · rw [if_neg hk]
        show Ro.normal [y] = Ro.normal [] ++ [y]
        rw [normal_other hk, Ro.normal]
        rfl
    | cons x r =>
      have hx := hf x List.mem_cons_self
      have hfr : full (r ++ [y]) := full_tail (show full (x :: (r ++ [y])) from hf)
      show Ro.normal (x :: (r ++ [y])) = _
      by_cases hkx : x.kind = 1
      · rw [normal_text hkx (hx hkx), normal_text hkx (hx hkx)]
        obtain ⟨m, hm⟩ : ∃ m, Ro.nexts x.depth r = m := ⟨_, rfl⟩
        have hle : m ≤ r.length := by rw [← hm]; exact (List.takeWhile_sublist _).length_le
        rw [hm]
        by_cases hlt : m < r.length
        · rw [nexts_more (by rw [hm]; exact hlt), hm, List.take_append_of_le_length hle, List.drop_append_of_le_length hle]
          have hd : r.drop m ≠ [] := fun e => by have := congrArg List.length e; rw [List.length_drop, List.length_nil] at this; omega
          have hfd : full (r.drop m ++ [y]) := fun z hz => by
            rcases List.mem_append.1 hz with e | e
            · exact hfr z (List.mem_append_left _ (List.mem_of_mem_drop e))
            · exact hfr z (List.mem_append_right _ e)
          rw [ih _ (by rw [List.length_drop, List.length_cons]; omega) _ rfl hfd]
          have hne := normal_ne (full_init hfd) hd
          split
          · exact (add_ne (a := [_]) hne _ _).symm
          · rfl
        · have hm2 : m = r.length := by omega
          rw [nexts_all (by rw [hm]; exact hm2), hm2, List.take_length, List.drop_length]
          have e0 : Ro.normal ([] : List Ro) = [] := by rw [Ro.normal]
          by_cases hyy : y.kind = 1 ∧ y.depth = x.depth
          · rw [if_pos hyy, if_pos hyy.1, e0, add_one, if_pos ⟨rfl, hyy.2.symm⟩]
            have e1 : r.length + 1 = (r ++ [y]).length := by rw [List.length_append]; rfl
            rw [e1, List.take_length, List.drop_length, e0]
            have e2 : Ro.txt (x :: (r ++ [y])) = Ro.txt (x :: r) ++ L y.data := by
              rw [← List.cons_append, Ro.txt_append, Ro.txt_text hyy.1]
            rw [e2, ← B_append, B_L]
          · rw [if_neg hyy, Nat.add_zero, List.take_append_of_le_length (Nat.le_refl _), List.take_length, List.drop_append_of_le_length (Nat.le_refl _), List.drop_length, e0]
            by_cases hk : y.kind = 1
            · rw [if_pos hk, add_one, if_neg (fun e => hyy ⟨hk, e.2.symm⟩), List.nil_append, normal_one hk (hy hk)]
            · rw [if_neg hk, List.nil_append, normal_other hk, e0]
              rfl
      · rw [normal_other hkx, normal_other hkx, ih _ (Nat.lt_succ_self _) _ rfl hfr]
        split
        · exact (add_behind (o0 := [x]) (o := Ro.normal r) (fun z hz => by injection hz with hz; rw [← hz]; exact hkx)).symm
        · rfl
theorem ending_add (o : List Ro) (d : Int) (t : ByteArray) : ending (addText o d t) = some (true, d) := by
  unfold addText
  cases hy : o.getLast? with
  | none => rw [ending_snoc]; rfl
  | some z =>
    show ending (if z.kind = 1 ∧ z.depth = d then _ else _) = _
    split
    · rename_i h
      rw [ending_snoc]
      show some (decide (z.kind = 1), z.depth) = _
      rw [decide_eq_true h.1, h.2]
    · rw [ending_snoc]; rfl
theorem ending_normal {l : List Ro} (h : full l) : ending (Ro.normal l) = ending l := by
  rcases snoc_cases l with rfl | ⟨m, y, rfl⟩
  · rw [Ro.normal]
  · rw [normal_snoc m y h, ending_snoc]
    split
    · rename_i hk; rw [ending_add, decide_eq_true hk]
    · rw [ending_snoc]
theorem len_add (o : List Ro) (d : Int) (t : ByteArray) : (addText o d t).length = o.length + (if ending o = some (true, d) then 0 else 1) := by
  unfold addText ending
  cases hy : o.getLast? with
  | none => show (o ++ [_]).length = _; rw [List.length_append]; rfl
  | some z =>
    show (if z.kind = 1 ∧ z.depth = d then _ else _ : List Ro).length = o.length + (if some (decide (z.kind = 1), z.depth) = some (true, d) then 0 else 1)
    have ho : o ≠ [] := fun e => by rw [e] at hy; cases hy
    have hl : 0 < o.length := List.length_pos_iff.2 ho
    by_cases hc : z.kind = 1 ∧ z.depth = d
    · rw [if_pos hc, if_pos (by rw [decide_eq_true hc.1, hc.2]), List.length_append, List.length_dropLast]
      show o.length - 1 + 1 = _
      omega
    · rw [if_neg hc, if_neg (fun e => by
        injection e with e
        injection e with e1 e2
        exact hc ⟨of_decide_eq_true e1, e2⟩), List.length_append]
      rfl
/-- Is a row a text that becomes one with the last row? -/
def meets (l : List Ro) (y : Ro) : Bool := decide (y.kind = 1) && decide (ending l = some (true, y.depth))
theorem len_normal {l : List Ro} {y : Ro} (h : full (l ++ [y])) : (Ro.normal (l ++ [y])).length = (Ro.normal l).length + (if meets l y = true then 0 else 1) := by
  rw [normal_snoc l y h]
  unfold meets
  by_cases hk : y.kind = 1
  · rw [if_pos hk, len_add, ending_normal (full_init h), decide_eq_true hk, Bool.true_and]
    congr 1
    by_cases he : ending l = some (true, y.depth)
    · rw [if_pos he, if_pos (decide_eq_true he)]
    · rw [if_neg he, if_neg (by rw [decide_eq_false he]; simp)]
  · rw [if_neg hk, decide_eq_false hk, List.length_append]
    rfl
theorem big_normal {l : List Ro} {y : Ro} (h : full (l ++ [y])) : tooBig (Ro.normal (l ++ [y])) = (decide (4096 < (Ro.normal (l ++ [y])).length) || decide (60 ≤ y.depth)) := by
  have he := ending_normal h
  rw [ending_snoc] at he
  unfold ending at he
  unfold tooBig
  cases hz : (Ro.normal (l ++ [y])).getLast? with
  | none => rw [hz] at he; cases he
  | some z =>
    rw [hz] at he
    injection he with he
    injection he with _ he
    show (_ || decide (60 ≤ z.depth)) = _
    rw [show z.depth = y.depth from he]

end Go.Proofs.YtdplbcchkjpcdaaGreatDoor.Bm

namespace Go.Proofs.YtdplbcchkjpcdaaGreatDoor.Bu
set_option linter.unusedVariables false
set_option linter.unusedSimpArgs false
open Go.RowKit Ba Fm Fo Nm Bm
open Ro (At Ro Cw ros Fr Ow Att Ap Rr Sh acells len_acells cells len_cells rowV rowO info_row info_attr below_new acells_one flat_at flat_len row_cells_new cells_one range2 range5 len_ros ros_append)
abbrev bp (b : Nat) : Value := .pointer (some ⟨b, 0, none⟩)
/-- Block b is a builder: its open elements, its rows, how many they are joined, whether they are too many. -/
def Bc (w : World) (b : Nat) (vo vr : Value) (n : Int) (big : Bool) : Prop := w.heap[b]? = some (.cells #[vo, vr, .int .i64 n, .bool big] 42)
section
variable {w w' : World} {b : Nat} {vo vr : Value} {n : Int} {big : Bool}
theorem Bc.c0 (h : Bc w b vo vr n big) : w.cell? ⟨b, 0, none⟩ = some vo := by rw [cell_of_row w b 0 _ _ _ h]; rfl
theorem Bc.c1 (h : Bc w b vo vr n big) : w.cell? ⟨b, 1, none⟩ = some vr := by rw [cell_of_row w b 1 _ _ _ h]; rfl
theorem Bc.c2 (h : Bc w b vo vr n big) : w.cell? ⟨b, 2, none⟩ = some (.int .i64 n) := by rw [cell_of_row w b 2 _ _ _ h]; rfl
theorem Bc.c3 (h : Bc w b vo vr n big) : w.cell? ⟨b, 3, none⟩ = some (.bool big) := by rw [cell_of_row w b 3 _ _ _ h]; rfl
theorem Bc.f (h : Bc w b vo vr n big) (j : Nat) : w.frozen? ⟨b, j, none⟩ = false := by
  unfold Bc at h
  simp [World.frozen?, h]
theorem Bc.lt (h : Bc w b vo vr n big) : b < w.heap.size := (Array.getElem?_eq_some_iff.1 h).1
theorem Bc.set0 (h : Bc w b vo vr n big) (u : Value) : Bc (w.setCell ⟨b, 0, none⟩ u) b u vr n big := by
  unfold Bc at h ⊢
  simp [World.setCell, Array.getElem?_modify, h]
theorem Bc.set1 (h : Bc w b vo vr n big) (u : Value) : Bc (w.setCell ⟨b, 1, none⟩ u) b vo u n big := by
  unfold Bc at h ⊢
  simp [World.setCell, Array.getElem?_modify, h]
theorem Bc.set2 (h : Bc w b vo vr n big) (m : Int) : Bc (w.setCell ⟨b, 2, none⟩ (.int .i64 m)) b vo vr m big := by
  unfold Bc at h ⊢
  simp [World.setCell, Array.getElem?_modify, h]
theorem Bc.set3 (h : Bc w b vo vr n big) (m : Bool) : Bc (w.setCell ⟨b, 3, none⟩ (.bool m)) b vo vr n m := by
  unfold Bc at h ⊢
  simp [World.setCell, Array.getElem?_modify, h]
theorem Bc.below (h : Bc w b vo vr n big) (hb : Below w.heap.size w w') : Bc w' b vo vr n big := (hb.block b h.lt).trans h
theorem Bc.drew (h : Bc w b vo vr n big) (k : Nat) : Bc (w.drewN k) b vo vr n big := h
end

theorem g_dN (w : World) (n : Nat) (row : Option Nat) : w.grownBy (w.drewN n) row := ⟨rfl, rfl, rfl, Nat.le_refl _, fun _ _ _ => rfl⟩
theorem g_set (w : World) (b j : Nat) (u : Value) : w.grownBy (w.setCell ⟨b, j, none⟩ u) (some b) :=
  ⟨rfl, rfl, rfl, by simp [World.setCell], fun k _ hk => Below.heap_setCell _ _ _ _ (fun e => hk (by simp [e]))⟩

/-- A row of the call's own does not lie in a block of another type. -/
theorem own_ne {N b n size : Nat} {e t : TypeId} {w : World} {v : Value} {xs : List Value} (h : w.ownsRow N e size v n xs) {cs : Array Value} {fr : Nat × Nat} (hb : w.heap[b]? = some (.cells cs t fr)) (ht : t ≠ e) : v.ownBlock ≠ some b := by
  rcases h.2 with ⟨rfl, _⟩ | ⟨g, cap, cur, rfl, _, hh, _⟩
  · simp [Value.ownBlock]
  · intro e
    have e : g = b := by simpa [Value.ownBlock] using e
    subst e
    rw [hb] at hh
    injection hh with hh
    injection hh with _ h2
    exact ht h2
theorem own_apart {N N' n n' size size' : Nat} {e e' : TypeId} {w : World} {v v' : Value} {xs xs' : List Value} (h : w.ownsRow N e size v n xs) (h' : w.ownsRow N' e' size' v' n' xs') (ht : e' ≠ e) : v.ownBlock = none ∨ v.ownBlock ≠ v'.ownBlock := by
  rcases h'.2 with ⟨rfl, _⟩ | ⟨g, cap, cur, rfl, _, hh, _⟩
  · cases hv : v.ownBlock with
    | none => exact .inl rfl
    | some k => right; simp [Value.ownBlock]
  · exact .inr (own_ne h hh ht)

/-- Boxes of tokens are kept. -/
def Kt (w w' : World) : Prop := ∀ (g : Nat) (cs : Array Value) (fr : Nat × Nat), w.heap[g]? = some (.cells cs 44 fr) → w'.heap[g]? = w.heap[g]?
theorem Kt.refl (w : World) : Kt w w := fun _ _ _ _ => rfl
theorem Kt.trans {w w1 w2 : World} (h : Kt w w1) (h' : Kt w1 w2) : Kt w w2 := fun g cs fr hg => (h' g cs fr ((h g cs fr hg).trans hg)).trans (h g cs fr hg)
theorem Kt.below {w w' : World} (h : Below w.heap.size w w') : Kt w w' := fun g cs fr hg => h.block g (Array.getElem?_eq_some_iff.1 hg).1
theorem Kt.grown {w w' : World} {b : Nat} {cs : Array Value} {t : TypeId} {fr : Nat × Nat} (h : w.grownBy w' (some b)) (hb : w.heap[b]? = some (.cells cs t fr)) (ht : t ≠ 44) : Kt w w' := fun g cs' fr' hg => h.block g (Array.getElem?_eq_some_iff.1 hg).1 fun e => by
  injection e with e
  subst e
  rw [hg] at hb
  injection hb with hb
  injection hb with _ h2
  exact ht h2.symm
theorem Kt.own {w w' : World} {N n size : Nat} {e : TypeId} {v : Value} {xs : List Value} (h : w.grownBy w' v.ownBlock) (ho : w.ownsRow N e size v n xs) (ht : e ≠ 44) : Kt w w' := fun g cs fr hg => h.block g (Array.getElem?_eq_some_iff.1 hg).1 fun e2 => own_ne ho hg ht.symm e2.symm

/-- Rows of the call's own, their attributes too. -/
def Or (N : Nat) (w : World) (v : Value) (l : List Cw) : Prop := w.ownsRow N 36 5 v l.length (l.flatMap cells) ∧ ∀ x ∈ l, Fr N w x
theorem Or.ow {N : Nat} {w : World} {v : Value} {l : List Cw} (h : Or N w v l) : Ow N w v l := ⟨h.1, fun x hx => ⟨(h.2 x hx).att, (h.2 x hx).ap⟩⟩
theorem Or.nil (N : Nat) (w : World) : Or N w (.slice none 0 0) [] := ⟨World.ownsRow_nil w N _ 5, fun _ h => by simp at h⟩
/-- They are kept where what grows is of another type. -/
theorem Or.kept {N b : Nat} {w w' : World} {v : Value} {l : List Cw} (h : Or N w v l) (hg : w.grownBy w' (some b)) {cs : Array Value} {t : TypeId} {fr : Nat × Nat} (hb : w.heap[b]? = some (.cells cs t fr)) (h1 : t ≠ 36) (h2 : t ≠ 66) : Or N w' v l :=
  ⟨World.ownsRow.kept h.1 hg (.inr (own_ne h.1 hb h1)), fun x hx => ⟨World.ownsRow.kept (h.2 x hx).1 hg (.inr (own_ne (h.2 x hx).1 hb h2)), (h.2 x hx).2⟩⟩
theorem Or.apart {N N' n size : Nat} {e : TypeId} {w w' : World} {v u : Value} {xs : List Value} {l : List Cw} (h : Or N w v l) (hu : w.ownsRow N' e size u n xs) (hg : w.grownBy w' u.ownBlock) (h1 : e ≠ 36) (h2 : e ≠ 66) : Or N w' v l :=
  ⟨World.ownsRow.kept h.1 hg (own_apart h.1 hu h1), fun x hx => ⟨World.ownsRow.kept (h.2 x hx).1 hg (own_apart (h.2 x hx).1 hu h2), (h.2 x hx).2⟩⟩
theorem Or.below {N : Nat} {w w' : World} {v : Value} {l : List Cw} (h : Or N w v l) (hb : Below w.heap.size w w') : Or N w' v l := ⟨(h.ow.below hb).1, fun x hx => (h.2 x hx).below hb⟩
theorem Or.form {N : Nat} {w : World} {v : Value} {l : List Cw} (h : Or N w v l) : ∃ A c, v = .slice A l.length c ∧ l.length ≤ c ∧ c ≤ maxLen ∧ (A = none → c = 0) ∧ Rr w w.heap.size A l := h.ow.form
theorem Sown.keptB {N b : Nat} {w w' : World} {v : Value} {l : List ByteArray} (h : Sown N w v l) (hg : w.grownBy w' (some b)) {cs : Array Value} {t : TypeId} {fr : Nat × Nat} (hb : w.heap[b]? = some (.cells cs t fr)) (h1 : t ≠ 9) : Sown N w' v l := World.ownsRow.kept h hg (.inr (own_ne h hb h1))
/-- The first ones of them. -/
theorem Sown.cut {N : Nat} {w : World} {A : Option Addr} {k c : Nat} {l : List ByteArray} (h : Sown N w (.slice A l.length c) l) (hk : k ≤ l.length) : Sown N w (.slice A k c) (l.take k) := by
  have hl : (l.take k).length = k := by rw [List.length_take]; omega
  unfold Sown at h ⊢
  rw [hl]
  obtain ⟨h1, h2⟩ := h
  refine ⟨by rw [List.length_map, hl]; omega, ?_⟩
  rcases h2 with ⟨hv, h0⟩ | ⟨g, cap, cur, hv, hg, hh, hn, hm, hs, ht⟩
  · injection hv with e1 e2 e3
    subst e1; subst e3
    obtain rfl : k = 0 := by omega
    exact .inl ⟨rfl, rfl⟩
  · injection hv with e1 e2 e3
    subst e1; subst e3
    refine .inr ⟨g, c, cur, rfl, hg, hh, by omega, hm, hs, ?_⟩
    have := congrArg (List.take k) ht
    rw [List.take_take, ← List.map_take] at this
    rw [← this]
    congr 1
    omega

/-- A builder in block b. -/
def Bg (N : Nat) (w : World) (b : Nat) (o : List ByteArray) (l : List Cw) (n : Int) (big : Bool) : Prop := ∃ vo vr, Bc w b vo vr n big ∧ Sown N w vo o ∧ Or N w vr l ∧ N ≤ b
theorem Bg.below {N : Nat} {w w' : World} {b : Nat} {o : List ByteArray} {l : List Cw} {n : Int} {big : Bool} (h : Bg N w b o l n big) (hb : Below w.heap.size w w') : Bg N w' b o l n big ∧ Below N w w' := by
  obtain ⟨vo, vr, hc, ho, hr, hN⟩ := h
  exact ⟨⟨vo, vr, hc.below hb, ho.below hb (Nat.le_refl _), hr.below hb, hN⟩, hb.mono (by have := hc.lt; omega)⟩
theorem Bg.lt {N : Nat} {w : World} {b : Nat} {o : List ByteArray} {l : List Cw} {n : Int} {big : Bool} (h : Bg N w b o l n big) : N ≤ b ∧ b < w.heap.size := by
  obtain ⟨vo, vr, hc, ho, hr, hN⟩ := h
  exact ⟨hN, hc.lt⟩

/-- The row at the end. -/
theorem last_row {N : Nat} {w : World} {v : Value} {l : List Cw} (h : Or N w v l) (hl : 0 < l.length) : ∃ b off c x, v = .slice (some ⟨b, off, none⟩) l.length c ∧ l.length ≤ c ∧ b < w.heap.size ∧ w.rangeAt b (off + (l.length - 1) * 5) (cells x) ∧ ending (ros l) = some (decide (x.ro.kind = 1), x.ro.depth) := by
  obtain ⟨A, c, e, hc, _, _, hr⟩ := h.form
  obtain ⟨b, off, x, e2, hb, hd, hx, _, _⟩ := hr.at_ (l.length - 1) (by omega)
  refine ⟨b, off, c, x, by rw [e, e2], hc, hb, hx, ?_⟩
  have hd2 : l.drop (l.length - 1) = [x] := by
    rw [hd, List.drop_eq_nil_of_le (by omega)]
  have hs : l = l.take (l.length - 1) ++ [x] := by rw [← hd2, List.take_append_drop]
  rw [hs]
  unfold ros
  rw [List.map_append]
  exact ending_snoc _ _

end Go.Proofs.YtdplbcchkjpcdaaGreatDoor.Bu
