/-
  Walks of stage 4: boltingref04.Kids, boltinglaw04.nums.
  Rows and attributes of the call's own: what they hold, what is kept where another one grows, append of a row and of attributes.
  Walks of stage 4: boltingref04.Moved, Join; rows.appendMoved; boltinglaw04.bound.
  Walks of stage 4: boltinglaw04.bound, boltingref04.Join; append of rows onto rows.
  Walks of stage 4: joined, Text, textsEnd; boltingref04.Text.
  Walks of stage 4: textsEnd, Normal.
  Walks of stage 4: boltingref04.Normal.
  Walks of stage 4: sameAttrs, sameRow, Same; boltingref04.Attrs, Same.
  Walks of stage 4: sameRow, Same; boltingref04.Same.
  Walks of stage 4: boltingref04.Same.
  Walks of stage 4: placeOf.
  Walks of stage 4: nums; Kids and its reference out of range; Take, Drop.
  Walks of stage 4: Put and its reference.
  Walks of stage 4: the reference's Put.
  A value that reads as rows (Rv), and the contracts of Check, Same, Normal over it.
  Walks of stage 4: the fixed rows.
  Walks of stage 4: the fixed samples.
  Stage 4, plain: what right rows are; the parent in two ways.
  Arguments that are slices of structs, or structs, as a statement's row reads them: for rows, tokens and whatever has attributes.
  Stage 4: arguments that are rows, as the statement's row reads them.
  The laws of stage 4, walked: Checks.
  Stage 4: the contracts, over values that read as rows (Rv).
  The laws of stage 4, walked: Normal.
  Stage 4, plain: texts joined: right rows stay right, the same text, joined again they stay.
  Walks of stage 5: names.among, the five lists (names.Void, Raw, Soft, Block, Gone), and the document's own lists.
  Walks of stage 8: appendAll, appendTag, holds, appendNode.
-/
import Derived.Test.YtenmlpfjeohkiaaGreatDoorCk05
import Derived.Test.YtenmlpfjeohkiaaGreatDoorCk01
import Derived.Test.YtenmlpfjeohkiaaGreatDoorCk02
import Derived.StillTailTactics
import Derived.Deep.RegionHeld3
import Derived.Deep.CutRange
import Derived.Laws.StructEq
import Derived.Deep.RegionWith
import Derived.Shelf.RegionOpen
import Derived.Laws.MakeOwn
import Derived.Deep.DeepCutAuto
import Derived.Test.YtenmlpfjeohkiaaGreatDoorRows
import Derived.Deep.Slices
import Derived.Deep.Fields
import Derived.ChangeSame
import Derived.ProofKit
import Derived.Carry
import Derived.Lib.SmallJoins
import Derived.Test.YtenmlpfjeohkiaaGreatDoorCk03
import Derived.Test.YtenmlpfjeohkiaaGreatDoorCk04
namespace Go.Proofs.YtenmlpfjeohkiaaGreatDoor.Ro
set_option linter.unusedVariables false
set_option linter.unusedSimpArgs false
open Go.RowKit Ba
/-- v is a slice of numbers of the call's own. -/
def Nw (N : Nat) (w : World) (v : Value) (l : List Nat) : Prop := w.ownsRow N 3 1 v l.length (l.map nv)
theorem Nw.made (w : World) : Nw w.heap.size (w.alloc (.cells #[] 3)) (.slice (some ⟨w.heap.size, 0, none⟩) 0 0) [] := World.ownsRow_made w #[] 0 (Nat.le_refl _) (Nat.zero_le _) rfl
theorem Nw.alloc {N : Nat} {w : World} {v : Value} {l : List Nat} (h : Nw N w v l) (o : Obj) : Nw N (w.alloc o) v l := World.ownsRow.alloc h o
theorem Nw.below {N M : Nat} {w w' : World} {v : Value} {l : List Nat} (h : Nw N w v l) (hb : Below M w w') (hM : w.heap.size ≤ M := by exact Nat.le_refl _) : Nw N w' v l := by
  refine ⟨h.1, ?_⟩
  rcases h.2 with hn | ⟨g, cap, cur, hv, hg, hh, rest⟩
  · exact .inl hn
  · refine .inr ⟨g, cap, cur, hv, hg, ?_, rest⟩
    have hlt : g < w.heap.size := (Array.getElem?_eq_some_iff.1 hh).1
    rw [hb.block g (by omega)]
    exact hh
/-- It reads as these numbers. -/
def Rn (w : World) (N : Nat) (A : Option Addr) (l : List Nat) : Prop := 0 < l.length → ∃ b off, A = some ⟨b, off, none⟩ ∧ b < N ∧ ∀ j (h : j < l.length), w.cell? ⟨b, off + j, none⟩ = some (.int .i64 (l[j] : Nat))
theorem Rn.below {w w' : World} {N M : Nat} {A : Option Addr} {l : List Nat} (h : Rn w N A l) (hb : Below M w w') (hN : N ≤ M := by exact Nat.le_refl _) : Rn w' N A l := fun h0 => by
  obtain ⟨b, off, e, hb1, hc⟩ := h h0
  exact ⟨b, off, e, hb1, fun j hj => (hb.cell (p := ⟨b, off + j, none⟩) (by show b < M; omega)).trans (hc j hj)⟩
theorem Nw.form {N : Nat} {w : World} {v : Value} {l : List Nat} (h : Nw N w v l) : ∃ A c, v = .slice A l.length c ∧ l.length ≤ c ∧ c ≤ maxLen ∧ Rn w w.heap.size A l := by
  rcases h.2 with ⟨hv, hl⟩ | ⟨g, cap, cur, hv, hg, hh, hn, hm, hs, ht⟩
  · have : l = [] := List.eq_nil_of_length_eq_zero hl
    subst this
    exact ⟨none, 0, hv, Nat.le_refl _, Nat.zero_le _, fun h => absurd h (by simp)⟩
  · refine ⟨some ⟨g, 0, none⟩, cap, hv, hn, hm, fun _ => ⟨g, 0, rfl, (Array.getElem?_eq_some_iff.1 hh).1, fun j hj => ?_⟩⟩
    subst hv
    have := World.ownsRow.cells h rfl j (nv l[j]) (by simp [hj])
    rw [WideShapes.add_plain] at this
    exact this
end Go.Proofs.YtenmlpfjeohkiaaGreatDoor.Ro

namespace Go.Proofs.YtenmlpfjeohkiaaGreatDoor.Ro
set_option maxRecDepth 100000
set_option linter.unusedVariables false
set_option linter.unusedSimpArgs false
open Go.RowKit Ba
/-- The attributes of a row lie where no row of the call's own can lie. -/
def Ap (w : World) (N : Nat) (x : Cw) : Prop := 0 < x.ro.attrs.length → ∃ b off, x.A = some ⟨b, off, none⟩ ∧ (b < N ∨ ∃ cs fr, w.heap[b]? = some (.cells cs 46 fr))
/-- The attributes of a row are the call's own. -/
def Fr (N : Nat) (w : World) (x : Cw) : Prop := w.ownsRow N 46 2 (.slice x.A x.ro.attrs.length x.c) x.ro.attrs.length (x.ro.attrs.flatMap acells) ∧ Sh x.ro.attrs
/-- v is a slice of rows of the call's own. -/
def Ow (N : Nat) (w : World) (v : Value) (l : List Cw) : Prop := w.ownsRow N 34 5 v l.length (l.flatMap cells) ∧ ∀ x ∈ l, Att w w.heap.size x ∧ Ap w N x

theorem Fr.att {N : Nat} {w : World} {x : Cw} (h : Fr N w x) : Att w w.heap.size x := by
  obtain ⟨⟨hl, h⟩, hs⟩ := h
  rcases h with ⟨hv, hn⟩ | ⟨g, cap, cur, hv, hg, hh, hn, hm, hsz, ht⟩
  · injection hv with e1 e2 e3
    refine ⟨by omega, fun _ => e3, by rw [e3]; exact Nat.zero_le _, fun h0 => by omega, hs⟩
  · have hh0 : w.ownsRow N 46 2 (.slice x.A x.ro.attrs.length x.c) x.ro.attrs.length (x.ro.attrs.flatMap acells) := ⟨hl, .inr ⟨g, cap, cur, hv, hg, hh, hn, hm, hsz, ht⟩⟩
    injection hv with e1 _ e3
    refine ⟨by omega, (fun e => by rw [e] at e1; cases e1), by rw [e3]; exact hm, fun h0 => ⟨g, 0, e1, (Array.getElem?_eq_some_iff.1 hh).1, fun j hj i v hv => ?_⟩, hs⟩
    have hi : i < 2 := (List.getElem?_eq_some_iff.1 hv).1
    have := World.ownsRow.cells hh0 (g := g) (by rw [e1]; rfl) (j * 2 + i) v (by rw [flat_at acells 2 len_acells _ _ _ hj hi]; exact hv)
    rw [WideShapes.add_plain] at this
    rw [show 0 + j * 2 + i = 0 + (j * 2 + i) from by omega]
    exact this
theorem Fr.ap {N : Nat} {w : World} {x : Cw} (h : Fr N w x) : Ap w N x := fun h0 => by
  obtain ⟨⟨_, h⟩, _⟩ := h
  rcases h with ⟨hv, hn⟩ | ⟨g, cap, cur, hv, hg, hh, _⟩
  · omega
  · injection hv with e1
    exact ⟨g, 0, e1, .inr ⟨_, _, hh⟩⟩
theorem Fr.below {N M : Nat} {w w' : World} {x : Cw} (h : Fr N w x) (hb : Below M w w') (hM : w.heap.size ≤ M := by exact Nat.le_refl _) : Fr N w' x := by
  refine ⟨⟨h.1.1, ?_⟩, h.2⟩
  rcases h.1.2 with hn | ⟨g, cap, cur, hv, hg, hh, rest⟩
  · exact .inl hn
  · refine .inr ⟨g, cap, cur, hv, hg, ?_, rest⟩
    have hlt : g < w.heap.size := (Array.getElem?_eq_some_iff.1 hh).1
    rw [hb.block g (by omega)]
    exact hh
theorem Ap.below {N M : Nat} {w w' : World} {x : Cw} (h : Ap w N x) (hb : Below M w w') (hM : w.heap.size ≤ M := by exact Nat.le_refl _) : Ap w' N x := fun h0 => by
  obtain ⟨b, off, e, h⟩ := h h0
  refine ⟨b, off, e, ?_⟩
  rcases h with h | ⟨cs, fr, h⟩
  · exact .inl h
  · refine .inr ⟨cs, fr, ?_⟩
    have hlt : b < w.heap.size := (Array.getElem?_eq_some_iff.1 h).1
    rw [hb.block b (by omega)]
    exact h
theorem Att.apart {N : Nat} {w : World} {x : Cw} (h : Att w N x) : Ap w N x := fun h0 => by
  obtain ⟨b, off, e, hb, _⟩ := h.2.2.2.1 h0
  exact ⟨b, off, e, .inl hb⟩
theorem Ow.nil (N : Nat) (w : World) : Ow N w (.slice none 0 0) [] := ⟨World.ownsRow_nil w N _ 5, fun _ h => by simp at h⟩
theorem Ow.made (w : World) : Ow w.heap.size (w.alloc (.cells #[] 34)) (.slice (some ⟨w.heap.size, 0, none⟩) 0 0) [] :=
  ⟨World.ownsRow_made w #[] 0 (Nat.le_refl _) (Nat.zero_le _) rfl, fun _ h => by simp at h⟩
theorem Ow.below {N M : Nat} {w w' : World} {v : Value} {l : List Cw} (h : Ow N w v l) (hb : Below M w w') (hM : w.heap.size ≤ M := by exact Nat.le_refl _) : Ow N w' v l := by
  refine ⟨⟨h.1.1, ?_⟩, fun x hx => ⟨((h.2 x hx).1.below hb hM).more hb.size, (h.2 x hx).2.below hb hM⟩⟩
  rcases h.1.2 with hn | ⟨g, cap, cur, hv, hg, hh, rest⟩
  · exact .inl hn
  · refine .inr ⟨g, cap, cur, hv, hg, ?_, rest⟩
    have hlt : g < w.heap.size := (Array.getElem?_eq_some_iff.1 hh).1
    rw [hb.block g (by omega)]
    exact hh
theorem Ow.alloc {N : Nat} {w : World} {v : Value} {l : List Cw} (h : Ow N w v l) (o : Obj) : Ow N (w.alloc o) v l := h.below (below_new w o)
theorem Ow.mono {N N' : Nat} {w : World} {v : Value} {l : List Cw} (h : Ow N w v l) (hN : N' ≤ N) (hl : ∀ x ∈ l, Ap w N' x) : Ow N' w v l := ⟨World.ownsRow.mono h.1 hN, fun x hx => ⟨(h.2 x hx).1, hl x hx⟩⟩
/-- What a slice of the call's own is, and reads as. -/
theorem Ow.form {N : Nat} {w : World} {v : Value} {l : List Cw} (h : Ow N w v l) : ∃ A c, v = .slice A l.length c ∧ l.length ≤ c ∧ c ≤ maxLen ∧ (A = none → c = 0) ∧ Rr w w.heap.size A l := by
  rcases h.1.2 with ⟨hv, hl⟩ | ⟨g, cap, cur, hv, hg, hh, hn, hm, hs, ht⟩
  · have : l = [] := List.eq_nil_of_length_eq_zero hl
    subst this
    exact ⟨none, 0, hv, Nat.le_refl _, Nat.zero_le _, fun _ => rfl, Rr.nil _ _ _⟩
  · refine ⟨some ⟨g, 0, none⟩, cap, hv, hn, hm, (fun e => by cases e), fun _ => ⟨g, 0, rfl, (Array.getElem?_eq_some_iff.1 hh).1, fun j hj i u hu => ?_⟩, fun x hx => (h.2 x hx).1⟩
    have hi : i < 5 := (List.getElem?_eq_some_iff.1 hu).1
    subst hv
    have := World.ownsRow.cells h.1 (g := g) rfl (j * 5 + i) u (by rw [flat_at cells 5 len_cells _ _ _ hj hi]; exact hu)
    rw [WideShapes.add_plain] at this
    rw [show 0 + j * 5 + i = 0 + (j * 5 + i) from by omega]
    exact this

/-- A block of attributes is none of rows. -/
theorem block_ne {N n : Nat} {w : World} {v : Value} {xs : List Value} {b : Nat} {cs : Array Value} {fr : Nat × Nat} (h : w.ownsRow N 34 5 v n xs) (hb : w.heap[b]? = some (.cells cs 46 fr)) : some b ≠ v.ownBlock := by
  rcases h.2 with ⟨rfl, _⟩ | ⟨g, cap, cur, rfl, _, hh, _⟩
  · simp [Value.ownBlock]
  · intro e
    have e : b = g := by simpa [Value.ownBlock] using e
    subst e
    rw [hb] at hh
    injection hh with hh
    injection hh with _ ht
    exact absurd ht (by decide)
theorem low_ne {N n : Nat} {w : World} {v : Value} {xs : List Value} {b : Nat} (h : w.ownsRow N 34 5 v n xs) (hb : b < N) : some b ≠ v.ownBlock := fun e => by
  have := (World.ownsRow.lt h b e.symm).1
  omega
theorem Att.grown {N n : Nat} {w w' : World} {v : Value} {xs : List Value} {y : Cw} (h : w.ownsRow N 34 5 v n xs) (hg : w.grownBy w' v.ownBlock) (hy : Att w w.heap.size y) (ha : Ap w N y) : Att w' w'.heap.size y := by
  refine ⟨hy.1, hy.2.1, hy.2.2.1, fun h0 => ?_, hy.2.2.2.2⟩
  obtain ⟨b, off, e, hb, hc⟩ := hy.2.2.2.1 h0
  obtain ⟨b', off', e', ha⟩ := ha h0
  rw [e] at e'
  injection e' with e'
  injection e' with e1 e2
  subst e1 e2
  have hne : some b ≠ v.ownBlock := by
    rcases ha with ha | ⟨cs, fr, ha⟩
    · exact low_ne h ha
    · exact block_ne h ha
  exact ⟨b, off, e, Nat.lt_of_lt_of_le hb hg.size, fun j hj => range_keep (hc j hj) fun o => World.cell?_of_block (a := ⟨b, o, none⟩) (hg.block b hb hne)⟩
theorem Ap.grown {N n : Nat} {w w' : World} {v : Value} {xs : List Value} {y : Cw} (h : w.ownsRow N 34 5 v n xs) (hg : w.grownBy w' v.ownBlock) (ha : Ap w N y) : Ap w' N y := fun h0 => by
  obtain ⟨b, off, e, ha⟩ := ha h0
  refine ⟨b, off, e, ?_⟩
  rcases ha with ha | ⟨cs, fr, ha⟩
  · exact .inl ha
  · exact .inr ⟨cs, fr, (hg.block b (Array.getElem?_eq_some_iff.1 ha).1 (block_ne h ha)).trans ha⟩
theorem Fr.grown {N n : Nat} {w w' : World} {v : Value} {xs : List Value} {y : Cw} (h : w.ownsRow N 34 5 v n xs) (hg : w.grownBy w' v.ownBlock) (hy : Fr N w y) : Fr N w' y := by
  refine ⟨⟨hy.1.1, ?_⟩, hy.2⟩
  rcases hy.1.2 with hn | ⟨g, cap, cur, hv, hg', hh, rest⟩
  · exact .inl hn
  · exact .inr ⟨g, cap, cur, hv, hg', (hg.block g (Array.getElem?_eq_some_iff.1 hh).1 (block_ne h hh)).trans hh, rest⟩

theorem row_cells_new (w : World) (x : Cw) : ∀ j u, (cells x)[j]? = some u → (w.alloc (rowO x)).cell? ((⟨w.heap.size, 0, none⟩ : Addr).add j) = some u := fun j u hu => by
  rw [WideShapes.add_plain, Nat.zero_add]
  exact (box_at w x j).trans hu
theorem cells_one (x : Cw) : ∀ u ∈ cells x, u.oneCell' = true := by
  intro u hu
  simp only [cells, List.mem_cons, List.not_mem_nil, or_false] at hu
  rcases hu with rfl | rfl | rfl | rfl | rfl <;> rfl
/-- append of one row, in a block of its own, onto rows of the call's own. -/
theorem app_row {ops : Array Oper} {rest : List Oper} {o : Oper} {a : Act} {Q : Exit → Act → World → Prop} (w : World) (hgd : o.guard = none) (s x : Operand)
    (ho : o.op = .call { callee := .builtin .append, args := #[s, x], argTypes := #[22, 22] })
    (N : Nat) (v : Value) (l : List Cw) (y : Cw) (hs : a.eval s = v) (hown : Ow N w v l) (hy : Att w w.heap.size y) (hap : Ap w N y) (g : Nat) (hgz : g = w.heap.size) (hx : a.eval x = .slice (some ⟨g, 0, none⟩) 1 1)
    (hl : l.length ≤ 2000000) (hN : N ≤ w.heap.size)
    (h : ∀ v' w', Ow N w' v' (l ++ [y]) → (∀ w0, Below N w0 w → Below N w0 w') → (∀ z, Fr N w z → Fr N w' z) → wpList Tryz.prog ops Q rest (a.put o.dst v') w') :
    wpList Tryz.prog ops Q (o :: rest) a (w.alloc (rowO y)) := by
  subst hgz
  obtain ⟨i0, hi, hz0, hz1, hz2⟩ := info_parts info_row
  have hown' : Ow N (w.alloc (rowO y)) v l := hown.alloc _
  have hsz : (w.alloc (rowO y)).heap.size = w.heap.size + 1 := by simp
  refine wpList_append_own _ hgd s x 22 ho N 34 i0 _ 5 72 Tryz.underlying22 hi hz0 hz1 hz2 rfl (by decide) v l.length (l.flatMap cells) hs hown'.1 ⟨w.heap.size, 0, none⟩ 1 1 (cells y) hx rfl (row_cells_new w y) (cells_one y) (by unfold maxLen; omega) (by omega) (by omega) ?_
  intro v' w' ho2 hg2 _
  have hk : ∀ w0, Below N w0 w → Below N w0 w' := fun w0 hb => (hb.alloc hN _).grown hg2 (by omega) fun k hk => (World.ownsRow.lt hown'.1 k hk).1
  refine h v' w' ⟨?_, ?_⟩ hk fun z hz => (hz.below (below_new w (rowO y))).grown hown'.1 hg2
  · rw [List.length_append, List.flatMap_append]
    simpa using ho2
  · intro z hz
    rcases List.mem_append.1 hz with hz | hz
    · exact ⟨(hown'.2 z hz).1.grown hown'.1 hg2 (hown'.2 z hz).2, (hown'.2 z hz).2.grown hown'.1 hg2⟩
    · obtain rfl := List.mem_singleton.1 hz
      have h1 : Att (w.alloc (rowO z)) (w.alloc (rowO z)).heap.size z := hy.boxed (Below.refl _ _) (rowO z)
      have h2 := hap.below (below_new w (rowO z))
      exact ⟨h1.grown hown'.1 hg2 h2, h2.grown hown'.1 hg2⟩

/-- append of a row's attributes onto none. -/
theorem app_attrs {ops : Array Oper} {rest : List Oper} {o : Oper} {a : Act} {Q : Exit → Act → World → Prop} (w : World) (hgd : o.guard = none) (s x : Operand)
    (ho : o.op = .call { callee := .builtin .append, args := #[s, x], argTypes := #[32, 32] })
    (N : Nat) (v : Value) (y : Cw) (hs : a.eval s = v) (hown : w.ownsRow N 46 2 v 0 []) (hx : a.eval x = .slice y.A y.ro.attrs.length y.c) (hy : Att w w.heap.size y)
    (hl : y.ro.attrs.length ≤ 2000000) (hN : N ≤ w.heap.size)
    (h : ∀ A c w', Fr N w' { y with A := A, c := c } → w.grownBy w' v.ownBlock → wpList Tryz.prog ops Q rest (a.put o.dst (.slice A y.ro.attrs.length c)) w') :
    wpList Tryz.prog ops Q (o :: rest) a w := by
  obtain ⟨i0, hi, hz0, hz1, hz2⟩ := info_parts info_attr
  obtain ⟨h1, h2, h3, h4, h5⟩ := hy
  cases hA : y.A with
  | none =>
    have hm : y.ro.attrs = [] := by
      rcases Nat.eq_zero_or_pos y.ro.attrs.length with h0 | h0
      · exact List.eq_nil_of_length_eq_zero h0
      · obtain ⟨b, off, e, _⟩ := h4 h0
        rw [hA] at e
        cases e
    have hc0 := h2 hA
    rw [hA, hc0, hm] at hx
    refine wpList_append_own_none hgd s x 32 ho N 46 i0 2 Tryz.underlying32 hi v 0 [] hs hown hx ?_
    rcases hown.2 with ⟨hv, _⟩ | ⟨g, cap, cur, hv, _⟩
    · subst hv
      have := h none 0 w ⟨by simpa [hm] using hown, h5⟩ (World.grownBy.refl w _)
      rwa [hm] at this
    · subst hv
      have := h (some ⟨g, 0, none⟩) cap w ⟨by simpa [hm] using hown, h5⟩ (World.grownBy.refl w _)
      rwa [hm] at this
  | some ad =>
    have hcells : ∀ j u, (y.ro.attrs.flatMap acells)[j]? = some u → w.cell? (ad.add j) = some u := by
      intro j u hu
      have hj : j < (y.ro.attrs.flatMap acells).length := (List.getElem?_eq_some_iff.1 hu).1
      rw [flat_len acells 2 len_acells] at hj
      obtain ⟨b, off, e, _, hc⟩ := h4 (by omega)
      rw [hA] at e
      injection e with e
      subst e
      rw [WideShapes.add_plain]
      have hq := hc (j / 2) (by omega) (j % 2) u (by rw [← flat_at acells 2 len_acells _ _ _ (by omega) (Nat.mod_lt _ (by decide)), show j / 2 * 2 + j % 2 = j from by omega]; exact hu)
      rw [show off + j / 2 * 2 + j % 2 = off + j from by omega] at hq
      exact hq
    rw [hA] at hx
    refine wpList_append_own _ hgd s x 32 ho N 46 i0 _ 2 32 Tryz.underlying32 hi hz0 hz1 hz2 rfl (by decide) v 0 [] hs hown ad y.ro.attrs.length y.c (y.ro.attrs.flatMap acells) hx (flat_len acells 2 len_acells _) hcells (acells_one _) (by unfold maxLen; omega) (by omega) hN ?_
    intro v' w' ho2 hg2 _
    rw [Nat.zero_add, List.nil_append] at ho2
    have hform : ∃ A c, v' = .slice A y.ro.attrs.length c := by
      rcases ho2.2 with ⟨hv, hn⟩ | ⟨g, cap, cur, hv, _⟩
      · exact ⟨none, 0, by rw [hn]; exact hv⟩
      · exact ⟨_, _, hv⟩
    obtain ⟨A', c', rfl⟩ := hform
    exact h A' c' w' ⟨ho2, h5⟩ hg2

end Go.Proofs.YtenmlpfjeohkiaaGreatDoor.Ro

namespace Go.Proofs.YtenmlpfjeohkiaaGreatDoor.Ro
set_option maxRecDepth 100000
set_option linter.unusedVariables false
set_option linter.unusedSimpArgs false
open Go.RowKit Ba
/-- Rows so much deeper. -/
def deeper (by_ : Int) (l : List Ro) : List Ro := l.map fun x => { x with depth := x.depth + by_ }
theorem deeper_snoc (d : Int) (l : List Ro) (x : Ro) : deeper d (l ++ [x]) = deeper d l ++ [{ x with depth := x.depth + d }] := by simp [deeper]
/-- No row has more attributes than that. -/
def Few (l : List Ro) : Prop := ∀ x ∈ l, x.attrs.length ≤ 1000000
theorem Few.at_ {l : List Cw} (h : Few (ros l)) {x : Cw} (hx : x ∈ l) : x.ro.attrs.length ≤ 1000000 := h _ (List.mem_map.2 ⟨x, hx, rfl⟩)
/-- So much deeper they do not wrap. -/
def Fits (by_ : Int) (l : List Ro) : Prop := ∀ x ∈ l, -9223372036854775808 ≤ x.depth + by_ ∧ x.depth + by_ ≤ 9223372036854775807
theorem Fits.at_ {d : Int} {l : List Cw} (h : Fits d (ros l)) {x : Cw} (hx : x ∈ l) : -9223372036854775808 ≤ x.ro.depth + d ∧ x.ro.depth + d ≤ 9223372036854775807 := h _ (List.mem_map.2 ⟨x, hx, rfl⟩)

theorem Fr.mono {N N' : Nat} {w : World} {x : Cw} (h : Fr N w x) (hN : N' ≤ N) : Fr N' w x := ⟨World.ownsRow.mono h.1 hN, h.2⟩
theorem Fr.set {N : Nat} {w : World} {x : Cw} {p : Addr} {u : Value} (h : Fr N w x) (hp : p.block < N) : Fr N (w.setCell p u) x := by
  refine ⟨⟨h.1.1, ?_⟩, h.2⟩
  rcases h.1.2 with hn | ⟨g, cap, cur, hv, hg, hh, rest⟩
  · exact .inl hn
  · exact .inr ⟨g, cap, cur, hv, hg, (Below.heap_setCell w p u g (by omega)).trans hh, rest⟩
/-- A box that is kept. -/
theorem box_block {w w2 : World} {x : Cw} (hb : Below (w.heap.size + 1) (w.alloc (rowO x)) w2) :
    w2.cell? ⟨w.heap.size, 0, none⟩ = some (.int .i64 x.ro.depth) ∧ w2.cell? ⟨w.heap.size, 1, none⟩ = some (.int .i64 x.ro.kind) ∧ w2.cell? ⟨w.heap.size, 2, none⟩ = some (.string x.ro.name) ∧ w2.cell? ⟨w.heap.size, 3, none⟩ = some (.string x.ro.data) ∧ w2.cell? ⟨w.heap.size, 4, none⟩ = some (.slice x.A x.ro.attrs.length x.c) ∧ w2.frozen? ⟨w.heap.size, 4, none⟩ = false ∧ Below w.heap.size w w2 := by
  have hc : ∀ j, w2.cell? ⟨w.heap.size, j, none⟩ = (cells x)[j]? := fun j => (hb.cell (p := ⟨w.heap.size, j, none⟩) (by simp)).trans (box_at w x j)
  refine ⟨hc 0, hc 1, hc 2, hc 3, hc 4, ?_, (below_new w _).trans (hb.mono (by omega))⟩
  rw [hb.frozen (p := ⟨w.heap.size, 4, none⟩) (by simp)]
  unfold World.frozen?
  rw [heap_alloc_new]
  rfl
abbrev deep1 (d : Int) (x : Cw) : Cw := ⟨⟨x.ro.depth + d, x.ro.kind, x.ro.name, x.ro.data, x.ro.attrs⟩, x.A, x.c⟩
abbrev deep2 (d : Int) (x : Cw) (A : Option Addr) (c : Nat) : Cw := ⟨⟨x.ro.depth + d, x.ro.kind, x.ro.name, x.ro.data, x.ro.attrs⟩, A, c⟩
theorem own_attr0 (w : World) (o : Obj) : ((w.alloc o).alloc (.cells #[] 46)).ownsRow (w.heap.size + 1) 46 2 (.slice (some ⟨w.heap.size + 1, 0, none⟩) 0 0) 0 [] := by
  have h : (w.alloc o).heap.size = w.heap.size + 1 := by simp
  have := World.ownsRow_made (base := (w.alloc o).heap.size) (e := 46) (size := 2) (w.alloc o) #[] 0 (Nat.le_refl _) (Nat.zero_le _) rfl
  rwa [h] at this
theorem after_attrs {w w2 : World} {o o2 : Obj} (hg : ((w.alloc o).alloc o2).grownBy w2 (some (w.heap.size + 1))) : Below (w.heap.size + 1) (w.alloc o) w2 := by
  have h := below_new (w.alloc o) o2
  have e : (w.alloc o).heap.size = w.heap.size + 1 := by simp
  rw [e] at h
  exact h.grown hg (by simp) fun k hk => by injection hk with hk; omega
/-- What a copied row is, in the world where its attributes have been stored into its box. -/
theorem copied {N : Nat} {w w2 : World} {d : Int} {x : Cw} {A : Option Addr} {c : Nat} {v : Value} {acc : List Cw} (hN : N ≤ w.heap.size) (hb : Below w.heap.size w w2) (hf : Fr (w.heap.size + 1) w2 (deep2 d x A c)) (hown : Ow N w v acc) (hfr : ∀ x ∈ acc, Fr N w x) (u : Value) :
    Ow N (w2.setCell ⟨w.heap.size, 4, none⟩ u) v acc ∧ (∀ x ∈ acc, Fr N (w2.setCell ⟨w.heap.size, 4, none⟩ u) x) ∧ Att (w2.setCell ⟨w.heap.size, 4, none⟩ u) (w2.setCell ⟨w.heap.size, 4, none⟩ u).heap.size (deep2 d x A c) ∧ Ap (w2.setCell ⟨w.heap.size, 4, none⟩ u) N (deep2 d x A c) ∧ Fr N (w2.setCell ⟨w.heap.size, 4, none⟩ u) (deep2 d x A c) ∧ N ≤ (w2.setCell ⟨w.heap.size, 4, none⟩ u).heap.size ∧ Below w.heap.size w (w2.setCell ⟨w.heap.size, 4, none⟩ u) := by
  have hb' : Below w.heap.size w (w2.setCell ⟨w.heap.size, 4, none⟩ u) := hb.setCell (Nat.le_refl _) _
  have hf' := (hf.set (p := ⟨w.heap.size, 4, none⟩) (u := u) (Nat.lt_succ_self _)).mono (N' := N) (by omega)
  exact ⟨hown.below hb', fun x hx => (hfr x hx).below hb', hf'.att, hf'.ap, hf', Nat.le_trans hN hb'.size, hb'⟩

set_option maxRecDepth 100000 in
set_option maxHeartbeats 1000000 in
theorem Moved_any (A : Option Addr) (c : Nat) (l : List Cw) (d : Int) (w : World) (hr : Rr w w.heap.size A l) (hc : l.length ≤ c) (hm : l.length ≤ 1000000) (hf : Few (ros l)) (hd : Fits d (ros l)) :
    Calls Tryz.prog 14 #[.slice A l.length c, .int .i64 d] w fun e w' => ∃ v l', e = .returned v ∧ Ow w.heap.size w' v l' ∧ (∀ x ∈ l', Fr w.heap.size w' x) ∧ ros l' = deeper d (ros l) ∧ Below w.heap.size w w' := by
  go_enter Tryz.func14, Tryz.ntmps14
  go_wp2
  go_loopw [5, 6] (fun v i wr => ∃ (k : Nat) (acc : List Cw), i = .int .i64 k ∧ k ≤ l.length ∧ acc.length = k ∧ Ow w.heap.size wr v acc ∧ (∀ x ∈ acc, Fr w.heap.size wr x) ∧ ros acc = deeper d (ros (l.take k)) ∧ Below w.heap.size w wr) (fun _ i _ => l.length - (intOf i).toNat)
  case atStart => exact ⟨0, [], rfl, by omega, rfl, Ow.made w, fun _ h => by simp at h, rfl, below_new w _⟩
  case round =>
    obtain ⟨k, acc, rfl, hk, hal, hown, hfr, hros, hbel⟩ := hrel
    have hsz := hbel.size
    by_cases hp : k < l.length
    · obtain ⟨b, off, x, rfl, hb, hdx, hx, hxa, hxm⟩ := (hr.below hbel).at_ k hp
      have hfew : x.ro.attrs.length ≤ 2000000 := Nat.le_trans (hf.at_ hxm) (by decide)
      obtain ⟨hw1, hw2⟩ := hd.at_ hxm
      have hs : ros acc ++ [{ x.ro with depth := x.ro.depth + d }] = deeper d (ros (l.take (k + 1))) := by
        rw [hros, List.take_add_one, getElem_of_drop hdx, ros_append, ← deeper_snoc]
        rfl
      have HS := Lib.hid hs
      have HOW := Lib.hid hown; have HFR := Lib.hid hfr
      have HAT : Hid (Att ((wr.alloc (rowO (deep1 d x))).alloc (.cells #[] 46)) ((wr.alloc (rowO (deep1 d x))).alloc (.cells #[] 46)).heap.size (deep1 d x)) := Lib.hid (((show Att wr w.heap.size (deep1 d x) from hxa).boxed hbel (rowO (deep1 d x))).boxed (Below.refl _ _) (.cells #[] 46))
      have hacc : acc.length ≤ 2000000 := by omega
      have HAL := Lib.hid hal
      clear hros hdx hs hown hfr hxa hal
      go_wp2_with (first
        | (refine wpList_load_mid rfl 34 (.tmp 17) rfl b (off + k * 5) rfl _ _ hx Tryz.underlying34 rfl size_row ?_)
        | (at_builtin; refine app_attrs _ rfl (.tmp 24) (.tmp 26) rfl (wr.heap.size + 1) (.slice (some ⟨wr.heap.size + 1, 0, none⟩) 0 0) (deep1 d x) rfl (own_attr0 wr _) rfl HAT.out hfew (by simp) ?_; intro A' c' w2 hf2 hg2
           obtain ⟨q0, q1, q2, q3, q4, q5, hb2⟩ := box_block (after_attrs (w := wr) (o := rowO (deep1 d x)) (o2 := .cells #[] 46) hg2)
           have HF2 := Lib.hid hf2; have HB2 := Lib.hid hb2
           clear hf2 hb2 hg2)
        | (at_builtin; refine app_row _ rfl (.tmp 29) (.tmp 31) rfl w.heap.size _ acc (deep2 d x A' c') rfl (copied hsz HB2.out HF2.out HOW.out HFR.out _).1 (copied hsz HB2.out HF2.out HOW.out HFR.out _).2.2.1 (copied hsz HB2.out HF2.out HOW.out HFR.out _).2.2.2.1 w2.heap.size (by simp) rfl hacc (copied hsz HB2.out HF2.out HOW.out HFR.out _).2.2.2.2.2.1 ?_; intro v3 w3 ho3 hk3 hf3))
      go_roundw
      case rel =>
        have C := copied hsz HB2.out HF2.out HOW.out HFR.out (.slice A' x.ro.attrs.length c')
        exact ⟨k + 1, acc ++ [deep2 d x A' c'], by go_num, by omega, by rw [List.length_append, HAL.out]; rfl, ho3, fun z hz => (by
          rcases List.mem_append.1 hz with h | h
          · exact hf3 z (C.2.1 z h)
          · obtain rfl := List.mem_singleton.1 h
            exact hf3 _ C.2.2.2.2.1), by rw [ros_append]; exact HS.out, hk3 w (hbel.trans (C.2.2.2.2.2.2.mono hsz))⟩
      case measure => simp [intOf]; omega
    · rw [List.take_of_length_le (by omega)] at hros
      have HR := Lib.hid hros
      clear hros
      go_wp2
      go_ret
      exact ⟨_, acc, rfl, hown, hfr, HR.out, hbel⟩

theorem after_attrs0 {w w2 : World} {o : Obj} (hg : (w.alloc o).grownBy w2 none) : Below (w.heap.size + 1) (w.alloc o) w2 := by
  have h := Below.refl (w.alloc o).heap.size (w.alloc o)
  have e : (w.alloc o).heap.size = w.heap.size + 1 := by simp
  rw [e] at h
  exact h.grown hg (by simp) fun k hk => by cases hk
theorem Att.boxN {w : World} {N : Nat} {x : Cw} (h : Att w N x) (hN : N ≤ w.heap.size) (o : Obj) : Att (w.alloc o) (w.alloc o).heap.size x := ((h.more hN).below (below_new w o)).more (by simp)

set_option maxRecDepth 100000 in
set_option maxHeartbeats 1000000 in
theorem appendMoved_any (N : Nat) (v0 : Value) (acc0 : List Cw) (A : Option Addr) (c : Nat) (l : List Cw) (d : Int) (w : World) (hN : N ≤ w.heap.size) (hown0 : Ow N w v0 acc0) (hfr0 : ∀ x ∈ acc0, Fr N w x) (hacc0 : acc0.length ≤ 1000000) (hr : Rr w N A l) (hc : l.length ≤ c) (hm : l.length ≤ 1000000) (hf : Few (ros l)) (hd : Fits d (ros l)) :
    Calls Tryz.prog 35 #[v0, .slice A l.length c, .int .i64 d] w fun e w' => ∃ v l', e = .returned v ∧ Ow N w' v l' ∧ (∀ x ∈ l', Fr N w' x) ∧ ros l' = ros acc0 ++ deeper d (ros l) ∧ Below N w w' := by
  go_enter Tryz.func35, Tryz.ntmps35
  go_wp2
  go_loopw [0, 11] (fun v i wr => ∃ (k : Nat) (acc : List Cw), i = .int .i64 k ∧ k ≤ l.length ∧ acc.length = acc0.length + k ∧ Ow N wr v acc ∧ (∀ x ∈ acc, Fr N wr x) ∧ ros acc = ros acc0 ++ deeper d (ros (l.take k)) ∧ Below N w wr) (fun _ i _ => l.length - (intOf i).toNat)
  case atStart => exact ⟨0, acc0, rfl, by omega, rfl, hown0, hfr0, by rw [List.take_zero]; exact (List.append_nil _).symm, Below.refl _ _⟩
  case round =>
    clear hown0 hfr0
    obtain ⟨k, acc, rfl, hk, hal, hown, hfr, hros, hbel⟩ := hrel
    have hsz : N ≤ wr.heap.size := Nat.le_trans hN hbel.size
    by_cases hp : k < l.length
    · obtain ⟨b, off, x, rfl, hb, hdx, hx, hxa, hxm⟩ := (hr.below hbel).at_ k hp
      have hfew : x.ro.attrs.length ≤ 2000000 := Nat.le_trans (hf.at_ hxm) (by decide)
      obtain ⟨hw1, hw2⟩ := hd.at_ hxm
      have hs : ros acc ++ [{ x.ro with depth := x.ro.depth + d }] = ros acc0 ++ deeper d (ros (l.take (k + 1))) := by
        rw [hros, List.take_add_one, getElem_of_drop hdx, ros_append, List.append_assoc, ← deeper_snoc]
        rfl
      have HS := Lib.hid hs
      have HOW := Lib.hid hown; have HFR := Lib.hid hfr
      have HAT : Hid (Att (wr.alloc (rowO (deep1 d x))) (wr.alloc (rowO (deep1 d x))).heap.size (deep1 d x)) := Lib.hid ((show Att wr N (deep1 d x) from hxa).boxN hsz (rowO (deep1 d x)))
      have hacc : acc.length ≤ 2000000 := by omega
      have HAL := Lib.hid hal
      clear hros hdx hs hown hfr hxa hal
      go_wp2_with (first
        | (refine wpList_load_mid rfl 34 (.tmp 13) rfl b (off + k * 5) rfl _ _ hx Tryz.underlying34 rfl size_row ?_)
        | (at_builtin; refine app_attrs _ rfl (.const (.slice none 0 0)) (.tmp 21) rfl (wr.heap.size + 1) (.slice none 0 0) (deep1 d x) rfl (World.ownsRow_nil _ _ _ _) rfl HAT.out hfew (by simp) ?_; intro A' c' w2 hf2 hg2
           obtain ⟨q0, q1, q2, q3, q4, q5, hb2⟩ := box_block (after_attrs0 (w := wr) (o := rowO (deep1 d x)) hg2)
           have HF2 := Lib.hid hf2; have HB2 := Lib.hid hb2
           clear hf2 hb2 hg2)
        | (at_builtin; refine app_row _ rfl (.tmp 24) (.tmp 26) rfl N _ acc (deep2 d x A' c') rfl (copied hsz HB2.out HF2.out HOW.out HFR.out _).1 (copied hsz HB2.out HF2.out HOW.out HFR.out _).2.2.1 (copied hsz HB2.out HF2.out HOW.out HFR.out _).2.2.2.1 w2.heap.size (by simp) rfl hacc (copied hsz HB2.out HF2.out HOW.out HFR.out _).2.2.2.2.2.1 ?_; intro v3 w3 ho3 hk3 hf3))
      go_roundw
      case rel =>
        have C := copied hsz HB2.out HF2.out HOW.out HFR.out (.slice A' x.ro.attrs.length c')
        exact ⟨k + 1, acc ++ [deep2 d x A' c'], by go_num, by omega, by rw [List.length_append, HAL.out]; rfl, ho3, fun z hz => (by
          rcases List.mem_append.1 hz with h | h
          · exact hf3 z (C.2.1 z h)
          · obtain rfl := List.mem_singleton.1 h
            exact hf3 _ C.2.2.2.2.1), by rw [ros_append]; exact HS.out, hk3 w (hbel.trans (C.2.2.2.2.2.2.mono hsz))⟩
      case measure => simp [intOf]; omega
    · rw [List.take_of_length_le (by omega)] at hros
      have HR := Lib.hid hros
      clear hros
      go_wp2
      go_ret
      exact ⟨_, acc, rfl, hown, hfr, HR.out, hbel⟩

theorem Few.append {a b : List Ro} (ha : Few a) (hb : Few b) : Few (a ++ b) := fun x hx => (List.mem_append.1 hx).elim (ha x) (hb x)
theorem Few.deeper {a : List Ro} (ha : Few a) (d : Int) : Few (deeper d a) := fun x hx => by
  obtain ⟨y, hy, rfl⟩ := List.mem_map.1 hx
  exact ha y hy
theorem deeper_zero (l : List Ro) : deeper 0 l = l := by
  unfold deeper
  rw [List.map_congr_left (g := id) fun x _ => by simp]
  exact List.map_id l
/-- Depths that an int64 holds. -/
def Held (l : List Ro) : Prop := ∀ x ∈ l, -9223372036854775808 ≤ x.depth ∧ x.depth ≤ 9223372036854775807
theorem Held.fits {l : List Ro} (h : Held l) : Fits 0 l := fun x hx => by have := h x hx; omega
theorem Held.append {a b : List Ro} (ha : Held a) (hb : Held b) : Held (a ++ b) := fun x hx => (List.mem_append.1 hx).elim (ha x) (hb x)
theorem Fits.held {d : Int} {l : List Ro} (h : Fits d l) : Held (deeper d l) := fun x hx => by
  obtain ⟨y, hy, rfl⟩ := List.mem_map.1 hx
  exact h y hy
theorem Few.drop {l : List Ro} (h : Few l) (k : Nat) : Few (l.drop k) := fun x hx => h x (List.mem_of_mem_drop hx)
theorem Few.take {l : List Ro} (h : Few l) (k : Nat) : Few (l.take k) := fun x hx => h x (List.mem_of_mem_take hx)
theorem Held.drop {l : List Ro} (h : Held l) (k : Nat) : Held (l.drop k) := fun x hx => h x (List.mem_of_mem_drop hx)
theorem Held.take {l : List Ro} (h : Held l) (k : Nat) : Held (l.take k) := fun x hx => h x (List.mem_of_mem_take hx)
theorem Fits.drop {d : Int} {l : List Ro} (h : Fits d l) (k : Nat) : Fits d (l.drop k) := fun x hx => h x (List.mem_of_mem_drop hx)
theorem Fits.take {d : Int} {l : List Ro} (h : Fits d l) (k : Nat) : Fits d (l.take k) := fun x hx => h x (List.mem_of_mem_take hx)

end Go.Proofs.YtenmlpfjeohkiaaGreatDoor.Ro

namespace Go.Proofs.YtenmlpfjeohkiaaGreatDoor.Ro
set_option maxRecDepth 100000
set_option linter.unusedVariables false
set_option linter.unusedSimpArgs false
open Go.RowKit Ba
theorem Ra.take {w : World} {N : Nat} {A : Option Addr} {l : List At} (h : Ra w N A l) (k : Nat) : Ra w N A (l.take k) := fun h0 => by
  rw [List.length_take] at h0
  obtain ⟨b, off, e, hb, hc⟩ := h (by omega)
  refine ⟨b, off, e, hb, fun j hj => ?_⟩
  rw [List.length_take] at hj
  rw [List.getElem_take]
  exact hc j (by omega)
abbrev cut (x : Cw) (ys : List At) : Cw := ⟨⟨x.ro.depth, x.ro.kind, x.ro.name, x.ro.data, ys⟩, x.A, x.c⟩
theorem Att.cut {w : World} {N : Nat} {x : Cw} (h : Att w N x) : Att w N (cut x (x.ro.attrs.take 8)) :=
  ⟨Nat.le_trans (List.length_take_le' _ _) h.1, h.2.1, h.2.2.1, h.2.2.2.1.take 8, fun a ha => h.2.2.2.2 a (List.mem_of_mem_take ha)⟩
theorem min_any (x : Nat) (m : Nat) (M : Int) (hM : M = m) (y : Nat) (hy : y = min x m) (w : World) : ∀ ts t, (Builtin.min_ ts t #[.int .i64 x, .int .i64 M]).run Tryz.prog w = .ok (.int .i64 y) w := by
  intro ts t
  rw [run_min_int2, hy]
  congr 2
  split <;> omega

end Go.Proofs.YtenmlpfjeohkiaaGreatDoor.Ro

namespace Go.Proofs.YtenmlpfjeohkiaaGreatDoor.Ro
set_option maxRecDepth 100000
set_option linter.unusedVariables false
set_option linter.unusedSimpArgs false
open Go.RowKit Ba
theorem txt_at {l : List Cw} {k : Nat} {x : Cw} (h : l.drop k = x :: l.drop (k + 1)) : txt (ros (l.take (k + 1))) = txt (ros (l.take k)) ++ txt [x.ro] := by
  rw [take_at h, ros_append, txt_append]
  rfl

set_option maxRecDepth 100000 in
theorem joined_any (A : Option Addr) (c : Nat) (l : List Cw) (w : World) (hr : Rr w w.heap.size A l) (hc : l.length ≤ c) (hm : l.length ≤ 1000000) (ht : (txt (ros l)).length ≤ 1000000000) :
    Calls Tryz.prog 37 #[.slice A l.length c] w fun e w' => e = .returned (.string (B (txt (ros l)))) ∧ Below w.heap.size w w' := by
  go_enter Tryz.func37, Tryz.ntmps37
  go_wp2
  go_loopw [3, 8] (fun v i wr => ∃ k : Nat, i = .int .i64 k ∧ k ≤ l.length ∧ OwnB w.heap.size wr v (txt (ros (l.take k))) ∧ Below w.heap.size w wr) (fun _ i _ => l.length - (intOf i).toNat)
  case atStart => exact ⟨0, rfl, by omega, OwnB.nil _ _, Below.refl _ _⟩
  case round =>
    obtain ⟨k, rfl, hk, hown, hbel⟩ := hrel
    have hsz := hbel.size
    by_cases hp : k < l.length
    · obtain ⟨b, off, x, rfl, hb, hdx, hx, _, _⟩ := (hr.below hbel).at_ k hp
      have htx := txt_at hdx
      have hb1 := hbel.alloc hsz (rowO x)
      cases h1 : x.ro.kind == 1 with
      | true =>
        rw [txt_text (beq_iff_eq.1 h1)] at htx
        have hl2 := congrArg List.length htx
        rw [List.length_append, size_L] at hl2
        have hl3 := txt_take (ros l) (k + 1)
        rw [ros_take] at hl3
        have hle : (txt (ros (l.take k))).length + x.ro.data.size ≤ 140737488355328 := by omega
        have HT := Lib.hid htx; have HO := Lib.hid hown; have HB := Lib.hid hb1; have HL := Lib.hid hle
        clear htx hdx hown hb1 hl2 hl3 hle
        go_wp2_with (first
          | (refine wpList_load_mid rfl 34 (.tmp 10) rfl b (off + k * 5) rfl _ _ hx Tryz.underlying34 rfl size_row ?_)
          | (at_builtin; refine app_strb _ rfl (.tmp 15) (.tmp 17) rfl w.heap.size _ _ x.ro.data rfl (HO.out.alloc _) rfl HL.out (by simp; omega) ?_; intro v3 w3 ho3 hk3))
        go_roundw
        case rel => exact ⟨k + 1, by go_num, by omega, by rw [HT.out]; exact ho3, hk3 w HB.out⟩
        case measure => simp [intOf]; omega
      | false =>
        rw [txt_other (beq_eq_false_iff_ne.1 h1), List.append_nil] at htx
        have HT := Lib.hid htx; have HO := Lib.hid hown; have HB := Lib.hid hb1
        clear htx hdx hown hb1
        go_wp2_with (refine wpList_load_mid rfl 34 (.tmp 10) rfl b (off + k * 5) rfl _ _ hx Tryz.underlying34 rfl size_row ?_)
        go_roundw
        case rel => exact ⟨k + 1, by go_num, by omega, by rw [HT.out]; exact HO.out.alloc _, HB.out⟩
        case measure => simp [intOf]; omega
    · rw [List.take_of_length_le (by omega)] at hown
      have hstr := hown.string
      go_wp2
      go_ret
      exact ⟨rfl, hbel⟩

theorem txt_part (l : List Ro) (f k : Nat) : (txt ((l.take k).drop f)).length ≤ (txt l).length := Nat.le_trans (txt_drop _ _) (txt_take _ _)
end Go.Proofs.YtenmlpfjeohkiaaGreatDoor.Ro

namespace Go.Proofs.YtenmlpfjeohkiaaGreatDoor.Ro
set_option maxRecDepth 100000
set_option linter.unusedVariables false
set_option linter.unusedSimpArgs false
open Go.RowKit Ba
/-- The place behind so many more texts. -/
def j1 (n k : Nat) : Nat := k + 1 + n

set_option maxRecDepth 100000 in
set_option maxHeartbeats 1000000 in
theorem textsEnd_any (A : Option Addr) (c : Nat) (l : List Cw) (j : Nat) (x : Cw) (w : World) (hr : Rr w w.heap.size A l) (hc : l.length ≤ c) (hm : l.length ≤ 1000000) (hx : l.drop j = x :: l.drop (j + 1)) (hj : j < l.length) :
    Calls Tryz.prog 36 #[.slice A l.length c, .int .i64 j] w fun e w' => e = .returned (.int .i64 (j1 (nexts x.ro.depth (ros (l.drop (j + 1)))) j : Nat)) ∧ ∃ n, w' = w.drewN n := by
  obtain ⟨E, hE⟩ : ∃ E, j1 (nexts x.ro.depth (ros (l.drop (j + 1)))) j = E := ⟨_, rfl⟩
  rw [hE]
  obtain ⟨b, off, y, rfl, hb, hdy, hy, _, _⟩ := hr.at_ j hj
  obtain rfl : y = x := by
    rw [hx] at hdy
    injection hdy with e
    exact e.symm
  have hg0 := (range5 hy).1
  have HE := Lib.hid hE
  clear hE hy hdy hx
  go_enter Tryz.func36, Tryz.ntmps36
  go_wp2
  go_loopw [5] (fun v wr => ∃ k : Nat, v = .int .i64 k ∧ k ≤ l.length ∧ k + nexts y.ro.depth (ros (l.drop k)) = E ∧ ∃ n, wr = w.drewN n) (fun v _ => l.length - (intOf v).toNat)
  case atStart => exact ⟨j + 1, by go_num, by omega, HE.out, 0, rfl⟩
  case round =>
    clear HE
    obtain ⟨k, rfl, hk, hv, n, rfl⟩ := hrel
    by_cases hp : k < l.length
    · obtain ⟨b', off', z, e, _, hdz, hz, _, _⟩ := hr.at_ k hp
      injection e with e
      injection e with e1 e2
      subst e1 e2
      have hz0 := (range5 hz).1
      have hz1 := (range5 hz).2.1
      cases h1 : z.ro.kind == 1 with
      | true =>
        cases h2 : z.ro.depth == y.ro.depth with
        | true =>
          have h3 : nexts y.ro.depth (ros (l.drop k)) = nexts y.ro.depth (ros (l.drop (k + 1))) + 1 := take_step hdz (by rw [h1, h2]; rfl)
          rw [h3] at hv
          have HV := Lib.hid hv
          clear hv hz hdz h3
          go_wp2
          go_quiet (fail)
          go_wp2
          go_roundw
          case rel => exact ⟨k + 1, by go_num, by omega, by have := HV.out; omega, _, rfl⟩
          case measure => simp [intOf]; omega
        | false =>
          have h3 : nexts y.ro.depth (ros (l.drop k)) = 0 := take_stop hdz (by rw [h1, h2]; rfl)
          rw [h3] at hv
          have HV := Lib.hid hv
          clear hv hz hdz h3
          go_wp2
          go_quiet (fail)
          go_wp2
          go_ret
          exact ⟨ret_int (by rw [← HV.out]; rfl), _, World.drewN_drewN _ _ _⟩
      | false =>
        have h3 : nexts y.ro.depth (ros (l.drop k)) = 0 := take_stop hdz (by rw [h1]; rfl)
        rw [h3] at hv
        have HV := Lib.hid hv
        clear hv hz hdz h3
        go_wp2
        go_quiet (fail)
        go_wp2
        go_ret
        exact ⟨ret_int (by rw [← HV.out]; rfl), _, World.drewN_drewN _ _ _⟩
    · have hp' : decide (k < l.length) = false := decide_eq_false hp
      rw [List.drop_eq_nil_of_le (by omega)] at hv
      have HV := Lib.hid hv
      clear hv
      go_wp2
      go_quiet (fail)
      go_wp2
      go_ret
      exact ⟨ret_int (by rw [← HV.out]; rfl), _, World.drewN_drewN _ _ _⟩

theorem normal_text {x : Ro} {r : List Ro} (h : x.kind = 1) : normal (x :: r) = (if txt (x :: r.take (nexts x.depth r)) = [] then [] else [⟨x.depth, 1, .empty, B (txt (x :: r.take (nexts x.depth r))), []⟩]) ++ normal (r.drop (nexts x.depth r)) := by
  rw [normal, if_pos h]
theorem normal_other {x : Ro} {r : List Ro} (h : ¬ x.kind = 1) : normal (x :: r) = x :: normal r := by
  rw [normal, if_neg h]
theorem normal_nil : normal [] = [] := by rw [normal]
theorem len_nexts (d : Int) (l : List Ro) : nexts d l ≤ l.length := (List.takeWhile_sublist _).length_le

theorem part_cons {l : List Cw} {k n : Nat} {x : Cw} (h : l.drop k = x :: l.drop (k + 1)) : (l.take (k + 1 + n)).drop k = x :: (l.drop (k + 1)).take n := by
  rw [List.drop_take, h, show k + 1 + n - k = n + 1 from by omega, List.take_succ_cons]
theorem Rr.mids {w : World} {N b off : Nat} {l : List Cw} (h : Rr w N (some ⟨b, off, none⟩) l) (i j cap : Nat) (hij : i ≤ j) (hj : j ≤ l.length) (hc : l.length ≤ cap) (hne : i < cap) :
    Rr w N (some ⟨b, off + i * 5, none⟩) ((l.take j).drop i) := by
  have := h.mid i j cap hij hj hc hne
  rw [Option.map_some, WideShapes.add_plain] at this
  exact this
theorem fr_none (N : Nat) (w : World) (r : Ro) (h : r.attrs = []) : Fr N w ⟨r, none, 0⟩ := by
  refine ⟨?_, by rw [h]; exact fun _ hx => by simp at hx⟩
  show w.ownsRow N _ 2 (.slice none r.attrs.length 0) r.attrs.length (r.attrs.flatMap acells)
  rw [h]
  exact World.ownsRow_nil w N _ 2
abbrev textRow (d : Int) (D : ByteArray) : Cw := ⟨⟨d, 1, .empty, D, []⟩, none, 0⟩

set_option maxRecDepth 100000 in
set_option maxHeartbeats 1000000 in
theorem Normal_any (A : Option Addr) (c : Nat) (l : List Cw) (w : World) (hr : Rr w w.heap.size A l) (hc : l.length ≤ c) (hm : l.length ≤ 1000000) (ht : (txt (ros l)).length ≤ 1000000000) (hf : Few (ros l)) (hh : Held (ros l)) :
    Calls Tryz.prog 18 #[.slice A l.length c] w fun e w' => ∃ v l', e = .returned v ∧ Ow w.heap.size w' v l' ∧ (∀ x ∈ l', Fr w.heap.size w' x) ∧ ros l' = normal (ros l) ∧ Below w.heap.size w w' := by
  obtain ⟨V, hV⟩ : ∃ V, normal (ros l) = V := ⟨_, rfl⟩
  rw [hV]
  have HV := Lib.hid hV
  clear hV
  go_enter Tryz.func18, Tryz.ntmps18
  go_wp2
  go_loopw [3, 4] (fun v i wr => ∃ (k : Nat) (acc : List Cw), i = .int .i64 k ∧ k ≤ l.length ∧ acc.length ≤ k ∧ Ow w.heap.size wr v acc ∧ (∀ x ∈ acc, Fr w.heap.size wr x) ∧ ros acc ++ normal (ros (l.drop k)) = V ∧ Below w.heap.size w wr) (fun _ i _ => l.length - (intOf i).toNat)
  case atStart => exact ⟨0, [], rfl, by omega, by simp, Ow.nil _ _, fun _ h => by simp at h, HV.out, Below.refl _ _⟩
  case round =>
    clear HV
    obtain ⟨k, acc, rfl, hk, hal, hown, hfr, hros, hbel⟩ := hrel
    have hsz := hbel.size
    have hrw := hr.below hbel
    by_cases hp : k < l.length
    · obtain ⟨b, off, x, hA, hb, hdx, hx, hxa, hxm⟩ := hrw.at_ k hp
      have g0 := (range5 hx).1
      have g1 := (range5 hx).2.1
      rw [hdx, ros_cons] at hros
      subst hA
      cases h1 : x.ro.kind == 1 with
      | false =>
        have h1' : (x.ro.kind != 1) = true := by rw [bne, h1]; rfl
        rw [normal_other (beq_eq_false_iff_ne.1 h1)] at hros
        have hpart := hrw.mids k (k + 1) c (by omega) (by omega) hc (by omega)
        have e : (l.take (k + 1)).drop k = [x] := by rw [show k + 1 = k + 1 + 0 from rfl, part_cons hdx]; rfl
        rw [e] at hpart
        have HP := Lib.hid hpart; have HO := Lib.hid hown; have HF := Lib.hid hfr; have HR := Lib.hid hros
        have hfx : Few (ros [x]) := fun z hz => by
          obtain rfl := List.mem_singleton.1 hz
          exact hf.at_ hxm
        have hhx : Held (ros [x]) := fun z hz => by
          obtain rfl := List.mem_singleton.1 hz
          exact hh _ (List.mem_map.2 ⟨x, hxm, rfl⟩)
        clear hpart hown hfr hros hrw e hdx hx hxa
        have HFX := Lib.hid hfx; have HHX := Lib.hid hhx
        clear hfx hhx
        have hal2 : acc.length ≤ 1000000 := by omega
        go_wp2_with fail
        refine (appendMoved_any w.heap.size _ acc _ (c - k) [x] 0 wr hsz HO.out HF.out hal2 HP.out (by simp; omega) (by simp) HFX.out HHX.out.fits).mono ?_
        rintro e w2 ⟨v2, l2, rfl, ho2, hf2, hr2, hb2⟩
        rw [deeper_zero] at hr2
        have HO2 := Lib.hid ho2; have HF2 := Lib.hid hf2; have HR2 := Lib.hid hr2; have HB2 := Lib.hid hb2
        clear ho2 hf2 hr2 hb2
        go_wp2
        go_roundw
        case rel =>
          have hl2 : l2.length = acc.length + 1 := by rw [← len_ros, HR2.out, List.length_append, len_ros]; rfl
          exact ⟨k + 1, l2, by go_num, by omega, by omega, HO2.out, HF2.out, by rw [HR2.out, List.append_assoc]; exact HR.out, hbel.trans HB2.out⟩
        case measure => simp [intOf]; omega
      | true =>
        have h1' : (x.ro.kind != 1) = false := by rw [bne, h1]; rfl
        rw [normal_text (beq_iff_eq.1 h1)] at hros
        obtain ⟨n, hn⟩ : ∃ n, nexts x.ro.depth (ros (l.drop (k + 1))) = n := ⟨_, rfl⟩
        have hnl := len_nexts x.ro.depth (ros (l.drop (k + 1)))
        rw [hn, len_ros, List.length_drop] at hnl
        rw [hn] at hros
        obtain ⟨E, hE⟩ : ∃ E, k + 1 + n = E := ⟨_, rfl⟩
        have hEl : E ≤ l.length := by omega
        have hEk : k < E := by omega
        have hpart := hrw.mids k E c (by omega) hEl hc (by omega)
        have hlen := len_part l k E hEl
        have hpr : ros ((l.take E).drop k) = x.ro :: (ros (l.drop (k + 1))).take n := by rw [← hE, part_cons hdx, ros_cons, ros_take]
        have hte : (txt (ros ((l.take E).drop k))).length ≤ 1000000000 := by rw [ros_part]; exact Nat.le_trans (txt_part _ _ _) ht
        rw [← hpr, ros_drop, List.drop_drop, hE] at hros
        have hee : j1 (nexts x.ro.depth (ros (l.drop (k + 1)))) k = E := by rw [hn, ← hE]; rfl
        obtain ⟨m, hm1⟩ : ∃ m, (l.take E).drop k = m := ⟨_, rfl⟩
        rw [hm1] at hpart hlen hte hros
        obtain ⟨D, hD⟩ : ∃ D, B (txt (ros m)) = D := ⟨_, rfl⟩
        rw [hD] at hros
        have HP := Lib.hid hpart; have HO := Lib.hid hown; have HF := Lib.hid hfr; have HL := Lib.hid hlen; have HD := Lib.hid hD; have HTE := Lib.hid hte; have HEE := Lib.hid hee; have HRW := Lib.hid hrw; have HDX := Lib.hid hdx
        have hal2 : acc.length ≤ 1000000 := by omega
        have hmc : m.length ≤ c - k := by omega
        have hmm : m.length ≤ 1000000 := by omega
        cases hte0 : txt (ros m) with
        | nil =>
          rw [if_pos hte0, List.nil_append] at hros
          have hDl : D.toList = [] := by rw [← hD, toList_B, hte0]
          have hDe : D.toList.isEmpty = true := by rw [hDl]; rfl
          have HR := Lib.hid hros
          clear hpart hown hfr hlen hte hee hrw hdx hm1 hE hn hx hxa hros hte0 hD hpr
          go_wp2_with fail
          refine (textsEnd_any _ c l k x wr (HRW.out.more hsz) hc hm HDX.out hp).mono ?_
          rintro e w1 ⟨rfl, nd, rfl⟩
          rw [HEE.out]
          go_wp2_with fail
          rw [← HL.out]
          refine (joined_any _ (c - k) m (wr.drewN nd) (by exact HP.out.more hsz) hmc hmm HTE.out).mono ?_
          rintro e w2 ⟨rfl, hb2⟩
          rw [HD.out]
          have HB2 : Hid (Below wr.heap.size wr w2) := Lib.hid ((below_dN (Below.refl _ wr) nd).trans hb2)
          clear hb2
          go_wp2
          go_roundw
          case rel => exact ⟨E, acc, rfl, by omega, by omega, HO.out.below HB2.out, fun z hz => (HF.out z hz).below HB2.out, HR.out, hbel.trans (HB2.out.mono hsz)⟩
          case measure => simp [intOf]; omega
        | cons u us =>
          rw [if_neg (by rw [hte0]; exact fun h => by cases h)] at hros
          have hDl : ¬ D.toList = [] := by rw [← hD, toList_B, hte0]; exact fun h => by cases h
          have hDe : D.toList.isEmpty = false := by rw [← hD, toList_B, hte0]; rfl
          have HR := Lib.hid hros
          clear hpart hown hfr hlen hte hee hrw hdx hm1 hE hn hx hxa hros hte0 hD hpr
          go_wp2_with fail
          refine (textsEnd_any _ c l k x wr (HRW.out.more hsz) hc hm HDX.out hp).mono ?_
          rintro e w1 ⟨rfl, nd, rfl⟩
          rw [HEE.out]
          go_wp2_with fail
          rw [← HL.out]
          refine (joined_any _ (c - k) m (wr.drewN nd) (by exact HP.out.more hsz) hmc hmm HTE.out).mono ?_
          rintro e w2 ⟨rfl, hb2⟩
          rw [HD.out]
          have HB2 : Hid (Below wr.heap.size wr w2) := Lib.hid ((below_dN (Below.refl _ wr) nd).trans hb2)
          clear hb2
          have hgd : w2.cell? ⟨b, off + k * 5, none⟩ = some (.int .i64 x.ro.depth) := (HB2.out.cell (p := ⟨b, off + k * 5, none⟩) (Nat.lt_of_lt_of_le hb hsz)).trans g0
          have hsz2 := Nat.le_trans hsz HB2.out.size
          have HFN : Hid (Fr w.heap.size w2 (textRow x.ro.depth D)) := Lib.hid (fr_none _ _ _ rfl)
          have hal3 : acc.length ≤ 2000000 := by omega
          go_wp2_with (at_builtin; refine app_row w2 rfl (.tmp 36) (.tmp 44) rfl w.heap.size _ acc (textRow x.ro.depth D) rfl (HO.out.below HB2.out) HFN.out.att HFN.out.ap w2.heap.size rfl rfl hal3 hsz2 ?_; intro v3 w3 ho3 hk3 hf3)
          go_roundw
          case rel =>
            refine ⟨E, acc ++ [textRow x.ro.depth D], rfl, by omega, by simp; omega, ho3, fun z hz => ?_, by rw [ros_append, List.append_assoc]; exact HR.out, hk3 w (hbel.trans (HB2.out.mono hsz))⟩
            rcases List.mem_append.1 hz with h | h
            · exact hf3 z ((HF.out z h).below HB2.out)
            · obtain rfl := List.mem_singleton.1 h
              exact fr_none _ _ _ rfl
          case measure => simp [intOf]; omega
    · rw [List.drop_eq_nil_of_le (by omega)] at hros
      have HR := Lib.hid hros
      clear hros hrw
      go_wp2
      go_ret
      exact ⟨_, acc, rfl, hown, hfr, by rw [← HR.out, show ros [] = [] from rfl, normal_nil, List.append_nil], hbel⟩

end Go.Proofs.YtenmlpfjeohkiaaGreatDoor.Ro

namespace Go.Proofs.YtenmlpfjeohkiaaGreatDoor.Ro
set_option linter.unusedVariables false
set_option linter.unusedSimpArgs false
open Go.RowKit Ba
theorem Ow.pos {N : Nat} {w : World} {v : Value} {init : List Cw} {y : Cw} (h : Ow N w v (init ++ [y])) :
    ∃ g cap, v = .slice (some ⟨g, 0, none⟩) (init.length + 1) cap ∧ init.length + 1 ≤ cap ∧ cap ≤ maxLen ∧ N ≤ g ∧ g < w.heap.size ∧ w.rangeAt g (init.length * 5) (cells y) := by
  have hl : (init ++ [y]).length = init.length + 1 := by simp
  obtain ⟨A, c, hv, h1, h2, _, h4⟩ := h.form
  rcases h.1.2 with ⟨_, hn⟩ | ⟨g, cap, cur, hv', hg, hh, hn, hm, _⟩
  · omega
  · rw [hl] at hv' hn
    refine ⟨g, cap, hv', hn, hm, hg, (Array.getElem?_eq_some_iff.1 hh).1, ?_⟩
    obtain ⟨b, off, e, _, hc⟩ := h4.1 (by omega)
    rw [hv', hl] at hv
    injection hv with e1
    rw [← e1] at e
    injection e with e
    injection e with e2 e3
    subst e2 e3
    have := hc init.length (by omega)
    rw [Nat.zero_add] at this
    simpa using this

end Go.Proofs.YtenmlpfjeohkiaaGreatDoor.Ro

namespace Go.Proofs.YtenmlpfjeohkiaaGreatDoor.Ro
set_option maxRecDepth 100000
set_option linter.unusedVariables false
set_option linter.unusedSimpArgs false
open Go.RowKit Ba
theorem At.eta (a b : At) (h : ¬ a = b) : ¬ a.name = b.name ∨ (a.name = b.name ∧ ¬ a.value = b.value) := by
  by_cases hn : a.name = b.name
  · exact .inr ⟨hn, fun hv => h (by cases a; cases b; simp_all)⟩
  · exact .inl hn
theorem neq_L {a b : ByteArray} (h : ¬ a = b) : ¬ a.toList = b.toList := fun e => h (L_inj (by rw [← toList_L, ← toList_L, e]))
theorem dec_cons {α : Type} [DecidableEq α] {x y : α} {r s : List α} {V : Bool} (h : decide (x :: r = y :: s) = V) : (x = y → decide (r = s) = V) ∧ (¬ x = y → V = false) := by
  constructor
  · intro e
    rw [← h, e]
    simp
  · intro e
    rw [← h]
    exact decide_eq_false fun e2 => e (by injection e2)

set_option maxRecDepth 100000 in
set_option maxHeartbeats 1000000 in
theorem sameAttrs_any (A B : Option Addr) (ca cb : Nat) (xs ys : List At) (w : World) (hra : Ra w w.heap.size A xs) (hrb : Ra w w.heap.size B ys) (hca : xs.length ≤ ca) (hcb : ys.length ≤ cb) (hma : ca ≤ maxLen) (hmb : cb ≤ maxLen) :
    Calls Tryz.prog 60 #[.slice A xs.length ca, .slice B ys.length cb] w fun e w' => e = .returned (.bool (decide (xs = ys))) ∧ ∃ n, w' = w.drewN n := by
  unfold maxLen at hma hmb
  by_cases hlen : xs.length = ys.length
  · obtain ⟨V, hV⟩ : ∃ V, decide (xs = ys) = V := ⟨_, rfl⟩
    rw [hV]
    have hne : ((xs.length : Int) != (ys.length : Int)) = false := by rw [hlen]; simp
    have HV := Lib.hid hV; have HL := Lib.hid hlen
    clear hV hlen
    go_enter Tryz.func60, Tryz.ntmps60
    go_wp2
    go_loopw [13] (fun i wr => ∃ k : Nat, i = .int .i64 k ∧ k ≤ xs.length ∧ decide (xs.drop k = ys.drop k) = V ∧ ∃ n, wr = w.drewN n) (fun i _ => xs.length - (intOf i).toNat)
    case atStart => exact ⟨0, rfl, by omega, HV.out, 0, rfl⟩
    case round =>
      clear HV
      obtain ⟨k, rfl, hk, hv, n, rfl⟩ := hrel
      by_cases hp : k < xs.length
      · obtain ⟨b1, o1, x, rfl, _, hdx, hx, _⟩ := hra.at_ k hp
        have hp2 : k < ys.length := by have := HL.out; omega
        obtain ⟨b2, o2, y, rfl, _, hdy, hy, _⟩ := hrb.at_ k hp2
        rw [hdx, hdy] at hv
        obtain ⟨v1, v2⟩ := dec_cons hv
        clear hv hdx hdy
        by_cases hxy : x = y
        · subst hxy
          have HV := Lib.hid (v1 rfl)
          clear v1 v2
          obtain ⟨f1, f2⟩ := range2 hx
          obtain ⟨f3, f4⟩ := range2 hy
          clear hx hy
          go_wp2
          go_quiet (fail)
          go_wp2
          go_roundw
          case rel => exact ⟨k + 1, by go_num, by omega, HV.out, _, rfl⟩
          case measure => simp [intOf]; omega
        · obtain rfl := v2 hxy
          clear v1 v2
          rcases At.eta x y hxy with h | ⟨h, h'⟩
          · have h1 := neq_L h
            clear h hxy
            obtain ⟨f1, f2⟩ := range2 hx
            obtain ⟨f3, f4⟩ := range2 hy
            clear hx hy
            go_wp2
            go_quiet (fail)
            go_wp2
            go_ret
            exact ⟨rfl, _, World.drewN_drewN _ _ _⟩
          · have h1 := neq_L h'
            have h2 : y.name = x.name := h.symm
            rw [h2] at hy
            clear h h' hxy h2
            obtain ⟨f1, f2⟩ := range2 hx
            obtain ⟨f3, f4⟩ := range2 hy
            clear hx hy
            go_wp2
            go_quiet (fail)
            go_wp2
            go_ret
            exact ⟨rfl, _, World.drewN_drewN _ _ _⟩
      · rw [List.drop_eq_nil_of_le (by omega), List.drop_eq_nil_of_le (by have := HL.out; omega)] at hv
        have HV := Lib.hid hv
        clear hv
        go_wp2
        go_ret
        exact ⟨ret_bool (by rw [← HV.out]; rfl), _, rfl⟩
  · have e : decide (xs = ys) = false := decide_eq_false fun e => hlen (by rw [e])
    rw [e]
    have hne : ((xs.length : Int) != (ys.length : Int)) = true := by rw [bne_iff_ne]; omega
    clear e hlen
    go_enter Tryz.func60, Tryz.ntmps60
    go_wp2
    go_ret
    exact ⟨rfl, 0, rfl⟩

set_option maxRecDepth 100000 in
set_option maxHeartbeats 1000000 in
theorem refAttrs_any (A B : Option Addr) (ca cb : Nat) (xs ys : List At) (w : World) (hra : Ra w w.heap.size A xs) (hrb : Ra w w.heap.size B ys) (hca : xs.length ≤ ca) (hcb : ys.length ≤ cb) (hma : ca ≤ maxLen) (hmb : cb ≤ maxLen) :
    Calls Tryz.prog 22 #[.slice A xs.length ca, .slice B ys.length cb] w fun e w' => e = .returned (.bool (decide (xs = ys))) ∧ ∃ n, w' = w.drewN n := by
  unfold maxLen at hma hmb
  by_cases hlen : xs.length = ys.length
  · obtain ⟨V, hV⟩ : ∃ V, decide (xs = ys) = V := ⟨_, rfl⟩
    rw [hV]
    have hne : ((xs.length : Int) != (ys.length : Int)) = false := by rw [hlen]; simp
    have HV := Lib.hid hV; have HL := Lib.hid hlen
    clear hV hlen
    go_enter Tryz.func22, Tryz.ntmps22
    go_wp2
    go_loopw [5] (fun i wr => ∃ k : Nat, i = .int .i64 k ∧ k ≤ xs.length ∧ decide (xs.drop k = ys.drop k) = V ∧ ∃ n, wr = w.drewN n) (fun i _ => xs.length - (intOf i).toNat)
    case atStart => exact ⟨0, rfl, by omega, HV.out, 0, rfl⟩
    case round =>
      clear HV
      obtain ⟨k, rfl, hk, hv, n, rfl⟩ := hrel
      by_cases hp : k < xs.length
      · obtain ⟨b1, o1, x, rfl, _, hdx, hx, _⟩ := hra.at_ k hp
        have hp2 : k < ys.length := by have := HL.out; omega
        obtain ⟨b2, o2, y, rfl, _, hdy, hy, _⟩ := hrb.at_ k hp2
        rw [hdx, hdy] at hv
        obtain ⟨v1, v2⟩ := dec_cons hv
        clear hv hdx hdy
        by_cases hxy : x = y
        · subst hxy
          have HV := Lib.hid (v1 rfl)
          clear v1 v2
          obtain ⟨f1, f2⟩ := range2 hx
          obtain ⟨f3, f4⟩ := range2 hy
          clear hx hy
          go_wp2
          go_quiet (fail)
          go_wp2
          go_roundw
          case rel => exact ⟨k + 1, by go_num, by omega, HV.out, _, rfl⟩
          case measure => simp [intOf]; omega
        · obtain rfl := v2 hxy
          clear v1 v2
          rcases At.eta x y hxy with h | ⟨h, h'⟩
          · have h1 := neq_L h
            clear h hxy
            obtain ⟨f1, f2⟩ := range2 hx
            obtain ⟨f3, f4⟩ := range2 hy
            clear hx hy
            go_wp2
            go_quiet (fail)
            go_wp2
            go_ret
            exact ⟨rfl, _, World.drewN_drewN _ _ _⟩
          · have h1 := neq_L h'
            have h2 : y.name = x.name := h.symm
            rw [h2] at hy
            clear h h' hxy h2
            obtain ⟨f1, f2⟩ := range2 hx
            obtain ⟨f3, f4⟩ := range2 hy
            clear hx hy
            go_wp2
            go_quiet (fail)
            go_wp2
            go_ret
            exact ⟨rfl, _, World.drewN_drewN _ _ _⟩
      · rw [List.drop_eq_nil_of_le (by omega), List.drop_eq_nil_of_le (by have := HL.out; omega)] at hv
        have HV := Lib.hid hv
        clear hv
        go_wp2
        go_ret
        exact ⟨ret_bool (by rw [← HV.out]; rfl), _, rfl⟩
  · have e : decide (xs = ys) = false := decide_eq_false fun e => hlen (by rw [e])
    rw [e]
    have hne : ((xs.length : Int) != (ys.length : Int)) = true := by rw [bne_iff_ne]; omega
    clear e hlen
    go_enter Tryz.func22, Tryz.ntmps22
    go_wp2
    go_ret
    exact ⟨rfl, 0, rfl⟩

end Go.Proofs.YtenmlpfjeohkiaaGreatDoor.Ro

namespace Go.Proofs.YtenmlpfjeohkiaaGreatDoor.Ro
set_option maxRecDepth 100000
set_option linter.unusedVariables false
set_option linter.unusedSimpArgs false
open Go.RowKit Ba
theorem ro_eq (x y : Ro) : decide (x = y) = ((x.depth == y.depth) && ((x.kind == y.kind) && ((x.name.toList == y.name.toList) && ((x.data.toList == y.data.toList) && decide (x.attrs = y.attrs))))) := by
  rw [eq_of_toList, eq_of_toList, Bool.eq_iff_iff]
  cases x
  cases y
  simp

set_option maxRecDepth 100000 in
set_option maxHeartbeats 1000000 in
theorem sameRow_any (x y : Cw) (w : World) (hx : Att w w.heap.size x) (hy : Att w w.heap.size y) :
    Calls Tryz.prog 34 #[rowV x, rowV y] w fun e w' => e = .returned (.bool (decide (x.ro = y.ro))) ∧ Below w.heap.size w w' := by
  have hb : Below w.heap.size w ((w.alloc (rowO x)).alloc (rowO y)) := (below_new w (rowO x)).alloc (by simp) _
  have hax := (hx.2.2.2.1.below hb).more hb.size
  have hay := (hy.2.2.2.1.below hb).more hb.size
  have HB := Lib.hid hb; have HX := Lib.hid hax; have HY := Lib.hid hay
  have c1 := hx.1; have c2 := hx.2.2.1; have c3 := hy.1; have c4 := hy.2.2.1
  rw [ro_eq]
  clear hb hax hay hx hy
  cases h1 : x.ro.depth == y.ro.depth with
  | false =>
    go_enter Tryz.func34, Tryz.ntmps34
    go_wp2
    go_ret
    exact ⟨ret_bool (by simp [h1]), HB.out⟩
  | true =>
  cases h2 : x.ro.kind == y.ro.kind with
  | false =>
    go_enter Tryz.func34, Tryz.ntmps34
    go_wp2
    go_ret
    exact ⟨ret_bool (by simp [h1, h2]), HB.out⟩
  | true =>
  cases h3 : x.ro.name.toList == y.ro.name.toList with
  | false =>
    go_enter Tryz.func34, Tryz.ntmps34
    go_wp2
    go_ret
    exact ⟨ret_bool (by simp [h1, h2, h3]), HB.out⟩
  | true =>
  cases h4 : x.ro.data.toList == y.ro.data.toList with
  | false =>
    go_enter Tryz.func34, Tryz.ntmps34
    go_wp2
    go_ret
    exact ⟨ret_bool (by simp [h1, h2, h3, h4]), HB.out⟩
  | true =>
  go_enter Tryz.func34, Tryz.ntmps34
  go_wp2_with fail
  refine (sameAttrs_any x.A y.A x.c y.c x.ro.attrs y.ro.attrs _ HX.out HY.out c1 c3 c2 c4).mono ?_
  rintro e w1 ⟨rfl, n, rfl⟩
  go_wp2
  go_ret
  exact ⟨ret_bool (by simp [h1, h2, h3, h4]), below_dN HB.out _⟩

theorem ros_drop_eq {l r : List Cw} {k : Nat} {x y : Cw} {V : Bool} (hx : l.drop k = x :: l.drop (k + 1)) (hy : r.drop k = y :: r.drop (k + 1)) (h : decide (ros (l.drop k) = ros (r.drop k)) = V) :
    (x.ro = y.ro → decide (ros (l.drop (k + 1)) = ros (r.drop (k + 1))) = V) ∧ (¬ x.ro = y.ro → V = false) := by
  rw [hx, hy, ros_cons, ros_cons] at h
  exact dec_cons h

set_option maxRecDepth 100000 in
set_option maxHeartbeats 1000000 in
theorem Same_any (A B : Option Addr) (ca cb : Nat) (l r : List Cw) (w : World) (hl : Rr w w.heap.size A l) (hr : Rr w w.heap.size B r) (hca : l.length ≤ ca) (hcb : r.length ≤ cb) (hml : l.length ≤ 1000000) (hmr : r.length ≤ 1000000) :
    Calls Tryz.prog 17 #[.slice A l.length ca, .slice B r.length cb] w fun e w' => e = .returned (.bool (decide (ros l = ros r))) ∧ Below w.heap.size w w' := by
  by_cases hlen : l.length = r.length
  · obtain ⟨V, hV⟩ : ∃ V, decide (ros l = ros r) = V := ⟨_, rfl⟩
    rw [hV]
    have hne : ((l.length : Int) != (r.length : Int)) = false := by rw [hlen]; simp
    have HV := Lib.hid hV; have HL := Lib.hid hlen
    clear hV hlen
    go_enter Tryz.func17, Tryz.ntmps17
    go_wp2
    go_loopw [13] (fun i wr => ∃ k : Nat, i = .int .i64 k ∧ k ≤ l.length ∧ decide (ros (l.drop k) = ros (r.drop k)) = V ∧ Below w.heap.size w wr) (fun i _ => l.length - (intOf i).toNat)
    case atStart => exact ⟨0, rfl, by omega, HV.out, Below.refl _ _⟩
    case round =>
      clear HV
      obtain ⟨k, rfl, hk, hv, hbel⟩ := hrel
      have hsz := hbel.size
      by_cases hp : k < l.length
      · obtain ⟨b1, o1, x, rfl, _, hdx, hx, hxa, _⟩ := (hl.below hbel).at_ k hp
        have hp2 : k < r.length := by have := HL.out; omega
        obtain ⟨b2, o2, y, rfl, _, hdy, hy, hya, _⟩ := (hr.below hbel).at_ k hp2
        obtain ⟨v1, v2⟩ := ros_drop_eq hdx hdy hv
        have HXA := Lib.hid (hxa.more hsz); have HYA := Lib.hid (hya.more hsz)
        have V1 := Lib.hid v1; have V2 := Lib.hid v2
        obtain ⟨f0, f1, f2, f3, f4⟩ := range5 hx
        obtain ⟨g0, g1, g2, g3, g4⟩ := range5 hy
        clear hv hdx hdy hxa hya v1 v2 hx hy
        by_cases hxy : x.ro = y.ro
        · have HV := Lib.hid (V1.out hxy)
          have HE := Lib.hid hxy
          clear hxy
          go_wp2
          go_still_tail 8, (by kernel_rfl)
          change wpList _ _ _ _ _ wr.drew
          obtain ⟨w2, hw2⟩ : ∃ w2, wr.drew = w2 := ⟨_, rfl⟩
          have hxa2 : Att w2 w2.heap.size x := hw2 ▸ HXA.out
          have hya2 : Att w2 w2.heap.size y := hw2 ▸ HYA.out
          have hb2 : Below w.heap.size w w2 := hw2 ▸ below_dN hbel 1
          rw [hw2]
          have HXA2 := Lib.hid hxa2; have HYA2 := Lib.hid hya2; have HB2 := Lib.hid hb2
          clear hw2 hxa2 hya2 hb2
          go_wp2_with fail
          refine (sameRow_any x y w2 HXA2.out HYA2.out).mono ?_
          rintro e w3 ⟨rfl, hb3⟩
          rw [decide_eq_true HE.out]
          go_wp2
          go_roundw
          case rel => exact ⟨k + 1, by go_num, by omega, HV.out, HB2.out.trans (hb3.mono HB2.out.size)⟩
          case measure => simp [intOf]; omega
        · obtain rfl := V2.out hxy
          have HE := Lib.hid hxy
          clear hxy
          go_wp2
          go_still_tail 8, (by kernel_rfl)
          change wpList _ _ _ _ _ wr.drew
          obtain ⟨w2, hw2⟩ : ∃ w2, wr.drew = w2 := ⟨_, rfl⟩
          have hxa2 : Att w2 w2.heap.size x := hw2 ▸ HXA.out
          have hya2 : Att w2 w2.heap.size y := hw2 ▸ HYA.out
          have hb2 : Below w.heap.size w w2 := hw2 ▸ below_dN hbel 1
          rw [hw2]
          have HXA2 := Lib.hid hxa2; have HYA2 := Lib.hid hya2; have HB2 := Lib.hid hb2
          clear hw2 hxa2 hya2 hb2
          go_wp2_with fail
          refine (sameRow_any x y w2 HXA2.out HYA2.out).mono ?_
          rintro e w3 ⟨rfl, hb3⟩
          rw [decide_eq_false HE.out]
          go_wp2
          go_ret
          exact ⟨rfl, HB2.out.trans (hb3.mono HB2.out.size)⟩
      · rw [List.drop_eq_nil_of_le (by omega), List.drop_eq_nil_of_le (by have := HL.out; omega)] at hv
        have HV := Lib.hid hv
        clear hv
        go_wp2
        go_ret
        exact ⟨ret_bool (by rw [← HV.out]; rfl), hbel⟩
  · have e : decide (ros l = ros r) = false := decide_eq_false fun e => hlen (by rw [← len_ros, e, len_ros])
    rw [e]
    have hne : ((l.length : Int) != (r.length : Int)) = true := by rw [bne_iff_ne]; omega
    clear e hlen
    go_enter Tryz.func17, Tryz.ntmps17
    go_wp2
    go_ret
    exact ⟨rfl, Below.refl _ _⟩

end Go.Proofs.YtenmlpfjeohkiaaGreatDoor.Ro

namespace Go.Proofs.YtenmlpfjeohkiaaGreatDoor.Ro
set_option maxRecDepth 100000
set_option linter.unusedVariables false
set_option linter.unusedSimpArgs false
open Go.RowKit Ba
theorem two_boxes (w : World) (x y : Cw) : ((w.alloc (rowO x)).alloc (rowO y)).drew.rangeAt w.heap.size 0 (cells x) ∧ ((w.alloc (rowO x)).alloc (rowO y)).drew.rangeAt (w.heap.size + 1) 0 (cells y) ∧ Below w.heap.size w ((w.alloc (rowO x)).alloc (rowO y)).drew := by
  have hb : Below w.heap.size w ((w.alloc (rowO x)).alloc (rowO y)) := (below_new w (rowO x)).alloc (by simp) _
  refine ⟨fun j v hv => ?_, fun j v hv => ?_, below_dN hb 1⟩
  · rw [Nat.zero_add]
    refine Eq.trans ?_ hv
    exact (World.cell?_alloc_lt _ _ ⟨w.heap.size, j, none⟩ (by simp)).trans (box_at w x j)
  · rw [Nat.zero_add]
    refine Eq.trans ?_ hv
    have e : w.heap.size + 1 = (w.alloc (rowO x)).heap.size := by simp
    rw [e]
    exact box_at (w.alloc (rowO x)) y j
theorem range5z {w : World} {b : Nat} {x : Cw} (h : w.rangeAt b 0 (cells x)) : w.cell? ⟨b, 0, none⟩ = some (.int .i64 x.ro.depth) ∧ w.cell? ⟨b, 1, none⟩ = some (.int .i64 x.ro.kind) ∧ w.cell? ⟨b, 2, none⟩ = some (.string x.ro.name) ∧ w.cell? ⟨b, 3, none⟩ = some (.string x.ro.data) ∧ w.cell? ⟨b, 4, none⟩ = some (.slice x.A x.ro.attrs.length x.c) :=
  ⟨h 0 _ rfl, h 1 _ rfl, h 2 _ rfl, h 3 _ rfl, h 4 _ rfl⟩

set_option maxRecDepth 100000 in
set_option maxHeartbeats 1000000 in
theorem refSame_any (A B : Option Addr) (ca cb : Nat) (l r : List Cw) (w : World) (hl : Rr w w.heap.size A l) (hr : Rr w w.heap.size B r) (hca : l.length ≤ ca) (hcb : r.length ≤ cb) (hml : l.length ≤ 1000000) (hmr : r.length ≤ 1000000) :
    Calls Tryz.prog 11 #[.slice A l.length ca, .slice B r.length cb] w fun e w' => e = .returned (.bool (decide (ros l = ros r))) ∧ Below w.heap.size w w' := by
  by_cases hlen : l.length = r.length
  · obtain ⟨V, hV⟩ : ∃ V, decide (ros l = ros r) = V := ⟨_, rfl⟩
    rw [hV]
    have hne : ((l.length : Int) != (r.length : Int)) = false := by rw [hlen]; simp
    have HV := Lib.hid hV; have HL := Lib.hid hlen
    clear hV hlen
    go_enter Tryz.func11, Tryz.ntmps11
    go_wp2
    go_loopw [5] (fun i wr => ∃ k : Nat, i = .int .i64 k ∧ k ≤ l.length ∧ decide (ros (l.drop k) = ros (r.drop k)) = V ∧ Below w.heap.size w wr) (fun i _ => l.length - (intOf i).toNat)
    case atStart => exact ⟨0, rfl, by omega, HV.out, Below.refl _ _⟩
    case round =>
      clear HV
      obtain ⟨k, rfl, hk, hv, hbel⟩ := hrel
      have hsz := hbel.size
      by_cases hp : k < l.length
      · obtain ⟨b1, o1, x, rfl, _, hdx, hx, hxa, _⟩ := (hl.below hbel).at_ k hp
        have hp2 : k < r.length := by have := HL.out; omega
        obtain ⟨b2, o2, y, rfl, _, hdy, hy, hya, _⟩ := (hr.below hbel).at_ k hp2
        obtain ⟨v1, v2⟩ := ros_drop_eq hdx hdy hv
        have HXA := Lib.hid (hxa.more hsz); have HYA := Lib.hid (hya.more hsz)
        have V1 := Lib.hid v1; have V2 := Lib.hid v2
        obtain ⟨f0, f1, f2, f3, f4⟩ := range5 hx
        obtain ⟨g0, g1, g2, g3, g4⟩ := range5 hy
        clear hv hdx hdy hxa hya v1 v2 hx hy
        have ef0 := World.new_ne wr _ f0
        have eg0 := World.new_ne wr _ g0
        go_upto_region 6 with (fail)
        go_cut [6, 7] from 13 to 60 (fun s6 s7 wx => ∃ g h, s6 = .pointer (some ⟨g, 0, none⟩) ∧ s7 = .pointer (some ⟨h, 0, none⟩) ∧ wx.rangeAt g 0 (cells x) ∧ wx.rangeAt h 0 (cells y) ∧ Below wr.heap.size wr wx)
        case first =>
          go_region_held3 (fun w' => w'.cell? ⟨b1, o1 + k * 5, none⟩ = some (.int .i64 x.ro.depth) ∧ w'.cell? ⟨b1, o1 + k * 5 + 1, none⟩ = some (.int .i64 x.ro.kind) ∧ w'.cell? ⟨b1, o1 + k * 5 + 2, none⟩ = some (.string x.ro.name) ∧ w'.cell? ⟨b1, o1 + k * 5 + 3, none⟩ = some (.string x.ro.data) ∧ w'.cell? ⟨b1, o1 + k * 5 + 4, none⟩ = some (.slice x.A x.ro.attrs.length x.c) ∧ w'.cell? ⟨b2, o2 + k * 5, none⟩ = some (.int .i64 y.ro.depth) ∧ w'.cell? ⟨b2, o2 + k * 5 + 1, none⟩ = some (.int .i64 y.ro.kind) ∧ w'.cell? ⟨b2, o2 + k * 5 + 2, none⟩ = some (.string y.ro.name) ∧ w'.cell? ⟨b2, o2 + k * 5 + 3, none⟩ = some (.string y.ro.data) ∧ w'.cell? ⟨b2, o2 + k * 5 + 4, none⟩ = some (.slice y.A y.ro.attrs.length y.c)) (go_keep) (first | fail)
          all_goals go_wp2_with fail
          all_goals go_meet
          · obtain ⟨q1, q2, q3⟩ := two_boxes wr x y
            exact ⟨_, _, rfl, rfl, q1, q2, q3⟩
          · obtain ⟨q1, q2, q3⟩ := two_boxes wr y x
            exact ⟨_, _, rfl, rfl, q2, q1, q3⟩
        case rest =>
          obtain ⟨g, h, rfl, rfl, hg, hh, hb2⟩ := hcut
          have HX := Lib.hid ((HXA.out.2.2.2.1.below hb2).more hb2.size); have HY := Lib.hid ((HYA.out.2.2.2.1.below hb2).more hb2.size); have HB := Lib.hid (hbel.trans (hb2.mono hsz))
          have a1 := HXA.out.1; have a2 := HXA.out.2.2.1; have a3 := HYA.out.1; have a4 := HYA.out.2.2.1
          obtain ⟨c0, c1, c2, c3, c4⟩ := range5z hg
          obtain ⟨d0, d1, d2, d3, d4⟩ := range5z hh
          clear hg hh hb2 f0 f1 f2 f3 f4 g0 g1 g2 g3 g4 ef0 eg0
          cases h1 : x.ro.depth == y.ro.depth with
          | false =>
            obtain rfl := V2.out (fun e => by rw [e] at h1; simp at h1)
            have n1 : (x.ro.depth != y.ro.depth) = true := by rw [bne, h1]; rfl
            go_wp2
            go_ret
            exact ⟨rfl, HB.out⟩
          | true =>
          have n1 : (x.ro.depth != y.ro.depth) = false := by rw [bne, h1]; rfl
          cases h2 : x.ro.kind == y.ro.kind with
          | false =>
            obtain rfl := V2.out (fun e => by rw [e] at h2; simp at h2)
            have n2 : (x.ro.kind != y.ro.kind) = true := by rw [bne, h2]; rfl
            go_wp2
            go_ret
            exact ⟨rfl, HB.out⟩
          | true =>
          have n2 : (x.ro.kind != y.ro.kind) = false := by rw [bne, h2]; rfl
          cases h3 : x.ro.name.toList == y.ro.name.toList with
          | false =>
            obtain rfl := V2.out (fun e => by rw [e] at h3; simp at h3)
            go_wp2
            go_ret
            exact ⟨rfl, HB.out⟩
          | true =>
          cases h4 : x.ro.data.toList == y.ro.data.toList with
          | false =>
            obtain rfl := V2.out (fun e => by rw [e] at h4; simp at h4)
            go_wp2
            go_ret
            exact ⟨rfl, HB.out⟩
          | true =>
          by_cases h5 : x.ro.attrs = y.ro.attrs
          · have hxy : x.ro = y.ro := of_decide_eq_true (by rw [ro_eq, h1, h2, h3, h4, decide_eq_true h5]; rfl)
            have HV := Lib.hid (V1.out hxy)
            have H5 := Lib.hid h5
            clear hxy h5
            go_wp2_with fail
            refine (refAttrs_any x.A y.A x.c y.c x.ro.attrs y.ro.attrs wc HX.out HY.out a1 a3 a2 a4).mono ?_
            rintro e w3 ⟨rfl, n, rfl⟩
            rw [decide_eq_true H5.out]
            go_wp2
            go_roundw
            case rel => exact ⟨k + 1, by go_num, by omega, HV.out, below_dN HB.out _⟩
            case measure => simp [intOf]; omega
          · obtain rfl := V2.out (fun e => h5 (by rw [e]))
            have H5 := Lib.hid h5
            clear h5
            go_wp2_with fail
            refine (refAttrs_any x.A y.A x.c y.c x.ro.attrs y.ro.attrs wc HX.out HY.out a1 a3 a2 a4).mono ?_
            rintro e w3 ⟨rfl, n, rfl⟩
            rw [decide_eq_false H5.out]
            go_wp2
            go_ret
            exact ⟨rfl, below_dN HB.out _⟩
      · rw [List.drop_eq_nil_of_le (by omega), List.drop_eq_nil_of_le (by have := HL.out; omega)] at hv
        have HV := Lib.hid hv
        clear hv
        go_wp2
        go_ret
        exact ⟨ret_bool (by rw [← HV.out]; rfl), hbel⟩
  · have e : decide (ros l = ros r) = false := decide_eq_false fun e => hlen (by rw [← len_ros, e, len_ros])
    rw [e]
    have hne : ((l.length : Int) != (r.length : Int)) = true := by rw [bne_iff_ne]; omega
    clear e hlen
    go_enter Tryz.func11, Tryz.ntmps11
    go_wp2
    go_ret
    exact ⟨rfl, Below.refl _ _⟩

end Go.Proofs.YtenmlpfjeohkiaaGreatDoor.Ro

namespace Go.Proofs.YtenmlpfjeohkiaaGreatDoor.Ro
set_option linter.unusedVariables false
set_option linter.unusedSimpArgs false
open Go.RowKit Ba Go.Shelf
attribute [local go_sem] Oper.semAt_some

theorem box_own {W W' : World} {B n : Nat} {t : TypeId} {v : Value} {row : Option Nat} (h : Boxed W B t v) (hg : W.grownBy W' row) (hr : ∀ r, row = some r → n ≤ r ∧ ∃ o : Obj, W.heap[r]? = some o ∧ o.isCells = false) : Boxed W' B t v :=
  h.kept hg fun e => by
    obtain ⟨_, o, ho, hc⟩ := hr B e.symm
    rw [show W.heap[B]? = _ from h] at ho
    cases ho
    cases hc

/-- Where the kid of that number stands, or the next one behind all kids would. -/
def placeAt (l : List Ro) (i at_ : Int) : Int × Bool :=
  if 0 ≤ at_ ∧ at_ < (kids l i).length then (((kids l i)[at_.toNat]?.getD 0 : Nat), true) else (endOf l i, decide (((kids l i).length : Int) = at_))

/-- What the rounds leave: the boxes of the number that is sought, the results, and the count. -/
def Pl (w : World) (at_ : Int) (pre : List Nat) (W : World) : Prop :=
  Boxed W (w.heap.size) 3 (.int .i64 at_) ∧ Boxed W (w.heap.size + 1) 3 (.int .i64 0) ∧ Boxed W (w.heap.size + 1 + 1) 4 (.bool false) ∧ Boxed W (w.heap.size + 1 + 1 + 1) 3 (.int .i64 (pre.length : Nat)) ∧ Below w.heap.size w W ∧ w.heap.size + 1 + 1 + 1 + 1 + 1 + 1 ≤ W.heap.size ∧ ¬ (0 ≤ at_ ∧ at_ < pre.length)
def Px (w : World) (at_ : Int) (c : Code) (pre : List Nat) (W : World) : Prop :=
  c = .ret ∧ ∃ q x, pre = q ++ [x] ∧ at_ = (q.length : Nat) ∧ Boxed W (w.heap.size + 1) 3 (.int .i64 (x : Nat)) ∧ Boxed W (w.heap.size + 1 + 1) 4 (.bool true) ∧ Below w.heap.size w W
theorem Pl.own (w : World) (at_ : Int) (n : Nat) (hn : w.heap.size ≤ n) : OwnFrom n (Pl w at_) := fun s W W' row hs hg hr =>
  ⟨box_own hs.1 hg hr, box_own hs.2.1 hg hr, box_own hs.2.2.1 hg hr, box_own hs.2.2.2.1 hg hr, hs.2.2.2.2.1.grown hg hs.2.2.2.2.1.size (fun k hk => Nat.le_trans hn (hr k hk).1), Nat.le_trans hs.2.2.2.2.2.1 hg.size, hs.2.2.2.2.2.2⟩
theorem Px.own (w : World) (at_ : Int) (c : Code) (n : Nat) (hn : w.heap.size ≤ n) : OwnFrom n (Px w at_ c) := fun s W W' row hs hg hr => by
  obtain ⟨hc, q, x, e1, e2, h1, h2, h3⟩ := hs
  exact ⟨hc, q, x, e1, e2, box_own h1 hg hr, box_own h2 hg hr, h3.grown hg h3.size (fun k hk => Nat.le_trans hn (hr k hk).1)⟩
end Go.Proofs.YtenmlpfjeohkiaaGreatDoor.Ro

namespace Go.Proofs.YtenmlpfjeohkiaaGreatDoor.Ro
set_option linter.unusedVariables false
set_option linter.unusedSimpArgs false
open Go.RowKit Ba
theorem Rn.at_ {w : World} {N : Nat} {A : Option Addr} {l : List Nat} (h : Rn w N A l) (k : Nat) (hk : k < l.length) :
    ∃ b off x, A = some ⟨b, off, none⟩ ∧ b < N ∧ l.drop k = x :: l.drop (k + 1) ∧ w.cell? ⟨b, off + k, none⟩ = some (.int .i64 (x : Nat)) := by
  obtain ⟨b, off, e, hb, hc⟩ := h (by omega)
  exact ⟨b, off, l[k], e, hb, List.drop_eq_getElem_cons hk, hc k hk⟩

end Go.Proofs.YtenmlpfjeohkiaaGreatDoor.Ro

namespace Go.Proofs.YtenmlpfjeohkiaaGreatDoor.Ro
set_option maxRecDepth 100000
set_option linter.unusedVariables false
set_option linter.unusedSimpArgs false
open Go.RowKit Ba
/-- Is it what has the roots, or an element? -/
def elemAt (l : List Ro) (p : Int) : Bool := decide (p = -1) || (decide (0 ≤ p ∧ p < l.length) && decide (((l[p.toNat]?).map (·.kind)).getD 1 = 0))
def put (l : List Ro) (p at_ : Int) (sub : List Ro) : Int × List Ro :=
  if elemAt l p = false then (41, [])
  else if (placeAt l p at_).2 = false then (1, [])
  else if right sub = false then (40, [])
  else if exceeds sub (4096 - l.length) (60 - (dep l p + 1)) = true then (2, [])
  else (0, l.take (placeAt l p at_).1.toNat ++ deeper (dep l p + 1) sub ++ l.drop (placeAt l p at_).1.toNat)

theorem Rr.take {w : World} {N : Nat} {A : Option Addr} {l : List Cw} (h : Rr w N A l) (k : Nat) : Rr w N A (l.take k) := by
  refine ⟨fun h0 => ?_, fun x hx => h.2 x (List.mem_of_mem_take hx)⟩
  rw [List.length_take] at h0
  obtain ⟨b, off, e, hb, hcc⟩ := h.1 (by omega)
  refine ⟨b, off, e, hb, fun j hj => ?_⟩
  rw [List.length_take] at hj
  rw [List.getElem_take]
  exact hcc j (by omega)
theorem Rr.rest {w : World} {N : Nat} {A : Option Addr} {l : List Cw} (h : Rr w N A l) (k cap : Nat) (hk : k ≤ l.length) (hc : l.length ≤ cap) : Rr w N (if cap = k then A else A.map (·.add (k * 5))) (l.drop k) := by
  have := h.part k l.length cap hk (Nat.le_refl _) hc
  rwa [List.take_length] at this
end Go.Proofs.YtenmlpfjeohkiaaGreatDoor.Ro

namespace Go.Proofs.YtenmlpfjeohkiaaGreatDoor.Ro
set_option linter.unusedVariables false
set_option linter.unusedSimpArgs false
open Go.RowKit Ba
theorem Deep.held {l : List Ro} (h : Deep l) : Held l := fun x hx => by have := h x hx; omega

end Go.Proofs.YtenmlpfjeohkiaaGreatDoor.Ro

namespace Go.Proofs.YtenmlpfjeohkiaaGreatDoor.Ro
set_option maxRecDepth 100000
set_option linter.unusedVariables false
set_option linter.unusedSimpArgs false
open Go.RowKit Ba
/-- A value reads as rows. -/
def Rv (w : World) (v : Value) (l : List Cw) : Prop := ∃ A c, v = .slice A l.length c ∧ l.length ≤ c ∧ c ≤ maxLen ∧ Rr w w.heap.size A l ∧ Held (ros l)
theorem Rv.below {w w' : World} {v : Value} {l : List Cw} (h : Rv w v l) (hb : Below w.heap.size w w') : Rv w' v l := by
  obtain ⟨A, c, e, h1, h2, h3, h4⟩ := h
  exact ⟨A, c, e, h1, h2, (h3.below hb).more hb.size, h4⟩
theorem Ow.rv {N : Nat} {w : World} {v : Value} {l : List Cw} (h : Ow N w v l) (hh : Held (ros l)) : Rv w v l := by
  obtain ⟨A, c, e, h1, h2, _, h3⟩ := h.form
  exact ⟨A, c, e, h1, h2, h3, hh⟩
theorem check1 (v : Value) (x : List Cw) (w : World) (q : Int) (h : Rv w v x) (hl : x.length ≤ 1000000) (hq : check (ros x) = q) :
    Calls Tryz.prog 16 #[v] w fun e w' => e = .returned (.int .i64 q) ∧ Below w.heap.size w w' := by
  obtain ⟨A, c, rfl, hc, hm, hr, hh⟩ := h
  subst hq
  exact Check_any A c x w hr hc (by omega)
theorem same1 (a b : Value) (x y : List Cw) (w : World) (q : Bool) (ha : Rv w a x) (hb : Rv w b y) (hx : x.length ≤ 1000000) (hy : y.length ≤ 1000000) (hq : decide (ros x = ros y) = q) :
    Calls Tryz.prog 17 #[a, b] w fun e w' => e = .returned (.bool q) ∧ Below w.heap.size w w' := by
  obtain ⟨A, c, rfl, hc, hm, hr, _⟩ := ha
  obtain ⟨B, d, rfl, hd, hm2, hr2, _⟩ := hb
  subst hq
  exact Same_any A B c d x y w hr hr2 hc hd (by omega) (by omega)
theorem refSame1 (a b : Value) (x y : List Cw) (w : World) (q : Bool) (ha : Rv w a x) (hb : Rv w b y) (hx : x.length ≤ 1000000) (hy : y.length ≤ 1000000) (hq : decide (ros x = ros y) = q) :
    Calls Tryz.prog 11 #[a, b] w fun e w' => e = .returned (.bool q) ∧ Below w.heap.size w w' := by
  obtain ⟨A, c, rfl, hc, hm, hr, _⟩ := ha
  obtain ⟨B, d, rfl, hd, hm2, hr2, _⟩ := hb
  subst hq
  exact refSame_any A B c d x y w hr hr2 hc hd (by omega) (by omega)
theorem normal1 (v : Value) (x : List Cw) (w : World) (q : List Ro) (h : Rv w v x) (hl : x.length ≤ 1000000) (hf : Few (ros x)) (ht : (txt (ros x)).length ≤ 1000000000) (hq : normal (ros x) = q) (hhq : Held q) :
    Calls Tryz.prog 18 #[v] w fun e w' => ∃ u y, e = .returned u ∧ Ow w.heap.size w' u y ∧ (∀ z ∈ y, Fr w.heap.size w' z) ∧ ros y = q ∧ Rv w' u y ∧ Below w.heap.size w w' := by
  obtain ⟨A, c, rfl, hc, hm, hr, hh⟩ := h
  refine (Normal_any A c x w hr hc (by omega) ht hf hh).mono ?_
  rintro e w1 ⟨u, y, rfl, ho, hfr, hy, hb⟩
  rw [hq] at hy
  exact ⟨u, y, rfl, ho, hfr, hy, ho.rv (by rw [hy]; exact hhq), hb⟩

/-- A row that has no attributes. -/
def bare (r : Ro) : Cw := ⟨r, none, 0⟩
theorem bare_att (w : World) (N : Nat) {r : Ro} (h : r.attrs = []) : Att w N (bare r) := by
  refine ⟨?_, fun _ => rfl, Nat.zero_le _, ?_, ?_⟩
  · show r.attrs.length ≤ 0
    rw [h]; exact Nat.le_refl _
  · show Ra w N none r.attrs
    rw [h]; exact fun h => absurd h (by simp)
  · show Sh r.attrs
    rw [h]; exact fun _ hx => by simp at hx
theorem bare_ap (w : World) (N : Nat) {r : Ro} (h : r.attrs = []) : Ap w N (bare r) := fun h0 => by
  have h0 : 0 < r.attrs.length := h0
  rw [h] at h0
  exact absurd h0 (by simp)
/-- Rows without attributes, freshly written down. -/
theorem rows_new (w : World) (l : List Cw) (cs : Array Value) (n : Nat) (hn : l.length = n) (hm : n ≤ maxLen) (hcs : cs.toList = l.flatMap cells) (hl : ∀ x ∈ l, ∃ r : Ro, x = bare r ∧ r.attrs = []) :
    Ow w.heap.size (w.alloc (.cells cs 34)) (.slice (some ⟨w.heap.size, 0, none⟩) n n) l := by
  have hfl : (l.flatMap cells).length = n * 5 := by
    rw [← hn]
    clear hcs hl hn
    induction l with
    | nil => rfl
    | cons x r ih => rw [List.flatMap_cons, List.length_append, ih, List.length_cons]; simp [cells]; omega
  have hsz : cs.size = n * 5 := by rw [← Array.length_toList, hcs, hfl]
  refine ⟨⟨by rw [hn, hfl], .inr ⟨w.heap.size, n, cs, by rw [hn], Nat.le_refl _, heap_alloc_new w _, by rw [hn]; exact Nat.le_refl _, hm, hsz, ?_⟩⟩, fun x hx => ?_⟩
  · rw [hn, hcs, ← hfl, List.take_length]
  · obtain ⟨r, rfl, h⟩ := hl x hx
    exact ⟨bare_att _ _ h, bare_ap _ _ h⟩

end Go.Proofs.YtenmlpfjeohkiaaGreatDoor.Ro

namespace Go.Proofs.YtenmlpfjeohkiaaGreatDoor.Ro
set_option linter.unusedVariables false
set_option linter.unusedSimpArgs false
open Go.RowKit Ba
def sb : ByteArray := { data := #[98] }
def sc : ByteArray := { data := #[99] }
end Go.Proofs.YtenmlpfjeohkiaaGreatDoor.Ro

namespace Go.Proofs.YtenmlpfjeohkiaaGreatDoor.Ro
set_option maxRecDepth 100000
set_option linter.unusedVariables false
set_option linter.unusedSimpArgs false
open Go.RowKit Ba
end Go.Proofs.YtenmlpfjeohkiaaGreatDoor.Ro

namespace Go.Proofs.YtenmlpfjeohkiaaGreatDoor.Ro
set_option linter.unusedVariables false
set_option linter.unusedSimpArgs false
open Go.RowKit Ba
theorem empty_name {s : ByteArray} (h : s.toList.isEmpty = true) : s = .empty := by
  rw [List.isEmpty_iff, toList_L] at h
  rw [← B_L s, h]
  rfl
theorem text_form {x : Ro} (h : okRow x = true) (hk : x.kind = 1) : x = ⟨x.depth, 1, .empty, x.data, []⟩ := by
  rw [okRow, if_neg (by rw [hk]; decide)] at h
  simp only [Bool.and_eq_true] at h
  have h1 := empty_name h.1.2
  have h2 := h.2
  obtain ⟨d, k, n, t, a⟩ := x
  simp only at hk h1 h2 ⊢
  subst hk
  subst h1
  cases a with
  | nil => rfl
  | cons u r =>
    exfalso
    rw [beq_iff_eq, List.length_cons] at h2
    omega

theorem stops (p : Ro → Bool) : ∀ (l : List Ro) (z : Ro), (l.drop (l.takeWhile p).length).head? = some z → p z = false
  | [], z, h => by simp at h
  | x :: r, z, h => by
    by_cases hp : p x = true
    · rw [List.takeWhile_cons_of_pos hp, List.length_cons, List.drop_succ_cons] at h
      exact stops p r z h
    · rw [List.takeWhile_cons_of_neg hp] at h
      obtain rfl : x = z := by simpa using h
      simpa using hp
theorem right_ok : ∀ (l : List Ro) (m : Int), rightFrom m l = true → ∀ x ∈ l, okRow x = true
  | [], _, _, x, h => by cases h
  | y :: r, m, h, x, hx => by
    rw [rightFrom] at h
    simp only [Bool.and_eq_true, decide_eq_true_eq] at h
    rcases List.mem_cons.1 hx with rfl | hx
    · exact h.1.2
    · exact right_ok r _ h.2 x hx

theorem exceeds_iff (l : List Ro) (n d : Int) : exceeds l n d = true ↔ n < l.length ∨ ∃ x ∈ l, d ≤ x.depth := by
  rw [exceeds, Bool.or_eq_true, decide_eq_true_eq, List.any_eq_true]
  simp only [decide_eq_true_eq]
end Go.Proofs.YtenmlpfjeohkiaaGreatDoor.Ro

namespace Go.Proofs.YtenmlpfjeohkiaaGreatDoor.Ro
set_option maxRecDepth 100000
set_option linter.unusedVariables false
set_option linter.unusedSimpArgs false
open Go.RowKit Ba Go.ChangeShapes Go.WideShapes Go.Deep
section
variable {H : Type} {enc : TypeId × Value → H} {P : Program} {w : World} {base : Nat} {spare : Nat → Bool} {held : Bool}
end

section
variable {H : Type} {enc : TypeId × Value → H} {w : World} {base : Nat}
end

section
variable {H : Type} {enc : TypeId × Value → H} {P : Program} {w : World} {base : Nat} {spare : Nat → Bool} {held : Bool}
end

section
variable {H : Type} {enc : TypeId × Value → H} {P : Program} {w : World} {base : Nat} {spare : Nat → Bool} {held : Bool}
end

section
variable {H : Type} {enc : TypeId × Value → H} {w : World}
end

end Go.Proofs.YtenmlpfjeohkiaaGreatDoor.Ro

namespace Go.Proofs.YtenmlpfjeohkiaaGreatDoor.Ro
set_option maxRecDepth 100000
set_option linter.unusedVariables false
set_option linter.unusedSimpArgs false
open Go.RowKit Ba Go.ChangeShapes Go.WideShapes Go.Deep
section
variable {H : Type} {enc : TypeId × Value → H} {w : World} {base : Nat}
end

end Go.Proofs.YtenmlpfjeohkiaaGreatDoor.Ro

namespace Go.Proofs.YtenmlpfjeohkiaaGreatDoor.Ro
set_option linter.unusedVariables false
set_option linter.unusedSimpArgs false
open Go.RowKit Ba
end Go.Proofs.YtenmlpfjeohkiaaGreatDoor.Ro

namespace Go.Proofs.YtenmlpfjeohkiaaGreatDoor.Ro
set_option maxRecDepth 100000
set_option linter.unusedVariables false
set_option linter.unusedSimpArgs false
open Go.RowKit Ba
theorem Nw.nil (N : Nat) (w : World) : Nw N w (.slice none 0 0) [] := World.ownsRow_nil w N _ 1
end Go.Proofs.YtenmlpfjeohkiaaGreatDoor.Ro

namespace Go.Proofs.YtenmlpfjeohkiaaGreatDoor.Ro
set_option linter.unusedVariables false
set_option linter.unusedSimpArgs false
open Go.RowKit Ba
theorem normal_from : ∀ (n : Nat) (l : List Ro), l.length ≤ n → (normal l).length ≤ l.length ∧ ∀ y ∈ normal l, ∃ x ∈ l, y.depth = x.depth ∧ (y.kind = 1 → x.kind = 1)
  | _, [], _ => by rw [normal_nil]; simp
  | 0, _ :: _, h => absurd h (by simp)
  | n + 1, x :: r, h => by
    rw [List.length_cons] at h
    by_cases hk : x.kind = 1
    · rw [normal_text hk]
      obtain ⟨h1, h2⟩ := normal_from n (r.drop (nexts x.depth r)) (by rw [List.length_drop]; omega)
      rw [List.length_drop] at h1
      constructor
      · rw [List.length_append, List.length_cons]
        split
        · simp; omega
        · simp; omega
      · intro y hy
        rcases List.mem_append.1 hy with hy | hy
        · split at hy
          · cases hy
          · obtain rfl := List.mem_singleton.1 hy
            exact ⟨x, List.mem_cons_self, rfl, fun _ => hk⟩
        · obtain ⟨z, hz, e⟩ := h2 y hy
          exact ⟨z, List.mem_cons_of_mem _ (List.mem_of_mem_drop hz), e⟩
    · rw [normal_other hk]
      obtain ⟨h1, h2⟩ := normal_from n r (by omega)
      constructor
      · rw [List.length_cons, List.length_cons]; omega
      · intro y hy
        rcases List.mem_cons.1 hy with rfl | hy
        · exact ⟨y, List.mem_cons_self, rfl, fun e => e⟩
        · obtain ⟨z, hz, e⟩ := h2 y hy
          exact ⟨z, List.mem_cons_of_mem _ hz, e⟩
theorem len_normal (l : List Ro) : (normal l).length ≤ l.length := (normal_from l.length l (Nat.le_refl _)).1
theorem held_normal {l : List Ro} (h : Held l) : Held (normal l) := fun y hy => by
  obtain ⟨x, hx, e, _⟩ := (normal_from l.length l (Nat.le_refl _)).2 y hy
  rw [e]
  exact h x hx

end Go.Proofs.YtenmlpfjeohkiaaGreatDoor.Ro

namespace Go.Proofs.YtenmlpfjeohkiaaGreatDoor.Ro
set_option linter.unusedVariables false
set_option linter.unusedSimpArgs false
open Go.RowKit Ba
theorem ok_text (d : Int) (t : List UInt8) : okRow ⟨d, 1, .empty, B t, []⟩ = true := by
  have e : ByteArray.empty.toList.isEmpty = true := by kernel_rfl
  show (if ((1 : Int) == 0) = true then _ else ((1 : Int) == 1 || (1 : Int) == 2) && ByteArray.empty.toList.isEmpty && ((0 : Nat) : Int) == 0) = true
  rw [if_neg (by decide), e]
  rfl

/-- Texts are not empty, and no two stand side by side at one depth. -/
def Nrm : List Ro → Prop
  | [] => True
  | x :: r => (x.kind = 1 → x.data.toList ≠ [] ∧ ∀ z, r.head? = some z → z.kind = 1 → z.depth ≠ x.depth) ∧ Nrm r
theorem normal_nrm : ∀ (l : List Ro) (m : Int), rightFrom m l = true → Nrm l → normal l = l
  | [], _, _, _ => normal_nil
  | x :: r, m, hr, h => by
    have hr' := hr
    rw [rightFrom] at hr'
    simp only [Bool.and_eq_true] at hr'
    by_cases hk : x.kind = 1
    · obtain ⟨h1, h2⟩ := h.1 hk
      have hn : nexts x.depth r = 0 := by
        cases r with
        | nil => rfl
        | cons y t =>
          unfold nexts
          rw [List.takeWhile_cons, if_neg]
          · rfl
          · intro e
            simp only [Bool.and_eq_true, beq_iff_eq] at e
            exact h2 y rfl e.1 e.2
      have hx := text_form hr'.1.2 hk
      rw [normal_text hk, hn, List.take_zero, List.drop_zero, normal_nrm r _ hr'.2 h.2, txt_text hk, if_neg (by rw [← toList_L]; exact h1), List.singleton_append, B_L, ← hx]
    · rw [normal_other hk, normal_nrm r _ hr'.2 h.2]
theorem check_of {l : List Ro} (h1 : exceeds l 4096 60 = false) (h2 : right l = true) : check l = 0 := by
  unfold check; rw [h1, h2]; rfl
end Go.Proofs.YtenmlpfjeohkiaaGreatDoor.Ro

namespace Go.Proofs.YtenmlpfjeohkiaaGreatDoor.Na
set_option maxRecDepth 100000
set_option linter.unusedSimpArgs false
set_option linter.unusedVariables false
open Go.RowKit Ba Fm Fo Nm
theorem void_lit (w : World) (s : ByteArray) :
    Calls Tryz.prog 46 #[.string s, .slice (some ⟨w.heap.size, 0, none⟩) 14 14] (w.alloc (.cells #[.string ⟨#[97, 114, 101, 97]⟩, .string ⟨#[98, 97, 115, 101]⟩, .string ⟨#[98, 114]⟩, .string ⟨#[99, 111, 108]⟩, .string ⟨#[101, 109, 98, 101, 100]⟩, .string ⟨#[104, 114]⟩, .string ⟨#[105, 109, 103]⟩, .string ⟨#[105, 110, 112, 117, 116]⟩, .string ⟨#[108, 105, 110, 107]⟩, .string ⟨#[109, 101, 116, 97]⟩, .string ⟨#[112, 97, 114, 97, 109]⟩, .string ⟨#[115, 111, 117, 114, 99, 101]⟩, .string ⟨#[116, 114, 97, 99, 107]⟩, .string ⟨#[119, 98, 114]⟩] 9)) fun e w' => e = .returned (.bool (isIn s voidL)) ∧ w.alloc (.cells #[.string ⟨#[97, 114, 101, 97]⟩, .string ⟨#[98, 97, 115, 101]⟩, .string ⟨#[98, 114]⟩, .string ⟨#[99, 111, 108]⟩, .string ⟨#[101, 109, 98, 101, 100]⟩, .string ⟨#[104, 114]⟩, .string ⟨#[105, 109, 103]⟩, .string ⟨#[105, 110, 112, 117, 116]⟩, .string ⟨#[108, 105, 110, 107]⟩, .string ⟨#[109, 101, 116, 97]⟩, .string ⟨#[112, 97, 114, 97, 109]⟩, .string ⟨#[115, 111, 117, 114, 99, 101]⟩, .string ⟨#[116, 114, 97, 99, 107]⟩, .string ⟨#[119, 98, 114]⟩] 9) = w' := amongLit w voidL s (by decide)
set_option maxHeartbeats 1000000 in
theorem void_any (s : ByteArray) (w : World) : Calls Tryz.prog 42 #[.string s] w fun e w' => e = .returned (.bool (isIn s voidL)) ∧ Below w.heap.size w w' := by
  go_enter Tryz.func42, Tryz.ntmps42
  go_wp2_with fail
  refine (void_lit w s).mono ?_
  rintro e w1 ⟨rfl, rfl⟩
  go_wp2
  go_ret
  exact ⟨rfl, below_one w _⟩
theorem block_lit (w : World) (s : ByteArray) :
    Calls Tryz.prog 46 #[.string s, .slice (some ⟨w.heap.size, 0, none⟩) 38 38] (w.alloc (.cells #[.string ⟨#[97, 100, 100, 114, 101, 115, 115]⟩, .string ⟨#[97, 114, 116, 105, 99, 108, 101]⟩, .string ⟨#[97, 115, 105, 100, 101]⟩, .string ⟨#[98, 108, 111, 99, 107, 113, 117, 111, 116, 101]⟩, .string ⟨#[99, 101, 110, 116, 101, 114]⟩, .string ⟨#[100, 100]⟩, .string ⟨#[100, 101, 116, 97, 105, 108, 115]⟩, .string ⟨#[100, 105, 97, 108, 111, 103]⟩, .string ⟨#[100, 105, 114]⟩, .string ⟨#[100, 105, 118]⟩, .string ⟨#[100, 108]⟩, .string ⟨#[100, 116]⟩, .string ⟨#[102, 105, 101, 108, 100, 115, 101, 116]⟩, .string ⟨#[102, 105, 103, 99, 97, 112, 116, 105, 111, 110]⟩, .string ⟨#[102, 105, 103, 117, 114, 101]⟩, .string ⟨#[102, 111, 111, 116, 101, 114]⟩, .string ⟨#[102, 111, 114, 109]⟩, .string ⟨#[104, 49]⟩, .string ⟨#[104, 50]⟩, .string ⟨#[104, 51]⟩, .string ⟨#[104, 52]⟩, .string ⟨#[104, 53]⟩, .string ⟨#[104, 54]⟩, .string ⟨#[104, 101, 97, 100, 101, 114]⟩, .string ⟨#[104, 103, 114, 111, 117, 112]⟩, .string ⟨#[104, 114]⟩, .string ⟨#[108, 105]⟩, .string ⟨#[109, 97, 105, 110]⟩, .string ⟨#[109, 101, 110, 117]⟩, .string ⟨#[110, 97, 118]⟩, .string ⟨#[111, 108]⟩, .string ⟨#[112]⟩, .string ⟨#[112, 114, 101]⟩, .string ⟨#[115, 101, 99, 116, 105, 111, 110]⟩, .string ⟨#[115, 117, 109, 109, 97, 114, 121]⟩, .string ⟨#[116, 97, 98, 108, 101]⟩, .string ⟨#[117, 108]⟩, .string ⟨#[120, 109, 112]⟩] 9)) fun e w' => e = .returned (.bool (isIn s blockL)) ∧ w.alloc (.cells #[.string ⟨#[97, 100, 100, 114, 101, 115, 115]⟩, .string ⟨#[97, 114, 116, 105, 99, 108, 101]⟩, .string ⟨#[97, 115, 105, 100, 101]⟩, .string ⟨#[98, 108, 111, 99, 107, 113, 117, 111, 116, 101]⟩, .string ⟨#[99, 101, 110, 116, 101, 114]⟩, .string ⟨#[100, 100]⟩, .string ⟨#[100, 101, 116, 97, 105, 108, 115]⟩, .string ⟨#[100, 105, 97, 108, 111, 103]⟩, .string ⟨#[100, 105, 114]⟩, .string ⟨#[100, 105, 118]⟩, .string ⟨#[100, 108]⟩, .string ⟨#[100, 116]⟩, .string ⟨#[102, 105, 101, 108, 100, 115, 101, 116]⟩, .string ⟨#[102, 105, 103, 99, 97, 112, 116, 105, 111, 110]⟩, .string ⟨#[102, 105, 103, 117, 114, 101]⟩, .string ⟨#[102, 111, 111, 116, 101, 114]⟩, .string ⟨#[102, 111, 114, 109]⟩, .string ⟨#[104, 49]⟩, .string ⟨#[104, 50]⟩, .string ⟨#[104, 51]⟩, .string ⟨#[104, 52]⟩, .string ⟨#[104, 53]⟩, .string ⟨#[104, 54]⟩, .string ⟨#[104, 101, 97, 100, 101, 114]⟩, .string ⟨#[104, 103, 114, 111, 117, 112]⟩, .string ⟨#[104, 114]⟩, .string ⟨#[108, 105]⟩, .string ⟨#[109, 97, 105, 110]⟩, .string ⟨#[109, 101, 110, 117]⟩, .string ⟨#[110, 97, 118]⟩, .string ⟨#[111, 108]⟩, .string ⟨#[112]⟩, .string ⟨#[112, 114, 101]⟩, .string ⟨#[115, 101, 99, 116, 105, 111, 110]⟩, .string ⟨#[115, 117, 109, 109, 97, 114, 121]⟩, .string ⟨#[116, 97, 98, 108, 101]⟩, .string ⟨#[117, 108]⟩, .string ⟨#[120, 109, 112]⟩] 9) = w' := amongLit w blockL s (by decide)
set_option maxHeartbeats 1000000 in
theorem block_any (s : ByteArray) (w : World) : Calls Tryz.prog 120 #[.string s] w fun e w' => e = .returned (.bool (isIn s blockL)) ∧ Below w.heap.size w w' := by
  go_enter Tryz.func120, Tryz.ntmps120
  go_wp2_with fail
  refine (block_lit w s).mono ?_
  rintro e w1 ⟨rfl, rfl⟩
  go_wp2
  go_ret
  exact ⟨rfl, below_one w _⟩
theorem gone_lit (w : World) (s : ByteArray) :
    Calls Tryz.prog 46 #[.string s, .slice (some ⟨w.heap.size, 0, none⟩) 4 4] (w.alloc (.cells #[.string ⟨#[98, 111, 100, 121]⟩, .string ⟨#[102, 114, 97, 109, 101, 115, 101, 116]⟩, .string ⟨#[104, 101, 97, 100]⟩, .string ⟨#[104, 116, 109, 108]⟩] 9)) fun e w' => e = .returned (.bool (isIn s goneL)) ∧ w.alloc (.cells #[.string ⟨#[98, 111, 100, 121]⟩, .string ⟨#[102, 114, 97, 109, 101, 115, 101, 116]⟩, .string ⟨#[104, 101, 97, 100]⟩, .string ⟨#[104, 116, 109, 108]⟩] 9) = w' := amongLit w goneL s (by decide)
set_option maxHeartbeats 1000000 in
theorem gone_any (s : ByteArray) (w : World) : Calls Tryz.prog 62 #[.string s] w fun e w' => e = .returned (.bool (isIn s goneL)) ∧ Below w.heap.size w w' := by
  go_enter Tryz.func62, Tryz.ntmps62
  go_wp2_with fail
  refine (gone_lit w s).mono ?_
  rintro e w1 ⟨rfl, rfl⟩
  go_wp2
  go_ret
  exact ⟨rfl, below_one w _⟩
end Go.Proofs.YtenmlpfjeohkiaaGreatDoor.Na

namespace Go.Proofs.YtenmlpfjeohkiaaGreatDoor.Wr
set_option maxRecDepth 100000
set_option linter.unusedSimpArgs false
set_option linter.unusedVariables false
open Go.RowKit Ba Fm Fo Nm Wm
open Ro (At Ro Cw ros rowO rowV acells len_acells below_new Sh Ra acells_one info_attr range2 range5)
open Tm (bulkA)
open To (Kb Ls Bx app_strk flat2 flat3 flat5 flat_le flat_take bulk_at)
open Rm (dec esc)
/-- append of one byte onto bytes of the call's own: what is kept. -/
theorem app_bytek {ops : Array Oper} {rest : List Oper} {o : Oper} {a : Act} {Q : Exit → Act → World → Prop} (w : World) (hgd : o.guard = none) (s x : Operand)
    (ho : o.op = .call { callee := .builtin .append, args := #[s, x], argTypes := #[48, 48] })
    (N : Nat) (v : Value) (l : List UInt8) (y : UInt8) (hs : a.eval s = v) (hown : OwnB N w v l) (hx : a.eval x = .slice (some ⟨w.heap.size, 0, none⟩) 1 1)
    (hl : l.length + 1 ≤ 140737488355328) (hN : N ≤ w.heap.size)
    (h : ∀ v' w', OwnB N w' v' (l ++ [y]) → Below N w w' → Kb w w' → wpList Tryz.prog ops Q rest (a.put o.dst v') w') :
    wpList Tryz.prog ops Q (o :: rest) a (w.alloc (.cells #[.int .u8 y.toNat] 5)) := by
  obtain ⟨i0, hi, hz0, hz1, hz2⟩ := info_parts info_u8
  have hown' : OwnB N (w.alloc (.cells #[.int .u8 y.toNat] 5)) v l := hown.alloc _
  have hsz : (w.alloc (.cells #[.int .u8 y.toNat] 5)).heap.size = w.heap.size + 1 := by simp
  refine wpList_append_own _ hgd s x 48 ho N 5 i0 (.int .u8 0) 1 1 Tryz.underlying48 hi hz0 hz1 hz2 rfl (by decide) v l.length (l.map bc) hs hown' ⟨w.heap.size, 0, none⟩ 1 1 [.int .u8 y.toNat] hx rfl (cell_one_new _ _ _) (by intro u hu; simp at hu; subst hu; rfl) (by unfold maxLen; omega) (by omega) (by omega) ?_
  intro v' w' ho2 hg2 _
  exact h v' w' (OwnB.appended (m := [y]) ho2 rfl) (hown'.below hg2 ((Below.refl N w).alloc hN _) (by omega)) ((Kb.below (below_new w _)).trans (Kb.grown hown' hg2))

/-- A row in a box. -/
def Rb (w : World) (g : Nat) (x : Cw) : Prop := w.heap[g]? = some (rowO x)
theorem Rb.new (w : World) (x : Cw) : Rb (w.alloc (rowO x)) w.heap.size x := (MapKept.heap_alloc w _).1
theorem Rb.c {w : World} {g : Nat} {x : Cw} (h : Rb w g x) : w.cell? ⟨g, 0, none⟩ = some (.int .i64 x.ro.depth) ∧ w.cell? ⟨g, 1, none⟩ = some (.int .i64 x.ro.kind) ∧ w.cell? ⟨g, 2, none⟩ = some (.string x.ro.name) ∧ w.cell? ⟨g, 3, none⟩ = some (.string x.ro.data) ∧ w.cell? ⟨g, 4, none⟩ = some (.slice x.A x.ro.attrs.length x.c) := by
  refine ⟨?_, ?_, ?_, ?_, ?_⟩
  · rw [cell_of_row w g 0 _ _ _ h]; rfl
  · rw [cell_of_row w g 1 _ _ _ h]; rfl
  · rw [cell_of_row w g 2 _ _ _ h]; rfl
  · rw [cell_of_row w g 3 _ _ _ h]; rfl
  · rw [cell_of_row w g 4 _ _ _ h]; rfl
theorem Rb.kb {w w' : World} {g : Nat} {x : Cw} (h : Rb w g x) (k : Kb w w') : Rb w' g x := (k.2 g _ _ _ h (by decide)).trans h
theorem Rb.lt {w : World} {g : Nat} {x : Cw} (h : Rb w g x) : g < w.heap.size := (Array.getElem?_eq_some_iff.1 h).1
theorem kb_alloc (w : World) (o : Obj) : Kb w (w.alloc o) := Kb.below (below_new w o)
theorem bx_kb {w w' : World} {g : Nat} {x y : ByteArray} (h : Bx w g x y) (k : Kb w w') : Bx w' g x y := (k.2 g _ _ _ h (by decide)).trans h

set_option maxRecDepth 100000 in
set_option maxHeartbeats 2000000 in
theorem appendAll_any (N g c : Nat) (v : Value) (acc : List UInt8) (l : List ByteArray) (w : World) (ho : OwnB N w v acc) (hN : N ≤ w.heap.size) (hg : Ls w g l) (hl : l.length ≤ 100) (hz : acc.length + (l.flatMap L).length ≤ 140737488355328) :
    Calls Tryz.prog 28 #[v, .slice (some ⟨g, 0, none⟩) l.length c] w fun e w' => ∃ v', e = .returned v' ∧ OwnB N w' v' (acc ++ l.flatMap L) ∧ Below N w w' ∧ Kb w w' := by
  go_enter Tryz.func28, Tryz.ntmps28
  go_wp2
  go_loopw [0, 9] (fun u i wr => ∃ k : Nat, i = .int .i64 k ∧ k ≤ l.length ∧ OwnB N wr u (acc ++ (l.take k).flatMap L) ∧ Below N w wr ∧ Kb w wr) (fun _ i _ => l.length - (intOf i).toNat)
  case atStart => exact ⟨0, rfl, Nat.zero_le _, by simpa using ho, Below.refl _ _, Kb.refl _⟩
  case round =>
    obtain ⟨k, rfl, hk, hown, hb, hkb⟩ := hrel
    by_cases hp : k < l.length
    · have hcell := (hg.kb hkb).cell k hp
      have hle := flat_le l k hp
      have hft := flat_take l k hp
      have hlen : (acc ++ (l.take k).flatMap L).length + l[k].size ≤ 140737488355328 := by rw [List.length_append]; omega
      have hNr : N ≤ wr.heap.size := Nat.le_trans hN hb.size
      have HO := Lib.hid hown; have HB := Lib.hid hb; have HK := Lib.hid hkb; have HF := Lib.hid hft; clear hown hb hkb hft hle
      go_wp2_with (at_builtin; refine app_strk wr rfl (.tmp 13) (.tmp 14) rfl N _ _ l[k] rfl HO.out rfl hlen hNr ?_; intro v4 w4 hown4 hb4 hk4)
      go_roundw
      case rel => exact ⟨k + 1, by go_num, by omega, by rw [HF.out, ← List.append_assoc]; exact hown4, HB.out.trans hb4, HK.out.trans hk4⟩
      case measure => simp [intOf]; omega
    · rw [List.take_of_length_le (by omega)] at hown
      have HO := Lib.hid hown; have HB := Lib.hid hb; have HK := Lib.hid hkb; clear hown hb hkb
      go_wp2
      go_ret
      exact ⟨_, rfl, HO.out, HB.out, HK.out⟩
theorem appendAll1 (N g c n : Nat) (v : Value) (acc out : List UInt8) (l : List ByteArray) (w : World) (ho : OwnB N w v acc) (hN : N ≤ w.heap.size) (hg : Ls w g l) (hl : l.length ≤ 100) (hz : acc.length + (l.flatMap L).length ≤ 140737488355328) (hn : l.length = n) (hout : l.flatMap L = out) :
    Calls Tryz.prog 28 #[v, .slice (some ⟨g, 0, none⟩) n c] w fun e w' => ∃ v', e = .returned v' ∧ OwnB N w' v' (acc ++ out) ∧ Below N w w' ∧ Kb w w' := by
  subst hn hout
  exact appendAll_any N g c v acc l w ho hN hg hl hz
theorem lit_app3 (N : Nat) (u : Value) (AC : List UInt8) (t1 t2 t3 : ByteArray) (wr : World) (ho : OwnB N wr u AC) (hN : N ≤ wr.heap.size) (hlen : AC.length + (t1.size + (t2.size + t3.size)) ≤ 140737488355328) :
    Calls Tryz.prog 28 #[u, .slice (some ⟨wr.heap.size, 0, none⟩) 3 3] (wr.alloc (.cells #[.string t1, .string t2, .string t3] 9)) fun e w' => ∃ v', e = .returned v' ∧ OwnB N w' v' (AC ++ (L t1 ++ (L t2 ++ L t3))) ∧ Below N wr w' ∧ Kb wr w' := by
  refine (appendAll1 N wr.heap.size 3 3 u AC (L t1 ++ (L t2 ++ L t3)) [t1, t2, t3] _ (ho.alloc _) (by simp; omega) (Ls.new wr [t1, t2, t3]) (by simp) (by rw [flat3, List.length_append, List.length_append, size_L, size_L, size_L]; exact hlen) rfl (flat3 _ _ _)).mono ?_
  rintro e w6 ⟨v6, he, ho6, hb6, hk6⟩
  exact ⟨v6, he, ho6, ((Below.refl N wr).alloc hN _).trans hb6, (kb_alloc wr _).trans hk6⟩
theorem attr_app (N : Nat) (u : Value) (AC : List UInt8) (y : At) (wr w4 : World) (ho : OwnB N wr u AC) (hN : N ≤ wr.heap.size)
    (hb : Below (wr.alloc (.cells #[.string y.name, .string y.value] 46)).drew.heap.size (wr.alloc (.cells #[.string y.name, .string y.value] 46)).drew w4) (hlen : AC.length + (wA y).length ≤ 140737488355328) :
    Calls Tryz.prog 28 #[u, .slice (some ⟨w4.heap.size, 0, none⟩) 5 5] (w4.alloc (.cells #[.string ⟨#[32]⟩, .string y.name, .string ⟨#[61, 34]⟩, .string (B (esc true (L y.value))), .string ⟨#[34]⟩] 9)) fun e w' => ∃ v', e = .returned v' ∧ OwnB N w' v' (AC ++ wA y) ∧ Below N wr w' ∧ Kb wr w' ∧ Bx w' wr.heap.size y.name y.value := by
  have hx4 := (show Bx (wr.alloc (.cells #[.string y.name, .string y.value] 46)).drew wr.heap.size y.name y.value from Bx.new wr y.name y.value).below hb
  have hb4 : Below wr.heap.size wr w4 := bt (below_new wr _) ⟨hb.os, hb.tape, hb.output, hb.size, hb.block⟩
  have hn4 : N ≤ w4.heap.size := Nat.le_trans hN hb4.size
  have hls := Ls.new w4 [⟨#[32]⟩, y.name, ⟨#[61, 34]⟩, B (esc true (L y.value)), ⟨#[34]⟩]
  have hfl : [⟨#[32]⟩, y.name, ⟨#[61, 34]⟩, B (esc true (L y.value)), ⟨#[34]⟩].flatMap L = wA y := by
    rw [flat5, L_B]; rfl
  refine (appendAll1 N w4.heap.size 5 5 u AC (wA y) [⟨#[32]⟩, y.name, ⟨#[61, 34]⟩, B (esc true (L y.value)), ⟨#[34]⟩] _ ((OwnB.keep ho hb4).alloc _) (by simp; omega) hls (by simp) (by rw [hfl]; exact hlen) rfl hfl).mono ?_
  rintro e w6 ⟨v6, he, ho6, hb6, hk6⟩
  refine ⟨v6, he, ho6, (hb4.mono hN).trans (((Below.refl N w4).alloc hn4 _).trans hb6), (Kb.below hb4).trans ((kb_alloc w4 _).trans hk6), bx_kb (hx4.below (below_new w4 _)) hk6⟩

/-- The bytes of a row. -/
def rb (x : Ro) : Nat := x.name.size + x.data.size + bulkA x.attrs + x.attrs.length
theorem sum_le (l : List At) (k : Nat) (h : k < l.length) : ((l.take k).flatMap wA).length + (wA l[k]).length ≤ (l.flatMap wA).length := by
  have e : l.flatMap wA = (l.take (k + 1)).flatMap wA ++ (l.drop (k + 1)).flatMap wA := by rw [← List.flatMap_append, List.take_append_drop]
  rw [e, List.take_succ_eq_append_getElem h, List.flatMap_append, List.length_append, List.length_append]
  simp
theorem attr_take (l : List At) (k : Nat) (h : k < l.length) : (l.take (k + 1)).flatMap wA = (l.take k).flatMap wA ++ wA l[k] := by
  rw [List.take_succ_eq_append_getElem h, List.flatMap_append]
  simp
theorem len_wAs (l : List At) : (l.flatMap wA).length ≤ 6 * bulkA l + 4 * l.length := Tm.len_wAttrs l

set_option maxRecDepth 100000 in
set_option maxHeartbeats 4000000 in
theorem appendTag_any (N M : Nat) (v : Value) (acc : List UInt8) (x : Cw) (w : World) (ho : OwnB N w v acc) (hN : N ≤ w.heap.size) (hx : Ro.Att w M x) (hM : M ≤ N) (hk : rb x.ro ≤ 10000000) (hz : acc.length ≤ 70000000000000) :
    Calls Tryz.prog 47 #[v, rowV x] w fun e w' => ∃ v', e = .returned v' ∧ OwnB N w' v' (acc ++ tagW x.ro) ∧ Below N w w' ∧ Kb w w' := by
  have hk1 : x.ro.name.size ≤ 10000000 := by unfold rb at hk; omega
  have hk2 : bulkA x.ro.attrs ≤ 10000000 := by unfold rb at hk; omega
  have hk3 : x.ro.attrs.length ≤ 10000000 := by unfold rb at hk; omega
  have hk4 := len_wAs x.ro.attrs
  have hacc : acc.length + (1 + x.ro.name.size) ≤ 140737488355328 := by omega
  have hz1 : (w.alloc (rowO x)).heap.size = w.heap.size + 1 := by simp
  have hls : Ls ((w.alloc (rowO x)).alloc (.cells #[.string ⟨#[60]⟩, .string x.ro.name] 9)) (w.heap.size + 1) [⟨#[60]⟩, x.ro.name] := hz1 ▸ Ls.new (w.alloc (rowO x)) [⟨#[60]⟩, x.ro.name]
  have hNa : N ≤ ((w.alloc (rowO x)).alloc (.cells #[.string ⟨#[60]⟩, .string x.ro.name] 9)).heap.size := by simp; omega
  have hba : Below N w ((w.alloc (rowO x)).alloc (.cells #[.string ⟨#[60]⟩, .string x.ro.name] 9)) := ((Below.refl N w).alloc hN _).alloc (by rw [hz1]; omega) _
  have hka : Kb w ((w.alloc (rowO x)).alloc (.cells #[.string ⟨#[60]⟩, .string x.ro.name] 9)) := (kb_alloc w _).trans (kb_alloc _ _)
  have hta : Rb ((w.alloc (rowO x)).alloc (.cells #[.string ⟨#[60]⟩, .string x.ro.name] 9)) w.heap.size x := (Rb.new w x).kb (kb_alloc _ _)
  have HLS := Lib.hid hls; have HNA := Lib.hid hNa; have HBA := Lib.hid hba; have HKA := Lib.hid hka; have HTA := Lib.hid hta; have HO := Lib.hid ho; have HX := Lib.hid hx
  clear hz1 hls hNa hba hka hta ho hx
  go_enter Tryz.func47, Tryz.ntmps47
  go_wp2_with fail
  refine (appendAll1 N (w.heap.size + 1) 2 2 v acc ([60] ++ L x.ro.name) [⟨#[60]⟩, x.ro.name] _ ((HO.out.alloc _).alloc _) HNA.out HLS.out (by simp) (by rw [flat2, List.length_append, size_L, size_L]; exact hacc) rfl (by rw [flat2])).mono ?_
  rintro e w2 ⟨v2, rfl, ho2, hb2, hk2'⟩
  obtain ⟨g, hg⟩ : ∃ g, w.heap.size = g := ⟨_, rfl⟩
  have ht2 := HTA.out.kb hk2'
  have hB2 := HBA.out.trans hb2
  have hK2 := HKA.out.trans hk2'
  rw [hg] at ht2 ⊢
  obtain ⟨c0, c1, c2, c3, c4⟩ := ht2.c
  have HG := Lib.hid hg
  clear hb2 hk2' hg HLS HNA HBA HKA HTA HO c0 c1 c2 c3
  have HO2 := Lib.hid ho2; have HB2 := Lib.hid hB2; have HK2 := Lib.hid hK2; have HT2 := Lib.hid ht2; clear ho2 hB2 hK2 ht2
  have hra := HX.out.2.2.2.1
  have HRA := Lib.hid (Ro.Ra.more hra hM); clear hra
  go_wp2
  clear c4
  go_loopw [0, 15] (fun u i wr => ∃ k : Nat, i = .int .i64 k ∧ k ≤ x.ro.attrs.length ∧ OwnB N wr u ((acc ++ ([60] ++ L x.ro.name)) ++ (x.ro.attrs.take k).flatMap wA) ∧ Below N w wr ∧ Kb w wr) (fun _ i _ => x.ro.attrs.length - (intOf i).toNat)
  case atStart => exact ⟨0, rfl, Nat.zero_le _, by simpa using HO2.out, HB2.out, HK2.out⟩
  case round =>
    obtain ⟨k, rfl, hk, hown, hb, hkb⟩ := hrel
    by_cases hp : k < x.ro.attrs.length
    · obtain ⟨b0, off0, y, hA, hb0, hdy, hry, hym⟩ := Ro.Ra.at_ (Ro.Ra.below HRA.out hb) k hp
      rw [hA]
      have hy : x.ro.attrs[k] = y := by
        rw [List.drop_eq_getElem_cons hp] at hdy
        injection hdy
      obtain ⟨f0, f1⟩ := range2 hry
      have hsl := sum_le x.ro.attrs k hp
      have hat := attr_take x.ro.attrs k hp
      have hbk := bulk_at x.ro.attrs k hp
      rw [hy] at hsl hat hbk
      obtain ⟨AC, hAC⟩ : ∃ AC, (acc ++ ([60] ++ L x.ro.name)) ++ (x.ro.attrs.take k).flatMap wA = AC := ⟨_, rfl⟩
      have hlen : AC.length + (wA y).length ≤ 140737488355328 := by
        rw [← hAC]
        simp only [List.length_append, List.length_cons, List.length_nil, size_L]
        omega
      rw [hAC] at hown
      have hys : y.value.size ≤ 10000000 := by omega
      have hNr : N ≤ wr.heap.size := Nat.le_trans hN hb.size
      have HO := Lib.hid hown; have HB := Lib.hid hb; have HK := Lib.hid hkb; have HAT := Lib.hid hat; have HAC := Lib.hid hAC
      have hbx := Bx.new wr y.name y.value
      have HBX := Lib.hid hbx
      clear hown hb hkb hat hdy hry hym hy hsl hbk hAC hbx hk4 hacc hk1 hk2
      go_upto_region 5 with (fail)
      go_region_held3 (fun w' => w'.cell? ⟨wr.heap.size, 0, none⟩ = some (.string y.name) ∧ w'.cell? ⟨wr.heap.size, 1, none⟩ = some (.string y.value)) (first | exact ⟨e0, e1⟩ | exact ⟨d0, d1⟩ | go_keep) (first
        | (go_at_call 28; refine (attr_app N _ AC y wr w4 HO.out hNr HB4.out hlen).mono ?_; rintro e w6 ⟨v6, rfl, ho6, hb6, hk6, hx6⟩; have e0 := hx6.c0; have e1 := hx6.c1; have HO6 := Lib.hid ho6; have HB6 := Lib.hid hb6; have HK6 := Lib.hid hk6; clear ho6 hb6 hk6 hx6)
        | (go_at_call 69; refine (Re.valueOf_any y.value (wr.alloc (.cells #[.string y.name, .string y.value] 46)).drew hys).mono ?_; rintro e w4 ⟨rfl, hb4⟩; have hx4 := (show Bx (wr.alloc (.cells #[.string y.name, .string y.value] 46)).drew wr.heap.size y.name y.value from HBX.out).below hb4; have d0 := hx4.c0; have d1 := hx4.c1; have HX4 := Lib.hid hx4; have HB4 := Lib.hid hb4; clear hx4 hb4))
      go_wp2
      go_roundw
      case rel =>
        have hK2 := HK.out.trans HK6.out
        refine ⟨k + 1, by go_num, by omega, ?_, HB.out.trans HB6.out, hK2⟩
        rw [HAT.out, ← List.append_assoc, HAC.out]
        exact HO6.out
      case measure => simp [intOf]; omega
    · rw [List.take_of_length_le (by omega)] at hown
      have hNr : N ≤ wr.heap.size := Nat.le_trans hN hb.size
      obtain ⟨AC, hAC⟩ : ∃ AC, (acc ++ ([60] ++ L x.ro.name)) ++ x.ro.attrs.flatMap wA = AC := ⟨_, rfl⟩
      have hlen : AC.length + 1 ≤ 140737488355328 := by
        rw [← hAC]
        simp only [List.length_append, List.length_cons, List.length_nil, size_L]
        omega
      rw [hAC] at hown
      have hfin : acc ++ tagW x.ro = AC ++ [62] := by rw [← hAC]; unfold tagW; simp only [List.append_assoc]
      have HO := Lib.hid hown; have HB := Lib.hid hb; have HK := Lib.hid hkb; have HF := Lib.hid hfin; clear hown hb hkb hAC hfin
      go_wp2_with (at_builtin; refine app_bytek wr rfl (.tmp 28) (.tmp 29) rfl N _ AC 62 rfl HO.out rfl hlen hNr ?_; intro v4 w4 hown4 hb4 hk4')
      go_ret
      exact ⟨v4, rfl, by rw [HF.out]; exact hown4, HB.out.trans hb4, HK.out.trans hk4'⟩

theorem holds_any (x : Cw) (w : World) :
    Calls Tryz.prog 23 #[rowV x] w fun e w' => e = .returned (.bool (holds x.ro)) ∧ Below w.heap.size w w' := by
  have hb1 := below_new w (rowO x)
  have ht1 := Rb.new w x
  obtain ⟨c0, c1, c2, c3, c4⟩ := ht1.c
  have HB1 := Lib.hid hb1
  clear hb1 ht1
  cases hk : x.ro.kind == 0 with
  | false =>
    have HH := Lib.hid (show holds x.ro = false by unfold holds; rw [hk]; rfl)
    go_enter Tryz.func23, Tryz.ntmps23
    go_wp2
    go_ret
    rw [HH.out]
    exact ⟨rfl, HB1.out⟩
  | true =>
    have HH := Lib.hid (show holds x.ro = !isIn x.ro.name voidL by unfold holds; rw [hk]; rfl)
    go_enter Tryz.func23, Tryz.ntmps23
    go_wp2_with fail
    refine (Na.void_any _ _).mono ?_
    rintro e w2 ⟨rfl, b2⟩
    have HB2 := Lib.hid (bt HB1.out b2)
    clear b2
    go_wp2
    go_ret
    rw [HH.out]
    exact ⟨rfl, HB2.out⟩

end Go.Proofs.YtenmlpfjeohkiaaGreatDoor.Wr
