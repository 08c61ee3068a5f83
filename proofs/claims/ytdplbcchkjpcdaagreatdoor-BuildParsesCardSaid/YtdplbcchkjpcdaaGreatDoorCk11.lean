/-
  Tokens in boxes, attributes of the call's own beside them.
  Stage 7: what the reference's Tree keeps from token to token: the open elements, the rows, the token's box; none is lost by what the others do.
  Stage 7: walks of the reference: Tree.
  Stage 7: bound (as stage 6's, of 60 tokens).
  The laws of stage 7, walked: Trees.
  Walks of stage 6's reference: at, letter, find, stops, spaces.
  Walk of stage 6's reference: attr.
-/
import Derived.Test.YtdplbcchkjpcdaaGreatDoorCk10
import Derived.Test.YtdplbcchkjpcdaaGreatDoorCk03
import Derived.Test.YtdplbcchkjpcdaaGreatDoorCk05
import Derived.Test.YtdplbcchkjpcdaaGreatDoorCk07
import Derived.Deep.CutBlock
import Derived.Deep.DeepCutAuto
import Derived.Deep.RegionHeld3
import Derived.Test.YtdplbcchkjpcdaaGreatDoorCk09
namespace Go.Proofs.YtdplbcchkjpcdaaGreatDoor.To
set_option linter.unusedSimpArgs false
set_option linter.unusedVariables false
open Go.RowKit Ba Fm Fo Tm
open Ro (below_new At acells len_acells Sh Ra range2)
theorem Tb.f {w : World} {g : Nat} {x : Tw} (h : Tb w g x) (j : Nat) : w.frozen? ⟨g, j, none⟩ = false := by
  unfold Tb at h
  simp [World.frozen?, h]
theorem Tb.lt {w : World} {g : Nat} {x : Tw} (h : Tb w g x) : g < w.heap.size := (Array.getElem?_eq_some_iff.1 h).1
theorem Tb.below {w w' : World} {g : Nat} {x : Tw} (h : Tb w g x) (hb : Below w.heap.size w w') : Tb w' g x := (hb.block g h.lt).trans h
theorem Tb.kept {w w' : World} {g b : Nat} {x : Tw} (h : Tb w g x) (hg : w.grownBy w' (some b)) (hne : g ≠ b) : Tb w' g x := (hg.block g h.lt (by simpa using hne)).trans h
theorem Tb.other {w : World} {g b j : Nat} {x : Tw} (h : Tb w g x) (hne : g ≠ b) (u : Value) : Tb (w.setCell ⟨b, j, none⟩ u) g x := h.kept (g_set w b j u) hne
theorem Tb.set2 {w : World} {g : Nat} {x : Tw} (h : Tb w g x) (d : ByteArray) : Tb (w.setCell ⟨g, 2, none⟩ (.string d)) g ⟨⟨x.tk.kind, x.tk.name, d, x.tk.attrs, x.tk.self⟩, x.A, x.c⟩ := by
  unfold Tb at h ⊢
  simp [World.setCell, Array.getElem?_modify, h]
theorem Tb.set0 {w : World} {g : Nat} {x : Tw} (h : Tb w g x) (k : Int) : Tb (w.setCell ⟨g, 0, none⟩ (.int .i64 k)) g ⟨⟨k, x.tk.name, x.tk.data, x.tk.attrs, x.tk.self⟩, x.A, x.c⟩ := by
  unfold Tb at h ⊢
  simp [World.setCell, Array.getElem?_modify, h]
theorem Tb.set4 {w : World} {g : Nat} {x : Tw} (h : Tb w g x) (b : Bool) : Tb (w.setCell ⟨g, 4, none⟩ (.bool b)) g ⟨⟨x.tk.kind, x.tk.name, x.tk.data, x.tk.attrs, b⟩, x.A, x.c⟩ := by
  unfold Tb at h ⊢
  simp [World.setCell, Array.getElem?_modify, h]
theorem Tb.set3 {w : World} {g : Nat} {x : Tw} (h : Tb w g x) (A : Option Addr) (c : Nat) (l : List At) : Tb (w.setCell ⟨g, 3, none⟩ (.slice A l.length c)) g ⟨⟨x.tk.kind, x.tk.name, x.tk.data, l, x.tk.self⟩, A, c⟩ := by
  unfold Tb at h ⊢
  simp [World.setCell, Array.getElem?_modify, h]
theorem Tb.over {w : World} {g : Nat} {y : Tw} (h : Tb w g y) (x : Tw) : Tb (((((w.setCell ⟨g, 0, none⟩ (.int .i64 x.tk.kind)).setCell ⟨g, 1, none⟩ (.string x.tk.name)).setCell ⟨g, 2, none⟩ (.string x.tk.data)).setCell ⟨g, 3, none⟩ (.slice x.A x.tk.attrs.length x.c)).setCell ⟨g, 4, none⟩ (.bool x.tk.self)) g x := by
  unfold Tb at h ⊢
  simp [World.setCell, Array.getElem?_modify, h]
theorem below_over {N : Nat} {w w' : World} (h : Below N w w') {g : Nat} (hg : N ≤ g) (a b c d e : Value) : Below N w (((((w'.setCell ⟨g, 0, none⟩ a).setCell ⟨g, 1, none⟩ b).setCell ⟨g, 2, none⟩ c).setCell ⟨g, 3, none⟩ d).setCell ⟨g, 4, none⟩ e) :=
  ((((h.setCell hg _).setCell hg _).setCell hg _).setCell hg _).setCell hg _

/-- A token with a kind and a text alone. -/
abbrev T0 (k : Int) (d : ByteArray) : Tw := ⟨⟨k, ⟨#[]⟩, d, [], false⟩, none, 0⟩
theorem Tb.z {w : World} {g : Nat} {k : Int} {d : ByteArray} (h : Tb w g (T0 k d)) : w.cell? ⟨g, 0, none⟩ = some (.int .i64 k) ∧ w.cell? ⟨g, 1, none⟩ = some (.string ⟨#[]⟩) ∧ w.cell? ⟨g, 2, none⟩ = some (.string d) ∧ w.cell? ⟨g, 3, none⟩ = some (.slice none 0 0) ∧ w.cell? ⟨g, 4, none⟩ = some (.bool false) := h.c

theorem Tb.over0 {w : World} {g : Nat} {y : Tw} (h : Tb w g y) (k : Int) (d : ByteArray) : Tb (((((w.setCell ⟨g, 0, none⟩ (.int .i64 k)).setCell ⟨g, 1, none⟩ (.string ⟨#[]⟩)).setCell ⟨g, 2, none⟩ (.string d)).setCell ⟨g, 3, none⟩ (.slice none 0 0)).setCell ⟨g, 4, none⟩ (.bool false)) g (T0 k d) := h.over (T0 k d)

theorem Tb.off {w w' : World} {g N : Nat} {x : Tw} {v : Value} {l : List At} (h : Tb w g x) (hv : Aw N w v l) (hg : w.grownBy w' v.ownBlock) : Tb w' g x :=
  (hg.block g h.lt (fun e => hv.ne h (by decide) e.symm)).trans h
theorem Aw.below {N : Nat} {w w' : World} {A : Option Addr} {c : Nat} {l : List At} (h : Aw N w (.slice A l.length c) l) (hb : Below w.heap.size w w') : Aw N w' (.slice A l.length c) l := Fr.below (h.fr 0 ⟨#[]⟩ ⟨#[]⟩ false) hb
theorem Aw.ra {N : Nat} {w : World} {A : Option Addr} {c : Nat} {l : List At} (h : Aw N w (.slice A l.length c) l) : Ra w w.heap.size A l := (Fr.att (h.fr 0 ⟨#[]⟩ ⟨#[]⟩ false)).2.2.2.1
theorem Tb.t {w : World} {g : Nat} {nm : ByteArray} {l : List At} {sf : Bool} {A : Option Addr} {c : Nat} (h : Tb w g ⟨⟨0, nm, ⟨#[]⟩, l, sf⟩, A, c⟩) : w.cell? ⟨g, 0, none⟩ = some (.int .i64 0) ∧ w.cell? ⟨g, 1, none⟩ = some (.string nm) ∧ w.cell? ⟨g, 2, none⟩ = some (.string ⟨#[]⟩) ∧ w.cell? ⟨g, 3, none⟩ = some (.slice A l.length c) ∧ w.cell? ⟨g, 4, none⟩ = some (.bool sf) := h.c
theorem Tb.overT {w : World} {g : Nat} {y : Tw} (h : Tb w g y) (nm : ByteArray) (l : List At) (sf : Bool) (A : Option Addr) (c : Nat) : Tb (((((w.setCell ⟨g, 0, none⟩ (.int .i64 0)).setCell ⟨g, 1, none⟩ (.string nm)).setCell ⟨g, 2, none⟩ (.string ⟨#[]⟩)).setCell ⟨g, 3, none⟩ (.slice A l.length c)).setCell ⟨g, 4, none⟩ (.bool sf)) g ⟨⟨0, nm, ⟨#[]⟩, l, sf⟩, A, c⟩ := h.over ⟨⟨0, nm, ⟨#[]⟩, l, sf⟩, A, c⟩
/-- Attributes of the call's own stay where a token's box is written. -/
theorem Aw.boxes {N : Nat} {w : World} {v : Value} {l : List At} {g j : Nat} {x : Tw} (h : Aw N w v l) (hb : Tb w g x) (u : Value) : Aw N (w.setCell ⟨g, j, none⟩ u) v l := h.kept (g_set w g j u) (.inr (h.ne hb (by decide)))
theorem Aw.over {N : Nat} {w : World} {v : Value} {l : List At} {g : Nat} {y : Tw} (h : Aw N w v l) (hb : Tb w g y) (nm : ByteArray) (l' : List At) (sf : Bool) (A : Option Addr) (c : Nat) : Aw N (((((w.setCell ⟨g, 0, none⟩ (.int .i64 0)).setCell ⟨g, 1, none⟩ (.string nm)).setCell ⟨g, 2, none⟩ (.string ⟨#[]⟩)).setCell ⟨g, 3, none⟩ (.slice A l'.length c)).setCell ⟨g, 4, none⟩ (.bool sf)) v l := by
  have h1 := h.boxes hb (j := 0) (.int .i64 0)
  have b1 := hb.set0 0
  have h2 := h1.boxes b1 (j := 1) (.string nm)
  have b2 : Tb ((w.setCell ⟨g, 0, none⟩ (.int .i64 0)).setCell ⟨g, 1, none⟩ (.string nm)) g ⟨⟨0, nm, y.tk.data, y.tk.attrs, y.tk.self⟩, y.A, y.c⟩ := by
    unfold Tb at hb ⊢
    simp [World.setCell, Array.getElem?_modify, hb]
  have h3 := h2.boxes b2 (j := 2) (.string ⟨#[]⟩)
  have b3 := b2.set2 ⟨#[]⟩
  have h4 := h3.boxes b3 (j := 3) (.slice A l'.length c)
  have b4 := b3.set3 A c l'
  exact h4.boxes b4 (j := 4) (.bool sf)

end Go.Proofs.YtdplbcchkjpcdaaGreatDoor.To

namespace Go.Proofs.YtdplbcchkjpcdaaGreatDoor.Bu
set_option maxRecDepth 100000
set_option linter.unusedVariables false
set_option linter.unusedSimpArgs false
open Go.RowKit Ba Fm Fo Nm Bm
open Ro (At Ro Cw ros Fr Ow Rv Att Ap bare cells rowO)
open To (Tw Tb)
/-- Rows of one's own stay when what is of another type grows. -/
theorem ow_apart {N n size : Nat} {e : TypeId} {w w' : World} {v u : Value} {xs : List Value} {l : List Cw} (h : Ow N w v l) (hu : w.ownsRow N e size u n xs) (hg : w.grownBy w' u.ownBlock) (h1 : e ≠ 36) (h2 : e ≠ 66) : Ow N w' v l := by
  refine ⟨World.ownsRow.kept h.1 hg (own_apart h.1 hu h1), fun x hx => ?_⟩
  obtain ⟨ha, hp⟩ := h.2 x hx
  have hne : 0 < x.ro.attrs.length → ∃ b off, x.A = some ⟨b, off, none⟩ ∧ some b ≠ u.ownBlock ∧ (b < N ∨ ∃ cs fr, w.heap[b]? = some (.cells cs 66 fr)) := fun h0 => by
    obtain ⟨b, off, e', hq⟩ := hp h0
    refine ⟨b, off, e', ?_, hq⟩
    rcases hq with hq | ⟨cs, fr, hq⟩
    · exact fun e2 => by have := (World.ownsRow.lt hu b e2.symm).1; omega
    · exact fun e2 => own_ne hu hq h2.symm e2.symm
  refine ⟨⟨ha.1, ha.2.1, ha.2.2.1, fun h0 => ?_, ha.2.2.2.2⟩, fun h0 => ?_⟩
  · obtain ⟨b, off, e1, hb, hc⟩ := ha.2.2.2.1 h0
    obtain ⟨b', off', e2, hn, _⟩ := hne h0
    rw [e1] at e2
    injection e2 with e2
    injection e2 with e3 e4
    subst e3 e4
    exact ⟨b, off, e1, Nat.lt_of_lt_of_le hb hg.size, fun j hj => Ro.range_keep (hc j hj) fun o => World.cell?_of_block (a := ⟨b, o, none⟩) (hg.block b hb hn)⟩
  · obtain ⟨b, off, e1, hn, hq⟩ := hne h0
    refine ⟨b, off, e1, ?_⟩
    rcases hq with hq | ⟨cs, fr, hq⟩
    · exact .inl hq
    · exact .inr ⟨cs, fr, (hg.block b (Array.getElem?_eq_some_iff.1 hq).1 hn).trans hq⟩

/-- A row, with its attributes, written down is put behind one's own: nothing else changes. -/
theorem app_keepY {ops : Array Oper} {rest : List Oper} {o : Oper} {a : Act} {Q : Exit → Act → World → Prop} (w : World) (hgd : o.guard = none) (s x : Operand)
    (ho : o.op = .call { callee := .builtin .append, args := #[s, x], argTypes := #[22, 22] })
    (N : Nat) (v : Value) (l : List Cw) (y : Cw) (hs : a.eval s = v) (hown : Ow N w v l) (hy : Att w w.heap.size y) (hap : Ap w N y) (g : Nat) (hgz : g = w.heap.size) (hx : a.eval x = .slice (some ⟨g, 0, none⟩) 1 1)
    (hl : l.length ≤ 1000000) (hN : N ≤ w.heap.size)
    (h : ∀ v' w', Ow N w' v' (l ++ [y]) → w.grownBy w' v.ownBlock → wpList Tryz.prog ops Q rest (a.put o.dst v') w') :
    wpList Tryz.prog ops Q (o :: rest) a (w.alloc (rowO y)) := by
  subst hgz
  obtain ⟨i0, hi, hz0, hz1, hz2⟩ := info_parts Ro.info_row
  have hown' : Ow N (w.alloc (rowO y)) v l := hown.alloc _
  have hsz : (w.alloc (rowO y)).heap.size = w.heap.size + 1 := by simp
  refine wpList_append_own _ hgd s x 22 ho N 36 i0 _ 5 72 Tryz.underlying22 hi hz0 hz1 hz2 rfl (by decide) v l.length (l.flatMap cells) hs hown'.1 ⟨w.heap.size, 0, none⟩ 1 1 (cells y) hx rfl (Ro.row_cells_new w y) (Ro.cells_one y) (by unfold maxLen; omega) (by omega) (by omega) ?_
  intro v' w' ho2 hg2 _
  refine h v' w' ⟨?_, ?_⟩ ((World.grownBy_alloc _ _ _).trans hg2)
  · rw [List.length_append, List.flatMap_append]
    simpa using ho2
  · intro z hz
    rcases List.mem_append.1 hz with hz | hz
    · exact ⟨(hown'.2 z hz).1.grown hown'.1 hg2 (hown'.2 z hz).2, (hown'.2 z hz).2.grown hown'.1 hg2⟩
    · obtain rfl := List.mem_singleton.1 hz
      have h1 : Att (w.alloc (rowO z)) (w.alloc (rowO z)).heap.size z := hy.boxed (Below.refl _ _) (rowO z)
      have h2 := hap.below (Ro.below_new w (rowO z))
      exact ⟨h1.grown hown'.1 hg2 h2, h2.grown hown'.1 hg2⟩

/-- What is kept while a token is gone over. -/
structure Hold (N : Nat) (w0 wx : World) (vo vr : Value) (b : Nat) (x : Tw) (stk : List ByteArray) (y : List Cw) : Prop where
  opens : Sown N wx vo stk.reverse
  rows : Ow N wx vr y
  box : Tb wx b x
  below : Below N w0 wx
  base : N ≤ b
theorem Hold.size {N : Nat} {w0 wx : World} {vo vr : Value} {b : Nat} {x : Tw} {stk : List ByteArray} {y : List Cw} (h : Hold N w0 wx vo vr b x stk y) : N ≤ wx.heap.size := Nat.le_trans h.base (Nat.le_of_lt h.box.lt)
theorem Hold.calls {N : Nat} {w0 wx w' : World} {vo vr : Value} {b : Nat} {x : Tw} {stk : List ByteArray} {y : List Cw} (h : Hold N w0 wx vo vr b x stk y) (hb : Below wx.heap.size wx w') : Hold N w0 w' vo vr b x stk y :=
  ⟨h.opens.below hb (Nat.le_refl _), h.rows.below hb, h.box.below hb, h.below.trans (hb.mono h.size), h.base⟩
theorem Hold.more_rows {N : Nat} {w0 wx w' : World} {vo vr vr' : Value} {b : Nat} {x : Tw} {stk : List ByteArray} {y y' : List Cw} (h : Hold N w0 wx vo vr b x stk y) (hg : wx.grownBy w' vr.ownBlock) (ho : Ow N w' vr' y') : Hold N w0 w' vo vr' b x stk y' :=
  ⟨World.ownsRow.kept h.opens hg (own_apart h.opens h.rows.1 (by decide)), ho, (hg.block b h.box.lt (fun e => own_ne h.rows.1 h.box (by decide) e.symm)).trans h.box, h.below.grown hg h.size (fun k hk => (World.ownsRow.lt h.rows.1 k hk).1), h.base⟩
theorem Hold.more_opens {N : Nat} {w0 wx w' : World} {vo vo' vr : Value} {b : Nat} {x : Tw} {stk stk' : List ByteArray} {y : List Cw} (h : Hold N w0 wx vo vr b x stk y) (hg : wx.grownBy w' vo.ownBlock) (ho : Sown N w' vo' stk'.reverse) : Hold N w0 w' vo' vr b x stk' y :=
  ⟨ho, ow_apart h.rows h.opens hg (by decide) (by decide), (hg.block b h.box.lt (fun e => own_ne h.opens h.box (by decide) e.symm)).trans h.box, h.below.grown hg h.size (fun k hk => (World.ownsRow.lt h.opens k hk).1), h.base⟩
/-- Other open elements, made by a call. -/
theorem Hold.new_opens {N : Nat} {w0 wx w' : World} {vo vo' vr : Value} {b : Nat} {x : Tw} {stk stk' : List ByteArray} {y : List Cw} (h : Hold N w0 wx vo vr b x stk y) (hb : Below wx.heap.size wx w') (ho : Sown wx.heap.size w' vo' stk'.reverse) : Hold N w0 w' vo' vr b x stk' y :=
  ⟨ho.mono h.size, h.rows.below hb, h.box.below hb, h.below.trans (hb.mono h.size), h.base⟩

end Go.Proofs.YtdplbcchkjpcdaaGreatDoor.Bu

namespace Go.Proofs.YtdplbcchkjpcdaaGreatDoor.Bu
set_option maxRecDepth 100000
set_option linter.unusedVariables false
set_option linter.unusedSimpArgs false
open Go.RowKit Ba Fm Fo Nm Bm
open Ro (At Ro Cw ros Fr Ow Rv bare cells rowO)
open Tm (Tk)
open To (Tw Tb tks tokO)
/-- append of one row, whatever its attributes, onto rows of one's own, at a step of a region. -/
theorem step_app_rowY {ops : Array Oper} {o : Oper} {a : Act} {K : Act → World → Prop} {Q : Exit → Act → World → Prop} {E : Prop} (W : World) (hgd : o.guard = none) (s x : Operand)
    (ho : o.op = .call { callee := .builtin .append, args := #[s, x], argTypes := #[22, 22] })
    (W0 : World) (N : Nat) (v : Value) (l : List Cw) (z : Cw) (hr : Ow N W0 v l) (hz1 : Ro.Att W0 W0.heap.size z) (hz2 : Ro.Ap W0 N z) (hg : W0.grownBy W none) (hN : N ≤ W0.heap.size) (hl : l.length ≤ 2000000)
    (hs : a.eval s = v) (g0 : Nat) (hx : a.eval x = .slice (some ⟨g0, 0, none⟩) 1 1) (hz : W.heap[g0]? = some (rowO z))
    (h : ∀ v' w', Ow N w' v' (l ++ [z]) → W0.grownBy w' v.ownBlock → K (a.put o.dst v') w') :
    if Region.wanted o (yielded ops a.tmps) = true then Oper.wp Tryz.prog o a W K Q else E := by
  obtain ⟨i0, hi, hz0, hz1', hz2'⟩ := info_parts Ro.info_row
  have hown : W.ownsRow N 36 5 v l.length (l.flatMap cells) := World.ownsRow.kept hr.1 hg (by cases hv : v.ownBlock with
    | none => exact .inl rfl
    | some k => right; simp)
  refine step_append_lies W hgd s x 22 ho N 36 i0 _ 5 72 Tryz.underlying22 hi hz0 hz1' hz2' rfl (by decide) v l.length (l.flatMap cells) hs hown ⟨g0, 0, none⟩ 1 1 (cells z) hx rfl (fun j u hu => World.news_of_block hz j u hu) (Ro.cells_one z) (by decide) (by unfold maxLen; omega) (by omega) (Nat.le_trans hN hg.size) _ rfl ?_
  intro g cap w1 h1 h2 _ _
  have hgw : W0.grownBy w1 v.ownBlock := by
    have hlt : ∀ k, v.ownBlock = some k → N ≤ k := fun k hk => (World.ownsRow.lt hr.1 k hk).1
    exact ⟨h2.os.trans hg.os, h2.tape.trans hg.tape, h2.output.trans hg.output, Nat.le_trans hg.size h2.size, fun i hi hne => (h2.block i (Nat.lt_of_lt_of_le hi hg.size) hne).trans (hg.block i hi (by simp))⟩
  refine h _ w1 ⟨by rw [List.length_append, List.flatMap_append]; simpa using h1, fun y hy => ?_⟩ hgw
  rcases List.mem_append.1 hy with hy | hy
  · exact ⟨(hr.2 y hy).1.grown hr.1 hgw (hr.2 y hy).2, (hr.2 y hy).2.grown hr.1 hgw⟩
  · obtain rfl := List.mem_singleton.1 hy
    exact ⟨hz1.grown hr.1 hgw hz2, hz2.grown hr.1 hgw⟩

theorem ap_fr {N K : Nat} {w : World} {x : Cw} (h : Fr N w x) : Ro.Ap w K x := fun h0 => by
  obtain ⟨⟨hl, h⟩, hs⟩ := h
  rcases h with ⟨hv, hn⟩ | ⟨g, cap, cur, hv, hg, hh, _⟩
  · omega
  · injection hv with e1 e2 e3
    exact ⟨g, 0, e1, .inr ⟨_, _, hh⟩⟩
theorem fr_of {N : Nat} {w : World} {A : Option Addr} {c : Nat} {l : List At} (h : To.Aw N w (.slice A l.length c) l) (d k : Int) (n : ByteArray) : Fr N w ⟨⟨d, k, n, ⟨#[]⟩, l⟩, A, c⟩ := ⟨h.1, h.2⟩
theorem refOnce1 (A : Option Addr) (c : Nat) (l ats : List At) (w : World) (hr : Ro.Ra w w.heap.size A l) (hsh : Ro.Sh l) (hc : l.length ≤ c) (hl : l.length ≤ 1000000) (ha : once l = ats) :
    Calls Tryz.prog 32 #[.slice A l.length c] w fun e w' => ∃ A' c', e = .returned (.slice A' ats.length c') ∧ To.Aw w.heap.size w' (.slice A' ats.length c') ats ∧ Below w.heap.size w w' := by
  subst ha
  refine (refOnce_any A c l w hr hsh hc hl).mono ?_
  rintro e w' ⟨v, rfl, h, hb⟩
  obtain ⟨A', c', rfl⟩ := h.form
  exact ⟨A', c', rfl, h, hb⟩
theorem below_drew {w w' : World} (h : Below w.drew.heap.size w.drew w') : Below w.heap.size w w' := bt (show Below w.heap.size w w.drew from below_dN (Below.refl _ _) 1) h
theorem ros_one (y : List Cw) (x : Cw) : ros (y ++ [x]) = ros y ++ [x.ro] := by unfold ros; rw [List.map_append]; rfl

/-- What the reference's Tree keeps from token to token. -/
structure Tr (N : Nat) (w wr : World) (vo vr : Value) (k T : Nat) (stk : List ByteArray) (y : List Cw) : Prop where
  opens : Sown N wr vo stk.reverse
  rows : Ow N wr vr y
  below : Below N w wr
  stkL : stk.length ≤ k
  rowsL : y.length ≤ 4 * k
  data : ∀ z ∈ ros y, z.data.size ≤ T

/-- append of one string onto one's own: nothing else changes. -/
theorem app_strG {ops : Array Oper} {rest : List Oper} {o : Oper} {a : Act} {Q : Exit → Act → World → Prop} (w : World) (hgd : o.guard = none) (s x : Operand)
    (ho : o.op = .call { callee := .builtin .append, args := #[s, x], argTypes := #[39, 39] })
    (N : Nat) (v : Value) (l : List ByteArray) (y : ByteArray) (hs : a.eval s = v) (hown : Sown N w v l) (hx : a.eval x = .slice (some ⟨w.heap.size, 0, none⟩) 1 1)
    (hl : (l.length + 1) * 16 ≤ 140737488355328) (hN : N ≤ w.heap.size)
    (h : ∀ v' w', Sown N w' v' (l ++ [y]) → w.grownBy w' v.ownBlock → wpList Tryz.prog ops Q rest (a.put o.dst v') w') :
    wpList Tryz.prog ops Q (o :: rest) a (w.alloc (.cells #[.string y] 9)) := by
  obtain ⟨i0, hi, hz0, hz1, hz2⟩ := info_parts info_str
  have hown' : Sown N (w.alloc (.cells #[.string y] 9)) v l := hown.alloc _
  have hsz : (w.alloc (.cells #[.string y] 9)).heap.size = w.heap.size + 1 := by simp
  refine wpList_append_own _ hgd s x 39 ho N 9 i0 (.string .empty) 1 16 Tryz.underlying39 hi hz0 hz1 hz2 rfl (by decide) v l.length (l.map sc) hs hown' ⟨w.heap.size, 0, none⟩ 1 1 [.string y] hx rfl (cell_one_new _ _ _) (by intro u hu; simp at hu; subst hu; rfl) (by unfold maxLen; omega) hl (by omega) ?_
  intro v' w' ho2 hg2 _
  exact h v' w' (Sown.appended (m := [y]) ho2 rfl) ((World.grownBy_alloc _ _ _).trans hg2)

theorem p_eq (n : ByteArray) : (n.toList == [112]) = decide (n = n_p) := by
  have e1 : n_p.toList = [112] := by rw [toList_L]
  rw [← e1, eq_of_toList]
/-- What the four parts of a round come to is a step. -/
theorem step_all {x : Tk} {stk stk3 stk4 : List ByteArray} {o o1 o2 o3 o4 : List Ro} (h1 : o1 = if (x.kind == 0 && !x.data.toList.isEmpty) = true then addText o stk.length x.data else o)
    (h2 : o2 = if (x.kind == 3) = true then o1 ++ [⟨stk.length, 2, ⟨#[]⟩, x.data, []⟩] else o1)
    (h3 : if (x.kind == 1 && !noName x.name) = true then stk3 = (if isIn x.name voidL = true then openedS x.name stk else x.name :: openedS x.name stk) ∧ o3 = o2 ++ [⟨(openedS x.name stk).length, 0, x.name, ⟨#[]⟩, once x.attrs⟩] else stk3 = stk ∧ o3 = o2)
    (h4 : if (x.kind == 2 && !noName x.name && !isIn x.name voidL) = true then (match findS [x.name] (endWalls x.name) stk3 with | some r => stk4 = r ∧ o4 = o3 | none => stk4 = stk3 ∧ o4 = if x.name = n_p then o3 ++ [⟨stk3.length, 0, n_p, ⟨#[]⟩, []⟩] else o3) else stk4 = stk3 ∧ o4 = o3) :
    (⟨stk4, o4⟩ : St) = stepB ⟨stk, o⟩ x := by
  unfold stepB
  have be : ∀ k : Int, (x.kind == k) = decide (x.kind = k) := fun k => rfl
  simp only [be] at h1 h2 h3 h4
  by_cases k0 : x.kind = 0
  · have k1 : ¬ x.kind = 1 := by omega
    have k2 : ¬ x.kind = 2 := by omega
    have k3 : ¬ x.kind = 3 := by omega
    simp only [k0, decide_true, Bool.true_and] at h1
    simp only [k1, k2, k3, decide_false, Bool.false_and, Bool.false_eq_true, if_false] at h2 h3 h4
    obtain ⟨rfl, rfl⟩ := h4
    obtain ⟨rfl, rfl⟩ := h3
    subst h2
    rw [if_pos k0, h1, empty_eq]
    by_cases hd : x.data = ⟨#[]⟩
    · rw [if_pos hd, decide_eq_true hd, if_neg (by simp)]
    · rw [if_neg hd, decide_eq_false hd, if_pos (by simp)]
  simp only [k0, decide_false, Bool.false_and, Bool.false_eq_true, if_false] at h1
  rw [if_neg k0]
  subst h1
  by_cases k3 : x.kind = 3
  · have k1 : ¬ x.kind = 1 := by omega
    have k2 : ¬ x.kind = 2 := by omega
    simp only [k3, decide_true, if_true] at h2
    simp only [k1, k2, decide_false, Bool.false_and, Bool.false_eq_true, if_false] at h3 h4
    obtain ⟨rfl, rfl⟩ := h4
    obtain ⟨rfl, rfl⟩ := h3
    rw [if_pos k3, h2]
  simp only [k3, decide_false, Bool.false_eq_true, if_false] at h2
  rw [if_neg k3]
  subst h2
  by_cases k1 : x.kind = 1
  · have k2 : ¬ x.kind = 2 := by omega
    simp only [k2, decide_false, Bool.false_and, Bool.false_eq_true, if_false] at h4
    obtain ⟨rfl, rfl⟩ := h4
    rw [if_pos k1]
    simp only [k1, decide_true, Bool.true_and] at h3
    by_cases hn : noName x.name = true
    · rw [if_pos hn]
      rw [hn, if_neg (by simp)] at h3
      obtain ⟨rfl, rfl⟩ := h3
      rfl
    · rw [if_neg hn]
      rw [if_pos (by simpa using hn)] at h3
      obtain ⟨rfl, rfl⟩ := h3
      rfl
  simp only [k1, decide_false, Bool.false_and, Bool.false_eq_true, if_false] at h3
  rw [if_neg k1]
  obtain ⟨rfl, rfl⟩ := h3
  by_cases k2 : x.kind = 2
  · rw [if_pos k2]
    simp only [k2, decide_true, Bool.true_and] at h4
    by_cases hn : noName x.name = true ∨ isIn x.name voidL = true
    · rw [if_pos hn]
      rw [if_neg (by rcases hn with e | e <;> simp [e])] at h4
      obtain ⟨rfl, rfl⟩ := h4
      rfl
    · rw [if_neg hn]
      rw [if_pos (by rw [Bool.and_eq_true, Bool.not_eq_true', Bool.not_eq_true']; exact ⟨by simpa using fun e => hn (.inl e), by simpa using fun e => hn (.inr e)⟩)] at h4
      cases hf : findS [x.name] (endWalls x.name) stk3 with
      | some r =>
        rw [hf] at h4
        obtain ⟨rfl, rfl⟩ := h4
        rfl
      | none =>
        rw [hf] at h4
        obtain ⟨rfl, rfl⟩ := h4
        show _ = if x.name = n_p then _ else _
        by_cases e : x.name = n_p
        · rw [if_pos e, if_pos e]
        · rw [if_neg e, if_neg e]
  · simp only [k2, decide_false, Bool.false_and, Bool.false_eq_true, if_false] at h4
    obtain ⟨rfl, rfl⟩ := h4
    rw [if_neg k2]

theorem add_data {T : Nat} {o : List Ro} {d : Int} {t : ByteArray} (h : ∀ z ∈ o, z.data.size ≤ T) : ∀ z ∈ addText o d t, z.data.size ≤ T + t.size := by
  intro z hz
  unfold addText at hz
  have hsnoc : ∀ {u : Ro}, z ∈ o ++ [u] → u.data.size ≤ T + t.size → z.data.size ≤ T + t.size := fun {u} hm hu => by
    rcases List.mem_append.1 hm with e | e
    · have := h z e; omega
    · rw [List.mem_singleton.1 e]; exact hu
  cases hl : o.getLast? with
  | none =>
    rw [hl] at hz
    exact hsnoc hz (by show t.size ≤ _; omega)
  | some y =>
    rw [hl] at hz
    have hy := h y (List.mem_of_getLast? hl)
    change z ∈ (if y.kind = 1 ∧ y.depth = d then _ else _) at hz
    split at hz
    · rcases List.mem_append.1 hz with e | e
      · have := h z (List.dropLast_subset _ e); omega
      · rw [List.mem_singleton.1 e]
        show (y.data ++ t).size ≤ _
        rw [ByteArray.size_append]; omega
    · exact hsnoc hz (by show t.size ≤ _; omega)
theorem data_step {T : Nat} {st : St} {t : Tk} (h : ∀ z ∈ st.out, z.data.size ≤ T) : ∀ z ∈ (stepB st t).out, z.data.size ≤ T + t.data.size := by
  have hsame : ∀ z ∈ st.out, z.data.size ≤ T + t.data.size := fun z hz => by have := h z hz; omega
  have hsnoc : ∀ u : Ro, u.data.size ≤ T + t.data.size → ∀ z ∈ st.out ++ [u], z.data.size ≤ T + t.data.size := fun u hu z hm => by
    rcases List.mem_append.1 hm with e | e
    · exact hsame z e
    · rw [List.mem_singleton.1 e]; exact hu
  have h0 : (⟨#[]⟩ : ByteArray).size ≤ T + t.data.size := Nat.zero_le _
  unfold stepB
  split
  · split
    · exact hsame
    · exact add_data h
  split
  · exact hsnoc _ (Nat.le_add_left _ _)
  split
  · split
    · exact hsame
    · exact hsnoc _ h0
  split
  · split
    · exact hsame
    · split
      · exact hsame
      · split
        · exact hsnoc _ h0
        · exact hsame
  · exact hsame
theorem add_len (o : List Ro) (d : Int) (t : ByteArray) : (addText o d t).length ≤ o.length + 1 := (add_mem (P := fun _ => True) (fun _ _ => trivial) trivial).2
theorem len_if {b : Bool} {o a : List Ro} {q : List Ro} (h : q = if b = true then a else o) {n : Nat} (ha : a.length ≤ n) (ho : o.length ≤ n) : q.length ≤ n := by
  rw [h]; split <;> assumption

/-- What the reference's Tree comes to. -/
def RefSays (w : World) (t : List Tk) (e : Ending) (w' : World) : Prop :=
  (match treeB ⟨[], []⟩ t with
  | none => e = .returned (.tuple #[.slice none 0 0, .int .i64 2])
  | some o => ∃ v y, e = .returned (.tuple #[v, .int .i64 0]) ∧ Ow w.heap.size w' v y ∧ ros y = o) ∧ Below w.heap.size w w'
theorem RefSays.no {w w' : World} {t : List Tk} {e : Ending} (h : treeB ⟨[], []⟩ t = none) (he : e = .returned (.tuple #[.slice none 0 0, .int .i64 2])) (hb : Below w.heap.size w w') : RefSays w t e w' := by
  refine ⟨?_, hb⟩
  rw [h]
  exact he
theorem RefSays.yes {w w' : World} {t : List Tk} {e : Ending} {o : List Ro} (h : treeB ⟨[], []⟩ t = some o) (he : ∃ v y, e = .returned (.tuple #[v, .int .i64 0]) ∧ Ow w.heap.size w' v y ∧ ros y = o) (hb : Below w.heap.size w w') : RefSays w t e w' := by
  refine ⟨?_, hb⟩
  rw [h]
  exact he

set_option maxRecDepth 100000 in
set_option maxHeartbeats 4000000 in
theorem refTree_any (A : Option Addr) (c : Nat) (l : List Tw) (w : World) (hr : To.Rr w w.heap.size A l) (hc : l.length ≤ c) (hl : l.length ≤ 200000) (hd : dsum (tks l) ≤ 1000000000) (hat : ∀ x ∈ l, x.tk.attrs.length ≤ 1000000) :
    Calls Tryz.prog 12 #[.slice A l.length c] w fun e w' => RefSays w (tks l) e w' := by
  have HR := Lib.hid hr
  have HM1 := Lib.hid (Sown.made w)
  have HM2 := Lib.hid (show Ow w.heap.size ((w.alloc (.cells #[] 9)).alloc (.cells #[] 36)) (.slice (some ⟨w.heap.size + 1, 0, none⟩) 0 0) [] from by
    have h := Ro.Ow.made (w.alloc (.cells #[] 9))
    have e : (w.alloc (.cells #[] 9)).heap.size = w.heap.size + 1 := by simp
    rw [e] at h
    exact h.mono (Nat.le_succ _) (fun _ h => by cases h))
  clear hr
  go_enter Tryz.func12, Tryz.ntmps12
  go_wp2
  go_loopw [4, 5, 6] (fun vo vr i wr => ∃ (k T : Nat) (stk : List ByteArray) (y : List Cw), i = .int .i64 k ∧ k ≤ l.length ∧ Tr w.heap.size w wr vo vr k T stk y ∧ treeB ⟨[], []⟩ (tks l) = treeB ⟨stk, ros y⟩ ((tks l).drop k) ∧ T + dsum ((tks l).drop k) ≤ 1000000000) (fun _ _ i _ => l.length - (intOf i).toNat)
  case atStart =>
    refine ⟨0, 0, [], [], rfl, Nat.zero_le _, ⟨HM1.out.alloc _, HM2.out, (below_one w _).trans ((below_one (w.alloc (.cells #[] 9)) _).mono (Nat.le_of_lt (by simp))), Nat.le_refl _, Nat.zero_le _, (fun z h => by cases h)⟩, by rw [List.drop_zero]; rfl, by rw [List.drop_zero]; omega⟩
  case round =>
    obtain ⟨k, T, stk, y, rfl, hk, htr, heq, hT⟩ := hrel
    by_cases hp : k < l.length
    · obtain ⟨b, off, x, rfl, hb, hdx, hx, hxa, hxm⟩ := (HR.out.below htr.below).at_ k hp
      obtain ⟨x0, x1, x2, x3, x4⟩ := Ro.range5 hx
      have hbx := Tb.new wr x
      obtain ⟨Ao, co, hvo, hco, hmo, hro⟩ := Sown.form htr.opens
      rw [List.length_reverse] at hvo hco
      subst hvo
      have hsl := htr.stkL; have hrl := htr.rowsL
      have hdr : (tks l).drop k = x.tk :: (tks l).drop (k + 1) := by rw [To.tks_drop, hdx, To.tks_cons, ← To.tks_drop]
      have HDR := Lib.hid hdr
      have hal := hat x hxm
      have hTx : T + x.tk.data.size ≤ 1000000000 := by
        rw [hdr] at hT
        have : dsum (x.tk :: (tks l).drop (k + 1)) = x.tk.data.size + dsum ((tks l).drop (k + 1)) := rfl
        omega
      have hjs : ∀ z, (ros y).getLast? = some z → z.data.size + x.tk.data.size ≤ 140737488351232 := fun z hz => by
        have := htr.data z (List.mem_of_getLast? hz)
        omega
      have HS0 := Lib.hid hjs
      have HOLD0 := Lib.hid (show ∀ W, wr.alloc (tokO x) = W → Hold w.heap.size w W (.slice Ao stk.length co) u5 wr.heap.size x stk y from fun W e => by
        subst e
        exact ⟨Sown.alloc htr.opens _, htr.rows.alloc _, hbx, htr.below.trans ((below_one wr _).mono htr.below.size), htr.below.size⟩)
      clear hdr hjs
      have HTR := Lib.hid htr; have HEQ := Lib.hid heq; have HT := Lib.hid hT; have HDX := Lib.hid hdx; have HXA := Lib.hid hxa; have HXM := Lib.hid hxm
      obtain ⟨q0, q1, q2, q3, q4⟩ := hbx.c
      have HBX := Lib.hid hbx
      clear htr heq hT hdx hx hxa hxm hbx hb
      go_upto_region 6 with fail
      have hwz : wr.heap.size < (wr.alloc (tokO x)).heap.size := by simp
      obtain ⟨W, hW⟩ : ∃ W, wr.alloc (.cells #[.int .i64 x.tk.kind, .string x.tk.name, .string x.tk.data, .slice x.A x.tk.attrs.length x.c, .bool x.tk.self] 44) = W := ⟨_, rfl⟩
      rw [hW] at q0 q1 q2 q3 q4 hwz
      rw [hW]
      have HW := Lib.hid (HOLD0.out W hW)
      clear hW
      have HQ1 := Lib.hid q1
      have hnn : noName x.tk.name = (x.tk.name.toList.isEmpty || isIn x.tk.name goneL) := by rw [empty_eq]; rfl
      have HNN := Lib.hid hnn
      clear hnn
      go_cut [8] from 23 to 31 (fun s8 wx => s8 = .bool (noName x.tk.name) ∧ Below W.heap.size W wx)
      case first =>
        cases gE : x.tk.name.toList.isEmpty with
        | true =>
          go_quiet (fail)
          go_wp2
          go_meet
          exact ⟨by rw [HNN.out, gE]; rfl, below_dN (Below.refl _ _) _⟩
        | false =>
          obtain ⟨q, hq⟩ : ∃ q, isIn x.tk.name goneL = q := ⟨_, rfl⟩
          have HQ := Lib.hid hq
          clear hq
          go_region_held3 (fun w' => w'.cell? ⟨wr.heap.size, 1, none⟩ = some (.string x.tk.name)) (first | exact d1 | exact HQ1.out | go_keep) (first
            | (go_at_call 29; refine (Na.refGone_any _).mono ?_; rintro e w2 ⟨v2, rfl, s2, b2⟩; have d1 := (b2.cell (p := ⟨wr.heap.size, 1, none⟩) hwz).trans HQ1.out; have HS2 := Lib.hid s2; have HB2 := Lib.hid b2; clear s2 b2)
            | (go_at_call 28; refine (refHas1 _ goneL _ _ (sv_own HS2.out) (by decide) q HQ.out).mono ?_; rintro e w3 ⟨rfl, rfl⟩))
          all_goals (go_wp2; go_meet; exact ⟨by rw [HNN.out, gE, HQ.out]; rfl, by first | exact HB2.out | exact below_dN HB2.out _ | exact ⟨HB2.out.os, HB2.out.tape, HB2.out.output, HB2.out.size, HB2.out.block⟩⟩)
      case rest =>
        obtain ⟨rfl, hb2⟩ := hcut
        have HH := Lib.hid (HW.out.calls hb2)
        clear hb2 HQ1 q0 q1 q2 q3 q4 x0 x1 x2 x3 x4 hwz
        obtain ⟨q0, q1, q2, q3, q4⟩ := HH.out.box.c
        have HS1 := HS0
        go_upto_region 7 with fail
        rename World => W2
        go_cut [39] from 32 to 39 (fun s wx => s = .bool ((x.tk.kind == 0) && !x.tk.data.toList.isEmpty) ∧ wx = W2)
        case first =>
          cases g0 : x.tk.kind == 0 with
          | false =>
            go_wp2
            go_meet
            exact ⟨by rw [g0]; rfl, rfl⟩
          | true =>
            cases gd : x.tk.data.toList.isEmpty with
            | true =>
              go_wp2
              go_meet
              exact ⟨by rw [g0, gd]; rfl, rfl⟩
            | false =>
              go_wp2
              go_meet
              exact ⟨by rw [g0, gd]; rfl, rfl⟩
        case rest =>
        obtain ⟨rfl, rfl⟩ := hcut
        obtain ⟨g7, hg7⟩ : ∃ g7, ((x.tk.kind == 0) && !x.tk.data.toList.isEmpty) = g7 := ⟨_, rfl⟩
        rw [hg7]
        have HG7 := Lib.hid hg7
        clear hg7
        go_upto_if 39 with (fail)
        go_cut [5] from 40 to 46 (fun v5 wx => ∃ y', Hold w.heap.size w wx (.slice Ao stk.length co) v5 wr.heap.size x stk y' ∧ ros y' = if g7 = true then addText (ros y) stk.length x.tk.data else ros y)
        case first =>
          cases g7 with
          | false =>
            go_wp2
            go_meet
            exact ⟨y, HH.out, rfl⟩
          | true =>
            go_wp2_with fail
            refine (refJoined_any w.heap.size u5 y stk.length x.tk.data _ HH.out.rows HH.out.size (by omega) HS1.out).mono ?_
            rintro e w3 ⟨v3, y3, rfl, ho3, hr3, hg3⟩
            have H3 := Lib.hid (HH.out.more_rows hg3 ho3); have HR3 := Lib.hid hr3
            clear ho3 hr3 hg3
            go_wp2
            go_meet
            exact ⟨y3, H3.out, HR3.out⟩
        case rest =>
        obtain ⟨y1, hh1, hr1⟩ := hcut
        have hl1 : y1.length ≤ 4 * k + 1 := by
          rw [← Ro.len_ros]
          exact len_if hr1 (Nat.le_trans (add_len _ _ _) (by rw [Ro.len_ros]; omega)) (by rw [Ro.len_ros]; omega)
        have HH1 := Lib.hid hh1; have HR1 := Lib.hid hr1
        clear hh1 hr1 q0 q1 q2 q3 q4
        obtain ⟨q0, q1, q2, q3, q4⟩ := HH1.out.box.c
        obtain ⟨g9, hg9⟩ : ∃ g9, (x.tk.kind == 3) = g9 := ⟨_, rfl⟩
        go_upto_if 49 with (fail)
        have HG9 := Lib.hid hg9
        clear hg9
        go_cut [5] from 50 to 57 (fun v5 wx => ∃ y2, Hold w.heap.size w wx (.slice Ao stk.length co) v5 wr.heap.size x stk y2 ∧ ros y2 = if g9 = true then ros y1 ++ [⟨stk.length, 2, ⟨#[]⟩, x.tk.data, []⟩] else ros y1)
        case first =>
          cases g9 with
          | false =>
            go_wp2
            go_meet
            exact ⟨y1, HH1.out, rfl⟩
          | true =>
            go_wp2_with (at_builtin; go_loud (refine app_keepY _ rfl (.tmp 50) (.tmp 56) rfl w.heap.size _ y1 (bare ⟨stk.length, 2, ⟨#[]⟩, x.tk.data, []⟩) rfl HH1.out.rows (Ro.bare_att _ _ rfl) (Ro.bare_ap _ _ rfl) _ rfl rfl (by omega) HH1.out.size ?_); intro v4 w4 hown4 hg4)
            go_meet
            exact ⟨_, HH1.out.more_rows hg4 hown4, ros_bare1 _ _⟩
        case rest =>
        obtain ⟨y2, hh2, hr2⟩ := hcut
        have hl2 : y2.length ≤ 4 * k + 2 := by
          rw [← Ro.len_ros]
          exact len_if hr2 (by rw [List.length_append, Ro.len_ros]; simp only [List.length_cons, List.length_nil]; omega) (by rw [Ro.len_ros]; omega)
        have HH2 := Lib.hid hh2; have HR2 := Lib.hid hr2
        clear hh2 hr2 q0 q1 q2 q3 q4
        obtain ⟨q0, q1, q2, q3, q4⟩ := HH2.out.box.c
        obtain ⟨nn, hnn2⟩ : ∃ nn, noName x.tk.name = nn := ⟨_, rfl⟩
        rw [hnn2]
        have HN2 := Lib.hid hnn2
        clear hnn2
        go_upto_region 11 with fail
        rename World => W3
        go_cut [64] from 61 to 64 (fun s wx => s = .bool ((x.tk.kind == 1) && !nn) ∧ wx = W3)
        case first =>
          cases g0 : x.tk.kind == 1 with
          | false =>
            go_wp2
            go_meet
            exact ⟨by rw [g0]; rfl, rfl⟩
          | true =>
            go_wp2
            go_meet
            exact ⟨by rw [g0]; rfl, rfl⟩
        case rest =>
        obtain ⟨rfl, rfl⟩ := hcut
        obtain ⟨g11, hg11⟩ : ∃ g11, ((x.tk.kind == 1) && !nn) = g11 := ⟨_, rfl⟩
        rw [hg11]
        have HG11 := Lib.hid hg11
        clear hg11
        go_upto_if 64 with (fail)
        go_cut [4, 5] from 65 to 89 (fun v4 v5 wx => ∃ stk3 y3, Hold w.heap.size w wx v4 v5 wr.heap.size x stk3 y3 ∧ (if g11 = true then stk3 = (if isIn x.tk.name voidL = true then openedS x.tk.name stk else x.tk.name :: openedS x.tk.name stk) ∧ ros y3 = ros y2 ++ [⟨(openedS x.tk.name stk).length, 0, x.tk.name, ⟨#[]⟩, once x.tk.attrs⟩] else stk3 = stk ∧ ros y3 = ros y2))
        case first =>
          cases g11 with
          | false =>
            go_wp2
            go_meet
            exact ⟨stk, y2, HH2.out, rfl, rfl⟩
          | true =>
            go_wp2_with fail
            refine (refOpened_any _ stk.reverse x.tk.name _ (by rw [List.length_reverse]; omega) (sv_own HH2.out.opens)).mono ?_
            rintro e w3 ⟨v3, rfl, s3, b3⟩
            rw [List.reverse_reverse] at s3
            obtain ⟨s4, hs4⟩ : ∃ s4, openedS x.tk.name stk = s4 := ⟨_, rfl⟩
            have hs4l : s4.length ≤ k := by rw [← hs4]; exact Nat.le_trans (openedS_suffix _ _).length_le hsl
            rw [hs4] at s3
            have HH3 := Lib.hid (HH2.out.new_opens b3 s3)
            obtain ⟨A3, c3, hv3, hc3, _, _⟩ := Sown.form s3
            rw [List.length_reverse] at hv3
            subst hv3
            have HS4 := Lib.hid hs4
            clear s3 b3 hs4 q0 q1 q2 q3 q4
            obtain ⟨q0, q1, q2, q3, q4⟩ := HH3.out.box.c
            have HXW := Lib.hid ((HR.out.2 x HXM.out).below HH3.out.below)
            have HQ13 := Lib.hid (show w3.cell? ⟨wr.heap.size, 1, none⟩ = some (.string x.tk.name) ∧ w3.cell? ⟨wr.heap.size, 3, none⟩ = some (.slice x.A x.tk.attrs.length x.c) from ⟨q1, q3⟩)
            have hbl := HH3.out.box.lt
            obtain ⟨ats, has⟩ : ∃ ats, once x.tk.attrs = ats := ⟨_, rfl⟩
            have HAS := Lib.hid has
            clear has
            go_upto_region 13 with fail
            go_cut [5] from 69 to 79 (fun v5 wx => ∃ y3, Hold w.heap.size w wx (.slice A3 s4.length c3) v5 wr.heap.size x s4 y3 ∧ ros y3 = ros y2 ++ [⟨(s4.length : Nat), 0, x.tk.name, ⟨#[]⟩, ats⟩])
            case first =>
              go_region_held3 (fun w' => w'.cell? ⟨wr.heap.size, 1, none⟩ = some (.string x.tk.name) ∧ w'.cell? ⟨wr.heap.size, 3, none⟩ = some (.slice x.A x.tk.attrs.length x.c)) (first | exact d13 | exact HQ13.out | go_keep) (first
                | (go_at_call 32; refine (refOnce1 x.A x.c x.tk.attrs ats w3.drew (by exact HXW.out.2.2.2.1.more HH3.out.size) HXW.out.2.2.2.2 HXW.out.1 hal HAS.out).mono ?_; rintro e w5 ⟨A5, c5, rfl, ha5, b5⟩; have d13 : w5.cell? ⟨wr.heap.size, 1, none⟩ = some (.string x.tk.name) ∧ w5.cell? ⟨wr.heap.size, 3, none⟩ = some (.slice x.A x.tk.attrs.length x.c) := ⟨(b5.cell (p := ⟨wr.heap.size, 1, none⟩) hbl).trans HQ13.out.1, (b5.cell (p := ⟨wr.heap.size, 3, none⟩) hbl).trans HQ13.out.2⟩; have HA5 := Lib.hid ha5; have HH5 := Lib.hid (HH3.out.calls (below_drew b5)); clear ha5 b5)
                | (refine step_app_rowY _ (by rfl) (.tmp 69) (.tmp 78) (by rfl) w5 w.heap.size _ y2 ⟨⟨(s4.length : Nat), 0, x.tk.name, ⟨#[]⟩, ats⟩, A5, c5⟩ HH5.out.rows (fr_of HA5.out _ _ _).att (ap_fr (fr_of HA5.out _ _ _)) (by first | exact World.grownBy_alloc w5 _ _ | exact (g_dN w5 1 _).trans (World.grownBy_alloc _ _ _) | exact (World.grownBy_alloc w5 _ _).trans (g_dN _ 1 _)) HH5.out.size (by omega) (by simp [Act.eval, Act.put]) _ (by simp [Act.eval, Act.put]) (World.alloc_heap_new _ _) ?_; intro v6 w6 ho6 hg6; have h6 := HH5.out.more_rows hg6 ho6; have d13 : w6.cell? ⟨wr.heap.size, 1, none⟩ = some (.string x.tk.name) ∧ w6.cell? ⟨wr.heap.size, 3, none⟩ = some (.slice x.A x.tk.attrs.length x.c) := ⟨h6.box.c.2.1, h6.box.c.2.2.2.1⟩; have HH6 := Lib.hid h6; clear h6 ho6 hg6))
              all_goals go_wp2
              all_goals go_meet
              all_goals exact ⟨_, HH6.out, ros_one _ _⟩
            case rest =>
              obtain ⟨y3, hh13, hr13⟩ := hcut
              rename World => W13
              have HH13 := Lib.hid hh13; have HR13 := Lib.hid hr13
              clear hh13 hr13 q0 q1 q2 q3 q4 HQ13 HXW
              obtain ⟨q0, q1, q2, q3, q4⟩ := HH13.out.box.c
              obtain ⟨vq, hvq⟩ : ∃ vq, isIn x.tk.name voidL = vq := ⟨_, rfl⟩
              have HV := Lib.hid hvq; have HQ1b := Lib.hid q1
              have hwz := HH13.out.box.lt
              clear hvq
              go_upto_region 14 with fail
              go_cut [84] from 80 to 84 (fun s wx => s = .bool (!vq) ∧ Below W13.heap.size W13 wx)
              case first =>
                go_region_held3 (fun w' => w'.cell? ⟨wr.heap.size, 1, none⟩ = some (.string x.tk.name)) (first | exact d1 | exact HQ1b.out | go_keep) (first
                  | (go_at_call 33; refine (Na.refVoid_any _).mono ?_; rintro e w5 ⟨v5, rfl, s5, b5⟩; have d1 := (b5.cell (p := ⟨wr.heap.size, 1, none⟩) hwz).trans HQ1b.out; have HS5 := Lib.hid s5; have HB5 := Lib.hid (below_drew b5); clear s5 b5)
                  | (go_at_call 28; refine (refHas1 _ voidL _ _ (sv_own HS5.out) (by decide) vq HV.out).mono ?_; rintro e w6 ⟨rfl, rfl⟩))
                all_goals (go_wp2; go_meet; exact ⟨rfl, by first | exact HB5.out | exact below_dN HB5.out _⟩)
              case rest =>
                obtain ⟨rfl, hb14⟩ := hcut
                rename World => W14
                have HH14 := Lib.hid (HH13.out.calls hb14)
                clear hb14 q0 q1 q2 q3 q4 HQ1b
                obtain ⟨q0, q1, q2, q3, q4⟩ := HH14.out.box.c
                cases vq with
                | true =>
                  go_wp2
                  go_meet
                  exact ⟨s4, y3, HH14.out, by rw [if_pos HV.out]; exact HS4.out.symm, by rw [HR13.out, HAS.out, HS4.out]⟩
                | false =>
                  go_wp2_with (at_builtin; go_loud (refine app_strG _ rfl (.tmp 85) (.tmp 88) rfl w.heap.size _ s4.reverse x.tk.name rfl HH14.out.opens rfl (by rw [List.length_reverse]; omega) HH14.out.size ?_); intro v6 w6 ho6 hg6)
                  go_meet
                  exact ⟨x.tk.name :: s4, y3, HH14.out.more_opens hg6 (by rw [List.reverse_cons]; exact ho6), by rw [if_neg (by rw [HV.out]; simp)]; exact congrArg _ HS4.out.symm, by rw [HR13.out, HAS.out, HS4.out]⟩
        case rest =>
        obtain ⟨stk3, y3, hh3, hif3⟩ := hcut
        rename World => W15
        have hs3 : stk3.length ≤ k + 1 := by
          cases g11 with
          | false => rw [if_neg (by simp)] at hif3; rw [hif3.1]; omega
          | true =>
            rw [if_pos rfl] at hif3
            have := (openedS_suffix x.tk.name stk).length_le
            rw [hif3.1]
            split
            · omega
            · rw [List.length_cons]; omega
        have hl3 : y3.length ≤ 4 * k + 3 := by
          rw [← Ro.len_ros]
          cases g11 with
          | false => rw [if_neg (by simp)] at hif3; rw [hif3.2, Ro.len_ros]; omega
          | true =>
            rw [if_pos rfl] at hif3
            rw [hif3.2, List.length_append, Ro.len_ros]
            simp only [List.length_cons, List.length_nil]
            omega
        have HH3 := Lib.hid hh3; have HIF3 := Lib.hid hif3
        clear hh3 hif3 q0 q1 q2 q3 q4
        obtain ⟨q0, q1, q2, q3, q4⟩ := HH3.out.box.c
        obtain ⟨A3, c3, hv3, hc3, _, _⟩ := Sown.form HH3.out.opens
        rw [List.length_reverse] at hv3
        subst hv3
        obtain ⟨vq, hvq⟩ : ∃ vq, isIn x.tk.name voidL = vq := ⟨_, rfl⟩
        have HV := Lib.hid hvq; have HQ1c := Lib.hid q1
        have hwz := HH3.out.box.lt
        clear hvq
        go_upto_region 16 with fail
        go_cut [103] from 90 to 103 (fun s wx => s = .bool ((x.tk.kind == 2) && !nn && !vq) ∧ Below W15.heap.size W15 wx)
        case first =>
          cases g0 : x.tk.kind == 2 with
          | false =>
            go_quiet (fail)
            go_wp2
            go_meet
            exact ⟨by rw [g0]; rfl, below_dN (Below.refl _ _) _⟩
          | true =>
            cases nn with
            | true =>
              go_quiet (fail)
              go_wp2
              go_meet
              exact ⟨by rw [g0]; rfl, below_dN (Below.refl _ _) _⟩
            | false =>
              go_region_held3 (fun w' => w'.cell? ⟨wr.heap.size, 1, none⟩ = some (.string x.tk.name) ∧ w'.cell? ⟨wr.heap.size, 0, none⟩ = some (.int .i64 x.tk.kind)) (first | exact d1 | exact ⟨HQ1c.out, q0⟩ | go_keep) (first
                | (go_at_call 33; refine (Na.refVoid_any _).mono ?_; rintro e w5 ⟨v5, rfl, s5, b5⟩; have d1 : w5.cell? ⟨wr.heap.size, 1, none⟩ = some (.string x.tk.name) ∧ w5.cell? ⟨wr.heap.size, 0, none⟩ = some (.int .i64 x.tk.kind) := ⟨(b5.cell (p := ⟨wr.heap.size, 1, none⟩) hwz).trans HQ1c.out, (b5.cell (p := ⟨wr.heap.size, 0, none⟩) hwz).trans q0⟩; have HS5 := Lib.hid s5; have HB5 := Lib.hid (below_drew b5); clear s5 b5)
                | (go_at_call 28; refine (refHas1 _ voidL _ _ (sv_own HS5.out) (by decide) vq HV.out).mono ?_; rintro e w6 ⟨rfl, rfl⟩))
              all_goals (go_wp2; go_meet; exact ⟨by rw [g0]; rfl, by first | exact HB5.out | exact below_dN HB5.out _⟩)
        case rest =>
        obtain ⟨rfl, hb16⟩ := hcut
        rename World => W16
        have HH16 := Lib.hid (HH3.out.calls hb16)
        clear hb16 q0 q1 q2 q3 q4 HQ1c
        obtain ⟨q0, q1, q2, q3, q4⟩ := HH16.out.box.c
        obtain ⟨g12, hg12⟩ : ∃ g12, ((x.tk.kind == 2) && !nn && !vq) = g12 := ⟨_, rfl⟩
        rw [hg12]
        have HG12 := Lib.hid hg12
        clear hg12
        go_upto_if 103 with (fail)
        go_cut [4, 5] from 104 to 124 (fun v4 v5 wx => ∃ stk5 y5, Hold w.heap.size w wx v4 v5 wr.heap.size x stk5 y5 ∧ (if g12 = true then (match findS [x.tk.name] (endWalls x.tk.name) stk3 with | some r => stk5 = r ∧ ros y5 = ros y3 | none => stk5 = stk3 ∧ ros y5 = if x.tk.name = n_p then ros y3 ++ [⟨stk3.length, 0, n_p, ⟨#[]⟩, []⟩] else ros y3) else stk5 = stk3 ∧ ros y5 = ros y3))
        case first =>
          cases g12 with
          | false =>
            go_wp2
            go_meet
            exact ⟨stk3, y3, HH16.out, rfl, rfl⟩
          | true =>
            have gp : (x.tk.name.toList == [112]) = decide (x.tk.name = n_p) := p_eq _
            cases hf : findS [x.tk.name] (endWalls x.tk.name) stk3 with
            | some r =>
              go_wp2_with fail
              refine (refEnded_any _ stk3.reverse x.tk.name _ (by rw [List.length_reverse]; omega) (sv_own HH16.out.opens)).mono ?_
              rintro e w5 he
              rw [EndSays, List.reverse_reverse, hf] at he
              obtain ⟨⟨v5, rfl, s5⟩, b5⟩ := he
              have h5 := HH16.out.new_opens b5 s5
              have c5 := h5.box.c
              have HH5 := Lib.hid h5
              clear h5 b5 s5
              go_wp2
              go_meet
              exact ⟨r, y3, HH5.out, by rw [hf]; exact ⟨rfl, rfl⟩⟩
            | none =>
              go_wp2_with fail
              refine (refEnded_any _ stk3.reverse x.tk.name _ (by rw [List.length_reverse]; omega) (sv_own HH16.out.opens)).mono ?_
              rintro e w5 he
              rw [EndSays, List.reverse_reverse, hf] at he
              obtain ⟨rfl, b5⟩ := he
              have h5 := HH16.out.calls b5
              clear q0 q1 q2 q3 q4
              obtain ⟨q0, q1, q2, q3, q4⟩ := h5.box.c
              have HH5 := Lib.hid h5
              clear h5 b5
              by_cases hp0 : x.tk.name = n_p
              · rw [decide_eq_true hp0] at gp
                have HP0 := Lib.hid hp0
                clear hp0
                go_wp2_with (at_builtin; go_loud (refine app_keepY _ rfl (.tmp 119) (.tmp 123) rfl w.heap.size _ y3 (bare ⟨stk3.length, 0, n_p, ⟨#[]⟩, []⟩) rfl HH5.out.rows (Ro.bare_att _ _ rfl) (Ro.bare_ap _ _ rfl) _ rfl rfl (by omega) HH5.out.size ?_); intro v6 w6 ho6 hg6)
                go_meet
                exact ⟨stk3, _, HH5.out.more_rows hg6 ho6, by rw [hf]; exact ⟨rfl, by rw [if_pos HP0.out]; exact ros_bare1 _ _⟩⟩
              · rw [decide_eq_false hp0] at gp
                have HP0 := Lib.hid hp0
                clear hp0
                go_wp2
                go_meet
                exact ⟨stk3, y3, HH5.out, by rw [hf]; exact ⟨rfl, by rw [if_neg HP0.out]⟩⟩
        case rest =>
        obtain ⟨stk5, y5, hh5, hif5⟩ := hcut
        rename World => W20
        have hl5 : y5.length ≤ 4 * k + 4 ∧ stk5.length ≤ k + 1 := by
          rw [← Ro.len_ros]
          cases g12 with
          | false => rw [if_neg (by simp)] at hif5; rw [hif5.1, hif5.2, Ro.len_ros]; omega
          | true =>
            rw [if_pos rfl] at hif5
            cases hf : findS [x.tk.name] (endWalls x.tk.name) stk3 with
            | some r =>
              rw [hf] at hif5
              have := findS_len hf
              rw [hif5.1, hif5.2, Ro.len_ros]
              omega
            | none =>
              rw [hf] at hif5
              have h2 : ros y5 = if x.tk.name = n_p then ros y3 ++ [⟨stk3.length, 0, n_p, ⟨#[]⟩, []⟩] else ros y3 := hif5.2
              have h1 : stk5 = stk3 := hif5.1
              rw [h1, h2]
              split
              · rw [List.length_append, Ro.len_ros]
                simp only [List.length_cons, List.length_nil]
                omega
              · rw [Ro.len_ros]; omega
        have hst : (⟨stk5, ros y5⟩ : St) = stepB ⟨stk, ros y⟩ x.tk := by
          have h1 := HR1.out; have h2 := HR2.out; have h3 := HIF3.out; have h4 := hif5
          rw [← HG7.out] at h1; rw [← HG9.out] at h2; rw [← HG11.out, ← HN2.out] at h3; rw [← HG12.out, ← HN2.out, ← HV.out] at h4
          exact step_all h1 h2 h3 h4
        have hdt : ∀ z ∈ ros y5, z.data.size ≤ T + x.tk.data.size := by
          have := data_step (t := x.tk) (st := ⟨stk, ros y⟩) HTR.out.data
          rw [← hst] at this
          exact this
        have heq2 : treeB ⟨[], []⟩ (tks l) = if tooBig (ros y5) = true then none else treeB ⟨stk5, ros y5⟩ ((tks l).drop (k + 1)) := by
          rw [HEQ.out, HDR.out, tree_cons, ← hst]
        have HH5 := Lib.hid hh5; have HEQ2 := Lib.hid heq2; have HDT := Lib.hid hdt
        clear hh5 hif5 hst hdt heq2 q0 q1 q2 q3 q4 HIF3 HR1 HR2 HG7 HG9 HG11 HG12 hl1 hl2 hl3
        obtain ⟨hl51, hl52⟩ := hl5
        obtain ⟨A5, c5, hv5, hc5, hm5, _, _⟩ := HH5.out.rows.form
        obtain ⟨n5, hn5⟩ : ∃ n5, y5.length = n5 := ⟨_, rfl⟩
        subst hv5
        rw [hn5]
        unfold maxLen at hm5
        go_upto_region 21 with fail
        go_cut [142] from 125 to 142 (fun s wx => s = .bool (tooBig (ros y5)) ∧ wx = W20)
        case first =>
          rcases List.eq_nil_or_concat y5 with e | ⟨init, z, e⟩
          · subst e
            have e0 : n5 = 0 := hn5.symm
            subst e0
            go_wp2
            go_meet
            exact ⟨rfl, rfl⟩
          · rw [List.concat_eq_append] at e
            subst e
            obtain ⟨g, cap, hv, hcap, hcm, hg1, hg2, hyc⟩ := HH5.out.rows.pos
            obtain ⟨f0, f1, f2, f3, f4⟩ := Ro.range5 (v0 := .int .i64 z.ro.depth) (v1 := .int .i64 z.ro.kind) (v2 := .string z.ro.name) (v3 := .string z.ro.data) (v4 := .slice z.A z.ro.attrs.length z.c) hyc
            injection hv with hv1 hv2 hv3
            have hi5 : n5 = init.length + 1 := by rw [← hn5]; simp
            subst hv1 hv3 hi5
            have htb : tooBig (ros (init ++ [z])) = (decide (4096 < (init.length : Int) + 1) || decide (60 ≤ z.ro.depth)) := by
              rw [ros_one]
              unfold tooBig
              rw [List.getLast?_concat, List.length_append, Ro.len_ros]
              show (decide (4096 < init.length + 1) || decide (60 ≤ z.ro.depth)) = _
              congr 1
              rw [decide_eq_decide]
              omega
            have i1 : (0 : Int) ≤ (init.length : Int) := by omega
            have i2 : (init.length : Int) < (init.length : Int) + 1 := by omega
            have i0 : IntKind.i64.wrap (init.length : Int) = (init.length : Nat) := IntWalk.i64_in _ (by omega)
            have i3 : (0 : Int) < (init.length : Int) + 1 := by omega
            have HTB := Lib.hid htb
            clear htb hyc hn5 f1 f2 f3 f4
            cases hd : decide (4096 < (init.length : Int) + 1) with
            | true =>
              go_wp2
              go_meet
              exact ⟨by rw [HTB.out, hd]; rfl, rfl⟩
            | false =>
              go_wp2
              go_meet
              exact ⟨by rw [HTB.out, hd, Bool.false_or], rfl⟩
        case rest =>
        obtain ⟨rfl, rfl⟩ := hcut
        obtain ⟨q5, hq5⟩ : ∃ q5, tooBig (ros y5) = q5 := ⟨_, rfl⟩
        rw [hq5]
        have HQ5 := Lib.hid hq5
        clear hq5
        cases q5 with
        | true =>
          go_wp2
          go_ret2
          exact RefSays.no (by rw [HEQ2.out, if_pos HQ5.out]) rfl HH5.out.below
        | false =>
          go_wp2
          go_roundw
          case rel =>
            have hT1 := HT.out
            rw [HDR.out] at hT1
            have : dsum (x.tk :: (tks l).drop (k + 1)) = x.tk.data.size + dsum ((tks l).drop (k + 1)) := rfl
            exact ⟨k + 1, T + x.tk.data.size, stk5, y5, by go_num, by omega, ⟨HH5.out.opens, hn5 ▸ HH5.out.rows, HH5.out.below, by omega, by omega, HDT.out⟩, by rw [HEQ2.out, if_neg (by rw [HQ5.out]; simp)], by omega⟩
          case measure => simp [intOf]; omega
    · rw [List.drop_eq_nil_of_le (by rw [To.len_tks]; omega)] at heq hT
      obtain ⟨A5, c5, hv5, hc5, hm5, _, _⟩ := htr.rows.form
      subst hv5
      have HTR := Lib.hid htr; have HEQ := Lib.hid heq
      clear htr heq
      go_wp2
      go_ret2
      exact RefSays.yes HEQ.out ⟨_, y, rfl, HTR.out.rows, rfl⟩ HTR.out.below

end Go.Proofs.YtdplbcchkjpcdaaGreatDoor.Bu

namespace Go.Proofs.YtdplbcchkjpcdaaGreatDoor.To
set_option linter.unusedSimpArgs false
set_option linter.unusedVariables false
open Go.RowKit Ba Fm Fo Tm Sm Nm Na
open Ro (below_new At acells len_acells Sh Ra range2 range5)
open Re (Tab)
open Rm (dec esc)
theorem Ra.take {w : World} {N : Nat} {A : Option Addr} {l : List At} (h : Ra w N A l) (m : Nat) : Ra w N A (l.take m) := fun h0 => by
  rw [List.length_take] at h0
  obtain ⟨b, off, e, hb, hc⟩ := h (by omega)
  refine ⟨b, off, e, hb, fun j hj => ?_⟩
  rw [List.length_take] at hj
  have := hc j (by omega)
  rw [List.getElem_take]
  exact this
end Go.Proofs.YtdplbcchkjpcdaaGreatDoor.To

namespace Go.Proofs.YtdplbcchkjpcdaaGreatDoor.Bu
set_option maxRecDepth 100000
set_option linter.unusedVariables false
set_option linter.unusedSimpArgs false
open Go.RowKit Ba Fm Fo Nm Bm
open Ro (At Ro Cw ros Fr Ow Rv rowO)
open Tm (Tk bulk)
open To (Tw tks)
open Re (Tab)
/-- What Tree tells, as rows and a number. -/
def rowsO (r : Option (List Ro)) : List Ro := r.getD []
def numO (r : Option (List Ro)) : Int := match r with | some _ => 0 | none => 2
theorem rows_small {t : List Tk} : (rowsO (treeB ⟨[], []⟩ t)).length ≤ 4096 ∧ Ro.Held (rowsO (treeB ⟨[], []⟩ t)) := by
  cases h : treeB ⟨[], []⟩ t with
  | none => exact ⟨Nat.zero_le _, fun x hx => by cases hx⟩
  | some o => exact ⟨(tree_all h).2.2.2.1, tree_held h⟩
theorem refTree1 (A : Option Addr) (c : Nat) (l : List Tw) (w : World) (hr : To.Rr w w.heap.size A l) (hc : l.length ≤ c) (hl : l.length ≤ 200000) (hd : dsum (tks l) ≤ 1000000000) (hat : ∀ x ∈ l, x.tk.attrs.length ≤ 1000000) (O : List Ro) (F : Int) (hO : rowsO (treeB ⟨[], []⟩ (tks l)) = O) (hF : numO (treeB ⟨[], []⟩ (tks l)) = F) :
    Calls Tryz.prog 12 #[.slice A l.length c] w fun e w' => ∃ v y, e = .returned (.tuple #[v, .int .i64 F]) ∧ Rv w' v y ∧ ros y = O ∧ Below w.heap.size w w' := by
  have hs := rows_small (t := tks l)
  refine (refTree_any A c l w hr hc hl hd hat).mono ?_
  rintro e w1 ⟨h, hb⟩
  cases ht : treeB ⟨[], []⟩ (tks l) with
  | none =>
    rw [ht] at h hO hF
    subst hO hF
    exact ⟨_, [], h, (Ow.nil 0 w1).rv (fun x hx => by cases hx), rfl, hb⟩
  | some o =>
    rw [ht] at h hO hF hs
    obtain ⟨v, y, rfl, ho, hr⟩ := h
    subst hO hF
    exact ⟨v, y, rfl, ho.rv (by rw [hr]; exact hs.2), hr, hb⟩
/-- Rows of one's own, whose data and attributes' names can be written over. -/
def Soft (N : Nat) (A : Option Addr) (y : List Cw) (w : World) : Prop :=
  ∀ j (h : j < y.length), ∃ g, A = some ⟨g, 0, none⟩ ∧ N ≤ g ∧ w.cell? ⟨g, j * 5 + 4, none⟩ = some (.slice y[j].A y[j].ro.attrs.length y[j].c) ∧ (∃ u, w.cell? ⟨g, j * 5 + 3, none⟩ = some u) ∧ w.frozen? ⟨g, j * 5 + 3, none⟩ = false ∧
    ∀ m, m < y[j].ro.attrs.length → ∃ g', y[j].A = some ⟨g', 0, none⟩ ∧ N ≤ g' ∧ g' ≠ g ∧ (∃ u, w.cell? ⟨g', m * 2, none⟩ = some u) ∧ w.frozen? ⟨g', m * 2, none⟩ = false
theorem cell_some {w : World} {p q : Addr} {v : Value} (h : ∃ u, w.cell? q = some u) : ∃ u, (w.setCell p v).cell? q = some u := by
  obtain ⟨u, hu⟩ := h
  by_cases e : p = q
  · subst e; exact ⟨v, World.cell?_setCell_same w _ _ hu⟩
  · exact ⟨u, (World.cell?_setCell_other w _ _ _ e).trans hu⟩
theorem Soft.set {N : Nat} {A : Option Addr} {y : List Cw} {w : World} (h : Soft N A y w) (p : Addr) (v : Value) (hp : ∀ j g, j < y.length → A = some ⟨g, 0, none⟩ → p ≠ ⟨g, j * 5 + 4, none⟩) : Soft N A y (w.setCell p v) := fun j hj => by
  obtain ⟨g, e, hN, h4, h3, hf, ha⟩ := h j hj
  refine ⟨g, e, hN, (World.cell?_setCell_other w _ _ _ (hp j g hj e)).trans h4, cell_some h3, by rw [World.frozen?_setCell]; exact hf, fun m hm => ?_⟩
  obtain ⟨g', e', hN', hne, hc, hf'⟩ := ha m hm
  exact ⟨g', e', hN', hne, cell_some hc, by rw [World.frozen?_setCell]; exact hf'⟩
end Go.Proofs.YtdplbcchkjpcdaaGreatDoor.Bu

namespace Go.Proofs.YtdplbcchkjpcdaaGreatDoor.To
set_option maxRecDepth 100000
set_option linter.unusedSimpArgs false
set_option linter.unusedVariables false
open Go.RowKit Ba Fm Fo Tm
theorem pre_sub (s t : ByteArray) (i : Nat) : ((s.extract i (i + t.size)).toList == t.toList) = pre (L t) ((L s).drop i) := by
  rw [eq_of_toList]
  unfold pre
  refine decide_eq_decide.2 ?_
  rw [size_L]
  constructor
  · intro e
    have := congrArg L e
    rwa [L_extract, show i + t.size - i = t.size from by omega] at this
  · intro e
    apply L_inj
    rwa [L_extract, show i + t.size - i = t.size from by omega]
theorem pre_past (s t : ByteArray) (i : Nat) (h : ¬ i + t.size ≤ s.size) (ht : 0 < t.size) : pre (L t) ((L s).drop i) = false := by
  unfold pre
  refine decide_eq_false fun e => ?_
  have := congrArg List.length e
  rw [List.length_take, List.length_drop, size_L, size_L] at this
  omega

set_option maxHeartbeats 1000000 in
theorem refAt_any (s t : ByteArray) (i : Nat) (w : World) (hs : s.size ≤ 140737488355328) (hi : i ≤ 140737488355428) (ht : t.size ≤ 100) (ht0 : 0 < t.size) :
    Calls Tryz.prog 36 #[.string s, .int .i64 i, .string t] w fun e w' => e = .returned (.bool (pre (L t) ((L s).drop i))) ∧ w = w' := by
  have h0 : decide ((i : Int) ≥ 0) = true := decide_eq_true (by omega)
  by_cases hp : i + t.size ≤ s.size
  · have hd : decide ((i : Int) + (t.size : Int) ≤ s.size) = true := decide_eq_true (by omega)
    have he := pre_sub s t i
    obtain ⟨q, hq⟩ : ∃ q, pre (L t) ((L s).drop i) = q := ⟨_, rfl⟩
    rw [hq] at he
    have HQ := Lib.hid hq; clear hq
    go_enter Tryz.func36, Tryz.ntmps36
    go_wp2
    go_ret
    exact ⟨ret_bool HQ.out.symm, rfl⟩
  · have hd : decide ((i : Int) + (t.size : Int) ≤ s.size) = false := decide_eq_false (by omega)
    have hq := pre_past s t i hp ht0
    have HQ := Lib.hid hq; clear hq
    go_enter Tryz.func36, Tryz.ntmps36
    go_wp2
    go_ret
    exact ⟨ret_bool HQ.out.symm, rfl⟩
/-- The same with the text as a list, the answer named. -/
theorem refAt1 (s t : ByteArray) (i : Nat) (w : World) (l : List UInt8) (q : Bool) (hs : s.size ≤ 140737488355328) (hi : i ≤ 140737488355428) (ht : t.size ≤ 100) (ht0 : 0 < t.size) (hl : L t = l) (hq : pre l ((L s).drop i) = q) :
    Calls Tryz.prog 36 #[.string s, .int .i64 i, .string t] w fun e w' => e = .returned (.bool q) ∧ w = w' := by
  have := refAt_any s t i w hs hi ht ht0
  rwa [hl, hq] at this

theorem letterAt_any (s : ByteArray) (i : Nat) (w : World) (q : Bool) (hs : s.size ≤ 140737488355328) (hq : by1 lr ((L s).drop i) = q) :
    Calls Tryz.prog 37 #[.string s, .int .i64 i] w fun e w' => e = .returned (.bool q) ∧ w = w' := by
  by_cases hp : i < s.size
  · have hd : decide ((i : Int) < s.size) = true := decide_eq_true (by omega)
    rw [drop_cons s i hp] at hq
    have hq : lr s[i] = q := hq
    have HQ := Lib.hid hq; clear hq
    go_enter Tryz.func37, Tryz.ntmps37
    go_wp2_with (go_at_call 73; refine (Fo.refLetter_any s[i] _).mono ?_; rintro e w' ⟨rfl, rfl⟩)
    go_ret
    exact ⟨ret_bool HQ.out, rfl⟩
  · have hd : decide ((i : Int) < s.size) = false := decide_eq_false (by omega)
    rw [drop_nil s i hp] at hq
    have HQ := Lib.hid hq; clear hq
    go_enter Tryz.func37, Tryz.ntmps37
    go_wp2
    go_ret
    exact ⟨ret_bool HQ.out, rfl⟩

theorem stops_any (c : UInt8) (w : World) : Calls Tryz.prog 74 #[.int .u8 c.toNat] w fun e w' => e = .returned (.bool (en c)) ∧ w = w' := by
  have e47 : ((c.toNat : Int) == 47) = (c == 47) := u8_eq (b := 47)
  have e62 : ((c.toNat : Int) == 62) = (c == 62) := u8_eq (b := 62)
  have hg : en c = ((c == 47) || ((c == 62) || sp c)) := rfl
  obtain ⟨a, ha⟩ : ∃ a, (c == 47) = a := ⟨_, rfl⟩
  obtain ⟨b, hb⟩ : ∃ b, (c == 62) = b := ⟨_, rfl⟩
  obtain ⟨d, hd⟩ : ∃ d, sp c = d := ⟨_, rfl⟩
  rw [ha] at e47
  rw [hb] at e62
  rw [ha, hb, hd] at hg
  have HG := Lib.hid hg; have HD := Lib.hid hd; clear hg ha hb hd
  cases a <;> cases b <;> cases d
  all_goals
    go_enter Tryz.func74, Tryz.ntmps74
    go_wp2_with (go_at_call 76; refine (refSpace_any c _).mono ?_; rw [HD.out]; rintro e w' ⟨rfl, rfl⟩)
    go_ret
    exact ⟨ret_bool HG.out.symm, rfl⟩

set_option maxHeartbeats 1000000 in
theorem find_any (s t : ByteArray) (k : Nat) (w : World) (hs : s.size ≤ 140737488355328) (hk : k ≤ s.size) (ht : t.size ≤ 100) (ht0 : 0 < t.size) :
    Calls Tryz.prog 106 #[.string s, .int .i64 k, .string t] w fun e w' => ∃ m : Nat, e = .returned (.int .i64 m) ∧ Far (pre (L t)) s k m ∧ (pre (L t) ((L s).drop m) = true ∨ ¬ m < s.size) ∧ (∀ j, k ≤ j → j < m → pre (L t) ((L s).drop j) = false) ∧ w = w' := by
  go_enter Tryz.func106, Tryz.ntmps106
  go_wp2
  go_loop [1] (fun i => ∃ m : Nat, i = .int .i64 m ∧ Far (pre (L t)) s k m ∧ (∀ j, k ≤ j → j < m → pre (L t) ((L s).drop j) = false)) (fun i => s.size - (intOf i).toNat)
  case atStart => exact ⟨k, rfl, .start hk, fun j h1 h2 => absurd h2 (by omega)⟩
  case round =>
    obtain ⟨m, rfl, hf, hny⟩ := hrel
    have HNY := Lib.hid hny; clear hny
    have hm := hf.2.1
    by_cases hp : m < s.size
    · have hlt : decide ((m : Int) < s.size) = true := decide_eq_true (by omega)
      cases hq : pre (L t) ((L s).drop m) with
      | false =>
        have hf := hf.next hp hq
        have HF := Lib.hid hf; have HQ := Lib.hid hq; clear hf hq
        go_wp2_with (go_at_call 36; refine (refAt1 s t m _ _ false hs (by omega) ht ht0 rfl HQ.out).mono ?_; rintro e w' ⟨rfl, rfl⟩)
        go_round
        case rel => exact ⟨m + 1, by go_num, HF.out, fun j h1 h2 => by
          by_cases hj : j = m
          · rw [hj]; exact HQ.out
          · exact HNY.out j h1 (by omega)⟩
        case measure => simp [intOf]; omega
      | true =>
        have HF := Lib.hid hf; have HQ := Lib.hid hq; clear hf hq
        obtain ⟨j, -, -, hj, hmin⟩ := Sm.min_any m s.size s.size rfl w
        obtain rfl : j = m := by omega
        clear hj
        go_wp2_with (go_at_call 36; refine (refAt1 s t j _ _ true hs (by omega) ht ht0 rfl HQ.out).mono ?_; rintro e w' ⟨rfl, rfl⟩)
        go_ret
        exact ⟨j, rfl, HF.out, .inl HQ.out, HNY.out, rfl⟩
    · have hlt : decide ((m : Int) < s.size) = false := decide_eq_false (by omega)
      have HF := Lib.hid hf; clear hf
      obtain ⟨j, -, -, hj, hmin⟩ := Sm.min_any m s.size s.size rfl w
      obtain rfl : j = m := by omega
      clear hj
      go_wp2
      go_ret
      exact ⟨j, rfl, HF.out, .inr (by omega), HNY.out, rfl⟩

set_option maxHeartbeats 1000000 in
theorem spaces_any (s : ByteArray) (k : Nat) (w : World) (hs : s.size ≤ 140737488355328) (hk : k ≤ s.size) :
    Calls Tryz.prog 105 #[.string s, .int .i64 k] w fun e w' => ∃ m : Nat, e = .returned (.int .i64 m) ∧ k ≤ m ∧ m ≤ s.size ∧ (L s).drop m = trimS ((L s).drop k) ∧ w = w' := by
  go_enter Tryz.func105, Tryz.ntmps105
  go_wp2
  go_loop [1] (fun i => ∃ m : Nat, i = .int .i64 m ∧ k ≤ m ∧ m ≤ s.size ∧ trimS ((L s).drop m) = trimS ((L s).drop k)) (fun i => s.size - (intOf i).toNat)
  case atStart => exact ⟨k, rfl, Nat.le_refl _, hk, rfl⟩
  case round =>
    obtain ⟨m, rfl, hkm, hm, ht⟩ := hrel
    by_cases hp : m < s.size
    · have hlt : decide ((m : Int) < s.size) = true := decide_eq_true (by omega)
      rw [drop_cons s m hp] at ht
      cases hsp : sp s[m] with
      | true =>
        rw [trimS_sp _ hsp] at ht
        have HT := Lib.hid ht; have HS := Lib.hid hsp; clear ht hsp
        go_wp2_with (go_at_call 76; refine (refSpace_any s[m] _).mono ?_; rw [HS.out]; rintro e w' ⟨rfl, rfl⟩)
        go_round
        case rel => exact ⟨m + 1, by go_num, by omega, by omega, HT.out⟩
        case measure => simp [intOf]; omega
      | false =>
        rw [trimS_no _ hsp, ← drop_cons s m hp] at ht
        have HT := Lib.hid ht; have HS := Lib.hid hsp; clear ht hsp
        go_wp2_with (go_at_call 76; refine (refSpace_any s[m] _).mono ?_; rw [HS.out]; rintro e w' ⟨rfl, rfl⟩)
        go_ret
        exact ⟨m, rfl, hkm, hm, HT.out, rfl⟩
    · have hlt : decide ((m : Int) < s.size) = false := decide_eq_false (by omega)
      rw [drop_nil s m hp, trimS_nil] at ht
      have HT := Lib.hid ht; clear ht
      go_wp2
      go_ret
      exact ⟨m, rfl, hkm, hm, by rw [← HT.out, drop_nil s m hp], rfl⟩

end Go.Proofs.YtdplbcchkjpcdaaGreatDoor.To

namespace Go.Proofs.YtdplbcchkjpcdaaGreatDoor.To
set_option maxRecDepth 100000
set_option linter.unusedSimpArgs false
set_option linter.unusedVariables false
open Go.RowKit Ba Fm Fo Tm
open Rm (dec)
open Ro (below_new At acells len_acells Sh Ra)
open Re (Tab)
theorem pre_one (c : UInt8) (l : List UInt8) : pre [c] l = hd c l := by
  cases l with
  | nil => unfold pre hd; simp [by1]
  | cons a r => rw [pre_cons, pre_nil, Bool.and_true]; rfl

/-- What an attribute that begins at a place comes to, and where it ends. -/
def Found (s : ByteArray) (i : Nat) (c : UInt8) (r : List UInt8) (x : Ro.At) (n : Nat) : Prop :=
  (n ≤ s.size ∧ i < n ∧ x = (attr c r).1 ∧ (L s).drop n = (attr c r).2) ∨ (n = s.size + 1 ∧ (attr c r).2 = [])

set_option maxRecDepth 100000 in
set_option maxHeartbeats 4000000 in
theorem refAttr_any (s : ByteArray) (i : Nat) (c : UInt8) (r : List UInt8) (w : World) (hs : s.size ≤ 140737488351232) (hi : i < s.size) (hcr : (L s).drop i = c :: r) :
    Calls Tryz.prog 77 #[.string s, .int .i64 i] w fun e w' => ∃ (x : Ro.At) (n : Nat), e = .returned (.tuple #[.agg #[.string x.name, .string x.value], .int .i64 n]) ∧ Found s i c r x n ∧ Below w.heap.size w w' := by
  have hs' : s.size ≤ 140737488355328 := by omega
  have hr : (L s).drop (i + 1) = r ∧ s[i] = c := by
    have := drop_cons s i hi
    rw [hcr] at this
    injection this with h1 h2
    exact ⟨h2.symm, h1.symm⟩
  obtain ⟨hr, hc⟩ := hr
  have HR := Lib.hid hr; have HC := Lib.hid hc; clear hr hc hcr
  go_enter Tryz.func77, Tryz.ntmps77
  go_upto_block 0 with fail
  go_cut [6] from 13 to 31 (fun k wx => ∃ m : Nat, k = .int .i64 m ∧ m ≤ s.size ∧ (L s).drop m = from_ ea ((L s).drop (i + 1)) ∧ wx = w.alloc (.cells #[.string ⟨#[]⟩, .string ⟨#[]⟩] 66))
  case first =>
    go_wp2_with fail
    go_loop [6] (fun k => ∃ m : Nat, k = .int .i64 m ∧ Far (by1 ea) s (i + 1) m) (fun k => s.size - (intOf k).toNat)
    case atStart => exact ⟨i + 1, by go_num, .start (by omega)⟩
    case round =>
      obtain ⟨m, rfl, hf⟩ := hrel
      have hm := hf.2.1
      by_cases hp : m < s.size
      · have hlt : decide ((m : Int) < s.size) = true := decide_eq_true (by omega)
        have e61 : ((s[m].toNat : Int) == 61) = (s[m] == 61) := u8_eq (b := 61)
        cases hen : en s[m] with
        | true =>
          have hd := (hf.done (.inl (by1_at _ s m hp true (by unfold ea; rw [hen, Bool.or_true])))).2
          have HD := Lib.hid hd; have HE := Lib.hid hen; clear hf hd hen e61
          go_wp2_with (go_at_call 74; refine (stops_any s[m] _).mono ?_; rw [HE.out]; rintro e w' ⟨rfl, rfl⟩)
          go_meet
          exact ⟨m, rfl, hm, HD.out, rfl⟩
        | false =>
          cases h61 : (s[m] == 61) with
          | true =>
            rw [h61] at e61
            have hd := (hf.done (.inl (by1_at _ s m hp true (by unfold ea; rw [h61, Bool.true_or])))).2
            have HD := Lib.hid hd; have HE := Lib.hid hen; clear hf hd hen h61
            go_wp2_with (go_at_call 74; refine (stops_any s[m] _).mono ?_; rw [HE.out]; rintro e w' ⟨rfl, rfl⟩)
            go_meet
            exact ⟨m, rfl, hm, HD.out, rfl⟩
          | false =>
            rw [h61] at e61
            have hn := hf.next hp (by1_at _ s m hp false (by unfold ea; rw [h61, hen]; rfl))
            have HN := Lib.hid hn; have HE := Lib.hid hen; clear hf hn hen h61
            go_wp2_with (go_at_call 74; refine (stops_any s[m] _).mono ?_; rw [HE.out]; rintro e w' ⟨rfl, rfl⟩)
            go_round
            case rel => exact ⟨m + 1, by go_num, HN.out⟩
            case measure => simp [intOf]; omega
      · have hlt : decide ((m : Int) < s.size) = false := decide_eq_false (by omega)
        have hd := (hf.done (.inr hp)).2
        have HD := Lib.hid hd; clear hf hd
        go_wp2
        go_meet
        exact ⟨m, rfl, hm, HD.out, rfl⟩
  case rest =>
    obtain ⟨m, rfl, hm, hd, rfl⟩ := hcut
    obtain ⟨hkm, hex⟩ := span_one hi hm hd
    rw [HR.out] at hd
    rw [HR.out, HC.out] at hex
    have hbx : Bx (w.alloc (.cells #[.string ⟨#[]⟩, .string ⟨#[]⟩] 66)) w.heap.size ⟨#[]⟩ ⟨#[]⟩ := Bx.new w _ _
    have hsx : (s.extract i m).size ≤ 140737488355328 := Nat.le_trans (size_extract _ _ _) hs'
    have hbw := below_new w (.cells #[.string ⟨#[]⟩, .string ⟨#[]⟩] 66)
    have hgz : w.heap.size < (w.alloc (.cells #[.string ⟨#[]⟩, .string ⟨#[]⟩] 66)).heap.size := by simp
    have i0 : (0 : Int) ≤ (i : Int) := by omega
    have i1 : (i : Int) ≤ (m : Int) := by omega
    have i2 : (m : Int) ≤ (s.size : Int) := by omega
    have HX := Lib.hid hbx; have HD := Lib.hid hd; have HE := Lib.hid hex; have HB := Lib.hid hbw; clear hbx hd hex hbw
    generalize w.alloc (.cells #[.string ⟨#[]⟩, .string ⟨#[]⟩] 66) = W1 at *
    go_wp2_with fail
    refine (Fo.refLower_any _ W1 hsx).mono ?_
    rintro e w4 ⟨rfl, hb4⟩
    rw [HE.out]
    have hx4 := HX.out.below hb4
    have hb4' := bt HB.out hb4
    have hz4 := hx4.lt
    have HX4 := Lib.hid hx4; have HB4 := Lib.hid hb4'; clear HX HB hx4 hb4' hb4 hgz
    go_wp2_with fail
    generalize hW5 : w4.alloc (.cells #[.string (B (lowL (c :: upTo ea r))), .string ⟨#[]⟩] 66) = W5
    have hx1 : Bx W5 w4.heap.size (B (lowL (c :: upTo ea r))) ⟨#[]⟩ := by rw [← hW5]; exact Bx.new w4 _ _
    have hx0 : Bx W5 w.heap.size ⟨#[]⟩ ⟨#[]⟩ := by rw [← hW5]; exact HX4.out.below (below_new w4 _)
    have hb5 : Below w.heap.size w W5 := by rw [← hW5]; exact bt HB4.out (below_new w4 _)
    have hne : w4.heap.size ≠ w.heap.size := by omega
    obtain ⟨nm, hnm⟩ : ∃ n, B (lowL (c :: upTo ea r)) = n := ⟨_, rfl⟩
    rw [hnm] at hx1
    have hat : attr c r = (⟨nm, B (valued (trimS (from_ ea r))).1⟩, (valued (trimS (from_ ea r))).2) := by rw [attr_eq, hnm]
    obtain ⟨g0, hg0⟩ : ∃ g, w.heap.size = g := ⟨_, rfl⟩
    obtain ⟨g1, hg1⟩ : ∃ g, w4.heap.size = g := ⟨_, rfl⟩
    rw [hg0, hg1] at hne
    rw [hg0] at hx0
    rw [hg1] at hx1
    rw [hg0, hg1]
    have hgl : w.heap.size ≤ g1 := by omega
    have hne' : g0 ≠ g1 := fun e => hne e.symm
    clear hW5 HX4 HB4 hz4
    have HGL := Lib.hid hgl; clear hgl
    have HX0 := Lib.hid hx0; have HX1 := Lib.hid hx1; have HB5 := Lib.hid hb5; have HAT := Lib.hid hat; have HG0 := Lib.hid hg0
    clear hx0 hx1 hb5 hat hg0 hg1 hnm HE
    refine (spaces_any s m W5 hs' hm).mono ?_
    rintro e w' ⟨e1, rfl, hme, hes, hde, rfl⟩
    rw [HD.out] at hde
    cases h61 : hd 61 ((L s).drop e1) with
    | false =>
      have hv := valued_no h61
      rw [hde] at hv
      have HV := Lib.hid hv; have HDE := Lib.hid hde; have H61 := Lib.hid h61; clear hv hde h61 HD
      go_wp2_with fail
      refine (refAt1 s _ e1 _ [61] false hs' (by omega) (by decide) (by decide) rfl (by rw [pre_one]; exact H61.out)).mono ?_
      rintro e w' ⟨rfl, rfl⟩
      by_cases hz : e1 = s.size
      · have hzb : ((e1 : Int) == (s.size : Int)) = true := by rw [beq_iff_eq]; omega
        have HZ := Lib.hid hz; clear hz
        have r0 := HX0.out.c0; have r1 := HX0.out.c1; have q0 := HX0.out.f 0; have q1 := HX0.out.f 1; have k0 := HX1.out.c0; have k1 := HX1.out.c1
        go_wp2
        refine bodyPost_ret (v := .tuple #[.agg #[.string nm, .string ⟨#[]⟩], .int .i64 ((s.size + 1 : Nat) : Int)]) ?_ rfl ⟨⟨nm, ⟨#[]⟩⟩, s.size + 1, rfl, .inr ⟨rfl, ?_⟩, ?_⟩
        · have hf := (HX0.out.set0 nm).set1 ⟨#[]⟩
          have z0 := hf.c0; have z1 := hf.c1
          simp [results, Tryz.results77, go_sem, z0, z1]
        · rw [HAT.out, HV.out, ← HDE.out, HZ.out, drop_nil s _ (by omega)]
        · exact (HB5.out.setCell (Nat.le_of_eq HG0.out) _).setCell (Nat.le_of_eq HG0.out) _
      · have hzb : ((e1 : Int) == (s.size : Int)) = false := by rw [beq_eq_false_iff_ne]; omega
        have HZ := Lib.hid hz; clear hz
        have r0 := HX0.out.c0; have r1 := HX0.out.c1; have q0 := HX0.out.f 0; have q1 := HX0.out.f 1; have k0 := HX1.out.c0; have k1 := HX1.out.c1
        go_wp2
        refine bodyPost_ret (v := .tuple #[.agg #[.string nm, .string ⟨#[]⟩], .int .i64 (e1 : Int)]) ?_ rfl ⟨⟨nm, ⟨#[]⟩⟩, e1, rfl, .inl ⟨hes, by omega, ?_, ?_⟩, ?_⟩
        · have hf := (HX0.out.set0 nm).set1 ⟨#[]⟩
          have z0 := hf.c0; have z1 := hf.c1
          simp [results, Tryz.results77, go_sem, z0, z1]
        · rw [HAT.out, HV.out]; rfl
        · rw [HAT.out, HV.out, ← HDE.out]
        · exact (HB5.out.setCell (Nat.le_of_eq HG0.out) _).setCell (Nat.le_of_eq HG0.out) _
    | true =>
      have hv := valued_yes h61
      rw [hde] at hv
      have hdr := hd_drop hes h61
      rw [if_pos rfl, hde] at hdr
      obtain ⟨hes1, hdr⟩ := hdr
      have HV := Lib.hid hv; have H61 := Lib.hid h61; have HDR := Lib.hid hdr; clear hv h61 hdr hde HD
      go_wp2_with fail
      refine (refAt1 s _ e1 _ [61] true hs' (by omega) (by decide) (by decide) rfl (by rw [pre_one]; exact H61.out)).mono ?_
      rintro e w' ⟨rfl, rfl⟩
      go_wp2_with fail
      refine (spaces_any s (e1 + 1) W5 hs' hes1).mono ?_
      rintro e w' ⟨k2, rfl, hk1, hk2, hd2, rfl⟩
      have hd2 : (L s).drop k2 = trimS ((trimS (from_ ea r)).drop 1) := by rw [hd2]; exact congrArg trimS HDR.out
      obtain ⟨tl, htl⟩ : ∃ l, trimS ((trimS (from_ ea r)).drop 1) = l := ⟨_, rfl⟩
      have hat2 : attr c r = (⟨nm, B (dec (value tl).1)⟩, (value tl).2) := by rw [HAT.out, HV.out, htl]
      rw [htl] at hd2
      have HAT2 := Lib.hid hat2; have HD2 := Lib.hid hd2; clear hat2 hd2 htl HAT HV H61 HDR
      by_cases hz : k2 < s.size
      · have hzb : ((k2 : Int) == (s.size : Int)) = false := by rw [beq_eq_false_iff_ne]; omega
        obtain ⟨c2, hc2⟩ : ∃ x, s[k2] = x := ⟨_, rfl⟩
        have htc : tl = c2 :: (L s).drop (k2 + 1) := by rw [← HD2.out, drop_cons s k2 hz, hc2]
        have e34 : ((s[k2].toNat : Int) == 34) = (c2 == 34) := by rw [← hc2]; exact u8_eq (b := 34)
        have e39 : ((s[k2].toNat : Int) == 39) = (c2 == 39) := by rw [← hc2]; exact u8_eq (b := 39)
        cases h34 : (c2 == 34) with
        | true =>
          rw [h34] at e34
          have hv : value tl = quo c2 ((L s).drop (k2 + 1)) := by
            rw [beq_iff_eq.1 h34] at htc ⊢
            rw [htc]
            exact value_34 rfl
          clear h34 e39
          have hL : L (s.extract k2 (k2 + 1)) = [c2] := by
            rw [L_extract, drop_cons s k2 hz, hc2, show k2 + 1 - k2 = 1 from by omega]; rfl
          have hsz1 : (s.extract k2 (k2 + 1)).size = 1 := by rw [← size_L, hL]; rfl
          have hpe : pre [c2] = by1 (is c2) := funext fun l => pre_one c2 l
          have i4 : (0 : Int) ≤ (k2 : Int) := by omega
          have i5 : (k2 : Int) ≤ (k2 : Int) + 1 := by omega
          have i6 : (k2 : Int) + 1 ≤ (s.size : Int) := by omega
          have HV2 := Lib.hid hv; have HL := Lib.hid hL; have HPE := Lib.hid hpe; have HC2 := Lib.hid hc2; clear hv hL hpe hc2 htc
          go_wp2_with fail
          refine (find_any s (s.extract k2 (k2 + 1)) (k2 + 1) W5 hs' (by omega) (by omega) (by omega)).mono ?_
          rintro e w' ⟨q, rfl, hf, hstop, -, rfl⟩
          rw [HL.out, HPE.out] at hf hstop
          obtain ⟨hq1, hq2⟩ := hf.done hstop
          have hqle := hf.2.1
          have hkq := hf.1
          have HQ1 := Lib.hid hq1; have HQ2 := Lib.hid hq2; clear hf hstop hq1 hq2 hsz1
          by_cases hqz : q < s.size
          · have hqb : ((q : Int) == (s.size : Int)) = false := by rw [beq_eq_false_iff_ne]; omega
            have hzs : (s.extract (k2 + 1) q).size ≤ 140737488351232 := Nat.le_trans (size_extract _ _ _) hs
            go_wp2_with fail
            refine (Re.refDecode_any (s.extract (k2 + 1) q) W5 hzs).mono ?_
            rintro e w6 ⟨rfl, hb6⟩
            rw [HQ1.out, L_B]
            obtain ⟨vv, hvv⟩ : ∃ v, B (dec (lead (by1 (is c2)) ((L s).drop (k2 + 1)))) = v := ⟨_, rfl⟩
            rw [hvv]
            have hx06 := HX0.out.below hb6
            have hx16 := HX1.out.below hb6
            have hb6' := HB5.out.trans (hb6.mono HB5.out.size)
            have r0 := hx06.c0; have r1 := hx06.c1; have q0 := hx06.f 0; have q1 := hx06.f 1; have k0 := hx16.c0; have k1 := hx16.c1; have p0 := hx16.f 0; have p1 := hx16.f 1
            have HVV := Lib.hid hvv; have HX06 := Lib.hid hx06; have HB6 := Lib.hid hb6'; clear hvv hx06 hx16 hb6 hb6' hzs
            go_wp2
            refine bodyPost_ret (v := .tuple #[.agg #[.string nm, .string vv], .int .i64 ((q + 1 : Nat) : Int)]) ?_ rfl ⟨⟨nm, vv⟩, q + 1, rfl, .inl ⟨by omega, by omega, ?_, ?_⟩, ?_⟩
            · have hf := ((HX06.out.other hne' (b := g1) (j := 1) (.string vv)).set0 nm).set1 vv
              have z0 := hf.c0; have z1 := hf.c1
              simp [results, Tryz.results77, go_sem, z0, z1]
            · rw [HAT2.out, HV2.out, ← HVV.out]; rfl
            · rw [HAT2.out, HV2.out]
              show _ = (trail (by1 (is c2)) _).drop 1
              rw [← HQ2.out, List.drop_drop]
            · exact ((HB6.out.setCell HGL.out _).setCell (Nat.le_of_eq HG0.out) _).setCell (Nat.le_of_eq HG0.out) _
          · have hqb : ((q : Int) == (s.size : Int)) = true := by rw [beq_iff_eq]; omega
            have r0 := HX0.out.c0; have r1 := HX0.out.c1; have q0 := HX0.out.f 0; have q1 := HX0.out.f 1; have k0 := HX1.out.c0; have k1 := HX1.out.c1
            go_wp2
            refine bodyPost_ret (v := .tuple #[.agg #[.string nm, .string ⟨#[]⟩], .int .i64 ((s.size + 1 : Nat) : Int)]) ?_ rfl ⟨⟨nm, ⟨#[]⟩⟩, s.size + 1, rfl, .inr ⟨rfl, ?_⟩, ?_⟩
            · have hf := (HX0.out.set0 nm).set1 ⟨#[]⟩
              have z0 := hf.c0; have z1 := hf.c1
              simp [results, Tryz.results77, go_sem, z0, z1]
            · rw [HAT2.out, HV2.out]
              show (trail (by1 (is c2)) _).drop 1 = []
              rw [← HQ2.out, drop_nil s q hqz]; rfl
            · exact (HB5.out.setCell (Nat.le_of_eq HG0.out) _).setCell (Nat.le_of_eq HG0.out) _
        | false =>
          rw [h34] at e34
          cases h39 : (c2 == 39) with
          | true =>
            rw [h39] at e39
            have hv : value tl = quo c2 ((L s).drop (k2 + 1)) := by
              rw [beq_iff_eq.1 h39] at htc ⊢
              rw [htc]
              exact value_39 rfl rfl
            clear h34 h39
            have hL : L (s.extract k2 (k2 + 1)) = [c2] := by
              rw [L_extract, drop_cons s k2 hz, hc2, show k2 + 1 - k2 = 1 from by omega]; rfl
            have hsz1 : (s.extract k2 (k2 + 1)).size = 1 := by rw [← size_L, hL]; rfl
            have hpe : pre [c2] = by1 (is c2) := funext fun l => pre_one c2 l
            have i4 : (0 : Int) ≤ (k2 : Int) := by omega
            have i5 : (k2 : Int) ≤ (k2 : Int) + 1 := by omega
            have i6 : (k2 : Int) + 1 ≤ (s.size : Int) := by omega
            have HV2 := Lib.hid hv; have HL := Lib.hid hL; have HPE := Lib.hid hpe; have HC2 := Lib.hid hc2; clear hv hL hpe hc2 htc
            go_wp2_with fail
            refine (find_any s (s.extract k2 (k2 + 1)) (k2 + 1) W5 hs' (by omega) (by omega) (by omega)).mono ?_
            rintro e w' ⟨q, rfl, hf, hstop, -, rfl⟩
            rw [HL.out, HPE.out] at hf hstop
            obtain ⟨hq1, hq2⟩ := hf.done hstop
            have hqle := hf.2.1
            have hkq := hf.1
            have HQ1 := Lib.hid hq1; have HQ2 := Lib.hid hq2; clear hf hstop hq1 hq2 hsz1
            by_cases hqz : q < s.size
            · have hqb : ((q : Int) == (s.size : Int)) = false := by rw [beq_eq_false_iff_ne]; omega
              have hzs : (s.extract (k2 + 1) q).size ≤ 140737488351232 := Nat.le_trans (size_extract _ _ _) hs
              go_wp2_with fail
              refine (Re.refDecode_any (s.extract (k2 + 1) q) W5 hzs).mono ?_
              rintro e w6 ⟨rfl, hb6⟩
              rw [HQ1.out, L_B]
              obtain ⟨vv, hvv⟩ : ∃ v, B (dec (lead (by1 (is c2)) ((L s).drop (k2 + 1)))) = v := ⟨_, rfl⟩
              rw [hvv]
              have hx06 := HX0.out.below hb6
              have hx16 := HX1.out.below hb6
              have hb6' := HB5.out.trans (hb6.mono HB5.out.size)
              have r0 := hx06.c0; have r1 := hx06.c1; have q0 := hx06.f 0; have q1 := hx06.f 1; have k0 := hx16.c0; have k1 := hx16.c1; have p0 := hx16.f 0; have p1 := hx16.f 1
              have HVV := Lib.hid hvv; have HX06 := Lib.hid hx06; have HB6 := Lib.hid hb6'; clear hvv hx06 hx16 hb6 hb6' hzs
              go_wp2
              refine bodyPost_ret (v := .tuple #[.agg #[.string nm, .string vv], .int .i64 ((q + 1 : Nat) : Int)]) ?_ rfl ⟨⟨nm, vv⟩, q + 1, rfl, .inl ⟨by omega, by omega, ?_, ?_⟩, ?_⟩
              · have hf := ((HX06.out.other hne' (b := g1) (j := 1) (.string vv)).set0 nm).set1 vv
                have z0 := hf.c0; have z1 := hf.c1
                simp [results, Tryz.results77, go_sem, z0, z1]
              · rw [HAT2.out, HV2.out, ← HVV.out]; rfl
              · rw [HAT2.out, HV2.out]
                show _ = (trail (by1 (is c2)) _).drop 1
                rw [← HQ2.out, List.drop_drop]
              · exact ((HB6.out.setCell HGL.out _).setCell (Nat.le_of_eq HG0.out) _).setCell (Nat.le_of_eq HG0.out) _
            · have hqb : ((q : Int) == (s.size : Int)) = true := by rw [beq_iff_eq]; omega
              have r0 := HX0.out.c0; have r1 := HX0.out.c1; have q0 := HX0.out.f 0; have q1 := HX0.out.f 1; have k0 := HX1.out.c0; have k1 := HX1.out.c1
              go_wp2
              refine bodyPost_ret (v := .tuple #[.agg #[.string nm, .string ⟨#[]⟩], .int .i64 ((s.size + 1 : Nat) : Int)]) ?_ rfl ⟨⟨nm, ⟨#[]⟩⟩, s.size + 1, rfl, .inr ⟨rfl, ?_⟩, ?_⟩
              · have hf := (HX0.out.set0 nm).set1 ⟨#[]⟩
                have z0 := hf.c0; have z1 := hf.c1
                simp [results, Tryz.results77, go_sem, z0, z1]
              · rw [HAT2.out, HV2.out]
                show (trail (by1 (is c2)) _).drop 1 = []
                rw [← HQ2.out, drop_nil s q hqz]; rfl
              · exact (HB5.out.setCell (Nat.le_of_eq HG0.out) _).setCell (Nat.le_of_eq HG0.out) _
          | false =>
            rw [h39] at e39
            have hv : value tl = (upTo ev tl, from_ ev tl) := by
              refine value_no ?_ ?_
              · rw [htc]; exact h34
              · rw [htc]; exact h39
            have HV2 := Lib.hid hv; clear hv htc hc2
            go_upto_block 2 with fail
            go_cut [10] from 105 to 123 (fun k wx => ∃ v : Nat, k = .int .i64 v ∧ v ≤ s.size ∧ k2 ≤ v ∧ s.extract k2 v = B (upTo ev tl) ∧ (L s).drop v = from_ ev tl ∧ wx = W5)
            case first =>
              go_wp2_with fail
              go_loop [10] (fun k => ∃ m : Nat, k = .int .i64 m ∧ Far (by1 ev) s k2 m) (fun k => s.size - (intOf k).toNat)
              case atStart => exact ⟨k2, rfl, .start hk2⟩
              case round =>
                obtain ⟨m, rfl, hf⟩ := hrel
                have hm := hf.2.1
                have hkm := hf.1
                by_cases hp : m < s.size
                · have hlt : decide ((m : Int) < s.size) = true := decide_eq_true (by omega)
                  have e62 : ((s[m].toNat : Int) == 62) = (s[m] == 62) := u8_eq (b := 62)
                  cases hsp : sp s[m] with
                  | true =>
                    have hd := hf.done (.inl (by1_at _ s m hp true (by unfold ev; rw [hsp, Bool.or_true])))
                    rw [HD2.out] at hd
                    have HD := Lib.hid hd; have HE := Lib.hid hsp; clear hf hd hsp e62
                    go_wp2_with (go_at_call 76; refine (refSpace_any s[m] _).mono ?_; rw [HE.out]; rintro e w' ⟨rfl, rfl⟩)
                    go_meet
                    exact ⟨m, rfl, hm, hkm, HD.out.1, HD.out.2, rfl⟩
                  | false =>
                    cases h62 : (s[m] == 62) with
                    | true =>
                      rw [h62] at e62
                      have hd := hf.done (.inl (by1_at _ s m hp true (by unfold ev; rw [h62, Bool.true_or])))
                      rw [HD2.out] at hd
                      have HD := Lib.hid hd; have HE := Lib.hid hsp; clear hf hd hsp h62
                      go_wp2_with (go_at_call 76; refine (refSpace_any s[m] _).mono ?_; rw [HE.out]; rintro e w' ⟨rfl, rfl⟩)
                      go_meet
                      exact ⟨m, rfl, hm, hkm, HD.out.1, HD.out.2, rfl⟩
                    | false =>
                      rw [h62] at e62
                      have hn := hf.next hp (by1_at _ s m hp false (by unfold ev; rw [h62, hsp]; rfl))
                      have HN := Lib.hid hn; have HE := Lib.hid hsp; clear hf hn hsp h62
                      go_wp2_with (go_at_call 76; refine (refSpace_any s[m] _).mono ?_; rw [HE.out]; rintro e w' ⟨rfl, rfl⟩)
                      go_round
                      case rel => exact ⟨m + 1, by go_num, HN.out⟩
                      case measure => simp [intOf]; omega
                · have hlt : decide ((m : Int) < s.size) = false := decide_eq_false (by omega)
                  have hd := hf.done (.inr hp)
                  rw [HD2.out] at hd
                  have HD := Lib.hid hd; clear hf hd
                  go_wp2
                  go_meet
                  exact ⟨m, rfl, hm, hkm, HD.out.1, HD.out.2, rfl⟩
            case rest =>
              obtain ⟨v, rfl, hvs, hkv, hx, hdv, rfl⟩ := hcut
              have hzs : (s.extract k2 v).size ≤ 140737488351232 := Nat.le_trans (size_extract _ _ _) hs
              have i4 : (0 : Int) ≤ (k2 : Int) := by omega
              have i5 : (k2 : Int) ≤ (v : Int) := by omega
              have i6 : (v : Int) ≤ (s.size : Int) := by omega
              have HXX := Lib.hid hx; have HDV := Lib.hid hdv; clear hx hdv
              go_wp2_with fail
              refine (Re.refDecode_any (s.extract k2 v) _ hzs).mono ?_
              rintro e w6 ⟨rfl, hb6⟩
              rw [HXX.out, L_B]
              obtain ⟨vv, hvv⟩ : ∃ v, B (dec (upTo ev tl)) = v := ⟨_, rfl⟩
              rw [hvv]
              have hx06 := HX0.out.below hb6
              have hx16 := HX1.out.below hb6
              have hb6' := HB5.out.trans (hb6.mono HB5.out.size)
              have r0 := hx06.c0; have r1 := hx06.c1; have q0 := hx06.f 0; have q1 := hx06.f 1; have k0 := hx16.c0; have k1 := hx16.c1; have p0 := hx16.f 0; have p1 := hx16.f 1
              have HVV := Lib.hid hvv; have HX06 := Lib.hid hx06; have HB6 := Lib.hid hb6'; clear hvv hx06 hx16 hb6 hb6' hzs
              by_cases hvz : v = s.size
              · have hvb : ((v : Int) == (s.size : Int)) = true := by rw [beq_iff_eq]; omega
                have HZ := Lib.hid hvz; clear hvz
                go_wp2
                refine bodyPost_ret (v := .tuple #[.agg #[.string nm, .string vv], .int .i64 ((s.size + 1 : Nat) : Int)]) ?_ rfl ⟨⟨nm, vv⟩, s.size + 1, rfl, .inr ⟨rfl, ?_⟩, ?_⟩
                · have hf := ((HX06.out.other hne' (b := g1) (j := 1) (.string vv)).set0 nm).set1 vv
                  have z0 := hf.c0; have z1 := hf.c1
                  simp [results, Tryz.results77, go_sem, z0, z1]
                · rw [HAT2.out, HV2.out]
                  show from_ ev tl = []
                  rw [← HDV.out, HZ.out, drop_nil s _ (by omega)]
                · exact ((HB6.out.setCell HGL.out _).setCell (Nat.le_of_eq HG0.out) _).setCell (Nat.le_of_eq HG0.out) _
              · have hvb : ((v : Int) == (s.size : Int)) = false := by rw [beq_eq_false_iff_ne]; omega
                have HZ := Lib.hid hvz; clear hvz
                go_wp2
                refine bodyPost_ret (v := .tuple #[.agg #[.string nm, .string vv], .int .i64 (v : Int)]) ?_ rfl ⟨⟨nm, vv⟩, v, rfl, .inl ⟨by omega, by omega, ?_, ?_⟩, ?_⟩
                · have hf := ((HX06.out.other hne' (b := g1) (j := 1) (.string vv)).set0 nm).set1 vv
                  have z0 := hf.c0; have z1 := hf.c1
                  simp [results, Tryz.results77, go_sem, z0, z1]
                · rw [HAT2.out, HV2.out, ← HVV.out]
                · rw [HAT2.out, HV2.out, HDV.out]
                · exact ((HB6.out.setCell HGL.out _).setCell (Nat.le_of_eq HG0.out) _).setCell (Nat.le_of_eq HG0.out) _
      · have hzb : ((k2 : Int) == (s.size : Int)) = true := by rw [beq_iff_eq]; omega
        have ht0 : tl = [] := by rw [← HD2.out]; exact drop_nil s k2 hz
        have HT0 := Lib.hid ht0; clear ht0
        have r0 := HX0.out.c0; have r1 := HX0.out.c1; have q0 := HX0.out.f 0; have q1 := HX0.out.f 1; have k0 := HX1.out.c0; have k1 := HX1.out.c1
        go_wp2
        refine bodyPost_ret (v := .tuple #[.agg #[.string nm, .string ⟨#[]⟩], .int .i64 ((s.size + 1 : Nat) : Int)]) ?_ rfl ⟨⟨nm, ⟨#[]⟩⟩, s.size + 1, rfl, .inr ⟨rfl, ?_⟩, ?_⟩
        · have hf := (HX0.out.set0 nm).set1 ⟨#[]⟩
          have z0 := hf.c0; have z1 := hf.c1
          simp [results, Tryz.results77, go_sem, z0, z1]
        · rw [HAT2.out, HT0.out]; rfl
        · exact (HB5.out.setCell (Nat.le_of_eq HG0.out) _).setCell (Nat.le_of_eq HG0.out) _

end Go.Proofs.YtdplbcchkjpcdaaGreatDoor.To
