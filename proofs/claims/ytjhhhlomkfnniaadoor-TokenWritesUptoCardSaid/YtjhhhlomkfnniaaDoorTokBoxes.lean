/-
  Tokens in boxes, attributes of the call's own beside them.
-/
import Derived.Test.YtjhhhlomkfnniaaDoorTokFixed
namespace Go.Proofs.YtjhhhlomkfnniaaDoor.To
set_option linter.unusedSimpArgs false
set_option linter.unusedVariables false
open Go.RowKit Ba Fm Fo Tm
open Ro (below_new At acells len_acells Sh Ra range2)

theorem Tb.f {w : World} {g : Nat} {x : Tw} (h : Tb w g x) (j : Nat) : w.frozen? ⟨g, j, none⟩ = false := by
  unfold Tb at h
  simp [World.frozen?, h]
theorem Tb.lt {w : World} {g : Nat} {x : Tw} (h : Tb w g x) : g < w.heap.size := (Array.getElem?_eq_some_iff.1 h).1
theorem Tb.below {w w' : World} {g : Nat} {x : Tw} (h : Tb w g x) (hb : Below w.heap.size w w') : Tb w' g x := (hb.block g h.lt).trans h
theorem Tb.kept {w w' : World} {g b : Nat} {x : Tw} (h : Tb w g x) (hg : w.grownBy w' (some b)) (hne : g ≠ b) : Tb w' g x := (hg.block g h.lt (by simpa using hne)).trans h
theorem Tb.other {w : World} {g b j : Nat} {x : Tw} (h : Tb w g x) (hne : g ≠ b) (u : Value) : Tb (w.setCell ⟨b, j, none⟩ u) g x := h.kept (g_set w b j u) hne
theorem Tb.set2 {w : World} {g : Nat} {x : Tw} (h : Tb w g x) (d : ByteArray) : Tb (w.setCell ⟨g, 2, none⟩ (.string d)) g ⟨⟨x.tk.kind, x.tk.name, d, x.tk.attrs, x.tk.self⟩, x.A, x.c⟩ := by
  unfold Tb at h ⊢
  simp [World.setCell, Array.getElem?_modify, h]
theorem Tb.set0 {w : World} {g : Nat} {x : Tw} (h : Tb w g x) (k : Int) : Tb (w.setCell ⟨g, 0, none⟩ (.int .i64 k)) g ⟨⟨k, x.tk.name, x.tk.data, x.tk.attrs, x.tk.self⟩, x.A, x.c⟩ := by
  unfold Tb at h ⊢
  simp [World.setCell, Array.getElem?_modify, h]
theorem Tb.set4 {w : World} {g : Nat} {x : Tw} (h : Tb w g x) (b : Bool) : Tb (w.setCell ⟨g, 4, none⟩ (.bool b)) g ⟨⟨x.tk.kind, x.tk.name, x.tk.data, x.tk.attrs, b⟩, x.A, x.c⟩ := by
  unfold Tb at h ⊢
  simp [World.setCell, Array.getElem?_modify, h]
theorem Tb.set3 {w : World} {g : Nat} {x : Tw} (h : Tb w g x) (A : Option Addr) (c : Nat) (l : List At) : Tb (w.setCell ⟨g, 3, none⟩ (.slice A l.length c)) g ⟨⟨x.tk.kind, x.tk.name, x.tk.data, l, x.tk.self⟩, A, c⟩ := by
  unfold Tb at h ⊢
  simp [World.setCell, Array.getElem?_modify, h]
theorem Tb.over {w : World} {g : Nat} {y : Tw} (h : Tb w g y) (x : Tw) : Tb (((((w.setCell ⟨g, 0, none⟩ (.int .i64 x.tk.kind)).setCell ⟨g, 1, none⟩ (.string x.tk.name)).setCell ⟨g, 2, none⟩ (.string x.tk.data)).setCell ⟨g, 3, none⟩ (.slice x.A x.tk.attrs.length x.c)).setCell ⟨g, 4, none⟩ (.bool x.tk.self)) g x := by
  unfold Tb at h ⊢
  simp [World.setCell, Array.getElem?_modify, h]
theorem below_over {N : Nat} {w w' : World} (h : Below N w w') {g : Nat} (hg : N ≤ g) (a b c d e : Value) : Below N w (((((w'.setCell ⟨g, 0, none⟩ a).setCell ⟨g, 1, none⟩ b).setCell ⟨g, 2, none⟩ c).setCell ⟨g, 3, none⟩ d).setCell ⟨g, 4, none⟩ e) :=
  ((((h.setCell hg _).setCell hg _).setCell hg _).setCell hg _).setCell hg _

/-- A token with a kind and a text alone. -/
abbrev T0 (k : Int) (d : ByteArray) : Tw := ⟨⟨k, ⟨#[]⟩, d, [], false⟩, none, 0⟩
theorem Tb.z {w : World} {g : Nat} {k : Int} {d : ByteArray} (h : Tb w g (T0 k d)) : w.cell? ⟨g, 0, none⟩ = some (.int .i64 k) ∧ w.cell? ⟨g, 1, none⟩ = some (.string ⟨#[]⟩) ∧ w.cell? ⟨g, 2, none⟩ = some (.string d) ∧ w.cell? ⟨g, 3, none⟩ = some (.slice none 0 0) ∧ w.cell? ⟨g, 4, none⟩ = some (.bool false) := h.c

theorem Tb.over0 {w : World} {g : Nat} {y : Tw} (h : Tb w g y) (k : Int) (d : ByteArray) : Tb (((((w.setCell ⟨g, 0, none⟩ (.int .i64 k)).setCell ⟨g, 1, none⟩ (.string ⟨#[]⟩)).setCell ⟨g, 2, none⟩ (.string d)).setCell ⟨g, 3, none⟩ (.slice none 0 0)).setCell ⟨g, 4, none⟩ (.bool false)) g (T0 k d) := h.over (T0 k d)

theorem Tb.off {w w' : World} {g N : Nat} {x : Tw} {v : Value} {l : List At} (h : Tb w g x) (hv : Aw N w v l) (hg : w.grownBy w' v.ownBlock) : Tb w' g x :=
  (hg.block g h.lt (fun e => hv.ne h (by decide) e.symm)).trans h
theorem Aw.below {N : Nat} {w w' : World} {A : Option Addr} {c : Nat} {l : List At} (h : Aw N w (.slice A l.length c) l) (hb : Below w.heap.size w w') : Aw N w' (.slice A l.length c) l := Fr.below (h.fr 0 ⟨#[]⟩ ⟨#[]⟩ false) hb
theorem Aw.ra {N : Nat} {w : World} {A : Option Addr} {c : Nat} {l : List At} (h : Aw N w (.slice A l.length c) l) : Ra w w.heap.size A l := (Fr.att (h.fr 0 ⟨#[]⟩ ⟨#[]⟩ false)).2.2.2.1
theorem Tb.t {w : World} {g : Nat} {nm : ByteArray} {l : List At} {sf : Bool} {A : Option Addr} {c : Nat} (h : Tb w g ⟨⟨0, nm, ⟨#[]⟩, l, sf⟩, A, c⟩) : w.cell? ⟨g, 0, none⟩ = some (.int .i64 0) ∧ w.cell? ⟨g, 1, none⟩ = some (.string nm) ∧ w.cell? ⟨g, 2, none⟩ = some (.string ⟨#[]⟩) ∧ w.cell? ⟨g, 3, none⟩ = some (.slice A l.length c) ∧ w.cell? ⟨g, 4, none⟩ = some (.bool sf) := h.c
theorem Tb.overT {w : World} {g : Nat} {y : Tw} (h : Tb w g y) (nm : ByteArray) (l : List At) (sf : Bool) (A : Option Addr) (c : Nat) : Tb (((((w.setCell ⟨g, 0, none⟩ (.int .i64 0)).setCell ⟨g, 1, none⟩ (.string nm)).setCell ⟨g, 2, none⟩ (.string ⟨#[]⟩)).setCell ⟨g, 3, none⟩ (.slice A l.length c)).setCell ⟨g, 4, none⟩ (.bool sf)) g ⟨⟨0, nm, ⟨#[]⟩, l, sf⟩, A, c⟩ := h.over ⟨⟨0, nm, ⟨#[]⟩, l, sf⟩, A, c⟩
/-- Attributes of the call's own stay where a token's box is written. -/
theorem Aw.boxes {N : Nat} {w : World} {v : Value} {l : List At} {g j : Nat} {x : Tw} (h : Aw N w v l) (hb : Tb w g x) (u : Value) : Aw N (w.setCell ⟨g, j, none⟩ u) v l := h.kept (g_set w g j u) (.inr (h.ne hb (by decide)))
theorem Aw.over {N : Nat} {w : World} {v : Value} {l : List At} {g : Nat} {y : Tw} (h : Aw N w v l) (hb : Tb w g y) (nm : ByteArray) (l' : List At) (sf : Bool) (A : Option Addr) (c : Nat) : Aw N (((((w.setCell ⟨g, 0, none⟩ (.int .i64 0)).setCell ⟨g, 1, none⟩ (.string nm)).setCell ⟨g, 2, none⟩ (.string ⟨#[]⟩)).setCell ⟨g, 3, none⟩ (.slice A l'.length c)).setCell ⟨g, 4, none⟩ (.bool sf)) v l := by
  have h1 := h.boxes hb (j := 0) (.int .i64 0)
  have b1 := hb.set0 0
  have h2 := h1.boxes b1 (j := 1) (.string nm)
  have b2 : Tb ((w.setCell ⟨g, 0, none⟩ (.int .i64 0)).setCell ⟨g, 1, none⟩ (.string nm)) g ⟨⟨0, nm, y.tk.data, y.tk.attrs, y.tk.self⟩, y.A, y.c⟩ := by
    unfold Tb at hb ⊢
    simp [World.setCell, Array.getElem?_modify, hb]
  have h3 := h2.boxes b2 (j := 2) (.string ⟨#[]⟩)
  have b3 := b2.set2 ⟨#[]⟩
  have h4 := h3.boxes b3 (j := 3) (.slice A l'.length c)
  have b4 := b3.set3 A c l'
  exact h4.boxes b4 (j := 4) (.bool sf)

end Go.Proofs.YtjhhhlomkfnniaaDoor.To
