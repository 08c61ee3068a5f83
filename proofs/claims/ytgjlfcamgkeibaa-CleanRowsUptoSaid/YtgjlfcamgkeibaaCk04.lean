/-
  Configurations in memory: what a slice of api.Per reads as, a configuration as a value, and in a box.
  Slices of api.Per of the call's own: what they hold, what is kept where another one grows, append.
  Walks of stage 12: among, equal, isData, Element, named, Attr.
  boltingref02.Has.
  Walks of stage 12: Attr; the document's Element and Attr.
  The region of a map's literal: its entries may be put in whatever order; in each the map is made of the same pairs. It speaks of no program.
  Walks of stage 10: Handler, Nav.
  fold.Space.
  boltingref02.Space.
  Walks of stage 2, for later stages: fold.lowerByte, Letter, Lower, Same, Trim, boltingref02.Letter, Lower, Trim.
-/
import Derived.Test.YtgjlfcamgkeibaaCk03
import Derived.Deep.MidRow
import Derived.BigQuiet
import Derived.Deep.QuietTactic
import Derived.Deep.Cut
import Derived.Orders
import Derived.Tactics
import Derived.Maps.Keyed
import Derived.Maps.Own
import Derived.RegionTactic
import Derived.Below
import Derived.DeepKeys5
import Derived.Test.YtgjlfcamgkeibaaCk02
import Derived.Lib.ConvBytes
namespace Go.Proofs.Ytgjlfcamgkeibaa.Co
set_option maxRecDepth 100000
set_option linter.unusedVariables false
set_option linter.unusedSimpArgs false
open Go.RowKit Ba Fm Fo Nm Rk
/-- An element's attributes as they lie. -/
structure Pw where
  pe : Pe
  A : Option Addr
  c : Nat
def pcells (x : Pw) : List Value := [.string x.pe.el, .slice x.A x.pe.at_.length x.c]
theorem len_pcells (x : Pw) : (pcells x).length = 2 := rfl
abbrev perV (x : Pw) : Value := .agg #[.string x.pe.el, .slice x.A x.pe.at_.length x.c]
def pes (l : List Pw) : List Pe := l.map Pw.pe
theorem len_pes (l : List Pw) : (pes l).length = l.length := List.length_map _
theorem pes_append (a b : List Pw) : pes (a ++ b) = pes a ++ pes b := by simp [pes]
theorem pes_take (l : List Pw) (k : Nat) : (pes l).take k = pes (l.take k) := by simp [pes, List.map_take]
/-- Its attributes are there. -/
def Sx (w : World) (N : Nat) (x : Pw) : Prop := Sv w N (.slice x.A x.pe.at_.length x.c) x.pe.at_
/-- These lie at A, below block N. -/
def Pr (w : World) (N : Nat) (A : Option Addr) (l : List Pw) : Prop :=
  (0 < l.length → ∃ b off, A = some ⟨b, off, none⟩ ∧ b < N ∧ ∀ j (h : j < l.length), w.rangeAt b (off + j * 2) (pcells l[j])) ∧ ∀ x ∈ l, Sx w N x
def Pv (w : World) (N : Nat) (v : Value) (l : List Pw) : Prop := ∃ A c, v = .slice A l.length c ∧ l.length ≤ c ∧ (A = none → c = 0) ∧ Pr w N A l

theorem range_keep12 {w w' : World} {b o : Nat} {cs : List Value} (h : w.rangeAt b o cs) (hk : ∀ o, w'.cell? ⟨b, o, none⟩ = w.cell? ⟨b, o, none⟩) : w'.rangeAt b o cs := fun j v hv => (hk _).trans (h j v hv)
theorem Sx.below {w w' : World} {N M : Nat} {x : Pw} (h : Sx w N x) (hb : Below M w w') (hN : N ≤ M := by exact Nat.le_refl _) : Sx w' N x := Sv.below h hb hN
theorem Sx.more {w : World} {N M : Nat} {x : Pw} (h : Sx w N x) (hN : N ≤ M) : Sx w M x := Sv.more h hN
theorem Pr.below {w w' : World} {N M : Nat} {A : Option Addr} {l : List Pw} (h : Pr w N A l) (hb : Below M w w') (hN : N ≤ M := by exact Nat.le_refl _) : Pr w' N A l :=
  ⟨fun h0 => by
    obtain ⟨b, off, e, hbN, hc⟩ := h.1 h0
    exact ⟨b, off, e, hbN, fun j hj => range_keep12 (hc j hj) fun o => hb.cell (p := ⟨b, o, none⟩) (show b < M by omega)⟩, fun x hx => (h.2 x hx).below hb hN⟩
theorem Pr.more {w : World} {N M : Nat} {A : Option Addr} {l : List Pw} (h : Pr w N A l) (hN : N ≤ M) : Pr w M A l :=
  ⟨fun h0 => by
    obtain ⟨b, off, e, hb, hc⟩ := h.1 h0
    exact ⟨b, off, e, by omega, hc⟩, fun x hx => (h.2 x hx).more hN⟩
theorem Pr.nil (w : World) (N : Nat) (A : Option Addr) : Pr w N A [] := ⟨fun h => absurd h (by simp), fun _ h => by simp at h⟩
theorem Pv.below {w w' : World} {N M : Nat} {v : Value} {l : List Pw} (h : Pv w N v l) (hb : Below M w w') (hN : N ≤ M := by exact Nat.le_refl _) : Pv w' N v l := by
  obtain ⟨A, c, h1, h2, h3, h4⟩ := h
  exact ⟨A, c, h1, h2, h3, h4.below hb hN⟩
theorem Pv.more {w : World} {N M : Nat} {v : Value} {l : List Pw} (h : Pv w N v l) (hN : N ≤ M) : Pv w M v l := by
  obtain ⟨A, c, h1, h2, h3, h4⟩ := h
  exact ⟨A, c, h1, h2, h3, h4.more hN⟩
/-- The one at k. -/
theorem Pr.at_ {w : World} {N : Nat} {A : Option Addr} {l : List Pw} (h : Pr w N A l) (k : Nat) (hk : k < l.length) :
    ∃ b off x, A = some ⟨b, off, none⟩ ∧ b < N ∧ l[k]? = some x ∧ w.rangeAt b (off + k * 2) [.string x.pe.el, .slice x.A x.pe.at_.length x.c] ∧ Sx w N x ∧ x ∈ l := by
  obtain ⟨b, off, e, hb, hc⟩ := h.1 (by omega)
  exact ⟨b, off, l[k], e, hb, List.getElem?_eq_getElem hk, hc k hk, h.2 _ (List.getElem_mem _), List.getElem_mem _⟩
theorem info_per : (Try.prog.info? 48).map (fun i => (i.zero, i.size, i.bytes)) = some (some (.agg #[.string .empty, .slice none 0 0]), 2, 40) := by kernel_rfl
theorem range2p {w : World} {b o : Nat} {v0 v1 : Value} (h : w.rangeAt b o [v0, v1]) : w.cell? ⟨b, o, none⟩ = some v0 ∧ w.cell? ⟨b, o + 1, none⟩ = some v1 := ⟨h 0 _ rfl, h 1 _ rfl⟩

/-! ### A configuration -/
abbrev confV (c : Cf) (vE vR vA vP : Value) : Value := .agg #[.bool c.allow, .bool c.attrsAllow, vE, vR, vA, vP, .bool c.comments, .bool c.dataAttrs]
abbrev confO (c : Cf) (vE vR vA vP : Value) : Obj := .cells #[.bool c.allow, .bool c.attrsAllow, vE, vR, vA, vP, .bool c.comments, .bool c.dataAttrs] 26
theorem size_conf : (Try.prog.info? 26).map (·.size) = some 8 := by kernel_rfl
/-- Its parts. -/
structure Cp (w : World) (N : Nat) (c : Cf) (vE vR vA vP : Value) (l : List Pw) : Prop where
  e : Sv w N vE c.els
  r : Sv w N vR c.reps
  a : Sv w N vA c.ats
  p : Pv w N vP l
  m : pes l = c.per
def Cv (w : World) (N : Nat) (v : Value) (c : Cf) : Prop := ∃ vE vR vA vP l, v = confV c vE vR vA vP ∧ Cp w N c vE vR vA vP l
theorem Cp.below {w w' : World} {N M : Nat} {c : Cf} {vE vR vA vP : Value} {l : List Pw} (h : Cp w N c vE vR vA vP l) (hb : Below M w w') (hN : N ≤ M := by exact Nat.le_refl _) : Cp w' N c vE vR vA vP l := ⟨h.e.below hb hN, h.r.below hb hN, h.a.below hb hN, h.p.below hb hN, h.m⟩
theorem Cp.more {w : World} {N M : Nat} {c : Cf} {vE vR vA vP : Value} {l : List Pw} (h : Cp w N c vE vR vA vP l) (hN : N ≤ M) : Cp w M c vE vR vA vP l := ⟨h.e.more hN, h.r.more hN, h.a.more hN, h.p.more hN, h.m⟩
theorem Cp.on {w w' : World} {c : Cf} {vE vR vA vP : Value} {l : List Pw} (h : Cp w w.heap.size c vE vR vA vP l) (hb : Below w.heap.size w w') : Cp w' w'.heap.size c vE vR vA vP l := (h.below hb).more hb.size
theorem Cv.below {w w' : World} {N M : Nat} {v : Value} {c : Cf} (h : Cv w N v c) (hb : Below M w w') (hN : N ≤ M := by exact Nat.le_refl _) : Cv w' N v c := by
  obtain ⟨vE, vR, vA, vP, l, e, h⟩ := h
  exact ⟨vE, vR, vA, vP, l, e, h.below hb hN⟩
theorem Cv.more {w : World} {N M : Nat} {v : Value} {c : Cf} (h : Cv w N v c) (hN : N ≤ M) : Cv w M v c := by
  obtain ⟨vE, vR, vA, vP, l, e, h⟩ := h
  exact ⟨vE, vR, vA, vP, l, e, h.more hN⟩
theorem Cv.on {w w' : World} {v : Value} {c : Cf} (h : Cv w w.heap.size v c) (hb : Below w.heap.size w w') : Cv w' w'.heap.size v c := (h.below hb).more hb.size
theorem sv_on {w w' : World} {v : Value} {l : List ByteArray} (h : Sv w w.heap.size v l) (hb : Below w.heap.size w w') : Sv w' w'.heap.size v l := (Sv.below h hb (Nat.le_refl _)).more hb.size
theorem Pv.on {w w' : World} {v : Value} {l : List Pw} (h : Pv w w.heap.size v l) (hb : Below w.heap.size w w') : Pv w' w'.heap.size v l := (h.below hb).more hb.size
/-- A box that holds it. -/
def Bx (w : World) (b : Nat) (c : Cf) (vE vR vA vP : Value) : Prop := w.rangeAt b 0 [.bool c.allow, .bool c.attrsAllow, vE, vR, vA, vP, .bool c.comments, .bool c.dataAttrs]
theorem Bx.new (w : World) (c : Cf) (vE vR vA vP : Value) : Bx (w.alloc (confO c vE vR vA vP)) w.heap.size c vE vR vA vP := fun j v hv => by
  rw [Nat.zero_add, World.cell?_alloc_mark]
  match j, hv with
  | 0, hv | 1, hv | 2, hv | 3, hv | 4, hv | 5, hv | 6, hv | 7, hv => exact hv
  | j + 8, hv => simp at hv
theorem Bx.below {w w' : World} {b M : Nat} {c : Cf} {vE vR vA vP : Value} (h : Bx w b c vE vR vA vP) (hb : Below M w w') (hM : b < M) : Bx w' b c vE vR vA vP := range_keep12 h fun o => hb.cell (p := ⟨b, o, none⟩) hM
theorem Bx.at_ {w : World} {b : Nat} {c : Cf} {vE vR vA vP : Value} (h : Bx w b c vE vR vA vP) :
    w.cell? ⟨b, 0, none⟩ = some (.bool c.allow) ∧ w.cell? ⟨b, 1, none⟩ = some (.bool c.attrsAllow) ∧ w.cell? ⟨b, 2, none⟩ = some vE ∧ w.cell? ⟨b, 3, none⟩ = some vR ∧ w.cell? ⟨b, 4, none⟩ = some vA ∧ w.cell? ⟨b, 5, none⟩ = some vP ∧ w.cell? ⟨b, 6, none⟩ = some (.bool c.comments) ∧ w.cell? ⟨b, 7, none⟩ = some (.bool c.dataAttrs) :=
  ⟨h 0 _ rfl, h 1 _ rfl, h 2 _ rfl, h 3 _ rfl, h 4 _ rfl, h 5 _ rfl, h 6 _ rfl, h 7 _ rfl⟩
theorem below_new12 (w : World) (o : Obj) : Below w.heap.size w (w.alloc o) := (Below.refl _ _).alloc (Nat.le_refl _) _
theorem bel_eq12 {w w1 w2 : World} {n : Nat} (h : Below n w w1) (he : w2.heap = w1.heap) (ho : w2.os = w1.os) (ht : w2.tape = w1.tape) (hp : w2.output = w1.output) : Below n w w2 := ⟨ho.trans h.os, ht.trans h.tape, hp.trans h.output, by rw [he]; exact h.size, fun b hb => by rw [he]; exact h.block b hb⟩
/-- A block that holds a configuration. -/
def Hb (w : World) (g : Nat) (cs : Array Value) : Prop := w.heap[g]? = some (.cells cs 26)
theorem gcell12 (w : World) (b j : Nat) (u : Value) : w.grownBy (w.setCell ⟨b, j, none⟩ u) (some b) :=
  ⟨rfl, rfl, rfl, by simp [World.setCell], fun k _ hk => Below.heap_setCell _ _ _ _ (fun e => hk (by simp [e]))⟩
theorem gcells12 (b : Nat) : ∀ (vs : List Value) (o : Nat) (w : World), w.grownBy (w.setCells b o vs) (some b)
  | [], _, w => World.grownBy.refl w _
  | v :: r, o, w => (gcell12 w b o v).trans (gcells12 b r (o + 1) _)
theorem Hb.new (w : World) (cs : Array Value) : Hb (w.alloc (.cells cs 26)) w.heap.size cs := heap_alloc_new w _
theorem Hb.keep {w w' : World} {g : Nat} {cs : Array Value} (h : Hb w g cs) (hb : w'.heap[g]? = w.heap[g]?) : Hb w' g cs := hb.trans h
theorem Hb.lt {w : World} {g : Nat} {cs : Array Value} (h : Hb w g cs) : g < w.heap.size := (Array.getElem?_eq_some_iff.1 h).1
theorem Hb.below {w w' : World} {g M : Nat} {cs : Array Value} (h : Hb w g cs) (hb : Below M w w') (hM : g < M) : Hb w' g cs := h.keep (hb.block g hM)
theorem Hb.on {w w' : World} {g : Nat} {cs : Array Value} (h : Hb w g cs) (hb : Below w.heap.size w w') : Hb w' g cs := h.below hb h.lt
theorem Hb.set {w : World} {g : Nat} {cs : Array Value} (h : Hb w g cs) (j : Nat) (u : Value) (hj : j < cs.size := by simp) : Hb (w.setCell ⟨g, j, none⟩ u) g (cs.set j u hj) := by
  unfold Hb at h ⊢
  simp [World.setCell, Array.getElem?_modify, h, Array.setIfInBounds, hj]
theorem Hb.cell {w : World} {g : Nat} {cs : Array Value} (h : Hb w g cs) (j : Nat) (u : Value) (hu : cs[j]? = some u) : w.cell? ⟨g, j, none⟩ = some u := by
  rw [cell_of_row w g j _ _ _ h]
  exact hu
theorem Hb.f {w : World} {g : Nat} {cs : Array Value} (h : Hb w g cs) (j : Nat) : w.frozen? ⟨g, j, none⟩ = false := by
  unfold Hb at h
  simp [World.frozen?, h]
theorem Hb.there {w : World} {g : Nat} {cs : Array Value} (h : Hb w g cs) (n : Nat) (hn : n = cs.size) : w.there g 0 n := fun j hj => by
  rw [Nat.zero_add]
  exact ⟨by rw [h.cell j _ (Array.getElem?_eq_getElem (hn ▸ hj))]; rfl, h.f j⟩
theorem Hb.range {w : World} {g : Nat} {cs : Array Value} (h : Hb w g cs) : w.rangeAt g 0 cs.toList := fun j u hu => by
  rw [Nat.zero_add]
  exact h.cell j u (by rwa [Array.getElem?_toList] at hu)
/-- How much there may be. -/
structure Sm (c : Cf) : Prop where
  e : c.els.length ≤ 1000
  r : c.reps.length ≤ 1000
  a : c.ats.length ≤ 1000
  p : c.per.length ≤ 1000
  pa : ∀ p ∈ c.per, p.at_.length ≤ 1000
  es : ∀ s ∈ c.els, s.size ≤ 140737488355328
  rs : ∀ s ∈ c.reps, s.size ≤ 140737488355328
  as_ : ∀ s ∈ c.ats, s.size ≤ 140737488355328
  ps : ∀ p ∈ c.per, p.el.size ≤ 140737488355328 ∧ ∀ s ∈ p.at_, s.size ≤ 140737488355328

end Go.Proofs.Ytgjlfcamgkeibaa.Co

namespace Go.Proofs.Ytgjlfcamgkeibaa.Co
set_option maxRecDepth 100000
set_option linter.unusedVariables false
set_option linter.unusedSimpArgs false
open Go.RowKit Ba Fm Fo
theorem flat_at12 {α : Type} (f : α → List Value) (m : Nat) (hm : ∀ x, (f x).length = m) : ∀ (l : List α) (j i : Nat) (h : j < l.length), i < m → (l.flatMap f)[j * m + i]? = (f l[j])[i]?
  | [], j, _, h, _ => absurd h (by simp)
  | x :: r, 0, i, _, hi => by
    rw [List.flatMap_cons, List.getElem?_append_left (by rw [hm]; omega)]
    simp
  | x :: r, j + 1, i, h, hi => by
    rw [List.flatMap_cons, List.getElem?_append_right (by rw [hm, Nat.add_mul]; omega), hm, show (j + 1) * m + i - m = j * m + i from by rw [Nat.add_mul]; omega]
    rw [flat_at12 f m hm r j i (by simpa using h) hi]
    rfl
/-- Its attributes lie where no slice of api.Per of the call's own can lie. -/
def Ap (w : World) (N : Nat) (x : Pw) : Prop := 0 < x.pe.at_.length → ∃ b off, x.A = some ⟨b, off, none⟩ ∧ (b < N ∨ ∃ cs fr, w.heap[b]? = some (.cells cs 9 fr))
/-- Its attributes are the call's own. -/
def Fp (N : Nat) (w : World) (x : Pw) : Prop := Sown N w (.slice x.A x.pe.at_.length x.c) x.pe.at_
/-- v is a slice of api.Per of the call's own. -/
def Po (N : Nat) (w : World) (v : Value) (l : List Pw) : Prop := w.ownsRow N 48 2 v l.length (l.flatMap pcells) ∧ ∀ x ∈ l, Sx w w.heap.size x ∧ Ap w N x

theorem Fp.sx {N : Nat} {w : World} {x : Pw} (h : Fp N w x) : Sx w w.heap.size x := sv_own h
theorem Fp.ap {N M : Nat} {w : World} {x : Pw} (h : Fp N w x) : Ap w M x := fun h0 => by
  rcases h.2 with ⟨hv, hn⟩ | ⟨g, cap, cur, hv, hg, hh, _⟩
  · omega
  · injection hv with e1
    exact ⟨g, 0, e1, .inr ⟨_, _, hh⟩⟩
theorem Fp.below {N M : Nat} {w w' : World} {x : Pw} (h : Fp N w x) (hb : Below M w w') (hM : w.heap.size ≤ M := by exact Nat.le_refl _) : Fp N w' x := Sown.below h hb hM
theorem Fp.mono {N N' : Nat} {w : World} {x : Pw} (h : Fp N w x) (hN : N' ≤ N) : Fp N' w x := Sown.mono h hN
theorem Ap.below {N M : Nat} {w w' : World} {x : Pw} (h : Ap w N x) (hb : Below M w w') (hM : w.heap.size ≤ M := by exact Nat.le_refl _) : Ap w' N x := fun h0 => by
  obtain ⟨b, off, e, h⟩ := h h0
  refine ⟨b, off, e, ?_⟩
  rcases h with h | ⟨cs, fr, h⟩
  · exact .inl h
  · refine .inr ⟨cs, fr, ?_⟩
    have hlt : b < w.heap.size := (Array.getElem?_eq_some_iff.1 h).1
    rw [hb.block b (by omega)]
    exact h
theorem Ap.more {N M : Nat} {w : World} {x : Pw} (h : Ap w N x) (hN : N ≤ M) : Ap w M x := fun h0 => by
  obtain ⟨b, off, e, h⟩ := h h0
  exact ⟨b, off, e, h.imp (fun h => by omega) id⟩
theorem Sx.apart {N : Nat} {w : World} {x : Pw} (h : Sx w N x) : Ap w N x := fun h0 => by
  obtain ⟨b, off, e, hb, _⟩ := Sv.rd h h0
  exact ⟨b, off, e, .inl hb⟩
theorem Po.nil (N : Nat) (w : World) : Po N w (.slice none 0 0) [] := ⟨World.ownsRow_nil w N _ 2, fun _ h => by simp at h⟩
theorem Po.made (w : World) : Po w.heap.size (w.alloc (.cells #[] 48)) (.slice (some ⟨w.heap.size, 0, none⟩) 0 0) [] :=
  ⟨World.ownsRow_made w #[] 0 (Nat.le_refl _) (Nat.zero_le _) rfl, fun _ h => by simp at h⟩
theorem Po.below {N M : Nat} {w w' : World} {v : Value} {l : List Pw} (h : Po N w v l) (hb : Below M w w') (hM : w.heap.size ≤ M := by exact Nat.le_refl _) : Po N w' v l := by
  refine ⟨⟨h.1.1, ?_⟩, fun x hx => ⟨((h.2 x hx).1.below hb hM).more hb.size, (h.2 x hx).2.below hb hM⟩⟩
  rcases h.1.2 with hn | ⟨g, cap, cur, hv, hg, hh, rest⟩
  · exact .inl hn
  · refine .inr ⟨g, cap, cur, hv, hg, ?_, rest⟩
    have hlt : g < w.heap.size := (Array.getElem?_eq_some_iff.1 hh).1
    rw [hb.block g (by omega)]
    exact hh
theorem Po.alloc {N : Nat} {w : World} {v : Value} {l : List Pw} (h : Po N w v l) (o : Obj) : Po N (w.alloc o) v l := h.below (below_new12 w o)
/-- What a slice of the call's own is, and reads as. -/
theorem Po.form {N : Nat} {w : World} {v : Value} {l : List Pw} (h : Po N w v l) : ∃ A c, v = .slice A l.length c ∧ l.length ≤ c ∧ c ≤ maxLen ∧ (A = none → c = 0) ∧ Pr w w.heap.size A l := by
  rcases h.1.2 with ⟨hv, hl⟩ | ⟨g, cap, cur, hv, hg, hh, hn, hm, hs, ht⟩
  · have : l = [] := List.eq_nil_of_length_eq_zero hl
    subst this
    exact ⟨none, 0, hv, Nat.le_refl _, Nat.zero_le _, fun _ => rfl, Pr.nil _ _ _⟩
  · refine ⟨some ⟨g, 0, none⟩, cap, hv, hn, hm, (fun e => by cases e), fun _ => ⟨g, 0, rfl, (Array.getElem?_eq_some_iff.1 hh).1, fun j hj i u hu => ?_⟩, fun x hx => (h.2 x hx).1⟩
    have hi : i < 2 := (List.getElem?_eq_some_iff.1 hu).1
    subst hv
    have := World.ownsRow.cells h.1 (g := g) rfl (j * 2 + i) u (by rw [flat_at12 pcells 2 len_pcells _ _ _ hj hi]; exact hu)
    rw [WideShapes.add_plain] at this
    rw [show 0 + j * 2 + i = 0 + (j * 2 + i) from by omega]
    exact this
theorem Po.pv {N : Nat} {w : World} {v : Value} {l : List Pw} (h : Po N w v l) : Pv w w.heap.size v l := by
  obtain ⟨A, c, e, h1, _, h2, h3⟩ := h.form
  exact ⟨A, c, e, h1, h2, h3⟩

theorem pblock_ne {N n : Nat} {w : World} {v : Value} {xs : List Value} {b : Nat} {cs : Array Value} {fr : Nat × Nat} (h : w.ownsRow N 48 2 v n xs) (hb : w.heap[b]? = some (.cells cs 9 fr)) : some b ≠ v.ownBlock := by
  rcases h.2 with ⟨rfl, _⟩ | ⟨g, cap, cur, rfl, _, hh, _⟩
  · simp [Value.ownBlock]
  · intro e
    have e : b = g := by simpa [Value.ownBlock] using e
    subst e
    rw [hb] at hh
    injection hh with hh
    injection hh with _ ht
    exact absurd ht (by decide)
theorem plow_ne {N n : Nat} {w : World} {v : Value} {xs : List Value} {b : Nat} (h : w.ownsRow N 48 2 v n xs) (hb : b < N) : some b ≠ v.ownBlock := fun e => by
  have := (World.ownsRow.lt h b e.symm).1
  omega
theorem Sx.grown {N n : Nat} {w w' : World} {v : Value} {xs : List Value} {y : Pw} (h : w.ownsRow N 48 2 v n xs) (hg : w.grownBy w' v.ownBlock) (hy : Sx w w.heap.size y) (ha : Ap w N y) : Sx w' w'.heap.size y := by
  obtain ⟨A, c, e, h1, h2, h3⟩ := hy
  injection e with e1 e2 e3
  refine ⟨A, c, by rw [e1, e3], h1, h2, fun h0 => ?_⟩
  obtain ⟨b, off, e, hb, hc⟩ := h3 h0
  obtain ⟨b', off', e', ha⟩ := ha h0
  rw [e1, e] at e'
  injection e' with e'
  injection e' with e4 e5
  subst e4 e5
  have hne : some b ≠ v.ownBlock := by
    rcases ha with ha | ⟨cs, fr, ha⟩
    · exact plow_ne h ha
    · exact pblock_ne h ha
  exact ⟨b, off, e, Nat.lt_of_lt_of_le hb hg.size, fun j hj => (World.cell?_of_block (a := ⟨b, off + j, none⟩) (hg.block b hb hne)).trans (hc j hj)⟩
theorem Ap.grown {N n : Nat} {w w' : World} {v : Value} {xs : List Value} {y : Pw} (h : w.ownsRow N 48 2 v n xs) (hg : w.grownBy w' v.ownBlock) (ha : Ap w N y) : Ap w' N y := fun h0 => by
  obtain ⟨b, off, e, ha⟩ := ha h0
  refine ⟨b, off, e, ?_⟩
  rcases ha with ha | ⟨cs, fr, ha⟩
  · exact .inl ha
  · exact .inr ⟨cs, fr, (hg.block b (Array.getElem?_eq_some_iff.1 ha).1 (pblock_ne h ha)).trans ha⟩
abbrev perO (x : Pw) : Obj := .cells #[.string x.pe.el, .slice x.A x.pe.at_.length x.c] 48
theorem pbox_at (w : World) (x : Pw) (j : Nat) : (w.alloc (perO x)).cell? ⟨w.heap.size, j, none⟩ = (pcells x)[j]? := by
  rw [World.cell?_alloc_mark]
  match j with
  | 0 | 1 => rfl
  | j + 2 => simp [pcells]
theorem pbox_kept {w w3 : World} {x : Pw} (hb : Below (w.alloc (perO x)).heap.size (w.alloc (perO x)) w3) (j : Nat) : w3.cell? ⟨w.heap.size, j, none⟩ = (pcells x)[j]? :=
  (hb.cell (p := ⟨w.heap.size, j, none⟩) (by simp)).trans (pbox_at w x j)
theorem pcells_one (x : Pw) : ∀ u ∈ pcells x, u.oneCell' = true := by
  intro u hu
  simp only [pcells, List.mem_cons, List.not_mem_nil, or_false] at hu
  rcases hu with rfl | rfl <;> rfl
theorem Sx.boxed {w w0 : World} {x : Pw} (h : Sx w w0.heap.size x) (hb : Below w0.heap.size w0 w) (o : Obj) : Sx (w.alloc o) (w.alloc o).heap.size x :=
  ((h.more hb.size).below (below_new12 w o)).more (by simp)
/-- What is the call's own stays where a configuration's box is written. -/
theorem row_boxed {w w' : World} {N size n g : Nat} {e : TypeId} {v : Value} {xs : List Value} {cs : Array Value} (h : w.ownsRow N e size v n xs) (he : e ≠ 26) (hb : Hb w g cs) (hg : w.grownBy w' (some g)) : w'.ownsRow N e size v n xs := by
  refine ⟨h.1, ?_⟩
  rcases h.2 with hn | ⟨b, cap, cur, hv, hN, hh, rest⟩
  · exact .inl hn
  · refine .inr ⟨b, cap, cur, hv, hN, ?_, rest⟩
    have hne : b ≠ g := fun e' => by
      subst e'
      unfold Hb at hb
      rw [hb] at hh
      injection hh with hh
      injection hh with _ ht
      exact he ht.symm
    rw [hg.block b (Array.getElem?_eq_some_iff.1 hh).1 (by simpa using hne)]
    exact hh
theorem own_boxed {w w' : World} {N g : Nat} {v : Value} {l : List ByteArray} {cs : Array Value} (h : Sown N w v l) (hb : Hb w g cs) (hg : w.grownBy w' (some g)) : Sown N w' v l := row_boxed h (by decide) hb hg
theorem po_of {N : Nat} {w : World} {v : Value} {l : List Pw} (h : w.ownsRow N 48 2 v l.length (l.flatMap pcells)) (hf : ∀ x ∈ l, Fp N w x) : Po N w v l := ⟨h, fun x hx => ⟨(hf x hx).sx, (hf x hx).ap⟩⟩

/-- What is the call's own stays where an elder block grows. -/
theorem row_elder {w w' : World} {N size n : Nat} {e : TypeId} {v : Value} {xs : List Value} {row : Option Nat} (h : w.ownsRow N e size v n xs) (hg : w.grownBy w' row) (hr : ∀ b, row = some b → b < N) : w'.ownsRow N e size v n xs := by
  refine ⟨h.1, ?_⟩
  rcases h.2 with hn | ⟨b, cap, cur, hv, hN, hh, rest⟩
  · exact .inl hn
  · refine .inr ⟨b, cap, cur, hv, hN, ?_, rest⟩
    rw [hg.block b (Array.getElem?_eq_some_iff.1 hh).1 (fun e => by have := hr b e.symm; omega)]
    exact hh
/-- A configuration of the call's own. -/
structure Own12 (N : Nat) (w : World) (c : Cf) (vE vR vA vP : Value) (l : List Pw) : Prop where
  e : Sown N w vE c.els
  r : Sown N w vR c.reps
  a : Sown N w vA c.ats
  p : Po N w vP l
  f : ∀ x ∈ l, Fp N w x
  m : pes l = c.per
def Cow (N : Nat) (w : World) (v : Value) (c : Cf) : Prop := ∃ vE vR vA vP l, v = confV c vE vR vA vP ∧ Own12 N w c vE vR vA vP l
theorem Own12.cp {N : Nat} {w : World} {c : Cf} {vE vR vA vP : Value} {l : List Pw} (h : Own12 N w c vE vR vA vP l) : Cp w w.heap.size c vE vR vA vP l := ⟨sv_own h.e, sv_own h.r, sv_own h.a, h.p.pv, h.m⟩
theorem Own12.below {N : Nat} {w w' : World} {c : Cf} {vE vR vA vP : Value} {l : List Pw} (h : Own12 N w c vE vR vA vP l) (hb : Below w.heap.size w w') : Own12 N w' c vE vR vA vP l :=
  ⟨h.e.below hb (Nat.le_refl _), h.r.below hb (Nat.le_refl _), h.a.below hb (Nat.le_refl _), h.p.below hb, fun x hx => (h.f x hx).below hb, h.m⟩
theorem Own12.mono {N M : Nat} {w : World} {c : Cf} {vE vR vA vP : Value} {l : List Pw} (h : Own12 N w c vE vR vA vP l) (hN : M ≤ N) : Own12 M w c vE vR vA vP l :=
  ⟨h.e.mono hN, h.r.mono hN, h.a.mono hN, ⟨World.ownsRow.mono h.p.1 hN, fun x hx => ⟨(h.p.2 x hx).1, (h.f x hx).ap⟩⟩, fun x hx => (h.f x hx).mono hN, h.m⟩
theorem Own12.boxed {N g : Nat} {w w' : World} {c : Cf} {vE vR vA vP : Value} {l : List Pw} {cs : Array Value} (h : Own12 N w c vE vR vA vP l) (hb : Hb w g cs) (hg : w.grownBy w' (some g)) : Own12 N w' c vE vR vA vP l :=
  have hf : ∀ x ∈ l, Fp N w' x := fun x hx => own_boxed (h.f x hx) hb hg
  ⟨own_boxed h.e hb hg, own_boxed h.r hb hg, own_boxed h.a hb hg, po_of (row_boxed h.p.1 (by decide) hb hg) hf, hf, h.m⟩
theorem Cow.cv {N : Nat} {w : World} {v : Value} {c : Cf} (h : Cow N w v c) : Cv w w.heap.size v c := by
  obtain ⟨vE, vR, vA, vP, l, e, h⟩ := h
  exact ⟨vE, vR, vA, vP, l, e, h.cp⟩
theorem Cow.below {N : Nat} {w w' : World} {v : Value} {c : Cf} (h : Cow N w v c) (hb : Below w.heap.size w w') : Cow N w' v c := by
  obtain ⟨vE, vR, vA, vP, l, e, h⟩ := h
  exact ⟨vE, vR, vA, vP, l, e, h.below hb⟩
theorem Cow.mono {N M : Nat} {w : World} {v : Value} {c : Cf} (h : Cow N w v c) (hN : M ≤ N) : Cow M w v c := by
  obtain ⟨vE, vR, vA, vP, l, e, h⟩ := h
  exact ⟨vE, vR, vA, vP, l, e, h.mono hN⟩
theorem po_shape {N : Nat} {w : World} {v : Value} {l : List Pw} (h : Po N w v l) : ∃ A n c, v = .slice A n c := by
  obtain ⟨A, c, e, _⟩ := h.form
  exact ⟨A, _, c, e⟩
/-- A result that is a configuration, in its box: written there, and read. -/
theorem res_box {w : World} {g : Nat} {cs : Array Value} {c : Cf} {vE vR vA vP : Value} (h : Hb w g cs) (hc : cs.size = 8) :
    ∃ W, W = w.setCells g 0 [.bool c.allow, .bool c.attrsAllow, vE, vR, vA, vP, .bool c.comments, .bool c.dataAttrs] ∧ w.grownBy W (some g) ∧ Bx W g c vE vR vA vP :=
  ⟨_, rfl, gcells12 g _ 0 w, World.rangeAt_setCells_same w g 0 [.bool c.allow, .bool c.attrsAllow, vE, vR, vA, vP, .bool c.comments, .bool c.dataAttrs] (h.there 8 hc.symm)⟩

end Go.Proofs.Ytgjlfcamgkeibaa.Co

namespace Go.Proofs.Ytgjlfcamgkeibaa.Co
set_option maxRecDepth 100000
set_option linter.unusedVariables false
set_option linter.unusedSimpArgs false
open Go.RowKit Ba Fm Fo Nm Rk
theorem in_snoc (l : List ByteArray) (s : ByteArray) (k : Nat) (h : k < l.length) (hn : ¬ s ∈ l.take k) (he : l[k] ≠ s) : ¬ s ∈ l.take (k + 1) := by
  rw [List.take_succ_eq_append_getElem h, List.mem_append]
  rintro (h' | h')
  · exact hn h'
  · exact he (List.mem_singleton.1 h').symm
set_option maxHeartbeats 400000 in
theorem among_any (A : Option Addr) (c N : Nat) (l : List ByteArray) (s : ByteArray) (w : World) (hr : Rd w N A l) (hl : l.length ≤ 8796093022208) :
    Calls Try.prog 89 #[.slice A l.length c, .string s] w fun e w' => e = .returned (.bool (isIn s l)) ∧ w = w' := by
  go_enter Try.func89, Try.ntmps89
  go_wp2
  go_loop [6, 9] (fun _ i => ∃ k : Nat, i = .int .i64 k ∧ k ≤ l.length ∧ ¬ s ∈ l.take k) (fun _ i => l.length - (intOf i).toNat)
  case atStart => exact ⟨0, rfl, Nat.zero_le _, by simp⟩
  case round =>
    obtain ⟨k, rfl, hks, hn⟩ := hrel
    have HN := Lib.hid hn; clear hn
    by_cases hp : k < l.length
    · obtain ⟨b, off, rfl, _, hc⟩ := hr (by omega)
      have hcell := hc k hp
      clear hc hr
      have heq := eq_of_toList (a := l[k]) (b := s)
      by_cases he : l[k] = s
      · rw [decide_eq_true he] at heq
        have HE := Lib.hid he; clear he
        go_wp2
        go_ret
        exact ⟨ret_bool (isIn_yes (by have := HE.out; rw [← this]; exact List.getElem_mem _)).symm, rfl⟩
      · rw [decide_eq_false he] at heq
        have HE := Lib.hid he; clear he
        go_wp2
        go_round
        case rel => exact ⟨k + 1, by go_num, by omega, in_snoc l s k hp HN.out HE.out⟩
        case measure => simp [intOf]; omega
    · go_wp2
      go_ret
      refine ⟨ret_bool (isIn_no ?_).symm, rfl⟩
      have := HN.out
      rwa [List.take_of_length_le (by omega)] at this
theorem among1 (v : Value) (N : Nat) (l : List ByteArray) (s : ByteArray) (w : World) (q : Bool) (h : Sv w N v l) (hl : l.length ≤ 1000000) (hq : isIn s l = q) :
    Calls Try.prog 89 #[v, .string s] w fun e w' => e = .returned (.bool q) ∧ w = w' := by
  obtain ⟨A, c, rfl, _, _, hr⟩ := h
  subst hq
  exact among_any A c N l s w hr (by omega)
theorem among_q (v : Value) (N : Nat) (l : List ByteArray) (s : ByteArray) (w : World) (q : Bool) (h : Sv w N v l) (hl : l.length ≤ 1000000) (hq : isIn s l = q) (n : Nat) :
    Calls Try.prog 89 #[v, .string s] (w.drewN n) fun e w'' => e = .returned (.bool q) ∧ ∃ m, w'' = w.drewN m :=
  (among1 v N l s (w.drewN n) q h hl hq).mono fun e w' ⟨he, hw⟩ => ⟨he, n, hw.symm⟩
theorem equal1 (a b : ByteArray) (w : World) (q : Bool) (hq : decide (a = b) = q) :
    Calls Try.prog 86 #[.string a, .string b] w fun e w' => e = .returned (.bool q) ∧ w = w' := by
  have h := (eq_of_toList (a := a) (b := b)).trans hq
  clear hq
  go_enter Try.func86, Try.ntmps86
  go_wp2
  go_ret
  exact ⟨rfl, rfl⟩
theorem data_short {a : ByteArray} (h : ¬ 5 < a.size) : dataB a = false := by
  unfold dataB
  rw [decide_eq_false h]; rfl
theorem data_long {a : ByteArray} (h : 5 < a.size) : dataB a = ((a.extract 0 5).toList == dataL) := by
  unfold dataB
  rw [decide_eq_true h, Bool.true_and, toList_L, L_extract, List.drop_zero]
  rw [Bool.eq_iff_iff, decide_eq_true_iff, beq_iff_eq]
theorem isData1 (a : ByteArray) (w : World) (q : Bool) (ha : a.size ≤ 140737488355328) (hq : dataB a = q) :
    Calls Try.prog 71 #[.string a] w fun e w' => e = .returned (.bool q) ∧ w = w' := by
  by_cases h : 5 < a.size
  · rw [data_long h] at hq
    unfold dataL at hq
    have h1 : (5 : Int) < (a.size : Int) := by omega
    have h2 : decide (5 < a.size) = true := decide_eq_true h
    go_enter Try.func71, Try.ntmps71
    cases q with
    | true =>
      go_wp2
      go_ret
      exact ⟨rfl, rfl⟩
    | false =>
      go_wp2
      go_ret
      exact ⟨rfl, rfl⟩
  · rw [data_short h] at hq
    subst hq
    have h1 : ¬ (5 : Int) < (a.size : Int) := by omega
    have h2 : decide (5 < a.size) = false := decide_eq_false h
    go_enter Try.func71, Try.ntmps71
    go_wp2
    go_ret
    exact ⟨rfl, rfl⟩

theorem element1 (v : Value) (c : Cf) (s : ByteArray) (w : World) (q : Nat) (h : Cv w w.heap.size v c) (hs : Sm c) (hq : elementN c s = q) :
    Calls Try.prog 57 #[v, .string s] w fun e w' => e = .returned (.int .i64 q) ∧ Below w.heap.size w w' := by
  obtain ⟨vE, vR, vA, vP, l, rfl, h⟩ := h
  unfold elementN at hq
  have hb1 := below_new12 w (confO c vE vR vA vP)
  have hbx := (Bx.new w c vE vR vA vP).at_
  obtain ⟨_, _, _, _, _, _, _, _⟩ := hbx
  have hr := sv_on h.r hb1
  have he := sv_on h.e hb1
  go_enter Try.func57, Try.ntmps57
  cases hR : isIn s c.reps with
  | true =>
    rw [hR, if_pos rfl] at hq
    subst hq
    go_wp2_with fail
    refine (among1 vR _ c.reps s _ true hr (by have := hs.r; omega) hR).mono ?_
    rintro e w1 ⟨rfl, rfl⟩
    go_wp2
    go_ret
    exact ⟨rfl, hb1⟩
  | false =>
    rw [hR, if_neg (by simp)] at hq
    go_wp2_with fail
    refine (among1 vR _ c.reps s _ false hr (by have := hs.r; omega) hR).mono ?_
    rintro e w1 ⟨rfl, rfl⟩
    obtain ⟨b, hE⟩ : ∃ b, isIn s c.els = b := ⟨_, rfl⟩
    rw [hE] at hq
    have HQ := Lib.hid (among_q vE _ c.els s _ b he (by have := hs.e; omega) hE)
    clear he hE
    cases hbc : (b == c.allow) with
    | true =>
      rw [if_pos (eq_of_beq hbc)] at hq
      subst hq
      go_wp2
      go_quiet ((go_at_call 89; exact HQ.out _))
      go_wp2
      go_ret
      exact ⟨rfl, below_dN hb1 _⟩
    | false =>
      rw [if_neg (fun e => by rw [e] at hbc; simp at hbc)] at hq
      subst hq
      go_wp2
      go_quiet ((go_at_call 89; exact HQ.out _))
      go_wp2
      go_ret
      exact ⟨rfl, below_dN hb1 _⟩

theorem any_snoc {α : Type} (p : α → Bool) (l : List α) (k : Nat) (x : α) (h : l[k]? = some x) : (l.take (k + 1)).any p = ((l.take k).any p || p x) := by
  have hk : k < l.length := (List.getElem?_eq_some_iff.1 h).1
  have hx : l[k] = x := (List.getElem?_eq_some_iff.1 h).2
  rw [List.take_succ_eq_append_getElem hk, List.any_append, hx]
  simp
theorem any_yes {α : Type} (p : α → Bool) (l : List α) (x : α) (h : x ∈ l) (hp : p x = true) : l.any p = true := List.any_eq_true.2 ⟨x, h, hp⟩
set_option maxRecDepth 100000 in
set_option maxHeartbeats 2000000 in
theorem named1 (v : Value) (c : Cf) (e a : ByteArray) (w : World) (q : Bool) (h : Cv w w.heap.size v c) (hs : Sm c) (hq : namedB c e a = q) :
    Calls Try.prog 70 #[v, .string e, .string a] w fun r w' => r = .returned (.bool q) ∧ Below w.heap.size w w' := by
  obtain ⟨vE, vR, vA, vP, l, rfl, h⟩ := h
  obtain ⟨w0, hw0⟩ : ∃ w0, w.alloc (confO c vE vR vA vP) = w0 := ⟨_, rfl⟩
  have hb1 : Below w.heap.size w w0 := hw0 ▸ below_new12 w (confO c vE vR vA vP)
  have hbx : Bx w0 w.heap.size c vE vR vA vP := hw0 ▸ Bx.new w c vE vR vA vP
  have hz : w.heap.size < w0.heap.size := by rw [← hw0]; simp
  have HW := Lib.hid hw0; clear hw0
  obtain ⟨A, cp, rfl, hcp, hna, hr⟩ := h.p
  have hl : l.length ≤ 1000 := by have := hs.p; rw [← h.m, len_pes] at this; exact this
  have hmap : namedB c e a = (l.any (fun x => decide (x.pe.el = e) && isIn a x.pe.at_) || isIn a c.ats) := by
    unfold namedB
    rw [← h.m]
    unfold pes
    rw [List.any_map]
    rfl
  rw [hmap] at hq
  obtain ⟨p, hp⟩ : ∃ p : Pw → Bool, p = fun x => decide (x.pe.el = e) && isIn a x.pe.at_ := ⟨_, rfl⟩
  rw [← hp] at hq
  have HP := Lib.hid hp; clear hp hmap
  have hva := h.a
  have hlen : ∀ x ∈ l, x.pe.at_.length ≤ 1000 := fun x hx => hs.pa _ (by rw [← h.m]; exact List.mem_map.2 ⟨x, hx, rfl⟩)
  have HLEN := Lib.hid hlen; clear hlen
  have HQ := Lib.hid hq; clear hq
  go_enter Try.func70, Try.ntmps70
  go_wp2
  rw [HW.out]
  go_loopw [8, 12] (fun _ i wr => ∃ k : Nat, i = .int .i64 k ∧ k ≤ l.length ∧ (l.take k).any p = false ∧ Below w0.heap.size w0 wr) (fun _ i _ => l.length - (intOf i).toNat)
  case atStart => exact ⟨0, rfl, Nat.zero_le _, rfl, Below.refl _ _⟩
  case round =>
    obtain ⟨k, rfl, hks, hn, hbel⟩ := hrel
    by_cases hk : k < l.length
    · have hr1 := hr.below (hb1.trans (hbel.mono (Nat.le_of_lt hz)))
      obtain ⟨b, off, x, rfl, hb, hx, hcs, hsx, hxm⟩ := hr1.at_ k hk
      obtain ⟨g0, g1⟩ := range2p hcs
      have hxl := HLEN.out x hxm
      have hsn := any_snoc p l k x hx
      rw [hn, Bool.false_or] at hsn
      have hpx : p x = (decide (x.pe.el = e) && isIn a x.pe.at_) := by rw [HP.out]
      have hsx1 : Sx (wr.alloc (perO x)) w.heap.size x := hsx.below (below_new12 wr (perO x)) (Nat.le_trans (Nat.le_of_lt hz) hbel.size)
      have hbel1 := hbel.trans ((below_new12 wr (perO x)).mono hbel.size)
      clear hcs hsx hr1
      by_cases he : x.pe.el.toList = e.toList
      · have he' : x.pe.el = e := L_inj (by rw [← toList_L, ← toList_L]; exact he)
        rw [decide_eq_true he', Bool.true_and] at hpx
        obtain ⟨b1, hb1'⟩ : ∃ b1, isIn a x.pe.at_ = b1 := ⟨_, rfl⟩
        rw [hb1'] at hpx
        rw [hpx] at hsn
        have HB := Lib.hid hb1'; have HPX := Lib.hid hpx; have HSN := Lib.hid hsn; have HSX := Lib.hid hsx1; have HBL := Lib.hid hbel1
        clear hb1' hpx hsn hsx1 hbel1 he'
        cases b1 with
        | true =>
          go_wp2_with (go_at_call 89; refine (among1 _ _ x.pe.at_ a _ true HSX.out (by omega) HB.out).mono ?_; rintro r w3 ⟨rfl, rfl⟩)
          go_ret
          exact ⟨ret_bool (by rw [← HQ.out, any_yes p l x hxm HPX.out]; rfl), hb1.trans (HBL.out.mono (Nat.le_of_lt hz))⟩
        | false =>
          go_wp2_with (go_at_call 89; refine (among1 _ _ x.pe.at_ a _ false HSX.out (by omega) HB.out).mono ?_; rintro r w3 ⟨rfl, rfl⟩)
          go_roundw
          case rel => exact ⟨k + 1, by go_num, by omega, HSN.out, HBL.out⟩
          case measure => simp [intOf]; omega
      · have he' : ¬ x.pe.el = e := fun h => he (by rw [h])
        rw [decide_eq_false he', Bool.false_and] at hpx
        rw [hpx] at hsn
        have HSN := Lib.hid hsn; have HBL := Lib.hid hbel1
        clear hpx hsn hsx1 hbel1 he'
        go_wp2
        go_roundw
        case rel => exact ⟨k + 1, by go_num, by omega, HSN.out, HBL.out⟩
        case measure => simp [intOf]; omega
    · rw [List.take_of_length_le (by omega)] at hn
      have hc4 := (hbx.below hbel hz).at_.2.2.2.2.1
      have hva' := sv_on hva (hb1.trans (hbel.mono (Nat.le_of_lt hz)))
      obtain ⟨b1, hb1'⟩ : ∃ b1, isIn a c.ats = b1 := ⟨_, rfl⟩
      have hq' := HQ.out
      rw [hn, Bool.false_or, hb1'] at hq'
      subst hq'
      have HB := Lib.hid hb1'; clear hb1'
      have HBL := Lib.hid hbel
      clear hbel hn HQ
      go_wp2_with (go_at_call 89; refine (among1 _ _ c.ats a _ _ hva' (by have := hs.a; omega) HB.out).mono ?_; rintro r w3 ⟨rfl, rfl⟩)
      go_ret
      exact ⟨rfl, hb1.trans (HBL.out.mono (Nat.le_of_lt hz))⟩

end Go.Proofs.Ytgjlfcamgkeibaa.Co

namespace Go.Proofs.Ytgjlfcamgkeibaa.Fo
set_option maxRecDepth 100000
set_option linter.unusedSimpArgs false
set_option linter.unusedVariables false
open Go.RowKit Ba Fm
theorem has_snoc (l : List ByteArray) (s : ByteArray) (k : Nat) (h : k < l.length) (hn : ¬ s ∈ l.take k) (he : l[k] ≠ s) : ¬ s ∈ l.take (k + 1) := by
  rw [List.take_succ_eq_append_getElem h, List.mem_append]
  rintro (h' | h')
  · exact hn h'
  · exact he (List.mem_singleton.1 h').symm

set_option maxHeartbeats 400000 in
theorem has_any (A : Option Addr) (c N : Nat) (l : List ByteArray) (s : ByteArray) (w : World) (hr : Rd w N A l) (hl : l.length ≤ 8796093022208) :
    Calls Try.prog 61 #[.slice A l.length c, .string s] w fun e w' => e = .returned (.bool (isIn s l)) ∧ w = w' := by
  go_enter Try.func61, Try.ntmps61
  go_wp2
  go_loop [5] (fun i => ∃ k : Nat, i = .int .i64 k ∧ k ≤ l.length ∧ ¬ s ∈ l.take k) (fun i => l.length - (intOf i).toNat)
  case atStart => exact ⟨0, rfl, Nat.zero_le _, by simp⟩
  case round =>
    obtain ⟨k, rfl, hks, hn⟩ := hrel
    have HN := Lib.hid hn; clear hn
    by_cases hp : k < l.length
    · obtain ⟨b, off, rfl, _, hc⟩ := hr (by omega)
      have hcell := hc k hp
      clear hc hr
      have heq := eq_of_toList (a := l[k]) (b := s)
      by_cases he : l[k] = s
      · rw [decide_eq_true he] at heq
        have HE := Lib.hid he; clear he
        go_wp2
        go_ret
        exact ⟨ret_bool (isIn_yes (by have := HE.out; rw [← this]; exact List.getElem_mem _)).symm, rfl⟩
      · rw [decide_eq_false he] at heq
        have HE := Lib.hid he; clear he
        go_wp2
        go_round
        case rel => exact ⟨k + 1, by go_num, by omega, has_snoc l s k hp HN.out HE.out⟩
        case measure => simp [intOf]; omega
    · go_wp2
      go_ret
      refine ⟨ret_bool (isIn_no ?_).symm, rfl⟩
      have := HN.out
      rwa [List.take_of_length_le (by omega)] at this

end Go.Proofs.Ytgjlfcamgkeibaa.Fo

namespace Go.Proofs.Ytgjlfcamgkeibaa.Co
set_option maxRecDepth 100000
set_option linter.unusedVariables false
set_option linter.unusedSimpArgs false
open Go.RowKit Ba Fm Fo Nm Rk
set_option maxRecDepth 100000 in
set_option maxHeartbeats 2000000 in
theorem attr1 (v : Value) (c : Cf) (e a : ByteArray) (w : World) (q : Bool) (h : Cv w w.heap.size v c) (hs : Sm c) (ha : a.size ≤ 140737488355328) (hq : attrB12 c e a = q) :
    Calls Try.prog 30 #[v, .string e, .string a] w fun r w' => r = .returned (.bool q) ∧ Below w.heap.size w w' := by
  obtain ⟨vE, vR, vA, vP, l, rfl, h⟩ := h
  obtain ⟨al, aa, els, reps, ats, per, cm, da⟩ := c
  obtain ⟨O, hO⟩ : ∃ O : Obj, O = .cells #[.bool al, .bool aa, vE, vR, vA, vP, .bool cm, .bool da] 26 := ⟨_, rfl⟩
  have hb1 : Below w.heap.size w (w.alloc O) := below_new12 w O
  have hz : w.heap.size < (w.alloc O).heap.size := by simp
  have hbx : Bx (w.alloc O) w.heap.size ⟨al, aa, els, reps, ats, per, cm, da⟩ vE vR vA vP := by rw [hO]; exact Bx.new w ⟨al, aa, els, reps, ats, per, cm, da⟩ vE vR vA vP
  have hcv : Cv (w.alloc O) (w.alloc O).heap.size (.agg #[.bool al, .bool aa, vE, vR, vA, vP, .bool cm, .bool da]) ⟨al, aa, els, reps, ats, per, cm, da⟩ := ⟨vE, vR, vA, vP, l, rfl, h.on hb1⟩
  obtain ⟨n, hn⟩ : ∃ n, namedB ⟨al, aa, els, reps, ats, per, cm, da⟩ e a = n := ⟨_, rfl⟩
  have HN := Lib.hid (fun wx hb => named1 (.agg #[.bool al, .bool aa, vE, vR, vA, vP, .bool cm, .bool da]) ⟨al, aa, els, reps, ats, per, cm, da⟩ e a wx n (hcv.on hb) hs hn)
  have H7 := Lib.hid (fun (wx : World) (hb : Below (w.alloc O).heap.size (w.alloc O) wx) => show wx.cell? ⟨w.heap.size, 7, none⟩ = some (.bool da) from (hbx.below hb hz).at_.2.2.2.2.2.2.2)
  unfold attrB12 at hq
  rw [hn] at hq
  have HB1 := Lib.hid hb1
  clear hn hcv h hbx hb1 hs
  subst hO
  cases aa with
  | false =>
    rw [if_neg (by simp)] at hq
    subst hq
    go_enter Try.func30, Try.ntmps30
    go_wp2_with (go_at_call 70; refine (HN.out _ (Below.refl _ _)).mono ?_; rintro r w3 ⟨rfl, hb3⟩)
    go_ret
    exact ⟨rfl, bt HB1.out hb3⟩
  | true =>
    rw [if_pos rfl] at hq
    cases n with
    | true =>
      rw [Bool.true_or] at hq
      subst hq
      go_enter Try.func30, Try.ntmps30
      go_wp2_with (go_at_call 70; refine (HN.out _ (Below.refl _ _)).mono ?_; rintro r w3 ⟨rfl, hb3⟩)
      go_ret
      exact ⟨rfl, bt HB1.out hb3⟩
    | false =>
      rw [Bool.false_or] at hq
      obtain ⟨d, hd⟩ : ∃ d, dataB a = d := ⟨_, rfl⟩
      rw [hd] at hq
      have HD := Lib.hid hd; clear hd
      cases da with
      | false =>
        have hq : false = q := by rw [← hq]; rfl
        subst hq
        go_enter Try.func30, Try.ntmps30
        go_wp2_with (go_at_call 70; refine (HN.out _ (Below.refl _ _)).mono ?_; rintro r w3 ⟨rfl, hb3⟩; have g7 := H7.out _ hb3)
        go_ret
        exact ⟨rfl, bt HB1.out hb3⟩
      | true =>
        have hq : d = q := by rw [← hq]; rfl
        subst hq
        go_enter Try.func30, Try.ntmps30
        go_wp2_with (first
          | (go_at_call 70; refine (HN.out _ (Below.refl _ _)).mono ?_; rintro r w3 ⟨rfl, hb3⟩; have g7 := H7.out _ hb3)
          | (go_at_call 71; refine (isData1 a _ _ ha HD.out).mono ?_; rintro r w4 ⟨rfl, rfl⟩))
        go_ret
        exact ⟨rfl, bt HB1.out hb3⟩

theorem has1 (v : Value) (N : Nat) (l : List ByteArray) (s : ByteArray) (w : World) (q : Bool) (h : Sv w N v l) (hl : l.length ≤ 1000000) (hq : isIn s l = q) :
    Calls Try.prog 61 #[v, .string s] w fun e w' => e = .returned (.bool q) ∧ w = w' := by
  obtain ⟨A, c, rfl, _, _, hr⟩ := h
  subst hq
  exact has_any A c N l s w hr (by omega)
theorem has_q (v : Value) (N : Nat) (l : List ByteArray) (s : ByteArray) (w : World) (q : Bool) (h : Sv w N v l) (hl : l.length ≤ 1000000) (hq : isIn s l = q) (n : Nat) :
    Calls Try.prog 61 #[v, .string s] (w.drewN n) fun e w'' => e = .returned (.bool q) ∧ ∃ m, w'' = w.drewN m :=
  (has1 v N l s (w.drewN n) q h hl hq).mono fun e w' ⟨he, hw⟩ => ⟨he, n, hw.symm⟩
theorem refElement1 (v : Value) (c : Cf) (s : ByteArray) (w : World) (q : Nat) (h : Cv w w.heap.size v c) (hs : Sm c) (hq : elementN c s = q) :
    Calls Try.prog 62 #[v, .string s] w fun e w' => e = .returned (.int .i64 q) ∧ Below w.heap.size w w' := by
  obtain ⟨vE, vR, vA, vP, l, rfl, h⟩ := h
  unfold elementN at hq
  have hb1 := below_new12 w (confO c vE vR vA vP)
  have hr := sv_on h.r hb1
  have he := sv_on h.e hb1
  go_enter Try.func62, Try.ntmps62
  cases hR : isIn s c.reps with
  | true =>
    rw [hR, if_pos rfl] at hq
    subst hq
    go_wp2_with fail
    refine (has1 vR _ c.reps s _ true hr (by have := hs.r; omega) hR).mono ?_
    rintro e w1 ⟨rfl, rfl⟩
    go_wp2
    go_ret
    exact ⟨rfl, hb1⟩
  | false =>
    rw [hR, if_neg (by simp)] at hq
    go_wp2_with fail
    refine (has1 vR _ c.reps s _ false hr (by have := hs.r; omega) hR).mono ?_
    rintro e w1 ⟨rfl, rfl⟩
    obtain ⟨b, hE⟩ : ∃ b, isIn s c.els = b := ⟨_, rfl⟩
    rw [hE] at hq
    have HQ := Lib.hid (has_q vE _ c.els s _ b he (by have := hs.e; omega) hE)
    clear he hE
    cases hbc : (b == c.allow) with
    | true =>
      rw [if_pos (eq_of_beq hbc)] at hq
      subst hq
      go_wp2
      go_quiet ((go_at_call 61; exact HQ.out _))
      go_wp2
      go_ret
      exact ⟨rfl, below_dN hb1 _⟩
    | false =>
      rw [if_neg (fun e => by rw [e] at hbc; simp at hbc)] at hq
      subst hq
      go_wp2
      go_quiet ((go_at_call 61; exact HQ.out _))
      go_wp2
      go_ret
      exact ⟨rfl, below_dN hb1 _⟩

set_option maxRecDepth 100000 in
set_option maxHeartbeats 4000000 in
theorem refAttr1 (v : Value) (c : Cf) (e a : ByteArray) (w : World) (q : Bool) (h : Cv w w.heap.size v c) (hs : Sm c) (ha : a.size ≤ 140737488355328) (hq : attrB12 c e a = q) :
    Calls Try.prog 32 #[v, .string e, .string a] w fun r w' => r = .returned (.bool q) ∧ Below w.heap.size w w' := by
  obtain ⟨vE, vR, vA, vP, l, rfl, h⟩ := h
  obtain ⟨al, aa, els, reps, ats, per, cm, da⟩ := c
  obtain ⟨O, hO⟩ : ∃ O : Obj, O = .cells #[.bool al, .bool aa, vE, vR, vA, vP, .bool cm, .bool da] 26 := ⟨_, rfl⟩
  obtain ⟨w0, hw0⟩ : ∃ w0, w.alloc O = w0 := ⟨_, rfl⟩
  have hb1 : Below w.heap.size w w0 := hw0 ▸ below_new12 w O
  have hbx : Bx w0 w.heap.size ⟨al, aa, els, reps, ats, per, cm, da⟩ vE vR vA vP := by rw [← hw0, hO]; exact Bx.new w ⟨al, aa, els, reps, ats, per, cm, da⟩ vE vR vA vP
  obtain ⟨A, cp, rfl, hcp, hna, hr⟩ := (h.on hb1).p
  have hl : l.length ≤ 1000 := by have := hs.p; rw [← h.m, len_pes] at this; exact this
  have hlen : ∀ x ∈ l, x.pe.at_.length ≤ 1000 := fun x hx => hs.pa _ (by rw [← h.m]; exact List.mem_map.2 ⟨x, hx, rfl⟩)
  have hmap : namedB ⟨al, aa, els, reps, ats, per, cm, da⟩ e a = (isIn a ats || l.any (fun x => decide (x.pe.el = e) && isIn a x.pe.at_)) := by
    rw [Bool.or_comm]
    unfold namedB
    rw [← h.m]
    unfold pes
    rw [List.any_map]
    rfl
  obtain ⟨p, hp⟩ : ∃ p : Pw → Bool, p = fun x => decide (x.pe.el = e) && isIn a x.pe.at_ := ⟨_, rfl⟩
  rw [← hp] at hmap
  have HP := Lib.hid hp; have HLEN := Lib.hid hlen; have HR := Lib.hid hr; clear hp hlen hr
  obtain ⟨b0, hb0⟩ : ∃ b0, isIn a ats = b0 := ⟨_, rfl⟩
  rw [hb0] at hmap
  have HA := Lib.hid (fun wx (hx : w0 = wx) => has1 vA _ ats a wx b0 (hx ▸ sv_on h.a hb1) (by have := hs.a; simp only at this; omega) hb0)
  have HB1 := Lib.hid hb1; have HM := Lib.hid hmap; have HS := Lib.hid hs; have HQ := Lib.hid hq
  obtain ⟨g0, g1, g2, g3, g4, g5, g6, g7⟩ := hbx.at_
  simp only at g0 g1 g7
  clear h hbx hb1 hmap hs hb0 hq g0 g2 g3 g6 hna
  have HW := Lib.hid hw0; clear hw0
  subst hO
  go_enter Try.func32, Try.ntmps32
  go_upto_region 1 with (fail)
  rw [HW.out]
  go_wp2_with (go_at_call 61; refine (HA.out _ rfl).mono ?_; rintro r w3 ⟨rfl, rfl⟩)
  go_loopw [7, 8] (fun n i wr => ∃ k : Nat, i = .int .i64 k ∧ k ≤ l.length ∧ n = .bool (b0 || (l.take k).any p) ∧ w0 = wr) (fun _ i _ => l.length - (intOf i).toNat)
  case atStart => exact ⟨0, rfl, Nat.zero_le _, by simp, rfl⟩
  case round =>
    obtain ⟨k, rfl, hks, rfl, rfl⟩ := hrel
    obtain ⟨t, ht⟩ : ∃ t, (b0 || (l.take k).any p) = t := ⟨_, rfl⟩
    rw [ht]
    by_cases hk : k < l.length
    · obtain ⟨b, off, x, rfl, hb, hx, hcs, hsx, hxm⟩ := HR.out.at_ k hk
      obtain ⟨k0, k1⟩ := range2p hcs
      have hxl := HLEN.out x hxm
      have hsn := any_snoc p l k x hx
      have hpx : p x = (decide (x.pe.el = e) && isIn a x.pe.at_) := by rw [HP.out]
      have hk0 : (0 : Int) ≤ (k : Int) := by omega
      have hk1 : (k : Int) < (l.length : Int) := by omega
      have ht1 : (b0 || (l.take (k + 1)).any p) = (t || p x) := by rw [hsn, ← Bool.or_assoc, ht]
      have HT := Lib.hid ht1
      clear hcs hsn ht ht1
      cases t with
      | true =>
        go_wp2
        go_roundw
        case rel => exact ⟨k + 1, by go_num, by omega, by rw [HT.out]; rfl, by trivial⟩
        case measure => simp [intOf]; omega
      | false =>
        by_cases he : x.pe.el.toList = e.toList
        · have he' : x.pe.el = e := L_inj (by rw [← toList_L, ← toList_L]; exact he)
          rw [decide_eq_true he', Bool.true_and] at hpx
          obtain ⟨b1, hb1'⟩ : ∃ b1, isIn a x.pe.at_ = b1 := ⟨_, rfl⟩
          rw [hb1'] at hpx
          have HB := Lib.hid hb1'; have HPX := Lib.hid hpx; have HSX := Lib.hid hsx
          clear hb1' hpx hsx he'
          go_wp2_with (go_at_call 61; refine (has1 _ _ x.pe.at_ a _ b1 HSX.out (by omega) HB.out).mono ?_; rintro r w3 ⟨rfl, rfl⟩)
          go_roundw
          case rel => exact ⟨k + 1, by go_num, by omega, by rw [HT.out, HPX.out]; rfl, by trivial⟩
          case measure => simp [intOf]; omega
        · have he' : ¬ x.pe.el = e := fun h => he (by rw [h])
          rw [decide_eq_false he', Bool.false_and] at hpx
          have HPX := Lib.hid hpx
          clear hpx hsx he'
          go_wp2
          go_roundw
          case rel => exact ⟨k + 1, by go_num, by omega, by rw [HT.out, HPX.out]; rfl, by trivial⟩
          case measure => simp [intOf]; omega
    · rw [List.take_of_length_le (by omega)] at ht
      have hq := HQ.out
      unfold attrB12 at hq
      rw [HM.out, ht] at hq
      clear ht HA HP HLEN HM
      cases aa with
      | false =>
        rw [if_neg (by simp)] at hq
        subst hq
        go_wp2
        go_ret
        exact ⟨rfl, HB1.out⟩
      | true =>
        rw [if_pos rfl] at hq
        cases t with
        | true =>
          rw [Bool.true_or] at hq
          subst hq
          go_wp2
          go_ret
          exact ⟨rfl, HB1.out⟩
        | false =>
          rw [Bool.false_or] at hq
          cases da with
          | false =>
            have hq : false = q := by rw [← hq]; rfl
            subst hq
            go_wp2
            go_ret
            exact ⟨rfl, HB1.out⟩
          | true =>
            have hq : dataB a = q := by rw [← hq]; rfl
            by_cases h5 : 5 < a.size
            · rw [data_long h5] at hq
              unfold dataL at hq
              have h1 : (5 : Int) < (a.size : Int) := by omega
              have h2 : decide (5 < a.size) = true := decide_eq_true h5
              cases q with
              | true =>
                go_wp2
                go_ret
                exact ⟨rfl, HB1.out⟩
              | false =>
                go_wp2
                go_ret
                exact ⟨rfl, HB1.out⟩
            · rw [data_short h5] at hq
              subst hq
              have h1 : ¬ (5 : Int) < (a.size : Int) := by omega
              have h2 : decide (5 < a.size) = false := decide_eq_false h5
              go_wp2
              go_ret
              exact ⟨rfl, HB1.out⟩

end Go.Proofs.Ytgjlfcamgkeibaa.Co

namespace Go.Proofs.Ytgjlfcamgkeibaa.Ml
open Go.RowKit Go.MapKept
open Go.Maps (Keyed)
open Go.ChangeMaps (setBlock heap_setBlock_same heap_setBlock_other)
set_option linter.unusedVariables false
set_option linter.unusedSimpArgs false

/-- Block b is a map whose pairs are just those of S. -/
def Tab (P : Program) (k : TypeId) (w : World) (b : Nat) (S : Value → Value → Prop) : Prop :=
  ∃ es clock, w.heap[b]? = some (.map es clock) ∧ (∀ e ∈ es.toList, ∃ l, keyOf P k e.key = some l) ∧ ∀ x v, (∃ e ∈ es.toList, e.key = x ∧ e.val = v) ↔ S x v

theorem Tab.made (P : Program) (k : TypeId) (w : World) : Tab P k (w.alloc (.map #[] 0)) w.heap.size fun _ _ => False :=
  ⟨#[], 0, (MapKept.heap_alloc w _).1, by simp, by simp⟩
theorem Tab.congr {P : Program} {k : TypeId} {w : World} {b : Nat} {S S' : Value → Value → Prop} (h : Tab P k w b S) (e : ∀ x v, S x v ↔ S' x v) : Tab P k w b S' := by
  obtain ⟨es, c, h1, h2, h3⟩ := h
  exact ⟨es, c, h1, h2, fun x v => (h3 x v).trans (e x v)⟩
theorem Tab.kept {P : Program} {k : TypeId} {w w' : World} {b : Nat} {S : Value → Value → Prop} (h : Tab P k w b S) (e : w'.heap[b]? = w.heap[b]?) : Tab P k w' b S := by
  obtain ⟨es, c, h1, h2, h3⟩ := h
  exact ⟨es, c, e.trans h1, h2, h3⟩
theorem Tab.lt {P : Program} {k : TypeId} {w : World} {b : Nat} {S : Value → Value → Prop} (h : Tab P k w b S) : b < w.heap.size := by
  obtain ⟨es, c, h1, _⟩ := h
  exact (Array.getElem?_eq_some_iff.1 h1).1
/-- A key that is not there yet is put. -/
theorem Tab.put {P : Program} {k t e : TypeId} {w : World} {b : Nat} {S : Value → Value → Prop} (h : Tab P k w b S) (K : Keyed P k) (ht : P.underlying t = some (.map k e)) {key val : Value} {l : Lit} (hk : keyOf P k key = some l) (hne : ∀ v, ¬ S key v) :
    ∃ w', (Instr.mapUpdate t (.map (some b)) key val).run P w = .ok () w' ∧ Tab P k w' b (fun x v => S x v ∨ x = key ∧ v = val) ∧ w.grownBy w' (some b) := by
  obtain ⟨es, clock, hb, hks, hS⟩ := h
  rcases K.find w hk es.toList hks with ⟨h1, h2⟩ | ⟨j, e0, h1, h2, h3⟩
  · refine ⟨setBlock w b (.map (es.push ⟨key, val, clock⟩) (clock + 1)), ?_, ⟨_, _, heap_setBlock_same hb _, ?_, ?_⟩, ⟨rfl, rfl, rfl, by simp [setBlock], fun i _ hi => heap_setBlock_other hb _ (fun e => hi (by rw [e]))⟩⟩
    · simp [Instr.mapUpdate, run_underlying ht, MapKept.run_getObj_map hb, K.check w false hk, h1, MapKept.run_setObj_map _ hb, Result.andThen, setBlock]
    · intro x hx
      simp only [Array.toList_push, List.mem_append, List.mem_singleton] at hx
      rcases hx with hx | rfl
      · exact hks x hx
      · exact ⟨_, hk⟩
    · intro x v
      simp only [Array.toList_push, List.mem_append, List.mem_singleton]
      rw [← hS x v]
      constructor
      · rintro ⟨y, hy | rfl, rfl, rfl⟩
        · exact .inl ⟨y, hy, rfl, rfl⟩
        · exact .inr ⟨rfl, rfl⟩
      · rintro (⟨y, hy, h1, h2⟩ | ⟨rfl, rfl⟩)
        · exact ⟨y, .inl hy, h1, h2⟩
        · exact ⟨_, .inr rfl, rfl, rfl⟩
  · exact absurd ((hS key e0.val).1 ⟨e0, List.mem_of_getElem? h2, h3, rfl⟩) (hne _)
/-- 'v, ok := m[x]'. -/
theorem Tab.look {P : Program} {k t e : TypeId} {w : World} {b : Nat} {S : Value → Value → Prop} (h : Tab P k w b S) (K : Keyed P k) (ht : P.underlying t = some (.map k e)) {z : Value} (hz : (zeroValue e).run P w = .ok z w) {key : Value} {l : Lit} (hk : keyOf P k key = some l) :
    ((Instr.lookup t (.map (some b)) key true).run P w = .ok (.tuple #[z, .bool false]) w ∧ ∀ v, ¬ S key v) ∨ ∃ v, S key v ∧ (Instr.lookup t (.map (some b)) key true).run P w = .ok (.tuple #[v, .bool true]) w := by
  obtain ⟨es, clock, hb, hks, hS⟩ := h
  rcases K.find w hk es.toList hks with ⟨h1, h2⟩ | ⟨j, e0, h1, h2, h3⟩
  · refine .inl ⟨by simp [Instr.lookup, run_underlying ht, MapKept.run_getObj_map hb, K.check w _ hk, h1, hz, Result.andThen], fun v hv => ?_⟩
    obtain ⟨y, hy, e1, _⟩ := (hS key v).2 hv
    exact h2 y hy e1
  · exact .inr ⟨e0.val, (hS key e0.val).1 ⟨e0, List.mem_of_getElem? h2, h3, rfl⟩, by simp [Instr.lookup, run_underlying ht, MapKept.run_getObj_map hb, K.check w _ hk, h1, Result.andThen]⟩

/-- What an operation of such a region is there for. -/
inductive Job where
  | mk
  | val (v : Value)
  | ins (k v : Value)
def Job.out (b : Nat) : Job → Option Value
  | .mk => some (.map (some b))
  | .val v => some v
  | .ins _ _ => none

section
variable (P : Program) (k t : TypeId) (ops : Array Oper) (D : Nat → Job) (b : Nat)
/-- The slots as they are behind the first n operations. -/
def sets : Nat → Array Value → Array Value
  | 0, x => x
  | n + 1, x => match (ops[n]?).bind (·.dst), (D n).out b with
    | some d, some v => (sets n x).setIfInBounds d v
    | _, _ => sets n x
/-- The slots of what operation i comes behind hold what these yield. -/
def Knows (a : Act) (o : Oper) : Prop := ∀ e ∈ o.after.toList, e.ground = .data → ∀ q d v, ops[e.on]? = some q → q.dst = some d → (D e.on).out b = some v → a.eval (.tmp d) = v
/-- An operation does its job. -/
def Does (o : Oper) : Job → Prop
  | .mk => o.op = .makeMap t none
  | .val v => ∀ a w, Knows ops D b a o → (execOp a.eval o).run P w = .ok (.value v) w
  | .ins x v => o.dst = none ∧ (∃ e ∈ o.after.toList, e.ground = .data ∧ e.on = 0) ∧ ∃ m y z, o.op = .insert t m y z ∧ ∀ a, Knows ops D b a o → a.eval m = .map (some b) ∧ a.eval y = x ∧ a.eval z = v
/-- What holds all along. -/
structure Inv (a0 : Act) (w0 : World) (listed : Array Bool) (a : Act) (w : World) : Prop where
  size : listed.size = ops.size
  defers : a.defers = a0.defers
  room : a.tmps.size = a0.tmps.size
  holds : ∀ (i : Nat) (o : Oper) (d : Nat) (v : Value), listed[i]? = some true → ops[i]? = some o → o.dst = some d → (D i).out b = some v → a.tmps[d]? = some v
  stays : ∀ j : Nat, (∀ (i : Nat) (o : Oper), listed[i]? = some true → ops[i]? = some o → o.dst ≠ some j) → a.tmps[j]? = a0.tmps[j]?
  below : Below b w0 w
  world : (listed[0]? = some false ∧ w = w0 ∧ ∀ i x v, listed[i]? = some true → D i ≠ .ins x v) ∨ (listed[0]? = some true ∧ Tab P k w b fun x v => ∃ i, listed[i]? = some true ∧ D i = .ins x v)
end

section
variable {P : Program} {k t e : TypeId} {ops : Array Oper} {D : Nat → Job} {b : Nat} {Q : Exit → Act → World → Prop}

theorem get_set (l : Array Bool) (i j : Nat) (h : i < l.size) : (l.setIfInBounds i true)[j]? = some true ↔ j = i ∨ l[j]? = some true := by
  rw [Array.getElem?_setIfInBounds]
  by_cases e : i = j
  · subst e
    simp [h]
  · rw [if_neg e]
    exact ⟨.inr, fun h => h.resolve_left fun e' => e e'.symm⟩

theorem mem_ready {listed : Array Bool} {i : Nat} (h : i ∈ Region.ready .any ops listed) : ∃ o, ops[i]? = some o ∧ listed[i]? = some false ∧ ∀ x ∈ o.after.toList, x.ground = .data → listed[x.on]? = some true := by
  unfold Region.ready at h
  rw [List.mem_filter, Bool.and_eq_true] at h
  obtain ⟨hi, h1, h2⟩ := h
  rw [List.mem_range] at hi
  refine ⟨ops[i], Array.getElem?_eq_getElem hi, ?_, fun x hx hg => ?_⟩
  · rw [Array.getD_eq_getD_getElem?] at h1
    cases hl : listed[i]? with
    | none => rw [hl] at h1; cases h1
    | some v => rw [hl] at h1; cases v with
      | true => cases h1
      | false => rfl
  · rw [Array.getElem?_eq_getElem hi, Option.map_some, Option.getD_some, ← Array.all_toList, List.all_eq_true] at h2
    have := h2 x hx
    rw [Region.binds, hg] at this
    rw [Array.getD_eq_getD_getElem?] at this
    cases hl : listed[x.on]? with
    | none => rw [hl] at this; simp at this
    | some v => rw [hl] at this; simp at this; rw [this]

theorem ready_some {listed : Array Bool} (hord : ∀ (i : Nat) (o : Oper), ops[i]? = some o → ∀ x ∈ o.after.toList, x.on < i) (hs : listed.size = ops.size) (hr : Region.ready .any ops listed = []) : ∀ i < ops.size, listed[i]? = some true := by
  intro i
  induction i using Nat.strongRecOn with
  | ind i ih =>
    intro hi
    cases hl : listed[i]? with
    | none => rw [Array.getElem?_eq_none_iff] at hl; omega
    | some v =>
      cases v with
      | true => rfl
      | false =>
        exfalso
        have : i ∈ Region.ready .any ops listed := by
          unfold Region.ready
          rw [List.mem_filter, List.mem_range, Bool.and_eq_true]
          refine ⟨hi, by rw [Array.getD_eq_getD_getElem?, hl]; rfl, ?_⟩
          rw [Array.getElem?_eq_getElem hi, Option.map_some, Option.getD_some, ← Array.all_toList, List.all_eq_true]
          intro x hx
          have hlt := hord i _ (Array.getElem?_eq_getElem hi) x hx
          rw [Array.getD_eq_getD_getElem?, ih _ hlt (by omega)]
          simp
        rw [hr] at this
        cases this

/-- Each operation that may come up does its job, whatever came up before it. -/
theorem step {a0 : Act} {w0 : World} {listed : Array Bool} {a : Act} {w : World} {i : Nat} {o : Oper} (K : Keyed P k) (ht : P.underlying t = some (.map k e)) (hb : b = w0.heap.size)
    (hguard : o.guard = none) (hslot : ∀ d, o.dst = some d → d < a0.tmps.size) (hone : ∀ j q d, ops[j]? = some q → q.dst = some d → o.dst = some d → j = i)
    (hdoes : Does P t ops D b o (D i)) (hmk0 : D 0 = .mk) (hmk : D i = .mk → i = 0) (hout : ∀ d, o.dst = some d → ∃ v, (D i).out b = some v)
    (hkeys : ∀ j x v, D j = .ins x v → ∃ l, keyOf P k x = some l) (hdist : ∀ j x v v', D i = .ins x v → D j = .ins x v' → j = i)
    (h : Inv P k ops D b a0 w0 listed a w) (ho : ops[i]? = some o) (hl : listed[i]? = some false) (hafter : ∀ x ∈ o.after.toList, x.ground = .data → listed[x.on]? = some true) :
    o.wp P a w (fun a' w' => Inv P k ops D b a0 w0 (listed.setIfInBounds i true) a' w') Q := by
  have hlt : i < listed.size := (Array.getElem?_eq_some_iff.1 hl).1
  have hkn : Knows ops D b a o := by
    intro x hx hg q d v hq hd hv
    have := h.holds x.on q d v (hafter x hx hg) hq hd hv
    show a.tmps.getD d undef = v
    rw [Array.getD_eq_getD_getElem?, this]
    rfl
  -- the slots behind it
  have hput : ∀ (v : Value) (w' : World), (∀ d, o.dst = some d → (D i).out b = some v) → Below b w0 w' →
      ((listed.setIfInBounds i true)[0]? = some false ∧ w' = w0 ∧ (∀ j x v, (listed.setIfInBounds i true)[j]? = some true → D j ≠ .ins x v) ∨ (listed.setIfInBounds i true)[0]? = some true ∧ Tab P k w' b fun x v => ∃ j, (listed.setIfInBounds i true)[j]? = some true ∧ D j = .ins x v) →
      Inv P k ops D b a0 w0 (listed.setIfInBounds i true) (a.put o.dst v) w' := by
    intro v w' hv hbel hw
    cases hd : o.dst with
    | none =>
      refine ⟨by rw [Array.size_setIfInBounds, h.size], h.defers, h.room, ?_, ?_, hbel, hw⟩
      · intro j q d u hj hq hqd hu
        rcases (get_set listed i j hlt).1 hj with rfl | hj
        · rw [ho] at hq
          cases hq
          rw [hd] at hqd
          cases hqd
        · exact h.holds j q d u hj hq hqd hu
      · intro j hj
        exact h.stays j fun i' o' h1 h2 => hj i' o' ((get_set listed i i' hlt).2 (.inr h1)) h2
    | some d =>
      have hds : d < a.tmps.size := by rw [h.room]; exact hslot d hd
      refine ⟨by rw [Array.size_setIfInBounds, h.size], h.defers, ?_, ?_, ?_, hbel, hw⟩
      · show (a.tmps.setIfInBounds d v).size = _
        rw [Array.size_setIfInBounds, h.room]
      · intro j q d' u hj hq hqd hu
        show (a.tmps.setIfInBounds d v)[d']? = _
        rw [Array.getElem?_setIfInBounds]
        rcases (get_set listed i j hlt).1 hj with rfl | hj1
        · rw [ho] at hq
          cases hq
          rw [hd] at hqd
          cases hqd
          rw [if_pos rfl, if_pos hds, ← hu, hv d hd]
        · by_cases e : d = d'
          · subst e
            have := hone j q d hq hqd hd
            subst this
            rw [hl] at hj1
            cases hj1
          · rw [if_neg e]
            exact h.holds j q d' u hj1 hq hqd hu
      · intro j hj
        show (a.tmps.setIfInBounds d v)[j]? = _
        have hne : d ≠ j := fun e => hj i o ((get_set listed i i hlt).2 (.inl rfl)) ho (by rw [hd, e])
        rw [Array.getElem?_setIfInBounds, if_neg hne]
        exact h.stays j fun i' o' h1 h2 => hj i' o' ((get_set listed i i' hlt).2 (.inr h1)) h2
  unfold Oper.wp
  cases hD : D i with
  | mk =>
    rw [hD] at hdoes
    have e0 := hmk hD
    subst e0
    have hop : o.op = .makeMap t none := hdoes
    have hw0 : w = w0 := by
      rcases h.world with ⟨_, h2, _⟩ | ⟨h1, _⟩
      · exact h2
      · rw [hl] at h1
        cases h1
    subst hw0
    have hrun : (execOp a.eval o).run P w = .ok (.value (.map (some b))) (w.alloc (.map #[] 0)) := by
      unfold execOp
      rw [hop]
      simp [Instr.makeMap, run_underlying ht, Result.andThen, hb]
    rw [hrun]
    refine hput _ _ (fun d hd => by rw [hD]; rfl) ((Below.refl _ _).alloc (by omega) _) (.inr ⟨(get_set listed 0 0 hlt).2 (.inl rfl), ?_⟩)
    rw [hb]
    refine (Tab.made P k w).congr fun x v => ⟨fun h => h.elim, fun ⟨j, hj, hDj⟩ => ?_⟩
    rcases (get_set listed 0 j hlt).1 hj with rfl | hj
    · rw [hD] at hDj
      cases hDj
    · rcases h.world with ⟨_, _, h3⟩ | ⟨h1, _⟩
      · exact h3 j x v hj hDj
      · rw [hl] at h1
        cases h1
  | val v =>
    rw [hD] at hdoes
    rw [hdoes a w hkn]
    refine hput _ _ (fun d hd => by rw [hD]; rfl) h.below ?_
    have hno : ∀ j x u, (listed.setIfInBounds i true)[j]? = some true → D j = .ins x u → listed[j]? = some true := by
      intro j x u hj hDj
      rcases (get_set listed i j hlt).1 hj with rfl | hj
      · rw [hD] at hDj
        cases hDj
      · exact hj
    rcases h.world with ⟨h1, h2, h3⟩ | ⟨h1, h2⟩
    · by_cases e0 : i = 0
      · subst e0
        rw [hmk0] at hD
        cases hD
      · refine .inl ⟨by rw [Array.getElem?_setIfInBounds, if_neg e0]; exact h1, h2, fun j x u hj hDj => h3 j x u (hno j x u hj hDj) hDj⟩
    · exact .inr ⟨(get_set listed i 0 hlt).2 (.inr h1), h2.congr fun x u => ⟨fun ⟨j, hj, hDj⟩ => ⟨j, (get_set listed i j hlt).2 (.inr hj), hDj⟩, fun ⟨j, hj, hDj⟩ => ⟨j, hno j x u hj hDj, hDj⟩⟩⟩
  | ins x v =>
    rw [hD] at hdoes
    obtain ⟨hdst, ⟨x0, hx0, hg0, hx0'⟩, m, y, z, hop, hev⟩ := hdoes
    obtain ⟨em, ey, ez⟩ := hev a hkn
    have h0 := hafter x0 hx0 hg0
    rw [hx0'] at h0
    rcases h.world with ⟨h1, _⟩ | ⟨_, hT⟩
    · rw [h0] at h1
      cases h1
    · obtain ⟨l, hkl⟩ := hkeys i x v hD
      obtain ⟨w', hrun, hT', hg⟩ := hT.put K ht (val := v) hkl (fun u ⟨j, hj, hDj⟩ => by
        have := hdist j x v u hD hDj
        subst this
        rw [hl] at hj
        cases hj)
      have hrun2 : (execOp a.eval o).run P w = .ok .skip w' := by
        unfold execOp
        rw [hop]
        simp [em, ey, ez, hrun, Result.andThen]
      rw [hrun2]
      have hlt' := hT.lt
      refine hput _ _ (fun d hd => by rw [hdst] at hd; cases hd) (h.below.grown hg (by omega) (fun k hk => by cases hk; exact Nat.le_refl _)) (.inr ⟨(get_set listed i 0 hlt).2 (.inr h0), hT'.congr fun x' v' => ?_⟩)
      constructor
      · rintro (⟨j, hj, hDj⟩ | ⟨rfl, rfl⟩)
        · exact ⟨j, (get_set listed i j hlt).2 (.inr hj), hDj⟩
        · exact ⟨i, (get_set listed i i hlt).2 (.inl rfl), hD⟩
      · rintro ⟨j, hj, hDj⟩
        rcases (get_set listed i j hlt).1 hj with rfl | hj
        · rw [hD] at hDj
          cases hDj
          exact .inr ⟨rfl, rfl⟩
        · exact .inl ⟨j, hj, hDj⟩

theorem run_inv {a0 : Act} {w0 : World} (K : Keyed P k) (ht : P.underlying t = some (.map k e)) (hb : b = w0.heap.size)
    (hguard : ∀ (i : Nat) (o : Oper), ops[i]? = some o → o.guard = none) (hslot : ∀ (i : Nat) (o : Oper) (d : Nat), ops[i]? = some o → o.dst = some d → d < a0.tmps.size)
    (hone : ∀ (i j : Nat) (o q : Oper) (d : Nat), ops[i]? = some o → ops[j]? = some q → o.dst = some d → q.dst = some d → j = i)
    (hdoes : ∀ (i : Nat) (o : Oper), ops[i]? = some o → Does P t ops D b o (D i)) (hmk0 : D 0 = .mk) (hmk : ∀ i, D i = .mk → i = 0)
    (hout : ∀ (i : Nat) (o : Oper) (d : Nat), ops[i]? = some o → o.dst = some d → ∃ v, (D i).out b = some v)
    (hkeys : ∀ j x v, D j = .ins x v → ∃ l, keyOf P k x = some l) (hdist : ∀ i j x v v', D i = .ins x v → D j = .ins x v' → j = i)
    (hQ : ∀ listed a w, Inv P k ops D b a0 w0 listed a w → Region.ready .any ops listed = [] → Q .normal a w) :
    ∀ (fuel : Nat) (listed : Array Bool) (a : Act) (w : World), listed.toList.count false ≤ fuel → Inv P k ops D b a0 w0 listed a w → wpAny P .any ops Q fuel listed a w
  | 0, listed, a, w, hc, h => by
    have : Region.ready .any ops listed = [] := by
      cases hr : Region.ready .any ops listed with
      | nil => rfl
      | cons i r =>
        exfalso
        obtain ⟨o, ho, hl, _⟩ := mem_ready (ops := ops) (listed := listed) (i := i) (by rw [hr]; exact List.mem_cons_self)
        have := List.count_pos_iff.2 (List.mem_of_getElem? (l := listed.toList) (by simpa using hl))
        omega
    exact ⟨this, hQ listed a w h this⟩
  | fuel + 1, listed, a, w, hc, h => by
    refine ⟨hQ listed a w h, fun i hi => ?_⟩
    obtain ⟨o, ho, hl, hafter⟩ := mem_ready hi
    unfold wpOp
    rw [ho]
    have hw : Region.wanted o (yielded ops a.tmps) = true := by
      unfold Region.wanted
      rw [hguard i o ho]
    simp only [hw, if_true]
    refine .inl (Oper.wp_mono (fun a' w' h' => run_inv K ht hb hguard hslot hone hdoes hmk0 hmk hout hkeys hdist hQ fuel _ a' w' ?_ h') (step K ht hb (hguard i o ho) (fun d hd => hslot i o d ho hd) (fun j q d hq hqd hd => hone i j o q d ho hq hd hqd) (hdoes i o ho) hmk0 (hmk i) (fun d hd => hout i o d ho hd) hkeys (fun j x v v' h1 h2 => hdist i j x v v' h1 h2) h ho hl hafter))
    have hlt : i < listed.toList.length := by simpa using (Array.getElem?_eq_some_iff.1 hl).1
    have hli : listed.toList[i] = false := by
      have := (Array.getElem?_eq_some_iff.1 hl).2
      simpa using this
    have hpos := List.count_pos_iff.2 (List.mem_of_getElem? (l := listed.toList) (by simpa using hl))
    rw [Array.toList_setIfInBounds, List.count_set hlt, hli, if_pos (show (false == false) = true from rfl), if_neg (show ¬ (true == false) = true by decide)]
    omega

/-- The slots behind all. -/
theorem get_sets {x : Array Value} (hone : ∀ (i j : Nat) (o q : Oper) (d : Nat), ops[i]? = some o → ops[j]? = some q → o.dst = some d → q.dst = some d → j = i)
    (hslot : ∀ (i : Nat) (o : Oper) (d : Nat), ops[i]? = some o → o.dst = some d → d < x.size) (hout : ∀ (i : Nat) (o : Oper) (d : Nat), ops[i]? = some o → o.dst = some d → ∃ v, (D i).out b = some v) :
    ∀ n, (sets ops D b n x).size = x.size ∧ (∀ (i : Nat) (o : Oper) (d : Nat) (v : Value), i < n → ops[i]? = some o → o.dst = some d → (D i).out b = some v → (sets ops D b n x)[d]? = some v) ∧ ∀ j : Nat, (∀ (i : Nat) (o : Oper), i < n → ops[i]? = some o → o.dst ≠ some j) → (sets ops D b n x)[j]? = x[j]?
  | 0 => ⟨rfl, fun i o d v h => by omega, fun j _ => rfl⟩
  | n + 1 => by
    obtain ⟨h1, h2, h3⟩ := get_sets hone hslot hout n
    cases hn : ops[n]? with
    | none =>
      have e : sets ops D b (n + 1) x = sets ops D b n x := by rw [sets, hn]; rfl
      rw [e]
      refine ⟨h1, fun i o d v hi ho hd hv => ?_, fun j hj => h3 j fun i o hi => hj i o (by omega)⟩
      rcases Nat.lt_succ_iff_lt_or_eq.1 hi with hi | rfl
      · exact h2 i o d v hi ho hd hv
      · rw [hn] at ho
        cases ho
    | some q =>
      cases hd : q.dst with
      | none =>
        have e : sets ops D b (n + 1) x = sets ops D b n x := by rw [sets, hn, Option.bind_some, hd]
        rw [e]
        refine ⟨h1, fun i o d v hi ho hd' hv => ?_, fun j hj => h3 j fun i o hi => hj i o (by omega)⟩
        rcases Nat.lt_succ_iff_lt_or_eq.1 hi with hi | rfl
        · exact h2 i o d v hi ho hd' hv
        · rw [hn] at ho
          cases ho
          rw [hd] at hd'
          cases hd'
      | some d =>
        obtain ⟨v, hv⟩ := hout n q d hn hd
        have e : sets ops D b (n + 1) x = (sets ops D b n x).setIfInBounds d v := by rw [sets, hn, Option.bind_some, hd, hv]
        rw [e]
        have hlt : d < (sets ops D b n x).size := by rw [h1]; exact hslot n q d hn hd
        refine ⟨by rw [Array.size_setIfInBounds, h1], fun i o d' v' hi ho hd' hv' => ?_, fun j hj => ?_⟩
        · rw [Array.getElem?_setIfInBounds]
          rcases Nat.lt_succ_iff_lt_or_eq.1 hi with hi | rfl
          · have hne : d ≠ d' := fun e => by
              subst e
              have := hone i n o q d ho hn hd' hd
              omega
            rw [if_neg hne]
            exact h2 i o d' v' hi ho hd' hv'
          · rw [hn] at ho
            cases ho
            rw [hd] at hd'
            cases hd'
            rw [if_pos rfl, if_pos hlt, ← hv', hv]
        · have hne : d ≠ j := fun e => hj n q (by omega) hn (by rw [hd, e])
          rw [Array.getElem?_setIfInBounds, if_neg hne]
          exact h3 j fun i o hi => hj i o (by omega)

/-- THE REGION OF A MAP's LITERAL. -/
theorem region_lit {a0 : Act} {w : World} {id : Nat} (hm : P.follows .mixedOrders = true) (K : Keyed P k) (ht : P.underlying t = some (.map k e)) (hb : b = w.heap.size) (hn : 0 < ops.size)
    (hguard : ∀ (i : Nat) (o : Oper), ops[i]? = some o → o.guard = none) (hslot : ∀ (i : Nat) (o : Oper) (d : Nat), ops[i]? = some o → o.dst = some d → d < a0.tmps.size)
    (hone : ∀ (i j : Nat) (o q : Oper) (d : Nat), ops[i]? = some o → ops[j]? = some q → o.dst = some d → q.dst = some d → j = i)
    (hord : ∀ (i : Nat) (o : Oper), ops[i]? = some o → ∀ x ∈ o.after.toList, x.on < i)
    (hdoes : ∀ (i : Nat) (o : Oper), ops[i]? = some o → Does P t ops D b o (D i)) (hmk0 : D 0 = .mk) (hmk : ∀ i, D i = .mk → i = 0)
    (hout : ∀ (i : Nat) (o : Oper) (d : Nat), ops[i]? = some o → o.dst = some d → ∃ v, (D i).out b = some v)
    (hkeys : ∀ j x v, D j = .ins x v → ∃ l, keyOf P k x = some l) (hdist : ∀ i j x v v', D i = .ins x v → D j = .ins x v' → j = i)
    (hQ : ∀ w', Below b w.drew w' → Tab P k w' b (fun x v => ∃ i < ops.size, D i = .ins x v) → Q .normal ⟨sets ops D b ops.size a0.tmps, a0.defers⟩ w') :
    (Code.region id ops true).wp P Q a0 w := by
  refine wp_region_any hm (run_inv (w0 := w.drew) K ht hb hguard hslot hone hdoes hmk0 hmk hout hkeys hdist ?_ _ _ _ _ ?_ ?_)
  · intro listed a w' h hr
    have hall := ready_some hord h.size hr
    have hT : Tab P k w' b fun x v => ∃ i < ops.size, D i = .ins x v := by
      rcases h.world with ⟨h1, _⟩ | ⟨_, h2⟩
      · rw [hall 0 hn] at h1
        cases h1
      · refine h2.congr fun x v => ⟨fun ⟨i, hi, hD⟩ => ⟨i, ?_, hD⟩, fun ⟨i, hi, hD⟩ => ⟨i, hall i hi, hD⟩⟩
        have := (Array.getElem?_eq_some_iff.1 hi).1
        rw [h.size] at this
        exact this
    obtain ⟨s1, s2, s3⟩ := get_sets (ops := ops) (D := D) (b := b) (x := a0.tmps) hone hslot hout ops.size
    have htm : a.tmps = sets ops D b ops.size a0.tmps := by
      apply Array.ext_getElem?
      intro j
      by_cases hj : ∃ (i : Nat) (o : Oper), ops[i]? = some o ∧ o.dst = some j
      · obtain ⟨i, o, ho, hd⟩ := hj
        obtain ⟨v, hv⟩ := hout i o j ho hd
        have hi : i < ops.size := (Array.getElem?_eq_some_iff.1 ho).1
        rw [h.holds i o j v (hall i hi) ho hd hv, s2 i o j v hi ho hd hv]
      · rw [h.stays j fun i o _ ho hd => hj ⟨i, o, ho, hd⟩, s3 j fun i o _ ho hd => hj ⟨i, o, ho, hd⟩]
    have ha : a = ⟨sets ops D b ops.size a0.tmps, a0.defers⟩ := by
      obtain ⟨x, y⟩ := a
      have h2 := h.defers
      simp only at htm h2
      rw [htm, h2]
    rw [ha]
    exact hQ w' h.below hT
  · rw [Array.toList_replicate, List.count_replicate_self]
    exact Nat.le_refl _
  · have hf : ∀ i : Nat, (Array.replicate ops.size false)[i]? ≠ some true := by
      intro i hi
      rw [Array.getElem?_replicate] at hi
      split at hi <;> cases hi
    refine ⟨by rw [Array.size_replicate], rfl, rfl, fun i o d v hi => absurd hi (hf i), fun j _ => rfl, Below.refl _ _, .inl ⟨?_, rfl, fun i x v hi => absurd hi (hf i)⟩⟩
    rw [Array.getElem?_replicate, if_pos hn]

/-! ### Keys that are pairs of strings, and all that is asked as tests. -/
def pairV (e a : ByteArray) : Value := .agg #[.string e, .string a]
theorem pairV_inj {e a e' a' : ByteArray} (h : pairV e a = pairV e' a') : e = e' ∧ a = a' := by
  unfold pairV at h
  simp only [Value.agg.injEq, Array.mk.injEq, List.cons.injEq, Value.string.injEq, and_true] at h
  exact h
def ent : Job → Option (ByteArray × ByteArray × Value)
  | .ins (.agg cs) v => match cs.toList with
    | [.string e, .string a] => some (e, a, v)
    | _ => none
  | _ => none
theorem ent_some {j : Job} {e a : ByteArray} {v : Value} (h : ent j = some (e, a, v)) : j = .ins (pairV e a) v := by
  unfold ent at h
  split at h
  · rename_i cs u
    split at h
    · rename_i e' a' hc
      cases h
      have : cs = #[.string e, .string a] := Array.toList_inj.1 hc
      rw [this]
      rfl
    · cases h
  · cases h
def isIns : Job → Bool
  | .ins _ _ => true
  | _ => false
def isMk : Job → Bool
  | .mk => true
  | _ => false
def at_ (l : List Job) (i : Nat) : Job := (l[i]?).getD (.val undef)
theorem at_mem {l : List Job} {i : Nat} (h : i < l.length) : at_ l i ∈ l := by
  unfold at_
  rw [List.getElem?_eq_getElem h]
  exact List.getElem_mem h
theorem at_out {l : List Job} {i : Nat} (h : ¬ i < l.length) : at_ l i = .val undef := by
  unfold at_
  rw [List.getElem?_eq_none (by omega)]
  rfl
def AllDo (P : Program) (t : TypeId) (ops : Array Oper) (D : Nat → Job) (b : Nat) : List Oper → List Job → Prop
  | o :: r, j :: s => Does P t ops D b o j ∧ AllDo P t ops D b r s
  | [], [] => True
  | _, _ => False
theorem allDo_at {D : Nat → Job} : ∀ {r : List Oper} {s : List Job}, AllDo P t ops D b r s → ∀ (i : Nat) (o : Oper), r[i]? = some o → Does P t ops D b o (at_ s i)
  | o :: r, j :: s, h, 0, q, hq => by
    cases hq
    exact h.1
  | o :: r, j :: s, h, i + 1, q, hq => allDo_at h.2 i q hq
  | [], [], _, i, q, hq => by cases hq
  | [], _ :: _, h, _, _, _ => h.elim
  | _ :: _, [], h, _, _, _ => h.elim

def outs (l : List Job) (i : Nat) : Bool := !isIns (at_ l i)
/-- All that is asked of the operations and the jobs but what they do. -/
def fine (ops : Array Oper) (room : Nat) (l : List Job) : Bool :=
  decide (0 < ops.size) && decide (l.length = ops.size) && (ops.toList.all fun o => o.guard.isNone) && (ops.toList.all fun o => match o.dst with | some d => decide (d < room) | none => true) &&
  ((List.range ops.size).all fun i => (ops[i]?).all fun o => o.after.toList.all fun x => decide (x.on < i)) &&
  ((List.range ops.size).all fun i => (List.range ops.size).all fun j => decide (i = j) || !((ops[i]?).bind (·.dst)).isSome || !decide ((ops[i]?).bind (·.dst) = (ops[j]?).bind (·.dst))) &&
  isMk (at_ l 0) && ((List.range ops.size).all fun i => !isMk (at_ l i) || decide (i = 0)) &&
  ((List.range ops.size).all fun i => !((ops[i]?).bind (·.dst)).isSome || outs l i) &&
  (l.all fun j => !isIns j || (ent j).isSome) &&
  ((List.range ops.size).all fun i => (List.range ops.size).all fun j => decide (i = j) || !(ent (at_ l i)).isSome || !decide ((ent (at_ l i)).map (fun x => (x.1, x.2.1)) = (ent (at_ l j)).map (fun x => (x.1, x.2.1))))

theorem knows_at {D : Nat → Job} {a : Act} {o : Oper} (h : Knows ops D b a o) (i : Nat) {d : Nat} {v : Value} (he : (⟨i, .data⟩ : Edge) ∈ o.after.toList) (hq : (ops[i]?).bind (·.dst) = some d) (hv : (D i).out b = some v) : a.eval (.tmp d) = v := by
  cases hi : ops[i]? with
  | none => rw [hi] at hq; cases hq
  | some q =>
    rw [hi, Option.bind_some] at hq
    exact h _ he rfl q d v hi hq hv
/-- An entry is put: map, key, value from slots; or the value is a constant. -/
theorem does_ins {D : Nat → Job} {o : Oper} {m y z : Nat} {x v : Value} (i0 i1 i2 : Nat) (hd : o.dst = none) (ho : o.op = .insert t (.tmp m) (.tmp y) (.tmp z)) (hi0 : i0 = 0) (h0 : (⟨i0, .data⟩ : Edge) ∈ o.after.toList) (h1 : (⟨i1, .data⟩ : Edge) ∈ o.after.toList) (h2 : (⟨i2, .data⟩ : Edge) ∈ o.after.toList)
    (q0 : (ops[i0]?).bind (·.dst) = some m) (q1 : (ops[i1]?).bind (·.dst) = some y) (q2 : (ops[i2]?).bind (·.dst) = some z) (v0 : (D i0).out b = some (.map (some b))) (v1 : (D i1).out b = some x) (v2 : (D i2).out b = some v) : Does P t ops D b o (.ins x v) := by
  subst hi0
  exact ⟨hd, ⟨_, h0, rfl, rfl⟩, _, _, _, ho, fun a h => ⟨knows_at h 0 h0 q0 v0, knows_at h i1 h1 q1 v1, knows_at h i2 h2 q2 v2⟩⟩
theorem does_insC {D : Nat → Job} {o : Oper} {m y : Nat} {x v : Value} (i0 i1 : Nat) (hd : o.dst = none) (ho : o.op = .insert t (.tmp m) (.tmp y) (.const v)) (hi0 : i0 = 0) (h0 : (⟨i0, .data⟩ : Edge) ∈ o.after.toList) (h1 : (⟨i1, .data⟩ : Edge) ∈ o.after.toList)
    (q0 : (ops[i0]?).bind (·.dst) = some m) (q1 : (ops[i1]?).bind (·.dst) = some y) (v0 : (D i0).out b = some (.map (some b))) (v1 : (D i1).out b = some x) : Does P t ops D b o (.ins x v) := by
  subst hi0
  exact ⟨hd, ⟨_, h0, rfl, rfl⟩, _, _, _, ho, fun a h => ⟨knows_at h 0 h0 q0 v0, knows_at h i1 h1 q1 v1, rfl⟩⟩
theorem does_move {D : Nat → Job} {o : Oper} {m : Nat} {v : Value} (i : Nat) (ho : o.op = .move (.tmp m) ∨ o.op = .assign (.tmp m)) (h0 : (⟨i, .data⟩ : Edge) ∈ o.after.toList) (q0 : (ops[i]?).bind (·.dst) = some m) (v0 : (D i).out b = some v) : Does P t ops D b o (.val v) := by
  intro a w h
  have := knows_at h i h0 q0 v0
  rcases ho with ho | ho
  · unfold execOp; rw [ho]; show Sem.run P (pure (Next.value (a.eval (.tmp m)))) w = _; rw [this]; rfl
  · unfold execOp; rw [ho]; show Sem.run P (pure (Next.value (a.eval (.tmp m)))) w = _; rw [this]; rfl

theorem region_pairs {a0 : Act} {w : World} {id : Nat} {l : List Job} (x : Array Value) (hm : P.follows .mixedOrders = true) (K : Keyed P k) (ht : P.underlying t = some (.map k e)) (hb : b = w.heap.size)
    (hf : fine ops a0.tmps.size l = true) (hdo : AllDo P t ops (at_ l) b ops.toList l)
    (hkeys : ∀ e a v, (e, a, v) ∈ l.filterMap ent → ∃ x, keyOf P k (pairV e a) = some x)
    (hx : sets ops (at_ l) b ops.size a0.tmps = x) (hQ : ∀ w', Below b w.drew w' → Tab P k w' b (fun x v => ∃ e a, x = pairV e a ∧ (e, a, v) ∈ l.filterMap ent) → Q .normal ⟨x, a0.defers⟩ w') :
    (Code.region id ops true).wp P Q a0 w := by
  subst hx
  unfold fine at hf
  simp only [Bool.and_eq_true] at hf
  obtain ⟨⟨⟨⟨⟨⟨⟨⟨⟨⟨f1, f2⟩, f3⟩, f4⟩, f5⟩, f6⟩, f7⟩, f8⟩, f9⟩, f10⟩, f11⟩ := hf
  have f1 := of_decide_eq_true f1
  have f2 := of_decide_eq_true f2
  have mem {i : Nat} {o : Oper} (h : ops[i]? = some o) : i < ops.size ∧ o ∈ ops.toList := ⟨(Array.getElem?_eq_some_iff.1 h).1, Array.mem_toList_iff.2 (Array.mem_of_getElem? h)⟩
  have hpairs : ∀ i x v, at_ l i = .ins x v → i < ops.size ∧ ∃ e a, x = pairV e a ∧ ent (at_ l i) = some (e, a, v) := by
    intro i x v h
    have hi : i < l.length := by
      by_cases hi : i < l.length
      · exact hi
      · rw [at_out hi] at h
        cases h
    have := List.all_eq_true.1 f10 _ (at_mem hi)
    rw [h] at this
    rw [f2] at hi
    refine ⟨hi, ?_⟩
    cases he : ent (.ins x v) with
    | none => rw [he] at this; cases this
    | some z =>
      obtain ⟨e, a, u⟩ := z
      have h2 := ent_some he
      injection h2 with h3 h4
      exact ⟨e, a, h3, by rw [h, he, h4]⟩
  refine region_lit (b := b) (D := at_ l) hm K ht hb f1 ?_ ?_ ?_ ?_ (fun i o ho => allDo_at hdo i o (by simpa using ho)) ?_ ?_ ?_ ?_ ?_ ?_
  · intro i o ho
    have := List.all_eq_true.1 f3 o (mem ho).2
    cases hg : o.guard with
    | none => rfl
    | some x => rw [hg] at this; cases this
  · intro i o d ho hd
    have := List.all_eq_true.1 f4 o (mem ho).2
    rw [hd] at this
    exact of_decide_eq_true this
  · intro i j o q d ho hq hd hqd
    have := List.all_eq_true.1 (List.all_eq_true.1 f6 i (List.mem_range.2 (mem ho).1)) j (List.mem_range.2 (mem hq).1)
    rw [ho, hq, Option.bind_some, Option.bind_some, hd, hqd] at this
    simp at this
    exact this.symm
  · intro i o ho x hx
    have := List.all_eq_true.1 f5 i (List.mem_range.2 (mem ho).1)
    rw [ho] at this
    exact of_decide_eq_true (List.all_eq_true.1 this x hx)
  · cases h : at_ l 0 with
    | mk => rfl
    | val v => rw [h] at f7; cases f7
    | ins x v => rw [h] at f7; cases f7
  · intro i h
    by_cases hi : i < ops.size
    · have := List.all_eq_true.1 f8 i (List.mem_range.2 hi)
      rw [h] at this
      simpa [isMk] using this
    · rw [at_out (by omega)] at h
      cases h
  · intro i o d ho hd
    have := List.all_eq_true.1 f9 i (List.mem_range.2 (mem ho).1)
    rw [ho, Option.bind_some, hd, outs] at this
    cases h : at_ l i with
    | mk => exact ⟨_, rfl⟩
    | val v => exact ⟨_, rfl⟩
    | ins x v => rw [h] at this; cases this
  · intro j x v h
    obtain ⟨hj, e, a, rfl, he⟩ := hpairs j x v h
    exact hkeys e a v (List.mem_filterMap.2 ⟨_, at_mem (by omega), he⟩)
  · intro i j x v v' h h'
    obtain ⟨hi, e, a, rfl, he⟩ := hpairs i x v h
    obtain ⟨hj, e', a', hx, he'⟩ := hpairs j _ v' h'
    obtain ⟨rfl, rfl⟩ := pairV_inj hx
    have := List.all_eq_true.1 (List.all_eq_true.1 f11 i (List.mem_range.2 hi)) j (List.mem_range.2 hj)
    rw [he, he'] at this
    simp at this
    exact this.symm
  · intro w' hw hT
    refine hQ w' hw (hT.congr fun x v => ⟨fun ⟨i, hi, hD⟩ => ?_, fun ⟨e, a, hx, hmem⟩ => ?_⟩)
    · obtain ⟨_, e, a, hx, he⟩ := hpairs i x v hD
      exact ⟨e, a, hx, List.mem_filterMap.2 ⟨_, at_mem (by omega), he⟩⟩
    · obtain ⟨j, hj, he⟩ := List.mem_filterMap.1 hmem
      obtain ⟨i, hi⟩ := List.getElem?_of_mem hj
      have hil : i < l.length := (List.getElem?_eq_some_iff.1 hi).1
      refine ⟨i, by omega, ?_⟩
      rw [at_, hi, Option.getD_some, ent_some he, hx]
end
end Go.Proofs.Ytgjlfcamgkeibaa.Ml

namespace Go.Proofs.Ytgjlfcamgkeibaa.Rk
set_option maxRecDepth 100000
set_option linter.unusedVariables false
set_option linter.unusedSimpArgs false
open Go.RowKit Go.Maps Ba Fm Lk Ml
theorem lawPair : Keyed Try.prog 96 := Keyed.of_law (deep_law_gate Ro.laidOut (of_decide_eq_true (by kernel_rfl)) (of_decide_eq_true (by kernel_rfl)) (by kernel_rfl) (by kernel_rfl))
theorem key_pair {e a : ByteArray} (he : e.size ≤ maxLen) (ha : a.size ≤ maxLen) : ∃ x, keyOf Try.prog 96 (pairV e a) = some x := by
  have h1 : Try.prog.keyType 96 = true := by kernel_rfl
  have h2 : (pairV e a).formed Try.prog 96 = true := by kernel_rfl
  have h4 : ∃ n, Try.prog.types.size + 1 = n + 2 := ⟨_, rfl⟩
  obtain ⟨n, hn⟩ := h4
  have h3 : Try.prog.keyLits (Try.prog.types.size + 1) 96 (pairV e a).cells.toList = some [.string e.data.toList, .string a.data.toList] := by
    rw [hn]
    have e0 : (pairV e a).cells.toList = [.string e, .string a] := rfl
    have e1 : Try.prog.cellsOf 96 = 2 := by kernel_rfl
    have e2 : Try.prog.cellsOf 9 = 1 := by kernel_rfl
    rw [e0]
    simp [Program.keyLits, Try.underlying96, Try.underlying9, e1, e2, he, ha]
  unfold keyOf
  simp only [Try.underlying96, h1, h2, h3, Bool.and_self, if_true, Option.map_some]
  exact ⟨_, rfl⟩

theorem leads_small : ∀ p ∈ leadsL, p.1.size ≤ maxLen ∧ p.2.size ≤ maxLen := by
  have h : (leadsL.all fun p => decide (p.1.size ≤ 20) && decide (p.2.size ≤ 20)) = true := by decide +kernel
  intro p hp
  have := List.all_eq_true.1 h p hp
  rw [Bool.and_eq_true, decide_eq_true_iff, decide_eq_true_iff] at this
  unfold maxLen
  omega
def unitV : Value := .agg #[]
def navJobs (b : Nat) : List Job := .mk :: (leadsL.flatMap fun p => [.val (pairV p.1 p.2), .val unitV, .ins (pairV p.1 p.2) unitV]) ++ [.val (.map (some b)), .val (.map (some b))]
theorem ent_nav (b : Nat) : (navJobs b).filterMap ent = leadsL.map fun p => (p.1, p.2, unitV) := rfl

set_option maxRecDepth 100000 in
theorem nav_any (e a : ByteArray) (he : e.size ≤ maxLen) (ha : a.size ≤ maxLen) (w : World) :
    Calls Try.prog 73 #[.string e, .string a] w fun r w' => r = .returned (.bool (navB e a)) ∧ Below w.heap.size w w' := by
  go_enter Try.func73, Try.ntmps73
  go_wp2
  refine region_pairs (l := navJobs w.heap.size) (List.toArray (.string e :: .string a :: undef :: undef :: .bool false :: .map (some w.heap.size) :: undef :: undef :: .map (some w.heap.size) :: .agg #[.string ⟨#[97]⟩, .string ⟨#[104, 114, 101, 102]⟩] :: .agg #[] :: .agg #[.string ⟨#[97, 114, 101, 97]⟩, .string ⟨#[104, 114, 101, 102]⟩] :: .agg #[] :: .agg #[.string ⟨#[98, 117, 116, 116, 111, 110]⟩, .string ⟨#[102, 111, 114, 109, 97, 99, 116, 105, 111, 110]⟩] :: .agg #[] :: .agg #[.string ⟨#[101, 109, 98, 101, 100]⟩, .string ⟨#[115, 114, 99]⟩] :: .agg #[] :: .agg #[.string ⟨#[102, 111, 114, 109]⟩, .string ⟨#[97, 99, 116, 105, 111, 110]⟩] :: .agg #[] :: .agg #[.string ⟨#[102, 114, 97, 109, 101]⟩, .string ⟨#[115, 114, 99]⟩] :: .agg #[] :: .agg #[.string ⟨#[105, 102, 114, 97, 109, 101]⟩, .string ⟨#[115, 114, 99]⟩] :: .agg #[] :: .agg #[.string ⟨#[105, 110, 112, 117, 116]⟩, .string ⟨#[102, 111, 114, 109, 97, 99, 116, 105, 111, 110]⟩] :: .agg #[] :: .agg #[.string ⟨#[111, 98, 106, 101, 99, 116]⟩, .string ⟨#[100, 97, 116, 97]⟩] :: .agg #[] :: .map (some w.heap.size) :: undef :: undef :: undef :: undef :: undef :: undef :: undef :: undef :: undef :: [])) (by kernel_rfl) lawPair Try.underlying99 rfl (by kernel_rfl) ?_ ?_ (by kernel_rfl) ?_
  · refine ⟨rfl, fun a w _ => ?_, fun a w _ => ?_, does_ins 0 1 2 rfl rfl rfl (by simp) (by simp) (by simp) rfl rfl rfl rfl rfl rfl, fun a w _ => ?_, fun a w _ => ?_, does_ins 0 4 5 rfl rfl rfl (by simp) (by simp) (by simp) rfl rfl rfl rfl rfl rfl, fun a w _ => ?_, fun a w _ => ?_, does_ins 0 7 8 rfl rfl rfl (by simp) (by simp) (by simp) rfl rfl rfl rfl rfl rfl, fun a w _ => ?_, fun a w _ => ?_, does_ins 0 10 11 rfl rfl rfl (by simp) (by simp) (by simp) rfl rfl rfl rfl rfl rfl, fun a w _ => ?_, fun a w _ => ?_, does_ins 0 13 14 rfl rfl rfl (by simp) (by simp) (by simp) rfl rfl rfl rfl rfl rfl, fun a w _ => ?_, fun a w _ => ?_, does_ins 0 16 17 rfl rfl rfl (by simp) (by simp) (by simp) rfl rfl rfl rfl rfl rfl, fun a w _ => ?_, fun a w _ => ?_, does_ins 0 19 20 rfl rfl rfl (by simp) (by simp) (by simp) rfl rfl rfl rfl rfl rfl, fun a w _ => ?_, fun a w _ => ?_, does_ins 0 22 23 rfl rfl rfl (by simp) (by simp) (by simp) rfl rfl rfl rfl rfl rfl, fun a w _ => ?_, fun a w _ => ?_, does_ins 0 25 26 rfl rfl rfl (by simp) (by simp) (by simp) rfl rfl rfl rfl rfl rfl, does_move 0 (.inl rfl) (by simp) rfl rfl, does_move 28 (.inr rfl) (by simp) rfl rfl, trivial⟩
    all_goals (go_simp; try rfl)
  · intro e' a' v hm
    rw [ent_nav] at hm
    obtain ⟨p, hp, h⟩ := List.mem_map.1 hm
    injection h with h1 h2
    injection h2 with h2 _
    subst h1 h2
    have := leads_small p hp
    exact key_pair this.1 this.2
  · intro w1 hb1 hT
    rw [ent_nav] at hT
    obtain ⟨x, hx⟩ := key_pair he ha
    have hz : (zeroValue 98).run Try.prog w1 = .ok (.agg #[]) w1 := by kernel_rfl
    have hl : (Instr.lookup 99 (.map (some w.heap.size)) (.agg #[.string e, .string a]) true).run Try.prog w1 = .ok (.tuple #[.agg #[], .bool (navB e a)]) w1 := by
      rcases hT.look lawPair Try.underlying99 hz hx with ⟨h1, h2⟩ | ⟨v, ⟨e', a', h2, h3⟩, h1⟩
      · have : navB e a = false := by
          rw [← Bool.not_eq_true]
          intro h
          exact h2 unitV ⟨e, a, rfl, List.mem_map.2 ⟨_, pair_mem.1 h, rfl⟩⟩
        rw [this]
        exact h1
      · obtain ⟨rfl, rfl⟩ := pairV_inj h2
        obtain ⟨p, hp, h4⟩ := List.mem_map.1 h3
        injection h4 with h5 h6
        injection h6 with h6 h7
        have : navB e a = true := pair_mem.2 (by rw [← h5, ← h6]; exact hp)
        rw [this]
        rw [← h7] at h1
        exact h1
    clear hT hx hz
    go_wp2
    go_ret
    exact ⟨rfl, ((Below.refl _ _).drew.trans hb1).alloc hb1.size _⟩
end Go.Proofs.Ytgjlfcamgkeibaa.Rk

namespace Go.Proofs.Ytgjlfcamgkeibaa.Fo
set_option maxRecDepth 100000
set_option linter.unusedSimpArgs false
set_option linter.unusedVariables false
open Go.RowKit Ba Fm
theorem space_any (c : UInt8) (w : World) :
    Calls Try.prog 119 #[.int .u8 c.toNat] w fun e w' => e = .returned (.bool (sp c)) ∧ w = w' := by
  have e9 : ((c.toNat : Int) == 9) = (c == 9) := u8_eq (b := 9)
  have e10 : ((c.toNat : Int) == 10) = (c == 10) := u8_eq (b := 10)
  have e12 : ((c.toNat : Int) == 12) = (c == 12) := u8_eq (b := 12)
  have e13 : ((c.toNat : Int) == 13) = (c == 13) := u8_eq (b := 13)
  have e32 : ((c.toNat : Int) == 32) = (c == 32) := u8_eq (b := 32)
  cases h9 : (c == 9) <;> cases h10 : (c == 10) <;> cases h12 : (c == 12) <;> cases h13 : (c == 13) <;> cases h32 : (c == 32)
  all_goals
    rw [h9] at e9
    rw [h10] at e10
    rw [h12] at e12
    rw [h13] at e13
    rw [h32] at e32
    have H9 := Lib.hid h9; have H10 := Lib.hid h10; have H12 := Lib.hid h12; have H13 := Lib.hid h13; have H32 := Lib.hid h32
    clear h9 h10 h12 h13 h32
    go_enter Try.func119, Try.ntmps119
    go_wp2
    go_ret
    exact ⟨ret_bool (by unfold sp; rw [H9.out, H10.out, H12.out, H13.out, H32.out]; rfl), rfl⟩

end Go.Proofs.Ytgjlfcamgkeibaa.Fo

namespace Go.Proofs.Ytgjlfcamgkeibaa.Fo
set_option maxRecDepth 100000
set_option linter.unusedSimpArgs false
set_option linter.unusedVariables false
open Go.RowKit Ba Fm
theorem refSpace_any (c : UInt8) (w : World) :
    Calls Try.prog 120 #[.int .u8 c.toNat] w fun e w' => e = .returned (.bool (sp c)) ∧ w = w' := by
  have e9 : ((c.toNat : Int) == 9) = (c == 9) := u8_eq (b := 9)
  have e10 : ((c.toNat : Int) == 10) = (c == 10) := u8_eq (b := 10)
  have e12 : ((c.toNat : Int) == 12) = (c == 12) := u8_eq (b := 12)
  have e13 : ((c.toNat : Int) == 13) = (c == 13) := u8_eq (b := 13)
  have e32 : ((c.toNat : Int) == 32) = (c == 32) := u8_eq (b := 32)
  cases h9 : (c == 9) <;> cases h10 : (c == 10) <;> cases h12 : (c == 12) <;> cases h13 : (c == 13) <;> cases h32 : (c == 32)
  all_goals
    rw [h9] at e9
    rw [h10] at e10
    rw [h12] at e12
    rw [h13] at e13
    rw [h32] at e32
    have H9 := Lib.hid h9; have H10 := Lib.hid h10; have H12 := Lib.hid h12; have H13 := Lib.hid h13; have H32 := Lib.hid h32
    clear h9 h10 h12 h13 h32
    go_enter Try.func120, Try.ntmps120
    go_wp2
    go_ret
    exact ⟨ret_bool (by unfold sp; rw [H9.out, H10.out, H12.out, H13.out, H32.out]; rfl), rfl⟩

end Go.Proofs.Ytgjlfcamgkeibaa.Fo

namespace Go.Proofs.Ytgjlfcamgkeibaa.Fo
set_option maxRecDepth 100000
set_option linter.unusedSimpArgs false
set_option linter.unusedVariables false
open Go.RowKit Ba Fm

theorem lowerByte_any (c : UInt8) (w : World) :
    Calls Try.prog 124 #[.int .u8 c.toNat] w fun e w' => e = .returned (.int .u8 (low c).toNat) ∧ w = w' := by
  have hc := c.toNat_lt
  by_cases h1 : 65 ≤ c.toNat
  · by_cases h2 : c.toNat ≤ 90
    · have hl : ((low c).toNat : Int) = c.toNat + 32 := by
        unfold low
        rw [if_pos ⟨UInt8.le_iff_toNat_le.2 h1, UInt8.le_iff_toNat_le.2 h2⟩, UInt8.toNat_add]
        simp
        omega
      have HL := Lib.hid hl; clear hl
      go_enter Try.func124, Try.ntmps124
      go_wp2
      go_ret
      exact ⟨ret_int (by rw [HL.out]; omega), rfl⟩
    · have hl : low c = c := by
        unfold low
        rw [if_neg]
        rintro ⟨_, h⟩
        exact h2 (UInt8.le_iff_toNat_le.1 h)
      have HL := Lib.hid hl; clear hl
      go_enter Try.func124, Try.ntmps124
      go_wp2
      go_ret
      exact ⟨ret_int (by rw [HL.out]), rfl⟩
  · have hl : low c = c := by
      unfold low
      rw [if_neg]
      rintro ⟨h, _⟩
      exact h1 (UInt8.le_iff_toNat_le.1 h)
    have HL := Lib.hid hl; clear hl
    go_enter Try.func124, Try.ntmps124
    go_wp2
    go_ret
    exact ⟨ret_int (by rw [HL.out]), rfl⟩

theorem letter_any (c : UInt8) (w : World) :
    Calls Try.prog 122 #[.int .u8 c.toNat] w fun e w' => e = .returned (.bool (lr c)) ∧ w = w' := by
  have hc := c.toNat_lt
  have hl := (low c).toNat_lt
  have hv : lr c = (decide ((97 : Int) ≤ (low c).toNat) && decide (((low c).toNat : Int) ≤ 122)) := by
    have hlow : ((low c).toNat : Int) = if 65 ≤ c.toNat ∧ c.toNat ≤ 90 then c.toNat + 32 else c.toNat := by
      unfold low
      have e1 : (65 ≤ c ∧ c ≤ 90) ↔ (65 ≤ c.toNat ∧ c.toNat ≤ 90) := by rw [UInt8.le_iff_toNat_le, UInt8.le_iff_toNat_le]; exact Iff.rfl
      by_cases h : 65 ≤ c.toNat ∧ c.toNat ≤ 90
      · rw [if_pos (e1.2 h), if_pos h, UInt8.toNat_add]; simp; omega
      · rw [if_neg (fun q => h (e1.1 q)), if_neg h]
    unfold lr
    rw [hlow, Bool.eq_iff_iff]
    simp only [Bool.or_eq_true, Bool.and_eq_true, decide_eq_true_eq, UInt8.le_iff_toNat_le]
    have e65 : (65 : UInt8).toNat = 65 := rfl
    have e90 : (90 : UInt8).toNat = 90 := rfl
    have e97 : (97 : UInt8).toNat = 97 := rfl
    have e122 : (122 : UInt8).toNat = 122 := rfl
    rw [e65, e90, e97, e122]
    split <;> omega
  have HV := Lib.hid hv; clear hv hc
  by_cases h1 : (97 : Int) ≤ (low c).toNat
  · by_cases h2 : ((low c).toNat : Int) ≤ 122
    · go_enter Try.func122, Try.ntmps122
      go_wp2_with (go_at_call 124; refine (lowerByte_any c _).mono ?_; rintro e w' ⟨rfl, rfl⟩)
      go_ret
      exact ⟨ret_bool (by rw [HV.out]; simp [h1, h2]), rfl⟩
    · go_enter Try.func122, Try.ntmps122
      go_wp2_with (go_at_call 124; refine (lowerByte_any c _).mono ?_; rintro e w' ⟨rfl, rfl⟩)
      go_ret
      exact ⟨ret_bool (by rw [HV.out]; simp [h1, h2]), rfl⟩
  · go_enter Try.func122, Try.ntmps122
    go_wp2_with (go_at_call 124; refine (lowerByte_any c _).mono ?_; rintro e w' ⟨rfl, rfl⟩)
    go_ret
    exact ⟨ret_bool (by rw [HV.out, decide_eq_false (by omega)]; rfl), rfl⟩

theorem lr_of (c : UInt8) : lr c = ((decide ((65 : Int) ≤ c.toNat) && decide ((c.toNat : Int) ≤ 90)) || (decide ((97 : Int) ≤ c.toNat) && decide ((c.toNat : Int) ≤ 122))) := by
  unfold lr
  rw [Bool.eq_iff_iff]
  simp only [Bool.or_eq_true, Bool.and_eq_true, decide_eq_true_eq, UInt8.le_iff_toNat_le]
  have e65 : (65 : UInt8).toNat = 65 := rfl
  have e90 : (90 : UInt8).toNat = 90 := rfl
  have e97 : (97 : UInt8).toNat = 97 := rfl
  have e122 : (122 : UInt8).toNat = 122 := rfl
  rw [e65, e90, e97, e122]
  omega

theorem refLetter_any (c : UInt8) (w : World) :
    Calls Try.prog 117 #[.int .u8 c.toNat] w fun e w' => e = .returned (.bool (lr c)) ∧ w = w' := by
  have HV := Lib.hid (lr_of c)
  have hc := c.toNat_lt
  by_cases h1 : (65 : Int) ≤ c.toNat <;> by_cases h2 : (c.toNat : Int) ≤ 90 <;> by_cases h3 : (97 : Int) ≤ c.toNat <;> by_cases h4 : (c.toNat : Int) ≤ 122
  all_goals
    first
    | omega
    | (go_enter Try.func117, Try.ntmps117
       go_wp2
       go_ret
       exact ⟨ret_bool (by rw [HV.out]; simp [h1, h2, h3, h4]), rfl⟩)

set_option maxHeartbeats 1000000 in
theorem lower_any (s : ByteArray) (w : World) (hs : s.size ≤ 140737488355328) :
    Calls Try.prog 123 #[.string s] w fun e w' => e = .returned (.string (B (lowL (L s)))) ∧ Below w.heap.size w w' := by
  obtain ⟨i0, hi, hz0, hz1, hz2⟩ := info_parts info_u8
  go_enter Try.func123, Try.ntmps123
  go_wp2_with (at_make; refine wpList_make_own _ rfl (.const (.int .i64 0)) (.tmp 6) 93 rfl w.heap.size 5 i0 (.int .u8 0) 1 Try.underlying93 hi hz0 hz1 .i64 .i64 _ s.size rfl rfl rfl (by rw [hz2]; omega) (by unfold maxLen; omega) (Nat.le_refl _) ?_; intro w1 hown hgrow)
  have hb0 : Below w.heap.size w w1 := (Below.refl w.heap.size w).grown hgrow (Nat.le_refl _) (by simp)
  have ho0 : OwnB w.heap.size w1 (.slice (some ⟨w.heap.size, 0, none⟩) 0 s.size) [] := hown
  clear hown hgrow
  go_loopw [3, 10] (fun v i wr => ∃ (k : Nat), i = .int .i64 k ∧ k ≤ s.size ∧ OwnB w.heap.size wr v (lowL ((L s).take k)) ∧ Below w.heap.size w wr) (fun _ i _ => s.size - (intOf i).toNat)
  case atStart => exact ⟨0, rfl, Nat.zero_le _, ho0, hb0⟩
  case round =>
    clear ho0 hb0
    obtain ⟨k, rfl, hks, hown, hbel⟩ := hrel
    have hN := hbel.size
    by_cases hp : k < s.size
    · have hlen : (lowL ((L s).take k)).length + 1 ≤ 140737488355328 := by rw [len_lowL, List.length_take, size_L]; omega
      go_wp2_with (first | (go_at_call 124; refine (lowerByte_any s[k] _).mono ?_; rintro e w' ⟨rfl, rfl⟩) | (at_builtin; refine app_byte wr rfl (.tmp 13) (.tmp 18) rfl w.heap.size _ (lowL ((L s).take k)) (low s[k]) rfl hown rfl hlen hN ?_; intro v2 w2 hown2 hk2))
      go_roundw
      case rel =>
        refine ⟨k + 1, by go_num, by omega, ?_, hk2 _ hbel⟩
        rw [take_snoc s k hp, lowL_append]
        exact hown2
      case measure => simp [intOf]; omega
    · have hcv := hown.string
      go_wp2
      go_ret
      refine ⟨ret_str ?_, hbel⟩
      rw [List.take_of_length_le (by rw [size_L]; omega)]

/-- Block g holds these bytes, as a string's conversion lays them. -/
def Raw (w : World) (g : Nat) (l : List UInt8) : Prop := ∃ cs : Array Value, w.heap[g]? = some (.cells cs 5 (cs.size, cs.size + 1)) ∧ l.length ≤ cs.size ∧ ∀ j (h : j < l.length), cs[j]? = some (bc l[j])

theorem Raw.cell {w : World} {g : Nat} {l : List UInt8} (h : Raw w g l) (j : Nat) (hj : j < l.length) : w.cell? ⟨g, j, none⟩ = some (.int .u8 (l[j].toNat : Int)) := by
  obtain ⟨cs, hg, _, hc⟩ := h
  rw [cell_of_row w g j cs _ _ hg, hc j hj]
  rfl
theorem Raw.frozen {w : World} {g : Nat} {l : List UInt8} (h : Raw w g l) (j : Nat) (hj : j < l.length) : w.frozen? ⟨g, j, none⟩ = false := by
  obtain ⟨cs, hg, hl, _⟩ := h
  simp [World.frozen?, hg]
  omega
theorem Raw.set {w : World} {g : Nat} {l : List UInt8} (h : Raw w g l) (j : Nat) (y : UInt8) : Raw (w.setCell ⟨g, j, none⟩ (.int .u8 (y.toNat : Int))) g (l.set j y) := by
  obtain ⟨cs, hg, hl, hc⟩ := h
  refine ⟨cs.setIfInBounds j (.int .u8 (y.toNat : Int)), ?_, by simpa using hl, fun i hi => ?_⟩
  · simp [World.setCell, Array.getElem?_modify, hg]
  · rw [List.length_set] at hi
    rw [Array.getElem?_setIfInBounds, List.getElem_set]
    by_cases hij : j = i
    · subst hij
      simp [bc]
      omega
    · simp [hij, hc i hi]
theorem Raw.string {w : World} {g c : Nat} {l : List UInt8} (h : Raw w g l) : (convert 93 9 (.slice (some ⟨g, 0, none⟩) l.length c)).run Try.prog w = .ok (.string (B l)) w :=
  run_convert_bytes_back w _ _ _ ⟨g, 0, none⟩ c l Try.underlying93 Try.underlying5 Try.underlying9 fun j hj => by
    rw [WideShapes.add_plain, Nat.zero_add]
    exact h.cell j hj
theorem Raw.new (w : World) (s : ByteArray) : Raw (Lib.bytesWorld w 5 s) w.heap.size (L s) := by
  refine ⟨_, Lib.bytesWorld_at_new w _ s, ?_, fun j hj => ?_⟩
  · unfold Lib.bytesCells
    rw [size_L]
    simp
  · rw [size_L] at hj
    simp [Lib.bytesCells, Array.getElem?_append, hj, bc]
theorem below_bytesWorld (w : World) (s : ByteArray) : Below w.heap.size w (Lib.bytesWorld w 5 s) :=
  ⟨rfl, rfl, rfl, by rw [Lib.bytesWorld_size]; omega, fun k hk => Lib.bytesWorld_at_old w _ s k hk⟩

/-- The bytes, the first k of them in small letters. -/
def lowTo (l : List UInt8) (k : Nat) : List UInt8 := lowL (l.take k) ++ l.drop k
theorem lowTo_len (l : List UInt8) (k : Nat) : (lowTo l k).length = l.length := by
  unfold lowTo
  rw [List.length_append, len_lowL, List.length_take, List.length_drop]
  omega
theorem lowTo_get (l : List UInt8) (k : Nat) (h : k < l.length) (h' : k < (lowTo l k).length) : (lowTo l k)[k] = l[k] := by
  have e : (lowTo l k)[k]? = some l[k] := by
    unfold lowTo
    have e0 : (lowL (l.take k)).length = k := by rw [len_lowL, List.length_take]; omega
    rw [List.getElem?_append_right (by omega), e0, Nat.sub_self, List.getElem?_drop, Nat.add_zero, List.getElem?_eq_getElem h]
  rw [List.getElem?_eq_getElem h'] at e
  exact Option.some.inj e
theorem lowTo_set (l : List UInt8) (k : Nat) (h : k < l.length) : (lowTo l k).set k (low l[k]) = lowTo l (k + 1) := by
  unfold lowTo
  have e0 : (lowL (l.take k)).length = k := by rw [len_lowL, List.length_take]; omega
  rw [List.set_append_right _ _ (by omega), e0, Nat.sub_self, List.take_succ_eq_append_getElem h, lowL_append, List.drop_eq_getElem_cons h, List.set_cons_zero, List.append_assoc]
  rfl
theorem lowTo_same (l : List UInt8) (k : Nat) (h : k < l.length) (hl : low l[k] = l[k]) : lowTo l k = lowTo l (k + 1) := by
  unfold lowTo
  rw [List.take_succ_eq_append_getElem h, lowL_append, List.drop_eq_getElem_cons h]
  simp [lowL, hl]

set_option maxHeartbeats 1000000 in
theorem refLower_any (s : ByteArray) (w : World) (hs : s.size ≤ 140737488355328) :
    Calls Try.prog 102 #[.string s] w fun e w' => e = .returned (.string (B (lowL (L s)))) ∧ Below w.heap.size w w' := by
  have hcv := Lib.run_convert_string_bytes (P := Try.prog) w 9 93 5 s (u := .string) Try.underlying9 Try.underlying93 Try.underlying5
  have hr0 := Raw.new w s
  have hb0 := below_bytesWorld w s
  generalize Lib.bytesWorld w 5 s = w1 at *
  generalize grownCap w s.size 0 5 = c at *
  go_enter Try.func102, Try.ntmps102
  go_wp2
  clear hcv
  go_loopw [4] (fun i wr => ∃ (k : Nat), i = .int .i64 k ∧ k ≤ s.size ∧ Raw wr w.heap.size (lowTo (L s) k) ∧ Below w.heap.size w wr) (fun i _ => s.size - (intOf i).toNat)
  case atStart => exact ⟨0, rfl, Nat.zero_le _, hr0, hb0⟩
  case round =>
    clear hr0 hb0
    obtain ⟨k, rfl, hks, hraw, hbel⟩ := hrel
    by_cases hp : k < s.size
    · have hpl : k < (L s).length := by rw [size_L]; exact hp
      have hpl' : k < (lowTo (L s) k).length := by rw [lowTo_len]; exact hpl
      have hcell := hraw.cell k hpl'
      have hfz := hraw.frozen k hpl'
      rw [lowTo_get _ _ hpl] at hcell
      have hcell' : wr.cell? ⟨w.heap.size, k, none⟩ = some (.int .u8 (s[k].toNat : Int)) := hcell
      clear hcell
      have hc := s[k].toNat_lt
      by_cases h1 : (65 : Int) ≤ s[k].toNat
      · by_cases h2 : (s[k].toNat : Int) ≤ 90
        · have hl : ((low s[k]).toNat : Int) = s[k].toNat + 32 := by
            unfold low
            rw [if_pos ⟨UInt8.le_iff_toNat_le.2 (by have e : (65 : UInt8).toNat = 65 := rfl; omega), UInt8.le_iff_toNat_le.2 (by have e : (90 : UInt8).toNat = 90 := rfl; omega)⟩, UInt8.toNat_add]
            simp
            omega
          have hset := hraw.set k (low s[k])
          have hls : (lowTo (L s) k).set k (low s[k]) = lowTo (L s) (k + 1) := lowTo_set (L s) k hpl
          rw [hls, hl] at hset
          have hbs : Below w.heap.size w (wr.setCell ⟨w.heap.size, k, none⟩ (.int .u8 (s[k].toNat + 32))) := hbel.setCell (Nat.le_refl _) _
          have HS := Lib.hid hset; clear hset hl hls
          go_wp2
          go_roundw
          case rel => exact ⟨k + 1, by go_num, by omega, HS.out, hbs⟩
          case measure => simp [intOf]; omega
        · have hl : low s[k] = s[k] := by
            unfold low
            rw [if_neg]
            rintro ⟨_, h⟩
            have := UInt8.le_iff_toNat_le.1 h
            have e : (90 : UInt8).toNat = 90 := rfl
            omega
          have hsame := lowTo_same _ _ hpl hl
          rw [hsame] at hraw
          clear hl hsame
          go_wp2
          go_roundw
          case rel => exact ⟨k + 1, by go_num, by omega, hraw, hbel⟩
          case measure => simp [intOf]; omega
      · have hl : low s[k] = s[k] := by
          unfold low
          rw [if_neg]
          rintro ⟨h, _⟩
          have := UInt8.le_iff_toNat_le.1 h
          have e : (65 : UInt8).toNat = 65 := rfl
          omega
        have hsame := lowTo_same _ _ hpl hl
        rw [hsame] at hraw
        clear hl hsame
        go_wp2
        go_roundw
        case rel => exact ⟨k + 1, by go_num, by omega, hraw, hbel⟩
        case measure => simp [intOf]; omega
    · obtain rfl : k = s.size := by omega
      have hcv := hraw.string (c := c)
      rw [lowTo_len, size_L] at hcv
      go_wp2
      go_ret
      refine ⟨ret_str ?_, hbel⟩
      unfold lowTo
      rw [List.take_of_length_le (by rw [size_L]; exact Nat.le_refl _), List.drop_eq_nil_of_le (by rw [size_L]; exact Nat.le_refl _), List.append_nil]

end Go.Proofs.Ytgjlfcamgkeibaa.Fo
