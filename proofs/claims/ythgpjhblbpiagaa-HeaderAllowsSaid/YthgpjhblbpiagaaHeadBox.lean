/-
  Guards as values and in boxes.
-/
import Derived.Test.YthgpjhblbpiagaaHeadOwn
import Derived.Deep.MidRow
import Derived.Deep.CutRange
namespace Go.Proofs.Ythgpjhblbpiagaa.He
set_option maxRecDepth 100000
set_option linter.unusedSimpArgs false
set_option linter.unusedVariables false
open Go.RowKit Ba Fm Fo

/-- A guard as a value, its names the slice vN. -/
def gV (g : Gd) (vN : Value) : Value := .agg #[.bool g.on, .bool g.report, vN, .bool g.any, .bool g.twice]
def gA (g : Gd) (vN : Value) : Array Value := #[.bool g.on, .bool g.report, vN, .bool g.any, .bool g.twice]
abbrev zeroG : Array Value := #[.bool false, .bool false, .slice none 0 0, .bool false, .bool false]
/-- A value reads as a guard. -/
def Gv (w : World) (N : Nat) (v : Value) (g : Gd) : Prop := ∃ A c, v = gV g (.slice A g.names.length c) ∧ g.names.length ≤ c ∧ (A = none → c = 0) ∧ Rd w N A g.names
/-- And of the call's own. -/
def Gow (N : Nat) (w : World) (v : Value) (g : Gd) : Prop := ∃ vN, v = gV g vN ∧ Sown N w vN g.names
theorem Gow.gv {N : Nat} {w : World} {v : Value} {g : Gd} (h : Gow N w v g) : Gv w w.heap.size v g := by
  obtain ⟨vN, rfl, ho⟩ := h
  obtain ⟨A, c, rfl, h1, h2, h3⟩ := sv_own ho
  exact ⟨A, c, rfl, h1, h2, h3⟩
theorem Gow.below {N M : Nat} {w w' : World} {v : Value} {g : Gd} (h : Gow N w v g) (hb : Below M w w') (hM : w.heap.size ≤ M) : Gow N w' v g := by
  obtain ⟨vN, e, ho⟩ := h
  exact ⟨vN, e, ho.below hb hM⟩
theorem Gv.below {w w' : World} {N M : Nat} {v : Value} {g : Gd} (h : Gv w N v g) (hb : Below M w w') (hN : N ≤ M) : Gv w' N v g := by
  obtain ⟨A, c, e, h1, h2, h3⟩ := h
  exact ⟨A, c, e, h1, h2, h3.below hb hN⟩
theorem Gv.more {w : World} {N M : Nat} {v : Value} {g : Gd} (h : Gv w N v g) (hN : N ≤ M) : Gv w M v g := by
  obtain ⟨A, c, e, h1, h2, h3⟩ := h
  exact ⟨A, c, e, h1, h2, h3.more hN⟩
theorem Gv.on {w w' : World} {v : Value} {g : Gd} (h : Gv w w.heap.size v g) (hb : Below w.heap.size w w') : Gv w' w'.heap.size v g := (h.below hb (Nat.le_refl _)).more hb.size

/-- A box of guards. -/
def Hb (w : World) (g : Nat) (cs : Array Value) : Prop := w.heap[g]? = some (.cells cs 26)
theorem gcell (w : World) (b j : Nat) (u : Value) : w.grownBy (w.setCell ⟨b, j, none⟩ u) (some b) :=
  ⟨rfl, rfl, rfl, by simp [World.setCell], fun k _ hk => Below.heap_setCell _ _ _ _ (fun e => hk (by simp [e]))⟩
theorem gcells (b : Nat) : ∀ (vs : List Value) (o : Nat) (w : World), w.grownBy (w.setCells b o vs) (some b)
  | [], _, w => World.grownBy.refl w _
  | v :: r, o, w => (gcell w b o v).trans (gcells b r (o + 1) _)
theorem Hb.new (w : World) (cs : Array Value) : Hb (w.alloc (.cells cs 26)) w.heap.size cs := heap_alloc_new w _
theorem Hb.keep {w w' : World} {g : Nat} {cs : Array Value} (h : Hb w g cs) (hb : w'.heap[g]? = w.heap[g]?) : Hb w' g cs := hb.trans h
theorem Hb.lt {w : World} {g : Nat} {cs : Array Value} (h : Hb w g cs) : g < w.heap.size := (Array.getElem?_eq_some_iff.1 h).1
theorem Hb.below {w w' : World} {g M : Nat} {cs : Array Value} (h : Hb w g cs) (hb : Below M w w') (hM : g < M) : Hb w' g cs := h.keep (hb.block g hM)
theorem Hb.on {w w' : World} {g : Nat} {cs : Array Value} (h : Hb w g cs) (hb : Below w.heap.size w w') : Hb w' g cs := h.below hb h.lt
theorem Hb.set {w : World} {g : Nat} {cs : Array Value} (h : Hb w g cs) (j : Nat) (u : Value) (hj : j < cs.size := by simp) : Hb (w.setCell ⟨g, j, none⟩ u) g (cs.set j u hj) := by
  unfold Hb at h ⊢
  simp [World.setCell, Array.getElem?_modify, h, Array.setIfInBounds, hj]
theorem Hb.other {w : World} {g b : Nat} {cs : Array Value} (h : Hb w g cs) (j : Nat) (u : Value) (hne : g ≠ b) : Hb (w.setCell ⟨b, j, none⟩ u) g cs := h.keep (Below.heap_setCell _ _ _ _ hne)
theorem Hb.cell {w : World} {g : Nat} {cs : Array Value} (h : Hb w g cs) (j : Nat) (u : Value) (hu : cs[j]? = some u) : w.cell? ⟨g, j, none⟩ = some u := by
  rw [cell_of_row w g j _ _ _ h]
  exact hu
theorem Hb.f {w : World} {g : Nat} {cs : Array Value} (h : Hb w g cs) (j : Nat) : w.frozen? ⟨g, j, none⟩ = false := by
  unfold Hb at h
  simp [World.frozen?, h]
theorem Hb.there {w : World} {g : Nat} {cs : Array Value} (h : Hb w g cs) (n : Nat) (hn : n = cs.size) : w.there g 0 n := fun j hj => by
  rw [Nat.zero_add]
  exact ⟨by rw [h.cell j _ (Array.getElem?_eq_getElem (hn ▸ hj))]; rfl, h.f j⟩
theorem Hb.range {w : World} {g : Nat} {cs : Array Value} (h : Hb w g cs) : w.rangeAt g 0 cs.toList := fun j u hu => by
  rw [Nat.zero_add]
  exact h.cell j u (by rwa [Array.getElem?_toList] at hu)
theorem Hb.five {w : World} {b : Nat} {g : Gd} {vN : Value} (h : Hb w b (gA g vN)) : (w.cell? ⟨b, 0, none⟩ = some (.bool g.on) ∧ w.cell? ⟨b, 1, none⟩ = some (.bool g.report) ∧ w.cell? ⟨b, 2, none⟩ = some vN ∧ w.cell? ⟨b, 3, none⟩ = some (.bool g.any) ∧ w.cell? ⟨b, 4, none⟩ = some (.bool g.twice)) ∧
    (w.frozen? ⟨b, 0, none⟩ = false ∧ w.frozen? ⟨b, 1, none⟩ = false ∧ w.frozen? ⟨b, 2, none⟩ = false ∧ w.frozen? ⟨b, 3, none⟩ = false ∧ w.frozen? ⟨b, 4, none⟩ = false) :=
  ⟨⟨h.cell 0 _ rfl, h.cell 1 _ rfl, h.cell 2 _ rfl, h.cell 3 _ rfl, h.cell 4 _ rfl⟩, h.f 0, h.f 1, h.f 2, h.f 3, h.f 4⟩
theorem Hb.at5 {w : World} {b : Nat} {u0 u1 u2 u3 u4 : Value} (h : Hb w b #[u0, u1, u2, u3, u4]) : w.cell? ⟨b, 0, none⟩ = some u0 ∧ w.cell? ⟨b, 1, none⟩ = some u1 ∧ w.cell? ⟨b, 2, none⟩ = some u2 ∧ w.cell? ⟨b, 3, none⟩ = some u3 ∧ w.cell? ⟨b, 4, none⟩ = some u4 :=
  ⟨h.cell 0 _ rfl, h.cell 1 _ rfl, h.cell 2 _ rfl, h.cell 3 _ rfl, h.cell 4 _ rfl⟩
theorem Hb.noS {w : World} {b : Nat} {cs : Array Value} (h : Hb w b cs) : (∀ c fr, w.heap[b]? ≠ some (.cells c 9 fr)) ∧ ∀ c fr, w.heap[b]? ≠ some (.cells c 24 fr) := by
  unfold Hb at h
  refine ⟨fun c fr e => ?_, fun c fr e => ?_⟩ <;>
  · rw [h] at e
    injection e with e
    injection e with _ ht
    exact absurd ht (by decide)
theorem size_guard : (Try.prog.info? 26).map (·.size) = some 5 := by kernel_rfl
/-- A result that is a guard, in its box: written there, and read. -/
theorem res_box {w : World} {b : Nat} {cs : Array Value} {g : Gd} {vN : Value} (h : Hb w b cs) (hc : cs.size = 5) :
    ∃ W, W = w.setCells b 0 [.bool g.on, .bool g.report, vN, .bool g.any, .bool g.twice] ∧ w.grownBy W (some b) ∧
      (W.cell? ⟨b, 0, none⟩ = some (.bool g.on) ∧ W.cell? ⟨b, 1, none⟩ = some (.bool g.report) ∧ W.cell? ⟨b, 2, none⟩ = some vN ∧ W.cell? ⟨b, 3, none⟩ = some (.bool g.any) ∧ W.cell? ⟨b, 4, none⟩ = some (.bool g.twice)) := by
  have hr := World.rangeAt_setCells_same w b 0 [.bool g.on, .bool g.report, vN, .bool g.any, .bool g.twice] (h.there 5 hc.symm)
  exact ⟨_, rfl, gcells b _ 0 w, hr 0 _ rfl, hr 1 _ rfl, hr 2 _ rfl, hr 3 _ rfl, hr 4 _ rfl⟩
/-- What reads as strings does so where a box of guards is written. -/
theorem rd_box {w w' : World} {N b : Nat} {A : Option Addr} {l : List ByteArray} {cs : Array Value} (h : Rd w N A l) (hb : Hb w b cs) (hc : ∀ s : ByteArray, .string s ∉ cs.toList) (hg : w.grownBy w' (some b)) : Rd w' N A l := fun h0 => by
  obtain ⟨b', off, e, hb', hcc⟩ := h h0
  refine ⟨b', off, e, hb', fun j hj => hg.cell (hcc j hj) fun e2 => ?_⟩
  have e2 : b' = b := by injection e2
  subst e2
  have h1 := hcc j hj
  rw [cell_of_row w b' _ _ _ _ hb] at h1
  obtain ⟨hlt, h2⟩ := Array.getElem?_eq_some_iff.1 h1
  exact hc l[j] (by rw [← h2]; simp)

end Go.Proofs.Ythgpjhblbpiagaa.He
