/-
  Slices of strings as values: reading (Sv), of the call's own (Sown), literals, stores; the order of strings. For every stage from 5 on.
-/
import Derived.Test.YthgpjhblbpiagaaBase
import Derived.Test.YthgpjhblbpiagaaFoldMath
import Derived.Deep.QuietTactic
import Derived.BigQuiet
namespace Go.Proofs.Ythgpjhblbpiagaa.Fo
set_option linter.unusedSimpArgs false
set_option linter.unusedVariables false
open Go.RowKit Ba Fm

/-- Less, byte by byte. -/
def lt (a b : ByteArray) : Bool := Op.bytesLess a.toList b.toList

theorem bl_irr : ∀ a : List UInt8, Op.bytesLess a a = false
  | [] => rfl
  | a :: x => by simp [Op.bytesLess, bl_irr x]
theorem bl_tr : ∀ a b c : List UInt8, Op.bytesLess a b = true → Op.bytesLess b c = true → Op.bytesLess a c = true
  | _, [], _, h, _ => by simp [Op.bytesLess] at h
  | _, _ :: _, [], _, h => by simp [Op.bytesLess] at h
  | [], _ :: _, _ :: _, _, _ => rfl
  | a :: x, b :: y, c :: z, h1, h2 => by
    simp only [Op.bytesLess, Bool.or_eq_true, Bool.and_eq_true, decide_eq_true_eq, beq_iff_eq] at h1 h2 ⊢
    rcases h1 with h1 | ⟨rfl, h1⟩
    · rcases h2 with h2 | ⟨rfl, h2⟩
      · exact .inl (UInt8.lt_trans h1 h2)
      · exact .inl h1
    · rcases h2 with h2 | ⟨rfl, h2⟩
      · exact .inl h2
      · exact .inr ⟨rfl, bl_tr x y z h1 h2⟩
theorem bl_tri : ∀ a b : List UInt8, Op.bytesLess a b = false → Op.bytesLess b a = false → a = b
  | [], [], _, _ => rfl
  | [], _ :: _, h, _ => by simp [Op.bytesLess] at h
  | _ :: _, [], _, h => by simp [Op.bytesLess] at h
  | a :: x, b :: y, h1, h2 => by
    simp only [Op.bytesLess, Bool.or_eq_false_iff, decide_eq_false_iff_not, UInt8.not_lt] at h1 h2
    have hab : a = b := UInt8.le_antisymm h2.1 h1.1
    subst hab
    have e1 := h1.2
    have e2 := h2.2
    simp at e1 e2
    rw [bl_tri x y e1 e2]
theorem ord_lt : Ord lt where
  irr a := bl_irr _
  tr a b c := bl_tr _ _ _
  tri a b h1 h2 := by
    have := bl_tri _ _ h1 h2
    rw [toList_L, toList_L] at this
    exact L_inj this

theorem below_dN {N : Nat} {a w : World} (h : Below N a w) (n : Nat) : Below N a (w.drewN n) := ⟨h.os, h.tape, h.output, h.size, h.block⟩

def lenOf : Value → Nat | .slice _ n _ => n | _ => 0

/-- v reads as l, below block N. -/
def Sv (w : World) (N : Nat) (v : Value) (l : List ByteArray) : Prop := ∃ A c, v = .slice A l.length c ∧ l.length ≤ c ∧ (A = none → c = 0) ∧ Rd w N A l
theorem sv_own {N : Nat} {w : World} {v : Value} {l : List ByteArray} (h : Sown N w v l) : Sv w w.heap.size v l := by
  rcases h.2 with ⟨hv, hl⟩ | ⟨g, cap, cur, hv, hg, hh, hn, hm, hs, ht⟩
  · have : l = [] := List.eq_nil_of_length_eq_zero hl
    subst this
    exact ⟨none, 0, hv, Nat.le_refl _, fun _ => rfl, Rd.nil _ _ _⟩
  · obtain ⟨A, c, hv', h1, _, h3⟩ := h.form
    refine ⟨A, c, hv', h1, fun e => ?_, h3⟩
    rw [hv] at hv'
    injection hv' with e1
    rw [e] at e1
    cases e1
theorem Sv.below {w w' : World} {N M : Nat} {v : Value} {l : List ByteArray} (h : Sv w N v l) (hb : Below M w w') (hN : N ≤ M) : Sv w' N v l := by
  obtain ⟨A, c, h1, h2, h3, h4⟩ := h
  exact ⟨A, c, h1, h2, h3, h4.below hb hN⟩
theorem Sv.more {w : World} {N M : Nat} {v : Value} {l : List ByteArray} (h : Sv w N v l) (hN : N ≤ M) : Sv w M v l := by
  obtain ⟨A, c, h1, h2, h3, h4⟩ := h
  exact ⟨A, c, h1, h2, h3, h4.more hN⟩

theorem sv_tail {w : World} {N b o c : Nat} {p : ByteArray} {x : List ByteArray} (h : Rd w N (some ⟨b, o, none⟩) (p :: x)) (hc : x.length + 1 ≤ c) : Sv w N (.slice (if c = 1 then some ⟨b, o, none⟩ else some ⟨b, o + 1, none⟩) x.length (c - 1)) x := by
  refine ⟨_, c - 1, rfl, by omega, fun e => ?_, fun h0 => ?_⟩
  · split at e <;> cases e
  · obtain ⟨b', o', e, hb, hcc⟩ := h (by simp)
    injection e with e
    injection e with e1 e2
    subst e1 e2
    rw [if_neg (by omega)]
    refine ⟨b, o + 1, rfl, hb, fun j hj => ?_⟩
    have := hcc (j + 1) (by simp; omega)
    rw [show o + 1 + j = o + (j + 1) from by omega]
    exact this
theorem sv_lit (w : World) (l : List ByteArray) : Sv (w.alloc (.cells (l.map sc).toArray 9)) (w.alloc (.cells (l.map sc).toArray 9)).heap.size (.slice (some ⟨w.heap.size, 0, none⟩) l.length l.length) l := by
  refine ⟨_, l.length, rfl, Nat.le_refl _, (fun e => by cases e), fun _ => ⟨w.heap.size, 0, rfl, by simp, fun j hj => ?_⟩⟩
  rw [Nat.zero_add, World.cell?_alloc_at _ _ _ _ rfl]
  simp [sc, hj]
theorem Sv.rd {w : World} {N n c : Nat} {A : Option Addr} {l : List ByteArray} (h : Sv w N (.slice A n c) l) : Rd w N A l := by
  obtain ⟨A', c', e, _, _, hr⟩ := h
  injection e with e
  rw [e]
  exact hr
theorem below_one (w : World) (o : Obj) : Below w.heap.size w (w.alloc o) := (Below.refl _ _).alloc (Nat.le_refl _) _

/-- A string stored into a slice of the call's own. -/
theorem own_store {N g cap : Nat} {w : World} {l : List ByteArray} {n : Nat} (h : Sown N w (.slice (some ⟨g, 0, none⟩) n cap) l) (hn : l.length = n) (j : Nat) (y : ByteArray) :
    Sown N (w.setCell ⟨g, j, none⟩ (.string y)) (.slice (some ⟨g, 0, none⟩) n cap) (l.set j y) ∧ N ≤ g := by
  subst hn
  have h1 := (World.ownsRow.stored h j (.string y)).1
  have h2 := (World.ownsRow.lt h g rfl).1
  refine ⟨?_, h2⟩
  unfold Sown
  rw [List.length_set, List.map_set]
  exact h1
theorem own_form {N : Nat} {w : World} {v : Value} {l : List ByteArray} (h : Sown N w v l) (hl : 0 < l.length) : ∃ g cap, v = .slice (some ⟨g, 0, none⟩) l.length cap := by
  rcases h.2 with ⟨_, h0⟩ | ⟨g, cap, _, hv, _⟩
  · omega
  · exact ⟨g, cap, hv⟩
theorem own_cell {N g cap : Nat} {w : World} {l : List ByteArray} {n : Nat} (h : Sown N w (.slice (some ⟨g, 0, none⟩) n cap) l) (hn : l.length = n) (j : Nat) (hj : j < n) : w.cell? ⟨g, j, none⟩ = some (.string (l[j]'(by omega))) ∧ w.frozen? ⟨g, j, none⟩ = false := by
  subst hn
  refine ⟨?_, World.ownsRow.frozenAt h j⟩
  rw [World.ownsRow.cellAt h j (by omega)]
  simp [sc, hj]

/-- What a slice holds at a place. -/
theorem sv_cell {w : World} {N n c : Nat} {A : Option Addr} {l : List ByteArray} (h : Sv w N (.slice A n c) l) {j : Nat} (hj : j < l.length) : ∃ b off, A = some ⟨b, off, none⟩ ∧ b < N ∧ w.cell? ⟨b, off + j, none⟩ = some (.string l[j]) := by
  obtain ⟨b, off, e, hb, hc⟩ := h.rd (by omega)
  exact ⟨b, off, e, hb, hc j hj⟩

theorem own_other {N : Nat} {w : World} {v : Value} {l : List ByteArray} (h : Sown N w v l) {p : Addr} (hp : p.block < N) (u : Value) : Sown N (w.setCell p u) v l := ownsRow_setCell_below h hp u
theorem sown_dN {N : Nat} {w : World} {v : Value} {l : List ByteArray} (h : Sown N w v l) (n : Nat) : Sown N (w.drewN n) v l := h

theorem take_snocS (l : List ByteArray) (k : Nat) (h : k < l.length) : l.take (k + 1) = l.take k ++ [l[k]] := List.take_succ_eq_append_getElem h

end Go.Proofs.Ythgpjhblbpiagaa.Fo
