/-
  Attributes in memory: what a slice of them reads as.
-/
import Derived.Test.YtjhhhlomkfnniaaDoorRowMath
import Derived.Deep.MidRow
import Derived.BigQuiet
import Derived.Deep.QuietTactic
namespace Go.Proofs.YtjhhhlomkfnniaaDoor.Ro
set_option linter.unusedVariables false
set_option linter.unusedSimpArgs false
open Go.RowKit Ba
def acells (a : At) : List Value := [.string a.name, .string a.value]
theorem len_acells (x : At) : (acells x).length = 2 := rfl
/-- These attributes lie at A, below block N. -/
def Ra (w : World) (N : Nat) (A : Option Addr) (l : List At) : Prop :=
  0 < l.length → ∃ b off, A = some ⟨b, off, none⟩ ∧ b < N ∧ ∀ j (h : j < l.length), w.rangeAt b (off + j * 2) (acells l[j])
/-- Their names are no longer than a string can be. -/
def Sh (l : List At) : Prop := ∀ a ∈ l, a.name.size ≤ maxLen
theorem range_keep {w w' : World} {b o : Nat} {cs : List Value} (h : w.rangeAt b o cs) (hk : ∀ o, w'.cell? ⟨b, o, none⟩ = w.cell? ⟨b, o, none⟩) : w'.rangeAt b o cs := fun j v hv => (hk _).trans (h j v hv)
theorem Ra.keep {w w' : World} {N : Nat} {A : Option Addr} {l : List At} (h : Ra w N A l) (hk : ∀ b o, b < N → w'.cell? ⟨b, o, none⟩ = w.cell? ⟨b, o, none⟩) : Ra w' N A l := fun h0 => by
  obtain ⟨b, off, e, hb, hc⟩ := h h0
  exact ⟨b, off, e, hb, fun j hj => range_keep (hc j hj) fun o => hk b o hb⟩
theorem Ra.more {w : World} {N M : Nat} {A : Option Addr} {l : List At} (h : Ra w N A l) (hN : N ≤ M) : Ra w M A l := fun h0 => by
  obtain ⟨b, off, e, hb, hc⟩ := h h0
  exact ⟨b, off, e, by omega, hc⟩
theorem Ra.below {w w' : World} {N M : Nat} {A : Option Addr} {l : List At} (h : Ra w N A l) (hb : Below M w w') (hN : N ≤ M := by exact Nat.le_refl _) : Ra w' N A l := h.keep fun b o hbN => hb.cell (p := ⟨b, o, none⟩) (show b < M by omega)
theorem Ra.nil (w : World) (N : Nat) (A : Option Addr) : Ra w N A [] := fun h => absurd h (by simp)
theorem info_attr : (Tryd.prog.info? 37).map (fun i => (i.zero, i.size, i.bytes)) = some (some (.agg #[.string .empty, .string .empty]), 2, 32) := by kernel_rfl
theorem size_attr : (Tryd.prog.info? 37).map (·.size) = some 2 := by kernel_rfl
theorem range5 {w : World} {b o : Nat} {v0 v1 v2 v3 v4 : Value} (h : w.rangeAt b o [v0, v1, v2, v3, v4]) :
    w.cell? ⟨b, o, none⟩ = some v0 ∧ w.cell? ⟨b, o + 1, none⟩ = some v1 ∧ w.cell? ⟨b, o + 2, none⟩ = some v2 ∧ w.cell? ⟨b, o + 3, none⟩ = some v3 ∧ w.cell? ⟨b, o + 4, none⟩ = some v4 :=
  ⟨h 0 _ rfl, h 1 _ rfl, h 2 _ rfl, h 3 _ rfl, h 4 _ rfl⟩
theorem range2 {w : World} {b o : Nat} {v0 v1 : Value} (h : w.rangeAt b o [v0, v1]) : w.cell? ⟨b, o, none⟩ = some v0 ∧ w.cell? ⟨b, o + 1, none⟩ = some v1 := ⟨h 0 _ rfl, h 1 _ rfl⟩
theorem Ra.at_ {w : World} {N : Nat} {A : Option Addr} {l : List At} (h : Ra w N A l) (k : Nat) (hk : k < l.length) :
    ∃ b off x, A = some ⟨b, off, none⟩ ∧ b < N ∧ l.drop k = x :: l.drop (k + 1) ∧ w.rangeAt b (off + k * 2) [.string x.name, .string x.value] ∧ x ∈ l := by
  obtain ⟨b, off, e, hb, hc⟩ := h (by omega)
  exact ⟨b, off, l[k], e, hb, List.drop_eq_getElem_cons hk, hc k hk, List.getElem_mem _⟩
theorem below_new (w : World) (o : Obj) : Below w.heap.size w (w.alloc o) := (Below.refl _ _).alloc (Nat.le_refl _) _
theorem getElem_of_drop {α : Type} {l : List α} {k : Nat} {x : α} {r : List α} (h : l.drop k = x :: r) : l[k]? = some x := by
  have := List.getElem?_drop (xs := l) (i := k) (j := 0)
  rw [h] at this
  simpa using this.symm
theorem len_part {α : Type} (l : List α) (i j : Nat) (hj : j ≤ l.length) : ((l.take j).drop i).length = j - i := by
  rw [List.length_drop, List.length_take]
  omega
theorem flat_at {α : Type} (f : α → List Value) (m : Nat) (hm : ∀ x, (f x).length = m) : ∀ (l : List α) (j i : Nat) (h : j < l.length), i < m → (l.flatMap f)[j * m + i]? = (f l[j])[i]?
  | [], j, _, h, _ => absurd h (by simp)
  | x :: r, 0, i, _, hi => by
    rw [List.flatMap_cons, List.getElem?_append_left (by rw [hm]; omega)]
    simp
  | x :: r, j + 1, i, h, hi => by
    rw [List.flatMap_cons, List.getElem?_append_right (by rw [hm, Nat.add_mul]; omega), hm, show (j + 1) * m + i - m = j * m + i from by rw [Nat.add_mul]; omega]
    rw [flat_at f m hm r j i (by simpa using h) hi]
    rfl
theorem flat_len {α : Type} (f : α → List Value) (m : Nat) (hm : ∀ x, (f x).length = m) : ∀ l : List α, (l.flatMap f).length = l.length * m
  | [] => by simp
  | x :: r => by rw [List.flatMap_cons, List.length_append, hm, flat_len f m hm r, List.length_cons, Nat.add_mul]; omega
theorem acells_one (l : List At) : ∀ u ∈ l.flatMap acells, u.oneCell' = true := by
  intro u hu
  obtain ⟨x, _, hu⟩ := List.mem_flatMap.1 hu
  simp only [acells, List.mem_cons, List.not_mem_nil, or_false] at hu
  rcases hu with rfl | rfl <;> rfl
end Go.Proofs.YtjhhhlomkfnniaaDoor.Ro
