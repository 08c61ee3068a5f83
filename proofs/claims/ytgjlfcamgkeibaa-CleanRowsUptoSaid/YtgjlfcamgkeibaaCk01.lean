/-
  Strings as lists of bytes. For every stage.
  Trees as rows, in plain words: which rows are right, where a node's tree ends, its kids, its text; nothing of the program.
  Attributes in memory: what a slice of them reads as.
  Rows in memory: what a slice of rows reads as, their attributes, a row loaded, a row in a box.
  Walks of stage 4: has, depthOf, exceeds, Big.
  Walks of stage 4: where a tree ends, its parent (rows.endOf, End, Parent; boltingref04.End, Parent).
  Walks of stage 4: the kids of a node, by a range over a function (kidsOf).
  Walks of stage 4: Kids, placeOf; boltingref04.Kids.
  A set of names tells whether two attributes have the same name.
  Walks of stage 4: repeated, validRow, valid, Check.
  Walks of stage 4: validRow, valid, Check.
  Walks of stage 4: boltingref04.Row, Right, Check.
  Walks of stage 4: boltingref04.Kids, boltinglaw04.nums.
  Rows and attributes of the call's own: what they hold, what is kept where another one grows, append of a row and of attributes.
-/
import Derived.Test.YtgjlfcamgkeibaaRows
import Derived.WalkKit
import Derived.WalkSpells
import Derived.Lib.OthersKept
import Derived.Lib.Hide
import Derived.Lib.Strings
import Derived.OpenShut
import Derived.WalkLawsBesides
import Derived.Lib.AppendStr
import Derived.WalkSmall
import Derived.Laws.IdiomStrings
import Derived.Laws.Cover1
import Derived.Laws.OwnMore
import Derived.Laws.AppendOwnNone
import Derived.Deep.AppendLies
import Derived.Deep.Draws
import Derived.Deep.Onto
import Derived.Maps.AppendAt
import Derived.Deep.MidRow
import Derived.BigQuiet
import Derived.Deep.QuietTactic
import Derived.RangeFuncBox
import Derived.RangeFuncLeaves
import Derived.Shelf.Abstract
import Derived.OwnWalkIn
import Derived.TacticsInMore
import Derived.LoopNIn
import Derived.LoopIn
import Derived.Sort.BigQuietIn
import Derived.Maps.OwnSet
namespace Go.Proofs.Ytgjlfcamgkeibaa.Ba
set_option linter.unusedSimpArgs false
set_option linter.unusedVariables false
open Go.RowKit
abbrev L (s : ByteArray) : List UInt8 := s.data.toList
theorem size_L (s : ByteArray) : (L s).length = s.size := by rw [Array.length_toList]; rfl
theorem drop_nil (s : ByteArray) (k : Nat) (h : ¬ k < s.size) : (L s).drop k = [] := List.drop_eq_nil_of_le (by rw [size_L]; omega)
theorem drop_cons (s : ByteArray) (k : Nat) (h : k < s.size) : (L s).drop k = s[k] :: (L s).drop (k + 1) := by
  rw [List.drop_eq_getElem_cons (by rw [size_L]; exact h)]
  rfl
theorem take_snoc (s : ByteArray) (k : Nat) (h : k < s.size) : (L s).take (k + 1) = (L s).take k ++ [s[k]] := by
  rw [List.take_succ_eq_append_getElem (by rw [size_L]; exact h)]; rfl

theorem ret_int {k : IntKind} {a b : Int} (h : a = b) : Ending.returned (.int k a) = .returned (.int k b) := by rw [h]
theorem ret_bool {a b : Bool} (h : a = b) : Ending.returned (.bool a) = .returned (.bool b) := by rw [h]
theorem ret_str {a b : ByteArray} (h : a = b) : Ending.returned (.string a) = .returned (.string b) := by rw [h]

/-- A string of these bytes. -/
def B (l : List UInt8) : ByteArray := ⟨l.toArray⟩
theorem L_B (l : List UInt8) : L (B l) = l := by simp [B]
theorem toList_B (l : List UInt8) : (B l).toList = l := by unfold B; exact ByteArray.toList_mk l
theorem B_of {s : ByteArray} {l : List UInt8} (h : L s = l) : s = B l := WideShapes.bytes_inj (h.trans (L_B l).symm)
theorem B_L (s : ByteArray) : B (L s) = s := (B_of rfl).symm
theorem toList_L (s : ByteArray) : s.toList = L s := by
  obtain ⟨⟨x⟩⟩ := s
  exact ByteArray.toList_mk x
theorem L_inj {a b : ByteArray} (h : L a = L b) : a = b := WideShapes.bytes_inj h
theorem eq_of_toList {a b : ByteArray} : (a.toList == b.toList) = decide (a = b) := by
  rw [toList_L, toList_L, Bool.eq_iff_iff, beq_iff_eq, decide_eq_true_iff]
  exact ⟨L_inj, fun h => by rw [h]⟩
theorem L_extract (s : ByteArray) (a b : Nat) : L (s.extract a b) = ((L s).drop a).take (b - a) := Lib.extract_data s a b
theorem L_append (a b : ByteArray) : L (a ++ b) = L a ++ L b := by
  obtain ⟨⟨x⟩⟩ := a
  obtain ⟨⟨y⟩⟩ := b
  rfl
theorem size_extract (s : ByteArray) (a b : Nat) : (s.extract a b).size ≤ s.size := by
  rw [← size_L, ← size_L, L_extract, List.length_take, List.length_drop]; omega

theorem u8_eq {a b : UInt8} : (((a.toNat : Int)) == (b.toNat : Int)) = (a == b) := by
  rw [Bool.eq_iff_iff, beq_iff_eq, beq_iff_eq]
  exact ⟨fun h => UInt8.toNat.inj (by omega), fun h => by rw [h]⟩

theorem bt {w w1 w2 : World} (h1 : Below w.heap.size w w1) (h2 : Below w1.heap.size w1 w2) : Below w.heap.size w w2 := h1.trans (h2.mono h1.size)
end Go.Proofs.Ytgjlfcamgkeibaa.Ba

namespace Go.Proofs.Ytgjlfcamgkeibaa.Ro
set_option linter.unusedVariables false
set_option linter.unusedSimpArgs false

structure At where
  name : ByteArray
  value : ByteArray
deriving DecidableEq
structure Ro where
  depth : Int
  kind : Int
  name : ByteArray
  data : ByteArray
  attrs : List At
deriving DecidableEq

/-- Is there one that stands at this depth or deeper, or too many? -/
def exceeds (l : List Ro) (n d : Int) : Bool := decide (n < l.length) || l.any fun x => decide (d ≤ x.depth)

/-- Are two names the same? -/
def twice : List At → Bool
  | [] => false
  | a :: r => r.any (fun b => decide (b.name = a.name)) || twice r
def okRow (x : Ro) : Bool := if (x.kind == 0) = true then !x.name.toList.isEmpty && x.data.toList.isEmpty && !twice x.attrs else (x.kind == 1 || x.kind == 2) && x.name.toList.isEmpty && (x.attrs.length : Int) == 0
/-- Right from here on, where a row may stand at most at depth m. -/
def rightFrom (m : Int) : List Ro → Bool
  | [] => true
  | x :: r => decide (0 ≤ x.depth) && decide (x.depth ≤ m) && okRow x && rightFrom (if x.kind = 0 then x.depth + 1 else x.depth) r
def right (l : List Ro) : Bool := rightFrom 0 l

/-- The depth of row i; of -1, which stands for what has the roots: -1. -/
def dep (l : List Ro) (i : Int) : Int := if i = -1 then -1 else ((l[i.toNat]?).map (·.depth)).getD 0
theorem dep_top (l : List Ro) : dep l (-1) = -1 := rfl
theorem dep_at {l : List Ro} {k : Nat} {x : Ro} (h : l[k]? = some x) : dep l k = x.depth := by
  unfold dep
  rw [if_neg (by omega), Int.toNat_natCast, h]
  rfl
/-- What stands behind row i and deeper than it. -/
def below (l : List Ro) (i : Int) : List Ro := (l.drop (i + 1).toNat).takeWhile fun x => decide (dep l i < x.depth)
/-- Where the tree of row i ends. -/
def endOf (l : List Ro) (i : Int) : Nat := (i + 1).toNat + (below l i).length
def hasRow (l : List Ro) (i : Int) : Bool := decide (0 ≤ i ∧ i < l.length)
def endAt (l : List Ro) (i : Int) : Nat := if hasRow l i then endOf l i else 0
/-- The last row ahead of n that is less deep than d. -/
def up (l : List Ro) (d : Int) : Nat → Int
  | 0 => -1
  | n + 1 => if dep l n < d then n else up l d n
end Go.Proofs.Ytgjlfcamgkeibaa.Ro

namespace Go.Proofs.Ytgjlfcamgkeibaa.Ro
set_option maxRecDepth 100000
set_option linter.unusedVariables false
set_option linter.unusedSimpArgs false
open Go.RowKit Ba
def acells (a : At) : List Value := [.string a.name, .string a.value]
theorem len_acells (x : At) : (acells x).length = 2 := rfl
/-- These attributes lie at A, below block N. -/
def Ra (w : World) (N : Nat) (A : Option Addr) (l : List At) : Prop :=
  0 < l.length → ∃ b off, A = some ⟨b, off, none⟩ ∧ b < N ∧ ∀ j (h : j < l.length), w.rangeAt b (off + j * 2) (acells l[j])
/-- Their names are no longer than a string can be. -/
def Sh (l : List At) : Prop := ∀ a ∈ l, a.name.size ≤ maxLen
theorem range_keep {w w' : World} {b o : Nat} {cs : List Value} (h : w.rangeAt b o cs) (hk : ∀ o, w'.cell? ⟨b, o, none⟩ = w.cell? ⟨b, o, none⟩) : w'.rangeAt b o cs := fun j v hv => (hk _).trans (h j v hv)
theorem Ra.keep {w w' : World} {N : Nat} {A : Option Addr} {l : List At} (h : Ra w N A l) (hk : ∀ b o, b < N → w'.cell? ⟨b, o, none⟩ = w.cell? ⟨b, o, none⟩) : Ra w' N A l := fun h0 => by
  obtain ⟨b, off, e, hb, hc⟩ := h h0
  exact ⟨b, off, e, hb, fun j hj => range_keep (hc j hj) fun o => hk b o hb⟩
theorem Ra.more {w : World} {N M : Nat} {A : Option Addr} {l : List At} (h : Ra w N A l) (hN : N ≤ M) : Ra w M A l := fun h0 => by
  obtain ⟨b, off, e, hb, hc⟩ := h h0
  exact ⟨b, off, e, by omega, hc⟩
theorem Ra.below {w w' : World} {N M : Nat} {A : Option Addr} {l : List At} (h : Ra w N A l) (hb : Below M w w') (hN : N ≤ M := by exact Nat.le_refl _) : Ra w' N A l := h.keep fun b o hbN => hb.cell (p := ⟨b, o, none⟩) (show b < M by omega)
theorem Ra.nil (w : World) (N : Nat) (A : Option Addr) : Ra w N A [] := fun h => absurd h (by simp)
theorem info_attr : (Try.prog.info? 40).map (fun i => (i.zero, i.size, i.bytes)) = some (some (.agg #[.string .empty, .string .empty]), 2, 32) := by kernel_rfl
theorem size_attr : (Try.prog.info? 40).map (·.size) = some 2 := by kernel_rfl
theorem range5 {w : World} {b o : Nat} {v0 v1 v2 v3 v4 : Value} (h : w.rangeAt b o [v0, v1, v2, v3, v4]) :
    w.cell? ⟨b, o, none⟩ = some v0 ∧ w.cell? ⟨b, o + 1, none⟩ = some v1 ∧ w.cell? ⟨b, o + 2, none⟩ = some v2 ∧ w.cell? ⟨b, o + 3, none⟩ = some v3 ∧ w.cell? ⟨b, o + 4, none⟩ = some v4 :=
  ⟨h 0 _ rfl, h 1 _ rfl, h 2 _ rfl, h 3 _ rfl, h 4 _ rfl⟩
theorem range2 {w : World} {b o : Nat} {v0 v1 : Value} (h : w.rangeAt b o [v0, v1]) : w.cell? ⟨b, o, none⟩ = some v0 ∧ w.cell? ⟨b, o + 1, none⟩ = some v1 := ⟨h 0 _ rfl, h 1 _ rfl⟩
theorem Ra.at_ {w : World} {N : Nat} {A : Option Addr} {l : List At} (h : Ra w N A l) (k : Nat) (hk : k < l.length) :
    ∃ b off x, A = some ⟨b, off, none⟩ ∧ b < N ∧ l.drop k = x :: l.drop (k + 1) ∧ w.rangeAt b (off + k * 2) [.string x.name, .string x.value] ∧ x ∈ l := by
  obtain ⟨b, off, e, hb, hc⟩ := h (by omega)
  exact ⟨b, off, l[k], e, hb, List.drop_eq_getElem_cons hk, hc k hk, List.getElem_mem _⟩
theorem below_new (w : World) (o : Obj) : Below w.heap.size w (w.alloc o) := (Below.refl _ _).alloc (Nat.le_refl _) _
theorem getElem_of_drop {α : Type} {l : List α} {k : Nat} {x : α} {r : List α} (h : l.drop k = x :: r) : l[k]? = some x := by
  have := List.getElem?_drop (xs := l) (i := k) (j := 0)
  rw [h] at this
  simpa using this.symm
theorem len_part {α : Type} (l : List α) (i j : Nat) (hj : j ≤ l.length) : ((l.take j).drop i).length = j - i := by
  rw [List.length_drop, List.length_take]
  omega
theorem flat_at {α : Type} (f : α → List Value) (m : Nat) (hm : ∀ x, (f x).length = m) : ∀ (l : List α) (j i : Nat) (h : j < l.length), i < m → (l.flatMap f)[j * m + i]? = (f l[j])[i]?
  | [], j, _, h, _ => absurd h (by simp)
  | x :: r, 0, i, _, hi => by
    rw [List.flatMap_cons, List.getElem?_append_left (by rw [hm]; omega)]
    simp
  | x :: r, j + 1, i, h, hi => by
    rw [List.flatMap_cons, List.getElem?_append_right (by rw [hm, Nat.add_mul]; omega), hm, show (j + 1) * m + i - m = j * m + i from by rw [Nat.add_mul]; omega]
    rw [flat_at f m hm r j i (by simpa using h) hi]
    rfl
theorem flat_len {α : Type} (f : α → List Value) (m : Nat) (hm : ∀ x, (f x).length = m) : ∀ l : List α, (l.flatMap f).length = l.length * m
  | [] => by simp
  | x :: r => by rw [List.flatMap_cons, List.length_append, hm, flat_len f m hm r, List.length_cons, Nat.add_mul]; omega
theorem acells_one (l : List At) : ∀ u ∈ l.flatMap acells, u.oneCell' = true := by
  intro u hu
  obtain ⟨x, _, hu⟩ := List.mem_flatMap.1 hu
  simp only [acells, List.mem_cons, List.not_mem_nil, or_false] at hu
  rcases hu with rfl | rfl <;> rfl
end Go.Proofs.Ytgjlfcamgkeibaa.Ro

namespace Go.Proofs.Ytgjlfcamgkeibaa.Ro
set_option maxRecDepth 100000
set_option linter.unusedVariables false
set_option linter.unusedSimpArgs false
open Go.RowKit Ba
/-- A row as it lies: where its attributes are, and how much room is there. -/
structure Cw where
  ro : Ro
  A : Option Addr
  c : Nat

def cells (x : Cw) : List Value := [.int .i64 x.ro.depth, .int .i64 x.ro.kind, .string x.ro.name, .string x.ro.data, .slice x.A x.ro.attrs.length x.c]
theorem len_cells (x : Cw) : (cells x).length = 5 := rfl
def Att (w : World) (N : Nat) (x : Cw) : Prop := x.ro.attrs.length ≤ x.c ∧ (x.A = none → x.c = 0) ∧ x.c ≤ maxLen ∧ Ra w N x.A x.ro.attrs ∧ Sh x.ro.attrs
/-- These rows lie at A, below block N, and their attributes. -/
def Rr (w : World) (N : Nat) (A : Option Addr) (l : List Cw) : Prop :=
  (0 < l.length → ∃ b off, A = some ⟨b, off, none⟩ ∧ b < N ∧ ∀ j (h : j < l.length), w.rangeAt b (off + j * 5) (cells l[j])) ∧ ∀ x ∈ l, Att w N x
/-- A row as a value. -/
abbrev rowV (x : Cw) : Value := .agg #[.int .i64 x.ro.depth, .int .i64 x.ro.kind, .string x.ro.name, .string x.ro.data, .slice x.A x.ro.attrs.length x.c]
def ros (l : List Cw) : List Ro := l.map Cw.ro
theorem len_ros (l : List Cw) : (ros l).length = l.length := List.length_map _
theorem ros_drop (l : List Cw) (k : Nat) : (ros l).drop k = ros (l.drop k) := by simp [ros, List.map_drop]
theorem ros_take (l : List Cw) (k : Nat) : (ros l).take k = ros (l.take k) := by simp [ros, List.map_take]
theorem ros_append (a b : List Cw) : ros (a ++ b) = ros a ++ ros b := by simp [ros]
theorem ros_cons (a : Cw) (b : List Cw) : ros (a :: b) = a.ro :: ros b := rfl

theorem Att.keep {w w' : World} {N : Nat} {x : Cw} (h : Att w N x) (hk : ∀ b o, b < N → w'.cell? ⟨b, o, none⟩ = w.cell? ⟨b, o, none⟩) : Att w' N x := ⟨h.1, h.2.1, h.2.2.1, h.2.2.2.1.keep hk, h.2.2.2.2⟩
theorem Att.more {w : World} {N M : Nat} {x : Cw} (h : Att w N x) (hN : N ≤ M) : Att w M x := ⟨h.1, h.2.1, h.2.2.1, h.2.2.2.1.more hN, h.2.2.2.2⟩
theorem Att.below {w w' : World} {N M : Nat} {x : Cw} (h : Att w N x) (hb : Below M w w') (hN : N ≤ M := by exact Nat.le_refl _) : Att w' N x := h.keep fun b o hbN => hb.cell (p := ⟨b, o, none⟩) (show b < M by omega)
theorem Rr.keep {w w' : World} {N : Nat} {A : Option Addr} {l : List Cw} (h : Rr w N A l) (hk : ∀ b o, b < N → w'.cell? ⟨b, o, none⟩ = w.cell? ⟨b, o, none⟩) : Rr w' N A l :=
  ⟨fun h0 => by
    obtain ⟨b, off, e, hb, hc⟩ := h.1 h0
    exact ⟨b, off, e, hb, fun j hj => range_keep (hc j hj) fun o => hk b o hb⟩, fun x hx => (h.2 x hx).keep hk⟩
theorem Rr.more {w : World} {N M : Nat} {A : Option Addr} {l : List Cw} (h : Rr w N A l) (hN : N ≤ M) : Rr w M A l :=
  ⟨fun h0 => by
    obtain ⟨b, off, e, hb, hc⟩ := h.1 h0
    exact ⟨b, off, e, by omega, hc⟩, fun x hx => (h.2 x hx).more hN⟩
theorem Rr.below {w w' : World} {N M : Nat} {A : Option Addr} {l : List Cw} (h : Rr w N A l) (hb : Below M w w') (hN : N ≤ M := by exact Nat.le_refl _) : Rr w' N A l := h.keep fun b o hbN => hb.cell (p := ⟨b, o, none⟩) (show b < M by omega)
theorem Rr.nil (w : World) (N : Nat) (A : Option Addr) : Rr w N A [] := ⟨fun h => absurd h (by simp), fun _ h => by simp at h⟩
/-- A part of it: what the model makes of l[i:j]. -/
theorem Rr.part {w : World} {N : Nat} {A : Option Addr} {l : List Cw} (h : Rr w N A l) (i j cap : Nat) (hij : i ≤ j) (hj : j ≤ l.length) (hc : l.length ≤ cap) :
    Rr w N (if cap = i then A else A.map (·.add (i * 5))) ((l.take j).drop i) := by
  refine ⟨fun h0 => ?_, fun x hx => h.2 x (List.mem_of_mem_take (List.mem_of_mem_drop hx))⟩
  rw [List.length_drop, List.length_take] at h0
  obtain ⟨b, off, e, hb, hcc⟩ := h.1 (by omega)
  rw [if_neg (by omega), e]
  refine ⟨b, off + i * 5, by simp [WideShapes.add_plain], hb, fun k hk => ?_⟩
  rw [List.length_drop, List.length_take] at hk
  have := hcc (i + k) (by omega)
  rw [show off + i * 5 + k * 5 = off + (i + k) * 5 from by omega]
  simpa using this

theorem info_row : (Try.prog.info? 36).map (fun i => (i.zero, i.size, i.bytes)) = some (some (.agg #[.int .i64 0, .int .i64 0, .string .empty, .string .empty, .slice none 0 0]), 5, 72) := by kernel_rfl
theorem size_row : (Try.prog.info? 36).map (·.size) = some 5 := by kernel_rfl
/-- The row at k. -/
theorem Rr.at_ {w : World} {N : Nat} {A : Option Addr} {l : List Cw} (h : Rr w N A l) (k : Nat) (hk : k < l.length) :
    ∃ b off x, A = some ⟨b, off, none⟩ ∧ b < N ∧ l.drop k = x :: l.drop (k + 1) ∧ w.rangeAt b (off + k * 5) [.int .i64 x.ro.depth, .int .i64 x.ro.kind, .string x.ro.name, .string x.ro.data, .slice x.A x.ro.attrs.length x.c] ∧ Att w N x ∧ x ∈ l := by
  obtain ⟨b, off, e, hb, hc⟩ := h.1 (by omega)
  exact ⟨b, off, l[k], e, hb, List.drop_eq_getElem_cons hk, hc k hk, h.2 _ (List.getElem_mem _), List.getElem_mem _⟩
/-- A row in a box of its own. -/
abbrev rowO (x : Cw) : Obj := .cells #[.int .i64 x.ro.depth, .int .i64 x.ro.kind, .string x.ro.name, .string x.ro.data, .slice x.A x.ro.attrs.length x.c] 36
theorem box_at (w : World) (x : Cw) (j : Nat) : (w.alloc (rowO x)).cell? ⟨w.heap.size, j, none⟩ = (cells x)[j]? := by
  rw [World.cell?_alloc_mark]
  match j with
  | 0 | 1 | 2 | 3 | 4 => rfl
  | j + 5 => simp [cells]
theorem box_kept {w w3 : World} {x : Cw} (hb : Below (w.alloc (rowO x)).heap.size (w.alloc (rowO x)) w3) (j : Nat) : w3.cell? ⟨w.heap.size, j, none⟩ = (cells x)[j]? :=
  (hb.cell (p := ⟨w.heap.size, j, none⟩) (by simp)).trans (box_at w x j)
theorem Att.boxed {w w0 : World} {x : Cw} (h : Att w w0.heap.size x) (hb : Below w0.heap.size w0 w) (o : Obj) : Att (w.alloc o) (w.alloc o).heap.size x :=
  ((h.more hb.size).below (below_new w o)).more (by simp)
/-- l[i:j] where i is ahead of the room's end. -/
theorem Rr.mid {w : World} {N : Nat} {A : Option Addr} {l : List Cw} (h : Rr w N A l) (i j cap : Nat) (hij : i ≤ j) (hj : j ≤ l.length) (hc : l.length ≤ cap) (hne : i < cap) :
    Rr w N (Option.map (fun x => x.add (i * 5)) A) ((l.take j).drop i) := by
  have := h.part i j cap hij hj hc
  rwa [if_neg (by omega)] at this
theorem ros_part (l : List Cw) (i j : Nat) : ros ((l.take j).drop i) = ((ros l).take j).drop i := by rw [← ros_drop, ← ros_take]

end Go.Proofs.Ytgjlfcamgkeibaa.Ro

namespace Go.Proofs.Ytgjlfcamgkeibaa.Ro
set_option maxRecDepth 100000
set_option linter.unusedVariables false
set_option linter.unusedSimpArgs false
open Go.RowKit Ba
theorem has_any (A : Option Addr) (n c : Nat) (i : Int) (w : World) (h : n ≤ c) :
    Calls Try.prog 96 #[.slice A n c, .int .i64 i] w fun e w' => e = .returned (.bool (decide (0 ≤ i ∧ i < n))) ∧ w = w' := by
  by_cases h1 : 0 ≤ i
  · by_cases h2 : i < n
    · have e : decide (0 ≤ i ∧ i < n) = true := decide_eq_true ⟨h1, h2⟩
      rw [e]
      clear e
      go_enter Try.func96, Try.ntmps96
      go_wp2
      go_ret
      exact ⟨rfl, rfl⟩
    · have e : decide (0 ≤ i ∧ i < n) = false := decide_eq_false fun e => h2 e.2
      have h2' : decide (i < n) = false := decide_eq_false h2
      rw [e]
      clear e
      go_enter Try.func96, Try.ntmps96
      go_wp2
      go_ret
      exact ⟨rfl, rfl⟩
  · have h1' : decide (0 ≤ i) = false := decide_eq_false h1
    have e : decide (0 ≤ i ∧ i < n) = false := decide_eq_false fun e => h1 e.1
    rw [e]
    clear e
    go_enter Try.func96, Try.ntmps96
    go_wp2
    go_ret
    exact ⟨rfl, rfl⟩

theorem depthTop_any (A : Option Addr) (n c : Nat) (w : World) :
    Calls Try.prog 114 #[.slice A n c, .int .i64 (-1)] w fun e w' => e = .returned (.int .i64 (-1)) ∧ w = w' := by
  go_enter Try.func114, Try.ntmps114
  go_wp2
  go_ret
  exact ⟨rfl, rfl⟩
theorem depthAt_any (A : Option Addr) (c : Nat) (l : List Cw) (k : Nat) (w : World) (hr : Rr w w.heap.size A l) (hc : l.length ≤ c) (hm : l.length ≤ 1000000) (hk : k < l.length) :
    Calls Try.prog 114 #[.slice A l.length c, .int .i64 k] w fun e w' => e = .returned (.int .i64 (dep (ros l) k)) ∧ w = w' := by
  obtain ⟨b, off, x, rfl, hb, hd, hx, _, _⟩ := hr.at_ k hk
  have hg := (range5 hx).1
  have e : dep (ros l) k = x.ro.depth := dep_at (by rw [ros, List.getElem?_map, getElem_of_drop hd]; rfl)
  rw [e]
  clear hd hx hr e
  have hk1 : ((k : Int) == -1) = false := by rw [beq_eq_false_iff_ne]; omega
  go_enter Try.func114, Try.ntmps114
  go_wp2
  go_ret
  exact ⟨rfl, rfl⟩
theorem depthOf_any (A : Option Addr) (c : Nat) (l : List Cw) (i : Int) (w : World) (hr : Rr w w.heap.size A l) (hc : l.length ≤ c) (hm : l.length ≤ 1000000) (h1 : -1 ≤ i) (h2 : i < l.length) :
    Calls Try.prog 114 #[.slice A l.length c, .int .i64 i] w fun e w' => e = .returned (.int .i64 (dep (ros l) i)) ∧ w = w' := by
  by_cases h : i = -1
  · subst h
    exact depthTop_any A _ c w
  · obtain ⟨k, rfl⟩ := Int.eq_ofNat_of_zero_le (show 0 ≤ i by omega)
    exact depthAt_any A c l k w hr hc hm (by omega)

theorem exceeds_any (A : Option Addr) (c : Nat) (l : List Cw) (n d : Int) (w : World) (hr : Rr w w.heap.size A l) (hc : l.length ≤ c) (hm : l.length ≤ 1000000) :
    Calls Try.prog 63 #[.slice A l.length c, .int .i64 n, .int .i64 d] w fun e w' => e = .returned (.bool (exceeds (ros l) n d)) ∧ Below w.heap.size w w' := by
  by_cases h1 : n < l.length
  · go_enter Try.func63, Try.ntmps63
    go_wp2
    go_ret
    exact ⟨ret_bool (by simp [exceeds, len_ros, h1]), Below.refl _ _⟩
  · have h1' : decide (n < l.length) = false := decide_eq_false h1
    go_enter Try.func63, Try.ntmps63
    go_wp2
    go_loopw [15] (fun i wr => ∃ k : Nat, i = .int .i64 k ∧ k ≤ l.length ∧ (ros (l.drop k)).any (fun x => decide (d ≤ x.depth)) = exceeds (ros l) n d ∧ Below w.heap.size w wr) (fun i _ => l.length - (intOf i).toNat)
    case atStart => exact ⟨0, rfl, by omega, by rw [List.drop_zero, exceeds, len_ros, decide_eq_false (by omega), Bool.false_or], Below.refl _ _⟩
    case round =>
      obtain ⟨k, rfl, hk, hv, hbel⟩ := hrel
      have hsz := hbel.size
      by_cases hp : k < l.length
      · obtain ⟨b, off, x, rfl, hb, hd, hx, _, _⟩ := (hr.below hbel).at_ k hp
        rw [hd, ros_cons, List.any_cons] at hv
        clear hd
        by_cases h2 : d ≤ x.ro.depth
        · rw [decide_eq_true h2, Bool.true_or] at hv
          have HV := Lib.hid hv
          clear hv
          go_wp2_with (refine wpList_load_mid rfl 36 (.tmp 17) rfl b (off + k * 5) rfl _ _ hx Try.underlying36 rfl size_row ?_)
          go_ret
          exact ⟨ret_bool HV.out, hbel.alloc hsz _⟩
        · rw [decide_eq_false h2, Bool.false_or] at hv
          have HV := Lib.hid hv
          have h2' : decide (d ≤ x.ro.depth) = false := decide_eq_false h2
          clear hv
          go_wp2_with (refine wpList_load_mid rfl 36 (.tmp 17) rfl b (off + k * 5) rfl _ _ hx Try.underlying36 rfl size_row ?_)
          go_roundw
          case rel => exact ⟨k + 1, by go_num, by omega, HV.out, hbel.alloc hsz _⟩
          case measure => simp [intOf]; omega
      · rw [List.drop_eq_nil_of_le (by omega)] at hv
        have HV := Lib.hid hv
        clear hv
        go_wp2
        go_ret
        exact ⟨ret_bool HV.out, hbel⟩

theorem big_any (A : Option Addr) (c : Nat) (l : List Cw) (w : World) (hr : Rr w w.heap.size A l) (hc : l.length ≤ c) (hm : l.length ≤ 1000000) :
    Calls Try.prog 58 #[.slice A l.length c] w fun e w' => e = .returned (.bool (exceeds (ros l) 4096 60)) ∧ w = w' := by
  go_enter Try.func58, Try.ntmps58
  go_wp2
  go_loop [3] (fun i => ∃ k : Nat, i = .int .i64 k ∧ k ≤ l.length ∧ (decide (4096 < l.length) || (ros (l.drop k)).any fun x => decide (60 ≤ x.depth)) = exceeds (ros l) 4096 60) (fun i => l.length - (intOf i).toNat)
  case atStart => exact ⟨0, rfl, by omega, by rw [List.drop_zero, exceeds, len_ros]; congr 2; simp; omega⟩
  case round =>
    obtain ⟨k, rfl, hk, hv⟩ := hrel
    by_cases hp : k < l.length
    · obtain ⟨b, off, x, rfl, hb, hd, hx, _, _⟩ := hr.at_ k hp
      rw [hd, ros_cons, List.any_cons] at hv
      clear hd
      have hg := (range5 hx).1
      by_cases h2 : 60 ≤ x.ro.depth
      · rw [decide_eq_true h2, Bool.true_or, Bool.or_true] at hv
        have HV := Lib.hid hv
        clear hv hx
        go_wp2
        go_ret
        exact ⟨ret_bool HV.out, rfl⟩
      · rw [decide_eq_false h2, Bool.false_or] at hv
        have HV := Lib.hid hv
        have h2' : decide (60 ≤ x.ro.depth) = false := decide_eq_false h2
        clear hv hx
        go_wp2
        go_round
        case rel => exact ⟨k + 1, by go_num, by omega, HV.out⟩
        case measure => simp [intOf]; omega
    · rw [List.drop_eq_nil_of_le (by omega)] at hv
      have HV := Lib.hid hv
      clear hv
      go_wp2
      go_ret
      exact ⟨ret_bool (by rw [← HV.out]; simp [ros]; omega), rfl⟩

end Go.Proofs.Ytgjlfcamgkeibaa.Ro

namespace Go.Proofs.Ytgjlfcamgkeibaa.Ro
set_option maxRecDepth 100000
set_option linter.unusedVariables false
set_option linter.unusedSimpArgs false
open Go.RowKit Ba
theorem Rr.drewN {w : World} {N : Nat} {A : Option Addr} {l : List Cw} (h : Rr w N A l) (k : Nat) : Rr (w.drewN k) N A l := h

theorem take_step {l : List Cw} {e : Nat} {x : Cw} {p : Ro → Bool} (hd : l.drop e = x :: l.drop (e + 1)) (h : p x.ro = true) : ((ros (l.drop e)).takeWhile p).length = ((ros (l.drop (e + 1))).takeWhile p).length + 1 := by
  rw [hd, ros_cons, List.takeWhile_cons, if_pos h, List.length_cons]
theorem take_stop {l : List Cw} {e : Nat} {x : Cw} {p : Ro → Bool} (hd : l.drop e = x :: l.drop (e + 1)) (h : p x.ro = false) : ((ros (l.drop e)).takeWhile p).length = 0 := by
  rw [hd, ros_cons, List.takeWhile_cons, if_neg (by rw [h]; decide)]
  rfl
theorem endOf_ge (l : List Ro) (i : Int) : (i + 1).toNat ≤ endOf l i := Nat.le_add_right _ _
theorem endOf_le (l : List Ro) (i : Int) (h : i < l.length) : endOf l i ≤ l.length := by
  unfold endOf below
  have := List.Sublist.length_le (List.takeWhile_sublist (fun x => decide (dep l i < x.depth)) (l := l.drop (i + 1).toNat))
  rw [List.length_drop] at this
  omega

set_option maxRecDepth 100000 in
theorem endOf_any (A : Option Addr) (c : Nat) (l : List Cw) (i : Int) (w : World) (hr : Rr w w.heap.size A l) (hc : l.length ≤ c) (hm : l.length ≤ 1000000) (h1 : -1 ≤ i) (h2 : i < l.length) :
    Calls Try.prog 97 #[.slice A l.length c, .int .i64 i] w fun e w' => e = .returned (.int .i64 (endOf (ros l) i)) ∧ w = w' := by
  obtain ⟨d, hd⟩ : ∃ d, dep (ros l) i = d := ⟨_, rfl⟩
  obtain ⟨E, hE⟩ : ∃ E, endOf (ros l) i = E := ⟨_, rfl⟩
  have hs : (i + 1).toNat + ((ros (l.drop (i + 1).toNat)).takeWhile fun x => decide (d < x.depth)).length = E := by rw [← hE, ← hd, ← ros_drop]; rfl
  obtain ⟨k0, hk0⟩ : ∃ k0 : Nat, (i + 1).toNat = k0 := ⟨_, rfl⟩
  have hk1 : i + 1 = (k0 : Int) := by omega
  have hk2 : k0 ≤ l.length := by omega
  rw [hk0] at hs
  rw [hE]
  have HD := Lib.hid hd; have HS := Lib.hid hs; have HK := Lib.hid hk1
  clear hd hs hE hk0 hk1
  go_enter Try.func97, Try.ntmps97
  go_wp2_with fail
  refine (depthOf_any A c l i w hr hc hm h1 h2).mono ?_
  rintro e w1 ⟨rfl, rfl⟩
  rw [HD.out]
  clear HD
  go_wp2
  rw [HK.out]
  clear HK
  go_loop [6] (fun v => ∃ k : Nat, v = .int .i64 k ∧ k ≤ l.length ∧ k + ((ros (l.drop k)).takeWhile fun x => decide (d < x.depth)).length = E) (fun v => l.length - (intOf v).toNat)
  case atStart => exact ⟨k0, rfl, hk2, HS.out⟩
  case round =>
    clear HS hk2
    obtain ⟨k, rfl, hk, hv⟩ := hrel
    by_cases hp : k < l.length
    · obtain ⟨b, off, x, rfl, hb, hd, hx, _, _⟩ := hr.at_ k hp
      have hg := (range5 hx).1
      clear hx
      by_cases h3 : d < x.ro.depth
      · rw [take_step hd (decide_eq_true h3)] at hv
        have HV := Lib.hid hv
        clear hv hd
        go_wp2
        go_round
        case rel => exact ⟨k + 1, by go_num, by omega, by have := HV.out; omega⟩
        case measure => simp [intOf]; omega
      · rw [take_stop hd (decide_eq_false h3)] at hv
        have HV := Lib.hid hv
        have h3' : decide (d < x.ro.depth) = false := decide_eq_false h3
        clear hv hd
        go_wp2
        go_ret
        exact ⟨ret_int (by rw [← HV.out]; rfl), rfl⟩
    · rw [List.drop_eq_nil_of_le (by omega)] at hv
      have HV := Lib.hid hv
      clear hv
      go_wp2
      go_ret
      exact ⟨ret_int (by rw [← HV.out]; rfl), rfl⟩

theorem hasRow_yes {l : List Cw} {i : Int} (h0 : 0 ≤ i) (h1 : i < l.length) : hasRow (ros l) i = true := decide_eq_true ⟨h0, by rw [len_ros]; exact h1⟩
theorem hasRow_no {l : List Cw} {i : Int} (h : ¬ (0 ≤ i ∧ i < l.length)) : hasRow (ros l) i = false := decide_eq_false fun e => h (by rw [len_ros] at e; exact e)
theorem endAt_yes {l : List Cw} {i : Int} (h0 : 0 ≤ i) (h1 : i < l.length) : endAt (ros l) i = endOf (ros l) i := by rw [endAt, hasRow_yes h0 h1]; rfl
theorem endAt_no {l : List Cw} {i : Int} (h : ¬ (0 ≤ i ∧ i < l.length)) : endAt (ros l) i = 0 := by rw [endAt, hasRow_no h]; rfl

theorem hasYes_any (A : Option Addr) (n c : Nat) (i : Int) (w : World) (h : n ≤ c) (h0 : 0 ≤ i) (h1 : i < n) : Calls Try.prog 96 #[.slice A n c, .int .i64 i] w fun e w' => e = .returned (.bool true) ∧ w = w' := by
  have := has_any A n c i w h
  rwa [decide_eq_true (⟨h0, h1⟩ : 0 ≤ i ∧ i < n)] at this
theorem hasNo_any (A : Option Addr) (n c : Nat) (i : Int) (w : World) (h : n ≤ c) (h0 : ¬ (0 ≤ i ∧ i < n)) : Calls Try.prog 96 #[.slice A n c, .int .i64 i] w fun e w' => e = .returned (.bool false) ∧ w = w' := by
  have := has_any A n c i w h
  rwa [decide_eq_false h0] at this

theorem End_any (A : Option Addr) (c : Nat) (l : List Cw) (i : Int) (w : World) (hr : Rr w w.heap.size A l) (hc : l.length ≤ c) (hm : l.length ≤ 1000000) :
    Calls Try.prog 69 #[.slice A l.length c, .int .i64 i] w fun e w' => e = .returned (.int .i64 (endAt (ros l) i)) ∧ w = w' := by
  by_cases h : 0 ≤ i ∧ i < l.length
  · rw [endAt_yes h.1 h.2]
    go_enter Try.func69, Try.ntmps69
    go_wp2_with fail
    refine (hasYes_any A _ c i w hc h.1 h.2).mono ?_
    rintro e w1 ⟨rfl, rfl⟩
    go_wp2_with fail
    refine (endOf_any A c l i w hr hc hm (by omega) h.2).mono ?_
    rintro e w1 ⟨rfl, rfl⟩
    go_wp2
    go_ret
    exact ⟨rfl, rfl⟩
  · rw [endAt_no h]
    go_enter Try.func69, Try.ntmps69
    go_wp2_with fail
    refine (hasNo_any A _ c i w hc h).mono ?_
    rintro e w1 ⟨rfl, rfl⟩
    go_wp2
    go_ret
    exact ⟨rfl, rfl⟩

set_option maxRecDepth 100000 in
theorem refEnd_any (A : Option Addr) (c : Nat) (l : List Cw) (i : Int) (w : World) (hr : Rr w w.heap.size A l) (hc : l.length ≤ c) (hm : l.length ≤ 1000000) :
    Calls Try.prog 94 #[.slice A l.length c, .int .i64 i] w fun e w' => e = .returned (.int .i64 (endAt (ros l) i)) ∧ ∃ n, w' = w.drewN n := by
  by_cases h : 0 ≤ i ∧ i < l.length
  · rw [endAt_yes h.1 h.2]
    obtain ⟨h1, h2⟩ := h
    obtain ⟨j, rfl⟩ := Int.eq_ofNat_of_zero_le h1
    obtain ⟨d, hd⟩ : ∃ d, dep (ros l) j = d := ⟨_, rfl⟩
    obtain ⟨E, hE⟩ : ∃ E, endOf (ros l) j = E := ⟨_, rfl⟩
    have hs : j + 1 + ((ros (l.drop (j + 1))).takeWhile fun x => decide (d < x.depth)).length = E := by
      rw [← hE, ← hd, ← ros_drop]
      have e : ((j : Int) + 1).toNat = j + 1 := by omega
      simp only [endOf, below, e]
    rw [hE]
    have hj : j < l.length := by omega
    obtain ⟨b, off, y, rfl, hb, hdy, hy, _, _⟩ := hr.at_ j hj
    have e : dep (ros l) j = y.ro.depth := dep_at (by rw [ros, List.getElem?_map, getElem_of_drop hdy]; rfl)
    have hgy := (range5 hy).1
    rw [← e, hd] at hgy
    have HS := Lib.hid hs
    clear hd hs hE hy hdy e
    have hj' : decide (l.length ≤ j) = false := decide_eq_false (by omega)
    go_enter Try.func94, Try.ntmps94
    go_wp2
    go_loopw [5] (fun v wr => ∃ k : Nat, v = .int .i64 k ∧ k ≤ l.length ∧ k + ((ros (l.drop k)).takeWhile fun x => decide (d < x.depth)).length = E ∧ ∃ n, wr = w.drewN n) (fun v _ => l.length - (intOf v).toNat)
    case atStart => exact ⟨j + 1, by go_num, by omega, HS.out, 0, rfl⟩
    case round =>
      clear HS
      obtain ⟨k, rfl, hk, hv, n, rfl⟩ := hrel
      by_cases hp : k < l.length
      · obtain ⟨b', off', x, e, hb, hd, hx, _, _⟩ := hr.at_ k hp
        injection e with e
        injection e with e1 e2
        subst e1 e2
        have hg := (range5 hx).1
        clear hx
        by_cases h3 : d < x.ro.depth
        · rw [take_step hd (decide_eq_true h3)] at hv
          have HV := Lib.hid hv
          clear hv hd
          go_wp2
          go_quiet (fail)
          go_wp2
          go_roundw
          case rel => exact ⟨k + 1, by go_num, by omega, by have := HV.out; omega, _, rfl⟩
          case measure => simp [intOf]; omega
        · rw [take_stop hd (decide_eq_false h3)] at hv
          have HV := Lib.hid hv
          clear hv hd
          go_wp2
          go_quiet (fail)
          go_wp2
          go_ret
          exact ⟨ret_int (by rw [← HV.out]; rfl), _, World.drewN_drewN _ _ _⟩
      · rw [List.drop_eq_nil_of_le (by omega)] at hv
        have HV := Lib.hid hv
        clear hv
        go_wp2
        go_ret
        exact ⟨ret_int (by rw [← HV.out]; simp [ros]; omega), _, rfl⟩
  · rw [endAt_no h]
    by_cases h1 : i < 0
    · go_enter Try.func94, Try.ntmps94
      go_wp2
      go_ret
      exact ⟨rfl, 0, rfl⟩
    · have h1' : decide (i < 0) = false := decide_eq_false h1
      have h2 : (l.length : Int) ≤ i := by omega
      clear h
      go_enter Try.func94, Try.ntmps94
      go_wp2
      go_ret
      exact ⟨rfl, 0, rfl⟩

/-- Depths that do not wrap. -/
def Deep (l : List Ro) : Prop := ∀ x ∈ l, 0 ≤ x.depth ∧ x.depth ≤ 1000000
theorem Deep.at_ {l : List Cw} (h : Deep (ros l)) {x : Cw} (hx : x ∈ l) : 0 ≤ x.ro.depth ∧ x.ro.depth ≤ 1000000 := h _ (List.mem_map.2 ⟨x, hx, rfl⟩)
end Go.Proofs.Ytgjlfcamgkeibaa.Ro

namespace Go.Proofs.Ytgjlfcamgkeibaa.Ro
set_option linter.unusedVariables false
set_option linter.unusedSimpArgs false
open Go.RowKit Ba Go.Shelf
attribute [local go_sem] Oper.semAt_some

/-- The places, from k on, of those that stand just at depth d. -/
def kidsFrom (d : Int) : Nat → List Ro → List Nat
  | _, [] => []
  | k, x :: r => if x.depth = d then k :: kidsFrom d (k + 1) r else kidsFrom d (k + 1) r
def kids (l : List Ro) (i : Int) : List Nat := kidsFrom (dep l i + 1) (i + 1).toNat (below l i)

/-- What a round leaves as it was: what lay below n₀, and the two boxes of the iterator. -/
def Kp (n₀ B1 B2 : Nat) (W W' : World) : Prop := Below n₀ W W' ∧ W'.heap[B1]? = W.heap[B1]? ∧ W'.heap[B2]? = W.heap[B2]?
theorem Kp.t {n₀ B1 B2 : Nat} {A B C : World} (h : Kp n₀ B1 B2 A B) (k : Kp n₀ B1 B2 B C) : Kp n₀ B1 B2 A C := ⟨h.1.trans k.1, k.2.1.trans h.2.1, k.2.2.trans h.2.2⟩
theorem Kp.b {n₀ B1 B2 : Nat} {w : World} (hn : n₀ ≤ w.heap.size) (h1 : B1 < w.heap.size) (h2 : B2 < w.heap.size) (W : World) (l : Nat) (o o' : Obj) (hl : w.heap.size ≤ l) (h : W.heap[l]? = some o) (hc : o.isCells = false) (hw : o.isWalk = false) : Kp n₀ B1 B2 W (W.putObj l o') :=
  ⟨belowK_b hn W l o o' hl h hc hw, World.putObj_heap_other (by omega), World.putObj_heap_other (by omega)⟩

theorem takeWhile_take {α : Type} (p : α → Bool) : ∀ l : List α, l.takeWhile p = l.take (l.takeWhile p).length
  | [] => rfl
  | x :: r => by
    rw [List.takeWhile_cons]
    cases p x with
    | true => rw [if_pos rfl, List.length_cons, List.take_succ_cons, ← takeWhile_take p r]
    | false => rw [if_neg (by decide)]; rfl
theorem below_part (l : List Ro) (i : Int) : below l i = (l.take (endOf l i)).drop (i + 1).toNat := by
  rw [List.drop_take]
  unfold endOf
  rw [Nat.add_sub_cancel_left]
  exact takeWhile_take _ _
theorem part_step {l : List Cw} {E k : Nat} {x : Cw} (hk : k < E) (h : l.drop k = x :: l.drop (k + 1)) : (l.take E).drop k = x :: (l.take E).drop (k + 1) := by
  rw [List.drop_take, h, List.drop_take, show E - k = (E - (k + 1)) + 1 from by omega, List.take_succ_cons]
theorem kids_hit {d : Int} {k : Nat} {x : Ro} {r : List Ro} (h : x.depth = d) : kidsFrom d k (x :: r) = k :: kidsFrom d (k + 1) r := if_pos h
theorem kids_miss {d : Int} {k : Nat} {x : Ro} {r : List Ro} (h : ¬ x.depth = d) : kidsFrom d k (x :: r) = kidsFrom d (k + 1) r := if_neg h
end Go.Proofs.Ytgjlfcamgkeibaa.Ro

namespace Go.Proofs.Ytgjlfcamgkeibaa.Ro
set_option maxRecDepth 100000
set_option linter.unusedVariables false
set_option linter.unusedSimpArgs false
open Go.RowKit Ba Go.Shelf
attribute [local go_sem] Oper.semAt_some

theorem infoI : (Try.prog.info? 3).map (fun i => (i.zero, i.size, i.bytes)) = some (some (.int .i64 0), 1, 8) := by kernel_rfl
/-- A number as a value. -/
def nv (k : Nat) : Value := .int .i64 k
end Go.Proofs.Ytgjlfcamgkeibaa.Ro

namespace Go.Proofs.Ytgjlfcamgkeibaa.Ro
set_option linter.unusedVariables false
set_option linter.unusedSimpArgs false
open Go.RowKit Ba Go.Maps
def key (a : At) : Lit := .string a.name.data.toList
theorem key_is (a : At) : WideAt.IsKeyLit (key a) := trivial
theorem key_same (a b : At) : (key a).sameKey (key b) = decide (b.name = a.name) := by
  rw [Bool.eq_iff_iff, WideAt.sameKey_iff (key_is b), decide_eq_true_iff]
  constructor
  · intro h
    injection h with h
    exact (WideShapes.bytes_inj h).symm
  · intro h
    rw [key, key, h]

def fresh (acc : List Lit) : List At → Bool
  | [] => true
  | a :: r => !(acc.any fun y => y.sameKey (key a)) && fresh (acc ++ [key a]) r
theorem fold_len : ∀ (l : List At) (acc : List Lit), ((l.map key).foldl addKey acc).length ≤ acc.length + l.length ∧ (((l.map key).foldl addKey acc).length < acc.length + l.length ↔ fresh acc l = false)
  | [], acc => by simp [fresh]
  | a :: r, acc => by
    rw [List.map_cons, List.foldl_cons, addKey, fresh, List.length_cons]
    cases h : acc.any fun y => y.sameKey (key a) with
    | true =>
      rw [if_pos rfl]
      have := (fold_len r acc).1
      exact ⟨by omega, by simp; omega⟩
    | false =>
      rw [if_neg (by decide)]
      obtain ⟨h1, h2⟩ := fold_len r (acc ++ [key a])
      rw [List.length_append, List.length_cons, List.length_nil] at h1 h2
      exact ⟨by omega, by rw [Bool.not_false, Bool.true_and, ← h2]; omega⟩
theorem fresh_eq : ∀ (l : List At) (acc : List Lit), fresh acc l = (!twice l && l.all fun b => !acc.any fun y => y.sameKey (key b))
  | [], acc => rfl
  | a :: r, acc => by
    rw [fresh, fresh_eq r, twice, List.all_cons]
    have e : (r.all fun b => !(acc ++ [key a]).any fun y => y.sameKey (key b)) = ((r.all fun b => !acc.any fun y => y.sameKey (key b)) && !(r.any fun b => decide (b.name = a.name))) := by
      induction r with
      | nil => rfl
      | cons b r ih =>
        rw [List.all_cons, List.all_cons, List.any_cons, ih, List.any_append]
        simp only [List.any_cons, List.any_nil, Bool.or_false, key_same]
        cases acc.any (fun y => y.sameKey (key b)) <;> cases decide (b.name = a.name) <;> simp
    rw [e]
    cases acc.any (fun y => y.sameKey (key a)) <;> cases twice r <;> cases (r.any fun b => decide (b.name = a.name)) <;> simp
def names {H : Type} (l : List At) : DataW H := setOf (.agg []) (l.map key)
theorem names_snoc {H : Type} (l : List At) (a : At) : names (H := H) (l ++ [a]) = (names l).put (key a) (.agg []) := by rw [names, List.map_append, List.map_cons, List.map_nil, setOf_snoc]; rfl
theorem names_less {H : Type} (l : List At) : decide (Maps.size (names (H := H) l) < l.length) = twice l := by
  rw [names, size_setOf _ _ (by intro x hx; obtain ⟨a, _, rfl⟩ := List.mem_map.1 hx; exact key_is a)]
  have := (fold_len l []).2
  rw [fresh_eq, List.length_nil, Nat.zero_add] at this
  have e : (l.all fun b => !([] : List Lit).any fun y => y.sameKey (key b)) = true := by simp
  rw [e, Bool.and_true] at this
  rw [Bool.eq_iff_iff, decide_eq_true_iff, this]
  simp

end Go.Proofs.Ytgjlfcamgkeibaa.Ro

namespace Go.Proofs.Ytgjlfcamgkeibaa.Ro
set_option maxRecDepth 100000
set_option linter.unusedVariables false
set_option linter.unusedSimpArgs false
open Go.RowKit Ba Go.Maps Go.WideMaps
theorem lawK : Keyed Try.prog 9 := string_keyed Try.underlying9

theorem run_makeMap_hint {P : Program} {t k e : TypeId} (ht : P.underlying t = some (.map k e)) (q : IntKind) (n : Int) (w : World) : (Instr.makeMap t (some (.int q n))).run P w = .ok (.map (some w.heap.size)) (w.alloc (.map #[] 0)) := by
  simp [Instr.makeMap, run_underlying ht, asInt, asIntOf]

set_option maxRecDepth 100000 in
theorem repeated_any (A : Option Addr) (c : Nat) (l : List At) (w : World) (hr : Ra w w.heap.size A l) (hc : l.length ≤ c) (hs : Sh l) (hm : c ≤ maxLen) :
    Calls Try.prog 113 #[.slice A l.length c] w fun e w' => e = .returned (.bool (twice l)) ∧ Below w.heap.size w w' := by
  unfold maxLen at hm
  by_cases h2 : l.length < 2
  · have e : twice l = false := by
      match l, h2 with
      | [], _ => rfl
      | [a], _ => rfl
    rw [e]
    clear e
    have h2' : (l.length : Int) < 2 := by omega
    go_enter Try.func113, Try.ntmps113
    go_wp2
    go_ret
    exact ⟨rfl, Below.refl _ _⟩
  · have h2' : decide ((l.length : Int) < 2) = false := decide_eq_false (by omega)
    have hmm := fun q n w => run_makeMap_hint Try.underlying112 q n w
    have HL := Lib.hid (names_less (H := Unit) l)
    go_enter Try.func113, Try.ntmps113
    go_wp2
    go_loopw [14] (fun i wr => ∃ k : Nat, i = .int .i64 k ∧ k ≤ l.length ∧ wr.ownsMap Try.prog 9 (unitElem (H := Unit)) w.heap.size k (names (l.take k)) ∧ Below w.heap.size w wr) (fun i _ => l.length - (intOf i).toNat)
    case atStart => exact ⟨0, rfl, by omega, World.ownsMap_made _ _ _ _, (Below.refl _ _).alloc (Nat.le_refl _) _⟩
    case round =>
      clear hmm
      obtain ⟨k, rfl, hk, hown, hbel⟩ := hrel
      have hsz := hbel.size
      by_cases hp : k < l.length
      · obtain ⟨b, off, x, rfl, hb, hd, hx, hxm⟩ := (hr.below hbel).at_ k hp
        have hkey : keyOf Try.prog 9 (.string x.name) = some (key x) := keyOf_string_mk Try.underlying9 (hs x hxm)
        have htk : l.take (k + 1) = l.take k ++ [x] := by
          rw [List.take_add_one, getElem_of_drop hd]
          rfl
        have HT := Lib.hid htk
        clear hd htk
        go_wp2_with (first | (refine wpList_load_mid rfl 40 (.tmp 16) rfl b (off + k * 2) rfl _ _ hx Try.underlying40 rfl size_attr ?_) | (at_mapUpdate; refine wpList_mapUpdate_own _ rfl _ _ _ 112 rfl 9 98 lawK Try.underlying112 (unitElem (H := Unit)) w.heap.size k _ rfl (hown.alloc _) (by unfold maxLen; omega) _ _ _ rfl rfl hkey _ [] unitElem_mk ?_; intro w1 hown1 hgrow1))
        go_roundw
        case rel => exact ⟨k + 1, by go_num, by omega, by rw [HT.out, names_snoc]; exact hown1, (hbel.alloc hsz _).grown hgrow1 (by simp; omega) (fun j hj => by cases hj; exact Nat.le_refl _)⟩
        case measure => simp [intOf]; omega
      · rw [List.take_of_length_le (by omega)] at hown
        go_wp2_with (at_len; refine wpList_len_own _ rfl _ 112 rfl 9 98 Try.underlying112 (unitElem (H := Unit)) w.heap.size k (names l) rfl hown ?_)
        go_ret
        exact ⟨ret_bool (by rw [← HL.out]), hbel⟩

end Go.Proofs.Ytgjlfcamgkeibaa.Ro

namespace Go.Proofs.Ytgjlfcamgkeibaa.Ro
set_option maxRecDepth 100000
set_option linter.unusedVariables false
set_option linter.unusedSimpArgs false
open Go.RowKit Ba
set_option maxRecDepth 100000 in
theorem validRow_any (x : Cw) (w : World) (hx : Att w w.heap.size x) :
    Calls Try.prog 95 #[rowV x] w fun e w' => e = .returned (.bool (okRow x.ro)) ∧ Below w.heap.size w w' := by
  have hN := fun o => below_new w o
  have HN := Lib.hid hN
  clear hN
  go_enter Try.func95, Try.ntmps95
  go_wp2_with (go_at_call 113; refine (repeated_any x.A x.c x.ro.attrs _ ((hx.2.2.2.1.below (HN.out _)).more (by simp)) hx.1 hx.2.2.2.2 hx.2.2.1).mono ?_; rintro e w1 ⟨rfl, hb1⟩)
  all_goals (go_ret; refine ⟨ret_bool ?_, ?_⟩)
  all_goals first | exact HN.out _ | exact bt (HN.out _) hb1 | simp [okRow, *]

theorem right_cons (m : Int) (x : Ro) (r : List Ro) : rightFrom m (x :: r) = (decide (0 ≤ x.depth) && decide (x.depth ≤ m) && okRow x && rightFrom (if x.kind = 0 then x.depth + 1 else x.depth) r) := rfl

set_option maxRecDepth 100000 in
set_option maxHeartbeats 1000000 in
theorem valid_any (A : Option Addr) (c : Nat) (l : List Cw) (w : World) (hr : Rr w w.heap.size A l) (hc : l.length ≤ c) (hm : l.length ≤ 1000000) :
    Calls Try.prog 64 #[.slice A l.length c] w fun e w' => e = .returned (.bool (right (ros l))) ∧ Below w.heap.size w w' := by
  obtain ⟨V, hV⟩ : ∃ V, right (ros l) = V := ⟨_, rfl⟩
  rw [hV]
  have HV := Lib.hid hV
  clear hV
  go_enter Try.func64, Try.ntmps64
  go_wp2
  go_loopw [3, 8] (fun d i wr => ∃ (k : Nat) (m : Int), i = .int .i64 k ∧ d = .int .i64 m ∧ k ≤ l.length ∧ 0 ≤ m ∧ m ≤ k ∧ rightFrom m (ros (l.drop k)) = V ∧ Below w.heap.size w wr) (fun _ i _ => l.length - (intOf i).toNat)
  case atStart => exact ⟨0, 0, rfl, rfl, by omega, by omega, by omega, HV.out, Below.refl _ _⟩
  case round =>
    clear HV
    obtain ⟨k, m, rfl, rfl, hk, hm0, hm1, hv, hbel⟩ := hrel
    have hsz := hbel.size
    by_cases hp : k < l.length
    · obtain ⟨b, off, x, rfl, hb, hd, hx, hxa, _⟩ := (hr.below hbel).at_ k hp
      rw [hd, ros_cons, right_cons] at hv
      have HA := Lib.hid (hxa.boxed hbel (rowO x)); have HB := Lib.hid (hbel.alloc hsz (rowO x))
      clear hd
      by_cases h1 : 0 ≤ x.ro.depth
      · have h1' : decide (x.ro.depth < 0) = false := decide_eq_false (by omega)
        by_cases h2 : x.ro.depth ≤ m
        · have h2' : decide (m < x.ro.depth) = false := decide_eq_false (by omega)
          rw [decide_eq_true h1, decide_eq_true h2, Bool.true_and, Bool.true_and] at hv
          cases h3 : okRow x.ro with
          | false =>
            rw [h3, Bool.false_and] at hv
            subst hv
            have H3 := Lib.hid h3
            clear h3
            go_wp2_with (first | (refine wpList_load_mid rfl 36 (.tmp 10) rfl b (off + k * 5) rfl _ _ hx Try.underlying36 rfl size_row ?_) | (go_at_call 95; refine (validRow_any x _ HA.out).mono ?_; rintro e w3 ⟨rfl, hb3⟩; rw [H3.out]; have g0 := box_kept hb3 0; have g1 := box_kept hb3 1; simp only [cells, List.getElem?_cons_zero, List.getElem?_cons_succ] at g0 g1))
            go_ret
            exact ⟨rfl, HB.out.trans (hb3.mono HB.out.size)⟩
          | true =>
            rw [h3, Bool.true_and] at hv
            have H3 := Lib.hid h3
            clear h3
            cases h4 : x.ro.kind == 0 with
            | true =>
              rw [if_pos (beq_iff_eq.1 h4)] at hv
              have HV := Lib.hid hv
              clear hv
              go_wp2_with (first | (refine wpList_load_mid rfl 36 (.tmp 10) rfl b (off + k * 5) rfl _ _ hx Try.underlying36 rfl size_row ?_) | (go_at_call 95; refine (validRow_any x _ HA.out).mono ?_; rintro e w3 ⟨rfl, hb3⟩; rw [H3.out]; have g0 := box_kept hb3 0; have g1 := box_kept hb3 1; simp only [cells, List.getElem?_cons_zero, List.getElem?_cons_succ] at g0 g1))
              go_roundw
              case rel => exact ⟨k + 1, x.ro.depth + 1, by go_num, rfl, by omega, by omega, by omega, HV.out, HB.out.trans (hb3.mono HB.out.size)⟩
              case measure => simp [intOf]; omega
            | false =>
              rw [if_neg (beq_eq_false_iff_ne.1 h4)] at hv
              have HV := Lib.hid hv
              clear hv
              go_wp2_with (first | (refine wpList_load_mid rfl 36 (.tmp 10) rfl b (off + k * 5) rfl _ _ hx Try.underlying36 rfl size_row ?_) | (go_at_call 95; refine (validRow_any x _ HA.out).mono ?_; rintro e w3 ⟨rfl, hb3⟩; rw [H3.out]; have g0 := box_kept hb3 0; have g1 := box_kept hb3 1; simp only [cells, List.getElem?_cons_zero, List.getElem?_cons_succ] at g0 g1))
              go_roundw
              case rel => exact ⟨k + 1, x.ro.depth, by go_num, rfl, by omega, by omega, by omega, HV.out, HB.out.trans (hb3.mono HB.out.size)⟩
              case measure => simp [intOf]; omega
        · rw [decide_eq_false h2, Bool.and_false, Bool.false_and, Bool.false_and] at hv
          subst hv
          have h2' : m < x.ro.depth := by omega
          go_wp2_with (refine wpList_load_mid rfl 36 (.tmp 10) rfl b (off + k * 5) rfl _ _ hx Try.underlying36 rfl size_row ?_)
          go_ret
          exact ⟨rfl, HB.out⟩
      · rw [decide_eq_false h1, Bool.false_and, Bool.false_and, Bool.false_and] at hv
        subst hv
        have h1' : x.ro.depth < 0 := by omega
        go_wp2_with (refine wpList_load_mid rfl 36 (.tmp 10) rfl b (off + k * 5) rfl _ _ hx Try.underlying36 rfl size_row ?_)
        go_ret
        exact ⟨rfl, HB.out⟩
    · rw [List.drop_eq_nil_of_le (by omega)] at hv
      have HV := Lib.hid hv
      clear hv
      go_wp2
      go_ret
      exact ⟨ret_bool HV.out, hbel⟩

/-- Are rows trees, within the limits? -/
def check (l : List Ro) : Int := if exceeds l 4096 60 then 2 else if right l then 0 else 40
theorem Check_any (A : Option Addr) (c : Nat) (l : List Cw) (w : World) (hr : Rr w w.heap.size A l) (hc : l.length ≤ c) (hm : l.length ≤ 1000000) :
    Calls Try.prog 27 #[.slice A l.length c] w fun e w' => e = .returned (.int .i64 (check (ros l))) ∧ Below w.heap.size w w' := by
  cases h1 : exceeds (ros l) 4096 60 with
  | true =>
    rw [check, h1, if_pos rfl]
    have H1 := Lib.hid h1
    clear h1
    go_enter Try.func27, Try.ntmps27
    go_wp2_with fail
    refine (exceeds_any A c l 4096 60 w hr hc hm).mono ?_
    rintro e w1 ⟨rfl, hb1⟩
    rw [H1.out]
    go_wp2
    go_ret
    exact ⟨rfl, hb1⟩
  | false =>
    cases h2 : right (ros l) with
    | true =>
      rw [check, h1, h2, if_neg (by decide), if_pos rfl]
      have H1 := Lib.hid h1; have H2 := Lib.hid h2
      clear h1 h2
      go_enter Try.func27, Try.ntmps27
      go_wp2_with fail
      refine (exceeds_any A c l 4096 60 w hr hc hm).mono ?_
      rintro e w1 ⟨rfl, hb1⟩
      rw [H1.out]
      go_wp2_with fail
      refine (valid_any A c l w1 ((hr.below hb1).more hb1.size) hc hm).mono ?_
      rintro e w2 ⟨rfl, hb2⟩
      rw [H2.out]
      go_wp2
      go_ret
      exact ⟨rfl, bt hb1 hb2⟩
    | false =>
      rw [check, h1, h2, if_neg (by decide), if_neg (by decide)]
      have H1 := Lib.hid h1; have H2 := Lib.hid h2
      clear h1 h2
      go_enter Try.func27, Try.ntmps27
      go_wp2_with fail
      refine (exceeds_any A c l 4096 60 w hr hc hm).mono ?_
      rintro e w1 ⟨rfl, hb1⟩
      rw [H1.out]
      go_wp2_with fail
      refine (valid_any A c l w1 ((hr.below hb1).more hb1.size) hc hm).mono ?_
      rintro e w2 ⟨rfl, hb2⟩
      rw [H2.out]
      go_wp2
      go_ret
      exact ⟨rfl, bt hb1 hb2⟩

end Go.Proofs.Ytgjlfcamgkeibaa.Ro

namespace Go.Proofs.Ytgjlfcamgkeibaa.Ro
set_option maxRecDepth 100000
set_option linter.unusedVariables false
set_option linter.unusedSimpArgs false
open Go.RowKit Ba
theorem twice_snoc (a : List At) (x : At) : twice (a ++ [x]) = (twice a || a.any fun b => decide (b.name = x.name)) := by
  induction a with
  | nil => rfl
  | cons y r ih =>
    rw [List.cons_append, twice, ih, List.any_append, twice, List.any_cons]
    simp only [List.any_cons, List.any_nil, Bool.or_false]
    have e : decide (x.name = y.name) = decide (y.name = x.name) := by
      rw [Bool.eq_iff_iff, decide_eq_true_iff, decide_eq_true_iff]
      exact ⟨fun h => h.symm, fun h => h.symm⟩
    rw [e]
    cases r.any (fun b => decide (b.name = y.name)) <;> cases decide (y.name = x.name) <;> cases twice r <;> simp
theorem twice_append {a b : List At} (h : twice a = true) : twice (a ++ b) = true := by
  induction a with
  | nil => cases h
  | cons y r ih =>
    rw [twice, Bool.or_eq_true] at h
    rw [List.cons_append, twice, List.any_append]
    rcases h with h | h
    · rw [h]; rfl
    · rw [ih h, Bool.or_true]
theorem twice_take {l : List At} {n : Nat} (h : twice (l.take n) = true) : twice l = true := by
  rw [← List.take_append_drop n l]
  exact twice_append h
theorem take_at {α : Type} {l : List α} {k : Nat} {x : α} {r : List α} (h : l.drop k = x :: r) : l.take (k + 1) = l.take k ++ [x] := by
  rw [List.take_add_one, getElem_of_drop h]
  rfl
theorem any_snoc {α : Type} (l : List α) (x : α) (p : α → Bool) : (l ++ [x]).any p = (l.any p || p x) := by simp

theorem any_take_of {α : Type} {l : List α} {p : α → Bool} {j k : Nat} (h : j ≤ k) (ha : (l.take j).any p = true) : (l.take k).any p = true := by
  obtain ⟨x, hx, hp⟩ := List.any_eq_true.1 ha
  refine List.any_eq_true.2 ⟨x, ?_, hp⟩
  have e : l.take j = (l.take k).take j := by rw [List.take_take, Nat.min_eq_left h]
  rw [e] at hx
  exact List.mem_of_mem_take hx
theorem below_dN {B : Nat} {w w' : World} (h : Below B w w') (n : Nat) : Below B w (w'.drewN n) := ⟨h.1, h.2, h.3, h.4, h.5⟩

set_option maxRecDepth 100000 in
set_option maxHeartbeats 1000000 in
theorem refRow_any (x : Cw) (w : World) (hx : Att w w.heap.size x) :
    Calls Try.prog 93 #[rowV x] w fun e w' => e = .returned (.bool (okRow x.ro)) ∧ Below w.heap.size w w' := by
  have HN := Lib.hid (below_new w (rowO x))
  have hm := hx.2.2.1
  unfold maxLen at hm
  have hl := hx.1
  cases h0 : x.ro.kind == 1 with
  | true =>
    have hk : (x.ro.kind == 0) = false := by rw [beq_eq_false_iff_ne, beq_iff_eq.1 h0]; decide
    go_enter Try.func93, Try.ntmps93
    go_wp2
    all_goals (go_ret; refine ⟨ret_bool ?_, HN.out⟩)
    all_goals simp [okRow, *]
  | false =>
  cases h1 : x.ro.kind == 2 with
  | true =>
    have hk : (x.ro.kind == 0) = false := by rw [beq_eq_false_iff_ne, beq_iff_eq.1 h1]; decide
    go_enter Try.func93, Try.ntmps93
    go_wp2
    all_goals (go_ret; refine ⟨ret_bool ?_, HN.out⟩)
    all_goals simp [okRow, *]
  | false =>
    have hok : okRow x.ro = (!twice x.ro.attrs && x.ro.kind == 0 && !x.ro.name.toList.isEmpty && x.ro.data.toList.isEmpty) := by
      rw [okRow, h0, h1]
      cases x.ro.kind == 0 <;> cases x.ro.name.toList.isEmpty <;> cases x.ro.data.toList.isEmpty <;> cases twice x.ro.attrs <;> rfl
    rw [hok]
    have hra : ∀ wr, Below (w.alloc (rowO x)).heap.size (w.alloc (rowO x)) wr → Ra wr w.heap.size x.A x.ro.attrs := fun wr hb => (hx.2.2.2.1.below HN.out).below hb (by simp)
    have HR := Lib.hid hra
    clear hra hok
    go_enter Try.func93, Try.ntmps93
    go_wp2
    go_loopw [3] (fun i wr => ∃ k : Nat, i = .int .i64 k ∧ k ≤ x.ro.attrs.length ∧ twice (x.ro.attrs.take k) = false ∧ Below (w.alloc (rowO x)).heap.size (w.alloc (rowO x)) wr) (fun i _ => x.ro.attrs.length - (intOf i).toNat)
    case atStart => exact ⟨0, rfl, by omega, rfl, Below.refl _ _⟩
    case round =>
      obtain ⟨k, rfl, hk, hv, hbel⟩ := hrel
      have g4 := box_kept hbel 4
      simp only [cells, List.getElem?_cons_zero, List.getElem?_cons_succ] at g4
      by_cases hp : k < x.ro.attrs.length
      · obtain ⟨b, off, y, hA, hb, hd, _, _⟩ := (HR.out wr hbel).at_ k hp
        have htk := take_at hd
        have htw : twice (x.ro.attrs.take (k + 1)) = (x.ro.attrs.take k).any fun b => decide (b.name = y.name) := by rw [htk, twice_snoc, hv, Bool.false_or]
        have HTW := Lib.hid htw
        have HD := Lib.hid hd
        have HA := Lib.hid hA
        clear htk htw hd hv hA
        go_wp2
        obtain ⟨w5, hw5⟩ : ∃ w5, wr = w5 := ⟨_, rfl⟩
        subst hw5
        go_loopw [4] (fun i wr => ∃ j : Nat, i = .int .i64 j ∧ j ≤ k ∧ ((x.ro.attrs.take j).any fun b => decide (b.name = y.name)) = false ∧ Below (w.alloc (rowO x)).heap.size (w.alloc (rowO x)) wr) (fun i _ => k - (intOf i).toNat)
        case atStart => exact ⟨0, rfl, by omega, rfl, hbel⟩
        case round =>
          obtain ⟨j, rfl, hj, hv, hbel5⟩ := hrel
          clear g4
          have g4 := box_kept hbel5 4
          simp only [cells, List.getElem?_cons_zero, List.getElem?_cons_succ] at g4
          by_cases hq : j < k
          · obtain ⟨b2, off2, z, hA, hb2, hd2, hz, _⟩ := (HR.out wr hbel5).at_ j (by omega)
            obtain ⟨b3, off3, y2, hA3, hb3, hd3, hy, _⟩ := (HR.out wr hbel5).at_ k hp
            rw [hA] at hA3
            injection hA3 with hA3
            injection hA3 with e1 e2
            subst e1 e2
            have ey : y2 = y := by
              rw [HD.out] at hd3
              injection hd3 with e
              exact e.symm
            subst ey
            have f1 := (range2 hz).1
            have f2 := (range2 hy).1
            have htk := take_at hd2
            have hany : ((x.ro.attrs.take (j + 1)).any fun b => decide (b.name = y2.name)) = decide (z.name = y2.name) := by rw [htk, any_snoc, hv, Bool.false_or]
            rw [hA] at g4
            clear hA hz hy htk hd2 hd3 hv
            by_cases hzy : z.name = y2.name
            · have hs : (y2.name.toList == z.name.toList) = true := by rw [eq_of_toList]; exact decide_eq_true hzy.symm
              rw [decide_eq_true hzy] at hany
              have HANY := Lib.hid hany
              clear hany hzy
              go_wp2
              go_quiet (fail)
              go_wp2
              go_ret
              refine ⟨ret_bool ?_, HN.out.trans ((below_dN hbel5 nq).mono (by simp))⟩
              have t1 : twice (x.ro.attrs.take (k + 1)) = true := by
                rw [HTW.out]
                exact any_take_of (j := j + 1) (by omega) HANY.out
              rw [twice_take t1]
              rfl
            · have hs : (y2.name.toList == z.name.toList) = false := by rw [eq_of_toList]; exact decide_eq_false fun e => hzy e.symm
              rw [decide_eq_false hzy] at hany
              have HANY := Lib.hid hany
              clear hany hzy
              go_wp2
              go_quiet (fail)
              go_wp2
              go_roundw
              case rel => exact ⟨j + 1, by go_num, by omega, HANY.out, below_dN hbel5 nq⟩
              case measure => simp [intOf]; omega
          · obtain rfl : j = k := by omega
            have HV := Lib.hid hv
            clear hv
            go_wp2
            go_roundw
            case rel => exact ⟨j + 1, by go_num, by omega, by rw [HTW.out]; exact HV.out, hbel5⟩
            case measure => simp [intOf]; omega
      · have g1 := box_kept hbel 1
        have g2 := box_kept hbel 2
        have g3 := box_kept hbel 3
        simp only [cells, List.getElem?_cons_zero, List.getElem?_cons_succ] at g1 g2 g3
        rw [List.take_of_length_le (by omega)] at hv
        have HV := Lib.hid hv
        have HB := Lib.hid (HN.out.trans (hbel.mono (by simp)))
        clear hv
        go_wp2
        all_goals (go_ret; refine ⟨ret_bool ?_, HB.out⟩)
        all_goals (rw [HV.out]; simp [*])

/-- How deep the row behind this one may be. -/
def deepest (p : Ro) : Int := if p.kind = 0 then p.depth + 1 else p.depth

set_option maxRecDepth 100000 in
set_option maxHeartbeats 2000000 in
theorem refRight_any (A : Option Addr) (c : Nat) (l : List Cw) (w : World) (hr : Rr w w.heap.size A l) (hc : l.length ≤ c) (hm : l.length ≤ 1000000) :
    Calls Try.prog 59 #[.slice A l.length c] w fun e w' => e = .returned (.bool (right (ros l))) ∧ Below w.heap.size w w' := by
  obtain ⟨V, hV⟩ : ∃ V, right (ros l) = V := ⟨_, rfl⟩
  rw [hV]
  have HV := Lib.hid hV
  clear hV
  go_enter Try.func59, Try.ntmps59
  go_wp2
  go_loopw [3] (fun i wr => ∃ (k : Nat) (m : Int), i = .int .i64 k ∧ k ≤ l.length ∧ rightFrom m (ros (l.drop k)) = V ∧ Below w.heap.size w wr ∧ (k = 0 → m = 0) ∧ (∀ j p, k = j + 1 → l[j]? = some p → m = deepest p.ro ∧ 0 ≤ p.ro.depth ∧ p.ro.depth ≤ j)) (fun i _ => l.length - (intOf i).toNat)
  case atStart => exact ⟨0, 0, rfl, by omega, HV.out, Below.refl _ _, fun _ => rfl, fun _ _ h => by omega⟩
  case round =>
    clear HV
    obtain ⟨k, m, rfl, hk, hv, hbel, hm0, hm1⟩ := hrel
    have hsz := hbel.size
    by_cases hp : k < l.length
    · obtain ⟨b, off, x, hA, hb, hd, hx, hxa, _⟩ := (hr.below hbel).at_ k hp
      have hxk := getElem_of_drop hd
      rw [hd, ros_cons, right_cons] at hv
      have HD := Lib.hid hxk
      have HX := Lib.hid hx
      have HA := Lib.hid (hxa.more hsz)
      have HM0 := Lib.hid hm0
      have HM1 := Lib.hid hm1
      have g0 := (range5 hx).1
      clear hx
      subst hA
      have HN : V = false ∨ okRow x.ro = true := by
        cases h3 : okRow x.ro with
        | true => exact .inr rfl
        | false => rw [h3, Bool.and_false, Bool.false_and] at hv; exact .inl hv.symm
      cases h3 : okRow x.ro with
      | false =>
        obtain rfl : V = false := by
          rcases HN with h | h
          · exact h
          · rw [h3] at h; cases h
        have H3 := Lib.hid h3
        clear h3 HN hv
        cases k with
        | zero =>
          rw [show off + 0 * 5 = off from by omega] at HX g0
          go_wp2_with (first | (refine wpList_load_mid rfl 36 (.tmp 18) rfl b off rfl _ _ HX.out Try.underlying36 rfl size_row ?_) | (go_at_call 93; refine (refRow_any x wr HA.out).mono ?_; rintro e w3 ⟨rfl, hb3⟩; rw [H3.out]))
          go_ret
          exact ⟨rfl, hbel.trans (hb3.mono hsz)⟩
        | succ k =>
          have p0 : True := trivial
          go_wp2_with (first | (refine wpList_load_mid rfl 36 (.tmp 18) rfl b (off + (k + 1) * 5) rfl _ _ HX.out Try.underlying36 rfl size_row ?_) | (go_at_call 93; refine (refRow_any x wr HA.out).mono ?_; rintro e w3 ⟨rfl, hb3⟩; rw [H3.out]))
          go_ret
          exact ⟨rfl, hbel.trans (hb3.mono hsz)⟩
      | true =>
      clear HN
      have H3 := Lib.hid h3
      rw [h3, Bool.and_true] at hv
      clear h3
      by_cases h1 : 0 ≤ x.ro.depth
      · have h1' : decide (x.ro.depth < 0) = false := decide_eq_false (by omega)
        rw [decide_eq_true h1, Bool.true_and] at hv
        cases k with
        | zero =>
          rw [show off + 0 * 5 = off from by omega] at HX g0
          obtain rfl := HM0.out rfl
          cases h2 : x.ro.depth == 0 with
          | true =>
            have h2' : (x.ro.depth != 0) = false := by rw [bne, h2]; rfl
            have h5 : x.ro.depth = 0 := beq_iff_eq.1 h2
            rw [decide_eq_true (by omega), Bool.true_and] at hv
            have HV : Hid (rightFrom (deepest x.ro) (ros (l.drop (0 + 1))) = V) := Lib.hid hv
            have H5 := Lib.hid h5
            clear hv h5
            have h6 : x.ro.depth ≤ 0 := by have := H5.out; omega
            go_wp2_with (first | (refine wpList_load_mid rfl 36 (.tmp 18) rfl b off rfl _ _ HX.out Try.underlying36 rfl size_row ?_) | (go_at_call 93; refine (refRow_any x wr HA.out).mono ?_; rintro e w3 ⟨rfl, hb3⟩; rw [H3.out]))
            go_roundw
            case rel => exact ⟨0 + 1, deepest x.ro, by go_num, by omega, HV.out, hbel.trans (hb3.mono hsz), fun h => by omega, fun j p' hj hp' => by
              obtain rfl : j = 0 := by omega
              have e := HD.out.symm.trans hp'
              injection e with e
              subst e
              exact ⟨rfl, by omega, by omega⟩⟩
            case measure => simp [intOf]; omega
          | false =>
            have h2' : (x.ro.depth != 0) = true := by rw [bne, h2]; rfl
            have h5 : ¬ x.ro.depth = 0 := beq_eq_false_iff_ne.1 h2
            rw [decide_eq_false (by omega), Bool.false_and] at hv
            subst hv
            clear h5
            go_wp2_with (first | (refine wpList_load_mid rfl 36 (.tmp 18) rfl b off rfl _ _ HX.out Try.underlying36 rfl size_row ?_) | (go_at_call 93; refine (refRow_any x wr HA.out).mono ?_; rintro e w3 ⟨rfl, hb3⟩; rw [H3.out]))
            go_ret
            exact ⟨rfl, hbel.trans (hb3.mono hsz)⟩
        | succ k =>
          have hpl : k < l.length := by omega
          obtain ⟨b2, off2, p, e, _, hd2, hp2, _, _⟩ := (hr.below hbel).at_ k hpl
          injection e with e
          injection e with e1 e2
          subst e1 e2
          obtain ⟨hm, hpd0, hpd1⟩ := HM1.out k p rfl (getElem_of_drop hd2)
          have p0 := (range5 hp2).1
          have p1 := (range5 hp2).2.1
          clear hp2 hd2
          by_cases h4 : p.ro.depth + 1 < x.ro.depth
          · rw [hm, decide_eq_false (by unfold deepest; split <;> omega), Bool.false_and] at hv
            subst hv
            clear hm
            go_wp2_with (first | (refine wpList_load_mid rfl 36 (.tmp 18) rfl b (off + (k + 1) * 5) rfl _ _ HX.out Try.underlying36 rfl size_row ?_) | (go_at_call 93; refine (refRow_any x wr HA.out).mono ?_; rintro e w3 ⟨rfl, hb3⟩; rw [H3.out]; have q0 := (hb3.cell (p := ⟨b, off + k * 5, none⟩) (Nat.lt_of_lt_of_le hb hsz)).trans p0; have q1 := (hb3.cell (p := ⟨b, off + k * 5 + 1, none⟩) (Nat.lt_of_lt_of_le hb hsz)).trans p1))
            go_ret
            exact ⟨rfl, hbel.trans (hb3.mono hsz)⟩
          · have h4' : decide (p.ro.depth + 1 < x.ro.depth) = false := decide_eq_false h4
            cases h5 : x.ro.depth == p.ro.depth + 1 with
            | true =>
              have h5a : x.ro.depth = p.ro.depth + 1 := beq_iff_eq.1 h5
              cases h6 : p.ro.kind == 0 with
              | true =>
                have h6' : (p.ro.kind != 0) = false := by rw [bne, h6]; rfl
                have h6a := beq_iff_eq.1 h6
                rw [hm, decide_eq_true (by unfold deepest; rw [if_pos h6a]; omega), Bool.true_and] at hv
                have HV : Hid (rightFrom (deepest x.ro) (ros (l.drop (k + 1 + 1))) = V) := Lib.hid hv
                have h7 : x.ro.depth ≤ k + 1 := by omega
                clear hm hv h5a h6a
                go_wp2_with (first | (refine wpList_load_mid rfl 36 (.tmp 18) rfl b (off + (k + 1) * 5) rfl _ _ HX.out Try.underlying36 rfl size_row ?_) | (go_at_call 93; refine (refRow_any x wr HA.out).mono ?_; rintro e w3 ⟨rfl, hb3⟩; rw [H3.out]; have q0 := (hb3.cell (p := ⟨b, off + k * 5, none⟩) (Nat.lt_of_lt_of_le hb hsz)).trans p0; have q1 := (hb3.cell (p := ⟨b, off + k * 5 + 1, none⟩) (Nat.lt_of_lt_of_le hb hsz)).trans p1))
                go_roundw
                case rel => exact ⟨k + 1 + 1, deepest x.ro, by go_num, by omega, HV.out, hbel.trans (hb3.mono hsz), fun h => by omega, fun j p' hj hp' => by
                  obtain rfl : j = k + 1 := by omega
                  have e := HD.out.symm.trans hp'
                  injection e with e
                  subst e
                  exact ⟨rfl, by omega, by omega⟩⟩
                case measure => simp [intOf]; omega
              | false =>
                have h6' : (p.ro.kind != 0) = true := by rw [bne, h6]; rfl
                have h6a := beq_eq_false_iff_ne.1 h6
                rw [hm, decide_eq_false (by unfold deepest; rw [if_neg h6a]; omega), Bool.false_and] at hv
                subst hv
                clear hm h5a h6a
                go_wp2_with (first | (refine wpList_load_mid rfl 36 (.tmp 18) rfl b (off + (k + 1) * 5) rfl _ _ HX.out Try.underlying36 rfl size_row ?_) | (go_at_call 93; refine (refRow_any x wr HA.out).mono ?_; rintro e w3 ⟨rfl, hb3⟩; rw [H3.out]; have q0 := (hb3.cell (p := ⟨b, off + k * 5, none⟩) (Nat.lt_of_lt_of_le hb hsz)).trans p0; have q1 := (hb3.cell (p := ⟨b, off + k * 5 + 1, none⟩) (Nat.lt_of_lt_of_le hb hsz)).trans p1))
                go_ret
                exact ⟨rfl, hbel.trans (hb3.mono hsz)⟩
            | false =>
              have h5a : ¬ x.ro.depth = p.ro.depth + 1 := beq_eq_false_iff_ne.1 h5
              rw [hm, decide_eq_true (by unfold deepest; split <;> omega), Bool.true_and] at hv
              have HV : Hid (rightFrom (deepest x.ro) (ros (l.drop (k + 1 + 1))) = V) := Lib.hid hv
              have h7 : x.ro.depth ≤ p.ro.depth := by omega
              clear hm hv h5a
              go_wp2_with (first | (refine wpList_load_mid rfl 36 (.tmp 18) rfl b (off + (k + 1) * 5) rfl _ _ HX.out Try.underlying36 rfl size_row ?_) | (go_at_call 93; refine (refRow_any x wr HA.out).mono ?_; rintro e w3 ⟨rfl, hb3⟩; rw [H3.out]; have q0 := (hb3.cell (p := ⟨b, off + k * 5, none⟩) (Nat.lt_of_lt_of_le hb hsz)).trans p0; have q1 := (hb3.cell (p := ⟨b, off + k * 5 + 1, none⟩) (Nat.lt_of_lt_of_le hb hsz)).trans p1))
              go_roundw
              case rel => exact ⟨k + 1 + 1, deepest x.ro, by go_num, by omega, HV.out, hbel.trans (hb3.mono hsz), fun h => by omega, fun j p' hj hp' => by
                obtain rfl : j = k + 1 := by omega
                have e := HD.out.symm.trans hp'
                injection e with e
                subst e
                exact ⟨rfl, by omega, by omega⟩⟩
              case measure => simp [intOf]; omega
      · have h1' : x.ro.depth < 0 := by omega
        rw [decide_eq_false h1, Bool.false_and, Bool.false_and] at hv
        subst hv
        cases k with
        | zero =>
          rw [show off + 0 * 5 = off from by omega] at HX g0
          go_wp2_with (first | (refine wpList_load_mid rfl 36 (.tmp 18) rfl b off rfl _ _ HX.out Try.underlying36 rfl size_row ?_) | (go_at_call 93; refine (refRow_any x wr HA.out).mono ?_; rintro e w3 ⟨rfl, hb3⟩; rw [H3.out]))
          go_ret
          exact ⟨rfl, hbel.trans (hb3.mono hsz)⟩
        | succ k =>
          go_wp2_with (first | (refine wpList_load_mid rfl 36 (.tmp 18) rfl b (off + (k + 1) * 5) rfl _ _ HX.out Try.underlying36 rfl size_row ?_) | (go_at_call 93; refine (refRow_any x wr HA.out).mono ?_; rintro e w3 ⟨rfl, hb3⟩; rw [H3.out]))
          go_ret
          exact ⟨rfl, hbel.trans (hb3.mono hsz)⟩
    · rw [List.drop_eq_nil_of_le (by omega)] at hv
      have HV := Lib.hid hv
      clear hv hm0 hm1
      go_wp2
      go_ret
      exact ⟨ret_bool HV.out, hbel⟩

theorem refCheck_any (A : Option Addr) (c : Nat) (l : List Cw) (w : World) (hr : Rr w w.heap.size A l) (hc : l.length ≤ c) (hm : l.length ≤ 1000000) :
    Calls Try.prog 24 #[.slice A l.length c] w fun e w' => e = .returned (.int .i64 (check (ros l))) ∧ Below w.heap.size w w' := by
  cases h1 : exceeds (ros l) 4096 60 with
  | true =>
    rw [check, h1, if_pos rfl]
    have H1 := Lib.hid h1
    clear h1
    go_enter Try.func24, Try.ntmps24
    go_wp2_with fail
    refine (big_any A c l w hr hc hm).mono ?_
    rintro e w1 ⟨rfl, rfl⟩
    rw [H1.out]
    go_wp2
    go_ret
    exact ⟨rfl, Below.refl _ _⟩
  | false =>
    cases h2 : right (ros l) with
    | true =>
      rw [check, h1, h2, if_neg (by decide), if_pos rfl]
      have H1 := Lib.hid h1; have H2 := Lib.hid h2
      clear h1 h2
      go_enter Try.func24, Try.ntmps24
      go_wp2_with fail
      refine (big_any A c l w hr hc hm).mono ?_
      rintro e w1 ⟨rfl, rfl⟩
      rw [H1.out]
      go_wp2_with fail
      refine (refRight_any A c l w hr hc hm).mono ?_
      rintro e w2 ⟨rfl, hb2⟩
      rw [H2.out]
      go_wp2
      go_ret
      exact ⟨rfl, hb2⟩
    | false =>
      rw [check, h1, h2, if_neg (by decide), if_neg (by decide)]
      have H1 := Lib.hid h1; have H2 := Lib.hid h2
      clear h1 h2
      go_enter Try.func24, Try.ntmps24
      go_wp2_with fail
      refine (big_any A c l w hr hc hm).mono ?_
      rintro e w1 ⟨rfl, rfl⟩
      rw [H1.out]
      go_wp2_with fail
      refine (refRight_any A c l w hr hc hm).mono ?_
      rintro e w2 ⟨rfl, hb2⟩
      rw [H2.out]
      go_wp2
      go_ret
      exact ⟨rfl, hb2⟩

end Go.Proofs.Ytgjlfcamgkeibaa.Ro

namespace Go.Proofs.Ytgjlfcamgkeibaa.Ro
set_option maxRecDepth 100000
set_option linter.unusedVariables false
set_option linter.unusedSimpArgs false
open Go.RowKit Ba
/-- v is a slice of numbers of the call's own. -/
def Nw (N : Nat) (w : World) (v : Value) (l : List Nat) : Prop := w.ownsRow N 3 1 v l.length (l.map nv)
theorem Nw.made (w : World) : Nw w.heap.size (w.alloc (.cells #[] 3)) (.slice (some ⟨w.heap.size, 0, none⟩) 0 0) [] := World.ownsRow_made w #[] 0 (Nat.le_refl _) (Nat.zero_le _) rfl
theorem Nw.alloc {N : Nat} {w : World} {v : Value} {l : List Nat} (h : Nw N w v l) (o : Obj) : Nw N (w.alloc o) v l := World.ownsRow.alloc h o
theorem Nw.below {N M : Nat} {w w' : World} {v : Value} {l : List Nat} (h : Nw N w v l) (hb : Below M w w') (hM : w.heap.size ≤ M := by exact Nat.le_refl _) : Nw N w' v l := by
  refine ⟨h.1, ?_⟩
  rcases h.2 with hn | ⟨g, cap, cur, hv, hg, hh, rest⟩
  · exact .inl hn
  · refine .inr ⟨g, cap, cur, hv, hg, ?_, rest⟩
    have hlt : g < w.heap.size := (Array.getElem?_eq_some_iff.1 hh).1
    rw [hb.block g (by omega)]
    exact hh
/-- It reads as these numbers. -/
def Rn (w : World) (N : Nat) (A : Option Addr) (l : List Nat) : Prop := 0 < l.length → ∃ b off, A = some ⟨b, off, none⟩ ∧ b < N ∧ ∀ j (h : j < l.length), w.cell? ⟨b, off + j, none⟩ = some (.int .i64 (l[j] : Nat))
theorem Rn.below {w w' : World} {N M : Nat} {A : Option Addr} {l : List Nat} (h : Rn w N A l) (hb : Below M w w') (hN : N ≤ M := by exact Nat.le_refl _) : Rn w' N A l := fun h0 => by
  obtain ⟨b, off, e, hb1, hc⟩ := h h0
  exact ⟨b, off, e, hb1, fun j hj => (hb.cell (p := ⟨b, off + j, none⟩) (by show b < M; omega)).trans (hc j hj)⟩
theorem Nw.form {N : Nat} {w : World} {v : Value} {l : List Nat} (h : Nw N w v l) : ∃ A c, v = .slice A l.length c ∧ l.length ≤ c ∧ c ≤ maxLen ∧ Rn w w.heap.size A l := by
  rcases h.2 with ⟨hv, hl⟩ | ⟨g, cap, cur, hv, hg, hh, hn, hm, hs, ht⟩
  · have : l = [] := List.eq_nil_of_length_eq_zero hl
    subst this
    exact ⟨none, 0, hv, Nat.le_refl _, Nat.zero_le _, fun h => absurd h (by simp)⟩
  · refine ⟨some ⟨g, 0, none⟩, cap, hv, hn, hm, fun _ => ⟨g, 0, rfl, (Array.getElem?_eq_some_iff.1 hh).1, fun j hj => ?_⟩⟩
    subst hv
    have := World.ownsRow.cells h rfl j (nv l[j]) (by simp [hj])
    rw [WideShapes.add_plain] at this
    exact this
/-- append of one number, in a block of its own. -/
theorem app_num {ops : Array Oper} {rest : List Oper} {o : Oper} {a : Act} {Q : Exit → Act → World → Prop} (w : World) (hgd : o.guard = none) (s x : Operand)
    (ho : o.op = .call { callee := .builtin .append, args := #[s, x], argTypes := #[67, 67] })
    (N : Nat) (v : Value) (l : List Nat) (y : Nat) (hs : a.eval s = v) (hown : Nw N w v l) (g : Nat) (hg : g = w.heap.size) (hx : a.eval x = .slice (some ⟨g, 0, none⟩) 1 1)
    (hl : l.length ≤ 2000000) (hN : N ≤ w.heap.size)
    (h : ∀ v' w', Nw N w' v' (l ++ [y]) → (∀ w0, Below N w0 w → Below N w0 w') → wpList Try.prog ops Q rest (a.put o.dst v') w') :
    wpList Try.prog ops Q (o :: rest) a (w.alloc (.cells #[.int .i64 (y : Nat)] 3)) := by
  subst hg
  obtain ⟨i0, hi, hz0, hz1, hz2⟩ := info_parts infoI
  have hown' : Nw N (w.alloc (.cells #[.int .i64 (y : Nat)] 3)) v l := hown.alloc _
  have hsz : (w.alloc (.cells #[.int .i64 (y : Nat)] 3)).heap.size = w.heap.size + 1 := by simp
  refine wpList_append_own _ hgd s x 67 ho N 3 i0 (.int .i64 0) 1 8 Try.underlying67 hi hz0 hz1 hz2 rfl (by decide) v l.length (l.map nv) hs hown' ⟨w.heap.size, 0, none⟩ 1 1 [.int .i64 (y : Nat)] hx rfl (cell_one_new _ _ _) (by intro u hu; simp at hu; subst hu; rfl) (by unfold maxLen; omega) (by omega) (by omega) ?_
  intro v' w' ho2 hg2 _
  refine h v' w' ?_ fun w0 hb => (hb.alloc hN _).grown hg2 (by omega) fun k hk => (World.ownsRow.lt hown' k hk).1
  unfold Nw
  rw [List.length_append, List.map_append]
  exact ho2

theorem takeWhile_all {α : Type} (p : α → Bool) : ∀ l : List α, (∀ x ∈ l, p x = true) → l.takeWhile p = l
  | [], _ => rfl
  | x :: r, h => by rw [List.takeWhile_cons, if_pos (h x (by simp)), takeWhile_all p r fun y hy => h y (by simp [hy])]
theorem below_all {l : List Ro} (h : Deep l) : below l (-1) = l := by
  unfold below
  rw [show ((-1 : Int) + 1).toNat = 0 from rfl, List.drop_zero, dep_top]
  have : ∀ x ∈ l, decide ((-1 : Int) < x.depth) = true := fun x hx => decide_eq_true (by have := h x hx; omega)
  exact takeWhile_all _ l this

set_option maxRecDepth 100000 in
set_option maxHeartbeats 2000000 in
theorem refKids_any (A : Option Addr) (c : Nat) (l : List Cw) (i : Int) (w : World) (hr : Rr w w.heap.size A l) (hc : l.length ≤ c) (hm : l.length ≤ 1000000) (h1 : -1 ≤ i) (h2 : i < l.length) (hdp : Deep (ros l)) :
    Calls Try.prog 60 #[.slice A l.length c, .int .i64 i] w fun e w' => ∃ v, e = .returned v ∧ Nw w.heap.size w' v (kids (ros l) i) ∧ Below w.heap.size w w' := by
  have hi1 : decide (i < -1) = false := decide_eq_false (by omega)
  have hi2 : decide ((l.length : Int) ≤ i) = false := decide_eq_false (by omega)
  by_cases hi : i = -1
  · subst hi
    obtain ⟨V, hV⟩ : ∃ V, kids (ros l) (-1) = V := ⟨_, rfl⟩
    have hv0 : kidsFrom 0 0 (ros l) = V := by rw [← hV, kids, below_all hdp]; rfl
    rw [hV]
    have HV := Lib.hid hv0
    clear hV hv0
    go_enter Try.func60, Try.ntmps60
    go_wp2
    go_loopw [5, 6] (fun v i wr => ∃ (k : Nat) (acc : List Nat), i = .int .i64 k ∧ k ≤ l.length ∧ acc.length ≤ k ∧ Nw w.heap.size wr v acc ∧ acc ++ kidsFrom 0 k (ros (l.drop k)) = V ∧ Below w.heap.size w wr) (fun _ i _ => l.length - (intOf i).toNat)
    case atStart => exact ⟨0, [], rfl, by omega, by simp, Nw.made w, HV.out, below_new w _⟩
    case round =>
      clear HV
      obtain ⟨k, acc, rfl, hk, hal, hown, hv, hbel⟩ := hrel
      have hsz := hbel.size
      by_cases hp : k < l.length
      · obtain ⟨b, off, x, rfl, hb, hdx, hx, _, _⟩ := (hr.below hbel).at_ k hp
        have g0 := (range5 hx).1
        rw [hdx, ros_cons] at hv
        cases h5 : x.ro.depth == 0 with
        | true =>
          rw [kids_hit (beq_iff_eq.1 h5)] at hv
          have HV := Lib.hid hv; have HO := Lib.hid hown
          clear hv hown hdx hx
          go_wp2
          go_quiet (fail)
          have hacc : acc.length ≤ 2000000 := by omega
          go_wp2_with (at_builtin; refine app_num (wr.drewN nq) rfl (.tmp 65) (.tmp 67) rfl w.heap.size _ acc k rfl (by exact HO.out) wr.heap.size rfl rfl hacc hsz ?_; intro v3 w3 ho3 hk3)
          go_roundw
          case rel => exact ⟨k + 1, acc ++ [k], by go_num, by omega, by simp; omega, ho3, by rw [List.append_assoc]; exact HV.out, hk3 w (below_dN hbel nq)⟩
          case measure => simp [intOf]; omega
        | false =>
          rw [kids_miss (beq_eq_false_iff_ne.1 h5)] at hv
          have HV := Lib.hid hv; have HO := Lib.hid hown
          clear hv hown hdx hx
          go_wp2
          go_quiet (fail)
          go_wp2
          go_roundw
          case rel => exact ⟨k + 1, acc, by go_num, by omega, by omega, by exact HO.out, HV.out, below_dN hbel nq⟩
          case measure => simp [intOf]; omega
      · rw [List.drop_eq_nil_of_le (by omega)] at hv
        have HV := Lib.hid hv
        clear hv
        go_wp2
        go_ret
        exact ⟨_, rfl, by rw [← HV.out, show kidsFrom 0 k (ros []) = [] from rfl, List.append_nil]; exact hown, hbel⟩
  · obtain ⟨j, rfl⟩ := Int.eq_ofNat_of_zero_le (show 0 ≤ i by omega)
    have hj : j < l.length := by omega
    have hij : ((j : Int) == -1) = false := beq_eq_false_iff_ne.2 hi
    clear hi
    have hi3 : decide (l.length ≤ j) = false := decide_eq_false (by omega)
    obtain ⟨b0, off0, y, hA, _, hdy, hy, _, hym⟩ := hr.at_ j hj
    obtain ⟨d, hd⟩ : ∃ d, dep (ros l) j = d := ⟨_, rfl⟩
    have e : dep (ros l) j = y.ro.depth := dep_at (by rw [ros, List.getElem?_map, getElem_of_drop hdy]; rfl)
    obtain ⟨q1, q2⟩ := hdp.at_ hym
    rw [← e, hd] at q1 q2
    have hgy := (range5 hy).1
    rw [← e, hd] at hgy
    obtain ⟨E, hE⟩ : ∃ E, endOf (ros l) j = E := ⟨_, rfl⟩
    have hE1 := endOf_le (ros l) j (by rw [len_ros]; exact h2)
    rw [len_ros, hE] at hE1
    have hE2 := endOf_ge (ros l) j
    rw [hE] at hE2
    have hE3 : j + 1 ≤ E := by omega
    have hEa := endAt_yes (l := l) (i := j) (by omega) h2
    rw [hE] at hEa
    obtain ⟨V, hV⟩ : ∃ V, kids (ros l) j = V := ⟨_, rfl⟩
    have hv0 : kidsFrom (d + 1) (j + 1) (ros ((l.take E).drop (j + 1))) = V := by
      have e1 : ((j : Int) + 1).toNat = j + 1 := by omega
      rw [← hV, kids, below_part, hd, hE, e1, ros_part]
    rw [hV]
    have HV := Lib.hid hv0
    have HGY := Lib.hid hgy; have HA := Lib.hid hA; have HEA := Lib.hid hEa
    have hsum : IntKind.i64.wrap (d + 1) = d + 1 := IntWalk.i64_in _ (by omega)
    have HSUM := Lib.hid hsum
    clear hV hv0 hy hdy e hd hE hgy hA hE2 hEa hsum
    go_enter Try.func60, Try.ntmps60
    go_wp2
    go_loopw [5, 6] (fun v i wr => ∃ (k m : Nat) (acc : List Nat), i = .int .i64 k ∧ k ≤ l.length ∧ acc.length ≤ k ∧ Nw w.heap.size wr v acc ∧ acc ++ kidsFrom (d + 1) m (ros ((l.take E).drop m)) = V ∧ (k ≤ j → m = j + 1) ∧ (j < k → m = k) ∧ Below w.heap.size w wr) (fun _ i _ => l.length - (intOf i).toNat)
    case atStart => exact ⟨0, j + 1, [], rfl, by omega, by simp, Nw.made w, HV.out, fun _ => rfl, fun h => by omega, below_new w _⟩
    case round =>
      clear HV
      obtain ⟨k, m, acc, rfl, hk, hal, hown, hv, hm1, hm2, hbel⟩ := hrel
      have hsz := hbel.size
      have HM1 := Lib.hid hm1; have HM2 := Lib.hid hm2; have HO := Lib.hid hown
      clear hm1 hm2 hown
      by_cases hp : k < l.length
      · obtain ⟨b, off, x, hA, hb, hdx, hx, _, _⟩ := (hr.below hbel).at_ k hp
        have hgy := HGY.out
        have ho : b0 = b ∧ off0 = off := by
          have := HA.out
          rw [hA] at this
          injection this with this
          injection this with e1 e2
          exact ⟨e1.symm, e2.symm⟩
        obtain ⟨rfl, rfl⟩ := ho
        have hq : ∀ n, Calls Try.prog 94 #[.slice A l.length c, .int .i64 j] (wr.drewN n) fun e w'' => e = .returned (.int .i64 E) ∧ ∃ m, w'' = wr.drewN m := fun n => by
          have := Calls.quiet_of (refEnd_any A c l j (wr.drewN n) (by exact (hr.below hbel).more hsz) hc hm)
          rwa [HEA.out] at this
        rw [hA] at hq
        have HQ := Lib.hid hq
        have g0 := (range5 hx).1
        have gy : wr.cell? ⟨b0, off0 + j * 5, none⟩ = some (.int .i64 d) := (hbel.cell (p := ⟨b0, off0 + j * 5, none⟩) hb).trans hgy
        have hsum := HSUM.out
        clear hq hx hgy
        subst hA
        by_cases h3 : k ≤ j
        · have h3' : decide (j < k) = false := decide_eq_false (by omega)
          have HV := Lib.hid hv
          clear hv hdx
          go_wp2
          go_quiet ((go_at_call 94; exact HQ.out _))
          clear hsum
          go_wp2
          go_roundw
          case rel => exact ⟨k + 1, m, acc, by go_num, by omega, by omega, by exact HO.out, HV.out, fun h => HM1.out h3, fun h => by have := HM1.out h3; omega, below_dN hbel nq⟩
          case measure => simp [intOf]; omega
        · have h3' : j < k := by omega
          have hmk : k = m := (HM2.out h3').symm
          subst hmk
          by_cases h4 : k < E
          · rw [part_step h4 hdx, ros_cons] at hv
            cases h5 : x.ro.depth == d + 1 with
            | true =>
              rw [kids_hit (beq_iff_eq.1 h5)] at hv
              have HV := Lib.hid hv
              clear hv hdx
              go_wp2
              go_quiet ((go_at_call 94; exact HQ.out _))
              clear hsum
              have hacc : acc.length ≤ 2000000 := by omega
              go_wp2_with (at_builtin; refine app_num (wr.drewN nq) rfl (.tmp 65) (.tmp 67) rfl w.heap.size _ acc k rfl (by exact HO.out) wr.heap.size rfl rfl hacc hsz ?_; intro v3 w3 ho3 hk3)
              go_roundw
              case rel => exact ⟨k + 1, k + 1, acc ++ [k], by go_num, by omega, by simp; omega, ho3, by rw [List.append_assoc]; exact HV.out, fun h => by omega, fun _ => rfl, hk3 w (below_dN hbel nq)⟩
              case measure => simp [intOf]; omega
            | false =>
              rw [kids_miss (beq_eq_false_iff_ne.1 h5)] at hv
              have HV := Lib.hid hv
              clear hv hdx
              go_wp2
              go_quiet ((go_at_call 94; exact HQ.out _))
              clear hsum
              go_wp2
              go_roundw
              case rel => exact ⟨k + 1, k + 1, acc, by go_num, by omega, by omega, by exact HO.out, HV.out, fun h => by omega, fun _ => rfl, below_dN hbel nq⟩
              case measure => simp [intOf]; omega
          · have h4' : decide (k < E) = false := decide_eq_false h4
            rw [List.drop_eq_nil_of_le (by rw [List.length_take]; omega)] at hv
            have HV := Lib.hid hv
            clear hv hdx
            go_wp2
            go_quiet ((go_at_call 94; exact HQ.out _))
            clear hsum
            go_wp2
            go_roundw
            case rel => exact ⟨k + 1, k + 1, acc, by go_num, by omega, by omega, by exact HO.out, by rw [List.drop_eq_nil_of_le (by rw [List.length_take]; omega)]; exact HV.out, fun h => by omega, fun _ => rfl, below_dN hbel nq⟩
            case measure => simp [intOf]; omega
      · have hmk : k = m := (HM2.out (by omega)).symm
        subst hmk
        rw [List.drop_eq_nil_of_le (by rw [List.length_take]; omega)] at hv
        have HV := Lib.hid hv
        clear hv
        go_wp2
        go_ret
        exact ⟨_, rfl, by rw [← HV.out, show kidsFrom (d + 1) k (ros []) = [] from rfl, List.append_nil]; exact HO.out, hbel⟩

end Go.Proofs.Ytgjlfcamgkeibaa.Ro

namespace Go.Proofs.Ytgjlfcamgkeibaa.Ro
set_option maxRecDepth 100000
set_option linter.unusedVariables false
set_option linter.unusedSimpArgs false
open Go.RowKit Ba
/-- The attributes of a row lie where no row of the call's own can lie. -/
def Ap (w : World) (N : Nat) (x : Cw) : Prop := 0 < x.ro.attrs.length → ∃ b off, x.A = some ⟨b, off, none⟩ ∧ (b < N ∨ ∃ cs fr, w.heap[b]? = some (.cells cs 40 fr))
/-- The attributes of a row are the call's own. -/
def Fr (N : Nat) (w : World) (x : Cw) : Prop := w.ownsRow N 40 2 (.slice x.A x.ro.attrs.length x.c) x.ro.attrs.length (x.ro.attrs.flatMap acells) ∧ Sh x.ro.attrs
/-- v is a slice of rows of the call's own. -/
def Ow (N : Nat) (w : World) (v : Value) (l : List Cw) : Prop := w.ownsRow N 36 5 v l.length (l.flatMap cells) ∧ ∀ x ∈ l, Att w w.heap.size x ∧ Ap w N x

theorem Fr.att {N : Nat} {w : World} {x : Cw} (h : Fr N w x) : Att w w.heap.size x := by
  obtain ⟨⟨hl, h⟩, hs⟩ := h
  rcases h with ⟨hv, hn⟩ | ⟨g, cap, cur, hv, hg, hh, hn, hm, hsz, ht⟩
  · injection hv with e1 e2 e3
    refine ⟨by omega, fun _ => e3, by rw [e3]; exact Nat.zero_le _, fun h0 => by omega, hs⟩
  · have hh0 : w.ownsRow N 40 2 (.slice x.A x.ro.attrs.length x.c) x.ro.attrs.length (x.ro.attrs.flatMap acells) := ⟨hl, .inr ⟨g, cap, cur, hv, hg, hh, hn, hm, hsz, ht⟩⟩
    injection hv with e1 _ e3
    refine ⟨by omega, (fun e => by rw [e] at e1; cases e1), by rw [e3]; exact hm, fun h0 => ⟨g, 0, e1, (Array.getElem?_eq_some_iff.1 hh).1, fun j hj i v hv => ?_⟩, hs⟩
    have hi : i < 2 := (List.getElem?_eq_some_iff.1 hv).1
    have := World.ownsRow.cells hh0 (g := g) (by rw [e1]; rfl) (j * 2 + i) v (by rw [flat_at acells 2 len_acells _ _ _ hj hi]; exact hv)
    rw [WideShapes.add_plain] at this
    rw [show 0 + j * 2 + i = 0 + (j * 2 + i) from by omega]
    exact this
theorem Fr.ap {N : Nat} {w : World} {x : Cw} (h : Fr N w x) : Ap w N x := fun h0 => by
  obtain ⟨⟨_, h⟩, _⟩ := h
  rcases h with ⟨hv, hn⟩ | ⟨g, cap, cur, hv, hg, hh, _⟩
  · omega
  · injection hv with e1
    exact ⟨g, 0, e1, .inr ⟨_, _, hh⟩⟩
theorem Fr.below {N M : Nat} {w w' : World} {x : Cw} (h : Fr N w x) (hb : Below M w w') (hM : w.heap.size ≤ M := by exact Nat.le_refl _) : Fr N w' x := by
  refine ⟨⟨h.1.1, ?_⟩, h.2⟩
  rcases h.1.2 with hn | ⟨g, cap, cur, hv, hg, hh, rest⟩
  · exact .inl hn
  · refine .inr ⟨g, cap, cur, hv, hg, ?_, rest⟩
    have hlt : g < w.heap.size := (Array.getElem?_eq_some_iff.1 hh).1
    rw [hb.block g (by omega)]
    exact hh
theorem Ap.below {N M : Nat} {w w' : World} {x : Cw} (h : Ap w N x) (hb : Below M w w') (hM : w.heap.size ≤ M := by exact Nat.le_refl _) : Ap w' N x := fun h0 => by
  obtain ⟨b, off, e, h⟩ := h h0
  refine ⟨b, off, e, ?_⟩
  rcases h with h | ⟨cs, fr, h⟩
  · exact .inl h
  · refine .inr ⟨cs, fr, ?_⟩
    have hlt : b < w.heap.size := (Array.getElem?_eq_some_iff.1 h).1
    rw [hb.block b (by omega)]
    exact h
theorem Att.apart {N : Nat} {w : World} {x : Cw} (h : Att w N x) : Ap w N x := fun h0 => by
  obtain ⟨b, off, e, hb, _⟩ := h.2.2.2.1 h0
  exact ⟨b, off, e, .inl hb⟩
theorem Ow.nil (N : Nat) (w : World) : Ow N w (.slice none 0 0) [] := ⟨World.ownsRow_nil w N _ 5, fun _ h => by simp at h⟩
theorem Ow.made (w : World) : Ow w.heap.size (w.alloc (.cells #[] 36)) (.slice (some ⟨w.heap.size, 0, none⟩) 0 0) [] :=
  ⟨World.ownsRow_made w #[] 0 (Nat.le_refl _) (Nat.zero_le _) rfl, fun _ h => by simp at h⟩
theorem Ow.below {N M : Nat} {w w' : World} {v : Value} {l : List Cw} (h : Ow N w v l) (hb : Below M w w') (hM : w.heap.size ≤ M := by exact Nat.le_refl _) : Ow N w' v l := by
  refine ⟨⟨h.1.1, ?_⟩, fun x hx => ⟨((h.2 x hx).1.below hb hM).more hb.size, (h.2 x hx).2.below hb hM⟩⟩
  rcases h.1.2 with hn | ⟨g, cap, cur, hv, hg, hh, rest⟩
  · exact .inl hn
  · refine .inr ⟨g, cap, cur, hv, hg, ?_, rest⟩
    have hlt : g < w.heap.size := (Array.getElem?_eq_some_iff.1 hh).1
    rw [hb.block g (by omega)]
    exact hh
theorem Ow.alloc {N : Nat} {w : World} {v : Value} {l : List Cw} (h : Ow N w v l) (o : Obj) : Ow N (w.alloc o) v l := h.below (below_new w o)
theorem Ow.mono {N N' : Nat} {w : World} {v : Value} {l : List Cw} (h : Ow N w v l) (hN : N' ≤ N) (hl : ∀ x ∈ l, Ap w N' x) : Ow N' w v l := ⟨World.ownsRow.mono h.1 hN, fun x hx => ⟨(h.2 x hx).1, hl x hx⟩⟩
/-- What a slice of the call's own is, and reads as. -/
theorem Ow.form {N : Nat} {w : World} {v : Value} {l : List Cw} (h : Ow N w v l) : ∃ A c, v = .slice A l.length c ∧ l.length ≤ c ∧ c ≤ maxLen ∧ (A = none → c = 0) ∧ Rr w w.heap.size A l := by
  rcases h.1.2 with ⟨hv, hl⟩ | ⟨g, cap, cur, hv, hg, hh, hn, hm, hs, ht⟩
  · have : l = [] := List.eq_nil_of_length_eq_zero hl
    subst this
    exact ⟨none, 0, hv, Nat.le_refl _, Nat.zero_le _, fun _ => rfl, Rr.nil _ _ _⟩
  · refine ⟨some ⟨g, 0, none⟩, cap, hv, hn, hm, (fun e => by cases e), fun _ => ⟨g, 0, rfl, (Array.getElem?_eq_some_iff.1 hh).1, fun j hj i u hu => ?_⟩, fun x hx => (h.2 x hx).1⟩
    have hi : i < 5 := (List.getElem?_eq_some_iff.1 hu).1
    subst hv
    have := World.ownsRow.cells h.1 (g := g) rfl (j * 5 + i) u (by rw [flat_at cells 5 len_cells _ _ _ hj hi]; exact hu)
    rw [WideShapes.add_plain] at this
    rw [show 0 + j * 5 + i = 0 + (j * 5 + i) from by omega]
    exact this

/-- A block of attributes is none of rows. -/
theorem block_ne {N n : Nat} {w : World} {v : Value} {xs : List Value} {b : Nat} {cs : Array Value} {fr : Nat × Nat} (h : w.ownsRow N 36 5 v n xs) (hb : w.heap[b]? = some (.cells cs 40 fr)) : some b ≠ v.ownBlock := by
  rcases h.2 with ⟨rfl, _⟩ | ⟨g, cap, cur, rfl, _, hh, _⟩
  · simp [Value.ownBlock]
  · intro e
    have e : b = g := by simpa [Value.ownBlock] using e
    subst e
    rw [hb] at hh
    injection hh with hh
    injection hh with _ ht
    exact absurd ht (by decide)
theorem low_ne {N n : Nat} {w : World} {v : Value} {xs : List Value} {b : Nat} (h : w.ownsRow N 36 5 v n xs) (hb : b < N) : some b ≠ v.ownBlock := fun e => by
  have := (World.ownsRow.lt h b e.symm).1
  omega
theorem Att.grown {N n : Nat} {w w' : World} {v : Value} {xs : List Value} {y : Cw} (h : w.ownsRow N 36 5 v n xs) (hg : w.grownBy w' v.ownBlock) (hy : Att w w.heap.size y) (ha : Ap w N y) : Att w' w'.heap.size y := by
  refine ⟨hy.1, hy.2.1, hy.2.2.1, fun h0 => ?_, hy.2.2.2.2⟩
  obtain ⟨b, off, e, hb, hc⟩ := hy.2.2.2.1 h0
  obtain ⟨b', off', e', ha⟩ := ha h0
  rw [e] at e'
  injection e' with e'
  injection e' with e1 e2
  subst e1 e2
  have hne : some b ≠ v.ownBlock := by
    rcases ha with ha | ⟨cs, fr, ha⟩
    · exact low_ne h ha
    · exact block_ne h ha
  exact ⟨b, off, e, Nat.lt_of_lt_of_le hb hg.size, fun j hj => range_keep (hc j hj) fun o => World.cell?_of_block (a := ⟨b, o, none⟩) (hg.block b hb hne)⟩
theorem Ap.grown {N n : Nat} {w w' : World} {v : Value} {xs : List Value} {y : Cw} (h : w.ownsRow N 36 5 v n xs) (hg : w.grownBy w' v.ownBlock) (ha : Ap w N y) : Ap w' N y := fun h0 => by
  obtain ⟨b, off, e, ha⟩ := ha h0
  refine ⟨b, off, e, ?_⟩
  rcases ha with ha | ⟨cs, fr, ha⟩
  · exact .inl ha
  · exact .inr ⟨cs, fr, (hg.block b (Array.getElem?_eq_some_iff.1 ha).1 (block_ne h ha)).trans ha⟩
theorem Fr.grown {N n : Nat} {w w' : World} {v : Value} {xs : List Value} {y : Cw} (h : w.ownsRow N 36 5 v n xs) (hg : w.grownBy w' v.ownBlock) (hy : Fr N w y) : Fr N w' y := by
  refine ⟨⟨hy.1.1, ?_⟩, hy.2⟩
  rcases hy.1.2 with hn | ⟨g, cap, cur, hv, hg', hh, rest⟩
  · exact .inl hn
  · exact .inr ⟨g, cap, cur, hv, hg', (hg.block g (Array.getElem?_eq_some_iff.1 hh).1 (block_ne h hh)).trans hh, rest⟩

theorem row_cells_new (w : World) (x : Cw) : ∀ j u, (cells x)[j]? = some u → (w.alloc (rowO x)).cell? ((⟨w.heap.size, 0, none⟩ : Addr).add j) = some u := fun j u hu => by
  rw [WideShapes.add_plain, Nat.zero_add]
  exact (box_at w x j).trans hu
theorem cells_one (x : Cw) : ∀ u ∈ cells x, u.oneCell' = true := by
  intro u hu
  simp only [cells, List.mem_cons, List.not_mem_nil, or_false] at hu
  rcases hu with rfl | rfl | rfl | rfl | rfl <;> rfl
/-- append of one row, in a block of its own, onto rows of the call's own. -/
theorem app_row {ops : Array Oper} {rest : List Oper} {o : Oper} {a : Act} {Q : Exit → Act → World → Prop} (w : World) (hgd : o.guard = none) (s x : Operand)
    (ho : o.op = .call { callee := .builtin .append, args := #[s, x], argTypes := #[22, 22] })
    (N : Nat) (v : Value) (l : List Cw) (y : Cw) (hs : a.eval s = v) (hown : Ow N w v l) (hy : Att w w.heap.size y) (hap : Ap w N y) (g : Nat) (hgz : g = w.heap.size) (hx : a.eval x = .slice (some ⟨g, 0, none⟩) 1 1)
    (hl : l.length ≤ 2000000) (hN : N ≤ w.heap.size)
    (h : ∀ v' w', Ow N w' v' (l ++ [y]) → (∀ w0, Below N w0 w → Below N w0 w') → (∀ z, Fr N w z → Fr N w' z) → wpList Try.prog ops Q rest (a.put o.dst v') w') :
    wpList Try.prog ops Q (o :: rest) a (w.alloc (rowO y)) := by
  subst hgz
  obtain ⟨i0, hi, hz0, hz1, hz2⟩ := info_parts info_row
  have hown' : Ow N (w.alloc (rowO y)) v l := hown.alloc _
  have hsz : (w.alloc (rowO y)).heap.size = w.heap.size + 1 := by simp
  refine wpList_append_own _ hgd s x 22 ho N 36 i0 _ 5 72 Try.underlying22 hi hz0 hz1 hz2 rfl (by decide) v l.length (l.flatMap cells) hs hown'.1 ⟨w.heap.size, 0, none⟩ 1 1 (cells y) hx rfl (row_cells_new w y) (cells_one y) (by unfold maxLen; omega) (by omega) (by omega) ?_
  intro v' w' ho2 hg2 _
  have hk : ∀ w0, Below N w0 w → Below N w0 w' := fun w0 hb => (hb.alloc hN _).grown hg2 (by omega) fun k hk => (World.ownsRow.lt hown'.1 k hk).1
  refine h v' w' ⟨?_, ?_⟩ hk fun z hz => (hz.below (below_new w (rowO y))).grown hown'.1 hg2
  · rw [List.length_append, List.flatMap_append]
    simpa using ho2
  · intro z hz
    rcases List.mem_append.1 hz with hz | hz
    · exact ⟨(hown'.2 z hz).1.grown hown'.1 hg2 (hown'.2 z hz).2, (hown'.2 z hz).2.grown hown'.1 hg2⟩
    · obtain rfl := List.mem_singleton.1 hz
      have h1 : Att (w.alloc (rowO z)) (w.alloc (rowO z)).heap.size z := hy.boxed (Below.refl _ _) (rowO z)
      have h2 := hap.below (below_new w (rowO z))
      exact ⟨h1.grown hown'.1 hg2 h2, h2.grown hown'.1 hg2⟩

/-- append of other rows, nil or not, onto rows of the call's own. -/
theorem app_rows {ops : Array Oper} {rest : List Oper} {o : Oper} {a : Act} {Q : Exit → Act → World → Prop} (w : World) (hgd : o.guard = none) (s x : Operand)
    (ho : o.op = .call { callee := .builtin .append, args := #[s, x], argTypes := #[22, 22] })
    (N : Nat) (v : Value) (l m : List Cw) (B : Option Addr) (c : Nat) (hs : a.eval s = v) (hown : Ow N w v l) (hx : a.eval x = .slice B m.length c) (hB : B = none → c = 0) (hr : Rr w w.heap.size B m) (hap : ∀ y ∈ m, Ap w N y)
    (hl : l.length + m.length ≤ 2000000) (hN : N ≤ w.heap.size)
    (h : ∀ v' w', Ow N w' v' (l ++ m) → (∀ w0, Below N w0 w → Below N w0 w') → (∀ z, Fr N w z → Fr N w' z) → wpList Try.prog ops Q rest (a.put o.dst v') w') :
    wpList Try.prog ops Q (o :: rest) a w := by
  obtain ⟨i0, hi, hz0, hz1, hz2⟩ := info_parts info_row
  cases B with
  | none =>
    have hm : m = [] := by
      rcases Nat.eq_zero_or_pos m.length with h0 | h0
      · exact List.eq_nil_of_length_eq_zero h0
      · obtain ⟨b, off, e, _⟩ := hr.1 h0
        cases e
    subst hm
    rw [hB rfl] at hx
    refine wpList_append_own_none hgd s x 22 ho N 36 i0 5 Try.underlying22 hi v l.length (l.flatMap cells) hs hown.1 hx ?_
    exact h v w (by rw [List.append_nil]; exact hown) (fun _ hb => hb) (fun _ hz => hz)
  | some ad =>
    have hcells : ∀ j u, (m.flatMap cells)[j]? = some u → w.cell? (ad.add j) = some u := by
      intro j u hu
      have hj : j < (m.flatMap cells).length := (List.getElem?_eq_some_iff.1 hu).1
      rw [flat_len cells 5 len_cells] at hj
      obtain ⟨b, off, e, _, hc⟩ := hr.1 (by omega)
      injection e with e
      subst e
      rw [WideShapes.add_plain]
      have hq := hc (j / 5) (by omega) (j % 5) u (by rw [← flat_at cells 5 len_cells _ _ _ (by omega) (Nat.mod_lt _ (by decide)), show j / 5 * 5 + j % 5 = j from by omega]; exact hu)
      rw [show off + j / 5 * 5 + j % 5 = off + j from by omega] at hq
      exact hq
    refine wpList_append_own _ hgd s x 22 ho N 36 i0 _ 5 72 Try.underlying22 hi hz0 hz1 hz2 rfl (by decide) v l.length (l.flatMap cells) hs hown.1 ad m.length c (m.flatMap cells) hx (flat_len cells 5 len_cells _) hcells (by
      intro u hu
      obtain ⟨y, _, hu⟩ := List.mem_flatMap.1 hu
      exact cells_one y u hu) (by unfold maxLen; omega) (by omega) hN ?_
    intro v' w' ho2 hg2 _
    have hk : ∀ w0, Below N w0 w → Below N w0 w' := fun w0 hb => hb.grown hg2 hN fun k hk => (World.ownsRow.lt hown.1 k hk).1
    refine h v' w' ⟨?_, ?_⟩ hk fun z hz => hz.grown hown.1 hg2
    · rw [List.length_append, List.flatMap_append]
      exact ho2
    · intro z hz
      rcases List.mem_append.1 hz with hz | hz
      · exact ⟨(hown.2 z hz).1.grown hown.1 hg2 (hown.2 z hz).2, (hown.2 z hz).2.grown hown.1 hg2⟩
      · exact ⟨(hr.2 z hz).grown hown.1 hg2 (hap z hz), (hap z hz).grown hown.1 hg2⟩

/-- append of a row's attributes onto none. -/
theorem app_attrs {ops : Array Oper} {rest : List Oper} {o : Oper} {a : Act} {Q : Exit → Act → World → Prop} (w : World) (hgd : o.guard = none) (s x : Operand)
    (ho : o.op = .call { callee := .builtin .append, args := #[s, x], argTypes := #[34, 34] })
    (N : Nat) (v : Value) (y : Cw) (hs : a.eval s = v) (hown : w.ownsRow N 40 2 v 0 []) (hx : a.eval x = .slice y.A y.ro.attrs.length y.c) (hy : Att w w.heap.size y)
    (hl : y.ro.attrs.length ≤ 2000000) (hN : N ≤ w.heap.size)
    (h : ∀ A c w', Fr N w' { y with A := A, c := c } → w.grownBy w' v.ownBlock → wpList Try.prog ops Q rest (a.put o.dst (.slice A y.ro.attrs.length c)) w') :
    wpList Try.prog ops Q (o :: rest) a w := by
  obtain ⟨i0, hi, hz0, hz1, hz2⟩ := info_parts info_attr
  obtain ⟨h1, h2, h3, h4, h5⟩ := hy
  cases hA : y.A with
  | none =>
    have hm : y.ro.attrs = [] := by
      rcases Nat.eq_zero_or_pos y.ro.attrs.length with h0 | h0
      · exact List.eq_nil_of_length_eq_zero h0
      · obtain ⟨b, off, e, _⟩ := h4 h0
        rw [hA] at e
        cases e
    have hc0 := h2 hA
    rw [hA, hc0, hm] at hx
    refine wpList_append_own_none hgd s x 34 ho N 40 i0 2 Try.underlying34 hi v 0 [] hs hown hx ?_
    rcases hown.2 with ⟨hv, _⟩ | ⟨g, cap, cur, hv, _⟩
    · subst hv
      have := h none 0 w ⟨by simpa [hm] using hown, h5⟩ (World.grownBy.refl w _)
      rwa [hm] at this
    · subst hv
      have := h (some ⟨g, 0, none⟩) cap w ⟨by simpa [hm] using hown, h5⟩ (World.grownBy.refl w _)
      rwa [hm] at this
  | some ad =>
    have hcells : ∀ j u, (y.ro.attrs.flatMap acells)[j]? = some u → w.cell? (ad.add j) = some u := by
      intro j u hu
      have hj : j < (y.ro.attrs.flatMap acells).length := (List.getElem?_eq_some_iff.1 hu).1
      rw [flat_len acells 2 len_acells] at hj
      obtain ⟨b, off, e, _, hc⟩ := h4 (by omega)
      rw [hA] at e
      injection e with e
      subst e
      rw [WideShapes.add_plain]
      have hq := hc (j / 2) (by omega) (j % 2) u (by rw [← flat_at acells 2 len_acells _ _ _ (by omega) (Nat.mod_lt _ (by decide)), show j / 2 * 2 + j % 2 = j from by omega]; exact hu)
      rw [show off + j / 2 * 2 + j % 2 = off + j from by omega] at hq
      exact hq
    rw [hA] at hx
    refine wpList_append_own _ hgd s x 34 ho N 40 i0 _ 2 32 Try.underlying34 hi hz0 hz1 hz2 rfl (by decide) v 0 [] hs hown ad y.ro.attrs.length y.c (y.ro.attrs.flatMap acells) hx (flat_len acells 2 len_acells _) hcells (acells_one _) (by unfold maxLen; omega) (by omega) hN ?_
    intro v' w' ho2 hg2 _
    rw [Nat.zero_add, List.nil_append] at ho2
    have hform : ∃ A c, v' = .slice A y.ro.attrs.length c := by
      rcases ho2.2 with ⟨hv, hn⟩ | ⟨g, cap, cur, hv, _⟩
      · exact ⟨none, 0, by rw [hn]; exact hv⟩
      · exact ⟨_, _, hv⟩
    obtain ⟨A', c', rfl⟩ := hform
    exact h A' c' w' ⟨ho2, h5⟩ hg2

end Go.Proofs.Ytgjlfcamgkeibaa.Ro
