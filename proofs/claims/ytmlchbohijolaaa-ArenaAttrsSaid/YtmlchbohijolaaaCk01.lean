/-
  Strings as lists of bytes. For every stage.
  Trees as rows, in plain words: which rows are right, where a node's tree ends, its kids, its text; nothing of the program.
  Attributes in memory: what a slice of them reads as.
  Rows in memory: what a slice of rows reads as, their attributes, a row loaded, a row in a box.
  Rows and attributes of the call's own: what they hold, what is kept where another one grows, append of a row and of attributes.
  Walks of stage 4: has, depthOf, exceeds, Big.
  Walks of stage 4: where a tree ends, its parent (rows.endOf, End, Parent; boltingref04.End, Parent).
  A set of names tells whether two attributes have the same name.
  Walks of stage 4: repeated, validRow, valid, Check.
  Walks of stage 4: validRow, valid, Check.
  Walks of stage 4: boltingref04.Row, Right, Check.
  Walks of stage 4: boltingref04.Moved, Join; rows.appendMoved; boltinglaw04.bound.
  Plain mathematics of stage 11 (a mutable document): nodes with parents and kids, well-formed ones, what stands within what, a node's tree, its rows. It speaks of no program.
  Plain mathematics of stage 11: nodes added, taken out, put into others; what stays well-formed, and which trees stay.
  Stage 11: what Load and Clone make of rows, one after the other.
  Stage 11: what the nodes of any script keep: each but the root is right; kids stand in elements and the root alone.
  Walks of stage 4: the kids of a node, by a range over a function (kidsOf).
  Walks of stage 4: Kids, placeOf; boltingref04.Kids.
  Walks of stage 4: boltingref04.Kids, boltinglaw04.nums.
  Stage 11: the reference's document in memory; its Kids.
  Stage 11: the reference's Within.
  Stage 11: what a call may touch; the reference's document as one's own.
  Stage 11: the reference's Remove and set.
  Stage 11: ranks given anew; the reference's document with ranks of its own.
  Stage 11: the reference's set.
  Stage 11: the reference's document with other rows, parents, ranks in its box.
  Stage 11: the reference's add.
  Stage 11: the reference's Insert.
  Slices of strings in memory: what a slice reads as, and a slice of the call's own. For every stage.
  Plain mathematics for stage 2: lists that rise in a strict order, merging, inserting, counting; spaces, words and small letters of bytes. Nothing of the program stands here.
  Slices of strings as values: reading (Sv), of the call's own (Sown), literals, stores; the order of strings. For every stage from 5 on.
  fold.Space.
  Plain mathematics for stage 5: the lists of elements, what each closes and what ends the search, texts that may be names. Nothing of the program stands here.
-/
import Derived.Test.YtmlchbohijolaaaRows
import Derived.WalkKit
import Derived.WalkSpells
import Derived.Lib.OthersKept
import Derived.Lib.Hide
import Derived.Lib.Strings
import Derived.OpenShut
import Derived.WalkLawsBesides
import Derived.Lib.AppendStr
import Derived.WalkSmall
import Derived.Laws.IdiomStrings
import Derived.Laws.Cover1
import Derived.Laws.OwnMore
import Derived.Laws.AppendOwnNone
import Derived.Deep.AppendLies
import Derived.Deep.Draws
import Derived.Deep.Onto
import Derived.Maps.AppendAt
import Derived.Deep.MidRow
import Derived.BigQuiet
import Derived.Deep.QuietTactic
import Derived.Maps.OwnSet
import Derived.RangeFuncBox
import Derived.RangeFuncLeaves
import Derived.Shelf.Abstract
import Derived.OwnWalkIn
import Derived.TacticsInMore
import Derived.LoopNIn
import Derived.LoopIn
import Derived.Sort.BigQuietIn
import Derived.Deep.RegionHeld3
import Derived.Deep.DeepCutAuto
namespace Go.Proofs.Ytmlchbohijolaaa.Ba
set_option linter.unusedSimpArgs false
set_option linter.unusedVariables false
open Go.RowKit
abbrev L (s : ByteArray) : List UInt8 := s.data.toList
theorem size_L (s : ByteArray) : (L s).length = s.size := by rw [Array.length_toList]; rfl
theorem drop_cons (s : ByteArray) (k : Nat) (h : k < s.size) : (L s).drop k = s[k] :: (L s).drop (k + 1) := by
  rw [List.drop_eq_getElem_cons (by rw [size_L]; exact h)]
  rfl
theorem take_snoc (s : ByteArray) (k : Nat) (h : k < s.size) : (L s).take (k + 1) = (L s).take k ++ [s[k]] := by
  rw [List.take_succ_eq_append_getElem (by rw [size_L]; exact h)]; rfl

theorem ret_int {k : IntKind} {a b : Int} (h : a = b) : Ending.returned (.int k a) = .returned (.int k b) := by rw [h]
theorem ret_bool {a b : Bool} (h : a = b) : Ending.returned (.bool a) = .returned (.bool b) := by rw [h]
/-- A string of these bytes. -/
def B (l : List UInt8) : ByteArray := ⟨l.toArray⟩
theorem toList_L (s : ByteArray) : s.toList = L s := by
  obtain ⟨⟨x⟩⟩ := s
  exact ByteArray.toList_mk x
theorem L_inj {a b : ByteArray} (h : L a = L b) : a = b := WideShapes.bytes_inj h
theorem eq_of_toList {a b : ByteArray} : (a.toList == b.toList) = decide (a = b) := by
  rw [toList_L, toList_L, Bool.eq_iff_iff, beq_iff_eq, decide_eq_true_iff]
  exact ⟨L_inj, fun h => by rw [h]⟩
theorem u8_eq {a b : UInt8} : (((a.toNat : Int)) == (b.toNat : Int)) = (a == b) := by
  rw [Bool.eq_iff_iff, beq_iff_eq, beq_iff_eq]
  exact ⟨fun h => UInt8.toNat.inj (by omega), fun h => by rw [h]⟩

theorem bt {w w1 w2 : World} (h1 : Below w.heap.size w w1) (h2 : Below w1.heap.size w1 w2) : Below w.heap.size w w2 := h1.trans (h2.mono h1.size)
end Go.Proofs.Ytmlchbohijolaaa.Ba

namespace Go.Proofs.Ytmlchbohijolaaa.Ro
set_option linter.unusedVariables false
set_option linter.unusedSimpArgs false

structure At where
  name : ByteArray
  value : ByteArray
deriving DecidableEq
structure Ro where
  depth : Int
  kind : Int
  name : ByteArray
  data : ByteArray
  attrs : List At
deriving DecidableEq

/-- Is there one that stands at this depth or deeper, or too many? -/
def exceeds (l : List Ro) (n d : Int) : Bool := decide (n < l.length) || l.any fun x => decide (d ≤ x.depth)

/-- Are two names the same? -/
def twice : List At → Bool
  | [] => false
  | a :: r => r.any (fun b => decide (b.name = a.name)) || twice r
def okRow (x : Ro) : Bool := if (x.kind == 0) = true then !x.name.toList.isEmpty && x.data.toList.isEmpty && !twice x.attrs else (x.kind == 1 || x.kind == 2) && x.name.toList.isEmpty && (x.attrs.length : Int) == 0
/-- Right from here on, where a row may stand at most at depth m. -/
def rightFrom (m : Int) : List Ro → Bool
  | [] => true
  | x :: r => decide (0 ≤ x.depth) && decide (x.depth ≤ m) && okRow x && rightFrom (if x.kind = 0 then x.depth + 1 else x.depth) r
def right (l : List Ro) : Bool := rightFrom 0 l

/-- The depth of row i; of -1, which stands for what has the roots: -1. -/
def dep (l : List Ro) (i : Int) : Int := if i = -1 then -1 else ((l[i.toNat]?).map (·.depth)).getD 0
theorem dep_at {l : List Ro} {k : Nat} {x : Ro} (h : l[k]? = some x) : dep l k = x.depth := by
  unfold dep
  rw [if_neg (by omega), Int.toNat_natCast, h]
  rfl
/-- What stands behind row i and deeper than it. -/
def below (l : List Ro) (i : Int) : List Ro := (l.drop (i + 1).toNat).takeWhile fun x => decide (dep l i < x.depth)
/-- Where the tree of row i ends. -/
def endOf (l : List Ro) (i : Int) : Nat := (i + 1).toNat + (below l i).length
def hasRow (l : List Ro) (i : Int) : Bool := decide (0 ≤ i ∧ i < l.length)
/-- The last row ahead of n that is less deep than d. -/
def up (l : List Ro) (d : Int) : Nat → Int
  | 0 => -1
  | n + 1 => if dep l n < d then n else up l d n
def parent (l : List Ro) (i : Int) : Int := if hasRow l i then up l (dep l i) i.toNat else -1
end Go.Proofs.Ytmlchbohijolaaa.Ro

namespace Go.Proofs.Ytmlchbohijolaaa.Ro
set_option maxRecDepth 100000
set_option linter.unusedVariables false
set_option linter.unusedSimpArgs false
open Go.RowKit Ba
def acells (a : At) : List Value := [.string a.name, .string a.value]
theorem len_acells (x : At) : (acells x).length = 2 := rfl
/-- These attributes lie at A, below block N. -/
def Ra (w : World) (N : Nat) (A : Option Addr) (l : List At) : Prop :=
  0 < l.length → ∃ b off, A = some ⟨b, off, none⟩ ∧ b < N ∧ ∀ j (h : j < l.length), w.rangeAt b (off + j * 2) (acells l[j])
/-- Their names are no longer than a string can be. -/
def Sh (l : List At) : Prop := ∀ a ∈ l, a.name.size ≤ maxLen
theorem range_keep {w w' : World} {b o : Nat} {cs : List Value} (h : w.rangeAt b o cs) (hk : ∀ o, w'.cell? ⟨b, o, none⟩ = w.cell? ⟨b, o, none⟩) : w'.rangeAt b o cs := fun j v hv => (hk _).trans (h j v hv)
theorem Ra.keep {w w' : World} {N : Nat} {A : Option Addr} {l : List At} (h : Ra w N A l) (hk : ∀ b o, b < N → w'.cell? ⟨b, o, none⟩ = w.cell? ⟨b, o, none⟩) : Ra w' N A l := fun h0 => by
  obtain ⟨b, off, e, hb, hc⟩ := h h0
  exact ⟨b, off, e, hb, fun j hj => range_keep (hc j hj) fun o => hk b o hb⟩
theorem Ra.more {w : World} {N M : Nat} {A : Option Addr} {l : List At} (h : Ra w N A l) (hN : N ≤ M) : Ra w M A l := fun h0 => by
  obtain ⟨b, off, e, hb, hc⟩ := h h0
  exact ⟨b, off, e, by omega, hc⟩
theorem Ra.below {w w' : World} {N M : Nat} {A : Option Addr} {l : List At} (h : Ra w N A l) (hb : Below M w w') (hN : N ≤ M := by exact Nat.le_refl _) : Ra w' N A l := h.keep fun b o hbN => hb.cell (p := ⟨b, o, none⟩) (show b < M by omega)
theorem Ra.nil (w : World) (N : Nat) (A : Option Addr) : Ra w N A [] := fun h => absurd h (by simp)
theorem info_attr : (Try.prog.info? 63).map (fun i => (i.zero, i.size, i.bytes)) = some (some (.agg #[.string .empty, .string .empty]), 2, 32) := by kernel_rfl
theorem range5 {w : World} {b o : Nat} {v0 v1 v2 v3 v4 : Value} (h : w.rangeAt b o [v0, v1, v2, v3, v4]) :
    w.cell? ⟨b, o, none⟩ = some v0 ∧ w.cell? ⟨b, o + 1, none⟩ = some v1 ∧ w.cell? ⟨b, o + 2, none⟩ = some v2 ∧ w.cell? ⟨b, o + 3, none⟩ = some v3 ∧ w.cell? ⟨b, o + 4, none⟩ = some v4 :=
  ⟨h 0 _ rfl, h 1 _ rfl, h 2 _ rfl, h 3 _ rfl, h 4 _ rfl⟩
theorem range2 {w : World} {b o : Nat} {v0 v1 : Value} (h : w.rangeAt b o [v0, v1]) : w.cell? ⟨b, o, none⟩ = some v0 ∧ w.cell? ⟨b, o + 1, none⟩ = some v1 := ⟨h 0 _ rfl, h 1 _ rfl⟩
theorem Ra.at_ {w : World} {N : Nat} {A : Option Addr} {l : List At} (h : Ra w N A l) (k : Nat) (hk : k < l.length) :
    ∃ b off x, A = some ⟨b, off, none⟩ ∧ b < N ∧ l.drop k = x :: l.drop (k + 1) ∧ w.rangeAt b (off + k * 2) [.string x.name, .string x.value] ∧ x ∈ l := by
  obtain ⟨b, off, e, hb, hc⟩ := h (by omega)
  exact ⟨b, off, l[k], e, hb, List.drop_eq_getElem_cons hk, hc k hk, List.getElem_mem _⟩
theorem below_new (w : World) (o : Obj) : Below w.heap.size w (w.alloc o) := (Below.refl _ _).alloc (Nat.le_refl _) _
theorem flat_at {α : Type} (f : α → List Value) (m : Nat) (hm : ∀ x, (f x).length = m) : ∀ (l : List α) (j i : Nat) (h : j < l.length), i < m → (l.flatMap f)[j * m + i]? = (f l[j])[i]?
  | [], j, _, h, _ => absurd h (by simp)
  | x :: r, 0, i, _, hi => by
    rw [List.flatMap_cons, List.getElem?_append_left (by rw [hm]; omega)]
    simp
  | x :: r, j + 1, i, h, hi => by
    rw [List.flatMap_cons, List.getElem?_append_right (by rw [hm, Nat.add_mul]; omega), hm, show (j + 1) * m + i - m = j * m + i from by rw [Nat.add_mul]; omega]
    rw [flat_at f m hm r j i (by simpa using h) hi]
    rfl
theorem flat_len {α : Type} (f : α → List Value) (m : Nat) (hm : ∀ x, (f x).length = m) : ∀ l : List α, (l.flatMap f).length = l.length * m
  | [] => by simp
  | x :: r => by rw [List.flatMap_cons, List.length_append, hm, flat_len f m hm r, List.length_cons, Nat.add_mul]; omega
theorem acells_one (l : List At) : ∀ u ∈ l.flatMap acells, u.oneCell' = true := by
  intro u hu
  obtain ⟨x, _, hu⟩ := List.mem_flatMap.1 hu
  simp only [acells, List.mem_cons, List.not_mem_nil, or_false] at hu
  rcases hu with rfl | rfl <;> rfl
end Go.Proofs.Ytmlchbohijolaaa.Ro

namespace Go.Proofs.Ytmlchbohijolaaa.Ro
set_option maxRecDepth 100000
set_option linter.unusedVariables false
set_option linter.unusedSimpArgs false
open Go.RowKit Ba
/-- A row as it lies: where its attributes are, and how much room is there. -/
structure Cw where
  ro : Ro
  A : Option Addr
  c : Nat

def cells (x : Cw) : List Value := [.int .i64 x.ro.depth, .int .i64 x.ro.kind, .string x.ro.name, .string x.ro.data, .slice x.A x.ro.attrs.length x.c]
theorem len_cells (x : Cw) : (cells x).length = 5 := rfl
def Att (w : World) (N : Nat) (x : Cw) : Prop := x.ro.attrs.length ≤ x.c ∧ (x.A = none → x.c = 0) ∧ x.c ≤ maxLen ∧ Ra w N x.A x.ro.attrs ∧ Sh x.ro.attrs
/-- These rows lie at A, below block N, and their attributes. -/
def Rr (w : World) (N : Nat) (A : Option Addr) (l : List Cw) : Prop :=
  (0 < l.length → ∃ b off, A = some ⟨b, off, none⟩ ∧ b < N ∧ ∀ j (h : j < l.length), w.rangeAt b (off + j * 5) (cells l[j])) ∧ ∀ x ∈ l, Att w N x
/-- A row as a value. -/
abbrev rowV (x : Cw) : Value := .agg #[.int .i64 x.ro.depth, .int .i64 x.ro.kind, .string x.ro.name, .string x.ro.data, .slice x.A x.ro.attrs.length x.c]
def ros (l : List Cw) : List Ro := l.map Cw.ro
theorem len_ros (l : List Cw) : (ros l).length = l.length := List.length_map _
theorem ros_append (a b : List Cw) : ros (a ++ b) = ros a ++ ros b := by simp [ros]
theorem ros_cons (a : Cw) (b : List Cw) : ros (a :: b) = a.ro :: ros b := rfl

theorem Att.keep {w w' : World} {N : Nat} {x : Cw} (h : Att w N x) (hk : ∀ b o, b < N → w'.cell? ⟨b, o, none⟩ = w.cell? ⟨b, o, none⟩) : Att w' N x := ⟨h.1, h.2.1, h.2.2.1, h.2.2.2.1.keep hk, h.2.2.2.2⟩
theorem Att.more {w : World} {N M : Nat} {x : Cw} (h : Att w N x) (hN : N ≤ M) : Att w M x := ⟨h.1, h.2.1, h.2.2.1, h.2.2.2.1.more hN, h.2.2.2.2⟩
theorem Att.below {w w' : World} {N M : Nat} {x : Cw} (h : Att w N x) (hb : Below M w w') (hN : N ≤ M := by exact Nat.le_refl _) : Att w' N x := h.keep fun b o hbN => hb.cell (p := ⟨b, o, none⟩) (show b < M by omega)
theorem Rr.keep {w w' : World} {N : Nat} {A : Option Addr} {l : List Cw} (h : Rr w N A l) (hk : ∀ b o, b < N → w'.cell? ⟨b, o, none⟩ = w.cell? ⟨b, o, none⟩) : Rr w' N A l :=
  ⟨fun h0 => by
    obtain ⟨b, off, e, hb, hc⟩ := h.1 h0
    exact ⟨b, off, e, hb, fun j hj => range_keep (hc j hj) fun o => hk b o hb⟩, fun x hx => (h.2 x hx).keep hk⟩
theorem Rr.more {w : World} {N M : Nat} {A : Option Addr} {l : List Cw} (h : Rr w N A l) (hN : N ≤ M) : Rr w M A l :=
  ⟨fun h0 => by
    obtain ⟨b, off, e, hb, hc⟩ := h.1 h0
    exact ⟨b, off, e, by omega, hc⟩, fun x hx => (h.2 x hx).more hN⟩
theorem Rr.below {w w' : World} {N M : Nat} {A : Option Addr} {l : List Cw} (h : Rr w N A l) (hb : Below M w w') (hN : N ≤ M := by exact Nat.le_refl _) : Rr w' N A l := h.keep fun b o hbN => hb.cell (p := ⟨b, o, none⟩) (show b < M by omega)
theorem Rr.nil (w : World) (N : Nat) (A : Option Addr) : Rr w N A [] := ⟨fun h => absurd h (by simp), fun _ h => by simp at h⟩
/-- A part of it: what the model makes of l[i:j]. -/
theorem Rr.part {w : World} {N : Nat} {A : Option Addr} {l : List Cw} (h : Rr w N A l) (i j cap : Nat) (hij : i ≤ j) (hj : j ≤ l.length) (hc : l.length ≤ cap) :
    Rr w N (if cap = i then A else A.map (·.add (i * 5))) ((l.take j).drop i) := by
  refine ⟨fun h0 => ?_, fun x hx => h.2 x (List.mem_of_mem_take (List.mem_of_mem_drop hx))⟩
  rw [List.length_drop, List.length_take] at h0
  obtain ⟨b, off, e, hb, hcc⟩ := h.1 (by omega)
  rw [if_neg (by omega), e]
  refine ⟨b, off + i * 5, by simp [WideShapes.add_plain], hb, fun k hk => ?_⟩
  rw [List.length_drop, List.length_take] at hk
  have := hcc (i + k) (by omega)
  rw [show off + i * 5 + k * 5 = off + (i + k) * 5 from by omega]
  simpa using this

theorem info_row : (Try.prog.info? 65).map (fun i => (i.zero, i.size, i.bytes)) = some (some (.agg #[.int .i64 0, .int .i64 0, .string .empty, .string .empty, .slice none 0 0]), 5, 72) := by kernel_rfl
theorem size_row : (Try.prog.info? 65).map (·.size) = some 5 := by kernel_rfl
/-- The row at k. -/
theorem Rr.at_ {w : World} {N : Nat} {A : Option Addr} {l : List Cw} (h : Rr w N A l) (k : Nat) (hk : k < l.length) :
    ∃ b off x, A = some ⟨b, off, none⟩ ∧ b < N ∧ l.drop k = x :: l.drop (k + 1) ∧ w.rangeAt b (off + k * 5) [.int .i64 x.ro.depth, .int .i64 x.ro.kind, .string x.ro.name, .string x.ro.data, .slice x.A x.ro.attrs.length x.c] ∧ Att w N x ∧ x ∈ l := by
  obtain ⟨b, off, e, hb, hc⟩ := h.1 (by omega)
  exact ⟨b, off, l[k], e, hb, List.drop_eq_getElem_cons hk, hc k hk, h.2 _ (List.getElem_mem _), List.getElem_mem _⟩
/-- A row in a box of its own. -/
abbrev rowO (x : Cw) : Obj := .cells #[.int .i64 x.ro.depth, .int .i64 x.ro.kind, .string x.ro.name, .string x.ro.data, .slice x.A x.ro.attrs.length x.c] 65
theorem box_at (w : World) (x : Cw) (j : Nat) : (w.alloc (rowO x)).cell? ⟨w.heap.size, j, none⟩ = (cells x)[j]? := by
  rw [World.cell?_alloc_mark]
  match j with
  | 0 | 1 | 2 | 3 | 4 => rfl
  | j + 5 => simp [cells]
theorem box_kept {w w3 : World} {x : Cw} (hb : Below (w.alloc (rowO x)).heap.size (w.alloc (rowO x)) w3) (j : Nat) : w3.cell? ⟨w.heap.size, j, none⟩ = (cells x)[j]? :=
  (hb.cell (p := ⟨w.heap.size, j, none⟩) (by simp)).trans (box_at w x j)
theorem Att.boxed {w w0 : World} {x : Cw} (h : Att w w0.heap.size x) (hb : Below w0.heap.size w0 w) (o : Obj) : Att (w.alloc o) (w.alloc o).heap.size x :=
  ((h.more hb.size).below (below_new w o)).more (by simp)
end Go.Proofs.Ytmlchbohijolaaa.Ro

namespace Go.Proofs.Ytmlchbohijolaaa.Ro
set_option maxRecDepth 100000
set_option linter.unusedVariables false
set_option linter.unusedSimpArgs false
open Go.RowKit Ba
/-- The attributes of a row lie where no row of the call's own can lie. -/
def Ap (w : World) (N : Nat) (x : Cw) : Prop := 0 < x.ro.attrs.length → ∃ b off, x.A = some ⟨b, off, none⟩ ∧ (b < N ∨ ∃ cs fr, w.heap[b]? = some (.cells cs 63 fr))
/-- The attributes of a row are the call's own. -/
def Fr (N : Nat) (w : World) (x : Cw) : Prop := w.ownsRow N 63 2 (.slice x.A x.ro.attrs.length x.c) x.ro.attrs.length (x.ro.attrs.flatMap acells) ∧ Sh x.ro.attrs
/-- v is a slice of rows of the call's own. -/
def Ow (N : Nat) (w : World) (v : Value) (l : List Cw) : Prop := w.ownsRow N 65 5 v l.length (l.flatMap cells) ∧ ∀ x ∈ l, Att w w.heap.size x ∧ Ap w N x

theorem Fr.att {N : Nat} {w : World} {x : Cw} (h : Fr N w x) : Att w w.heap.size x := by
  obtain ⟨⟨hl, h⟩, hs⟩ := h
  rcases h with ⟨hv, hn⟩ | ⟨g, cap, cur, hv, hg, hh, hn, hm, hsz, ht⟩
  · injection hv with e1 e2 e3
    refine ⟨by omega, fun _ => e3, by rw [e3]; exact Nat.zero_le _, fun h0 => by omega, hs⟩
  · have hh0 : w.ownsRow N 63 2 (.slice x.A x.ro.attrs.length x.c) x.ro.attrs.length (x.ro.attrs.flatMap acells) := ⟨hl, .inr ⟨g, cap, cur, hv, hg, hh, hn, hm, hsz, ht⟩⟩
    injection hv with e1 _ e3
    refine ⟨by omega, (fun e => by rw [e] at e1; cases e1), by rw [e3]; exact hm, fun h0 => ⟨g, 0, e1, (Array.getElem?_eq_some_iff.1 hh).1, fun j hj i v hv => ?_⟩, hs⟩
    have hi : i < 2 := (List.getElem?_eq_some_iff.1 hv).1
    have := World.ownsRow.cells hh0 (g := g) (by rw [e1]; rfl) (j * 2 + i) v (by rw [flat_at acells 2 len_acells _ _ _ hj hi]; exact hv)
    rw [WideShapes.add_plain] at this
    rw [show 0 + j * 2 + i = 0 + (j * 2 + i) from by omega]
    exact this
theorem Fr.ap {N : Nat} {w : World} {x : Cw} (h : Fr N w x) : Ap w N x := fun h0 => by
  obtain ⟨⟨_, h⟩, _⟩ := h
  rcases h with ⟨hv, hn⟩ | ⟨g, cap, cur, hv, hg, hh, _⟩
  · omega
  · injection hv with e1
    exact ⟨g, 0, e1, .inr ⟨_, _, hh⟩⟩
theorem Fr.below {N M : Nat} {w w' : World} {x : Cw} (h : Fr N w x) (hb : Below M w w') (hM : w.heap.size ≤ M := by exact Nat.le_refl _) : Fr N w' x := by
  refine ⟨⟨h.1.1, ?_⟩, h.2⟩
  rcases h.1.2 with hn | ⟨g, cap, cur, hv, hg, hh, rest⟩
  · exact .inl hn
  · refine .inr ⟨g, cap, cur, hv, hg, ?_, rest⟩
    have hlt : g < w.heap.size := (Array.getElem?_eq_some_iff.1 hh).1
    rw [hb.block g (by omega)]
    exact hh
theorem Ap.below {N M : Nat} {w w' : World} {x : Cw} (h : Ap w N x) (hb : Below M w w') (hM : w.heap.size ≤ M := by exact Nat.le_refl _) : Ap w' N x := fun h0 => by
  obtain ⟨b, off, e, h⟩ := h h0
  refine ⟨b, off, e, ?_⟩
  rcases h with h | ⟨cs, fr, h⟩
  · exact .inl h
  · refine .inr ⟨cs, fr, ?_⟩
    have hlt : b < w.heap.size := (Array.getElem?_eq_some_iff.1 h).1
    rw [hb.block b (by omega)]
    exact h
theorem Att.apart {N : Nat} {w : World} {x : Cw} (h : Att w N x) : Ap w N x := fun h0 => by
  obtain ⟨b, off, e, hb, _⟩ := h.2.2.2.1 h0
  exact ⟨b, off, e, .inl hb⟩
theorem Ow.nil (N : Nat) (w : World) : Ow N w (.slice none 0 0) [] := ⟨World.ownsRow_nil w N _ 5, fun _ h => by simp at h⟩
theorem Ow.below {N M : Nat} {w w' : World} {v : Value} {l : List Cw} (h : Ow N w v l) (hb : Below M w w') (hM : w.heap.size ≤ M := by exact Nat.le_refl _) : Ow N w' v l := by
  refine ⟨⟨h.1.1, ?_⟩, fun x hx => ⟨((h.2 x hx).1.below hb hM).more hb.size, (h.2 x hx).2.below hb hM⟩⟩
  rcases h.1.2 with hn | ⟨g, cap, cur, hv, hg, hh, rest⟩
  · exact .inl hn
  · refine .inr ⟨g, cap, cur, hv, hg, ?_, rest⟩
    have hlt : g < w.heap.size := (Array.getElem?_eq_some_iff.1 hh).1
    rw [hb.block g (by omega)]
    exact hh
theorem Ow.alloc {N : Nat} {w : World} {v : Value} {l : List Cw} (h : Ow N w v l) (o : Obj) : Ow N (w.alloc o) v l := h.below (below_new w o)
theorem Ow.mono {N N' : Nat} {w : World} {v : Value} {l : List Cw} (h : Ow N w v l) (hN : N' ≤ N) (hl : ∀ x ∈ l, Ap w N' x) : Ow N' w v l := ⟨World.ownsRow.mono h.1 hN, fun x hx => ⟨(h.2 x hx).1, hl x hx⟩⟩
/-- What a slice of the call's own is, and reads as. -/
theorem Ow.form {N : Nat} {w : World} {v : Value} {l : List Cw} (h : Ow N w v l) : ∃ A c, v = .slice A l.length c ∧ l.length ≤ c ∧ c ≤ maxLen ∧ (A = none → c = 0) ∧ Rr w w.heap.size A l := by
  rcases h.1.2 with ⟨hv, hl⟩ | ⟨g, cap, cur, hv, hg, hh, hn, hm, hs, ht⟩
  · have : l = [] := List.eq_nil_of_length_eq_zero hl
    subst this
    exact ⟨none, 0, hv, Nat.le_refl _, Nat.zero_le _, fun _ => rfl, Rr.nil _ _ _⟩
  · refine ⟨some ⟨g, 0, none⟩, cap, hv, hn, hm, (fun e => by cases e), fun _ => ⟨g, 0, rfl, (Array.getElem?_eq_some_iff.1 hh).1, fun j hj i u hu => ?_⟩, fun x hx => (h.2 x hx).1⟩
    have hi : i < 5 := (List.getElem?_eq_some_iff.1 hu).1
    subst hv
    have := World.ownsRow.cells h.1 (g := g) rfl (j * 5 + i) u (by rw [flat_at cells 5 len_cells _ _ _ hj hi]; exact hu)
    rw [WideShapes.add_plain] at this
    rw [show 0 + j * 5 + i = 0 + (j * 5 + i) from by omega]
    exact this

/-- A block of attributes is none of rows. -/
theorem block_ne {N n : Nat} {w : World} {v : Value} {xs : List Value} {b : Nat} {cs : Array Value} {fr : Nat × Nat} (h : w.ownsRow N 65 5 v n xs) (hb : w.heap[b]? = some (.cells cs 63 fr)) : some b ≠ v.ownBlock := by
  rcases h.2 with ⟨rfl, _⟩ | ⟨g, cap, cur, rfl, _, hh, _⟩
  · simp [Value.ownBlock]
  · intro e
    have e : b = g := by simpa [Value.ownBlock] using e
    subst e
    rw [hb] at hh
    injection hh with hh
    injection hh with _ ht
    exact absurd ht (by decide)
theorem low_ne {N n : Nat} {w : World} {v : Value} {xs : List Value} {b : Nat} (h : w.ownsRow N 65 5 v n xs) (hb : b < N) : some b ≠ v.ownBlock := fun e => by
  have := (World.ownsRow.lt h b e.symm).1
  omega
theorem Att.grown {N n : Nat} {w w' : World} {v : Value} {xs : List Value} {y : Cw} (h : w.ownsRow N 65 5 v n xs) (hg : w.grownBy w' v.ownBlock) (hy : Att w w.heap.size y) (ha : Ap w N y) : Att w' w'.heap.size y := by
  refine ⟨hy.1, hy.2.1, hy.2.2.1, fun h0 => ?_, hy.2.2.2.2⟩
  obtain ⟨b, off, e, hb, hc⟩ := hy.2.2.2.1 h0
  obtain ⟨b', off', e', ha⟩ := ha h0
  rw [e] at e'
  injection e' with e'
  injection e' with e1 e2
  subst e1 e2
  have hne : some b ≠ v.ownBlock := by
    rcases ha with ha | ⟨cs, fr, ha⟩
    · exact low_ne h ha
    · exact block_ne h ha
  exact ⟨b, off, e, Nat.lt_of_lt_of_le hb hg.size, fun j hj => range_keep (hc j hj) fun o => World.cell?_of_block (a := ⟨b, o, none⟩) (hg.block b hb hne)⟩
theorem Ap.grown {N n : Nat} {w w' : World} {v : Value} {xs : List Value} {y : Cw} (h : w.ownsRow N 65 5 v n xs) (hg : w.grownBy w' v.ownBlock) (ha : Ap w N y) : Ap w' N y := fun h0 => by
  obtain ⟨b, off, e, ha⟩ := ha h0
  refine ⟨b, off, e, ?_⟩
  rcases ha with ha | ⟨cs, fr, ha⟩
  · exact .inl ha
  · exact .inr ⟨cs, fr, (hg.block b (Array.getElem?_eq_some_iff.1 ha).1 (block_ne h ha)).trans ha⟩
theorem Fr.grown {N n : Nat} {w w' : World} {v : Value} {xs : List Value} {y : Cw} (h : w.ownsRow N 65 5 v n xs) (hg : w.grownBy w' v.ownBlock) (hy : Fr N w y) : Fr N w' y := by
  refine ⟨⟨hy.1.1, ?_⟩, hy.2⟩
  rcases hy.1.2 with hn | ⟨g, cap, cur, hv, hg', hh, rest⟩
  · exact .inl hn
  · exact .inr ⟨g, cap, cur, hv, hg', (hg.block g (Array.getElem?_eq_some_iff.1 hh).1 (block_ne h hh)).trans hh, rest⟩

theorem row_cells_new (w : World) (x : Cw) : ∀ j u, (cells x)[j]? = some u → (w.alloc (rowO x)).cell? ((⟨w.heap.size, 0, none⟩ : Addr).add j) = some u := fun j u hu => by
  rw [WideShapes.add_plain, Nat.zero_add]
  exact (box_at w x j).trans hu
theorem cells_one (x : Cw) : ∀ u ∈ cells x, u.oneCell' = true := by
  intro u hu
  simp only [cells, List.mem_cons, List.not_mem_nil, or_false] at hu
  rcases hu with rfl | rfl | rfl | rfl | rfl <;> rfl
/-- append of one row, in a block of its own, onto rows of the call's own. -/
theorem app_row {ops : Array Oper} {rest : List Oper} {o : Oper} {a : Act} {Q : Exit → Act → World → Prop} (w : World) (hgd : o.guard = none) (s x : Operand)
    (ho : o.op = .call { callee := .builtin .append, args := #[s, x], argTypes := #[27, 27] })
    (N : Nat) (v : Value) (l : List Cw) (y : Cw) (hs : a.eval s = v) (hown : Ow N w v l) (hy : Att w w.heap.size y) (hap : Ap w N y) (g : Nat) (hgz : g = w.heap.size) (hx : a.eval x = .slice (some ⟨g, 0, none⟩) 1 1)
    (hl : l.length ≤ 2000000) (hN : N ≤ w.heap.size)
    (h : ∀ v' w', Ow N w' v' (l ++ [y]) → (∀ w0, Below N w0 w → Below N w0 w') → (∀ z, Fr N w z → Fr N w' z) → wpList Try.prog ops Q rest (a.put o.dst v') w') :
    wpList Try.prog ops Q (o :: rest) a (w.alloc (rowO y)) := by
  subst hgz
  obtain ⟨i0, hi, hz0, hz1, hz2⟩ := info_parts info_row
  have hown' : Ow N (w.alloc (rowO y)) v l := hown.alloc _
  have hsz : (w.alloc (rowO y)).heap.size = w.heap.size + 1 := by simp
  refine wpList_append_own _ hgd s x 27 ho N 65 i0 _ 5 72 Try.underlying27 hi hz0 hz1 hz2 rfl (by decide) v l.length (l.flatMap cells) hs hown'.1 ⟨w.heap.size, 0, none⟩ 1 1 (cells y) hx rfl (row_cells_new w y) (cells_one y) (by unfold maxLen; omega) (by omega) (by omega) ?_
  intro v' w' ho2 hg2 _
  have hk : ∀ w0, Below N w0 w → Below N w0 w' := fun w0 hb => (hb.alloc hN _).grown hg2 (by omega) fun k hk => (World.ownsRow.lt hown'.1 k hk).1
  refine h v' w' ⟨?_, ?_⟩ hk fun z hz => (hz.below (below_new w (rowO y))).grown hown'.1 hg2
  · rw [List.length_append, List.flatMap_append]
    simpa using ho2
  · intro z hz
    rcases List.mem_append.1 hz with hz | hz
    · exact ⟨(hown'.2 z hz).1.grown hown'.1 hg2 (hown'.2 z hz).2, (hown'.2 z hz).2.grown hown'.1 hg2⟩
    · obtain rfl := List.mem_singleton.1 hz
      have h1 : Att (w.alloc (rowO z)) (w.alloc (rowO z)).heap.size z := hy.boxed (Below.refl _ _) (rowO z)
      have h2 := hap.below (below_new w (rowO z))
      exact ⟨h1.grown hown'.1 hg2 h2, h2.grown hown'.1 hg2⟩

end Go.Proofs.Ytmlchbohijolaaa.Ro

namespace Go.Proofs.Ytmlchbohijolaaa.Ro
set_option maxRecDepth 100000
set_option linter.unusedVariables false
set_option linter.unusedSimpArgs false
open Go.RowKit Ba
end Go.Proofs.Ytmlchbohijolaaa.Ro

namespace Go.Proofs.Ytmlchbohijolaaa.Ro
set_option maxRecDepth 100000
set_option linter.unusedVariables false
set_option linter.unusedSimpArgs false
open Go.RowKit Ba
theorem Rr.drewN {w : World} {N : Nat} {A : Option Addr} {l : List Cw} (h : Rr w N A l) (k : Nat) : Rr (w.drewN k) N A l := h

/-- Depths that do not wrap. -/
def Deep (l : List Ro) : Prop := ∀ x ∈ l, 0 ≤ x.depth ∧ x.depth ≤ 1000000
theorem Deep.at_ {l : List Cw} (h : Deep (ros l)) {x : Cw} (hx : x ∈ l) : 0 ≤ x.ro.depth ∧ x.ro.depth ≤ 1000000 := h _ (List.mem_map.2 ⟨x, hx, rfl⟩)
end Go.Proofs.Ytmlchbohijolaaa.Ro

namespace Go.Proofs.Ytmlchbohijolaaa.Ro
set_option linter.unusedVariables false
set_option linter.unusedSimpArgs false
open Go.RowKit Ba Go.Maps
def key (a : At) : Lit := .string a.name.data.toList
def names {H : Type} (l : List At) : DataW H := setOf (.agg []) (l.map key)
end Go.Proofs.Ytmlchbohijolaaa.Ro

namespace Go.Proofs.Ytmlchbohijolaaa.Ro
set_option maxRecDepth 100000
set_option linter.unusedVariables false
set_option linter.unusedSimpArgs false
open Go.RowKit Ba Go.Maps Go.WideMaps
end Go.Proofs.Ytmlchbohijolaaa.Ro

namespace Go.Proofs.Ytmlchbohijolaaa.Ro
set_option maxRecDepth 100000
set_option linter.unusedVariables false
set_option linter.unusedSimpArgs false
open Go.RowKit Ba
/-- Are rows trees, within the limits? -/
def check (l : List Ro) : Int := if exceeds l 4096 60 then 2 else if right l then 0 else 40
end Go.Proofs.Ytmlchbohijolaaa.Ro

namespace Go.Proofs.Ytmlchbohijolaaa.Ro
set_option maxRecDepth 100000
set_option linter.unusedVariables false
set_option linter.unusedSimpArgs false
open Go.RowKit Ba
theorem below_dN {B : Nat} {w w' : World} (h : Below B w w') (n : Nat) : Below B w (w'.drewN n) := ⟨h.1, h.2, h.3, h.4, h.5⟩

end Go.Proofs.Ytmlchbohijolaaa.Ro

namespace Go.Proofs.Ytmlchbohijolaaa.Ro
set_option maxRecDepth 100000
set_option linter.unusedVariables false
set_option linter.unusedSimpArgs false
open Go.RowKit Ba
/-- Rows so much deeper. -/
def deeper (by_ : Int) (l : List Ro) : List Ro := l.map fun x => { x with depth := x.depth + by_ }
/-- No row has more attributes than that. -/
def Few (l : List Ro) : Prop := ∀ x ∈ l, x.attrs.length ≤ 1000000
theorem Few.at_ {l : List Cw} (h : Few (ros l)) {x : Cw} (hx : x ∈ l) : x.ro.attrs.length ≤ 1000000 := h _ (List.mem_map.2 ⟨x, hx, rfl⟩)
/-- So much deeper they do not wrap. -/
def Fits (by_ : Int) (l : List Ro) : Prop := ∀ x ∈ l, -9223372036854775808 ≤ x.depth + by_ ∧ x.depth + by_ ≤ 9223372036854775807
theorem Fits.at_ {d : Int} {l : List Cw} (h : Fits d (ros l)) {x : Cw} (hx : x ∈ l) : -9223372036854775808 ≤ x.ro.depth + d ∧ x.ro.depth + d ≤ 9223372036854775807 := h _ (List.mem_map.2 ⟨x, hx, rfl⟩)

theorem Fr.mono {N N' : Nat} {w : World} {x : Cw} (h : Fr N w x) (hN : N' ≤ N) : Fr N' w x := ⟨World.ownsRow.mono h.1 hN, h.2⟩
theorem Fr.set {N : Nat} {w : World} {x : Cw} {p : Addr} {u : Value} (h : Fr N w x) (hp : p.block < N) : Fr N (w.setCell p u) x := by
  refine ⟨⟨h.1.1, ?_⟩, h.2⟩
  rcases h.1.2 with hn | ⟨g, cap, cur, hv, hg, hh, rest⟩
  · exact .inl hn
  · exact .inr ⟨g, cap, cur, hv, hg, (Below.heap_setCell w p u g (by omega)).trans hh, rest⟩
abbrev deep2 (d : Int) (x : Cw) (A : Option Addr) (c : Nat) : Cw := ⟨⟨x.ro.depth + d, x.ro.kind, x.ro.name, x.ro.data, x.ro.attrs⟩, A, c⟩
/-- What a copied row is, in the world where its attributes have been stored into its box. -/
theorem copied {N : Nat} {w w2 : World} {d : Int} {x : Cw} {A : Option Addr} {c : Nat} {v : Value} {acc : List Cw} (hN : N ≤ w.heap.size) (hb : Below w.heap.size w w2) (hf : Fr (w.heap.size + 1) w2 (deep2 d x A c)) (hown : Ow N w v acc) (hfr : ∀ x ∈ acc, Fr N w x) (u : Value) :
    Ow N (w2.setCell ⟨w.heap.size, 4, none⟩ u) v acc ∧ (∀ x ∈ acc, Fr N (w2.setCell ⟨w.heap.size, 4, none⟩ u) x) ∧ Att (w2.setCell ⟨w.heap.size, 4, none⟩ u) (w2.setCell ⟨w.heap.size, 4, none⟩ u).heap.size (deep2 d x A c) ∧ Ap (w2.setCell ⟨w.heap.size, 4, none⟩ u) N (deep2 d x A c) ∧ Fr N (w2.setCell ⟨w.heap.size, 4, none⟩ u) (deep2 d x A c) ∧ N ≤ (w2.setCell ⟨w.heap.size, 4, none⟩ u).heap.size ∧ Below w.heap.size w (w2.setCell ⟨w.heap.size, 4, none⟩ u) := by
  have hb' : Below w.heap.size w (w2.setCell ⟨w.heap.size, 4, none⟩ u) := hb.setCell (Nat.le_refl _) _
  have hf' := (hf.set (p := ⟨w.heap.size, 4, none⟩) (u := u) (Nat.lt_succ_self _)).mono (N' := N) (by omega)
  exact ⟨hown.below hb', fun x hx => (hfr x hx).below hb', hf'.att, hf'.ap, hf', Nat.le_trans hN hb'.size, hb'⟩

theorem Few.append {a b : List Ro} (ha : Few a) (hb : Few b) : Few (a ++ b) := fun x hx => (List.mem_append.1 hx).elim (ha x) (hb x)
theorem Few.deeper {a : List Ro} (ha : Few a) (d : Int) : Few (deeper d a) := fun x hx => by
  obtain ⟨y, hy, rfl⟩ := List.mem_map.1 hx
  exact ha y hy
/-- Depths that an int64 holds. -/
def Held (l : List Ro) : Prop := ∀ x ∈ l, -9223372036854775808 ≤ x.depth ∧ x.depth ≤ 9223372036854775807
theorem Held.append {a b : List Ro} (ha : Held a) (hb : Held b) : Held (a ++ b) := fun x hx => (List.mem_append.1 hx).elim (ha x) (hb x)
theorem Fits.held {d : Int} {l : List Ro} (h : Fits d l) : Held (deeper d l) := fun x hx => by
  obtain ⟨y, hy, rfl⟩ := List.mem_map.1 hx
  exact h y hy
theorem Few.drop {l : List Ro} (h : Few l) (k : Nat) : Few (l.drop k) := fun x hx => h x (List.mem_of_mem_drop hx)
theorem Few.take {l : List Ro} (h : Few l) (k : Nat) : Few (l.take k) := fun x hx => h x (List.mem_of_mem_take hx)
theorem Held.drop {l : List Ro} (h : Held l) (k : Nat) : Held (l.drop k) := fun x hx => h x (List.mem_of_mem_drop hx)
theorem Held.take {l : List Ro} (h : Held l) (k : Nat) : Held (l.take k) := fun x hx => h x (List.mem_of_mem_take hx)
theorem Fits.drop {d : Int} {l : List Ro} (h : Fits d l) (k : Nat) : Fits d (l.drop k) := fun x hx => h x (List.mem_of_mem_drop hx)
theorem Fits.take {d : Int} {l : List Ro} (h : Fits d l) (k : Nat) : Fits d (l.take k) := fun x hx => h x (List.mem_of_mem_take hx)

end Go.Proofs.Ytmlchbohijolaaa.Ro

namespace Go.Proofs.Ytmlchbohijolaaa.Ar
set_option linter.unusedSimpArgs false
set_option linter.unusedVariables false
open Ro (At Ro deeper)
/-- A node: its row, with no depth; the one that has it (-1: none); those that it has. -/
structure Nd where
  ro : Ro
  up : Int
  kids : List Nat
def nd0 : Nd := ⟨⟨0, 0, ⟨#[]⟩, ⟨#[]⟩, []⟩, -1, []⟩
def nd (M : List Nd) (n : Nat) : Nd := (M[n]?).getD nd0
theorem nd_at {M : List Nd} {n : Nat} (h : n < M.length) : nd M n = M[n] := by
  unfold nd
  rw [List.getElem?_eq_getElem h]
  rfl
theorem nd_out {M : List Nd} {n : Nat} (h : ¬ n < M.length) : nd M n = nd0 := by
  unfold nd
  rw [List.getElem?_eq_none (by omega)]
  rfl

/-- A document's nodes. -/
structure Wf (M : List Nd) : Prop where
  pos : 0 < M.length
  root : (nd M 0).up = -1
  low : ∀ n, -1 ≤ (nd M n).up
  kid : ∀ p c : Nat, c ∈ (nd M p).kids ↔ c < M.length ∧ (nd M c).up = p
  nodup : ∀ p, (nd M p).kids.Nodup
  flat : ∀ n, (nd M n).ro.depth = 0
  acyc : ∃ h : Nat → Nat, ∀ c p : Nat, c < M.length → (nd M c).up = p → h p < h c

theorem Wf.up_lt {M : List Nd} (W : Wf M) {c p : Nat} (hc : c < M.length) (h : (nd M c).up = p) : p < M.length := by
  apply Decidable.byContradiction
  intro hp
  have := (W.kid p c).2 ⟨hc, h⟩
  rw [nd_out hp] at this
  cases this
/-- Heights that rise from a node to each one that it has. -/
def Hgt (M : List Nd) (h : Nat → Nat) : Prop := ∀ n k, k ∈ (nd M n).kids → k < M.length ∧ h n < h k
theorem Wf.hgt {M : List Nd} (W : Wf M) : ∃ h, Hgt M h := by
  obtain ⟨h, H⟩ := W.acyc
  exact ⟨h, fun n k hk => by
    obtain ⟨h1, h2⟩ := (W.kid n k).1 hk
    exact ⟨h1, H k n h1 h2⟩⟩

/-! ### A node's tree. -/
def idsF (M : List Nd) : Nat → Nat → List Nat
  | 0, _ => []
  | f + 1, n => n :: (nd M n).kids.flatMap (idsF M f)
def treeF (M : List Nd) : Nat → Nat → Int → List Ro
  | 0, _, _ => []
  | f + 1, n, d => { (nd M n).ro with depth := d } :: (nd M n).kids.flatMap fun k => treeF M f k (d + 1)
def cnt (M : List Nd) (h : Nat → Nat) (n : Nat) : Nat := (List.range M.length).countP fun m => decide (h n < h m)
theorem count_less {α : Type} (p q : α → Bool) : ∀ (l : List α), (∀ x ∈ l, p x = true → q x = true) → (∃ x ∈ l, q x = true ∧ p x = false) → l.countP p < l.countP q
  | [], _, h => by obtain ⟨x, hx, _⟩ := h; cases hx
  | a :: r, h, hex => by
    rw [List.countP_cons, List.countP_cons]
    have hle : r.countP p ≤ r.countP q := List.countP_mono_left fun x hx => h x (List.mem_cons_of_mem _ hx)
    obtain ⟨x, hx, h1, h2⟩ := hex
    rcases List.mem_cons.1 hx with rfl | hx
    · rw [if_neg (by rw [h2]; decide), if_pos h1]
      omega
    · have := count_less p q r (fun y hy => h y (List.mem_cons_of_mem _ hy)) ⟨x, hx, h1, h2⟩
      have ha := h a List.mem_cons_self
      split
      · rename_i hpa
        rw [if_pos (ha hpa)]
        omega
      · split <;> omega
theorem cnt_kid {M : List Nd} {h : Nat → Nat} (H : Hgt M h) {n k : Nat} (hk : k ∈ (nd M n).kids) : cnt M h k < cnt M h n := by
  obtain ⟨h1, h2⟩ := H n k hk
  refine count_less _ _ _ (fun m _ hm => ?_) ⟨k, List.mem_range.2 h1, decide_eq_true h2, decide_eq_false (Nat.lt_irrefl _)⟩
  have := of_decide_eq_true hm
  exact decide_eq_true (by omega)
theorem cnt_lt {M : List Nd} {h : Nat → Nat} {n : Nat} (hn : n < M.length) : cnt M h n < M.length := by
  have := count_less (fun m => decide (h n < h m)) (fun _ => true) (List.range M.length) (fun _ _ _ => rfl) ⟨n, List.mem_range.2 hn, rfl, decide_eq_false (Nat.lt_irrefl _)⟩
  rw [List.countP_true, List.length_range] at this
  exact this
theorem flatMap_congr {α β : Type} {f g : α → List β} : ∀ {l : List α}, (∀ x ∈ l, f x = g x) → l.flatMap f = l.flatMap g
  | [], _ => rfl
  | a :: r, h => by
    rw [List.flatMap_cons, List.flatMap_cons, h a List.mem_cons_self, flatMap_congr fun x hx => h x (List.mem_cons_of_mem _ hx)]
theorem treeF_more {M : List Nd} {h : Nat → Nat} (H : Hgt M h) : ∀ (f g n : Nat) (d : Int), cnt M h n < f → cnt M h n < g → treeF M f n d = treeF M g n d
  | 0, _, _, _, hf, _ => absurd hf (Nat.not_lt_zero _)
  | _ + 1, 0, _, _, _, hg => absurd hg (Nat.not_lt_zero _)
  | f + 1, g + 1, n, d, hf, hg => by
    rw [treeF, treeF]
    congr 1
    exact flatMap_congr fun k hk => by
      have := cnt_kid H hk
      exact treeF_more H f g k (d + 1) (by omega) (by omega)
theorem idsF_more {M : List Nd} {h : Nat → Nat} (H : Hgt M h) : ∀ (f g n : Nat), cnt M h n < f → cnt M h n < g → idsF M f n = idsF M g n
  | 0, _, _, hf, _ => absurd hf (Nat.not_lt_zero _)
  | _ + 1, 0, _, _, hg => absurd hg (Nat.not_lt_zero _)
  | f + 1, g + 1, n, hf, hg => by
    rw [idsF, idsF]
    congr 1
    exact flatMap_congr fun k hk => by
      have := cnt_kid H hk
      exact idsF_more H f g k (by omega) (by omega)
def tr (M : List Nd) (n : Nat) (d : Int) : List Ro := treeF M M.length n d
def ids (M : List Nd) (n : Nat) : List Nat := idsF M M.length n
theorem tr_eq {M : List Nd} (W : Wf M) {n : Nat} (hn : n < M.length) (d : Int) : tr M n d = { (nd M n).ro with depth := d } :: (nd M n).kids.flatMap fun k => tr M k (d + 1) := by
  obtain ⟨h, H⟩ := W.hgt
  obtain ⟨L, hL⟩ : ∃ L, M.length = L + 1 := ⟨M.length - 1, by omega⟩
  have h1 := cnt_lt (h := h) hn
  unfold tr
  rw [hL, treeF]
  congr 1
  exact flatMap_congr fun k hk => by
    have := cnt_kid H hk
    exact treeF_more H _ _ k _ (by omega) (by omega)
theorem ids_eq {M : List Nd} (W : Wf M) {n : Nat} (hn : n < M.length) : ids M n = n :: (nd M n).kids.flatMap (ids M) := by
  obtain ⟨h, H⟩ := W.hgt
  obtain ⟨L, hL⟩ : ∃ L, M.length = L + 1 := ⟨M.length - 1, by omega⟩
  have h1 := cnt_lt (h := h) hn
  unfold ids
  rw [hL, idsF]
  congr 1
  exact flatMap_congr fun k hk => by
    have := cnt_kid H hk
    exact idsF_more H _ _ k (by omega) (by omega)
theorem treeF_len (M : List Nd) : ∀ (f n : Nat) (d : Int), (treeF M f n d).length = (idsF M f n).length
  | 0, _, _ => rfl
  | f + 1, n, d => by
    rw [treeF, idsF, List.length_cons, List.length_cons, List.length_flatMap, List.length_flatMap]
    congr 2
    exact List.map_congr_left fun k _ => treeF_len M f k (d + 1)
theorem tr_len (M : List Nd) (n : Nat) (d : Int) : (tr M n d).length = (ids M n).length := treeF_len M _ n d
/-! ### What stands within what. -/
inductive Up (M : List Nd) : Nat → Nat → Prop
  | refl {a : Nat} : a < M.length → Up M a a
  | step {a p b : Nat} : a < M.length → (nd M a).up = (p : Int) → Up M p b → Up M a b
theorem Up.lt {M : List Nd} {a b : Nat} (h : Up M a b) : a < M.length ∧ b < M.length := by
  induction h with
  | refl h => exact ⟨h, h⟩
  | step h _ _ ih => exact ⟨h, ih.2⟩
theorem Up.trans {M : List Nd} {a b c : Nat} (h : Up M a b) (k : Up M b c) : Up M a c := by
  induction h with
  | refl _ => exact k
  | step h1 h2 _ ih => exact .step h1 h2 (ih k)
theorem up_iff {M : List Nd} {a b : Nat} : Up M a b ↔ a < M.length ∧ (a = b ∨ ∃ p : Nat, (nd M a).up = p ∧ Up M p b) := by
  constructor
  · intro h
    cases h with
    | refl h => exact ⟨h, .inl rfl⟩
    | step h1 h2 h3 => exact ⟨h1, .inr ⟨_, h2, h3⟩⟩
  · rintro ⟨h, rfl | ⟨p, h2, h3⟩⟩
    · exact .refl h
    · exact .step h h2 h3
/-- Of two that a node stands within one stands within the other. -/
theorem Up.linear {M : List Nd} {a b c : Nat} (h : Up M a b) (k : Up M a c) : Up M b c ∨ Up M c b := by
  induction h with
  | refl _ => exact .inl k
  | step h1 h2 h3 ih =>
    cases k with
    | refl h => exact .inr (.step h1 h2 h3)
    | step k1 k2 k3 =>
      have e := Int.ofNat.inj (h2.symm.trans k2)
      subst e
      exact ih k3
theorem Up.height {M : List Nd} {h : Nat → Nat} (H : ∀ c p : Nat, c < M.length → (nd M c).up = p → h p < h c) {a b : Nat} (u : Up M a b) : h b ≤ h a ∧ (h b = h a → a = b) := by
  induction u with
  | refl _ => exact ⟨Nat.le_refl _, fun _ => rfl⟩
  | step h1 h2 h3 ih =>
    have := H _ _ h1 h2
    exact ⟨by omega, fun e => by omega⟩
theorem mem_ids {M : List Nd} (W : Wf M) {h : Nat → Nat} (H : Hgt M h) : ∀ (f n m : Nat), cnt M h n < f → n < M.length → (m ∈ ids M n ↔ Up M m n)
  | 0, n, m, hf, _ => absurd hf (Nat.not_lt_zero _)
  | f + 1, n, m, hf, hn => by
    rw [ids_eq W hn, List.mem_cons, List.mem_flatMap]
    constructor
    · rintro (rfl | ⟨k, hk, hm⟩)
      · exact .refl hn
      · have h1 := cnt_kid H hk
        obtain ⟨h2, h3⟩ := (W.kid n k).1 hk
        exact ((mem_ids W H f k m (by omega) h2).1 hm).trans (.step h2 h3 (.refl hn))
    · intro u
      -- the last step of the way
      have : m = n ∨ ∃ k, k ∈ (nd M n).kids ∧ Up M m k := by
        clear hf
        induction u with
        | refl _ => exact .inl rfl
        | step h1 h2 h3 ih =>
          rcases ih hn with rfl | ⟨k, hk, hu⟩
          · exact .inr ⟨_, (W.kid _ _).2 ⟨h1, h2⟩, .refl h1⟩
          · exact .inr ⟨k, hk, .step h1 h2 hu⟩
      rcases this with rfl | ⟨k, hk, hu⟩
      · exact .inl rfl
      · have h1 := cnt_kid H hk
        exact .inr ⟨k, hk, (mem_ids W H f k m (by omega) (H n k hk).1).2 hu⟩
theorem ids_up {M : List Nd} (W : Wf M) {n : Nat} (hn : n < M.length) (m : Nat) : m ∈ ids M n ↔ Up M m n := by
  obtain ⟨h, H⟩ := W.hgt
  exact mem_ids W H _ n m (Nat.lt_succ_self _) hn
/-- Below different kids of a node nothing is the same. -/
theorem kids_apart {M : List Nd} (W : Wf M) {n k j m : Nat} (hk : k ∈ (nd M n).kids) (hj : j ∈ (nd M n).kids) (hne : k ≠ j) (h1 : Up M m k) : ¬ Up M m j := by
  intro h2
  obtain ⟨h, H⟩ := W.acyc
  obtain ⟨a1, a2⟩ := (W.kid n k).1 hk
  obtain ⟨b1, b2⟩ := (W.kid n j).1 hj
  have key : ∀ {x y : Nat}, x ≠ y → x < M.length → (nd M x).up = n → y < M.length → (nd M y).up = n → ¬ Up M x y := by
    intro x y hxy hx hxu hy hyu u
    rcases up_iff.1 u with ⟨_, rfl | ⟨p, hp, hu⟩⟩
    · exact hxy rfl
    · have e : (n : Int) = (p : Int) := hxu.symm.trans hp
      have : n = p := by omega
      subst this
      have := (Up.height H hu).1
      have := H y n hy hyu
      omega
  rcases h1.linear h2 with u | u
  · exact key hne a1 a2 b1 b2 u
  · exact key hne.symm b1 b2 a1 a2 u
theorem ids_nodup {M : List Nd} (W : Wf M) {h : Nat → Nat} (H : Hgt M h) : ∀ (f n : Nat), cnt M h n < f → n < M.length → (ids M n).Nodup
  | 0, n, hf, _ => absurd hf (Nat.not_lt_zero _)
  | f + 1, n, hf, hn => by
    obtain ⟨g, G⟩ := W.acyc
    rw [ids_eq W hn, List.nodup_cons]
    constructor
    · intro hm
      obtain ⟨k, hk, hm⟩ := List.mem_flatMap.1 hm
      obtain ⟨h2, h3⟩ := (W.kid n k).1 hk
      have := (Up.height G ((ids_up W h2 n).1 hm)).1
      have := G k n h2 h3
      omega
    · have hnd := W.nodup n
      have all : ∀ l : List Nat, l.Nodup → (∀ k ∈ l, k ∈ (nd M n).kids) → (l.flatMap (ids M)).Nodup := by
        intro l
        induction l with
        | nil => intro _ _; exact List.nodup_nil
        | cons k r ih =>
          intro h1 h2
          rw [List.flatMap_cons, List.nodup_append]
          obtain ⟨hkr, hr⟩ := List.nodup_cons.1 h1
          have hk := h2 k List.mem_cons_self
          have hc := cnt_kid H hk
          refine ⟨ids_nodup W H f k (by omega) (H n k hk).1, ih hr fun j hj => h2 j (List.mem_cons_of_mem _ hj), fun a ha b hb e => ?_⟩
          subst e
          obtain ⟨j, hj, hb⟩ := List.mem_flatMap.1 hb
          have hj' := h2 j (List.mem_cons_of_mem _ hj)
          exact kids_apart W hk hj' (fun e => hkr (by rw [e]; exact hj)) ((ids_up W (H n k hk).1 a).1 ha) ((ids_up W (H n j hj').1 a).1 hb)
      exact all _ hnd fun _ h => h
theorem count_one (a : Nat) : ∀ n : Nat, (List.range n).countP (fun x => decide (x = a)) = if a < n then 1 else 0
  | 0 => by simp
  | n + 1 => by
    rw [List.range_succ, List.countP_append, count_one a n, List.countP_singleton]
    by_cases h : a < n
    · have e : ¬ n = a := by omega
      have h2 : a < n + 1 := by omega
      simp [h, e, h2]
    · by_cases e : n = a
      · have h2 : a < n + 1 := by omega
        simp [h, e, h2]
      · have h2 : ¬ a < n + 1 := by omega
        simp [h, e, h2]
theorem count_or10 (p q r : Nat → Bool) : ∀ l : List Nat, (∀ k ∈ l, r k = (p k || q k) ∧ ¬ (p k = true ∧ q k = true)) → l.countP r = l.countP p + l.countP q
  | [], _ => rfl
  | a :: l, h => by
    rw [List.countP_cons, List.countP_cons, List.countP_cons, count_or10 p q r l fun k hk => h k (List.mem_cons_of_mem _ hk)]
    obtain ⟨h1, h2⟩ := h a List.mem_cons_self
    rw [h1]
    cases hp : p a <;> cases hq : q a <;> simp_all <;> omega
theorem count_mem {n : Nat} : ∀ {l : List Nat}, l.Nodup → (∀ x ∈ l, x < n) → (List.range n).countP (fun x => decide (x ∈ l)) = l.length
  | [], _, _ => by simp
  | a :: r, h, hl => by
    obtain ⟨h1, h2⟩ := List.nodup_cons.1 h
    have ha := hl a List.mem_cons_self
    rw [count_or10 (fun x => decide (x = a)) (fun x => decide (x ∈ r)) _ _ fun k _ => ⟨by rw [Bool.eq_iff_iff]; simp, fun hk => by
      obtain ⟨e1, e2⟩ := hk
      rw [of_decide_eq_true e1] at e2
      exact h1 (of_decide_eq_true e2)⟩, count_one, if_pos ha, count_mem h2 fun x hx => hl x (List.mem_cons_of_mem _ hx), List.length_cons]
    omega
theorem nodup_bound {l : List Nat} {n : Nat} (h : l.Nodup) (hl : ∀ x ∈ l, x < n) : l.length ≤ n := by
  rw [← count_mem h hl]
  have := List.countP_le_length (p := fun x => decide (x ∈ l)) (l := List.range n)
  rwa [List.length_range] at this
theorem ids_len {M : List Nd} (W : Wf M) {n : Nat} (hn : n < M.length) : (ids M n).length ≤ M.length := by
  obtain ⟨h, H⟩ := W.hgt
  exact nodup_bound (ids_nodup W H _ n (Nat.lt_succ_self _) hn) fun x hx => ((ids_up W hn x).1 hx).lt.1
theorem tr_short {M : List Nd} (W : Wf M) {n : Nat} (hn : n < M.length) (d : Int) : (tr M n d).length ≤ M.length := by
  rw [tr_len]
  exact ids_len W hn

/-! ### What rows a node tells. -/
def rowsM (M : List Nd) (n : Int) : List Ro :=
  if 0 ≤ n ∧ n < M.length then if n = 0 then (nd M 0).kids.flatMap fun k => tr M k 0 else tr M n.toNat 0 else []
end Go.Proofs.Ytmlchbohijolaaa.Ar

namespace Go.Proofs.Ytmlchbohijolaaa.Ar
set_option linter.unusedSimpArgs false
set_option linter.unusedVariables false
open Ro (At Ro deeper)
/-! ### A new node. -/
def addM (M : List Nd) (x : Ro) : List Nd := M ++ [⟨{ x with depth := 0 }, -1, []⟩]
theorem len_add (M : List Nd) (x : Ro) : (addM M x).length = M.length + 1 := by simp [addM]
theorem nd_add (M : List Nd) (x : Ro) (n : Nat) : nd (addM M x) n = if n = M.length then ⟨{ x with depth := 0 }, -1, []⟩ else nd M n := by
  unfold nd addM
  by_cases h : n < M.length
  · rw [List.getElem?_append_left h, if_neg (by omega)]
  · by_cases e : n = M.length
    · rw [if_pos e, List.getElem?_append_right (by omega), e]
      simp
    · rw [if_neg e, List.getElem?_append_right (by omega), List.getElem?_eq_none (by omega : M.length ≤ n)]
      rw [List.getElem?_eq_none (by simp; omega)]
theorem Wf.add {M : List Nd} (W : Wf M) (x : Ro) : Wf (addM M x) := by
  have hp := W.pos
  refine ⟨by rw [len_add]; omega, ?_, fun n => ?_, fun p c => ?_, fun p => ?_, fun n => ?_, ?_⟩
  · rw [nd_add, if_neg (by omega)]
    exact W.root
  · rw [nd_add]
    split
    · exact Int.le_refl _
    · exact W.low n
  · rw [nd_add, nd_add, len_add]
    by_cases e1 : p = M.length
    · rw [if_pos e1]
      constructor
      · intro h; cases h
      · rintro ⟨h1, h2⟩
        split at h2
        · have h2 : (-1 : Int) = p := h2
          omega
        · have hc : c < M.length := by omega
          have := W.up_lt hc h2
          omega
    · rw [if_neg e1]
      constructor
      · intro h
        obtain ⟨h1, h2⟩ := (W.kid p c).1 h
        rw [if_neg (by omega)]
        exact ⟨by omega, h2⟩
      · rintro ⟨h1, h2⟩
        split at h2
        · have h2 : (-1 : Int) = p := h2
          omega
        · exact (W.kid p c).2 ⟨by omega, h2⟩
  · rw [nd_add]
    split
    · exact List.nodup_nil
    · exact W.nodup p
  · rw [nd_add]
    split
    · rfl
    · exact W.flat n
  · obtain ⟨h, H⟩ := W.acyc
    refine ⟨h, fun c p hc hu => ?_⟩
    rw [len_add] at hc
    rw [nd_add] at hu
    split at hu
    · have hu : (-1 : Int) = p := hu
      omega
    · exact H c p (by omega) hu
/-! ### A node taken out of the one that has it. -/
def takeOut (M : List Nd) (n : Nat) : List Nd := M.mapIdx fun m x => ⟨x.ro, if m = n then -1 else x.up, x.kids.filter (· != n)⟩
theorem len_take (M : List Nd) (n : Nat) : (takeOut M n).length = M.length := by simp [takeOut]
theorem nd_take (M : List Nd) (n m : Nat) : nd (takeOut M n) m = ⟨(nd M m).ro, if m = n then -1 else (nd M m).up, (nd M m).kids.filter (· != n)⟩ := by
  unfold nd takeOut
  rw [List.getElem?_mapIdx]
  cases h : M[m]? with
  | none =>
    show nd0 = _
    unfold nd0
    simp
  | some x => rfl
theorem mem_filter_ne {l : List Nat} {n c : Nat} : c ∈ l.filter (· != n) ↔ c ∈ l ∧ c ≠ n := by
  rw [List.mem_filter, bne_iff_ne]
theorem Wf.take {M : List Nd} (W : Wf M) (n : Nat) : Wf (takeOut M n) := by
  refine ⟨by rw [len_take]; exact W.pos, ?_, fun m => ?_, fun p c => ?_, fun p => ?_, fun m => ?_, ?_⟩
  · rw [nd_take]
    show (if 0 = n then (-1 : Int) else (nd M 0).up) = -1
    split
    · rfl
    · exact W.root
  · rw [nd_take]
    show -1 ≤ (if m = n then (-1 : Int) else (nd M m).up)
    split
    · exact Int.le_refl _
    · exact W.low m
  · rw [nd_take, nd_take, len_take, mem_filter_ne, W.kid]
    show _ ↔ c < M.length ∧ (if c = n then (-1 : Int) else (nd M c).up) = p
    constructor
    · rintro ⟨⟨h1, h2⟩, h3⟩
      rw [if_neg h3]
      exact ⟨h1, h2⟩
    · rintro ⟨h1, h2⟩
      by_cases e : c = n
      · rw [if_pos e] at h2
        omega
      · rw [if_neg e] at h2
        exact ⟨⟨h1, h2⟩, e⟩
  · rw [nd_take]
    exact (W.nodup p).filter _
  · rw [nd_take]
    exact W.flat m
  · obtain ⟨h, H⟩ := W.acyc
    refine ⟨h, fun c p hc hu => ?_⟩
    rw [len_take] at hc
    rw [nd_take] at hu
    have hu : (if c = n then (-1 : Int) else (nd M c).up) = p := hu
    split at hu
    · omega
    · exact H c p hc hu

/-! ### A node put into another one. -/
def putAt10 (l : List Nat) (i n : Nat) : List Nat := l.take i ++ n :: l.drop i
theorem mem_put {l : List Nat} {i n c : Nat} : c ∈ putAt10 l i n ↔ c = n ∨ c ∈ l := by
  unfold putAt10
  rw [List.mem_append, List.mem_cons]
  constructor
  · rintro (h | rfl | h)
    · exact .inr (List.mem_of_mem_take h)
    · exact .inl rfl
    · exact .inr (List.mem_of_mem_drop h)
  · rintro (rfl | h)
    · exact .inr (.inl rfl)
    · rw [← List.take_append_drop i l, List.mem_append] at h
      rcases h with h | h
      · exact .inl h
      · exact .inr (.inr h)
theorem nodup_put {l : List Nat} {i n : Nat} (h : l.Nodup) (hn : n ∉ l) : (putAt10 l i n).Nodup := by
  unfold putAt10
  rw [List.nodup_append]
  rw [← List.take_append_drop i l, List.nodup_append] at h
  obtain ⟨h1, h2, h3⟩ := h
  refine ⟨h1, List.nodup_cons.2 ⟨fun h => hn (List.mem_of_mem_drop h), h2⟩, fun a ha b hb e => ?_⟩
  subst e
  rcases List.mem_cons.1 hb with rfl | hb
  · exact hn (List.mem_of_mem_take ha)
  · exact h3 a ha a hb rfl
def setM (M : List Nd) (p i n : Nat) : List Nd := M.mapIdx fun m x => ⟨x.ro, if m = n then (p : Int) else x.up, if m = p then putAt10 (x.kids.filter (· != n)) i n else x.kids.filter (· != n)⟩
theorem len_set (M : List Nd) (p i n : Nat) : (setM M p i n).length = M.length := by simp [setM]
theorem nd_set {M : List Nd} {p i n : Nat} (hp : p < M.length) (hn : n < M.length) (m : Nat) : nd (setM M p i n) m = ⟨(nd M m).ro, if m = n then (p : Int) else (nd M m).up, if m = p then putAt10 ((nd M m).kids.filter (· != n)) i n else (nd M m).kids.filter (· != n)⟩ := by
  unfold nd setM
  rw [List.getElem?_mapIdx]
  cases h : M[m]? with
  | none =>
    have hm : ¬ m < M.length := by
      have := List.getElem?_eq_none_iff.1 h
      omega
    have e1 : m ≠ n := by omega
    have e2 : m ≠ p := by omega
    simp [nd0, e1, e2]
  | some x => rfl
theorem Wf.set {M : List Nd} (W : Wf M) {p n : Nat} (hp : p < M.length) (hn : n < M.length) (h0 : n ≠ 0) (hu : ¬ Up M p n) (i : Nat) : Wf (setM M p i n) := by
  refine ⟨by rw [len_set]; exact W.pos, ?_, fun m => ?_, fun q c => ?_, fun q => ?_, fun m => ?_, ?_⟩
  · rw [nd_set hp hn]
    show (if 0 = n then (p : Int) else (nd M 0).up) = -1
    rw [if_neg (by omega)]
    exact W.root
  · rw [nd_set hp hn]
    show -1 ≤ (if m = n then (p : Int) else (nd M m).up)
    split
    · omega
    · exact W.low m
  · rw [nd_set hp hn, nd_set hp hn, len_set]
    show c ∈ (if q = p then putAt10 ((nd M q).kids.filter (· != n)) i n else (nd M q).kids.filter (· != n)) ↔ c < M.length ∧ (if c = n then (p : Int) else (nd M c).up) = q
    by_cases e : q = p
    · subst e
      rw [if_pos rfl, mem_put, mem_filter_ne, W.kid]
      constructor
      · rintro (rfl | ⟨⟨h1, h2⟩, h3⟩)
        · exact ⟨hn, if_pos rfl⟩
        · rw [if_neg h3]
          exact ⟨h1, h2⟩
      · rintro ⟨h1, h2⟩
        by_cases e : c = n
        · exact .inl e
        · rw [if_neg e] at h2
          exact .inr ⟨⟨h1, h2⟩, e⟩
    · rw [if_neg e, mem_filter_ne, W.kid]
      constructor
      · rintro ⟨⟨h1, h2⟩, h3⟩
        rw [if_neg h3]
        exact ⟨h1, h2⟩
      · rintro ⟨h1, h2⟩
        by_cases e2 : c = n
        · rw [if_pos e2] at h2
          omega
        · rw [if_neg e2] at h2
          exact ⟨⟨h1, h2⟩, e2⟩
  · rw [nd_set hp hn]
    show (if q = p then putAt10 ((nd M q).kids.filter (· != n)) i n else (nd M q).kids.filter (· != n)).Nodup
    split
    · exact nodup_put ((W.nodup q).filter _) fun h => (mem_filter_ne.1 h).2 rfl
    · exact (W.nodup q).filter _
  · rw [nd_set hp hn]
    exact W.flat m
  · obtain ⟨h, H⟩ := W.acyc
    have : ∃ s : Nat → Bool, ∀ m, s m = true ↔ Up M m n := ⟨fun m => @decide (Up M m n) (Classical.propDecidable _), fun m => @decide_eq_true_iff _ (Classical.propDecidable _)⟩
    obtain ⟨s, hs⟩ := this
    refine ⟨fun m => if s m = true then h m + h p + 1 else h m, fun c q hc hcu => ?_⟩
    rw [len_set] at hc
    rw [nd_set hp hn] at hcu
    have hcu : (if c = n then (p : Int) else (nd M c).up) = q := hcu
    show (if s q = true then h q + h p + 1 else h q) < (if s c = true then h c + h p + 1 else h c)
    by_cases e : c = n
    · rw [if_pos e] at hcu
      have e2 : p = q := by omega
      subst e2
      rw [if_neg (fun h => hu ((hs p).1 h)), if_pos ((hs c).2 (by rw [e]; exact .refl hn))]
      omega
    · rw [if_neg e] at hcu
      have h1 := H c q hc hcu
      by_cases hq : s q = true
      · rw [if_pos hq, if_pos ((hs c).2 (.step hc hcu ((hs q).1 hq)))]
        omega
      · have hc2 : ¬ s c = true := fun h2 => by
          rcases up_iff.1 ((hs c).1 h2) with ⟨_, h3 | ⟨q2, h3, h4⟩⟩
          · exact e h3
          · have : q = q2 := by
              have := hcu.symm.trans h3
              omega
            subst this
            exact hq ((hs q).2 h4)
        rw [if_neg hq, if_neg hc2]
        exact h1

/-! ### A node's row changed. -/
def rowM (M : List Nd) (n : Nat) (f : Ro → Ro) : List Nd := M.mapIdx fun m x => if m = n then { x with ro := f x.ro } else x
theorem len_row (M : List Nd) (n : Nat) (f : Ro → Ro) : (rowM M n f).length = M.length := by simp [rowM]
theorem nd_row {M : List Nd} {n : Nat} (hn : n < M.length) (f : Ro → Ro) (m : Nat) : nd (rowM M n f) m = if m = n then { nd M m with ro := f (nd M m).ro } else nd M m := by
  unfold nd rowM
  rw [List.getElem?_mapIdx]
  cases h : M[m]? with
  | none =>
    have hm : ¬ m < M.length := by
      have := List.getElem?_eq_none_iff.1 h
      omega
    rw [if_neg (by omega)]
    rfl
  | some x =>
    show (if m = n then _ else x) = _
    split <;> rfl
theorem Wf.row {M : List Nd} (W : Wf M) {n : Nat} (hn : n < M.length) {f : Ro → Ro} (hf : (f (nd M n).ro).depth = 0) : Wf (rowM M n f) := by
  have hk : ∀ m, (nd (rowM M n f) m).kids = (nd M m).kids := fun m => by rw [nd_row hn]; split <;> rfl
  have hup : ∀ m, (nd (rowM M n f) m).up = (nd M m).up := fun m => by rw [nd_row hn]; split <;> rfl
  refine ⟨by rw [len_row]; exact W.pos, by rw [hup]; exact W.root, fun m => by rw [hup]; exact W.low m, fun p c => by rw [hk, hup, len_row]; exact W.kid p c, fun p => by rw [hk]; exact W.nodup p, fun m => ?_, ?_⟩
  · rw [nd_row hn]
    split
    · rename_i e
      subst e
      exact hf
    · exact W.flat m
  · obtain ⟨h, H⟩ := W.acyc
    exact ⟨h, fun c p hc hu => H c p (by rw [len_row] at hc; exact hc) (by rw [hup] at hu; exact hu)⟩
end Go.Proofs.Ytmlchbohijolaaa.Ar

namespace Go.Proofs.Ytmlchbohijolaaa.Ar
set_option linter.unusedSimpArgs false
set_option linter.unusedVariables false
open Ro (At Ro deeper)
/-- Nothing but itself stands within a node that has none. -/
theorem up_alone {M : List Nd} (W : Wf M) {a n : Nat} (hk : (nd M n).kids = []) (h : Up M a n) : a = n := by
  induction h with
  | refl _ => rfl
  | @step a p b ha he hu ih =>
    have hp := ih hk
    subst hp
    have := (W.kid p a).2 ⟨ha, he⟩
    rw [hk] at this
    cases this
/-- The nodes when i rows have been added, each put behind the others of its parent. -/
def loadTo (first : Nat) (l : List Ro) (par : Nat → Int) (M : List Nd) : Nat → List Nd
  | 0 => M
  | i + 1 =>
    if par i < 0 then addM (loadTo first l par M i) ((l[i]?).getD ⟨0, 0, ⟨#[]⟩, ⟨#[]⟩, []⟩)
    else setM (addM (loadTo first l par M i) ((l[i]?).getD ⟨0, 0, ⟨#[]⟩, ⟨#[]⟩, []⟩)) (first + (par i).toNat) (nd (addM (loadTo first l par M i) ((l[i]?).getD ⟨0, 0, ⟨#[]⟩, ⟨#[]⟩, []⟩)) (first + (par i).toNat)).kids.length (first + i)
theorem load_len (first : Nat) (l : List Ro) (par : Nat → Int) (M : List Nd) : ∀ i, (loadTo first l par M i).length = M.length + i
  | 0 => rfl
  | i + 1 => by
    rw [loadTo]
    split
    · rw [len_add, load_len first l par M i]
      omega
    · rw [len_set, len_add, load_len first l par M i]
      omega
theorem load_wf {l : List Ro} {par : Nat → Int} {M : List Nd} (W : Wf M) : ∀ i, (∀ j < i, par j < j) → Wf (loadTo M.length l par M i)
  | 0, _ => W
  | i + 1, hp => by
    have W1 := (load_wf (l := l) W i fun j hj => hp j (by omega)).add ((l[i]?).getD ⟨0, 0, ⟨#[]⟩, ⟨#[]⟩, []⟩)
    have hl := load_len M.length l par M i
    have hpi := hp i (by omega)
    have hpos := W.pos
    rw [loadTo]
    by_cases h : par i < 0
    · rw [if_pos h]
      exact W1
    · rw [if_neg h]
      refine W1.set ?_ ?_ ?_ ?_ _
      · rw [len_add, hl]
        omega
      · rw [len_add, hl]
        omega
      · omega
      · intro hu
        have := up_alone W1 (by rw [nd_add, if_pos hl.symm]) hu
        omega
end Go.Proofs.Ytmlchbohijolaaa.Ar

namespace Go.Proofs.Ytmlchbohijolaaa.Ar
set_option linter.unusedSimpArgs false
set_option linter.unusedVariables false
open Ro (At Ro deeper okRow rightFrom right)
structure Good (M : List Nd) : Prop where
  row : ∀ k, k ≠ 0 → k < M.length → okRow (nd M k).ro = true
  leaf : ∀ p, p ≠ 0 → (nd M p).ro.kind ≠ 0 → (nd M p).kids = []
theorem kid_not_root {M : List Nd} (W : Wf M) {n k : Nat} (h : k ∈ (nd M n).kids) : k ≠ 0 ∧ k < M.length := by
  obtain ⟨h1, h2⟩ := (W.kid n k).1 h
  refine ⟨fun e => ?_, h1⟩
  rw [e, W.root] at h2
  omega
theorem right_forest {g : Nat → Int → List Ro} {r : List Ro} {d : Int} : ∀ (ks : List Nat), (∀ k ∈ ks, ∀ (m : Int) (r' : List Ro), d ≤ m → (∀ m', d ≤ m' → rightFrom m' r' = true) → rightFrom m (g k d ++ r') = true) → (∀ m', d ≤ m' → rightFrom m' r = true) → ∀ m, d ≤ m → rightFrom m (ks.flatMap (fun k => g k d) ++ r) = true
  | [], _, hr, m, hm => hr m hm
  | k :: ks, hk, hr, m, hm => by
    rw [List.flatMap_cons, List.append_assoc]
    exact hk k (by simp) m _ hm fun m' hm' => right_forest ks (fun k' hk' => hk k' (by simp [hk'])) hr m' hm'
theorem right_tree {M : List Nd} (W : Wf M) (G : Good M) : ∀ (f n : Nat), n ≠ 0 → n < M.length → ∀ (d : Int), 0 ≤ d → ∀ (m : Int) (r : List Ro), d ≤ m → (∀ m', d ≤ m' → rightFrom m' r = true) → rightFrom m (treeF M f n d ++ r) = true
  | 0, n, _, _, d, _, m, r, hm, hr => hr m hm
  | f + 1, n, h0, hn, d, hd, m, r, hm, hr => by
    rw [treeF, List.cons_append, rightFrom]
    have h1 : decide (0 ≤ d) = true := decide_eq_true hd
    have h2 : decide (d ≤ m) = true := decide_eq_true hm
    have h3 : okRow { (nd M n).ro with depth := d } = true := G.row n h0 hn
    show (decide (0 ≤ d) && decide (d ≤ m) && okRow { (nd M n).ro with depth := d } && rightFrom (if (nd M n).ro.kind = 0 then d + 1 else d) _) = true
    rw [h1, h2, h3, Bool.true_and, Bool.true_and, Bool.true_and]
    by_cases hk : (nd M n).ro.kind = 0
    · rw [if_pos hk]
      refine right_forest (g := treeF M f) _ (fun k hkk m' r' hm' hr' => ?_) (fun m' hm' => hr m' (by omega)) (d + 1) (by omega)
      obtain ⟨a, b⟩ := kid_not_root W hkk
      exact right_tree W G f k a b (d + 1) (by omega) m' r' hm' hr'
    · rw [if_neg hk, G.leaf n h0 hk]
      exact hr d (Int.le_refl _)
/-- The rows of any node are right. -/
theorem good_right {M : List Nd} (W : Wf M) (G : Good M) (n : Int) : right (rowsM M n) = true := by
  unfold right rowsM
  split
  · rename_i h
    split
    · have := right_forest (g := tr M) (r := []) (d := 0) (nd M 0).kids (fun k hk m r hm hr => by
        obtain ⟨a, b⟩ := kid_not_root W hk
        exact right_tree W G _ k a b 0 (Int.le_refl _) m r hm hr) (fun _ _ => rfl) 0 (Int.le_refl _)
      rwa [List.append_nil] at this
    · have := right_tree W G M.length n.toNat (by omega) (by omega) 0 (Int.le_refl _) 0 [] (Int.le_refl _) (fun _ _ => rfl)
      rwa [List.append_nil] at this
  · rfl
theorem Good.add {M : List Nd} (W : Wf M) (G : Good M) {x : Ro} (hx : okRow x = true) : Good (addM M x) := by
  refine ⟨fun k h0 hk => ?_, fun p h0 hp => ?_⟩
  · rw [nd_add]
    split
    · exact hx
    · rename_i h
      rw [len_add] at hk
      exact G.row k h0 (by omega)
  · rw [nd_add] at hp ⊢
    split
    · rfl
    · rename_i h
      rw [if_neg h] at hp
      exact G.leaf p h0 hp
theorem Good.take {M : List Nd} (G : Good M) (n : Nat) : Good (takeOut M n) := by
  refine ⟨fun k h0 hk => ?_, fun p h0 hp => ?_⟩
  · rw [nd_take]
    rw [len_take] at hk
    exact G.row k h0 hk
  · rw [nd_take] at hp ⊢
    show (nd M p).kids.filter _ = []
    rw [G.leaf p h0 hp]
    rfl
theorem Good.set {M : List Nd} (G : Good M) {p n : Nat} (hp : p < M.length) (hn : n < M.length) (hk : p ≠ 0 → (nd M p).ro.kind = 0) (i : Nat) : Good (setM M p i n) := by
  refine ⟨fun k h0 hk => ?_, fun q h0 hq => ?_⟩
  · rw [nd_set hp hn]
    rw [len_set] at hk
    exact G.row k h0 hk
  · rw [nd_set hp hn] at hq ⊢
    show (if q = p then putAt10 ((nd M q).kids.filter (· != n)) i n else (nd M q).kids.filter (· != n)) = []
    have hq' : (nd M q).ro.kind ≠ 0 := hq
    by_cases e : q = p
    · exact absurd (hk (e ▸ h0)) (e ▸ hq')
    · rw [if_neg e, G.leaf q h0 hq']
      rfl
theorem Good.row_ {M : List Nd} (G : Good M) {n : Nat} (hn : n < M.length) {f : Ro → Ro} (hf : okRow (f (nd M n).ro) = true) (hk : (f (nd M n).ro).kind = (nd M n).ro.kind) : Good (rowM M n f) := by
  refine ⟨fun k h0 hkl => ?_, fun p h0 hp => ?_⟩
  · rw [nd_row hn]
    rw [len_row] at hkl
    split
    · rename_i e
      subst e
      exact hf
    · exact G.row k h0 hkl
  · rw [nd_row hn] at hp ⊢
    split
    · rename_i e
      subst e
      rw [if_pos rfl] at hp
      exact G.leaf p h0 (by rw [← hk]; exact hp)
    · rename_i e
      rw [if_neg e] at hp
      exact G.leaf p h0 hp
end Go.Proofs.Ytmlchbohijolaaa.Ar

namespace Go.Proofs.Ytmlchbohijolaaa.Ro
set_option linter.unusedVariables false
set_option linter.unusedSimpArgs false
open Go.RowKit Ba Go.Shelf
attribute [local go_sem] Oper.semAt_some

/-- The places, from k on, of those that stand just at depth d. -/
def kidsFrom (d : Int) : Nat → List Ro → List Nat
  | _, [] => []
  | k, x :: r => if x.depth = d then k :: kidsFrom d (k + 1) r else kidsFrom d (k + 1) r
def kids (l : List Ro) (i : Int) : List Nat := kidsFrom (dep l i + 1) (i + 1).toNat (below l i)

/-- What a round leaves as it was: what lay below n₀, and the two boxes of the iterator. -/
def Kp (n₀ B1 B2 : Nat) (W W' : World) : Prop := Below n₀ W W' ∧ W'.heap[B1]? = W.heap[B1]? ∧ W'.heap[B2]? = W.heap[B2]?
theorem Kp.t {n₀ B1 B2 : Nat} {A B C : World} (h : Kp n₀ B1 B2 A B) (k : Kp n₀ B1 B2 B C) : Kp n₀ B1 B2 A C := ⟨h.1.trans k.1, k.2.1.trans h.2.1, k.2.2.trans h.2.2⟩
theorem Kp.b {n₀ B1 B2 : Nat} {w : World} (hn : n₀ ≤ w.heap.size) (h1 : B1 < w.heap.size) (h2 : B2 < w.heap.size) (W : World) (l : Nat) (o o' : Obj) (hl : w.heap.size ≤ l) (h : W.heap[l]? = some o) (hc : o.isCells = false) (hw : o.isWalk = false) : Kp n₀ B1 B2 W (W.putObj l o') :=
  ⟨belowK_b hn W l o o' hl h hc hw, World.putObj_heap_other (by omega), World.putObj_heap_other (by omega)⟩

end Go.Proofs.Ytmlchbohijolaaa.Ro

namespace Go.Proofs.Ytmlchbohijolaaa.Ro
set_option maxRecDepth 100000
set_option linter.unusedVariables false
set_option linter.unusedSimpArgs false
open Go.RowKit Ba Go.Shelf
attribute [local go_sem] Oper.semAt_some

theorem infoI : (Try.prog.info? 3).map (fun i => (i.zero, i.size, i.bytes)) = some (some (.int .i64 0), 1, 8) := by kernel_rfl
/-- A number as a value. -/
def nv (k : Nat) : Value := .int .i64 k
end Go.Proofs.Ytmlchbohijolaaa.Ro

namespace Go.Proofs.Ytmlchbohijolaaa.Ro
set_option maxRecDepth 100000
set_option linter.unusedVariables false
set_option linter.unusedSimpArgs false
open Go.RowKit Ba
/-- v is a slice of numbers of the call's own. -/
def Nw (N : Nat) (w : World) (v : Value) (l : List Nat) : Prop := w.ownsRow N 3 1 v l.length (l.map nv)
theorem Nw.alloc {N : Nat} {w : World} {v : Value} {l : List Nat} (h : Nw N w v l) (o : Obj) : Nw N (w.alloc o) v l := World.ownsRow.alloc h o
theorem Nw.below {N M : Nat} {w w' : World} {v : Value} {l : List Nat} (h : Nw N w v l) (hb : Below M w w') (hM : w.heap.size ≤ M := by exact Nat.le_refl _) : Nw N w' v l := by
  refine ⟨h.1, ?_⟩
  rcases h.2 with hn | ⟨g, cap, cur, hv, hg, hh, rest⟩
  · exact .inl hn
  · refine .inr ⟨g, cap, cur, hv, hg, ?_, rest⟩
    have hlt : g < w.heap.size := (Array.getElem?_eq_some_iff.1 hh).1
    rw [hb.block g (by omega)]
    exact hh
/-- It reads as these numbers. -/
def Rn (w : World) (N : Nat) (A : Option Addr) (l : List Nat) : Prop := 0 < l.length → ∃ b off, A = some ⟨b, off, none⟩ ∧ b < N ∧ ∀ j (h : j < l.length), w.cell? ⟨b, off + j, none⟩ = some (.int .i64 (l[j] : Nat))
theorem Rn.below {w w' : World} {N M : Nat} {A : Option Addr} {l : List Nat} (h : Rn w N A l) (hb : Below M w w') (hN : N ≤ M := by exact Nat.le_refl _) : Rn w' N A l := fun h0 => by
  obtain ⟨b, off, e, hb1, hc⟩ := h h0
  exact ⟨b, off, e, hb1, fun j hj => (hb.cell (p := ⟨b, off + j, none⟩) (by show b < M; omega)).trans (hc j hj)⟩
theorem Nw.form {N : Nat} {w : World} {v : Value} {l : List Nat} (h : Nw N w v l) : ∃ A c, v = .slice A l.length c ∧ l.length ≤ c ∧ c ≤ maxLen ∧ Rn w w.heap.size A l := by
  rcases h.2 with ⟨hv, hl⟩ | ⟨g, cap, cur, hv, hg, hh, hn, hm, hs, ht⟩
  · have : l = [] := List.eq_nil_of_length_eq_zero hl
    subst this
    exact ⟨none, 0, hv, Nat.le_refl _, Nat.zero_le _, fun h => absurd h (by simp)⟩
  · refine ⟨some ⟨g, 0, none⟩, cap, hv, hn, hm, fun _ => ⟨g, 0, rfl, (Array.getElem?_eq_some_iff.1 hh).1, fun j hj => ?_⟩⟩
    subst hv
    have := World.ownsRow.cells h rfl j (nv l[j]) (by simp [hj])
    rw [WideShapes.add_plain] at this
    exact this
end Go.Proofs.Ytmlchbohijolaaa.Ro

namespace Go.Proofs.Ytmlchbohijolaaa.Ar
set_option maxRecDepth 100000
set_option linter.unusedSimpArgs false
set_option linter.unusedVariables false
open Go.RowKit Ba
open Ro (At Ro Cw ros Rr Ow Nw below_new)
/-! ### Ranks. -/
def rkAt (rk : List Int) (c : Nat) : Int := (rk[c]?).getD 0
/-- Ranks rise along each node's kids. -/
structure Rf (M : List Nd) (rk : List Int) : Prop where
  len : rk.length = M.length
  low : ∀ c, 0 ≤ rkAt rk c
  rise : ∀ p, ((nd M p).kids.map (rkAt rk)).Pairwise (· < ·)
def kidsI (M : List Nd) (n : Int) : List Nat := if 0 ≤ n then (nd M n.toNat).kids else []
/-! ### In memory. -/
/-- Numbers from the beginning of a block on. -/
def Li (w : World) (g : Nat) (l : List Int) : Prop := g < w.heap.size ∧ ∀ j (h : j < l.length), w.cell? ⟨g, j, none⟩ = some (.int .i64 l[j])
theorem Li.below {w w' : World} {g : Nat} {l : List Int} (h : Li w g l) (hb : Below w.heap.size w w') : Li w' g l :=
  ⟨Nat.lt_of_lt_of_le h.1 hb.size, fun j hj => (hb.cell (p := ⟨g, j, none⟩) h.1).trans (h.2 j hj)⟩
/-- The reference's document, to be read: its three slices. -/
structure Rd11 (w : World) (p : Nat) (M : List Nd) (rk : List Int) (gX cX gU cU gR cR : Nat) (lX : List Cw) : Prop where
  lt : p < w.heap.size
  x : w.cell? ⟨p, 0, none⟩ = some (.slice (some ⟨gX, 0, none⟩) M.length cX)
  u : w.cell? ⟨p, 1, none⟩ = some (.slice (some ⟨gU, 0, none⟩) M.length cU)
  r : w.cell? ⟨p, 2, none⟩ = some (.slice (some ⟨gR, 0, none⟩) M.length cR)
  rows : Rr w w.heap.size (some ⟨gX, 0, none⟩) lX
  same : ros lX = M.map Nd.ro
  ups : Li w gU (M.map Nd.up)
  ranks : Li w gR rk
theorem Rd11.below {w w' : World} {p : Nat} {M : List Nd} {rk : List Int} {gX cX gU cU gR cR : Nat} {lX : List Cw} (h : Rd11 w p M rk gX cX gU cU gR cR lX) (hb : Below w.heap.size w w') : Rd11 w' p M rk gX cX gU cU gR cR lX :=
  ⟨Nat.lt_of_lt_of_le h.lt hb.size, (hb.cell (p := ⟨p, 0, none⟩) h.lt).trans h.x, (hb.cell (p := ⟨p, 1, none⟩) h.lt).trans h.u, (hb.cell (p := ⟨p, 2, none⟩) h.lt).trans h.r, (h.rows.below hb).more hb.size, h.same, h.ups.below hb, h.ranks.below hb⟩
theorem kidsI_nat (M : List Nd) (n : Nat) : kidsI M n = (nd M n).kids := by
  unfold kidsI
  rw [if_pos (by omega)]
  rfl
end Go.Proofs.Ytmlchbohijolaaa.Ar

namespace Go.Proofs.Ytmlchbohijolaaa.Ar
set_option maxRecDepth 100000
set_option linter.unusedSimpArgs false
set_option linter.unusedVariables false
open Go.RowKit Ba
open Ro (At Ro Cw ros Rr Ow Nw below_new)
/-- Does a node stand in another one's tree? -/
def Win (M : List Nd) (a b : Int) : Prop := 0 ≤ a ∧ 0 ≤ b ∧ Up M a.toNat b.toNat
theorem win_nat {M : List Nd} {a b : Nat} : Win M a b ↔ Up M a b := by
  unfold Win
  constructor
  · rintro ⟨_, _, h⟩
    exact h
  · intro h
    exact ⟨by omega, by omega, h⟩
theorem win_lt {M : List Nd} {a b : Int} (h : Win M a b) : 0 ≤ a ∧ a < M.length ∧ 0 ≤ b ∧ b < M.length := by
  obtain ⟨h1, h2, h3⟩ := h
  have := h3.lt
  omega
def stepM (h : Nat → Nat) (d : Int) : Nat := if d < 0 then 0 else h d.toNat + 1
end Go.Proofs.Ytmlchbohijolaaa.Ar

namespace Go.Proofs.Ytmlchbohijolaaa.Ar
set_option linter.unusedSimpArgs false
set_option linter.unusedVariables false
open Go.RowKit Ba
open Ro (At Ro Cw ros Rr Ow Nw Fr Att Ap Sh cells acells below_new)
/-- Of the old blocks only those of F may have changed. -/
structure Touch (F : Nat → Prop) (w w' : World) : Prop where
  os : w'.os = w.os
  tape : w'.tape = w.tape
  output : w'.output = w.output
  size : w.heap.size ≤ w'.heap.size
  block : ∀ b, b < w.heap.size → ¬ F b → w'.heap[b]? = w.heap[b]?
theorem Touch.refl (F : Nat → Prop) (w : World) : Touch F w w := ⟨rfl, rfl, rfl, Nat.le_refl _, fun _ _ _ => rfl⟩
theorem Touch.trans {F G : Nat → Prop} {a b c : World} (h : Touch F a b) (k : Touch G b c) (hG : ∀ x, x < a.heap.size → G x → F x) : Touch F a c :=
  ⟨k.os.trans h.os, k.tape.trans h.tape, k.output.trans h.output, Nat.le_trans h.size k.size, fun x hx hn => (k.block x (Nat.lt_of_lt_of_le hx h.size) fun hg => hn (hG x hx hg)).trans (h.block x hx hn)⟩
theorem Touch.of_below {F : Nat → Prop} {w w' : World} (h : Below w.heap.size w w') : Touch F w w' := ⟨h.os, h.tape, h.output, h.size, fun b hb _ => h.block b hb⟩
theorem Touch.below {F : Nat → Prop} {N : Nat} {w w' : World} (h : Touch F w w') (hF : ∀ b, F b → N ≤ b) (hN : N ≤ w.heap.size) : Below N w w' :=
  ⟨h.os, h.tape, h.output, h.size, fun b hb => h.block b (by omega) fun hf => by have := hF b hf; omega⟩
theorem Touch.grown {F : Nat → Prop} {w w' : World} {row : Option Nat} (h : w.grownBy w' row) (hF : ∀ b, row = some b → F b) : Touch F w w' :=
  ⟨h.os, h.tape, h.output, h.size, fun b hb hn => h.block b hb fun e => hn (hF b e.symm)⟩
theorem Touch.set {F : Nat → Prop} (w : World) (a : Addr) (v : Value) (hF : F a.block) : Touch F w (w.setCell a v) :=
  ⟨rfl, rfl, rfl, by simp [World.setCell], fun b hb hn => Below.heap_setCell w a v b fun e => hn (e ▸ hF)⟩
theorem Touch.mono {F G : Nat → Prop} {w w' : World} (h : Touch F w w') (hG : ∀ b, b < w.heap.size → F b → G b) : Touch G w w' := ⟨h.os, h.tape, h.output, h.size, fun b hb hn => h.block b hb fun hf => hn (hG b hb hf)⟩

theorem owns_block {w w' : World} {N n size : Nat} {t : TypeId} {v : Value} {xs : List Value} (h : w.ownsRow N t size v n xs) (hb : ∀ g, v.ownBlock = some g → w'.heap[g]? = w.heap[g]?) : w'.ownsRow N t size v n xs := by
  refine ⟨h.1, ?_⟩
  rcases h.2 with hn | ⟨g, cap, cur, hv, hg, hh, rest⟩
  · exact .inl hn
  · exact .inr ⟨g, cap, cur, hv, hg, (hb g (by rw [hv]; rfl)).trans hh, rest⟩
theorem owns_lt {w : World} {N n size : Nat} {t : TypeId} {v : Value} {xs : List Value} (h : w.ownsRow N t size v n xs) {g : Nat} (hg : v.ownBlock = some g) : N ≤ g ∧ g < w.heap.size ∧ ∃ cs fr, w.heap[g]? = some (.cells cs t fr) := by
  rcases h.2 with ⟨hv, _⟩ | ⟨g', cap, cur, hv, hg', hh, rest⟩
  · rw [hv] at hg
    cases hg
  · rw [hv] at hg
    obtain rfl : g' = g := Option.some.inj hg
    exact ⟨hg', (Array.getElem?_eq_some_iff.1 hh).1, _, _, hh⟩
/-- Where a row's attributes lie. -/
def atBlock (x : Cw) : Option Nat := (Value.slice x.A x.ro.attrs.length x.c).ownBlock
theorem Fr.block {N : Nat} {w w' : World} {x : Cw} (h : Fr N w x) (hb : ∀ g, atBlock x = some g → w'.heap[g]? = w.heap[g]?) : Fr N w' x := ⟨owns_block h.1 hb, h.2⟩

def iv (i : Int) : Value := .int .i64 i
/-- The reference's document: all of its blocks are in F, and the call's own from N on. -/
structure RD (w : World) (N : Nat) (F : Nat → Prop) (p : Nat) (M : List Nd) (rk : List Int) (gX cX gU cU gR cR : Nat) (lX : List Cw) : Prop where
  box : w.heap[p]? = some (.cells #[.slice (some ⟨gX, 0, none⟩) M.length cX, .slice (some ⟨gU, 0, none⟩) M.length cU, .slice (some ⟨gR, 0, none⟩) M.length cR] 30)
  rows : w.ownsRow N 65 5 (.slice (some ⟨gX, 0, none⟩) M.length cX) M.length (lX.flatMap cells)
  attrs : ∀ x ∈ lX, Fr N w x ∧ ∀ g, atBlock x = some g → F g
  same : ros lX = M.map Nd.ro
  ups : w.ownsRow N 3 1 (.slice (some ⟨gU, 0, none⟩) M.length cU) M.length ((M.map Nd.up).map iv)
  ranks : w.ownsRow N 3 1 (.slice (some ⟨gR, 0, none⟩) M.length cR) M.length (rk.map iv)
  apart : gU ≠ gR
  low : N ≤ p
  fp : F p
  fx : F gX
  fu : F gU
  fr : F gR
  rf : Rf M rk
  bd : ∀ b, F b → b < w.heap.size
theorem RD.len {w : World} {N : Nat} {F : Nat → Prop} {p : Nat} {M : List Nd} {rk : List Int} {gX cX gU cU gR cR : Nat} {lX : List Cw} (h : RD w N F p M rk gX cX gU cU gR cR lX) : lX.length = M.length := by
  have := congrArg List.length h.same
  rw [Ro.len_ros, List.length_map] at this
  exact this
theorem RD.touch {w w' : World} {N : Nat} {F G : Nat → Prop} {p : Nat} {M : List Nd} {rk : List Int} {gX cX gU cU gR cR : Nat} {lX : List Cw} (h : RD w N F p M rk gX cX gU cU gR cR lX) (t : Touch G w w') (hd : ∀ b, F b → ¬ G b) : RD w' N F p M rk gX cX gU cU gR cR lX := by
  have hk : ∀ b, F b → b < w.heap.size → w'.heap[b]? = w.heap[b]? := fun b hf hb => t.block b hb (hd b hf)
  refine ⟨(hk p h.fp (Array.getElem?_eq_some_iff.1 h.box).1).trans h.box, owns_block h.rows fun g hg => ?_, fun x hx => ⟨Fr.block (h.attrs x hx).1 fun g hg => ?_, (h.attrs x hx).2⟩, h.same, owns_block h.ups fun g hg => ?_, owns_block h.ranks fun g hg => ?_, h.apart, h.low, h.fp, h.fx, h.fu, h.fr, h.rf, fun b hb => Nat.lt_of_lt_of_le (h.bd b hb) t.size⟩
  · obtain ⟨_, h2, _⟩ := owns_lt h.rows hg
    obtain rfl : gX = g := Option.some.inj hg
    exact hk _ h.fx h2
  · obtain ⟨_, h2, _⟩ := owns_lt (h.attrs x hx).1.1 hg
    exact hk g ((h.attrs x hx).2 g hg) h2
  · obtain ⟨_, h2, _⟩ := owns_lt h.ups hg
    obtain rfl : gU = g := Option.some.inj hg
    exact hk _ h.fu h2
  · obtain ⟨_, h2, _⟩ := owns_lt h.ranks hg
    obtain rfl : gR = g := Option.some.inj hg
    exact hk _ h.fr h2
theorem RD.below {w w' : World} {N : Nat} {F : Nat → Prop} {p : Nat} {M : List Nd} {rk : List Int} {gX cX gU cU gR cR : Nat} {lX : List Cw} (h : RD w N F p M rk gX cX gU cU gR cR lX) (hb : Below w.heap.size w w') : RD w' N F p M rk gX cX gU cU gR cR lX :=
  h.touch (G := fun _ => False) (Touch.of_below hb) fun _ _ h => h
theorem li_of {w : World} {N g c : Nat} {l : List Int} {n : Nat} (hn : l.length = n) (h : w.ownsRow N 3 1 (.slice (some ⟨g, 0, none⟩) n c) n (l.map iv)) : Li w g l := by
  obtain ⟨_, h2, _⟩ := owns_lt h (g := g) rfl
  refine ⟨h2, fun j hj => ?_⟩
  have := World.ownsRow.cells h (g := g) rfl j (iv l[j]) (by simp [hj])
  rw [WideShapes.add_plain, Nat.zero_add] at this
  exact this
theorem RD.rd {w : World} {N : Nat} {F : Nat → Prop} {p : Nat} {M : List Nd} {rk : List Int} {gX cX gU cU gR cR : Nat} {lX : List Cw} (h : RD w N F p M rk gX cX gU cU gR cR lX) : Rd11 w p M rk gX cX gU cU gR cR lX := by
  have hl := h.len
  have hlt := (Array.getElem?_eq_some_iff.1 h.box).1
  have hc := fun j => cell_of_row w p j _ _ _ h.box
  obtain ⟨_, hx, _⟩ := owns_lt h.rows (g := gX) rfl
  refine ⟨hlt, hc 0, hc 1, hc 2, ⟨fun h0 => ⟨gX, 0, rfl, hx, fun j hj i u hu => ?_⟩, fun x hx => (h.attrs x hx).1.att⟩, h.same, li_of (by simp) h.ups, li_of h.rf.len h.ranks⟩
  have hi : i < 5 := (List.getElem?_eq_some_iff.1 hu).1
  have := World.ownsRow.cells h.rows (g := gX) rfl (j * 5 + i) u (by rw [Ro.flat_at cells 5 Ro.len_cells _ _ _ hj hi]; exact hu)
  rw [WideShapes.add_plain] at this
  rw [show 0 + j * 5 + i = 0 + (j * 5 + i) from by omega]
  exact this
end Go.Proofs.Ytmlchbohijolaaa.Ar

namespace Go.Proofs.Ytmlchbohijolaaa.Ar
set_option maxRecDepth 100000
set_option linter.unusedSimpArgs false
set_option linter.unusedVariables false
open Go.RowKit Ba
open Ro (At Ro Cw ros Rr Ow Nw Fr Att Ap Sh cells acells below_new infoI)
/-- A slice of numbers of one's own. -/
def Iw (N : Nat) (w : World) (g c : Nat) (n : Nat) (l : List Int) : Prop := w.ownsRow N 3 1 (.slice (some ⟨g, 0, none⟩) n c) n (l.map iv)
theorem Iw.len {N : Nat} {w : World} {g c n : Nat} {l : List Int} (h : Iw N w g c n l) : l.length = n := by
  have := h.1
  rw [List.length_map, Nat.mul_one] at this
  exact this
theorem Iw.block {N : Nat} {w w' : World} {g c n : Nat} {l : List Int} (h : Iw N w g c n l) (hb : w'.heap[g]? = w.heap[g]?) : Iw N w' g c n l := owns_block h fun g' hg' => by
  obtain rfl : g = g' := Option.some.inj hg'
  exact hb
theorem Iw.lt {N : Nat} {w : World} {g c n : Nat} {l : List Int} (h : Iw N w g c n l) : N ≤ g ∧ g < w.heap.size := by
  obtain ⟨h1, h2, _⟩ := owns_lt h (g := g) rfl
  exact ⟨h1, h2⟩
theorem Iw.mono {N N' : Nat} {w : World} {g c n : Nat} {l : List Int} (h : Iw N w g c n l) (hN : N' ≤ N) : Iw N' w g c n l := World.ownsRow.mono h hN
theorem Iw.store {N : Nat} {w : World} {g c n : Nat} {l : List Int} (h : Iw N w g c n l) (j : Nat) (y : Int) : Iw N (w.setCell ⟨g, j, none⟩ (.int .i64 y)) g c n (l.set j y) := by
  have h1 := (World.ownsRow.stored h j (.int .i64 y)).1
  unfold Iw
  rw [List.map_set]
  exact h1
theorem Iw.cell {N : Nat} {w : World} {g c n : Nat} {l : List Int} (h : Iw N w g c n l) {j : Nat} (hj : j < n) : w.cell? ⟨g, j, none⟩ = some (.int .i64 (l[j]'(by rw [h.len]; exact hj))) ∧ w.frozen? ⟨g, j, none⟩ = false := by
  refine ⟨?_, World.ownsRow.frozenAt h j⟩
  rw [World.ownsRow.cellAt h j (by rw [Nat.mul_one]; exact hj)]
  simp [iv, h.len, hj]
theorem Iw.some {N : Nat} {w : World} {g c n : Nat} {l : List Int} (h : Iw N w g c n l) {j : Nat} (hj : j < n) : ∃ y : Int, w.cell? ⟨g, j, none⟩ = .some (.int .i64 y) ∧ w.frozen? ⟨g, j, none⟩ = false := ⟨_, h.cell hj⟩
/-! ### What a call leaves of a document. -/
def Doc11 (w : World) (N : Nat) (F : Nat → Prop) (p : Nat) (M : List Nd) : Prop := ∃ rk gX cX gU cU gR cR lX, RD w N F p M rk gX cX gU cU gR cR lX
def Next (w w' : World) (F F' : Nat → Prop) : Prop := Touch F w w' ∧ (∀ b, F b → F' b) ∧ ∀ b, F' b → F b ∨ (w.heap.size ≤ b ∧ b < w'.heap.size)
theorem Next.refl (w : World) (F : Nat → Prop) : Next w w F F := ⟨Touch.refl F w, fun _ h => h, fun _ h => .inl h⟩
theorem Next.trans {a b c : World} {F G H : Nat → Prop} (h : Next a b F G) (k : Next b c G H) : Next a c F H := by
  have h1 := h.1.size
  have h2 := k.1.size
  refine ⟨h.1.trans k.1 fun x hx hg => ?_, fun x hx => k.2.1 x (h.2.1 x hx), fun x hx => ?_⟩
  · rcases h.2.2 x hg with h | h
    · exact h
    · omega
  · rcases k.2.2 x hx with h3 | h3
    · rcases h.2.2 x h3 with h4 | h4
      · exact .inl h4
      · exact .inr ⟨h4.1, by omega⟩
    · exact .inr ⟨by omega, h3.2⟩
/-- The blocks that were made meanwhile are the document's, too. -/
def Wide (w w' : World) (F : Nat → Prop) (b : Nat) : Prop := F b ∨ (w.heap.size ≤ b ∧ b < w'.heap.size)
theorem ro_take (M : List Nd) (n : Nat) : (takeOut M n).map Nd.ro = M.map Nd.ro := by
  apply List.ext_getElem?
  intro j
  unfold takeOut
  rw [List.getElem?_map, List.getElem?_mapIdx, List.getElem?_map]
  cases M[j]? <;> rfl
theorem box_frozen {w : World} {p : Nat} {cs : Array Value} {t : TypeId} (h : w.heap[p]? = some (.cells cs t)) (j : Nat) : w.frozen? ⟨p, j, none⟩ = false := by
  unfold World.frozen?
  rw [h]
  rfl
theorem RD.p_lt {w : World} {N : Nat} {F : Nat → Prop} {p : Nat} {M : List Nd} {rk : List Int} {gX cX gU cU gR cR : Nat} {lX : List Cw} (h : RD w N F p M rk gX cX gU cU gR cR lX) : p < w.heap.size := (Array.getElem?_eq_some_iff.1 h.box).1
end Go.Proofs.Ytmlchbohijolaaa.Ar

namespace Go.Proofs.Ytmlchbohijolaaa.Ar
set_option linter.unusedSimpArgs false
set_option linter.unusedVariables false
open Go.RowKit Ba
open Ro (At Ro Cw ros Rr Ow Nw Fr Att Ap Sh cells acells below_new infoI)
/-! ### Ranks given anew. -/
theorem ro_set (M : List Nd) (P A n : Nat) : (setM M P A n).map Nd.ro = M.map Nd.ro := by
  apply List.ext_getElem?
  intro j
  unfold setM
  rw [List.getElem?_map, List.getElem?_mapIdx, List.getElem?_map]
  cases M[j]? <;> rfl

/-- A slice of numbers of one's own: where it lies. -/
theorem nw_at {N : Nat} {w : World} {v : Value} {l : List Nat} (h : Nw N w v l) : ∃ A c, v = .slice A l.length c ∧ (0 < l.length → ∃ b, A = some ⟨b, 0, none⟩ ∧ N ≤ b ∧ b < w.heap.size ∧ ∀ j (h : j < l.length), w.cell? ⟨b, j, none⟩ = some (.int .i64 (l[j] : Nat))) := by
  obtain ⟨A, c, hv, _, _, hr⟩ := h.form
  refine ⟨A, c, hv, fun h0 => ?_⟩
  rcases h.2 with ⟨hn, hl⟩ | ⟨g, cap, cur, hv', hg, hh, _⟩
  · omega
  · rw [hv] at hv'
    injection hv' with h1 h2 h3
    subst h1
    obtain ⟨b, off, hb, hlt, hc⟩ := hr h0
    injection hb with hb
    injection hb with hb1 hb2 _
    subst hb1 hb2
    refine ⟨g, rfl, hg, hlt, fun j hj => ?_⟩
    have := hc j hj
    rwa [Nat.zero_add] at this
end Go.Proofs.Ytmlchbohijolaaa.Ar

namespace Go.Proofs.Ytmlchbohijolaaa.Ar
set_option maxRecDepth 100000
set_option linter.unusedSimpArgs false
set_option linter.unusedVariables false
open Go.RowKit Ba
open Ro (At Ro Cw ros Rr Ow Nw Fr Att Ap Sh cells acells below_new infoI)
theorem Iw.drew {N : Nat} {w : World} {g c n : Nat} {l : List Int} (h : Iw N w g c n l) (k : Nat) : Iw N (w.drewN k) g c n l := owns_block h fun _ _ => rfl
theorem below_dN11 {B : Nat} {w w' : World} (h : Below B w w') (n : Nat) : Below B w (w'.drewN n) := ⟨h.1, h.2, h.3, h.4, h.5⟩
end Go.Proofs.Ytmlchbohijolaaa.Ar

namespace Go.Proofs.Ytmlchbohijolaaa.Ar
set_option linter.unusedSimpArgs false
set_option linter.unusedVariables false
open Go.RowKit Ba
open Ro (At Ro Cw ros Rr Ow Nw Fr Att Ap Sh cells acells below_new infoI info_row len_cells)
/-- The document's box and its three slices, each as long as it is. -/
structure RP (w : World) (N : Nat) (F : Nat → Prop) (p : Nat) (nX nU nR : Nat) (gX cX gU cU gR cR : Nat) (lX : List Cw) (lU lR : List Int) : Prop where
  box : w.heap[p]? = some (.cells #[.slice (some ⟨gX, 0, none⟩) nX cX, .slice (some ⟨gU, 0, none⟩) nU cU, .slice (some ⟨gR, 0, none⟩) nR cR] 30)
  rows : w.ownsRow N 65 5 (.slice (some ⟨gX, 0, none⟩) nX cX) nX (lX.flatMap cells)
  attrs : ∀ x ∈ lX, Fr N w x ∧ ∀ g, atBlock x = some g → F g
  ups : Iw N w gU cU nU lU
  ranks : Iw N w gR cR nR lR
  apart : gU ≠ gR
  low : N ≤ p
  fp : F p
  fx : F gX
  fu : F gU
  fr : F gR
  bd : ∀ b, F b → b < w.heap.size
section
variable {w : World} {N : Nat} {F : Nat → Prop} {p nX nU nR gX cX gU cU gR cR : Nat} {lX : List Cw} {lU lR : List Int}
theorem RP.doc {M : List Nd} (h : RP w N F p M.length M.length M.length gX cX gU cU gR cR lX lU lR) (hX : ros lX = M.map Nd.ro) (hU : lU = M.map Nd.up) (hR : Rf M lR) : RD w N F p M lR gX cX gU cU gR cR lX :=
  ⟨h.box, h.rows, h.attrs, hX, hU ▸ h.ups, h.ranks, h.apart, h.low, h.fp, h.fx, h.fu, h.fr, hR, h.bd⟩
theorem RP.p_lt (h : RP w N F p nX nU nR gX cX gU cU gR cR lX lU lR) : p < w.heap.size := (Array.getElem?_eq_some_iff.1 h.box).1
theorem RP.hN (h : RP w N F p nX nU nR gX cX gU cU gR cR lX lU lR) : N ≤ w.heap.size := Nat.le_of_lt (Nat.lt_of_le_of_lt h.low h.p_lt)
theorem RP.cell (h : RP w N F p nX nU nR gX cX gU cU gR cR lX lU lR) : w.cell? ⟨p, 0, none⟩ = some (.slice (some ⟨gX, 0, none⟩) nX cX) ∧ w.cell? ⟨p, 1, none⟩ = some (.slice (some ⟨gU, 0, none⟩) nU cU) ∧ w.cell? ⟨p, 2, none⟩ = some (.slice (some ⟨gR, 0, none⟩) nR cR) :=
  ⟨cell_of_row w p 0 _ _ _ h.box, cell_of_row w p 1 _ _ _ h.box, cell_of_row w p 2 _ _ _ h.box⟩
theorem RP.below {w' : World} (h : RP w N F p nX nU nR gX cX gU cU gR cR lX lU lR) (hb : Below w.heap.size w w') : RP w' N F p nX nU nR gX cX gU cU gR cR lX lU lR := by
  have hk : ∀ b, b < w.heap.size → w'.heap[b]? = w.heap[b]? := fun b hb' => hb.block b hb'
  refine ⟨(hk p h.p_lt).trans h.box, owns_block h.rows fun g hg => hk g (owns_lt h.rows hg).2.1, fun x hx => ⟨Fr.block (h.attrs x hx).1 fun g hg => hk g (owns_lt (h.attrs x hx).1.1 hg).2.1, (h.attrs x hx).2⟩, h.ups.block (hk _ h.ups.lt.2), h.ranks.block (hk _ h.ranks.lt.2), h.apart, h.low, h.fp, h.fx, h.fu, h.fr, fun b hb' => Nat.lt_of_lt_of_le (h.bd b hb') hb.size⟩
/-- Blocks of other types are others. -/
theorem type_ne {b1 b2 : Nat} {c1 c2 : Array Value} {f1 f2 : Nat × Nat} {t1 t2 : TypeId} (h1 : w.heap[b1]? = some (.cells c1 t1 f1)) (h2 : w.heap[b2]? = some (.cells c2 t2 f2)) (h : t1 ≠ t2) : b1 ≠ b2 := fun e => by
  rw [e, h2] at h1
  injection h1 with h1
  injection h1 with _ h3
  exact h h3.symm
theorem RP.obj (h : RP w N F p nX nU nR gX cX gU cU gR cR lX lU lR) : (∃ c f, w.heap[gX]? = some (.cells c 65 f)) ∧ (∃ c f, w.heap[gU]? = some (.cells c 3 f)) ∧ ∃ c f, w.heap[gR]? = some (.cells c 3 f) := by
  have key : ∀ {t : TypeId} {v : Value} {n s : Nat} {xs : List Value} {g : Nat}, w.ownsRow N t s v n xs → v.ownBlock = some g → ∃ c f, w.heap[g]? = some (.cells c t f) := fun {t v n s xs g} ho hg => by
    rcases ho.2 with ⟨hv, _⟩ | ⟨g', cap, cur, hv, hg', hh, rest⟩
    · rw [hv] at hg
      cases hg
    · rw [hv] at hg
      obtain rfl : g' = g := Option.some.inj hg
      exact ⟨_, _, hh⟩
  exact ⟨key h.rows rfl, key h.ups rfl, key h.ranks rfl⟩
theorem at_obj {N : Nat} {w : World} {x : Cw} (h : Fr N w x) {g : Nat} (hg : atBlock x = some g) : ∃ c f, w.heap[g]? = some (.cells c 63 f) := by
  rcases h.1.2 with ⟨hv, _⟩ | ⟨g', cap, cur, hv, hg', hh, rest⟩
  · unfold atBlock at hg
    rw [hv] at hg
    cases hg
  · unfold atBlock at hg
    rw [hv] at hg
    obtain rfl : g' = g := Option.some.inj hg
    exact ⟨_, _, hh⟩
end
end Go.Proofs.Ytmlchbohijolaaa.Ar

namespace Go.Proofs.Ytmlchbohijolaaa.Ar
set_option maxRecDepth 100000
set_option linter.unusedSimpArgs false
set_option linter.unusedVariables false
open Go.RowKit Ba
open Ro (At Ro Cw ros Rr Ow Nw Fr Att Ap Sh cells acells below_new infoI info_row len_cells rowV rowO cells_one Few Fits deeper)
section
variable {w : World} {N : Nat} {F : Nat → Prop} {p nX nU nR gX cX gU cU gR cR : Nat} {lX : List Cw} {lU lR : List Int}
end
end Go.Proofs.Ytmlchbohijolaaa.Ar

namespace Go.Proofs.Ytmlchbohijolaaa.Ar
set_option maxRecDepth 100000
set_option linter.unusedSimpArgs false
set_option linter.unusedVariables false
open Go.RowKit Ba
open Ro (At Ro Cw ros Rr Ow Nw Fr Att Ap Sh cells acells below_new infoI info_row len_cells)
/-! ### What Insert answers. -/
open Classical in
noncomputable def insE (M : List Nd) (P A n : Int) : Int :=
  if P < 0 ∨ (M.length : Int) ≤ P ∨ n < 1 ∨ (M.length : Int) ≤ n then 110
  else if (0 < P ∧ (nd M P.toNat).ro.kind ≠ 0) ∨ Win M P n then 111
  else if A < 0 ∨ (((nd M P.toNat).kids.filter (· != n.toNat)).length : Int) < A then 1 else 0
noncomputable def insM (M : List Nd) (P A n : Int) : List Nd := if insE M P A n = 0 then setM M P.toNat A.toNat n.toNat else M
theorem ins_110 {M : List Nd} {P A n : Int} (h : P < 0 ∨ (M.length : Int) ≤ P ∨ n < 1 ∨ (M.length : Int) ≤ n) : insE M P A n = 110 ∧ insM M P A n = M := by
  have e : insE M P A n = 110 := by unfold insE; rw [if_pos h]
  refine ⟨e, ?_⟩
  unfold insM
  rw [e, if_neg (by decide)]
theorem ins_111 {M : List Nd} {P A n : Int} (h : ¬ (P < 0 ∨ (M.length : Int) ≤ P ∨ n < 1 ∨ (M.length : Int) ≤ n)) (h2 : (0 < P ∧ (nd M P.toNat).ro.kind ≠ 0) ∨ Win M P n) : insE M P A n = 111 ∧ insM M P A n = M := by
  have e : insE M P A n = 111 := by unfold insE; rw [if_neg h, if_pos h2]
  refine ⟨e, ?_⟩
  unfold insM
  rw [e, if_neg (by decide)]
theorem ins_1 {M : List Nd} {P A n : Int} (h : ¬ (P < 0 ∨ (M.length : Int) ≤ P ∨ n < 1 ∨ (M.length : Int) ≤ n)) (h2 : ¬ ((0 < P ∧ (nd M P.toNat).ro.kind ≠ 0) ∨ Win M P n)) (h3 : A < 0 ∨ (((nd M P.toNat).kids.filter (· != n.toNat)).length : Int) < A) : insE M P A n = 1 ∧ insM M P A n = M := by
  have e : insE M P A n = 1 := by unfold insE; rw [if_neg h, if_neg h2, if_pos h3]
  refine ⟨e, ?_⟩
  unfold insM
  rw [e, if_neg (by decide)]
theorem ins_0 {M : List Nd} {P A n : Int} (h : ¬ (P < 0 ∨ (M.length : Int) ≤ P ∨ n < 1 ∨ (M.length : Int) ≤ n)) (h2 : ¬ ((0 < P ∧ (nd M P.toNat).ro.kind ≠ 0) ∨ Win M P n)) (h3 : ¬ (A < 0 ∨ (((nd M P.toNat).kids.filter (· != n.toNat)).length : Int) < A)) : insE M P A n = 0 ∧ insM M P A n = setM M P.toNat A.toNat n.toNat := by
  have e : insE M P A n = 0 := by unfold insE; rw [if_neg h, if_neg h2, if_neg h3]
  refine ⟨e, ?_⟩
  unfold insM
  rw [e, if_pos rfl]
theorem filter_len {l : List Nat} (hn : l.Nodup) (n : Nat) : (l.filter (· != n)).length = if n ∈ l then l.length - 1 else l.length := by
  induction l with
  | nil => simp
  | cons a r ih =>
    have hr := (List.nodup_cons.1 hn)
    rw [List.filter_cons]
    by_cases e : a = n
    · subst e
      have h0 : ((a != a) : Bool) = false := by simp
      rw [h0]
      have := ih hr.2
      rw [if_neg hr.1] at this
      simp [this]
    · have h0 : ((a != n) : Bool) = true := by simpa using e
      rw [h0]
      have := ih hr.2
      rw [if_pos rfl, List.length_cons, this]
      by_cases hm : n ∈ r
      · rw [if_pos hm, if_pos (by simp [hm])]
        have := List.length_pos_of_mem hm
        rw [List.length_cons]
        omega
      · rw [if_neg hm, if_neg (by simp [hm]; exact fun h => e h.symm)]
        simp
theorem kids_less {M : List Nd} (W : Wf M) {P n : Nat} (hn : n < M.length) : (((nd M P).kids.filter (· != n)).length : Int) = if (nd M n).up = (P : Int) then ((nd M P).kids.length : Int) - 1 else (nd M P).kids.length := by
  rw [filter_len (W.nodup P)]
  by_cases h : (nd M n).up = (P : Int)
  · have hm := (W.kid P n).2 ⟨hn, h⟩
    have := List.length_pos_of_mem hm
    rw [if_pos h, if_pos hm]
    omega
  · rw [if_neg h, if_neg fun hm => h ((W.kid P n).1 hm).2]
theorem RD.cellX {w : World} {N : Nat} {F : Nat → Prop} {p : Nat} {M : List Nd} {rk : List Int} {gX cX gU cU gR cR : Nat} {lX : List Cw} (h : RD w N F p M rk gX cX gU cU gR cR lX) {k : Nat} (hk : k < M.length) : ∃ x : Cw, lX[k]? = some x ∧ x.ro = (nd M k).ro ∧ Att w w.heap.size x ∧ ∀ j u, (cells x)[j]? = some u → w.cell? ⟨gX, k * 5 + j, none⟩ = some u := by
  have hl := h.len
  have hkl : k < lX.length := by omega
  have hs : (ros lX)[k]? = (M.map Nd.ro)[k]? := by rw [h.same]
  refine ⟨lX[k], List.getElem?_eq_getElem hkl, ?_, (h.attrs _ (List.getElem_mem hkl)).1.att, fun j u hu => ?_⟩
  · unfold ros at hs
    rw [List.getElem?_map, List.getElem?_map, List.getElem?_eq_getElem hkl, List.getElem?_eq_getElem hk] at hs
    have hs := Option.some.inj hs
    rw [hs]
    unfold nd
    rw [List.getElem?_eq_getElem hk]
    rfl
  · have hj : j < 5 := (List.getElem?_eq_some_iff.1 hu).1
    have := World.ownsRow.cells h.rows (g := gX) rfl (k * 5 + j) u (by rw [Ro.flat_at cells 5 Ro.len_cells _ _ _ hkl hj]; exact hu)
    rwa [WideShapes.add_plain, Nat.zero_add] at this
theorem Doc11.below {w w' : World} {N : Nat} {F : Nat → Prop} {p : Nat} {M : List Nd} (h : Doc11 w N F p M) (hb : Below w.heap.size w w') : Doc11 w' N F p M := by
  obtain ⟨rk, gX, cX, gU, cU, gR, cR, lX, D⟩ := h
  exact ⟨rk, gX, cX, gU, cU, gR, cR, lX, D.below hb⟩
theorem Next.of_below {w w' : World} {F : Nat → Prop} (hb : Below w.heap.size w w') : Next w w' F F := ⟨Touch.of_below hb, fun _ h => h, fun _ h => .inl h⟩
end Go.Proofs.Ytmlchbohijolaaa.Ar

namespace Go.Proofs.Ytmlchbohijolaaa.Ba
set_option maxRecDepth 100000
set_option linter.unusedSimpArgs false
set_option linter.unusedVariables false
open Go.RowKit
/-- A slice at A reads as these strings, below block B. -/
def Rd (w : World) (N : Nat) (A : Option Addr) (l : List ByteArray) : Prop :=
  0 < l.length → ∃ b off, A = some ⟨b, off, none⟩ ∧ b < N ∧ ∀ j (h : j < l.length), w.cell? ⟨b, off + j, none⟩ = some (.string l[j])

theorem Rd.nil (w : World) (N : Nat) (A : Option Addr) : Rd w N A [] := fun h => absurd h (by simp)
theorem Rd.keep {w w' : World} {N : Nat} {A : Option Addr} {l : List ByteArray} (h : Rd w N A l) (hk : ∀ p : Addr, p.block < N → w'.cell? p = w.cell? p) : Rd w' N A l := fun h0 => by
  obtain ⟨b, off, e, hb, hc⟩ := h h0
  exact ⟨b, off, e, hb, fun j hj => (hk _ hb).trans (hc j hj)⟩
theorem Rd.more {w : World} {N N' : Nat} {A : Option Addr} {l : List ByteArray} (h : Rd w N A l) (hN : N ≤ N') : Rd w N' A l := fun h0 => by
  obtain ⟨b, off, e, hb, hc⟩ := h h0
  exact ⟨b, off, e, by omega, hc⟩
theorem Rd.below {w w' : World} {N M : Nat} {A : Option Addr} {l : List ByteArray} (h : Rd w N A l) (hb : Below M w w') (hN : N ≤ M) : Rd w' N A l := h.keep fun p hp => hb.cell (p := p) (by omega)
theorem Rd.alloc {w : World} {N : Nat} {A : Option Addr} {l : List ByteArray} (h : Rd w N A l) (hN : N ≤ w.heap.size) (o : Obj) : Rd (w.alloc o) N A l := h.keep fun p hp => World.cell?_alloc_lt w o p (by omega)
theorem Rd.take {w : World} {N : Nat} {A : Option Addr} {l : List ByteArray} (h : Rd w N A l) (m : Nat) : Rd w N A (l.take m) := fun h0 => by
  rw [List.length_take] at h0
  obtain ⟨b, off, e, hb, hc⟩ := h (by omega)
  refine ⟨b, off, e, hb, fun j hj => ?_⟩
  rw [List.length_take] at hj
  rw [List.getElem_take]
  exact hc j (by omega)
/-- Cut: what the model makes of s[m:]. -/
theorem Rd.drop {w : World} {N : Nat} {A : Option Addr} {l : List ByteArray} (h : Rd w N A l) (m cap : Nat) (hc : l.length ≤ cap) : Rd w N (if cap = m then A else A.map (·.add m)) (l.drop m) := fun h0 => by
  rw [List.length_drop] at h0
  obtain ⟨b, off, e, hb, hcc⟩ := h (by omega)
  rw [if_neg (by omega), e]
  refine ⟨b, off + m, by simp [WideShapes.add_plain], hb, fun j hj => ?_⟩
  rw [List.length_drop] at hj
  rw [List.getElem_drop, Nat.add_assoc]
  exact hcc (m + j) (by omega)

def sc (s : ByteArray) : Value := .string s
/-- v is a slice of strings of the call's own that holds l. -/
def Sown (N : Nat) (w : World) (v : Value) (l : List ByteArray) : Prop := w.ownsRow N 9 1 v l.length (l.map sc)

theorem Sown.nil (N : Nat) (w : World) : Sown N w (.slice none 0 0) [] := World.ownsRow_nil w N _ 1
theorem Sown.alloc {N : Nat} {w : World} {v : Value} {l : List ByteArray} (h : Sown N w v l) (o : Obj) : Sown N (w.alloc o) v l := World.ownsRow.alloc h o
theorem Sown.mono {N N' : Nat} {w : World} {v : Value} {l : List ByteArray} (h : Sown N w v l) (hN : N' ≤ N) : Sown N' w v l := World.ownsRow.mono h hN
theorem Sown.below {N M : Nat} {w w' : World} {v : Value} {l : List ByteArray} (h : Sown N w v l) (hb : Below M w w') (hM : w.heap.size ≤ M) : Sown N w' v l := by
  refine ⟨h.1, ?_⟩
  rcases h.2 with hn | ⟨g, cap, cur, hv, hg, hh, rest⟩
  · exact .inl hn
  · refine .inr ⟨g, cap, cur, hv, hg, ?_, rest⟩
    have hlt : g < w.heap.size := (Array.getElem?_eq_some_iff.1 hh).1
    rw [hb.block g (by omega)]
    exact hh
theorem Sown.kept {N : Nat} {w0 w w' : World} {v : Value} {l : List ByteArray} (h : Sown N w v l) (hg : w.grownBy w' v.ownBlock) (hb : Below N w0 w) (hN : N ≤ w.heap.size) : Below N w0 w' :=
  hb.grown hg hN fun k hk => (h.lt k hk).1
/-- Its form, and what it reads as. -/
theorem Sown.form {N : Nat} {w : World} {v : Value} {l : List ByteArray} (h : Sown N w v l) : ∃ A c, v = .slice A l.length c ∧ l.length ≤ c ∧ c ≤ maxLen ∧ Rd w w.heap.size A l := by
  rcases h.2 with ⟨hv, hl⟩ | ⟨g, cap, cur, hv, hg, hh, hn, hm, hs, ht⟩
  · have : l = [] := List.eq_nil_of_length_eq_zero hl
    subst this
    exact ⟨none, 0, hv, Nat.le_refl _, Nat.zero_le _, Rd.nil _ _ _⟩
  · refine ⟨some ⟨g, 0, none⟩, cap, hv, hn, hm, fun _ => ⟨g, 0, rfl, (Array.getElem?_eq_some_iff.1 hh).1, fun j hj => ?_⟩⟩
    subst hv
    have := World.ownsRow.cells h rfl j (sc l[j]) (by simp [hj])
    rw [WideShapes.add_plain] at this
    exact this
end Go.Proofs.Ytmlchbohijolaaa.Ba

namespace Go.Proofs.Ytmlchbohijolaaa.Fm
set_option linter.unusedSimpArgs false
set_option linter.unusedVariables false

section order
variable {α : Type}

/-- A name put at its place; 'put': it is there already. -/
def insL (lt : α → α → Bool) (x : α) : Bool → List α → List α
  | true, l => l
  | false, [] => [x]
  | false, y :: l => if lt x y = true then x :: y :: l else y :: insL lt x false l

/-- How many names are smaller. -/
def below (lt : α → α → Bool) (l : List α) (s : α) : Nat := l.countP (lt · s)

variable [DecidableEq α]

/-- Does it stand there? -/
def isIn (x : α) (l : List α) : Bool := decide (x ∈ l)
def ins (lt : α → α → Bool) (x : α) (l : List α) : List α := insL lt x (isIn x l) l
end order

section bytes

/-- A space. -/
def sp (c : UInt8) : Bool := c == 32 || c == 9 || c == 10 || c == 12 || c == 13
/-- A small letter. -/
def low (c : UInt8) : UInt8 := if 65 ≤ c ∧ c ≤ 90 then c + 32 else c
end bytes
end Go.Proofs.Ytmlchbohijolaaa.Fm

namespace Go.Proofs.Ytmlchbohijolaaa.Fo
set_option linter.unusedSimpArgs false
set_option linter.unusedVariables false
open Go.RowKit Ba Fm
/-- Less, byte by byte. -/
def lt (a b : ByteArray) : Bool := Op.bytesLess a.toList b.toList

theorem below_dN {N : Nat} {a w : World} (h : Below N a w) (n : Nat) : Below N a (w.drewN n) := ⟨h.os, h.tape, h.output, h.size, h.block⟩

/-- v reads as l, below block N. -/
def Sv (w : World) (N : Nat) (v : Value) (l : List ByteArray) : Prop := ∃ A c, v = .slice A l.length c ∧ l.length ≤ c ∧ (A = none → c = 0) ∧ Rd w N A l
theorem Sv.below {w w' : World} {N M : Nat} {v : Value} {l : List ByteArray} (h : Sv w N v l) (hb : Below M w w') (hN : N ≤ M) : Sv w' N v l := by
  obtain ⟨A, c, h1, h2, h3, h4⟩ := h
  exact ⟨A, c, h1, h2, h3, h4.below hb hN⟩
theorem Sv.more {w : World} {N M : Nat} {v : Value} {l : List ByteArray} (h : Sv w N v l) (hN : N ≤ M) : Sv w M v l := by
  obtain ⟨A, c, h1, h2, h3, h4⟩ := h
  exact ⟨A, c, h1, h2, h3, h4.more hN⟩

theorem Sv.rd {w : World} {N n c : Nat} {A : Option Addr} {l : List ByteArray} (h : Sv w N (.slice A n c) l) : Rd w N A l := by
  obtain ⟨A', c', e, _, _, hr⟩ := h
  injection e with e
  rw [e]
  exact hr
end Go.Proofs.Ytmlchbohijolaaa.Fo

namespace Go.Proofs.Ytmlchbohijolaaa.Fo
set_option maxRecDepth 100000
set_option linter.unusedSimpArgs false
set_option linter.unusedVariables false
open Go.RowKit Ba Fm
theorem space_any (c : UInt8) (w : World) :
    Calls Try.prog 90 #[.int .u8 c.toNat] w fun e w' => e = .returned (.bool (sp c)) ∧ w = w' := by
  have e9 : ((c.toNat : Int) == 9) = (c == 9) := u8_eq (b := 9)
  have e10 : ((c.toNat : Int) == 10) = (c == 10) := u8_eq (b := 10)
  have e12 : ((c.toNat : Int) == 12) = (c == 12) := u8_eq (b := 12)
  have e13 : ((c.toNat : Int) == 13) = (c == 13) := u8_eq (b := 13)
  have e32 : ((c.toNat : Int) == 32) = (c == 32) := u8_eq (b := 32)
  cases h9 : (c == 9) <;> cases h10 : (c == 10) <;> cases h12 : (c == 12) <;> cases h13 : (c == 13) <;> cases h32 : (c == 32)
  all_goals
    rw [h9] at e9
    rw [h10] at e10
    rw [h12] at e12
    rw [h13] at e13
    rw [h32] at e32
    have H9 := Lib.hid h9; have H10 := Lib.hid h10; have H12 := Lib.hid h12; have H13 := Lib.hid h13; have H32 := Lib.hid h32
    clear h9 h10 h12 h13 h32
    go_enter Try.func90, Try.ntmps90
    go_wp2
    go_ret
    exact ⟨ret_bool (by unfold sp; rw [H9.out, H10.out, H12.out, H13.out, H32.out]; rfl), rfl⟩

end Go.Proofs.Ytmlchbohijolaaa.Fo

namespace Go.Proofs.Ytmlchbohijolaaa.Nm
set_option linter.unusedSimpArgs false
set_option linter.unusedVariables false
open Ba Fm
/-- May a byte stand in an element's name; in an attribute's. -/
def elB (c : UInt8) : Bool := !(sp c || (65 ≤ c && c ≤ 90) || c == 0 || c == 47 || c == 62)
def atB (c : UInt8) : Bool := elB c && !(c == 34 || c == 39 || c == 60 || c == 61)
def small (c : UInt8) : Bool := 97 ≤ c && c ≤ 122
def rightL : List UInt8 → Bool
  | [] => false
  | c :: r => small c && (c :: r).all elB
def attrL : List UInt8 → Bool
  | [] => false
  | c :: r => (c :: r).all atB
def rightB (s : ByteArray) : Bool := rightL (L s)
def attrB (s : ByteArray) : Bool := attrL (L s)

end Go.Proofs.Ytmlchbohijolaaa.Nm
