/-
  Plain mathematics for stage 2: lists that rise in a strict order, merging, inserting, counting; spaces, words and small letters of bytes. Nothing of the program stands here.
  Plain mathematics of stage 9 (addresses): what is ignored of an address, its scheme, bytes for their marks; what follows for the laws. It speaks of no program.
  Strings as lists of bytes. For every stage.
  Trees as rows, in plain words: which rows are right, where a node's tree ends, its kids, its text; nothing of the program.
  Plain mathematics of stage 10 (what can execute scripts): handlers, pairs of an element and an attribute, sinks, safe nodes and trees; what follows for the laws. It speaks of no program.
  The region of a map's literal: its entries may be put in whatever order; in each the map is made of the same pairs. It speaks of no program.
  Attributes in memory: what a slice of them reads as.
  Rows in memory: what a slice of rows reads as, their attributes, a row loaded, a row in a box.
  Walks of stage 4: has, depthOf, exceeds, Big.
  Walks of stage 4: where a tree ends, its parent (rows.endOf, End, Parent; boltingref04.End, Parent).
  Walks of stage 4: the kids of a node, by a range over a function (kidsOf).
  Walks of stage 4: Kids, placeOf; boltingref04.Kids.
  A set of names tells whether two attributes have the same name.
  Walks of stage 4: repeated, validRow, valid, Check.
  Walks of stage 4: validRow, valid, Check.
  Walks of stage 4: boltingref04.Row, Right, Check.
  Walks of stage 4: boltingref04.Kids, boltinglaw04.nums.
  Rows and attributes of the call's own: what they hold, what is kept where another one grows, append of a row and of attributes.
  Walks of stage 4: boltingref04.Moved, Join; rows.appendMoved; boltinglaw04.bound.
  Walks of stage 4: boltinglaw04.bound, boltingref04.Join; append of rows onto rows.
  The text of rows, and rows with their texts joined, in plain words.
  Slices of bytes of the call's own: what they hold, the string of them. For every stage.
  Walks of stage 4: joined, Text, textsEnd; boltingref04.Text.
  Walks of stage 4: textsEnd, Normal.
  Walks of stage 4: boltingref04.Normal.
  Walks of stage 4: sameAttrs, sameRow, Same; boltingref04.Attrs, Same.
  Walks of stage 4: sameRow, Same; boltingref04.Same.
  Walks of stage 4: boltingref04.Same.
  Walks of stage 4: placeOf.
  Walks of stage 4: nums; Kids and its reference out of range; Take, Drop.
  Walks of stage 4: Put and its reference.
  Walks of stage 4: the reference's Put.
  A value that reads as rows (Rv), and the contracts of Check, Same, Normal over it.
  Walks of stage 4: the fixed rows.
  Walks of stage 4: the fixed samples.
  Stage 4, plain: what right rows are; the parent in two ways.
  Arguments that are slices of structs, or structs, as a statement's row reads them: for rows, tokens and whatever has attributes.
  Stage 4: arguments that are rows, as the statement's row reads them.
  Walks of stage 10: Handler, Nav.
  Slices of strings in memory: what a slice reads as, and a slice of the call's own. For every stage.
  Slices of strings as values: reading (Sv), of the call's own (Sown), literals, stores; the order of strings. For every stage from 5 on.
  fold.Space.
  boltingref02.Space.
-/
import Derived.Test.YtkogkildipmnpaaRows
import Derived.WalkKit
import Derived.WalkSpells
import Derived.Lib.OthersKept
import Derived.Lib.Hide
import Derived.Lib.Strings
import Derived.OpenShut
import Derived.WalkLawsBesides
import Derived.Lib.AppendStr
import Derived.WalkSmall
import Derived.Laws.IdiomStrings
import Derived.Laws.Cover1
import Derived.Laws.OwnMore
import Derived.Laws.AppendOwnNone
import Derived.Deep.AppendLies
import Derived.Deep.Draws
import Derived.Deep.Onto
import Derived.Maps.AppendAt
import Derived.Orders
import Derived.Tactics
import Derived.Maps.Keyed
import Derived.Maps.Own
import Derived.RegionTactic
import Derived.Below
import Derived.Deep.MidRow
import Derived.BigQuiet
import Derived.Deep.QuietTactic
import Derived.RangeFuncBox
import Derived.RangeFuncLeaves
import Derived.Shelf.Abstract
import Derived.OwnWalkIn
import Derived.TacticsInMore
import Derived.LoopNIn
import Derived.LoopIn
import Derived.Sort.BigQuietIn
import Derived.Maps.OwnSet
import Derived.StillTailTactics
import Derived.Deep.RegionHeld3
import Derived.Deep.CutRange
import Derived.Laws.StructEq
import Derived.Deep.RegionWith
import Derived.Shelf.RegionOpen
import Derived.Laws.MakeOwn
import Derived.Deep.DeepCutAuto
import Derived.Deep.Slices
import Derived.Deep.Fields
import Derived.ChangeSame
import Derived.ProofKit
import Derived.Carry
import Derived.Lib.SmallJoins
import Derived.DeepKeys5
namespace Go.Proofs.Ytkogkildipmnpaa.Fm
set_option linter.unusedSimpArgs false
set_option linter.unusedVariables false

section order
variable {α : Type}

/-- A name put at its place; 'put': it is there already. -/
def insL (lt : α → α → Bool) (x : α) : Bool → List α → List α
  | true, l => l
  | false, [] => [x]
  | false, y :: l => if lt x y = true then x :: y :: l else y :: insL lt x false l

/-- How many names are smaller. -/
def below (lt : α → α → Bool) (l : List α) (s : α) : Nat := l.countP (lt · s)

variable [DecidableEq α]

/-- Does it stand there? -/
def isIn (x : α) (l : List α) : Bool := decide (x ∈ l)
theorem isIn_yes {x : α} {l : List α} (h : x ∈ l) : isIn x l = true := decide_eq_true h
theorem isIn_no {x : α} {l : List α} (h : ¬ x ∈ l) : isIn x l = false := decide_eq_false h
theorem isIn_of {x : α} {l : List α} (h : isIn x l = true) : x ∈ l := of_decide_eq_true h
def ins (lt : α → α → Bool) (x : α) (l : List α) : List α := insL lt x (isIn x l) l
end order

section bytes

/-- A space. -/
def sp (c : UInt8) : Bool := c == 32 || c == 9 || c == 10 || c == 12 || c == 13
/-- A letter. -/
def lr (c : UInt8) : Bool := (decide (65 ≤ c) && decide (c ≤ 90)) || (decide (97 ≤ c) && decide (c ≤ 122))
/-- A small letter. -/
def low (c : UInt8) : UInt8 := if 65 ≤ c ∧ c ≤ 90 then c + 32 else c
def lowL (l : List UInt8) : List UInt8 := l.map low

theorem lowL_append (a b : List UInt8) : lowL (a ++ b) = lowL a ++ lowL b := List.map_append
theorem len_lowL (l : List UInt8) : (lowL l).length = l.length := List.length_map ..

end bytes
end Go.Proofs.Ytkogkildipmnpaa.Fm

namespace Go.Proofs.Ytkogkildipmnpaa.Lk
set_option linter.unusedSimpArgs false
set_option linter.unusedVariables false
open Fm
/-- A byte that does not count at an end; one that counts nowhere. -/
def edge (c : UInt8) : Bool := decide (c ≤ 32)
def inn (c : UInt8) : Bool := c == 9 || c == 10 || c == 13
def kept (l : List UInt8) : List UInt8 := l.filter fun c => !inn c
def frontL (l : List UInt8) : List UInt8 := l.dropWhile edge
def backL (l : List UInt8) : List UInt8 := (l.reverse.dropWhile edge).reverse
def stripL (l : List UInt8) : List UInt8 := kept (backL (frontL l))

theorem inn_edge {c : UInt8} (h : inn c = true) : edge c = true := by
  unfold inn at h
  simp only [Bool.or_eq_true, beq_iff_eq] at h
  rcases h with (rfl | rfl) | rfl <;> rfl
theorem front_yes {c : UInt8} (l : List UInt8) (h : edge c = true) : frontL (c :: l) = frontL l := by simp [frontL, List.dropWhile_cons, h]
theorem front_no {c : UInt8} (l : List UInt8) (h : edge c = false) : frontL (c :: l) = c :: l := by simp [frontL, List.dropWhile_cons, h]
theorem back_yes {c : UInt8} (l : List UInt8) (h : edge c = true) : backL (l ++ [c]) = backL l := by simp [backL, List.dropWhile_cons, h]
theorem back_no {c : UInt8} (l : List UInt8) (h : edge c = false) : backL (l ++ [c]) = l ++ [c] := by simp [backL, List.dropWhile_cons, h]
theorem kept_append (a b : List UInt8) : kept (a ++ b) = kept a ++ kept b := List.filter_append ..
theorem kept_yes {c : UInt8} (h : inn c = true) : kept [c] = [] := by simp [kept, h]
theorem kept_no {c : UInt8} (h : inn c = false) : kept [c] = [c] := by simp [kept, h]
theorem kept_front : ∀ l : List UInt8, kept (frontL l) = frontL (kept l)
  | [] => rfl
  | c :: l => by
    cases he : edge c with
    | true =>
      rw [front_yes _ he, kept_front l]
      cases hi : inn c with
      | true => simp [kept, hi]
      | false =>
        have : kept (c :: l) = c :: kept l := by simp [kept, hi]
        rw [this, front_yes _ he]
    | false =>
      have hi : inn c = false := by
        cases hi : inn c with
        | false => rfl
        | true => rw [inn_edge hi] at he; cases he
      have : kept (c :: l) = c :: kept l := by simp [kept, hi]
      rw [front_no _ he, this, front_no _ he]
theorem kept_rev (l : List UInt8) : kept l.reverse = (kept l).reverse := by unfold kept; rw [List.filter_reverse]
theorem kept_back (l : List UInt8) : kept (backL l) = backL (kept l) := by
  show kept (frontL l.reverse).reverse = (frontL (kept l).reverse).reverse
  rw [kept_rev, kept_front, kept_rev]
theorem strip_eq (l : List UInt8) : stripL l = backL (frontL (kept l)) := by unfold stripL; rw [kept_back, kept_front]

theorem front_len : ∀ l : List UInt8, (frontL l).length ≤ l.length
  | [] => Nat.le_refl _
  | c :: l => by
    cases he : edge c with
    | true => rw [front_yes _ he]; have := front_len l; simp only [List.length_cons]; omega
    | false => rw [front_no _ he]; exact Nat.le_refl _
theorem back_len (l : List UInt8) : (backL l).length ≤ l.length := by
  show (frontL l.reverse).reverse.length ≤ _
  rw [List.length_reverse]
  have := front_len l.reverse
  rw [List.length_reverse] at this
  exact this
theorem kept_len (l : List UInt8) : (kept l).length ≤ l.length := List.length_filter_le _ _
theorem strip_len (l : List UInt8) : (stripL l).length ≤ l.length := Nat.le_trans (kept_len _) (Nat.le_trans (back_len _) (front_len l))

/-- What all of these are ignored. -/
def allEdge (l : List UInt8) : Prop := ∀ c ∈ l, edge c = true
theorem front_all : ∀ {e : List UInt8} (l : List UInt8), allEdge e → frontL (e ++ l) = frontL l
  | [], _, _ => rfl
  | c :: e, l, h => by
    rw [List.cons_append, front_yes _ (h c List.mem_cons_self)]
    exact front_all l fun x hx => h x (List.mem_cons_of_mem _ hx)
theorem front_none {e : List UInt8} (h : allEdge e) : frontL e = [] := by
  have := front_all [] h
  rw [List.append_nil] at this
  exact this
theorem back_all {e : List UInt8} (l : List UInt8) (h : allEdge e) : backL (l ++ e) = backL l := by
  show (frontL (l ++ e).reverse).reverse = (frontL l.reverse).reverse
  rw [List.reverse_append, front_all _ fun c hc => h c (List.mem_reverse.1 hc)]
theorem front_cases : ∀ l : List UInt8, (frontL l = [] ∧ allEdge l) ∨ ∃ c m, frontL l = c :: m ∧ edge c = false
  | [] => .inl ⟨rfl, fun _ h => by cases h⟩
  | c :: l => by
    cases he : edge c with
    | false => exact .inr ⟨c, l, front_no _ he, he⟩
    | true =>
      rw [front_yes _ he]
      rcases front_cases l with ⟨h1, h2⟩ | h
      · refine .inl ⟨h1, fun x hx => ?_⟩
        rcases List.mem_cons.1 hx with rfl | hx
        · exact he
        · exact h2 x hx
      · exact .inr h
theorem front_append (l m : List UInt8) : frontL (l ++ m) = if frontL l = [] then frontL m else frontL l ++ m := by
  induction l with
  | nil => rfl
  | cons c l ih =>
    cases he : edge c with
    | false => rw [List.cons_append, front_no _ he, front_no _ he, if_neg (by simp), List.cons_append]
    | true => rw [List.cons_append, front_yes _ he, front_yes _ he, ih]
theorem back_cases (l : List UInt8) : (backL l = [] ∧ allEdge l) ∨ ∃ m c, backL l = m ++ [c] ∧ edge c = false := by
  rcases front_cases l.reverse with ⟨h1, h2⟩ | ⟨c, m, h1, h2⟩
  · refine .inl ⟨?_, fun c hc => h2 c (List.mem_reverse.2 hc)⟩
    show (frontL l.reverse).reverse = []
    rw [h1]; rfl
  · refine .inr ⟨m.reverse, c, ?_, h2⟩
    show (frontL l.reverse).reverse = _
    rw [h1, List.reverse_cons]
/-- What is cut at the end begins what there was. -/
theorem back_prefix (l : List UInt8) : ∃ e, l = backL l ++ e ∧ allEdge e := by
  have key : ∀ l : List UInt8, ∃ e, l = e ++ frontL l ∧ allEdge e := by
    intro l
    induction l with
    | nil => exact ⟨[], rfl, fun _ h => by cases h⟩
    | cons c l ih =>
      cases he : edge c with
      | false => exact ⟨[], by rw [front_no _ he]; rfl, fun _ h => by cases h⟩
      | true =>
        obtain ⟨e, h1, h2⟩ := ih
        refine ⟨c :: e, by rw [front_yes _ he, List.cons_append, ← h1], fun x hx => ?_⟩
        rcases List.mem_cons.1 hx with rfl | hx
        · exact he
        · exact h2 x hx
  obtain ⟨e, h1, h2⟩ := key l.reverse
  refine ⟨e.reverse, ?_, fun c hc => h2 c (List.mem_reverse.1 hc)⟩
  have := congrArg List.reverse h1
  rw [List.reverse_reverse, List.reverse_append] at this
  exact this
/-- Behind more: cut at the end it begins with the same. -/
theorem back_more (l m : List UInt8) : ∃ r, backL (l ++ m) = backL l ++ r := by
  rcases back_cases m with ⟨_, h⟩ | ⟨k, c, h, hc⟩
  · exact ⟨[], by rw [back_all _ h, List.append_nil]⟩
  · obtain ⟨e, h1, _⟩ := back_prefix l
    obtain ⟨f, h2, h3⟩ := back_prefix m
    refine ⟨e ++ (k ++ [c]), ?_⟩
    have : l ++ m = (l ++ (k ++ [c])) ++ f := by rw [List.append_assoc, ← h, ← h2]
    rw [this, back_all _ h3, ← List.append_assoc, back_no _ hc, List.append_assoc, ← List.append_assoc (backL l), ← h1]
/-- Behind a text more: stripped it begins with the text stripped, if there is some. -/
theorem strip_more (l m : List UInt8) (h : stripL l ≠ []) : ∃ r, stripL (l ++ m) = stripL l ++ r := by
  rw [strip_eq] at h
  rw [strip_eq, strip_eq l, kept_append, front_append, if_neg (fun e => h (by rw [e]; rfl))]
  exact back_more _ _
/-- Bytes that may stand in a scheme behind its first one, besides letters. -/
def oth (c : UInt8) : Bool := (decide (48 ≤ c) && decide (c ≤ 57)) || c == 43 || c == 45 || c == 46
def sch (p : Bool) (c : UInt8) : Bool := lr c || (p && oth c)
/-- The bytes of a scheme that a text begins with (p: behind the first one). -/
def st : Bool → List UInt8 → List UInt8
  | _, [] => []
  | p, c :: r => if sch p c = true then c :: st true r else []
theorem st_nil (p : Bool) : st p [] = [] := rfl
theorem st_yes {p : Bool} {c : UInt8} (r : List UInt8) (h : sch p c = true) : st p (c :: r) = c :: st true r := by rw [st, if_pos h]
theorem st_no {p : Bool} {c : UInt8} (r : List UInt8) (h : sch p c = false) : st p (c :: r) = [] := by rw [st, if_neg (by rw [h]; exact Bool.false_ne_true)]
/-- Where the : behind a stripped address's scheme stands. -/
def colonL (l : List UInt8) : Option Nat := if 0 < (st false l).length ∧ l[(st false l).length]? = some 58 then some (st false l).length else none
theorem colon_lt {l : List UInt8} {k : Nat} (h : colonL l = some k) : 0 < k ∧ k < l.length ∧ l[k]? = some 58 ∧ k = (st false l).length := by
  unfold colonL at h
  split at h
  · rename_i hc
    injection h with h
    rw [h] at hc
    exact ⟨hc.1, (List.getElem?_eq_some_iff.1 hc.2).1, hc.2, h.symm⟩
  · cases h
/-- What the bytes ahead of k are, when these are all a scheme's. -/
def upTo (l : List UInt8) (k : Nat) : Prop := st false l = l.take k ++ st (decide (0 < k)) (l.drop k)
theorem upTo_zero (l : List UInt8) : upTo l 0 := rfl
theorem upTo_next {l : List UInt8} {k : Nat} (h : upTo l k) (hk : k < l.length) (hs : sch (decide (0 < k)) l[k] = true) : upTo l (k + 1) := by
  unfold upTo at *
  rw [h, List.drop_eq_getElem_cons hk, st_yes _ hs, List.take_succ_eq_append_getElem hk, List.append_assoc]
  rfl
theorem upTo_stop {l : List UInt8} {k : Nat} (h : upTo l k) (hk : k < l.length) (hs : sch (decide (0 < k)) l[k] = false) : (st false l).length = k := by
  unfold upTo at h
  rw [h, List.drop_eq_getElem_cons hk, st_no _ hs, List.append_nil, List.length_take]
  omega
theorem upTo_end {l : List UInt8} {k : Nat} (h : upTo l k) (hk : k = l.length) : (st false l).length = k := by
  unfold upTo at h
  rw [h, List.drop_eq_nil_of_le (by omega), st_nil, List.append_nil, List.length_take]
  omega
theorem colon_stop {l : List UInt8} {k : Nat} (hs : (st false l).length = k) (h0 : 0 < k) (hk : k < l.length) (hc : l[k] = 58) : colonL l = some k := by
  unfold colonL
  rw [hs, if_pos ⟨h0, by rw [List.getElem?_eq_getElem hk, hc]⟩]
theorem colon_not {l : List UInt8} {k : Nat} (hs : (st false l).length = k) (h : k = 0 ∨ k = l.length ∨ ∃ hk : k < l.length, l[k] ≠ 58) : colonL l = none := by
  unfold colonL
  rw [hs, if_neg]
  rintro ⟨h1, h2⟩
  rcases h with h | h | ⟨hk, h⟩
  · omega
  · have := (List.getElem?_eq_some_iff.1 h2).1
    omega
  · rw [List.getElem?_eq_getElem hk] at h2
    injection h2 with h2
    exact h h2
theorem sch_58 (p : Bool) : sch p 58 = false := by cases p <;> rfl
theorem st_more : ∀ (p : Bool) (l m : List UInt8), (st p l).length < l.length → st p (l ++ m) = st p l
  | _, [], _, h => by cases h
  | p, c :: r, m, h => by
    cases hs : sch p c with
    | false => rw [List.cons_append, st_no _ hs, st_no _ hs]
    | true =>
      rw [st_yes _ hs, List.length_cons, List.length_cons] at h
      rw [List.cons_append, st_yes _ hs, st_yes _ hs, st_more true r m (by omega)]
theorem colon_more {l : List UInt8} {k : Nat} (m : List UInt8) (h : colonL l = some k) : colonL (l ++ m) = some k := by
  obtain ⟨h1, h2, h3, h4⟩ := colon_lt h
  unfold colonL
  rw [st_more false l m (by omega), ← h4, if_pos ⟨h1, by rw [List.getElem?_append_left h2]; exact h3⟩]
/-- The scheme of an address; the empty one: it has none. -/
def schemeO (s : List UInt8) : Option (List UInt8) := (colonL (stripL s)).map fun k => lowL ((stripL s).take k)
def schemeL (s : List UInt8) : List UInt8 := (schemeO s).getD []
def hasL (s : List UInt8) : Bool := (schemeO s).isSome
theorem strip_of_scheme {l : List UInt8} {x : List UInt8} (h : schemeO l = some x) : ∃ k, colonL (stripL l) = some k ∧ x = lowL ((stripL l).take k) ∧ 0 < k ∧ k < (stripL l).length := by
  unfold schemeO at h
  cases hc : colonL (stripL l) with
  | none => rw [hc] at h; cases h
  | some k =>
    rw [hc] at h
    injection h with h
    exact ⟨k, rfl, h.symm, (colon_lt hc).1, (colon_lt hc).2.1⟩
theorem scheme_more {l x : List UInt8} (m : List UInt8) (h : schemeO l = some x) : schemeO (l ++ m) = some x := by
  obtain ⟨k, h1, h2, h3, h4⟩ := strip_of_scheme h
  obtain ⟨r, hr⟩ := strip_more l m (fun e => by rw [e] at h4; cases h4)
  unfold schemeO
  rw [hr, colon_more r h1, h2, Option.map_some, List.take_append_of_le_length (by omega)]
/-- A hexadecimal digit, and its number. -/
def hb (c : UInt8) : Bool := (decide (48 ≤ c) && decide (c ≤ 57)) || (decide (97 ≤ c) && decide (c ≤ 102)) || (decide (65 ≤ c) && decide (c ≤ 70))
def hv (c : UInt8) : Nat := if 48 ≤ c ∧ c ≤ 57 then c.toNat - 48 else if 97 ≤ c ∧ c ≤ 102 then c.toNat - 87 else if 65 ≤ c ∧ c ≤ 70 then c.toNat - 55 else 0
/-- The byte of a mark that a text begins with. -/
def mk : List UInt8 → Option UInt8
  | a :: b :: c :: _ => if a == 37 && (hb b && hb c) then some (UInt8.ofNat (16 * hv b + hv c)) else none
  | _ => none
/-- Bytes for their marks. -/
def pct : List UInt8 → List UInt8
  | [] => []
  | [a] => [a]
  | [a, b] => [a, b]
  | a :: b :: c :: r => if a == 37 && (hb b && hb c) then UInt8.ofNat (16 * hv b + hv c) :: pct r else a :: pct (b :: c :: r)
/-- What is run of an address. -/
def js : List UInt8 := [106, 97, 118, 97, 115, 99, 114, 105, 112, 116]
def scriptL (s : List UInt8) : Bool := decide (schemeL s = js)
def sourceL (s : List UInt8) : List UInt8 := if schemeL s = js then pct ((stripL s).drop ((colonL (stripL s)).getD 0 + 1)) else []
end Go.Proofs.Ytkogkildipmnpaa.Lk

namespace Go.Proofs.Ytkogkildipmnpaa.Ba
set_option linter.unusedSimpArgs false
set_option linter.unusedVariables false
open Go.RowKit
abbrev L (s : ByteArray) : List UInt8 := s.data.toList
theorem size_L (s : ByteArray) : (L s).length = s.size := by rw [Array.length_toList]; rfl
theorem drop_nil (s : ByteArray) (k : Nat) (h : ¬ k < s.size) : (L s).drop k = [] := List.drop_eq_nil_of_le (by rw [size_L]; omega)
theorem drop_cons (s : ByteArray) (k : Nat) (h : k < s.size) : (L s).drop k = s[k] :: (L s).drop (k + 1) := by
  rw [List.drop_eq_getElem_cons (by rw [size_L]; exact h)]
  rfl
theorem take_snoc (s : ByteArray) (k : Nat) (h : k < s.size) : (L s).take (k + 1) = (L s).take k ++ [s[k]] := by
  rw [List.take_succ_eq_append_getElem (by rw [size_L]; exact h)]; rfl

theorem ret_int {k : IntKind} {a b : Int} (h : a = b) : Ending.returned (.int k a) = .returned (.int k b) := by rw [h]
theorem ret_bool {a b : Bool} (h : a = b) : Ending.returned (.bool a) = .returned (.bool b) := by rw [h]
theorem ret_str {a b : ByteArray} (h : a = b) : Ending.returned (.string a) = .returned (.string b) := by rw [h]

/-- A string of these bytes. -/
def B (l : List UInt8) : ByteArray := ⟨l.toArray⟩
theorem L_B (l : List UInt8) : L (B l) = l := by simp [B]
theorem toList_B (l : List UInt8) : (B l).toList = l := by unfold B; exact ByteArray.toList_mk l
theorem toList_L (s : ByteArray) : s.toList = L s := by
  obtain ⟨⟨x⟩⟩ := s
  exact ByteArray.toList_mk x
theorem L_inj {a b : ByteArray} (h : L a = L b) : a = b := WideShapes.bytes_inj h
theorem eq_of_toList {a b : ByteArray} : (a.toList == b.toList) = decide (a = b) := by
  rw [toList_L, toList_L, Bool.eq_iff_iff, beq_iff_eq, decide_eq_true_iff]
  exact ⟨L_inj, fun h => by rw [h]⟩
theorem L_extract (s : ByteArray) (a b : Nat) : L (s.extract a b) = ((L s).drop a).take (b - a) := Lib.extract_data s a b
theorem L_append (a b : ByteArray) : L (a ++ b) = L a ++ L b := by
  obtain ⟨⟨x⟩⟩ := a
  obtain ⟨⟨y⟩⟩ := b
  rfl
theorem size_append (a b : ByteArray) : (a ++ b).size = a.size + b.size := by rw [← size_L, L_append, List.length_append, size_L, size_L]
theorem size_extract (s : ByteArray) (a b : Nat) : (s.extract a b).size ≤ s.size := by
  rw [← size_L, ← size_L, L_extract, List.length_take, List.length_drop]; omega

theorem u8_eq {a b : UInt8} : (((a.toNat : Int)) == (b.toNat : Int)) = (a == b) := by
  rw [Bool.eq_iff_iff, beq_iff_eq, beq_iff_eq]
  exact ⟨fun h => UInt8.toNat.inj (by omega), fun h => by rw [h]⟩

theorem bt {w w1 w2 : World} (h1 : Below w.heap.size w w1) (h2 : Below w1.heap.size w1 w2) : Below w.heap.size w w2 := h1.trans (h2.mono h1.size)
end Go.Proofs.Ytkogkildipmnpaa.Ba

namespace Go.Proofs.Ytkogkildipmnpaa.Ro
set_option linter.unusedVariables false
set_option linter.unusedSimpArgs false

structure At where
  name : ByteArray
  value : ByteArray
deriving DecidableEq
structure Ro where
  depth : Int
  kind : Int
  name : ByteArray
  data : ByteArray
  attrs : List At
deriving DecidableEq

/-- Is there one that stands at this depth or deeper, or too many? -/
def exceeds (l : List Ro) (n d : Int) : Bool := decide (n < l.length) || l.any fun x => decide (d ≤ x.depth)

/-- Are two names the same? -/
def twice : List At → Bool
  | [] => false
  | a :: r => r.any (fun b => decide (b.name = a.name)) || twice r
def okRow (x : Ro) : Bool := if (x.kind == 0) = true then !x.name.toList.isEmpty && x.data.toList.isEmpty && !twice x.attrs else (x.kind == 1 || x.kind == 2) && x.name.toList.isEmpty && (x.attrs.length : Int) == 0
/-- Right from here on, where a row may stand at most at depth m. -/
def rightFrom (m : Int) : List Ro → Bool
  | [] => true
  | x :: r => decide (0 ≤ x.depth) && decide (x.depth ≤ m) && okRow x && rightFrom (if x.kind = 0 then x.depth + 1 else x.depth) r
def right (l : List Ro) : Bool := rightFrom 0 l

/-- The depth of row i; of -1, which stands for what has the roots: -1. -/
def dep (l : List Ro) (i : Int) : Int := if i = -1 then -1 else ((l[i.toNat]?).map (·.depth)).getD 0
/-- What stands behind row i and deeper than it. -/
def below (l : List Ro) (i : Int) : List Ro := (l.drop (i + 1).toNat).takeWhile fun x => decide (dep l i < x.depth)
/-- Where the tree of row i ends. -/
def endOf (l : List Ro) (i : Int) : Nat := (i + 1).toNat + (below l i).length
end Go.Proofs.Ytkogkildipmnpaa.Ro

namespace Go.Proofs.Ytkogkildipmnpaa.Rk
set_option linter.unusedSimpArgs false
set_option linter.unusedVariables false
open Fm Ba Lk
open Ro (At Ro)
/-- Is a name a handler's? -/
def hand : List UInt8 → Bool
  | a :: b :: _ :: _ => a == 111 && b == 110
  | _ => false
/-- Elements and attributes that lead somewhere; those that take an address of a script; elements that are never safe. -/
def leadsL : List (ByteArray × ByteArray) := [(⟨#[97]⟩, ⟨#[104, 114, 101, 102]⟩), (⟨#[97, 114, 101, 97]⟩, ⟨#[104, 114, 101, 102]⟩), (⟨#[98, 117, 116, 116, 111, 110]⟩, ⟨#[102, 111, 114, 109, 97, 99, 116, 105, 111, 110]⟩), (⟨#[101, 109, 98, 101, 100]⟩, ⟨#[115, 114, 99]⟩), (⟨#[102, 111, 114, 109]⟩, ⟨#[97, 99, 116, 105, 111, 110]⟩), (⟨#[102, 114, 97, 109, 101]⟩, ⟨#[115, 114, 99]⟩), (⟨#[105, 102, 114, 97, 109, 101]⟩, ⟨#[115, 114, 99]⟩), (⟨#[105, 110, 112, 117, 116]⟩, ⟨#[102, 111, 114, 109, 97, 99, 116, 105, 111, 110]⟩), (⟨#[111, 98, 106, 101, 99, 116]⟩, ⟨#[100, 97, 116, 97]⟩)]
def takesL : List (ByteArray × ByteArray) := [(⟨#[115, 99, 114, 105, 112, 116]⟩, ⟨#[115, 114, 99]⟩), (⟨#[101, 109, 98, 101, 100]⟩, ⟨#[115, 114, 99]⟩), (⟨#[111, 98, 106, 101, 99, 116]⟩, ⟨#[100, 97, 116, 97]⟩)]
def unsafeL : List ByteArray := [⟨#[98, 97, 115, 101]⟩, ⟨#[101, 109, 98, 101, 100]⟩, ⟨#[102, 114, 97, 109, 101]⟩, ⟨#[105, 102, 114, 97, 109, 101]⟩, ⟨#[108, 105, 110, 107]⟩, ⟨#[109, 101, 116, 97]⟩, ⟨#[111, 98, 106, 101, 99, 116]⟩, ⟨#[115, 99, 114, 105, 112, 116]⟩]
def pairB (P : List (ByteArray × ByteArray)) (e a : ByteArray) : Bool := P.any fun p => decide (p.1 = e) && decide (p.2 = a)
theorem pair_mem {P : List (ByteArray × ByteArray)} {e a : ByteArray} : pairB P e a = true ↔ (e, a) ∈ P := by
  unfold pairB
  rw [List.any_eq_true]
  constructor
  · rintro ⟨p, hp, h⟩
    rw [Bool.and_eq_true, decide_eq_true_iff, decide_eq_true_iff] at h
    have : p = (e, a) := Prod.ext h.1 h.2
    rw [← this]
    exact hp
  · intro h
    exact ⟨_, h, by rw [Bool.and_eq_true]; exact ⟨decide_eq_true rfl, decide_eq_true rfl⟩⟩
def docB (e a : ByteArray) : Bool := decide (e = ⟨#[105, 102, 114, 97, 109, 101]⟩) && decide (a = ⟨#[115, 114, 99, 100, 111, 99]⟩)
def navB (e a : ByteArray) : Bool := pairB leadsL e a
def sinkN (e a : ByteArray) : Nat := if hand (L a) = true then 2 else if pairB takesL e a = true then 3 else if docB e a = true then 1 else 0
def attrB (e : ByteArray) (x : At) : Bool := decide (sinkN e x.name ≠ 0) || (navB e x.name && scriptL (L x.value))
def neverB (e : ByteArray) : Bool := isIn e unsafeL
def rowB (x : Ro) : Bool := if x.kind = 0 then (x.attrs.all fun a => !attrB x.name a) && !neverB x.name else true
def safeB (l : List Ro) : Bool := l.all rowB

theorem safe_append (a b : List Ro) : safeB (a ++ b) = (safeB a && safeB b) := List.all_append
theorem safe_one (x : Ro) : safeB [x] = rowB x := by simp [safeB]
theorem safe_rev (l : List Ro) : safeB l.reverse = safeB l := by unfold safeB; rw [List.all_reverse]
theorem safe_map {f : Ro → Ro} (h : ∀ x, rowB (f x) = rowB x) (l : List Ro) : safeB (l.map f) = safeB l := by
  unfold safeB
  rw [List.all_map]
  congr 1
  funext x
  exact h x
theorem safe_of {l : List Ro} (h : safeB l = true) (x : Ro) (hx : x ∈ l) : rowB x = true := List.all_eq_true.1 h x hx
theorem safe_sub {l m : List Ro} (h : safeB l = true) (hm : ∀ x ∈ m, x ∈ l) : safeB m = true := List.all_eq_true.2 fun x hx => safe_of h x (hm x hx)
/-- Without some of its attributes a node that is safe stays so. -/
theorem row_less (x : Ro) (n : Nat) (h : rowB x = true) : rowB { x with attrs := x.attrs.take n } = true := by
  unfold rowB at *
  split
  · rename_i hk
    rw [if_pos hk] at h
    rw [Bool.and_eq_true] at h ⊢
    refine ⟨List.all_eq_true.2 fun a ha => List.all_eq_true.1 h.1 a (List.mem_of_mem_take ha), h.2⟩
  · rfl
theorem row_rev (x : Ro) : rowB { x with attrs := x.attrs.reverse } = rowB x := by
  unfold rowB
  simp only [List.all_reverse]

theorem hand_on (l : List UInt8) : hand (111 :: 110 :: l) = !l.isEmpty := by cases l <;> rfl
theorem attr_hand (e : ByteArray) (x : At) (h : hand (L x.name) = true) : attrB e x = true := by
  unfold attrB sinkN
  rw [if_pos h]
  rfl
theorem never_row (e : ByteArray) (h : neverB e = true) (d : Int) (z : ByteArray) (l : List At) : rowB ⟨d, 0, e, z, l⟩ = false := by
  unfold rowB
  rw [if_pos rfl, h]
  simp
/-- Addresses of javascript, and of https, whatever stands behind them. -/
theorem js_any (m : List UInt8) : scriptL ([106, 97, 118, 97, 115, 99, 114, 105, 112, 116, 58] ++ m) = true := by
  have h : schemeO [106, 97, 118, 97, 115, 99, 114, 105, 112, 116, 58] = some js := by decide +kernel
  unfold scriptL schemeL
  rw [scheme_more m h]
  rfl
theorem https_any (m : List UInt8) : scriptL ([104, 116, 116, 112, 115, 58] ++ m) = false := by
  have h : schemeO [104, 116, 116, 112, 115, 58] = some [104, 116, 116, 112, 115] := by decide +kernel
  unfold scriptL schemeL
  rw [scheme_more m h]
  rfl
theorem attr_js (e a v : ByteArray) (h : scriptL (L v) = true) : attrB e ⟨a, v⟩ = (decide (sinkN e a ≠ 0) || navB e a) := by
  unfold attrB
  rw [h, Bool.and_true]
theorem attr_no (e a v : ByteArray) (h : scriptL (L v) = false) : attrB e ⟨a, v⟩ = decide (sinkN e a ≠ 0) := by
  unfold attrB
  rw [h, Bool.and_false, Bool.or_false]

/-! ### The reference's pairs: an element and an attribute with a blank between them. -/
theorem split_blank : ∀ {x y a b : List UInt8}, x ++ 32 :: y = a ++ 32 :: b → (32 : UInt8) ∉ x → (32 : UInt8) ∉ a → x = a ∧ y = b
  | [], y, [], b, h, _, _ => ⟨rfl, by simpa using h⟩
  | [], y, c :: a, b, h, _, ha => by
    simp only [List.nil_append, List.cons_append, List.cons.injEq] at h
    exact absurd (h.1 ▸ List.mem_cons_self) ha
  | c :: x, y, [], b, h, hx, _ => by
    simp only [List.nil_append, List.cons_append, List.cons.injEq] at h
    exact absurd (h.1 ▸ List.mem_cons_self) hx
  | c :: x, y, d :: a, b, h, hx, ha => by
    simp only [List.cons_append, List.cons.injEq] at h
    obtain ⟨h1, h2⟩ := split_blank h.2 (fun e => hx (List.mem_cons_of_mem _ e)) (fun e => ha (List.mem_cons_of_mem _ e))
    exact ⟨by rw [h.1, h1], h2⟩
def joinP (p : ByteArray × ByteArray) : ByteArray := p.1 ++ ⟨#[32]⟩ ++ p.2
theorem L_joinP (p : ByteArray × ByteArray) : L (joinP p) = L p.1 ++ 32 :: L p.2 := by
  unfold joinP
  rw [L_append, L_append, List.append_assoc]
  rfl
/-- Both names are there, and the element's has no blank. -/
def namesB (e a : ByteArray) : Bool := !isIn (⟨#[]⟩ : ByteArray) [e, a] && decide ((32 : UInt8) ∉ L e)
def goodP (P : List (ByteArray × ByteArray)) : Prop := ∀ p ∈ P, (32 : UInt8) ∉ L p.1 ∧ p.1 ≠ ⟨#[]⟩ ∧ p.2 ≠ ⟨#[]⟩
instance (P : List (ByteArray × ByteArray)) : Decidable (goodP P) := by unfold goodP; infer_instance
theorem good_leads : goodP leadsL := by decide +kernel
theorem good_takes : goodP takesL := by decide +kernel
theorem pair_ref {P : List (ByteArray × ByteArray)} (hP : goodP P) (e a : ByteArray) : pairB P e a = ((P.any fun p => decide (joinP p = joinP (e, a))) && namesB e a) := by
  rw [Bool.eq_iff_iff, Bool.and_eq_true]
  rw [pair_mem]
  unfold namesB
  rw [List.any_eq_true, Bool.and_eq_true, decide_eq_true_iff]
  constructor
  · intro h
    obtain ⟨h1, h2, h3⟩ := hP _ h
    refine ⟨⟨_, h, decide_eq_true rfl⟩, ?_, h1⟩
    have : ¬ (⟨#[]⟩ : ByteArray) ∈ [e, a] := by
      intro hm
      rcases List.mem_cons.1 hm with e1 | hm
      · exact h2 e1.symm
      · exact h3 (List.mem_singleton.1 hm).symm
    rw [isIn_no this]
    rfl
  · rintro ⟨⟨p, hp, hj⟩, _, he⟩
    have hj := of_decide_eq_true hj
    have := congrArg L hj
    rw [L_joinP, L_joinP] at this
    obtain ⟨h1, h2⟩ := split_blank this (hP p hp).1 he
    have hpe : p = (e, a) := Prod.ext (L_inj h1) (L_inj h2)
    rw [← hpe]
    exact hp

end Go.Proofs.Ytkogkildipmnpaa.Rk

namespace Go.Proofs.Ytkogkildipmnpaa.Ml
open Go.RowKit Go.MapKept
open Go.Maps (Keyed)
open Go.ChangeMaps (setBlock heap_setBlock_same heap_setBlock_other)
set_option linter.unusedVariables false
set_option linter.unusedSimpArgs false

/-- Block b is a map whose pairs are just those of S. -/
def Tab (P : Program) (k : TypeId) (w : World) (b : Nat) (S : Value → Value → Prop) : Prop :=
  ∃ es clock, w.heap[b]? = some (.map es clock) ∧ (∀ e ∈ es.toList, ∃ l, keyOf P k e.key = some l) ∧ ∀ x v, (∃ e ∈ es.toList, e.key = x ∧ e.val = v) ↔ S x v

theorem Tab.made (P : Program) (k : TypeId) (w : World) : Tab P k (w.alloc (.map #[] 0)) w.heap.size fun _ _ => False :=
  ⟨#[], 0, (MapKept.heap_alloc w _).1, by simp, by simp⟩
theorem Tab.congr {P : Program} {k : TypeId} {w : World} {b : Nat} {S S' : Value → Value → Prop} (h : Tab P k w b S) (e : ∀ x v, S x v ↔ S' x v) : Tab P k w b S' := by
  obtain ⟨es, c, h1, h2, h3⟩ := h
  exact ⟨es, c, h1, h2, fun x v => (h3 x v).trans (e x v)⟩
theorem Tab.kept {P : Program} {k : TypeId} {w w' : World} {b : Nat} {S : Value → Value → Prop} (h : Tab P k w b S) (e : w'.heap[b]? = w.heap[b]?) : Tab P k w' b S := by
  obtain ⟨es, c, h1, h2, h3⟩ := h
  exact ⟨es, c, e.trans h1, h2, h3⟩
theorem Tab.lt {P : Program} {k : TypeId} {w : World} {b : Nat} {S : Value → Value → Prop} (h : Tab P k w b S) : b < w.heap.size := by
  obtain ⟨es, c, h1, _⟩ := h
  exact (Array.getElem?_eq_some_iff.1 h1).1
/-- A key that is not there yet is put. -/
theorem Tab.put {P : Program} {k t e : TypeId} {w : World} {b : Nat} {S : Value → Value → Prop} (h : Tab P k w b S) (K : Keyed P k) (ht : P.underlying t = some (.map k e)) {key val : Value} {l : Lit} (hk : keyOf P k key = some l) (hne : ∀ v, ¬ S key v) :
    ∃ w', (Instr.mapUpdate t (.map (some b)) key val).run P w = .ok () w' ∧ Tab P k w' b (fun x v => S x v ∨ x = key ∧ v = val) ∧ w.grownBy w' (some b) := by
  obtain ⟨es, clock, hb, hks, hS⟩ := h
  rcases K.find w hk es.toList hks with ⟨h1, h2⟩ | ⟨j, e0, h1, h2, h3⟩
  · refine ⟨setBlock w b (.map (es.push ⟨key, val, clock⟩) (clock + 1)), ?_, ⟨_, _, heap_setBlock_same hb _, ?_, ?_⟩, ⟨rfl, rfl, rfl, by simp [setBlock], fun i _ hi => heap_setBlock_other hb _ (fun e => hi (by rw [e]))⟩⟩
    · simp [Instr.mapUpdate, run_underlying ht, MapKept.run_getObj_map hb, K.check w false hk, h1, MapKept.run_setObj_map _ hb, Result.andThen, setBlock]
    · intro x hx
      simp only [Array.toList_push, List.mem_append, List.mem_singleton] at hx
      rcases hx with hx | rfl
      · exact hks x hx
      · exact ⟨_, hk⟩
    · intro x v
      simp only [Array.toList_push, List.mem_append, List.mem_singleton]
      rw [← hS x v]
      constructor
      · rintro ⟨y, hy | rfl, rfl, rfl⟩
        · exact .inl ⟨y, hy, rfl, rfl⟩
        · exact .inr ⟨rfl, rfl⟩
      · rintro (⟨y, hy, h1, h2⟩ | ⟨rfl, rfl⟩)
        · exact ⟨y, .inl hy, h1, h2⟩
        · exact ⟨_, .inr rfl, rfl, rfl⟩
  · exact absurd ((hS key e0.val).1 ⟨e0, List.mem_of_getElem? h2, h3, rfl⟩) (hne _)
/-- 'v, ok := m[x]'. -/
theorem Tab.look {P : Program} {k t e : TypeId} {w : World} {b : Nat} {S : Value → Value → Prop} (h : Tab P k w b S) (K : Keyed P k) (ht : P.underlying t = some (.map k e)) {z : Value} (hz : (zeroValue e).run P w = .ok z w) {key : Value} {l : Lit} (hk : keyOf P k key = some l) :
    ((Instr.lookup t (.map (some b)) key true).run P w = .ok (.tuple #[z, .bool false]) w ∧ ∀ v, ¬ S key v) ∨ ∃ v, S key v ∧ (Instr.lookup t (.map (some b)) key true).run P w = .ok (.tuple #[v, .bool true]) w := by
  obtain ⟨es, clock, hb, hks, hS⟩ := h
  rcases K.find w hk es.toList hks with ⟨h1, h2⟩ | ⟨j, e0, h1, h2, h3⟩
  · refine .inl ⟨by simp [Instr.lookup, run_underlying ht, MapKept.run_getObj_map hb, K.check w _ hk, h1, hz, Result.andThen], fun v hv => ?_⟩
    obtain ⟨y, hy, e1, _⟩ := (hS key v).2 hv
    exact h2 y hy e1
  · exact .inr ⟨e0.val, (hS key e0.val).1 ⟨e0, List.mem_of_getElem? h2, h3, rfl⟩, by simp [Instr.lookup, run_underlying ht, MapKept.run_getObj_map hb, K.check w _ hk, h1, Result.andThen]⟩

/-- What an operation of such a region is there for. -/
inductive Job where
  | mk
  | val (v : Value)
  | ins (k v : Value)
def Job.out (b : Nat) : Job → Option Value
  | .mk => some (.map (some b))
  | .val v => some v
  | .ins _ _ => none

section
variable (P : Program) (k t : TypeId) (ops : Array Oper) (D : Nat → Job) (b : Nat)
/-- The slots as they are behind the first n operations. -/
def sets : Nat → Array Value → Array Value
  | 0, x => x
  | n + 1, x => match (ops[n]?).bind (·.dst), (D n).out b with
    | some d, some v => (sets n x).setIfInBounds d v
    | _, _ => sets n x
/-- The slots of what operation i comes behind hold what these yield. -/
def Knows (a : Act) (o : Oper) : Prop := ∀ e ∈ o.after.toList, e.ground = .data → ∀ q d v, ops[e.on]? = some q → q.dst = some d → (D e.on).out b = some v → a.eval (.tmp d) = v
/-- An operation does its job. -/
def Does (o : Oper) : Job → Prop
  | .mk => o.op = .makeMap t none
  | .val v => ∀ a w, Knows ops D b a o → (execOp a.eval o).run P w = .ok (.value v) w
  | .ins x v => o.dst = none ∧ (∃ e ∈ o.after.toList, e.ground = .data ∧ e.on = 0) ∧ ∃ m y z, o.op = .insert t m y z ∧ ∀ a, Knows ops D b a o → a.eval m = .map (some b) ∧ a.eval y = x ∧ a.eval z = v
/-- What holds all along. -/
structure Inv (a0 : Act) (w0 : World) (listed : Array Bool) (a : Act) (w : World) : Prop where
  size : listed.size = ops.size
  defers : a.defers = a0.defers
  room : a.tmps.size = a0.tmps.size
  holds : ∀ (i : Nat) (o : Oper) (d : Nat) (v : Value), listed[i]? = some true → ops[i]? = some o → o.dst = some d → (D i).out b = some v → a.tmps[d]? = some v
  stays : ∀ j : Nat, (∀ (i : Nat) (o : Oper), listed[i]? = some true → ops[i]? = some o → o.dst ≠ some j) → a.tmps[j]? = a0.tmps[j]?
  below : Below b w0 w
  world : (listed[0]? = some false ∧ w = w0 ∧ ∀ i x v, listed[i]? = some true → D i ≠ .ins x v) ∨ (listed[0]? = some true ∧ Tab P k w b fun x v => ∃ i, listed[i]? = some true ∧ D i = .ins x v)
end

section
variable {P : Program} {k t e : TypeId} {ops : Array Oper} {D : Nat → Job} {b : Nat} {Q : Exit → Act → World → Prop}

theorem get_set (l : Array Bool) (i j : Nat) (h : i < l.size) : (l.setIfInBounds i true)[j]? = some true ↔ j = i ∨ l[j]? = some true := by
  rw [Array.getElem?_setIfInBounds]
  by_cases e : i = j
  · subst e
    simp [h]
  · rw [if_neg e]
    exact ⟨.inr, fun h => h.resolve_left fun e' => e e'.symm⟩

theorem mem_ready {listed : Array Bool} {i : Nat} (h : i ∈ Region.ready .any ops listed) : ∃ o, ops[i]? = some o ∧ listed[i]? = some false ∧ ∀ x ∈ o.after.toList, x.ground = .data → listed[x.on]? = some true := by
  unfold Region.ready at h
  rw [List.mem_filter, Bool.and_eq_true] at h
  obtain ⟨hi, h1, h2⟩ := h
  rw [List.mem_range] at hi
  refine ⟨ops[i], Array.getElem?_eq_getElem hi, ?_, fun x hx hg => ?_⟩
  · rw [Array.getD_eq_getD_getElem?] at h1
    cases hl : listed[i]? with
    | none => rw [hl] at h1; cases h1
    | some v => rw [hl] at h1; cases v with
      | true => cases h1
      | false => rfl
  · rw [Array.getElem?_eq_getElem hi, Option.map_some, Option.getD_some, ← Array.all_toList, List.all_eq_true] at h2
    have := h2 x hx
    rw [Region.binds, hg] at this
    rw [Array.getD_eq_getD_getElem?] at this
    cases hl : listed[x.on]? with
    | none => rw [hl] at this; simp at this
    | some v => rw [hl] at this; simp at this; rw [this]

theorem ready_some {listed : Array Bool} (hord : ∀ (i : Nat) (o : Oper), ops[i]? = some o → ∀ x ∈ o.after.toList, x.on < i) (hs : listed.size = ops.size) (hr : Region.ready .any ops listed = []) : ∀ i < ops.size, listed[i]? = some true := by
  intro i
  induction i using Nat.strongRecOn with
  | ind i ih =>
    intro hi
    cases hl : listed[i]? with
    | none => rw [Array.getElem?_eq_none_iff] at hl; omega
    | some v =>
      cases v with
      | true => rfl
      | false =>
        exfalso
        have : i ∈ Region.ready .any ops listed := by
          unfold Region.ready
          rw [List.mem_filter, List.mem_range, Bool.and_eq_true]
          refine ⟨hi, by rw [Array.getD_eq_getD_getElem?, hl]; rfl, ?_⟩
          rw [Array.getElem?_eq_getElem hi, Option.map_some, Option.getD_some, ← Array.all_toList, List.all_eq_true]
          intro x hx
          have hlt := hord i _ (Array.getElem?_eq_getElem hi) x hx
          rw [Array.getD_eq_getD_getElem?, ih _ hlt (by omega)]
          simp
        rw [hr] at this
        cases this

/-- Each operation that may come up does its job, whatever came up before it. -/
theorem step {a0 : Act} {w0 : World} {listed : Array Bool} {a : Act} {w : World} {i : Nat} {o : Oper} (K : Keyed P k) (ht : P.underlying t = some (.map k e)) (hb : b = w0.heap.size)
    (hguard : o.guard = none) (hslot : ∀ d, o.dst = some d → d < a0.tmps.size) (hone : ∀ j q d, ops[j]? = some q → q.dst = some d → o.dst = some d → j = i)
    (hdoes : Does P t ops D b o (D i)) (hmk0 : D 0 = .mk) (hmk : D i = .mk → i = 0) (hout : ∀ d, o.dst = some d → ∃ v, (D i).out b = some v)
    (hkeys : ∀ j x v, D j = .ins x v → ∃ l, keyOf P k x = some l) (hdist : ∀ j x v v', D i = .ins x v → D j = .ins x v' → j = i)
    (h : Inv P k ops D b a0 w0 listed a w) (ho : ops[i]? = some o) (hl : listed[i]? = some false) (hafter : ∀ x ∈ o.after.toList, x.ground = .data → listed[x.on]? = some true) :
    o.wp P a w (fun a' w' => Inv P k ops D b a0 w0 (listed.setIfInBounds i true) a' w') Q := by
  have hlt : i < listed.size := (Array.getElem?_eq_some_iff.1 hl).1
  have hkn : Knows ops D b a o := by
    intro x hx hg q d v hq hd hv
    have := h.holds x.on q d v (hafter x hx hg) hq hd hv
    show a.tmps.getD d undef = v
    rw [Array.getD_eq_getD_getElem?, this]
    rfl
  -- the slots behind it
  have hput : ∀ (v : Value) (w' : World), (∀ d, o.dst = some d → (D i).out b = some v) → Below b w0 w' →
      ((listed.setIfInBounds i true)[0]? = some false ∧ w' = w0 ∧ (∀ j x v, (listed.setIfInBounds i true)[j]? = some true → D j ≠ .ins x v) ∨ (listed.setIfInBounds i true)[0]? = some true ∧ Tab P k w' b fun x v => ∃ j, (listed.setIfInBounds i true)[j]? = some true ∧ D j = .ins x v) →
      Inv P k ops D b a0 w0 (listed.setIfInBounds i true) (a.put o.dst v) w' := by
    intro v w' hv hbel hw
    cases hd : o.dst with
    | none =>
      refine ⟨by rw [Array.size_setIfInBounds, h.size], h.defers, h.room, ?_, ?_, hbel, hw⟩
      · intro j q d u hj hq hqd hu
        rcases (get_set listed i j hlt).1 hj with rfl | hj
        · rw [ho] at hq
          cases hq
          rw [hd] at hqd
          cases hqd
        · exact h.holds j q d u hj hq hqd hu
      · intro j hj
        exact h.stays j fun i' o' h1 h2 => hj i' o' ((get_set listed i i' hlt).2 (.inr h1)) h2
    | some d =>
      have hds : d < a.tmps.size := by rw [h.room]; exact hslot d hd
      refine ⟨by rw [Array.size_setIfInBounds, h.size], h.defers, ?_, ?_, ?_, hbel, hw⟩
      · show (a.tmps.setIfInBounds d v).size = _
        rw [Array.size_setIfInBounds, h.room]
      · intro j q d' u hj hq hqd hu
        show (a.tmps.setIfInBounds d v)[d']? = _
        rw [Array.getElem?_setIfInBounds]
        rcases (get_set listed i j hlt).1 hj with rfl | hj1
        · rw [ho] at hq
          cases hq
          rw [hd] at hqd
          cases hqd
          rw [if_pos rfl, if_pos hds, ← hu, hv d hd]
        · by_cases e : d = d'
          · subst e
            have := hone j q d hq hqd hd
            subst this
            rw [hl] at hj1
            cases hj1
          · rw [if_neg e]
            exact h.holds j q d' u hj1 hq hqd hu
      · intro j hj
        show (a.tmps.setIfInBounds d v)[j]? = _
        have hne : d ≠ j := fun e => hj i o ((get_set listed i i hlt).2 (.inl rfl)) ho (by rw [hd, e])
        rw [Array.getElem?_setIfInBounds, if_neg hne]
        exact h.stays j fun i' o' h1 h2 => hj i' o' ((get_set listed i i' hlt).2 (.inr h1)) h2
  unfold Oper.wp
  cases hD : D i with
  | mk =>
    rw [hD] at hdoes
    have e0 := hmk hD
    subst e0
    have hop : o.op = .makeMap t none := hdoes
    have hw0 : w = w0 := by
      rcases h.world with ⟨_, h2, _⟩ | ⟨h1, _⟩
      · exact h2
      · rw [hl] at h1
        cases h1
    subst hw0
    have hrun : (execOp a.eval o).run P w = .ok (.value (.map (some b))) (w.alloc (.map #[] 0)) := by
      unfold execOp
      rw [hop]
      simp [Instr.makeMap, run_underlying ht, Result.andThen, hb]
    rw [hrun]
    refine hput _ _ (fun d hd => by rw [hD]; rfl) ((Below.refl _ _).alloc (by omega) _) (.inr ⟨(get_set listed 0 0 hlt).2 (.inl rfl), ?_⟩)
    rw [hb]
    refine (Tab.made P k w).congr fun x v => ⟨fun h => h.elim, fun ⟨j, hj, hDj⟩ => ?_⟩
    rcases (get_set listed 0 j hlt).1 hj with rfl | hj
    · rw [hD] at hDj
      cases hDj
    · rcases h.world with ⟨_, _, h3⟩ | ⟨h1, _⟩
      · exact h3 j x v hj hDj
      · rw [hl] at h1
        cases h1
  | val v =>
    rw [hD] at hdoes
    rw [hdoes a w hkn]
    refine hput _ _ (fun d hd => by rw [hD]; rfl) h.below ?_
    have hno : ∀ j x u, (listed.setIfInBounds i true)[j]? = some true → D j = .ins x u → listed[j]? = some true := by
      intro j x u hj hDj
      rcases (get_set listed i j hlt).1 hj with rfl | hj
      · rw [hD] at hDj
        cases hDj
      · exact hj
    rcases h.world with ⟨h1, h2, h3⟩ | ⟨h1, h2⟩
    · by_cases e0 : i = 0
      · subst e0
        rw [hmk0] at hD
        cases hD
      · refine .inl ⟨by rw [Array.getElem?_setIfInBounds, if_neg e0]; exact h1, h2, fun j x u hj hDj => h3 j x u (hno j x u hj hDj) hDj⟩
    · exact .inr ⟨(get_set listed i 0 hlt).2 (.inr h1), h2.congr fun x u => ⟨fun ⟨j, hj, hDj⟩ => ⟨j, (get_set listed i j hlt).2 (.inr hj), hDj⟩, fun ⟨j, hj, hDj⟩ => ⟨j, hno j x u hj hDj, hDj⟩⟩⟩
  | ins x v =>
    rw [hD] at hdoes
    obtain ⟨hdst, ⟨x0, hx0, hg0, hx0'⟩, m, y, z, hop, hev⟩ := hdoes
    obtain ⟨em, ey, ez⟩ := hev a hkn
    have h0 := hafter x0 hx0 hg0
    rw [hx0'] at h0
    rcases h.world with ⟨h1, _⟩ | ⟨_, hT⟩
    · rw [h0] at h1
      cases h1
    · obtain ⟨l, hkl⟩ := hkeys i x v hD
      obtain ⟨w', hrun, hT', hg⟩ := hT.put K ht (val := v) hkl (fun u ⟨j, hj, hDj⟩ => by
        have := hdist j x v u hD hDj
        subst this
        rw [hl] at hj
        cases hj)
      have hrun2 : (execOp a.eval o).run P w = .ok .skip w' := by
        unfold execOp
        rw [hop]
        simp [em, ey, ez, hrun, Result.andThen]
      rw [hrun2]
      have hlt' := hT.lt
      refine hput _ _ (fun d hd => by rw [hdst] at hd; cases hd) (h.below.grown hg (by omega) (fun k hk => by cases hk; exact Nat.le_refl _)) (.inr ⟨(get_set listed i 0 hlt).2 (.inr h0), hT'.congr fun x' v' => ?_⟩)
      constructor
      · rintro (⟨j, hj, hDj⟩ | ⟨rfl, rfl⟩)
        · exact ⟨j, (get_set listed i j hlt).2 (.inr hj), hDj⟩
        · exact ⟨i, (get_set listed i i hlt).2 (.inl rfl), hD⟩
      · rintro ⟨j, hj, hDj⟩
        rcases (get_set listed i j hlt).1 hj with rfl | hj
        · rw [hD] at hDj
          cases hDj
          exact .inr ⟨rfl, rfl⟩
        · exact .inl ⟨j, hj, hDj⟩

theorem run_inv {a0 : Act} {w0 : World} (K : Keyed P k) (ht : P.underlying t = some (.map k e)) (hb : b = w0.heap.size)
    (hguard : ∀ (i : Nat) (o : Oper), ops[i]? = some o → o.guard = none) (hslot : ∀ (i : Nat) (o : Oper) (d : Nat), ops[i]? = some o → o.dst = some d → d < a0.tmps.size)
    (hone : ∀ (i j : Nat) (o q : Oper) (d : Nat), ops[i]? = some o → ops[j]? = some q → o.dst = some d → q.dst = some d → j = i)
    (hdoes : ∀ (i : Nat) (o : Oper), ops[i]? = some o → Does P t ops D b o (D i)) (hmk0 : D 0 = .mk) (hmk : ∀ i, D i = .mk → i = 0)
    (hout : ∀ (i : Nat) (o : Oper) (d : Nat), ops[i]? = some o → o.dst = some d → ∃ v, (D i).out b = some v)
    (hkeys : ∀ j x v, D j = .ins x v → ∃ l, keyOf P k x = some l) (hdist : ∀ i j x v v', D i = .ins x v → D j = .ins x v' → j = i)
    (hQ : ∀ listed a w, Inv P k ops D b a0 w0 listed a w → Region.ready .any ops listed = [] → Q .normal a w) :
    ∀ (fuel : Nat) (listed : Array Bool) (a : Act) (w : World), listed.toList.count false ≤ fuel → Inv P k ops D b a0 w0 listed a w → wpAny P .any ops Q fuel listed a w
  | 0, listed, a, w, hc, h => by
    have : Region.ready .any ops listed = [] := by
      cases hr : Region.ready .any ops listed with
      | nil => rfl
      | cons i r =>
        exfalso
        obtain ⟨o, ho, hl, _⟩ := mem_ready (ops := ops) (listed := listed) (i := i) (by rw [hr]; exact List.mem_cons_self)
        have := List.count_pos_iff.2 (List.mem_of_getElem? (l := listed.toList) (by simpa using hl))
        omega
    exact ⟨this, hQ listed a w h this⟩
  | fuel + 1, listed, a, w, hc, h => by
    refine ⟨hQ listed a w h, fun i hi => ?_⟩
    obtain ⟨o, ho, hl, hafter⟩ := mem_ready hi
    unfold wpOp
    rw [ho]
    have hw : Region.wanted o (yielded ops a.tmps) = true := by
      unfold Region.wanted
      rw [hguard i o ho]
    simp only [hw, if_true]
    refine .inl (Oper.wp_mono (fun a' w' h' => run_inv K ht hb hguard hslot hone hdoes hmk0 hmk hout hkeys hdist hQ fuel _ a' w' ?_ h') (step K ht hb (hguard i o ho) (fun d hd => hslot i o d ho hd) (fun j q d hq hqd hd => hone i j o q d ho hq hd hqd) (hdoes i o ho) hmk0 (hmk i) (fun d hd => hout i o d ho hd) hkeys (fun j x v v' h1 h2 => hdist i j x v v' h1 h2) h ho hl hafter))
    have hlt : i < listed.toList.length := by simpa using (Array.getElem?_eq_some_iff.1 hl).1
    have hli : listed.toList[i] = false := by
      have := (Array.getElem?_eq_some_iff.1 hl).2
      simpa using this
    have hpos := List.count_pos_iff.2 (List.mem_of_getElem? (l := listed.toList) (by simpa using hl))
    rw [Array.toList_setIfInBounds, List.count_set hlt, hli, if_pos (show (false == false) = true from rfl), if_neg (show ¬ (true == false) = true by decide)]
    omega

/-- The slots behind all. -/
theorem get_sets {x : Array Value} (hone : ∀ (i j : Nat) (o q : Oper) (d : Nat), ops[i]? = some o → ops[j]? = some q → o.dst = some d → q.dst = some d → j = i)
    (hslot : ∀ (i : Nat) (o : Oper) (d : Nat), ops[i]? = some o → o.dst = some d → d < x.size) (hout : ∀ (i : Nat) (o : Oper) (d : Nat), ops[i]? = some o → o.dst = some d → ∃ v, (D i).out b = some v) :
    ∀ n, (sets ops D b n x).size = x.size ∧ (∀ (i : Nat) (o : Oper) (d : Nat) (v : Value), i < n → ops[i]? = some o → o.dst = some d → (D i).out b = some v → (sets ops D b n x)[d]? = some v) ∧ ∀ j : Nat, (∀ (i : Nat) (o : Oper), i < n → ops[i]? = some o → o.dst ≠ some j) → (sets ops D b n x)[j]? = x[j]?
  | 0 => ⟨rfl, fun i o d v h => by omega, fun j _ => rfl⟩
  | n + 1 => by
    obtain ⟨h1, h2, h3⟩ := get_sets hone hslot hout n
    cases hn : ops[n]? with
    | none =>
      have e : sets ops D b (n + 1) x = sets ops D b n x := by rw [sets, hn]; rfl
      rw [e]
      refine ⟨h1, fun i o d v hi ho hd hv => ?_, fun j hj => h3 j fun i o hi => hj i o (by omega)⟩
      rcases Nat.lt_succ_iff_lt_or_eq.1 hi with hi | rfl
      · exact h2 i o d v hi ho hd hv
      · rw [hn] at ho
        cases ho
    | some q =>
      cases hd : q.dst with
      | none =>
        have e : sets ops D b (n + 1) x = sets ops D b n x := by rw [sets, hn, Option.bind_some, hd]
        rw [e]
        refine ⟨h1, fun i o d v hi ho hd' hv => ?_, fun j hj => h3 j fun i o hi => hj i o (by omega)⟩
        rcases Nat.lt_succ_iff_lt_or_eq.1 hi with hi | rfl
        · exact h2 i o d v hi ho hd' hv
        · rw [hn] at ho
          cases ho
          rw [hd] at hd'
          cases hd'
      | some d =>
        obtain ⟨v, hv⟩ := hout n q d hn hd
        have e : sets ops D b (n + 1) x = (sets ops D b n x).setIfInBounds d v := by rw [sets, hn, Option.bind_some, hd, hv]
        rw [e]
        have hlt : d < (sets ops D b n x).size := by rw [h1]; exact hslot n q d hn hd
        refine ⟨by rw [Array.size_setIfInBounds, h1], fun i o d' v' hi ho hd' hv' => ?_, fun j hj => ?_⟩
        · rw [Array.getElem?_setIfInBounds]
          rcases Nat.lt_succ_iff_lt_or_eq.1 hi with hi | rfl
          · have hne : d ≠ d' := fun e => by
              subst e
              have := hone i n o q d ho hn hd' hd
              omega
            rw [if_neg hne]
            exact h2 i o d' v' hi ho hd' hv'
          · rw [hn] at ho
            cases ho
            rw [hd] at hd'
            cases hd'
            rw [if_pos rfl, if_pos hlt, ← hv', hv]
        · have hne : d ≠ j := fun e => hj n q (by omega) hn (by rw [hd, e])
          rw [Array.getElem?_setIfInBounds, if_neg hne]
          exact h3 j fun i o hi => hj i o (by omega)

/-- THE REGION OF A MAP's LITERAL. -/
theorem region_lit {a0 : Act} {w : World} {id : Nat} (hm : P.follows .mixedOrders = true) (K : Keyed P k) (ht : P.underlying t = some (.map k e)) (hb : b = w.heap.size) (hn : 0 < ops.size)
    (hguard : ∀ (i : Nat) (o : Oper), ops[i]? = some o → o.guard = none) (hslot : ∀ (i : Nat) (o : Oper) (d : Nat), ops[i]? = some o → o.dst = some d → d < a0.tmps.size)
    (hone : ∀ (i j : Nat) (o q : Oper) (d : Nat), ops[i]? = some o → ops[j]? = some q → o.dst = some d → q.dst = some d → j = i)
    (hord : ∀ (i : Nat) (o : Oper), ops[i]? = some o → ∀ x ∈ o.after.toList, x.on < i)
    (hdoes : ∀ (i : Nat) (o : Oper), ops[i]? = some o → Does P t ops D b o (D i)) (hmk0 : D 0 = .mk) (hmk : ∀ i, D i = .mk → i = 0)
    (hout : ∀ (i : Nat) (o : Oper) (d : Nat), ops[i]? = some o → o.dst = some d → ∃ v, (D i).out b = some v)
    (hkeys : ∀ j x v, D j = .ins x v → ∃ l, keyOf P k x = some l) (hdist : ∀ i j x v v', D i = .ins x v → D j = .ins x v' → j = i)
    (hQ : ∀ w', Below b w.drew w' → Tab P k w' b (fun x v => ∃ i < ops.size, D i = .ins x v) → Q .normal ⟨sets ops D b ops.size a0.tmps, a0.defers⟩ w') :
    (Code.region id ops true).wp P Q a0 w := by
  refine wp_region_any hm (run_inv (w0 := w.drew) K ht hb hguard hslot hone hdoes hmk0 hmk hout hkeys hdist ?_ _ _ _ _ ?_ ?_)
  · intro listed a w' h hr
    have hall := ready_some hord h.size hr
    have hT : Tab P k w' b fun x v => ∃ i < ops.size, D i = .ins x v := by
      rcases h.world with ⟨h1, _⟩ | ⟨_, h2⟩
      · rw [hall 0 hn] at h1
        cases h1
      · refine h2.congr fun x v => ⟨fun ⟨i, hi, hD⟩ => ⟨i, ?_, hD⟩, fun ⟨i, hi, hD⟩ => ⟨i, hall i hi, hD⟩⟩
        have := (Array.getElem?_eq_some_iff.1 hi).1
        rw [h.size] at this
        exact this
    obtain ⟨s1, s2, s3⟩ := get_sets (ops := ops) (D := D) (b := b) (x := a0.tmps) hone hslot hout ops.size
    have htm : a.tmps = sets ops D b ops.size a0.tmps := by
      apply Array.ext_getElem?
      intro j
      by_cases hj : ∃ (i : Nat) (o : Oper), ops[i]? = some o ∧ o.dst = some j
      · obtain ⟨i, o, ho, hd⟩ := hj
        obtain ⟨v, hv⟩ := hout i o j ho hd
        have hi : i < ops.size := (Array.getElem?_eq_some_iff.1 ho).1
        rw [h.holds i o j v (hall i hi) ho hd hv, s2 i o j v hi ho hd hv]
      · rw [h.stays j fun i o _ ho hd => hj ⟨i, o, ho, hd⟩, s3 j fun i o _ ho hd => hj ⟨i, o, ho, hd⟩]
    have ha : a = ⟨sets ops D b ops.size a0.tmps, a0.defers⟩ := by
      obtain ⟨x, y⟩ := a
      have h2 := h.defers
      simp only at htm h2
      rw [htm, h2]
    rw [ha]
    exact hQ w' h.below hT
  · rw [Array.toList_replicate, List.count_replicate_self]
    exact Nat.le_refl _
  · have hf : ∀ i : Nat, (Array.replicate ops.size false)[i]? ≠ some true := by
      intro i hi
      rw [Array.getElem?_replicate] at hi
      split at hi <;> cases hi
    refine ⟨by rw [Array.size_replicate], rfl, rfl, fun i o d v hi => absurd hi (hf i), fun j _ => rfl, Below.refl _ _, .inl ⟨?_, rfl, fun i x v hi => absurd hi (hf i)⟩⟩
    rw [Array.getElem?_replicate, if_pos hn]

/-! ### Keys that are pairs of strings, and all that is asked as tests. -/
def pairV (e a : ByteArray) : Value := .agg #[.string e, .string a]
theorem pairV_inj {e a e' a' : ByteArray} (h : pairV e a = pairV e' a') : e = e' ∧ a = a' := by
  unfold pairV at h
  simp only [Value.agg.injEq, Array.mk.injEq, List.cons.injEq, Value.string.injEq, and_true] at h
  exact h
def ent : Job → Option (ByteArray × ByteArray × Value)
  | .ins (.agg cs) v => match cs.toList with
    | [.string e, .string a] => some (e, a, v)
    | _ => none
  | _ => none
theorem ent_some {j : Job} {e a : ByteArray} {v : Value} (h : ent j = some (e, a, v)) : j = .ins (pairV e a) v := by
  unfold ent at h
  split at h
  · rename_i cs u
    split at h
    · rename_i e' a' hc
      cases h
      have : cs = #[.string e, .string a] := Array.toList_inj.1 hc
      rw [this]
      rfl
    · cases h
  · cases h
def isIns : Job → Bool
  | .ins _ _ => true
  | _ => false
def isMk : Job → Bool
  | .mk => true
  | _ => false
def at_ (l : List Job) (i : Nat) : Job := (l[i]?).getD (.val undef)
theorem at_mem {l : List Job} {i : Nat} (h : i < l.length) : at_ l i ∈ l := by
  unfold at_
  rw [List.getElem?_eq_getElem h]
  exact List.getElem_mem h
theorem at_out {l : List Job} {i : Nat} (h : ¬ i < l.length) : at_ l i = .val undef := by
  unfold at_
  rw [List.getElem?_eq_none (by omega)]
  rfl
def AllDo (P : Program) (t : TypeId) (ops : Array Oper) (D : Nat → Job) (b : Nat) : List Oper → List Job → Prop
  | o :: r, j :: s => Does P t ops D b o j ∧ AllDo P t ops D b r s
  | [], [] => True
  | _, _ => False
theorem allDo_at {D : Nat → Job} : ∀ {r : List Oper} {s : List Job}, AllDo P t ops D b r s → ∀ (i : Nat) (o : Oper), r[i]? = some o → Does P t ops D b o (at_ s i)
  | o :: r, j :: s, h, 0, q, hq => by
    cases hq
    exact h.1
  | o :: r, j :: s, h, i + 1, q, hq => allDo_at h.2 i q hq
  | [], [], _, i, q, hq => by cases hq
  | [], _ :: _, h, _, _, _ => h.elim
  | _ :: _, [], h, _, _, _ => h.elim

def outs (l : List Job) (i : Nat) : Bool := !isIns (at_ l i)
/-- All that is asked of the operations and the jobs but what they do. -/
def fine (ops : Array Oper) (room : Nat) (l : List Job) : Bool :=
  decide (0 < ops.size) && decide (l.length = ops.size) && (ops.toList.all fun o => o.guard.isNone) && (ops.toList.all fun o => match o.dst with | some d => decide (d < room) | none => true) &&
  ((List.range ops.size).all fun i => (ops[i]?).all fun o => o.after.toList.all fun x => decide (x.on < i)) &&
  ((List.range ops.size).all fun i => (List.range ops.size).all fun j => decide (i = j) || !((ops[i]?).bind (·.dst)).isSome || !decide ((ops[i]?).bind (·.dst) = (ops[j]?).bind (·.dst))) &&
  isMk (at_ l 0) && ((List.range ops.size).all fun i => !isMk (at_ l i) || decide (i = 0)) &&
  ((List.range ops.size).all fun i => !((ops[i]?).bind (·.dst)).isSome || outs l i) &&
  (l.all fun j => !isIns j || (ent j).isSome) &&
  ((List.range ops.size).all fun i => (List.range ops.size).all fun j => decide (i = j) || !(ent (at_ l i)).isSome || !decide ((ent (at_ l i)).map (fun x => (x.1, x.2.1)) = (ent (at_ l j)).map (fun x => (x.1, x.2.1))))

theorem knows_at {D : Nat → Job} {a : Act} {o : Oper} (h : Knows ops D b a o) (i : Nat) {d : Nat} {v : Value} (he : (⟨i, .data⟩ : Edge) ∈ o.after.toList) (hq : (ops[i]?).bind (·.dst) = some d) (hv : (D i).out b = some v) : a.eval (.tmp d) = v := by
  cases hi : ops[i]? with
  | none => rw [hi] at hq; cases hq
  | some q =>
    rw [hi, Option.bind_some] at hq
    exact h _ he rfl q d v hi hq hv
/-- An entry is put: map, key, value from slots; or the value is a constant. -/
theorem does_ins {D : Nat → Job} {o : Oper} {m y z : Nat} {x v : Value} (i0 i1 i2 : Nat) (hd : o.dst = none) (ho : o.op = .insert t (.tmp m) (.tmp y) (.tmp z)) (hi0 : i0 = 0) (h0 : (⟨i0, .data⟩ : Edge) ∈ o.after.toList) (h1 : (⟨i1, .data⟩ : Edge) ∈ o.after.toList) (h2 : (⟨i2, .data⟩ : Edge) ∈ o.after.toList)
    (q0 : (ops[i0]?).bind (·.dst) = some m) (q1 : (ops[i1]?).bind (·.dst) = some y) (q2 : (ops[i2]?).bind (·.dst) = some z) (v0 : (D i0).out b = some (.map (some b))) (v1 : (D i1).out b = some x) (v2 : (D i2).out b = some v) : Does P t ops D b o (.ins x v) := by
  subst hi0
  exact ⟨hd, ⟨_, h0, rfl, rfl⟩, _, _, _, ho, fun a h => ⟨knows_at h 0 h0 q0 v0, knows_at h i1 h1 q1 v1, knows_at h i2 h2 q2 v2⟩⟩
theorem does_insC {D : Nat → Job} {o : Oper} {m y : Nat} {x v : Value} (i0 i1 : Nat) (hd : o.dst = none) (ho : o.op = .insert t (.tmp m) (.tmp y) (.const v)) (hi0 : i0 = 0) (h0 : (⟨i0, .data⟩ : Edge) ∈ o.after.toList) (h1 : (⟨i1, .data⟩ : Edge) ∈ o.after.toList)
    (q0 : (ops[i0]?).bind (·.dst) = some m) (q1 : (ops[i1]?).bind (·.dst) = some y) (v0 : (D i0).out b = some (.map (some b))) (v1 : (D i1).out b = some x) : Does P t ops D b o (.ins x v) := by
  subst hi0
  exact ⟨hd, ⟨_, h0, rfl, rfl⟩, _, _, _, ho, fun a h => ⟨knows_at h 0 h0 q0 v0, knows_at h i1 h1 q1 v1, rfl⟩⟩
theorem does_move {D : Nat → Job} {o : Oper} {m : Nat} {v : Value} (i : Nat) (ho : o.op = .move (.tmp m) ∨ o.op = .assign (.tmp m)) (h0 : (⟨i, .data⟩ : Edge) ∈ o.after.toList) (q0 : (ops[i]?).bind (·.dst) = some m) (v0 : (D i).out b = some v) : Does P t ops D b o (.val v) := by
  intro a w h
  have := knows_at h i h0 q0 v0
  rcases ho with ho | ho
  · unfold execOp; rw [ho]; show Sem.run P (pure (Next.value (a.eval (.tmp m)))) w = _; rw [this]; rfl
  · unfold execOp; rw [ho]; show Sem.run P (pure (Next.value (a.eval (.tmp m)))) w = _; rw [this]; rfl

theorem region_pairs {a0 : Act} {w : World} {id : Nat} {l : List Job} (x : Array Value) (hm : P.follows .mixedOrders = true) (K : Keyed P k) (ht : P.underlying t = some (.map k e)) (hb : b = w.heap.size)
    (hf : fine ops a0.tmps.size l = true) (hdo : AllDo P t ops (at_ l) b ops.toList l)
    (hkeys : ∀ e a v, (e, a, v) ∈ l.filterMap ent → ∃ x, keyOf P k (pairV e a) = some x)
    (hx : sets ops (at_ l) b ops.size a0.tmps = x) (hQ : ∀ w', Below b w.drew w' → Tab P k w' b (fun x v => ∃ e a, x = pairV e a ∧ (e, a, v) ∈ l.filterMap ent) → Q .normal ⟨x, a0.defers⟩ w') :
    (Code.region id ops true).wp P Q a0 w := by
  subst hx
  unfold fine at hf
  simp only [Bool.and_eq_true] at hf
  obtain ⟨⟨⟨⟨⟨⟨⟨⟨⟨⟨f1, f2⟩, f3⟩, f4⟩, f5⟩, f6⟩, f7⟩, f8⟩, f9⟩, f10⟩, f11⟩ := hf
  have f1 := of_decide_eq_true f1
  have f2 := of_decide_eq_true f2
  have mem {i : Nat} {o : Oper} (h : ops[i]? = some o) : i < ops.size ∧ o ∈ ops.toList := ⟨(Array.getElem?_eq_some_iff.1 h).1, Array.mem_toList_iff.2 (Array.mem_of_getElem? h)⟩
  have hpairs : ∀ i x v, at_ l i = .ins x v → i < ops.size ∧ ∃ e a, x = pairV e a ∧ ent (at_ l i) = some (e, a, v) := by
    intro i x v h
    have hi : i < l.length := by
      by_cases hi : i < l.length
      · exact hi
      · rw [at_out hi] at h
        cases h
    have := List.all_eq_true.1 f10 _ (at_mem hi)
    rw [h] at this
    rw [f2] at hi
    refine ⟨hi, ?_⟩
    cases he : ent (.ins x v) with
    | none => rw [he] at this; cases this
    | some z =>
      obtain ⟨e, a, u⟩ := z
      have h2 := ent_some he
      injection h2 with h3 h4
      exact ⟨e, a, h3, by rw [h, he, h4]⟩
  refine region_lit (b := b) (D := at_ l) hm K ht hb f1 ?_ ?_ ?_ ?_ (fun i o ho => allDo_at hdo i o (by simpa using ho)) ?_ ?_ ?_ ?_ ?_ ?_
  · intro i o ho
    have := List.all_eq_true.1 f3 o (mem ho).2
    cases hg : o.guard with
    | none => rfl
    | some x => rw [hg] at this; cases this
  · intro i o d ho hd
    have := List.all_eq_true.1 f4 o (mem ho).2
    rw [hd] at this
    exact of_decide_eq_true this
  · intro i j o q d ho hq hd hqd
    have := List.all_eq_true.1 (List.all_eq_true.1 f6 i (List.mem_range.2 (mem ho).1)) j (List.mem_range.2 (mem hq).1)
    rw [ho, hq, Option.bind_some, Option.bind_some, hd, hqd] at this
    simp at this
    exact this.symm
  · intro i o ho x hx
    have := List.all_eq_true.1 f5 i (List.mem_range.2 (mem ho).1)
    rw [ho] at this
    exact of_decide_eq_true (List.all_eq_true.1 this x hx)
  · cases h : at_ l 0 with
    | mk => rfl
    | val v => rw [h] at f7; cases f7
    | ins x v => rw [h] at f7; cases f7
  · intro i h
    by_cases hi : i < ops.size
    · have := List.all_eq_true.1 f8 i (List.mem_range.2 hi)
      rw [h] at this
      simpa [isMk] using this
    · rw [at_out (by omega)] at h
      cases h
  · intro i o d ho hd
    have := List.all_eq_true.1 f9 i (List.mem_range.2 (mem ho).1)
    rw [ho, Option.bind_some, hd, outs] at this
    cases h : at_ l i with
    | mk => exact ⟨_, rfl⟩
    | val v => exact ⟨_, rfl⟩
    | ins x v => rw [h] at this; cases this
  · intro j x v h
    obtain ⟨hj, e, a, rfl, he⟩ := hpairs j x v h
    exact hkeys e a v (List.mem_filterMap.2 ⟨_, at_mem (by omega), he⟩)
  · intro i j x v v' h h'
    obtain ⟨hi, e, a, rfl, he⟩ := hpairs i x v h
    obtain ⟨hj, e', a', hx, he'⟩ := hpairs j _ v' h'
    obtain ⟨rfl, rfl⟩ := pairV_inj hx
    have := List.all_eq_true.1 (List.all_eq_true.1 f11 i (List.mem_range.2 hi)) j (List.mem_range.2 hj)
    rw [he, he'] at this
    simp at this
    exact this.symm
  · intro w' hw hT
    refine hQ w' hw (hT.congr fun x v => ⟨fun ⟨i, hi, hD⟩ => ?_, fun ⟨e, a, hx, hmem⟩ => ?_⟩)
    · obtain ⟨_, e, a, hx, he⟩ := hpairs i x v hD
      exact ⟨e, a, hx, List.mem_filterMap.2 ⟨_, at_mem (by omega), he⟩⟩
    · obtain ⟨j, hj, he⟩ := List.mem_filterMap.1 hmem
      obtain ⟨i, hi⟩ := List.getElem?_of_mem hj
      have hil : i < l.length := (List.getElem?_eq_some_iff.1 hi).1
      refine ⟨i, by omega, ?_⟩
      rw [at_, hi, Option.getD_some, ent_some he, hx]
end
end Go.Proofs.Ytkogkildipmnpaa.Ml

namespace Go.Proofs.Ytkogkildipmnpaa.Ro
set_option maxRecDepth 100000
set_option linter.unusedVariables false
set_option linter.unusedSimpArgs false
open Go.RowKit Ba
def acells (a : At) : List Value := [.string a.name, .string a.value]
theorem len_acells (x : At) : (acells x).length = 2 := rfl
/-- These attributes lie at A, below block N. -/
def Ra (w : World) (N : Nat) (A : Option Addr) (l : List At) : Prop :=
  0 < l.length → ∃ b off, A = some ⟨b, off, none⟩ ∧ b < N ∧ ∀ j (h : j < l.length), w.rangeAt b (off + j * 2) (acells l[j])
/-- Their names are no longer than a string can be. -/
def Sh (l : List At) : Prop := ∀ a ∈ l, a.name.size ≤ maxLen
theorem range_keep {w w' : World} {b o : Nat} {cs : List Value} (h : w.rangeAt b o cs) (hk : ∀ o, w'.cell? ⟨b, o, none⟩ = w.cell? ⟨b, o, none⟩) : w'.rangeAt b o cs := fun j v hv => (hk _).trans (h j v hv)
theorem Ra.keep {w w' : World} {N : Nat} {A : Option Addr} {l : List At} (h : Ra w N A l) (hk : ∀ b o, b < N → w'.cell? ⟨b, o, none⟩ = w.cell? ⟨b, o, none⟩) : Ra w' N A l := fun h0 => by
  obtain ⟨b, off, e, hb, hc⟩ := h h0
  exact ⟨b, off, e, hb, fun j hj => range_keep (hc j hj) fun o => hk b o hb⟩
theorem Ra.more {w : World} {N M : Nat} {A : Option Addr} {l : List At} (h : Ra w N A l) (hN : N ≤ M) : Ra w M A l := fun h0 => by
  obtain ⟨b, off, e, hb, hc⟩ := h h0
  exact ⟨b, off, e, by omega, hc⟩
theorem Ra.below {w w' : World} {N M : Nat} {A : Option Addr} {l : List At} (h : Ra w N A l) (hb : Below M w w') (hN : N ≤ M := by exact Nat.le_refl _) : Ra w' N A l := h.keep fun b o hbN => hb.cell (p := ⟨b, o, none⟩) (show b < M by omega)
theorem Ra.nil (w : World) (N : Nat) (A : Option Addr) : Ra w N A [] := fun h => absurd h (by simp)
theorem info_attr : (Try.prog.info? 30).map (fun i => (i.zero, i.size, i.bytes)) = some (some (.agg #[.string .empty, .string .empty]), 2, 32) := by kernel_rfl
theorem size_attr : (Try.prog.info? 30).map (·.size) = some 2 := by kernel_rfl
theorem Ra.at_ {w : World} {N : Nat} {A : Option Addr} {l : List At} (h : Ra w N A l) (k : Nat) (hk : k < l.length) :
    ∃ b off x, A = some ⟨b, off, none⟩ ∧ b < N ∧ l.drop k = x :: l.drop (k + 1) ∧ w.rangeAt b (off + k * 2) [.string x.name, .string x.value] ∧ x ∈ l := by
  obtain ⟨b, off, e, hb, hc⟩ := h (by omega)
  exact ⟨b, off, l[k], e, hb, List.drop_eq_getElem_cons hk, hc k hk, List.getElem_mem _⟩
theorem below_new (w : World) (o : Obj) : Below w.heap.size w (w.alloc o) := (Below.refl _ _).alloc (Nat.le_refl _) _
theorem getElem_of_drop {α : Type} {l : List α} {k : Nat} {x : α} {r : List α} (h : l.drop k = x :: r) : l[k]? = some x := by
  have := List.getElem?_drop (xs := l) (i := k) (j := 0)
  rw [h] at this
  simpa using this.symm
theorem flat_at {α : Type} (f : α → List Value) (m : Nat) (hm : ∀ x, (f x).length = m) : ∀ (l : List α) (j i : Nat) (h : j < l.length), i < m → (l.flatMap f)[j * m + i]? = (f l[j])[i]?
  | [], j, _, h, _ => absurd h (by simp)
  | x :: r, 0, i, _, hi => by
    rw [List.flatMap_cons, List.getElem?_append_left (by rw [hm]; omega)]
    simp
  | x :: r, j + 1, i, h, hi => by
    rw [List.flatMap_cons, List.getElem?_append_right (by rw [hm, Nat.add_mul]; omega), hm, show (j + 1) * m + i - m = j * m + i from by rw [Nat.add_mul]; omega]
    rw [flat_at f m hm r j i (by simpa using h) hi]
    rfl
theorem flat_len {α : Type} (f : α → List Value) (m : Nat) (hm : ∀ x, (f x).length = m) : ∀ l : List α, (l.flatMap f).length = l.length * m
  | [] => by simp
  | x :: r => by rw [List.flatMap_cons, List.length_append, hm, flat_len f m hm r, List.length_cons, Nat.add_mul]; omega
theorem acells_one (l : List At) : ∀ u ∈ l.flatMap acells, u.oneCell' = true := by
  intro u hu
  obtain ⟨x, _, hu⟩ := List.mem_flatMap.1 hu
  simp only [acells, List.mem_cons, List.not_mem_nil, or_false] at hu
  rcases hu with rfl | rfl <;> rfl
end Go.Proofs.Ytkogkildipmnpaa.Ro

namespace Go.Proofs.Ytkogkildipmnpaa.Ro
set_option maxRecDepth 100000
set_option linter.unusedVariables false
set_option linter.unusedSimpArgs false
open Go.RowKit Ba
/-- A row as it lies: where its attributes are, and how much room is there. -/
structure Cw where
  ro : Ro
  A : Option Addr
  c : Nat

def cells (x : Cw) : List Value := [.int .i64 x.ro.depth, .int .i64 x.ro.kind, .string x.ro.name, .string x.ro.data, .slice x.A x.ro.attrs.length x.c]
theorem len_cells (x : Cw) : (cells x).length = 5 := rfl
def Att (w : World) (N : Nat) (x : Cw) : Prop := x.ro.attrs.length ≤ x.c ∧ (x.A = none → x.c = 0) ∧ x.c ≤ maxLen ∧ Ra w N x.A x.ro.attrs ∧ Sh x.ro.attrs
/-- These rows lie at A, below block N, and their attributes. -/
def Rr (w : World) (N : Nat) (A : Option Addr) (l : List Cw) : Prop :=
  (0 < l.length → ∃ b off, A = some ⟨b, off, none⟩ ∧ b < N ∧ ∀ j (h : j < l.length), w.rangeAt b (off + j * 5) (cells l[j])) ∧ ∀ x ∈ l, Att w N x
/-- A row as a value. -/
abbrev rowV (x : Cw) : Value := .agg #[.int .i64 x.ro.depth, .int .i64 x.ro.kind, .string x.ro.name, .string x.ro.data, .slice x.A x.ro.attrs.length x.c]
def ros (l : List Cw) : List Ro := l.map Cw.ro
theorem len_ros (l : List Cw) : (ros l).length = l.length := List.length_map _
theorem ros_drop (l : List Cw) (k : Nat) : (ros l).drop k = ros (l.drop k) := by simp [ros, List.map_drop]
theorem ros_take (l : List Cw) (k : Nat) : (ros l).take k = ros (l.take k) := by simp [ros, List.map_take]
theorem ros_append (a b : List Cw) : ros (a ++ b) = ros a ++ ros b := by simp [ros]
theorem Att.keep {w w' : World} {N : Nat} {x : Cw} (h : Att w N x) (hk : ∀ b o, b < N → w'.cell? ⟨b, o, none⟩ = w.cell? ⟨b, o, none⟩) : Att w' N x := ⟨h.1, h.2.1, h.2.2.1, h.2.2.2.1.keep hk, h.2.2.2.2⟩
theorem Att.more {w : World} {N M : Nat} {x : Cw} (h : Att w N x) (hN : N ≤ M) : Att w M x := ⟨h.1, h.2.1, h.2.2.1, h.2.2.2.1.more hN, h.2.2.2.2⟩
theorem Att.below {w w' : World} {N M : Nat} {x : Cw} (h : Att w N x) (hb : Below M w w') (hN : N ≤ M := by exact Nat.le_refl _) : Att w' N x := h.keep fun b o hbN => hb.cell (p := ⟨b, o, none⟩) (show b < M by omega)
theorem Rr.keep {w w' : World} {N : Nat} {A : Option Addr} {l : List Cw} (h : Rr w N A l) (hk : ∀ b o, b < N → w'.cell? ⟨b, o, none⟩ = w.cell? ⟨b, o, none⟩) : Rr w' N A l :=
  ⟨fun h0 => by
    obtain ⟨b, off, e, hb, hc⟩ := h.1 h0
    exact ⟨b, off, e, hb, fun j hj => range_keep (hc j hj) fun o => hk b o hb⟩, fun x hx => (h.2 x hx).keep hk⟩
theorem Rr.more {w : World} {N M : Nat} {A : Option Addr} {l : List Cw} (h : Rr w N A l) (hN : N ≤ M) : Rr w M A l :=
  ⟨fun h0 => by
    obtain ⟨b, off, e, hb, hc⟩ := h.1 h0
    exact ⟨b, off, e, by omega, hc⟩, fun x hx => (h.2 x hx).more hN⟩
theorem Rr.below {w w' : World} {N M : Nat} {A : Option Addr} {l : List Cw} (h : Rr w N A l) (hb : Below M w w') (hN : N ≤ M := by exact Nat.le_refl _) : Rr w' N A l := h.keep fun b o hbN => hb.cell (p := ⟨b, o, none⟩) (show b < M by omega)
theorem Rr.nil (w : World) (N : Nat) (A : Option Addr) : Rr w N A [] := ⟨fun h => absurd h (by simp), fun _ h => by simp at h⟩
/-- A part of it: what the model makes of l[i:j]. -/
theorem Rr.part {w : World} {N : Nat} {A : Option Addr} {l : List Cw} (h : Rr w N A l) (i j cap : Nat) (hij : i ≤ j) (hj : j ≤ l.length) (hc : l.length ≤ cap) :
    Rr w N (if cap = i then A else A.map (·.add (i * 5))) ((l.take j).drop i) := by
  refine ⟨fun h0 => ?_, fun x hx => h.2 x (List.mem_of_mem_take (List.mem_of_mem_drop hx))⟩
  rw [List.length_drop, List.length_take] at h0
  obtain ⟨b, off, e, hb, hcc⟩ := h.1 (by omega)
  rw [if_neg (by omega), e]
  refine ⟨b, off + i * 5, by simp [WideShapes.add_plain], hb, fun k hk => ?_⟩
  rw [List.length_drop, List.length_take] at hk
  have := hcc (i + k) (by omega)
  rw [show off + i * 5 + k * 5 = off + (i + k) * 5 from by omega]
  simpa using this

theorem info_row : (Try.prog.info? 37).map (fun i => (i.zero, i.size, i.bytes)) = some (some (.agg #[.int .i64 0, .int .i64 0, .string .empty, .string .empty, .slice none 0 0]), 5, 72) := by kernel_rfl
theorem size_row : (Try.prog.info? 37).map (·.size) = some 5 := by kernel_rfl
/-- The row at k. -/
theorem Rr.at_ {w : World} {N : Nat} {A : Option Addr} {l : List Cw} (h : Rr w N A l) (k : Nat) (hk : k < l.length) :
    ∃ b off x, A = some ⟨b, off, none⟩ ∧ b < N ∧ l.drop k = x :: l.drop (k + 1) ∧ w.rangeAt b (off + k * 5) [.int .i64 x.ro.depth, .int .i64 x.ro.kind, .string x.ro.name, .string x.ro.data, .slice x.A x.ro.attrs.length x.c] ∧ Att w N x ∧ x ∈ l := by
  obtain ⟨b, off, e, hb, hc⟩ := h.1 (by omega)
  exact ⟨b, off, l[k], e, hb, List.drop_eq_getElem_cons hk, hc k hk, h.2 _ (List.getElem_mem _), List.getElem_mem _⟩
/-- A row in a box of its own. -/
abbrev rowO (x : Cw) : Obj := .cells #[.int .i64 x.ro.depth, .int .i64 x.ro.kind, .string x.ro.name, .string x.ro.data, .slice x.A x.ro.attrs.length x.c] 37
theorem box_at (w : World) (x : Cw) (j : Nat) : (w.alloc (rowO x)).cell? ⟨w.heap.size, j, none⟩ = (cells x)[j]? := by
  rw [World.cell?_alloc_mark]
  match j with
  | 0 | 1 | 2 | 3 | 4 => rfl
  | j + 5 => simp [cells]
theorem box_kept {w w3 : World} {x : Cw} (hb : Below (w.alloc (rowO x)).heap.size (w.alloc (rowO x)) w3) (j : Nat) : w3.cell? ⟨w.heap.size, j, none⟩ = (cells x)[j]? :=
  (hb.cell (p := ⟨w.heap.size, j, none⟩) (by simp)).trans (box_at w x j)
theorem Att.boxed {w w0 : World} {x : Cw} (h : Att w w0.heap.size x) (hb : Below w0.heap.size w0 w) (o : Obj) : Att (w.alloc o) (w.alloc o).heap.size x :=
  ((h.more hb.size).below (below_new w o)).more (by simp)
/-- l[i:j] where i is ahead of the room's end. -/
theorem Rr.mid {w : World} {N : Nat} {A : Option Addr} {l : List Cw} (h : Rr w N A l) (i j cap : Nat) (hij : i ≤ j) (hj : j ≤ l.length) (hc : l.length ≤ cap) (hne : i < cap) :
    Rr w N (Option.map (fun x => x.add (i * 5)) A) ((l.take j).drop i) := by
  have := h.part i j cap hij hj hc
  rwa [if_neg (by omega)] at this
theorem ros_part (l : List Cw) (i j : Nat) : ros ((l.take j).drop i) = ((ros l).take j).drop i := by rw [← ros_drop, ← ros_take]

end Go.Proofs.Ytkogkildipmnpaa.Ro

namespace Go.Proofs.Ytkogkildipmnpaa.Ro
set_option linter.unusedVariables false
set_option linter.unusedSimpArgs false
open Go.RowKit Ba
end Go.Proofs.Ytkogkildipmnpaa.Ro

namespace Go.Proofs.Ytkogkildipmnpaa.Ro
set_option linter.unusedVariables false
set_option linter.unusedSimpArgs false
open Go.RowKit Ba
/-- Depths that do not wrap. -/
def Deep (l : List Ro) : Prop := ∀ x ∈ l, 0 ≤ x.depth ∧ x.depth ≤ 1000000
theorem Deep.at_ {l : List Cw} (h : Deep (ros l)) {x : Cw} (hx : x ∈ l) : 0 ≤ x.ro.depth ∧ x.ro.depth ≤ 1000000 := h _ (List.mem_map.2 ⟨x, hx, rfl⟩)
end Go.Proofs.Ytkogkildipmnpaa.Ro

namespace Go.Proofs.Ytkogkildipmnpaa.Ro
set_option linter.unusedVariables false
set_option linter.unusedSimpArgs false
open Go.RowKit Ba Go.Shelf
attribute [local go_sem] Oper.semAt_some

/-- The places, from k on, of those that stand just at depth d. -/
def kidsFrom (d : Int) : Nat → List Ro → List Nat
  | _, [] => []
  | k, x :: r => if x.depth = d then k :: kidsFrom d (k + 1) r else kidsFrom d (k + 1) r
def kids (l : List Ro) (i : Int) : List Nat := kidsFrom (dep l i + 1) (i + 1).toNat (below l i)

/-- What a round leaves as it was: what lay below n₀, and the two boxes of the iterator. -/
def Kp (n₀ B1 B2 : Nat) (W W' : World) : Prop := Below n₀ W W' ∧ W'.heap[B1]? = W.heap[B1]? ∧ W'.heap[B2]? = W.heap[B2]?
theorem Kp.t {n₀ B1 B2 : Nat} {A B C : World} (h : Kp n₀ B1 B2 A B) (k : Kp n₀ B1 B2 B C) : Kp n₀ B1 B2 A C := ⟨h.1.trans k.1, k.2.1.trans h.2.1, k.2.2.trans h.2.2⟩
theorem Kp.b {n₀ B1 B2 : Nat} {w : World} (hn : n₀ ≤ w.heap.size) (h1 : B1 < w.heap.size) (h2 : B2 < w.heap.size) (W : World) (l : Nat) (o o' : Obj) (hl : w.heap.size ≤ l) (h : W.heap[l]? = some o) (hc : o.isCells = false) (hw : o.isWalk = false) : Kp n₀ B1 B2 W (W.putObj l o') :=
  ⟨belowK_b hn W l o o' hl h hc hw, World.putObj_heap_other (by omega), World.putObj_heap_other (by omega)⟩

end Go.Proofs.Ytkogkildipmnpaa.Ro

namespace Go.Proofs.Ytkogkildipmnpaa.Ro
set_option maxRecDepth 100000
set_option linter.unusedVariables false
set_option linter.unusedSimpArgs false
open Go.RowKit Ba Go.Shelf
attribute [local go_sem] Oper.semAt_some

/-- A number as a value. -/
def nv (k : Nat) : Value := .int .i64 k
end Go.Proofs.Ytkogkildipmnpaa.Ro

namespace Go.Proofs.Ytkogkildipmnpaa.Ro
set_option linter.unusedVariables false
set_option linter.unusedSimpArgs false
open Go.RowKit Ba Go.Maps
def key (a : At) : Lit := .string a.name.data.toList
end Go.Proofs.Ytkogkildipmnpaa.Ro

namespace Go.Proofs.Ytkogkildipmnpaa.Ro
set_option maxRecDepth 100000
set_option linter.unusedVariables false
set_option linter.unusedSimpArgs false
open Go.RowKit Ba Go.Maps Go.WideMaps
end Go.Proofs.Ytkogkildipmnpaa.Ro

namespace Go.Proofs.Ytkogkildipmnpaa.Ro
set_option linter.unusedVariables false
set_option linter.unusedSimpArgs false
open Go.RowKit Ba
/-- Are rows trees, within the limits? -/
def check (l : List Ro) : Int := if exceeds l 4096 60 then 2 else if right l then 0 else 40
end Go.Proofs.Ytkogkildipmnpaa.Ro

namespace Go.Proofs.Ytkogkildipmnpaa.Ro
set_option linter.unusedVariables false
set_option linter.unusedSimpArgs false
open Go.RowKit Ba
end Go.Proofs.Ytkogkildipmnpaa.Ro

namespace Go.Proofs.Ytkogkildipmnpaa.Ro
set_option linter.unusedVariables false
set_option linter.unusedSimpArgs false
open Go.RowKit Ba
/-- v is a slice of numbers of the call's own. -/
def Nw (N : Nat) (w : World) (v : Value) (l : List Nat) : Prop := w.ownsRow N 3 1 v l.length (l.map nv)
theorem Nw.made (w : World) : Nw w.heap.size (w.alloc (.cells #[] 3)) (.slice (some ⟨w.heap.size, 0, none⟩) 0 0) [] := World.ownsRow_made w #[] 0 (Nat.le_refl _) (Nat.zero_le _) rfl
theorem Nw.alloc {N : Nat} {w : World} {v : Value} {l : List Nat} (h : Nw N w v l) (o : Obj) : Nw N (w.alloc o) v l := World.ownsRow.alloc h o
theorem Nw.below {N M : Nat} {w w' : World} {v : Value} {l : List Nat} (h : Nw N w v l) (hb : Below M w w') (hM : w.heap.size ≤ M := by exact Nat.le_refl _) : Nw N w' v l := by
  refine ⟨h.1, ?_⟩
  rcases h.2 with hn | ⟨g, cap, cur, hv, hg, hh, rest⟩
  · exact .inl hn
  · refine .inr ⟨g, cap, cur, hv, hg, ?_, rest⟩
    have hlt : g < w.heap.size := (Array.getElem?_eq_some_iff.1 hh).1
    rw [hb.block g (by omega)]
    exact hh
/-- It reads as these numbers. -/
def Rn (w : World) (N : Nat) (A : Option Addr) (l : List Nat) : Prop := 0 < l.length → ∃ b off, A = some ⟨b, off, none⟩ ∧ b < N ∧ ∀ j (h : j < l.length), w.cell? ⟨b, off + j, none⟩ = some (.int .i64 (l[j] : Nat))
theorem Rn.below {w w' : World} {N M : Nat} {A : Option Addr} {l : List Nat} (h : Rn w N A l) (hb : Below M w w') (hN : N ≤ M := by exact Nat.le_refl _) : Rn w' N A l := fun h0 => by
  obtain ⟨b, off, e, hb1, hc⟩ := h h0
  exact ⟨b, off, e, hb1, fun j hj => (hb.cell (p := ⟨b, off + j, none⟩) (by show b < M; omega)).trans (hc j hj)⟩
theorem Nw.form {N : Nat} {w : World} {v : Value} {l : List Nat} (h : Nw N w v l) : ∃ A c, v = .slice A l.length c ∧ l.length ≤ c ∧ c ≤ maxLen ∧ Rn w w.heap.size A l := by
  rcases h.2 with ⟨hv, hl⟩ | ⟨g, cap, cur, hv, hg, hh, hn, hm, hs, ht⟩
  · have : l = [] := List.eq_nil_of_length_eq_zero hl
    subst this
    exact ⟨none, 0, hv, Nat.le_refl _, Nat.zero_le _, fun h => absurd h (by simp)⟩
  · refine ⟨some ⟨g, 0, none⟩, cap, hv, hn, hm, fun _ => ⟨g, 0, rfl, (Array.getElem?_eq_some_iff.1 hh).1, fun j hj => ?_⟩⟩
    subst hv
    have := World.ownsRow.cells h rfl j (nv l[j]) (by simp [hj])
    rw [WideShapes.add_plain] at this
    exact this
end Go.Proofs.Ytkogkildipmnpaa.Ro

namespace Go.Proofs.Ytkogkildipmnpaa.Ro
set_option maxRecDepth 100000
set_option linter.unusedVariables false
set_option linter.unusedSimpArgs false
open Go.RowKit Ba
/-- The attributes of a row lie where no row of the call's own can lie. -/
def Ap (w : World) (N : Nat) (x : Cw) : Prop := 0 < x.ro.attrs.length → ∃ b off, x.A = some ⟨b, off, none⟩ ∧ (b < N ∨ ∃ cs fr, w.heap[b]? = some (.cells cs 30 fr))
/-- The attributes of a row are the call's own. -/
def Fr (N : Nat) (w : World) (x : Cw) : Prop := w.ownsRow N 30 2 (.slice x.A x.ro.attrs.length x.c) x.ro.attrs.length (x.ro.attrs.flatMap acells) ∧ Sh x.ro.attrs
/-- v is a slice of rows of the call's own. -/
def Ow (N : Nat) (w : World) (v : Value) (l : List Cw) : Prop := w.ownsRow N 37 5 v l.length (l.flatMap cells) ∧ ∀ x ∈ l, Att w w.heap.size x ∧ Ap w N x

theorem Fr.att {N : Nat} {w : World} {x : Cw} (h : Fr N w x) : Att w w.heap.size x := by
  obtain ⟨⟨hl, h⟩, hs⟩ := h
  rcases h with ⟨hv, hn⟩ | ⟨g, cap, cur, hv, hg, hh, hn, hm, hsz, ht⟩
  · injection hv with e1 e2 e3
    refine ⟨by omega, fun _ => e3, by rw [e3]; exact Nat.zero_le _, fun h0 => by omega, hs⟩
  · have hh0 : w.ownsRow N 30 2 (.slice x.A x.ro.attrs.length x.c) x.ro.attrs.length (x.ro.attrs.flatMap acells) := ⟨hl, .inr ⟨g, cap, cur, hv, hg, hh, hn, hm, hsz, ht⟩⟩
    injection hv with e1 _ e3
    refine ⟨by omega, (fun e => by rw [e] at e1; cases e1), by rw [e3]; exact hm, fun h0 => ⟨g, 0, e1, (Array.getElem?_eq_some_iff.1 hh).1, fun j hj i v hv => ?_⟩, hs⟩
    have hi : i < 2 := (List.getElem?_eq_some_iff.1 hv).1
    have := World.ownsRow.cells hh0 (g := g) (by rw [e1]; rfl) (j * 2 + i) v (by rw [flat_at acells 2 len_acells _ _ _ hj hi]; exact hv)
    rw [WideShapes.add_plain] at this
    rw [show 0 + j * 2 + i = 0 + (j * 2 + i) from by omega]
    exact this
theorem Fr.ap {N : Nat} {w : World} {x : Cw} (h : Fr N w x) : Ap w N x := fun h0 => by
  obtain ⟨⟨_, h⟩, _⟩ := h
  rcases h with ⟨hv, hn⟩ | ⟨g, cap, cur, hv, hg, hh, _⟩
  · omega
  · injection hv with e1
    exact ⟨g, 0, e1, .inr ⟨_, _, hh⟩⟩
theorem Fr.below {N M : Nat} {w w' : World} {x : Cw} (h : Fr N w x) (hb : Below M w w') (hM : w.heap.size ≤ M := by exact Nat.le_refl _) : Fr N w' x := by
  refine ⟨⟨h.1.1, ?_⟩, h.2⟩
  rcases h.1.2 with hn | ⟨g, cap, cur, hv, hg, hh, rest⟩
  · exact .inl hn
  · refine .inr ⟨g, cap, cur, hv, hg, ?_, rest⟩
    have hlt : g < w.heap.size := (Array.getElem?_eq_some_iff.1 hh).1
    rw [hb.block g (by omega)]
    exact hh
theorem Ap.below {N M : Nat} {w w' : World} {x : Cw} (h : Ap w N x) (hb : Below M w w') (hM : w.heap.size ≤ M := by exact Nat.le_refl _) : Ap w' N x := fun h0 => by
  obtain ⟨b, off, e, h⟩ := h h0
  refine ⟨b, off, e, ?_⟩
  rcases h with h | ⟨cs, fr, h⟩
  · exact .inl h
  · refine .inr ⟨cs, fr, ?_⟩
    have hlt : b < w.heap.size := (Array.getElem?_eq_some_iff.1 h).1
    rw [hb.block b (by omega)]
    exact h
theorem Att.apart {N : Nat} {w : World} {x : Cw} (h : Att w N x) : Ap w N x := fun h0 => by
  obtain ⟨b, off, e, hb, _⟩ := h.2.2.2.1 h0
  exact ⟨b, off, e, .inl hb⟩
theorem Ow.nil (N : Nat) (w : World) : Ow N w (.slice none 0 0) [] := ⟨World.ownsRow_nil w N _ 5, fun _ h => by simp at h⟩
theorem Ow.made (w : World) : Ow w.heap.size (w.alloc (.cells #[] 37)) (.slice (some ⟨w.heap.size, 0, none⟩) 0 0) [] :=
  ⟨World.ownsRow_made w #[] 0 (Nat.le_refl _) (Nat.zero_le _) rfl, fun _ h => by simp at h⟩
theorem Ow.below {N M : Nat} {w w' : World} {v : Value} {l : List Cw} (h : Ow N w v l) (hb : Below M w w') (hM : w.heap.size ≤ M := by exact Nat.le_refl _) : Ow N w' v l := by
  refine ⟨⟨h.1.1, ?_⟩, fun x hx => ⟨((h.2 x hx).1.below hb hM).more hb.size, (h.2 x hx).2.below hb hM⟩⟩
  rcases h.1.2 with hn | ⟨g, cap, cur, hv, hg, hh, rest⟩
  · exact .inl hn
  · refine .inr ⟨g, cap, cur, hv, hg, ?_, rest⟩
    have hlt : g < w.heap.size := (Array.getElem?_eq_some_iff.1 hh).1
    rw [hb.block g (by omega)]
    exact hh
theorem Ow.alloc {N : Nat} {w : World} {v : Value} {l : List Cw} (h : Ow N w v l) (o : Obj) : Ow N (w.alloc o) v l := h.below (below_new w o)
theorem Ow.mono {N N' : Nat} {w : World} {v : Value} {l : List Cw} (h : Ow N w v l) (hN : N' ≤ N) (hl : ∀ x ∈ l, Ap w N' x) : Ow N' w v l := ⟨World.ownsRow.mono h.1 hN, fun x hx => ⟨(h.2 x hx).1, hl x hx⟩⟩
/-- What a slice of the call's own is, and reads as. -/
theorem Ow.form {N : Nat} {w : World} {v : Value} {l : List Cw} (h : Ow N w v l) : ∃ A c, v = .slice A l.length c ∧ l.length ≤ c ∧ c ≤ maxLen ∧ (A = none → c = 0) ∧ Rr w w.heap.size A l := by
  rcases h.1.2 with ⟨hv, hl⟩ | ⟨g, cap, cur, hv, hg, hh, hn, hm, hs, ht⟩
  · have : l = [] := List.eq_nil_of_length_eq_zero hl
    subst this
    exact ⟨none, 0, hv, Nat.le_refl _, Nat.zero_le _, fun _ => rfl, Rr.nil _ _ _⟩
  · refine ⟨some ⟨g, 0, none⟩, cap, hv, hn, hm, (fun e => by cases e), fun _ => ⟨g, 0, rfl, (Array.getElem?_eq_some_iff.1 hh).1, fun j hj i u hu => ?_⟩, fun x hx => (h.2 x hx).1⟩
    have hi : i < 5 := (List.getElem?_eq_some_iff.1 hu).1
    subst hv
    have := World.ownsRow.cells h.1 (g := g) rfl (j * 5 + i) u (by rw [flat_at cells 5 len_cells _ _ _ hj hi]; exact hu)
    rw [WideShapes.add_plain] at this
    rw [show 0 + j * 5 + i = 0 + (j * 5 + i) from by omega]
    exact this

/-- A block of attributes is none of rows. -/
theorem block_ne {N n : Nat} {w : World} {v : Value} {xs : List Value} {b : Nat} {cs : Array Value} {fr : Nat × Nat} (h : w.ownsRow N 37 5 v n xs) (hb : w.heap[b]? = some (.cells cs 30 fr)) : some b ≠ v.ownBlock := by
  rcases h.2 with ⟨rfl, _⟩ | ⟨g, cap, cur, rfl, _, hh, _⟩
  · simp [Value.ownBlock]
  · intro e
    have e : b = g := by simpa [Value.ownBlock] using e
    subst e
    rw [hb] at hh
    injection hh with hh
    injection hh with _ ht
    exact absurd ht (by decide)
theorem low_ne {N n : Nat} {w : World} {v : Value} {xs : List Value} {b : Nat} (h : w.ownsRow N 37 5 v n xs) (hb : b < N) : some b ≠ v.ownBlock := fun e => by
  have := (World.ownsRow.lt h b e.symm).1
  omega
theorem Att.grown {N n : Nat} {w w' : World} {v : Value} {xs : List Value} {y : Cw} (h : w.ownsRow N 37 5 v n xs) (hg : w.grownBy w' v.ownBlock) (hy : Att w w.heap.size y) (ha : Ap w N y) : Att w' w'.heap.size y := by
  refine ⟨hy.1, hy.2.1, hy.2.2.1, fun h0 => ?_, hy.2.2.2.2⟩
  obtain ⟨b, off, e, hb, hc⟩ := hy.2.2.2.1 h0
  obtain ⟨b', off', e', ha⟩ := ha h0
  rw [e] at e'
  injection e' with e'
  injection e' with e1 e2
  subst e1 e2
  have hne : some b ≠ v.ownBlock := by
    rcases ha with ha | ⟨cs, fr, ha⟩
    · exact low_ne h ha
    · exact block_ne h ha
  exact ⟨b, off, e, Nat.lt_of_lt_of_le hb hg.size, fun j hj => range_keep (hc j hj) fun o => World.cell?_of_block (a := ⟨b, o, none⟩) (hg.block b hb hne)⟩
theorem Ap.grown {N n : Nat} {w w' : World} {v : Value} {xs : List Value} {y : Cw} (h : w.ownsRow N 37 5 v n xs) (hg : w.grownBy w' v.ownBlock) (ha : Ap w N y) : Ap w' N y := fun h0 => by
  obtain ⟨b, off, e, ha⟩ := ha h0
  refine ⟨b, off, e, ?_⟩
  rcases ha with ha | ⟨cs, fr, ha⟩
  · exact .inl ha
  · exact .inr ⟨cs, fr, (hg.block b (Array.getElem?_eq_some_iff.1 ha).1 (block_ne h ha)).trans ha⟩
theorem Fr.grown {N n : Nat} {w w' : World} {v : Value} {xs : List Value} {y : Cw} (h : w.ownsRow N 37 5 v n xs) (hg : w.grownBy w' v.ownBlock) (hy : Fr N w y) : Fr N w' y := by
  refine ⟨⟨hy.1.1, ?_⟩, hy.2⟩
  rcases hy.1.2 with hn | ⟨g, cap, cur, hv, hg', hh, rest⟩
  · exact .inl hn
  · exact .inr ⟨g, cap, cur, hv, hg', (hg.block g (Array.getElem?_eq_some_iff.1 hh).1 (block_ne h hh)).trans hh, rest⟩

theorem row_cells_new (w : World) (x : Cw) : ∀ j u, (cells x)[j]? = some u → (w.alloc (rowO x)).cell? ((⟨w.heap.size, 0, none⟩ : Addr).add j) = some u := fun j u hu => by
  rw [WideShapes.add_plain, Nat.zero_add]
  exact (box_at w x j).trans hu
theorem cells_one (x : Cw) : ∀ u ∈ cells x, u.oneCell' = true := by
  intro u hu
  simp only [cells, List.mem_cons, List.not_mem_nil, or_false] at hu
  rcases hu with rfl | rfl | rfl | rfl | rfl <;> rfl
/-- append of one row, in a block of its own, onto rows of the call's own. -/
theorem app_row {ops : Array Oper} {rest : List Oper} {o : Oper} {a : Act} {Q : Exit → Act → World → Prop} (w : World) (hgd : o.guard = none) (s x : Operand)
    (ho : o.op = .call { callee := .builtin .append, args := #[s, x], argTypes := #[32, 32] })
    (N : Nat) (v : Value) (l : List Cw) (y : Cw) (hs : a.eval s = v) (hown : Ow N w v l) (hy : Att w w.heap.size y) (hap : Ap w N y) (g : Nat) (hgz : g = w.heap.size) (hx : a.eval x = .slice (some ⟨g, 0, none⟩) 1 1)
    (hl : l.length ≤ 2000000) (hN : N ≤ w.heap.size)
    (h : ∀ v' w', Ow N w' v' (l ++ [y]) → (∀ w0, Below N w0 w → Below N w0 w') → (∀ z, Fr N w z → Fr N w' z) → wpList Try.prog ops Q rest (a.put o.dst v') w') :
    wpList Try.prog ops Q (o :: rest) a (w.alloc (rowO y)) := by
  subst hgz
  obtain ⟨i0, hi, hz0, hz1, hz2⟩ := info_parts info_row
  have hown' : Ow N (w.alloc (rowO y)) v l := hown.alloc _
  have hsz : (w.alloc (rowO y)).heap.size = w.heap.size + 1 := by simp
  refine wpList_append_own _ hgd s x 32 ho N 37 i0 _ 5 72 Try.underlying32 hi hz0 hz1 hz2 rfl (by decide) v l.length (l.flatMap cells) hs hown'.1 ⟨w.heap.size, 0, none⟩ 1 1 (cells y) hx rfl (row_cells_new w y) (cells_one y) (by unfold maxLen; omega) (by omega) (by omega) ?_
  intro v' w' ho2 hg2 _
  have hk : ∀ w0, Below N w0 w → Below N w0 w' := fun w0 hb => (hb.alloc hN _).grown hg2 (by omega) fun k hk => (World.ownsRow.lt hown'.1 k hk).1
  refine h v' w' ⟨?_, ?_⟩ hk fun z hz => (hz.below (below_new w (rowO y))).grown hown'.1 hg2
  · rw [List.length_append, List.flatMap_append]
    simpa using ho2
  · intro z hz
    rcases List.mem_append.1 hz with hz | hz
    · exact ⟨(hown'.2 z hz).1.grown hown'.1 hg2 (hown'.2 z hz).2, (hown'.2 z hz).2.grown hown'.1 hg2⟩
    · obtain rfl := List.mem_singleton.1 hz
      have h1 : Att (w.alloc (rowO z)) (w.alloc (rowO z)).heap.size z := hy.boxed (Below.refl _ _) (rowO z)
      have h2 := hap.below (below_new w (rowO z))
      exact ⟨h1.grown hown'.1 hg2 h2, h2.grown hown'.1 hg2⟩

/-- append of other rows, nil or not, onto rows of the call's own. -/
theorem app_rows {ops : Array Oper} {rest : List Oper} {o : Oper} {a : Act} {Q : Exit → Act → World → Prop} (w : World) (hgd : o.guard = none) (s x : Operand)
    (ho : o.op = .call { callee := .builtin .append, args := #[s, x], argTypes := #[32, 32] })
    (N : Nat) (v : Value) (l m : List Cw) (B : Option Addr) (c : Nat) (hs : a.eval s = v) (hown : Ow N w v l) (hx : a.eval x = .slice B m.length c) (hB : B = none → c = 0) (hr : Rr w w.heap.size B m) (hap : ∀ y ∈ m, Ap w N y)
    (hl : l.length + m.length ≤ 2000000) (hN : N ≤ w.heap.size)
    (h : ∀ v' w', Ow N w' v' (l ++ m) → (∀ w0, Below N w0 w → Below N w0 w') → (∀ z, Fr N w z → Fr N w' z) → wpList Try.prog ops Q rest (a.put o.dst v') w') :
    wpList Try.prog ops Q (o :: rest) a w := by
  obtain ⟨i0, hi, hz0, hz1, hz2⟩ := info_parts info_row
  cases B with
  | none =>
    have hm : m = [] := by
      rcases Nat.eq_zero_or_pos m.length with h0 | h0
      · exact List.eq_nil_of_length_eq_zero h0
      · obtain ⟨b, off, e, _⟩ := hr.1 h0
        cases e
    subst hm
    rw [hB rfl] at hx
    refine wpList_append_own_none hgd s x 32 ho N 37 i0 5 Try.underlying32 hi v l.length (l.flatMap cells) hs hown.1 hx ?_
    exact h v w (by rw [List.append_nil]; exact hown) (fun _ hb => hb) (fun _ hz => hz)
  | some ad =>
    have hcells : ∀ j u, (m.flatMap cells)[j]? = some u → w.cell? (ad.add j) = some u := by
      intro j u hu
      have hj : j < (m.flatMap cells).length := (List.getElem?_eq_some_iff.1 hu).1
      rw [flat_len cells 5 len_cells] at hj
      obtain ⟨b, off, e, _, hc⟩ := hr.1 (by omega)
      injection e with e
      subst e
      rw [WideShapes.add_plain]
      have hq := hc (j / 5) (by omega) (j % 5) u (by rw [← flat_at cells 5 len_cells _ _ _ (by omega) (Nat.mod_lt _ (by decide)), show j / 5 * 5 + j % 5 = j from by omega]; exact hu)
      rw [show off + j / 5 * 5 + j % 5 = off + j from by omega] at hq
      exact hq
    refine wpList_append_own _ hgd s x 32 ho N 37 i0 _ 5 72 Try.underlying32 hi hz0 hz1 hz2 rfl (by decide) v l.length (l.flatMap cells) hs hown.1 ad m.length c (m.flatMap cells) hx (flat_len cells 5 len_cells _) hcells (by
      intro u hu
      obtain ⟨y, _, hu⟩ := List.mem_flatMap.1 hu
      exact cells_one y u hu) (by unfold maxLen; omega) (by omega) hN ?_
    intro v' w' ho2 hg2 _
    have hk : ∀ w0, Below N w0 w → Below N w0 w' := fun w0 hb => hb.grown hg2 hN fun k hk => (World.ownsRow.lt hown.1 k hk).1
    refine h v' w' ⟨?_, ?_⟩ hk fun z hz => hz.grown hown.1 hg2
    · rw [List.length_append, List.flatMap_append]
      exact ho2
    · intro z hz
      rcases List.mem_append.1 hz with hz | hz
      · exact ⟨(hown.2 z hz).1.grown hown.1 hg2 (hown.2 z hz).2, (hown.2 z hz).2.grown hown.1 hg2⟩
      · exact ⟨(hr.2 z hz).grown hown.1 hg2 (hap z hz), (hap z hz).grown hown.1 hg2⟩

end Go.Proofs.Ytkogkildipmnpaa.Ro

namespace Go.Proofs.Ytkogkildipmnpaa.Ro
set_option maxRecDepth 100000
set_option linter.unusedVariables false
set_option linter.unusedSimpArgs false
open Go.RowKit Ba
/-- Rows so much deeper. -/
def deeper (by_ : Int) (l : List Ro) : List Ro := l.map fun x => { x with depth := x.depth + by_ }
/-- No row has more attributes than that. -/
def Few (l : List Ro) : Prop := ∀ x ∈ l, x.attrs.length ≤ 1000000
theorem Few.at_ {l : List Cw} (h : Few (ros l)) {x : Cw} (hx : x ∈ l) : x.ro.attrs.length ≤ 1000000 := h _ (List.mem_map.2 ⟨x, hx, rfl⟩)
/-- So much deeper they do not wrap. -/
def Fits (by_ : Int) (l : List Ro) : Prop := ∀ x ∈ l, -9223372036854775808 ≤ x.depth + by_ ∧ x.depth + by_ ≤ 9223372036854775807
theorem Fits.at_ {d : Int} {l : List Cw} (h : Fits d (ros l)) {x : Cw} (hx : x ∈ l) : -9223372036854775808 ≤ x.ro.depth + d ∧ x.ro.depth + d ≤ 9223372036854775807 := h _ (List.mem_map.2 ⟨x, hx, rfl⟩)

theorem Fr.mono {N N' : Nat} {w : World} {x : Cw} (h : Fr N w x) (hN : N' ≤ N) : Fr N' w x := ⟨World.ownsRow.mono h.1 hN, h.2⟩
theorem Fr.set {N : Nat} {w : World} {x : Cw} {p : Addr} {u : Value} (h : Fr N w x) (hp : p.block < N) : Fr N (w.setCell p u) x := by
  refine ⟨⟨h.1.1, ?_⟩, h.2⟩
  rcases h.1.2 with hn | ⟨g, cap, cur, hv, hg, hh, rest⟩
  · exact .inl hn
  · exact .inr ⟨g, cap, cur, hv, hg, (Below.heap_setCell w p u g (by omega)).trans hh, rest⟩
/-- A box that is kept. -/
theorem box_block {w w2 : World} {x : Cw} (hb : Below (w.heap.size + 1) (w.alloc (rowO x)) w2) :
    w2.cell? ⟨w.heap.size, 0, none⟩ = some (.int .i64 x.ro.depth) ∧ w2.cell? ⟨w.heap.size, 1, none⟩ = some (.int .i64 x.ro.kind) ∧ w2.cell? ⟨w.heap.size, 2, none⟩ = some (.string x.ro.name) ∧ w2.cell? ⟨w.heap.size, 3, none⟩ = some (.string x.ro.data) ∧ w2.cell? ⟨w.heap.size, 4, none⟩ = some (.slice x.A x.ro.attrs.length x.c) ∧ w2.frozen? ⟨w.heap.size, 4, none⟩ = false ∧ Below w.heap.size w w2 := by
  have hc : ∀ j, w2.cell? ⟨w.heap.size, j, none⟩ = (cells x)[j]? := fun j => (hb.cell (p := ⟨w.heap.size, j, none⟩) (by simp)).trans (box_at w x j)
  refine ⟨hc 0, hc 1, hc 2, hc 3, hc 4, ?_, (below_new w _).trans (hb.mono (by omega))⟩
  rw [hb.frozen (p := ⟨w.heap.size, 4, none⟩) (by simp)]
  unfold World.frozen?
  rw [heap_alloc_new]
  rfl
theorem own_attr0 (w : World) (o : Obj) : ((w.alloc o).alloc (.cells #[] 30)).ownsRow (w.heap.size + 1) 30 2 (.slice (some ⟨w.heap.size + 1, 0, none⟩) 0 0) 0 [] := by
  have h : (w.alloc o).heap.size = w.heap.size + 1 := by simp
  have := World.ownsRow_made (base := (w.alloc o).heap.size) (e := 30) (size := 2) (w.alloc o) #[] 0 (Nat.le_refl _) (Nat.zero_le _) rfl
  rwa [h] at this
theorem Few.append {a b : List Ro} (ha : Few a) (hb : Few b) : Few (a ++ b) := fun x hx => (List.mem_append.1 hx).elim (ha x) (hb x)
theorem Few.deeper {a : List Ro} (ha : Few a) (d : Int) : Few (deeper d a) := fun x hx => by
  obtain ⟨y, hy, rfl⟩ := List.mem_map.1 hx
  exact ha y hy
/-- Depths that an int64 holds. -/
def Held (l : List Ro) : Prop := ∀ x ∈ l, -9223372036854775808 ≤ x.depth ∧ x.depth ≤ 9223372036854775807
theorem Held.append {a b : List Ro} (ha : Held a) (hb : Held b) : Held (a ++ b) := fun x hx => (List.mem_append.1 hx).elim (ha x) (hb x)
theorem Fits.held {d : Int} {l : List Ro} (h : Fits d l) : Held (deeper d l) := fun x hx => by
  obtain ⟨y, hy, rfl⟩ := List.mem_map.1 hx
  exact h y hy
theorem Few.drop {l : List Ro} (h : Few l) (k : Nat) : Few (l.drop k) := fun x hx => h x (List.mem_of_mem_drop hx)
theorem Few.take {l : List Ro} (h : Few l) (k : Nat) : Few (l.take k) := fun x hx => h x (List.mem_of_mem_take hx)
theorem Held.drop {l : List Ro} (h : Held l) (k : Nat) : Held (l.drop k) := fun x hx => h x (List.mem_of_mem_drop hx)
theorem Held.take {l : List Ro} (h : Held l) (k : Nat) : Held (l.take k) := fun x hx => h x (List.mem_of_mem_take hx)
theorem Fits.drop {d : Int} {l : List Ro} (h : Fits d l) (k : Nat) : Fits d (l.drop k) := fun x hx => h x (List.mem_of_mem_drop hx)
theorem Fits.take {d : Int} {l : List Ro} (h : Fits d l) (k : Nat) : Fits d (l.take k) := fun x hx => h x (List.mem_of_mem_take hx)

end Go.Proofs.Ytkogkildipmnpaa.Ro

namespace Go.Proofs.Ytkogkildipmnpaa.Ro
set_option maxRecDepth 100000
set_option linter.unusedVariables false
set_option linter.unusedSimpArgs false
open Go.RowKit Ba
theorem Ra.take {w : World} {N : Nat} {A : Option Addr} {l : List At} (h : Ra w N A l) (k : Nat) : Ra w N A (l.take k) := fun h0 => by
  rw [List.length_take] at h0
  obtain ⟨b, off, e, hb, hc⟩ := h (by omega)
  refine ⟨b, off, e, hb, fun j hj => ?_⟩
  rw [List.length_take] at hj
  rw [List.getElem_take]
  exact hc j (by omega)
abbrev cut (x : Cw) (ys : List At) : Cw := ⟨⟨x.ro.depth, x.ro.kind, x.ro.name, x.ro.data, ys⟩, x.A, x.c⟩
theorem Att.cut {w : World} {N : Nat} {x : Cw} (h : Att w N x) : Att w N (cut x (x.ro.attrs.take 8)) :=
  ⟨Nat.le_trans (List.length_take_le' _ _) h.1, h.2.1, h.2.2.1, h.2.2.2.1.take 8, fun a ha => h.2.2.2.2 a (List.mem_of_mem_take ha)⟩
theorem min_any (x : Nat) (m : Nat) (M : Int) (hM : M = m) (y : Nat) (hy : y = min x m) (w : World) : ∀ ts t, (Builtin.min_ ts t #[.int .i64 x, .int .i64 M]).run Try.prog w = .ok (.int .i64 y) w := by
  intro ts t
  rw [run_min_int2, hy]
  congr 2
  split <;> omega

end Go.Proofs.Ytkogkildipmnpaa.Ro

namespace Go.Proofs.Ytkogkildipmnpaa.Ro
set_option linter.unusedVariables false
set_option linter.unusedSimpArgs false
open Ba
/-- The data of all texts, one after the other. -/
def txt : List Ro → List UInt8
  | [] => []
  | x :: r => (if x.kind = 1 then L x.data else []) ++ txt r
/-- How many texts at this depth come next. -/
def nexts (d : Int) (l : List Ro) : Nat := (l.takeWhile fun y => y.kind == 1 && y.depth == d).length
/-- The rows with each text joined to the one before it, and without empty ones. -/
def normal : List Ro → List Ro
  | [] => []
  | x :: r =>
    if x.kind = 1 then
      (if txt (x :: r.take (nexts x.depth r)) = [] then [] else [⟨x.depth, 1, .empty, B (txt (x :: r.take (nexts x.depth r))), []⟩]) ++ normal (r.drop (nexts x.depth r))
    else x :: normal r
termination_by l => l.length
decreasing_by all_goals (simp [List.length_drop]; try omega)

end Go.Proofs.Ytkogkildipmnpaa.Ro

namespace Go.Proofs.Ytkogkildipmnpaa.Ba
set_option maxRecDepth 100000
set_option linter.unusedSimpArgs false
set_option linter.unusedVariables false
open Go.RowKit
def bc (b : UInt8) : Value := .int .u8 b.toNat
/-- v is a slice of bytes of the call's own that holds l. -/
def OwnB (N : Nat) (w : World) (v : Value) (l : List UInt8) : Prop := w.ownsRow N 5 1 v l.length (l.map bc)
theorem info_u8 : (Try.prog.info? 5).map (fun i => (i.zero, i.size, i.bytes)) = some (some (.int .u8 0), 1, 1) := by kernel_rfl
theorem OwnB.alloc {N : Nat} {w : World} {v : Value} {l : List UInt8} (h : OwnB N w v l) (o : Obj) : OwnB N (w.alloc o) v l := World.ownsRow.alloc h o
theorem OwnB.below {N : Nat} {w0 w w' : World} {v : Value} {l : List UInt8} (h : OwnB N w v l) (hg : w.grownBy w' v.ownBlock) (hb : Below N w0 w) (hN : N ≤ w.heap.size) : Below N w0 w' :=
  hb.grown hg hN fun k hk => (h.lt k hk).1
theorem OwnB.keep {N M : Nat} {w w' : World} {v : Value} {l : List UInt8} (h : OwnB N w v l) (hb : Below M w w') (hM : w.heap.size ≤ M := by exact Nat.le_refl _) : OwnB N w' v l := by
  refine ⟨h.1, ?_⟩
  rcases h.2 with hn | ⟨g, cap, cur, hv, hg, hh, rest⟩
  · exact .inl hn
  · refine .inr ⟨g, cap, cur, hv, hg, ?_, rest⟩
    have hlt : g < w.heap.size := (Array.getElem?_eq_some_iff.1 hh).1
    rw [hb.block g (by omega)]
    exact hh
theorem OwnB.made (w : World) : OwnB w.heap.size (w.alloc (.cells #[] 5)) (.slice (some ⟨w.heap.size, 0, none⟩) 0 0) [] :=
  World.ownsRow_made w #[] 0 (Nat.le_refl _) (Nat.zero_le _) rfl
theorem OwnB.string {N : Nat} {w : World} {v : Value} {l : List UInt8} (h : OwnB N w v l) : (convert 55 9 v).run Try.prog w = .ok (.string (B l)) w := by
  rcases h.2 with ⟨hv, hl⟩ | ⟨g, cap, cur, hv, hb, hgg, rest⟩
  · have : l = [] := List.eq_nil_of_length_eq_zero hl
    subst this hv
    rw [run_convert_bytes_string w _ _ _ none 0 0 Try.underlying55 Try.underlying5 Try.underlying9]
    rfl
  · subst hv
    exact run_convert_bytes_back w _ _ _ ⟨g, 0, none⟩ cap l Try.underlying55 Try.underlying5 Try.underlying9 fun j hj => World.ownsRow.cells h rfl j _ (by simp [bc, hj])
theorem OwnB.appended {N : Nat} {w : World} {v : Value} {l m : List UInt8} {n : Nat} (h : w.ownsRow N 5 1 v n (l.map bc ++ m.map bc)) (hn : n = l.length + m.length) : OwnB N w v (l ++ m) := by
  unfold OwnB
  rw [List.map_append, List.length_append, ← hn]
  exact h
/-- append of one byte, in a block of its own. -/
theorem app_byte {ops : Array Oper} {rest : List Oper} {o : Oper} {a : Act} {Q : Exit → Act → World → Prop} (w : World) (hgd : o.guard = none) (s x : Operand)
    (ho : o.op = .call { callee := .builtin .append, args := #[s, x], argTypes := #[55, 55] })
    (N : Nat) (v : Value) (l : List UInt8) (y : UInt8) (hs : a.eval s = v) (hown : OwnB N w v l) (hx : a.eval x = .slice (some ⟨w.heap.size, 0, none⟩) 1 1)
    (hl : l.length + 1 ≤ 140737488355328) (hN : N ≤ w.heap.size)
    (h : ∀ v' w', OwnB N w' v' (l ++ [y]) → (∀ w0, Below N w0 w → Below N w0 w') → wpList Try.prog ops Q rest (a.put o.dst v') w') :
    wpList Try.prog ops Q (o :: rest) a (w.alloc (.cells #[.int .u8 y.toNat] 5)) := by
  obtain ⟨i0, hi, hz0, hz1, hz2⟩ := info_parts info_u8
  have hown' : OwnB N (w.alloc (.cells #[.int .u8 y.toNat] 5)) v l := hown.alloc _
  have hsz : (w.alloc (.cells #[.int .u8 y.toNat] 5)).heap.size = w.heap.size + 1 := by simp
  refine wpList_append_own _ hgd s x 55 ho N 5 i0 (.int .u8 0) 1 1 Try.underlying55 hi hz0 hz1 hz2 rfl (by decide) v l.length (l.map bc) hs hown' ⟨w.heap.size, 0, none⟩ 1 1 [.int .u8 y.toNat] hx rfl (cell_one_new _ _ _) (by intro u hu; simp at hu; subst hu; rfl) (by unfold maxLen; omega) (by omega) (by omega) ?_
  intro v' w' ho2 hg2 _
  exact h v' w' (OwnB.appended (m := [y]) ho2 rfl) fun w0 hb => hown'.below hg2 (hb.alloc hN _) (by omega)

theorem OwnB.nil (N : Nat) (w : World) : OwnB N w (.slice none 0 0) [] := World.ownsRow_nil w N _ 1

end Go.Proofs.Ytkogkildipmnpaa.Ba

namespace Go.Proofs.Ytkogkildipmnpaa.Ro
set_option linter.unusedVariables false
set_option linter.unusedSimpArgs false
open Go.RowKit Ba
end Go.Proofs.Ytkogkildipmnpaa.Ro

namespace Go.Proofs.Ytkogkildipmnpaa.Ro
set_option linter.unusedVariables false
set_option linter.unusedSimpArgs false
open Go.RowKit Ba
end Go.Proofs.Ytkogkildipmnpaa.Ro

namespace Go.Proofs.Ytkogkildipmnpaa.Ro
set_option linter.unusedVariables false
set_option linter.unusedSimpArgs false
open Go.RowKit Ba
def sets (xs : List Value) : Nat → List Value → List Value
  | _, [] => xs
  | o, v :: r => sets (xs.set o v) (o + 1) r
end Go.Proofs.Ytkogkildipmnpaa.Ro

namespace Go.Proofs.Ytkogkildipmnpaa.Ro
set_option linter.unusedVariables false
set_option linter.unusedSimpArgs false
open Go.RowKit Ba
end Go.Proofs.Ytkogkildipmnpaa.Ro

namespace Go.Proofs.Ytkogkildipmnpaa.Ro
set_option linter.unusedVariables false
set_option linter.unusedSimpArgs false
open Go.RowKit Ba
end Go.Proofs.Ytkogkildipmnpaa.Ro

namespace Go.Proofs.Ytkogkildipmnpaa.Ro
set_option linter.unusedVariables false
set_option linter.unusedSimpArgs false
open Go.RowKit Ba
end Go.Proofs.Ytkogkildipmnpaa.Ro

namespace Go.Proofs.Ytkogkildipmnpaa.Ro
set_option linter.unusedVariables false
set_option linter.unusedSimpArgs false
open Go.RowKit Ba Go.Shelf
attribute [local go_sem] Oper.semAt_some

theorem box_own {W W' : World} {B n : Nat} {t : TypeId} {v : Value} {row : Option Nat} (h : Boxed W B t v) (hg : W.grownBy W' row) (hr : ∀ r, row = some r → n ≤ r ∧ ∃ o : Obj, W.heap[r]? = some o ∧ o.isCells = false) : Boxed W' B t v :=
  h.kept hg fun e => by
    obtain ⟨_, o, ho, hc⟩ := hr B e.symm
    rw [show W.heap[B]? = _ from h] at ho
    cases ho
    cases hc

/-- Where the kid of that number stands, or the next one behind all kids would. -/
def placeAt (l : List Ro) (i at_ : Int) : Int × Bool :=
  if 0 ≤ at_ ∧ at_ < (kids l i).length then (((kids l i)[at_.toNat]?.getD 0 : Nat), true) else (endOf l i, decide (((kids l i).length : Int) = at_))

/-- What the rounds leave: the boxes of the number that is sought, the results, and the count. -/
def Pl (w : World) (at_ : Int) (pre : List Nat) (W : World) : Prop :=
  Boxed W (w.heap.size) 3 (.int .i64 at_) ∧ Boxed W (w.heap.size + 1) 3 (.int .i64 0) ∧ Boxed W (w.heap.size + 1 + 1) 4 (.bool false) ∧ Boxed W (w.heap.size + 1 + 1 + 1) 3 (.int .i64 (pre.length : Nat)) ∧ Below w.heap.size w W ∧ w.heap.size + 1 + 1 + 1 + 1 + 1 + 1 ≤ W.heap.size ∧ ¬ (0 ≤ at_ ∧ at_ < pre.length)
def Px (w : World) (at_ : Int) (c : Code) (pre : List Nat) (W : World) : Prop :=
  c = .ret ∧ ∃ q x, pre = q ++ [x] ∧ at_ = (q.length : Nat) ∧ Boxed W (w.heap.size + 1) 3 (.int .i64 (x : Nat)) ∧ Boxed W (w.heap.size + 1 + 1) 4 (.bool true) ∧ Below w.heap.size w W
theorem Pl.own (w : World) (at_ : Int) (n : Nat) (hn : w.heap.size ≤ n) : OwnFrom n (Pl w at_) := fun s W W' row hs hg hr =>
  ⟨box_own hs.1 hg hr, box_own hs.2.1 hg hr, box_own hs.2.2.1 hg hr, box_own hs.2.2.2.1 hg hr, hs.2.2.2.2.1.grown hg hs.2.2.2.2.1.size (fun k hk => Nat.le_trans hn (hr k hk).1), Nat.le_trans hs.2.2.2.2.2.1 hg.size, hs.2.2.2.2.2.2⟩
theorem Px.own (w : World) (at_ : Int) (c : Code) (n : Nat) (hn : w.heap.size ≤ n) : OwnFrom n (Px w at_ c) := fun s W W' row hs hg hr => by
  obtain ⟨hc, q, x, e1, e2, h1, h2, h3⟩ := hs
  exact ⟨hc, q, x, e1, e2, box_own h1 hg hr, box_own h2 hg hr, h3.grown hg h3.size (fun k hk => Nat.le_trans hn (hr k hk).1)⟩
end Go.Proofs.Ytkogkildipmnpaa.Ro

namespace Go.Proofs.Ytkogkildipmnpaa.Ro
set_option linter.unusedVariables false
set_option linter.unusedSimpArgs false
open Go.RowKit Ba
theorem Rn.at_ {w : World} {N : Nat} {A : Option Addr} {l : List Nat} (h : Rn w N A l) (k : Nat) (hk : k < l.length) :
    ∃ b off x, A = some ⟨b, off, none⟩ ∧ b < N ∧ l.drop k = x :: l.drop (k + 1) ∧ w.cell? ⟨b, off + k, none⟩ = some (.int .i64 (x : Nat)) := by
  obtain ⟨b, off, e, hb, hc⟩ := h (by omega)
  exact ⟨b, off, l[k], e, hb, List.drop_eq_getElem_cons hk, hc k hk⟩

end Go.Proofs.Ytkogkildipmnpaa.Ro

namespace Go.Proofs.Ytkogkildipmnpaa.Ro
set_option maxRecDepth 100000
set_option linter.unusedVariables false
set_option linter.unusedSimpArgs false
open Go.RowKit Ba
/-- Is it what has the roots, or an element? -/
def elemAt (l : List Ro) (p : Int) : Bool := decide (p = -1) || (decide (0 ≤ p ∧ p < l.length) && decide (((l[p.toNat]?).map (·.kind)).getD 1 = 0))
def put (l : List Ro) (p at_ : Int) (sub : List Ro) : Int × List Ro :=
  if elemAt l p = false then (41, [])
  else if (placeAt l p at_).2 = false then (1, [])
  else if right sub = false then (40, [])
  else if exceeds sub (4096 - l.length) (60 - (dep l p + 1)) = true then (2, [])
  else (0, l.take (placeAt l p at_).1.toNat ++ deeper (dep l p + 1) sub ++ l.drop (placeAt l p at_).1.toNat)

theorem Rr.take {w : World} {N : Nat} {A : Option Addr} {l : List Cw} (h : Rr w N A l) (k : Nat) : Rr w N A (l.take k) := by
  refine ⟨fun h0 => ?_, fun x hx => h.2 x (List.mem_of_mem_take hx)⟩
  rw [List.length_take] at h0
  obtain ⟨b, off, e, hb, hcc⟩ := h.1 (by omega)
  refine ⟨b, off, e, hb, fun j hj => ?_⟩
  rw [List.length_take] at hj
  rw [List.getElem_take]
  exact hcc j (by omega)
theorem Rr.rest {w : World} {N : Nat} {A : Option Addr} {l : List Cw} (h : Rr w N A l) (k cap : Nat) (hk : k ≤ l.length) (hc : l.length ≤ cap) : Rr w N (if cap = k then A else A.map (·.add (k * 5))) (l.drop k) := by
  have := h.part k l.length cap hk (Nat.le_refl _) hc
  rwa [List.take_length] at this
end Go.Proofs.Ytkogkildipmnpaa.Ro

namespace Go.Proofs.Ytkogkildipmnpaa.Ro
set_option linter.unusedVariables false
set_option linter.unusedSimpArgs false
open Go.RowKit Ba
theorem Deep.held {l : List Ro} (h : Deep l) : Held l := fun x hx => by have := h x hx; omega

end Go.Proofs.Ytkogkildipmnpaa.Ro

namespace Go.Proofs.Ytkogkildipmnpaa.Ro
set_option linter.unusedVariables false
set_option linter.unusedSimpArgs false
open Go.RowKit Ba
/-- A value reads as rows. -/
def Rv (w : World) (v : Value) (l : List Cw) : Prop := ∃ A c, v = .slice A l.length c ∧ l.length ≤ c ∧ c ≤ maxLen ∧ Rr w w.heap.size A l ∧ Held (ros l)
theorem Rv.below {w w' : World} {v : Value} {l : List Cw} (h : Rv w v l) (hb : Below w.heap.size w w') : Rv w' v l := by
  obtain ⟨A, c, e, h1, h2, h3, h4⟩ := h
  exact ⟨A, c, e, h1, h2, (h3.below hb).more hb.size, h4⟩
theorem Ow.rv {N : Nat} {w : World} {v : Value} {l : List Cw} (h : Ow N w v l) (hh : Held (ros l)) : Rv w v l := by
  obtain ⟨A, c, e, h1, h2, _, h3⟩ := h.form
  exact ⟨A, c, e, h1, h2, h3, hh⟩
/-- A row that has no attributes. -/
def bare (r : Ro) : Cw := ⟨r, none, 0⟩
theorem bare_att (w : World) (N : Nat) {r : Ro} (h : r.attrs = []) : Att w N (bare r) := by
  refine ⟨?_, fun _ => rfl, Nat.zero_le _, ?_, ?_⟩
  · show r.attrs.length ≤ 0
    rw [h]; exact Nat.le_refl _
  · show Ra w N none r.attrs
    rw [h]; exact fun h => absurd h (by simp)
  · show Sh r.attrs
    rw [h]; exact fun _ hx => by simp at hx
theorem bare_ap (w : World) (N : Nat) {r : Ro} (h : r.attrs = []) : Ap w N (bare r) := fun h0 => by
  have h0 : 0 < r.attrs.length := h0
  rw [h] at h0
  exact absurd h0 (by simp)
/-- Rows without attributes, freshly written down. -/
theorem rows_new (w : World) (l : List Cw) (cs : Array Value) (n : Nat) (hn : l.length = n) (hm : n ≤ maxLen) (hcs : cs.toList = l.flatMap cells) (hl : ∀ x ∈ l, ∃ r : Ro, x = bare r ∧ r.attrs = []) :
    Ow w.heap.size (w.alloc (.cells cs 37)) (.slice (some ⟨w.heap.size, 0, none⟩) n n) l := by
  have hfl : (l.flatMap cells).length = n * 5 := by
    rw [← hn]
    clear hcs hl hn
    induction l with
    | nil => rfl
    | cons x r ih => rw [List.flatMap_cons, List.length_append, ih, List.length_cons]; simp [cells]; omega
  have hsz : cs.size = n * 5 := by rw [← Array.length_toList, hcs, hfl]
  refine ⟨⟨by rw [hn, hfl], .inr ⟨w.heap.size, n, cs, by rw [hn], Nat.le_refl _, heap_alloc_new w _, by rw [hn]; exact Nat.le_refl _, hm, hsz, ?_⟩⟩, fun x hx => ?_⟩
  · rw [hn, hcs, ← hfl, List.take_length]
  · obtain ⟨r, rfl, h⟩ := hl x hx
    exact ⟨bare_att _ _ h, bare_ap _ _ h⟩

end Go.Proofs.Ytkogkildipmnpaa.Ro

namespace Go.Proofs.Ytkogkildipmnpaa.Ro
set_option linter.unusedVariables false
set_option linter.unusedSimpArgs false
open Go.RowKit Ba
def sc : ByteArray := { data := #[99] }
end Go.Proofs.Ytkogkildipmnpaa.Ro

namespace Go.Proofs.Ytkogkildipmnpaa.Ro
set_option linter.unusedVariables false
set_option linter.unusedSimpArgs false
open Go.RowKit Ba
end Go.Proofs.Ytkogkildipmnpaa.Ro

namespace Go.Proofs.Ytkogkildipmnpaa.Ro
set_option linter.unusedVariables false
set_option linter.unusedSimpArgs false
open Go.RowKit Ba
theorem takes (p : Ro → Bool) : ∀ (l : List Ro), ∀ x ∈ l.take (l.takeWhile p).length, p x = true
  | [], x, h => by simp at h
  | y :: r, x, h => by
    by_cases hp : p y = true
    · rw [List.takeWhile_cons_of_pos hp, List.length_cons, List.take_succ_cons] at h
      rcases List.mem_cons.1 h with rfl | h
      · exact hp
      · exact takes p r x h
    · rw [List.takeWhile_cons_of_neg hp] at h
      simp at h
end Go.Proofs.Ytkogkildipmnpaa.Ro

namespace Go.Proofs.Ytkogkildipmnpaa.Ro
set_option maxRecDepth 100000
set_option linter.unusedVariables false
set_option linter.unusedSimpArgs false
open Go.RowKit Ba Go.ChangeShapes Go.WideShapes Go.Deep
section
variable {H : Type} {enc : TypeId × Value → H} {P : Program} {w : World} {base : Nat} {spare : Nat → Bool} {held : Bool}
/-- A slice of structs of one-cell fields: its parts. -/
theorem open_rows_of {t e : TypeId} {fs : Array Field} {fuel : Nat} {cs : List Value} {x : DataW H × List MemPlace} (ht : P.underlying t = some (.slice e)) (he : P.underlying e = some (.struct fs))
    (hone : oneCellFields P fs = true) (hC : P.cellsOf e = fs.size) (h : DataW.trod enc P w base spare held fuel t cs = some x) :
    cs = [.slice none 0 0] ∨
    ∃ (a : Addr) (len cap m : Nat) (Pl : Nat → List MemPlace), cs = [.slice (some a) len cap] ∧ len ≤ cap ∧ cap ≤ maxLen ∧ m = (if spare a.block then cap else len) ∧
      x.2 = MemPlace.row a (m * fs.size) ++ (List.range m).flatMap Pl ∧
      ∀ i, i < m → ∀ (j : Nat) (f : Field), fs[j]? = some f → ∃ (v : Value) (y : DataW H × List MemPlace) (n : Nat), w.cell? (a.add (i * fs.size + j)) = some v ∧ (∀ z ∈ y.2, z ∈ Pl i) ∧ DataW.trod enc P w base spare held n f.type [v] = some y := by
  rcases open_slice ht h with ⟨h0, _⟩ | ⟨a, len, cap, m, n, D, Pl, hcs, hb, hl, hm, hmm, hx, hi⟩
  · exact .inl h0
  · refine .inr ⟨a, len, cap, m, Pl, hcs, hl, hm, hmm, by rw [hx, hC], fun i him j f hj => ?_⟩
    obtain ⟨cs', hc, ht'⟩ := hi i him
    rw [hC] at hc
    obtain ⟨ys, n', hn', hy, hlen, hyl, hf⟩ := DataW.trod_struct he ht'
    obtain ⟨_, hcl, hat⟩ := World.cells?_some hc
    simp only [Prod.mk.injEq] at hy
    obtain ⟨ho, hk⟩ := hone_of hone j f hj
    have hjl : j < fs.size := (Array.getElem?_eq_some_iff.1 hj).1
    have hcell := hat j hjl
    have hv : cs'[j]? = some (cs'[j]'(by omega)) := List.getElem?_eq_getElem (by omega)
    have h1 := hf j f hj
    rw [ho, hk] at h1
    have hone' : (cs'.drop j).take 1 = [cs'[j]'(by omega)] := by
      rw [List.drop_eq_getElem_cons (by omega)]
      rfl
    rw [hone'] at h1
    have hys : ys[j]? = some (ys[j]'(by omega)) := List.getElem?_eq_getElem (by omega)
    refine ⟨_, _, n', ?_, fun z hz => ?_, h1.trans hys⟩
    · rw [← Go.Deep.add_add, hcell, hv]
    · rw [hy.2]
      exact List.mem_flatMap.2 ⟨_, List.getElem_mem _, hz⟩
end

theorem list_of {α : Type} (Q : Nat → α → Prop) : ∀ n : Nat, (∀ i < n, ∃ x, Q i x) → ∃ l : List α, l.length = n ∧ ∀ i (h : i < l.length), Q i l[i]
  | 0, _ => ⟨[], rfl, fun i h => absurd h (by simp)⟩
  | n + 1, h => by
    obtain ⟨l, hl, hq⟩ := list_of Q n fun i hi => h i (by omega)
    obtain ⟨x, hx⟩ := h n (by omega)
    refine ⟨l ++ [x], by rw [List.length_append, hl]; rfl, fun i hi => ?_⟩
    rw [List.length_append, List.length_singleton] at hi
    by_cases e : i < l.length
    · rw [List.getElem_append_left e]
      exact hq i e
    · have : i = l.length := by omega
      subst this
      rw [List.getElem_append_right (Nat.le_refl _)]
      simp only [Nat.sub_self, List.getElem_cons_zero]
      rw [hl]; exact hx

section
variable {H : Type} {enc : TypeId × Value → H} {w : World} {base : Nat}
theorem open_attrs {fuel : Nat} {v : Value} {x : DataW H × List MemPlace} (h : DataW.trod enc Try.prog w base (fun _ => true) true fuel 35 [v] = some x) (N : Nat) (hlt : ∀ z ∈ x.2, z.block < N) :
    ∃ A c l, v = .slice A l.length c ∧ l.length ≤ c ∧ (A = none → c = 0) ∧ c ≤ maxLen ∧ Ra w N A l ∧ Sh l := by
  rcases open_rows_of Try.underlying35 Try.underlying30 (by kernel_rfl) (by kernel_rfl) h with hcs | ⟨a, len, cap, m, Pl, hcs, hl, hm, hmm, hx, hi⟩
  · obtain rfl : v = .slice none 0 0 := by simpa using hcs
    exact ⟨none, 0, [], rfl, Nat.le_refl _, fun _ => rfl, Nat.zero_le _, fun h => absurd h (by simp), fun _ h => by simp at h⟩
  · obtain rfl : v = .slice (some a) len cap := by simpa using hcs
    simp only [if_true] at hmm
    subst hmm
    obtain ⟨b, off, spot⟩ := a
    have hrow : ∀ i < len, ∃ t : At, w.cell? ((⟨b, off, spot⟩ : Addr).add (i * 2)) = some (.string t.name) ∧ w.cell? ((⟨b, off, spot⟩ : Addr).add (i * 2 + 1)) = some (.string t.value) ∧ t.name.size ≤ maxLen := fun i hil => by
      obtain ⟨v0, y0, n0, hc0, _, ht0⟩ := hi i (by omega) 0 _ rfl
      obtain ⟨v1, y1, n1, hc1, _, ht1⟩ := hi i (by omega) 1 _ rfl
      obtain ⟨s0, e0, _, hs0⟩ := DataW.trod_string Try.underlying9 ht0
      obtain ⟨s1, e1, _, _⟩ := DataW.trod_string Try.underlying9 ht1
      obtain rfl : v0 = .string s0 := by simpa using e0
      obtain rfl : v1 = .string s1 := by simpa using e1
      exact ⟨⟨s0, s1⟩, hc0, hc1, hs0⟩
    obtain ⟨l, hll, hq⟩ := list_of _ len hrow
    refine ⟨some ⟨b, off, spot⟩, m, l, by rw [hll], by omega, (fun e => by cases e), hm, fun h0 => ?_, fun t ht => ?_⟩
    · have hspot : spot = none := by
        have := World.cell?_spot (hq 0 h0).1
        simpa [Addr.add] using this
      subst hspot
      refine ⟨b, off, rfl, hlt (.cell b off) (by rw [hx]; exact List.mem_append_left _ (MemPlace.mem_row.2 ⟨0, by show 0 < m * 2; omega, by simp⟩)), fun j hj => ?_⟩
      obtain ⟨h1, h2, _⟩ := hq j hj
      rw [add_plain] at h1 h2
      intro k u hu
      match k, hu with
      | 0, hu => exact h1.trans hu
      | 1, hu => exact (show w.cell? ⟨b, off + j * 2 + 1, none⟩ = _ from h2).trans hu
      | k + 2, hu => exact absurd hu (by simp [acells])
    · obtain ⟨j, hj, rfl⟩ := List.getElem_of_mem ht
      exact (hq j hj).2.2
theorem int_range {n : Int} (h : (Lit.int .i64 n).wf = true) : -9223372036854775808 ≤ n ∧ n ≤ 9223372036854775807 := by
  have h1 : IntKind.i64.min = -9223372036854775808 := by decide
  have h2 : IntKind.i64.max = 9223372036854775807 := by decide
  simp [Lit.wf, h1, h2] at h
  omega
end

section
variable {H : Type} {enc : TypeId × Value → H} {P : Program} {w : World} {base : Nat} {spare : Nat → Bool} {held : Bool}
theorem open_rows_parts {t e : TypeId} {fs : Array Field} {fuel : Nat} {cs : List Value} {x : DataW H × List MemPlace} (ht : P.underlying t = some (.slice e)) (he : P.underlying e = some (.struct fs))
    (hone : oneCellFields P fs = true) (hC : P.cellsOf e = fs.size) (h : DataW.trod enc P w base spare held fuel t cs = some x) :
    cs = [.slice none 0 0] ∨
    ∃ (a : Addr) (len cap : Nat) (D : Nat → DataW H) (sp : List (DataW H)), cs = [.slice (some a) len cap] ∧ x.1 = .slice ((List.range len).map D) sp ∧
      ∀ i, i < len → ∀ (j : Nat) (f : Field), fs[j]? = some f → ∃ (v : Value) (y : DataW H × List MemPlace) (n : Nat) (parts : List (DataW H)), w.cell? (a.add (i * fs.size + j)) = some v ∧ D i = .agg parts ∧ parts[j]? = some y.1 ∧ DataW.trod enc P w base spare held n f.type [v] = some y := by
  rcases open_slice ht h with ⟨h0, _⟩ | ⟨a, len, cap, m, n, D, Pl, hcs, hb, hl, hm, hmm, hx, hi⟩
  · exact .inl h0
  · refine .inr ⟨a, len, cap, D, _, hcs, by rw [hx], fun i hil j f hj => ?_⟩
    have him : i < m := by rw [hmm]; split <;> omega
    obtain ⟨cs', hc, ht'⟩ := hi i him
    rw [hC] at hc
    obtain ⟨ys, n', hn', hy, hlen, hyl, hf⟩ := DataW.trod_struct he ht'
    obtain ⟨_, hcl, hat⟩ := World.cells?_some hc
    simp only [Prod.mk.injEq] at hy
    obtain ⟨ho, hk⟩ := hone_of hone j f hj
    have hjl : j < fs.size := (Array.getElem?_eq_some_iff.1 hj).1
    have hcell := hat j hjl
    have hv : cs'[j]? = some (cs'[j]'(by omega)) := List.getElem?_eq_getElem (by omega)
    have h1 := hf j f hj
    rw [ho, hk] at h1
    have hone' : (cs'.drop j).take 1 = [cs'[j]'(by omega)] := by
      rw [List.drop_eq_getElem_cons (by omega)]
      rfl
    rw [hone'] at h1
    have hys : ys[j]? = some (ys[j]'(by omega)) := List.getElem?_eq_getElem (by omega)
    refine ⟨_, _, n', _, ?_, hy.1, by rw [List.getElem?_map, hys]; rfl, h1.trans hys⟩
    rw [← Go.Deep.add_add, hcell, hv]
end

section
variable {H : Type} {enc : TypeId × Value → H} {P : Program} {w : World} {base : Nat} {spare : Nat → Bool} {held : Bool}
/-- A struct of one-cell fields: its parts. -/
theorem open_agg_any {r : Reach} {b0 : Nat} {t : TypeId} {fs : Array Field} {v : Value} {d : DataW H} {p : List MemPlace} (hs : P.underlying t = some (.struct fs)) (hone : oneCellFields P fs = true) (hC : P.cellsOf t = fs.size)
    (hv : Value.okWide P w r b0 t v) (h : DataW.Trod enc P w base spare held t v d p) :
    ∃ (cs : Array Value) (ys : List (DataW H × List MemPlace)) (n : Nat), v = .agg cs ∧ cs.size = fs.size ∧ d = .agg (ys.map (·.1)) ∧ p = ys.flatMap (·.2) ∧
      ∀ (j : Nat) (f : Field), fs[j]? = some f → ∃ (u : Value) (y : DataW H × List MemPlace), cs[j]? = some u ∧ ys[j]? = some y ∧ DataW.trod enc P w base spare held n f.type [u] = some y := by
  obtain ⟨cs, rfl, hsz⟩ := okWide_struct hs hv
  obtain ⟨fuel, hf⟩ := h
  obtain ⟨ys, n', hn', hy, hlen, hyl, hat⟩ := DataW.trod_struct hs hf
  simp only [Prod.mk.injEq] at hy
  refine ⟨cs, ys, n', rfl, hsz.trans hC, hy.1, hy.2, fun j f hj => ?_⟩
  obtain ⟨ho, hk⟩ := hone_of hone j f hj
  have hjl : j < fs.size := (Array.getElem?_eq_some_iff.1 hj).1
  have hjc : j < cs.size := by rw [hsz, hC]; exact hjl
  have h1 := hat j f hj
  rw [ho, hk] at h1
  have hcl : ((Value.agg cs).cells.toList) = cs.toList := rfl
  have hone' : (((Value.agg cs).cells.toList).drop j).take 1 = [cs[j]] := by
    rw [hcl, List.drop_eq_getElem_cons (by rw [Array.length_toList]; exact hjc)]
    simp
  rw [hone'] at h1
  have hys : ys[j]? = some (ys[j]'(by omega)) := List.getElem?_eq_getElem (by omega)
  exact ⟨cs[j], _, Array.getElem?_eq_getElem hjc, hys, h1.trans hys⟩
end

section
variable {H : Type} {enc : TypeId × Value → H} {w : World}
end

end Go.Proofs.Ytkogkildipmnpaa.Ro

namespace Go.Proofs.Ytkogkildipmnpaa.Ro
set_option maxRecDepth 100000
set_option linter.unusedVariables false
set_option linter.unusedSimpArgs false
open Go.RowKit Ba Go.ChangeShapes Go.WideShapes Go.Deep
section
variable {H : Type} {enc : TypeId × Value → H} {w : World} {base : Nat}
/-- An argument []api.Row, as the statement's row reads it. -/
theorem open_ros {v : Value} {d : DataW H} {p : List MemPlace} (hv : Value.okWide Try.prog w .any base 32 v)
    (h : ∃ fuel, DataW.trod enc Try.prog w 0 (fun _ => true) true fuel 32 v.cells.toList = some (d, p)) (hlt : ∀ z ∈ p, z.block < w.heap.size) :
    ∃ A c l, v = .slice A l.length c ∧ l.length ≤ c ∧ c ≤ maxLen ∧ Rr w w.heap.size A l ∧ Held (ros l) := by
  obtain ⟨a0, len, cap, rfl⟩ := okWide_slice Try.underlying32 hv
  obtain ⟨fuel, hf⟩ := h
  rcases open_rows_of Try.underlying32 Try.underlying37 (by kernel_rfl) (by kernel_rfl) hf with hcs | ⟨a, len', cap', m, Pl, hcs, hl, hm, hmm, hx, hi⟩
  · simp [Value.cells] at hcs
    obtain ⟨rfl, rfl, rfl⟩ := hcs
    exact ⟨none, 0, [], rfl, Nat.le_refl _, Nat.zero_le _, Rr.nil _ _ _, fun _ h => by simp [ros] at h⟩
  · simp [Value.cells] at hcs
    obtain ⟨rfl, rfl, rfl⟩ := hcs
    simp only [if_true] at hmm
    subst hmm
    obtain ⟨b, off, spot⟩ := a
    have hx : p = _ := hx
    have hrow : ∀ i < len, ∃ r : Cw, (∀ (j : Nat) (u : Value), (cells r)[j]? = some u → w.cell? ((⟨b, off, spot⟩ : Addr).add (i * 5 + j)) = some u) ∧ Att w w.heap.size r ∧ (-9223372036854775808 ≤ r.ro.depth ∧ r.ro.depth ≤ 9223372036854775807) := fun i hil => by
      obtain ⟨v0, y0, n0, hc0, _, ht0⟩ := hi i (by omega) 0 _ rfl
      obtain ⟨v1, y1, n1, hc1, _, ht1⟩ := hi i (by omega) 1 _ rfl
      obtain ⟨v2, y2, n2, hc2, _, ht2⟩ := hi i (by omega) 2 _ rfl
      obtain ⟨v3, y3, n3, hc3, _, ht3⟩ := hi i (by omega) 3 _ rfl
      obtain ⟨v4, y4, n4, hc4, hp4, ht4⟩ := hi i (by omega) 4 _ rfl
      obtain ⟨s0, e0, _, hs0⟩ := DataW.trod_int Try.underlying3 ht0
      obtain ⟨s1, e1, _, _⟩ := DataW.trod_int Try.underlying3 ht1
      obtain ⟨s2, e2, _, _⟩ := DataW.trod_string Try.underlying9 ht2
      obtain ⟨s3, e3, _, _⟩ := DataW.trod_string Try.underlying9 ht3
      obtain rfl : v0 = .int .i64 s0 := by simpa using e0
      obtain rfl : v1 = .int .i64 s1 := by simpa using e1
      obtain rfl : v2 = .string s2 := by simpa using e2
      obtain rfl : v3 = .string s3 := by simpa using e3
      obtain ⟨A, c, al, rfl, hac, hA, hcm, hra, hsh⟩ := open_attrs ht4 w.heap.size fun z hz => hlt z (by
        rw [hx]
        exact List.mem_append_right _ (List.mem_flatMap.2 ⟨i, List.mem_range.2 (by omega), hp4 z hz⟩))
      refine ⟨⟨⟨s0, s1, s2, s3, al⟩, A, c⟩, fun j u hu => ?_, ⟨hac, hA, hcm, hra, hsh⟩, int_range hs0⟩
      match j, hu with
      | 0, hu => exact hc0.trans hu
      | 1, hu => exact hc1.trans hu
      | 2, hu => exact hc2.trans hu
      | 3, hu => exact hc3.trans hu
      | 4, hu => exact hc4.trans hu
      | j + 5, hu => exact absurd hu (by simp [cells])
    obtain ⟨l, hll, hq⟩ := list_of _ len hrow
    refine ⟨some ⟨b, off, spot⟩, _, l, by rw [hll], by omega, hm, ⟨fun h0 => ?_, fun r hr => ?_⟩, fun r hr => ?_⟩
    · have hspot : spot = none := by
        have := World.cell?_spot ((hq 0 h0).1 0 _ rfl)
        simpa [Addr.add] using this
      subst hspot
      refine ⟨b, off, rfl, hlt (.cell b off) (by rw [hx]; exact List.mem_append_left _ (MemPlace.mem_row.2 ⟨0, by show 0 < _ * 5; omega, by simp⟩)), fun j hj k u hu => ?_⟩
      have := (hq j hj).1 k u hu
      rw [add_plain] at this
      rw [show off + j * 5 + k = off + (j * 5 + k) by omega]
      exact this
    · obtain ⟨j, hj, rfl⟩ := List.getElem_of_mem hr
      exact (hq j hj).2.1
    · obtain ⟨z, hz, rfl⟩ := List.mem_map.1 hr
      obtain ⟨j, hj, rfl⟩ := List.getElem_of_mem hz
      exact (hq j hj).2.2
theorem laidOut : laidOutB Try.prog = true := by kernel_rfl
theorem open_rv {v : Value} {d : DataW H} {p : List MemPlace} (hv : Value.okWide Try.prog w .any base 32 v)
    (h : ∃ fuel, DataW.trod enc Try.prog w 0 (fun _ => true) true fuel 32 v.cells.toList = some (d, p)) (hlt : ∀ z ∈ p, z.block < w.heap.size) : ∃ l, Rv w v l ∧ True := by
  obtain ⟨A, c, l, h⟩ := open_ros hv h hlt
  exact ⟨l, ⟨A, c, h⟩, trivial⟩
end

end Go.Proofs.Ytkogkildipmnpaa.Ro

namespace Go.Proofs.Ytkogkildipmnpaa.Rk
set_option maxRecDepth 100000
set_option linter.unusedVariables false
set_option linter.unusedSimpArgs false
open Go.RowKit Go.Maps Ba Fm Lk Ml
theorem lawPair : Keyed Try.prog 41 := Keyed.of_law (deep_law_gate Ro.laidOut (of_decide_eq_true (by kernel_rfl)) (of_decide_eq_true (by kernel_rfl)) (by kernel_rfl) (by kernel_rfl))
theorem key_pair {e a : ByteArray} (he : e.size ≤ maxLen) (ha : a.size ≤ maxLen) : ∃ x, keyOf Try.prog 41 (pairV e a) = some x := by
  have h1 : Try.prog.keyType 41 = true := by kernel_rfl
  have h2 : (pairV e a).formed Try.prog 41 = true := by kernel_rfl
  have h4 : ∃ n, Try.prog.types.size + 1 = n + 2 := ⟨_, rfl⟩
  obtain ⟨n, hn⟩ := h4
  have h3 : Try.prog.keyLits (Try.prog.types.size + 1) 41 (pairV e a).cells.toList = some [.string e.data.toList, .string a.data.toList] := by
    rw [hn]
    have e0 : (pairV e a).cells.toList = [.string e, .string a] := rfl
    have e1 : Try.prog.cellsOf 41 = 2 := by kernel_rfl
    have e2 : Try.prog.cellsOf 9 = 1 := by kernel_rfl
    rw [e0]
    simp [Program.keyLits, Try.underlying41, Try.underlying9, e1, e2, he, ha]
  unfold keyOf
  simp only [Try.underlying41, h1, h2, h3, Bool.and_self, if_true, Option.map_some]
  exact ⟨_, rfl⟩

theorem leads_small : ∀ p ∈ leadsL, p.1.size ≤ maxLen ∧ p.2.size ≤ maxLen := by
  have h : (leadsL.all fun p => decide (p.1.size ≤ 20) && decide (p.2.size ≤ 20)) = true := by decide +kernel
  intro p hp
  have := List.all_eq_true.1 h p hp
  rw [Bool.and_eq_true, decide_eq_true_iff, decide_eq_true_iff] at this
  unfold maxLen
  omega
def unitV : Value := .agg #[]
def navJobs (b : Nat) : List Job := .mk :: (leadsL.flatMap fun p => [.val (pairV p.1 p.2), .val unitV, .ins (pairV p.1 p.2) unitV]) ++ [.val (.map (some b)), .val (.map (some b))]
theorem ent_nav (b : Nat) : (navJobs b).filterMap ent = leadsL.map fun p => (p.1, p.2, unitV) := rfl

set_option maxRecDepth 100000 in
theorem nav_any (e a : ByteArray) (he : e.size ≤ maxLen) (ha : a.size ≤ maxLen) (w : World) :
    Calls Try.prog 12 #[.string e, .string a] w fun r w' => r = .returned (.bool (navB e a)) ∧ Below w.heap.size w w' := by
  go_enter Try.func12, Try.ntmps12
  go_wp2
  refine region_pairs (l := navJobs w.heap.size) (List.toArray (.string e :: .string a :: undef :: undef :: .bool false :: .map (some w.heap.size) :: undef :: undef :: .map (some w.heap.size) :: .agg #[.string ⟨#[97]⟩, .string ⟨#[104, 114, 101, 102]⟩] :: .agg #[] :: .agg #[.string ⟨#[97, 114, 101, 97]⟩, .string ⟨#[104, 114, 101, 102]⟩] :: .agg #[] :: .agg #[.string ⟨#[98, 117, 116, 116, 111, 110]⟩, .string ⟨#[102, 111, 114, 109, 97, 99, 116, 105, 111, 110]⟩] :: .agg #[] :: .agg #[.string ⟨#[101, 109, 98, 101, 100]⟩, .string ⟨#[115, 114, 99]⟩] :: .agg #[] :: .agg #[.string ⟨#[102, 111, 114, 109]⟩, .string ⟨#[97, 99, 116, 105, 111, 110]⟩] :: .agg #[] :: .agg #[.string ⟨#[102, 114, 97, 109, 101]⟩, .string ⟨#[115, 114, 99]⟩] :: .agg #[] :: .agg #[.string ⟨#[105, 102, 114, 97, 109, 101]⟩, .string ⟨#[115, 114, 99]⟩] :: .agg #[] :: .agg #[.string ⟨#[105, 110, 112, 117, 116]⟩, .string ⟨#[102, 111, 114, 109, 97, 99, 116, 105, 111, 110]⟩] :: .agg #[] :: .agg #[.string ⟨#[111, 98, 106, 101, 99, 116]⟩, .string ⟨#[100, 97, 116, 97]⟩] :: .agg #[] :: .map (some w.heap.size) :: undef :: undef :: undef :: undef :: undef :: undef :: undef :: undef :: undef :: [])) (by kernel_rfl) lawPair Try.underlying43 rfl (by kernel_rfl) ?_ ?_ (by kernel_rfl) ?_
  · refine ⟨rfl, fun a w _ => ?_, fun a w _ => ?_, does_ins 0 1 2 rfl rfl rfl (by simp) (by simp) (by simp) rfl rfl rfl rfl rfl rfl, fun a w _ => ?_, fun a w _ => ?_, does_ins 0 4 5 rfl rfl rfl (by simp) (by simp) (by simp) rfl rfl rfl rfl rfl rfl, fun a w _ => ?_, fun a w _ => ?_, does_ins 0 7 8 rfl rfl rfl (by simp) (by simp) (by simp) rfl rfl rfl rfl rfl rfl, fun a w _ => ?_, fun a w _ => ?_, does_ins 0 10 11 rfl rfl rfl (by simp) (by simp) (by simp) rfl rfl rfl rfl rfl rfl, fun a w _ => ?_, fun a w _ => ?_, does_ins 0 13 14 rfl rfl rfl (by simp) (by simp) (by simp) rfl rfl rfl rfl rfl rfl, fun a w _ => ?_, fun a w _ => ?_, does_ins 0 16 17 rfl rfl rfl (by simp) (by simp) (by simp) rfl rfl rfl rfl rfl rfl, fun a w _ => ?_, fun a w _ => ?_, does_ins 0 19 20 rfl rfl rfl (by simp) (by simp) (by simp) rfl rfl rfl rfl rfl rfl, fun a w _ => ?_, fun a w _ => ?_, does_ins 0 22 23 rfl rfl rfl (by simp) (by simp) (by simp) rfl rfl rfl rfl rfl rfl, fun a w _ => ?_, fun a w _ => ?_, does_ins 0 25 26 rfl rfl rfl (by simp) (by simp) (by simp) rfl rfl rfl rfl rfl rfl, does_move 0 (.inl rfl) (by simp) rfl rfl, does_move 28 (.inr rfl) (by simp) rfl rfl, trivial⟩
    all_goals (go_simp; try rfl)
  · intro e' a' v hm
    rw [ent_nav] at hm
    obtain ⟨p, hp, h⟩ := List.mem_map.1 hm
    injection h with h1 h2
    injection h2 with h2 _
    subst h1 h2
    have := leads_small p hp
    exact key_pair this.1 this.2
  · intro w1 hb1 hT
    rw [ent_nav] at hT
    obtain ⟨x, hx⟩ := key_pair he ha
    have hz : (zeroValue 42).run Try.prog w1 = .ok (.agg #[]) w1 := by kernel_rfl
    have hl : (Instr.lookup 43 (.map (some w.heap.size)) (.agg #[.string e, .string a]) true).run Try.prog w1 = .ok (.tuple #[.agg #[], .bool (navB e a)]) w1 := by
      rcases hT.look lawPair Try.underlying43 hz hx with ⟨h1, h2⟩ | ⟨v, ⟨e', a', h2, h3⟩, h1⟩
      · have : navB e a = false := by
          rw [← Bool.not_eq_true]
          intro h
          exact h2 unitV ⟨e, a, rfl, List.mem_map.2 ⟨_, pair_mem.1 h, rfl⟩⟩
        rw [this]
        exact h1
      · obtain ⟨rfl, rfl⟩ := pairV_inj h2
        obtain ⟨p, hp, h4⟩ := List.mem_map.1 h3
        injection h4 with h5 h6
        injection h6 with h6 h7
        have : navB e a = true := pair_mem.2 (by rw [← h5, ← h6]; exact hp)
        rw [this]
        rw [← h7] at h1
        exact h1
    clear hT hx hz
    go_wp2
    go_ret
    exact ⟨rfl, ((Below.refl _ _).drew.trans hb1).alloc hb1.size _⟩
end Go.Proofs.Ytkogkildipmnpaa.Rk

namespace Go.Proofs.Ytkogkildipmnpaa.Ba
set_option maxRecDepth 100000
set_option linter.unusedSimpArgs false
set_option linter.unusedVariables false
open Go.RowKit
/-- A slice at A reads as these strings, below block B. -/
def Rd (w : World) (N : Nat) (A : Option Addr) (l : List ByteArray) : Prop :=
  0 < l.length → ∃ b off, A = some ⟨b, off, none⟩ ∧ b < N ∧ ∀ j (h : j < l.length), w.cell? ⟨b, off + j, none⟩ = some (.string l[j])

theorem Rd.nil (w : World) (N : Nat) (A : Option Addr) : Rd w N A [] := fun h => absurd h (by simp)
theorem Rd.keep {w w' : World} {N : Nat} {A : Option Addr} {l : List ByteArray} (h : Rd w N A l) (hk : ∀ p : Addr, p.block < N → w'.cell? p = w.cell? p) : Rd w' N A l := fun h0 => by
  obtain ⟨b, off, e, hb, hc⟩ := h h0
  exact ⟨b, off, e, hb, fun j hj => (hk _ hb).trans (hc j hj)⟩
theorem Rd.more {w : World} {N N' : Nat} {A : Option Addr} {l : List ByteArray} (h : Rd w N A l) (hN : N ≤ N') : Rd w N' A l := fun h0 => by
  obtain ⟨b, off, e, hb, hc⟩ := h h0
  exact ⟨b, off, e, by omega, hc⟩
theorem Rd.below {w w' : World} {N M : Nat} {A : Option Addr} {l : List ByteArray} (h : Rd w N A l) (hb : Below M w w') (hN : N ≤ M) : Rd w' N A l := h.keep fun p hp => hb.cell (p := p) (by omega)
theorem Rd.alloc {w : World} {N : Nat} {A : Option Addr} {l : List ByteArray} (h : Rd w N A l) (hN : N ≤ w.heap.size) (o : Obj) : Rd (w.alloc o) N A l := h.keep fun p hp => World.cell?_alloc_lt w o p (by omega)
theorem Rd.take {w : World} {N : Nat} {A : Option Addr} {l : List ByteArray} (h : Rd w N A l) (m : Nat) : Rd w N A (l.take m) := fun h0 => by
  rw [List.length_take] at h0
  obtain ⟨b, off, e, hb, hc⟩ := h (by omega)
  refine ⟨b, off, e, hb, fun j hj => ?_⟩
  rw [List.length_take] at hj
  rw [List.getElem_take]
  exact hc j (by omega)
/-- Cut: what the model makes of s[m:]. -/
theorem Rd.drop {w : World} {N : Nat} {A : Option Addr} {l : List ByteArray} (h : Rd w N A l) (m cap : Nat) (hc : l.length ≤ cap) : Rd w N (if cap = m then A else A.map (·.add m)) (l.drop m) := fun h0 => by
  rw [List.length_drop] at h0
  obtain ⟨b, off, e, hb, hcc⟩ := h (by omega)
  rw [if_neg (by omega), e]
  refine ⟨b, off + m, by simp [WideShapes.add_plain], hb, fun j hj => ?_⟩
  rw [List.length_drop] at hj
  rw [List.getElem_drop, Nat.add_assoc]
  exact hcc (m + j) (by omega)

def sc (s : ByteArray) : Value := .string s
/-- v is a slice of strings of the call's own that holds l. -/
def Sown (N : Nat) (w : World) (v : Value) (l : List ByteArray) : Prop := w.ownsRow N 9 1 v l.length (l.map sc)

theorem Sown.nil (N : Nat) (w : World) : Sown N w (.slice none 0 0) [] := World.ownsRow_nil w N _ 1
theorem Sown.made (w : World) : Sown w.heap.size (w.alloc (.cells #[] 9)) (.slice (some ⟨w.heap.size, 0, none⟩) 0 0) [] :=
  World.ownsRow_made w #[] 0 (Nat.le_refl _) (Nat.zero_le _) rfl
theorem Sown.alloc {N : Nat} {w : World} {v : Value} {l : List ByteArray} (h : Sown N w v l) (o : Obj) : Sown N (w.alloc o) v l := World.ownsRow.alloc h o
theorem Sown.mono {N N' : Nat} {w : World} {v : Value} {l : List ByteArray} (h : Sown N w v l) (hN : N' ≤ N) : Sown N' w v l := World.ownsRow.mono h hN
theorem Sown.below {N M : Nat} {w w' : World} {v : Value} {l : List ByteArray} (h : Sown N w v l) (hb : Below M w w') (hM : w.heap.size ≤ M) : Sown N w' v l := by
  refine ⟨h.1, ?_⟩
  rcases h.2 with hn | ⟨g, cap, cur, hv, hg, hh, rest⟩
  · exact .inl hn
  · refine .inr ⟨g, cap, cur, hv, hg, ?_, rest⟩
    have hlt : g < w.heap.size := (Array.getElem?_eq_some_iff.1 hh).1
    rw [hb.block g (by omega)]
    exact hh
theorem Sown.kept {N : Nat} {w0 w w' : World} {v : Value} {l : List ByteArray} (h : Sown N w v l) (hg : w.grownBy w' v.ownBlock) (hb : Below N w0 w) (hN : N ≤ w.heap.size) : Below N w0 w' :=
  hb.grown hg hN fun k hk => (h.lt k hk).1
/-- Its form, and what it reads as. -/
theorem Sown.form {N : Nat} {w : World} {v : Value} {l : List ByteArray} (h : Sown N w v l) : ∃ A c, v = .slice A l.length c ∧ l.length ≤ c ∧ c ≤ maxLen ∧ Rd w w.heap.size A l := by
  rcases h.2 with ⟨hv, hl⟩ | ⟨g, cap, cur, hv, hg, hh, hn, hm, hs, ht⟩
  · have : l = [] := List.eq_nil_of_length_eq_zero hl
    subst this
    exact ⟨none, 0, hv, Nat.le_refl _, Nat.zero_le _, Rd.nil _ _ _⟩
  · refine ⟨some ⟨g, 0, none⟩, cap, hv, hn, hm, fun _ => ⟨g, 0, rfl, (Array.getElem?_eq_some_iff.1 hh).1, fun j hj => ?_⟩⟩
    subst hv
    have := World.ownsRow.cells h rfl j (sc l[j]) (by simp [hj])
    rw [WideShapes.add_plain] at this
    exact this
theorem Sown.appended {N : Nat} {w : World} {v : Value} {l m : List ByteArray} {n : Nat} (h : w.ownsRow N 9 1 v n (l.map sc ++ m.map sc)) (hn : n = l.length + m.length) : Sown N w v (l ++ m) := by
  unfold Sown
  rw [List.map_append, List.length_append, ← hn]
  exact h

end Go.Proofs.Ytkogkildipmnpaa.Ba

namespace Go.Proofs.Ytkogkildipmnpaa.Fo
set_option linter.unusedSimpArgs false
set_option linter.unusedVariables false
open Go.RowKit Ba Fm
/-- Less, byte by byte. -/
def lt (a b : ByteArray) : Bool := Op.bytesLess a.toList b.toList

/-- v reads as l, below block N. -/
def Sv (w : World) (N : Nat) (v : Value) (l : List ByteArray) : Prop := ∃ A c, v = .slice A l.length c ∧ l.length ≤ c ∧ (A = none → c = 0) ∧ Rd w N A l
theorem Sv.below {w w' : World} {N M : Nat} {v : Value} {l : List ByteArray} (h : Sv w N v l) (hb : Below M w w') (hN : N ≤ M) : Sv w' N v l := by
  obtain ⟨A, c, h1, h2, h3, h4⟩ := h
  exact ⟨A, c, h1, h2, h3, h4.below hb hN⟩
theorem Sv.more {w : World} {N M : Nat} {v : Value} {l : List ByteArray} (h : Sv w N v l) (hN : N ≤ M) : Sv w M v l := by
  obtain ⟨A, c, h1, h2, h3, h4⟩ := h
  exact ⟨A, c, h1, h2, h3, h4.more hN⟩

theorem sv_lit (w : World) (l : List ByteArray) : Sv (w.alloc (.cells (l.map sc).toArray 9)) (w.alloc (.cells (l.map sc).toArray 9)).heap.size (.slice (some ⟨w.heap.size, 0, none⟩) l.length l.length) l := by
  refine ⟨_, l.length, rfl, Nat.le_refl _, (fun e => by cases e), fun _ => ⟨w.heap.size, 0, rfl, by simp, fun j hj => ?_⟩⟩
  rw [Nat.zero_add, World.cell?_alloc_at _ _ _ _ rfl]
  simp [sc, hj]
theorem Sv.rd {w : World} {N n c : Nat} {A : Option Addr} {l : List ByteArray} (h : Sv w N (.slice A n c) l) : Rd w N A l := by
  obtain ⟨A', c', e, _, _, hr⟩ := h
  injection e with e
  rw [e]
  exact hr
theorem below_one (w : World) (o : Obj) : Below w.heap.size w (w.alloc o) := (Below.refl _ _).alloc (Nat.le_refl _) _

end Go.Proofs.Ytkogkildipmnpaa.Fo

namespace Go.Proofs.Ytkogkildipmnpaa.Fo
set_option linter.unusedSimpArgs false
set_option linter.unusedVariables false
open Go.RowKit Ba Fm
end Go.Proofs.Ytkogkildipmnpaa.Fo

namespace Go.Proofs.Ytkogkildipmnpaa.Fo
set_option linter.unusedSimpArgs false
set_option linter.unusedVariables false
open Go.RowKit Ba Fm
end Go.Proofs.Ytkogkildipmnpaa.Fo
