/-
  Slices of strings as values: reading (Sv), of the call's own (Sown), literals, stores; the order of strings. For every stage from 5 on.
  The elements that are never safe. It speaks of no program.
  Plain mathematics for stage 5: the lists of elements, what each closes and what ends the search, texts that may be names. Nothing of the program stands here.
  Plain mathematics of stage 12 (configurations): which may be, what is in order, what is never safe taken out, what is kept. It speaks of no program.
  What is plain: the configuration, and what it keeps. It speaks of no program.
  Plain mathematics of stage 9 (addresses): what is ignored of an address, its scheme, bytes for their marks; what follows for the laws. It speaks of no program.
  Plain mathematics of stage 10 (what can execute scripts): handlers, pairs of an element and an attribute, sinks, safe nodes and trees; what follows for the laws. It speaks of no program.
  Plain mathematics of stage 13: what a configuration keeps of rows, safely or not; what follows of it for the laws. It speaks of no program.
  Configurations in memory: what a slice of api.Per reads as, a configuration as a value, and in a box.
  Slices of api.Per of the call's own: what they hold, what is kept where another one grows, append.
  Walks of stage 12: among, equal, isData, Element, named, Attr.
  boltingref02.Has.
  Walks of stage 12: Attr; the document's Element and Attr.
  The region of a map's literal: its entries may be put in whatever order; in each the map is made of the same pairs. It speaks of no program.
-/
import Derived.Test.YtdjkeakagmgfgaaCk02
import Derived.Deep.QuietTactic
import Derived.BigQuiet
import Derived.Test.YtdjkeakagmgfgaaCk01
import Derived.Deep.MidRow
import Derived.Deep.Cut
import Derived.Orders
import Derived.Tactics
import Derived.Maps.Keyed
import Derived.Maps.Own
import Derived.RegionTactic
import Derived.Below
namespace Go.Proofs.Ytdjkeakagmgfgaa.Fo
set_option linter.unusedSimpArgs false
set_option linter.unusedVariables false
open Go.RowKit Ba Fm
/-- Less, byte by byte. -/
def lt (a b : ByteArray) : Bool := Op.bytesLess a.toList b.toList

theorem below_dN {N : Nat} {a w : World} (h : Below N a w) (n : Nat) : Below N a (w.drewN n) := ⟨h.os, h.tape, h.output, h.size, h.block⟩

/-- v reads as l, below block N. -/
def Sv (w : World) (N : Nat) (v : Value) (l : List ByteArray) : Prop := ∃ A c, v = .slice A l.length c ∧ l.length ≤ c ∧ (A = none → c = 0) ∧ Rd w N A l
theorem sv_own {N : Nat} {w : World} {v : Value} {l : List ByteArray} (h : Sown N w v l) : Sv w w.heap.size v l := by
  rcases h.2 with ⟨hv, hl⟩ | ⟨g, cap, cur, hv, hg, hh, hn, hm, hs, ht⟩
  · have : l = [] := List.eq_nil_of_length_eq_zero hl
    subst this
    exact ⟨none, 0, hv, Nat.le_refl _, fun _ => rfl, Rd.nil _ _ _⟩
  · obtain ⟨A, c, hv', h1, _, h3⟩ := h.form
    refine ⟨A, c, hv', h1, fun e => ?_, h3⟩
    rw [hv] at hv'
    injection hv' with e1
    rw [e] at e1
    cases e1
theorem Sv.below {w w' : World} {N M : Nat} {v : Value} {l : List ByteArray} (h : Sv w N v l) (hb : Below M w w') (hN : N ≤ M) : Sv w' N v l := by
  obtain ⟨A, c, h1, h2, h3, h4⟩ := h
  exact ⟨A, c, h1, h2, h3, h4.below hb hN⟩
theorem Sv.more {w : World} {N M : Nat} {v : Value} {l : List ByteArray} (h : Sv w N v l) (hN : N ≤ M) : Sv w M v l := by
  obtain ⟨A, c, h1, h2, h3, h4⟩ := h
  exact ⟨A, c, h1, h2, h3, h4.more hN⟩

theorem Sv.rd {w : World} {N n c : Nat} {A : Option Addr} {l : List ByteArray} (h : Sv w N (.slice A n c) l) : Rd w N A l := by
  obtain ⟨A', c', e, _, _, hr⟩ := h
  injection e with e
  rw [e]
  exact hr
end Go.Proofs.Ytdjkeakagmgfgaa.Fo

namespace Go.Proofs.Ytdjkeakagmgfgaa.Rk
set_option linter.unusedSimpArgs false
set_option linter.unusedVariables false
open Fm Ba
/-- Elements that are never safe. -/
def unsafeL : List ByteArray := [⟨#[98, 97, 115, 101]⟩, ⟨#[101, 109, 98, 101, 100]⟩, ⟨#[102, 114, 97, 109, 101]⟩, ⟨#[105, 102, 114, 97, 109, 101]⟩, ⟨#[108, 105, 110, 107]⟩, ⟨#[109, 101, 116, 97]⟩, ⟨#[111, 98, 106, 101, 99, 116]⟩, ⟨#[115, 99, 114, 105, 112, 116]⟩]
def neverB (e : ByteArray) : Bool := isIn e unsafeL

end Go.Proofs.Ytdjkeakagmgfgaa.Rk

namespace Go.Proofs.Ytdjkeakagmgfgaa.Nm
set_option linter.unusedSimpArgs false
set_option linter.unusedVariables false
open Ba Fm
/-- May a byte stand in an element's name; in an attribute's. -/
def elB (c : UInt8) : Bool := !(sp c || (65 ≤ c && c ≤ 90) || c == 0 || c == 47 || c == 62)
def atB (c : UInt8) : Bool := elB c && !(c == 34 || c == 39 || c == 60 || c == 61)
def small (c : UInt8) : Bool := 97 ≤ c && c ≤ 122
def rightL : List UInt8 → Bool
  | [] => false
  | c :: r => small c && (c :: r).all elB
def attrL : List UInt8 → Bool
  | [] => false
  | c :: r => (c :: r).all atB
def rightB (s : ByteArray) : Bool := rightL (L s)
def attrB (s : ByteArray) : Bool := attrL (L s)

end Go.Proofs.Ytdjkeakagmgfgaa.Nm

namespace Go.Proofs.Ytdjkeakagmgfgaa.Co
set_option linter.unusedSimpArgs false
set_option linter.unusedVariables false
open Ba Fm Fo Nm Rk
/-- An element, and attributes that are kept of it besides. -/
structure Pe where
  el : ByteArray
  at_ : List ByteArray
/-- A configuration. -/
structure Cf where
  allow : Bool
  attrsAllow : Bool
  els : List ByteArray
  reps : List ByteArray
  ats : List ByteArray
  per : List Pe
  comments : Bool
  dataAttrs : Bool

def elementN (c : Cf) (s : ByteArray) : Nat := if isIn s c.reps = true then 2 else if isIn s c.els = c.allow then 0 else 1
def namedB (c : Cf) (e a : ByteArray) : Bool := (c.per.any fun p => decide (p.el = e) && isIn a p.at_) || isIn a c.ats
def dataL : List UInt8 := [100, 97, 116, 97, 45]
def dataB (a : ByteArray) : Bool := decide (5 < a.size) && decide ((L a).take 5 = dataL)
def attrB12 (c : Cf) (e a : ByteArray) : Bool := if c.attrsAllow = true then namedB c e a || (c.dataAttrs && dataB a) else !namedB c e a
def onceB (l : List ByteArray) : Bool := decide l.Nodup
def meetB (a b : List ByteArray) : Bool := a.any fun x => isIn x b
def bigB (c : Cf) : Bool := decide (64 < c.els.length) || decide (64 < c.reps.length) || decide (64 < c.ats.length) || decide (64 < c.per.length) || c.per.any fun p => decide (64 < p.at_.length)
def namesB (c : Cf) : Bool := c.els.all rightB && c.reps.all rightB && c.ats.all Nm.attrB && c.per.all fun p => rightB p.el && p.at_.all Nm.attrB
def singleB (c : Cf) : Bool := onceB c.els && onceB c.reps && onceB c.ats && onceB (c.per.map Pe.el) && c.per.all fun p => onceB p.at_
def bothB (c : Cf) : Bool := meetB c.els c.reps || (c.dataAttrs && !c.attrsAllow) || c.per.any fun p => meetB p.at_ c.ats
def checkN (c : Cf) : Nat := if bigB c = true then 2 else if namesB c = false then 121 else if singleB c = false then 122 else if bothB c = true then 120 else 0

/-! ### Lists -/
theorem isIn_iff {x : ByteArray} {l : List ByteArray} : isIn x l = true ↔ x ∈ l := ⟨isIn_of, isIn_yes⟩
theorem meet_iff {a b : List ByteArray} : meetB a b = true ↔ ∃ x, x ∈ a ∧ x ∈ b := by
  unfold meetB
  rw [List.any_eq_true]
  exact ⟨fun ⟨x, h1, h2⟩ => ⟨x, h1, isIn_of h2⟩, fun ⟨x, h1, h2⟩ => ⟨x, h1, isIn_yes h2⟩⟩
/-! ### In order -/
instance : DecidableEq Pe := fun a b => by
  cases a; cases b
  rw [Pe.mk.injEq]
  infer_instance
/-! ### May it be -/
/-! ### Without what is never safe -/
/-! ### Data, few, turned -/
end Go.Proofs.Ytdjkeakagmgfgaa.Co

namespace Go.Proofs.Ytdjkeakagmgfgaa.Co
set_option linter.unusedSimpArgs false
set_option linter.unusedVariables false
open Ba Fm Fo Nm Rk
def allC : Cf := ⟨false, false, [], [], [], [], true, false⟩

end Go.Proofs.Ytdjkeakagmgfgaa.Co

namespace Go.Proofs.Ytdjkeakagmgfgaa.Lk
set_option linter.unusedSimpArgs false
set_option linter.unusedVariables false
open Fm
/-- A byte that does not count at an end; one that counts nowhere. -/
def edge (c : UInt8) : Bool := decide (c ≤ 32)
def inn (c : UInt8) : Bool := c == 9 || c == 10 || c == 13
def kept (l : List UInt8) : List UInt8 := l.filter fun c => !inn c
def frontL (l : List UInt8) : List UInt8 := l.dropWhile edge
def backL (l : List UInt8) : List UInt8 := (l.reverse.dropWhile edge).reverse
def stripL (l : List UInt8) : List UInt8 := kept (backL (frontL l))

theorem front_yes {c : UInt8} (l : List UInt8) (h : edge c = true) : frontL (c :: l) = frontL l := by simp [frontL, List.dropWhile_cons, h]
theorem front_no {c : UInt8} (l : List UInt8) (h : edge c = false) : frontL (c :: l) = c :: l := by simp [frontL, List.dropWhile_cons, h]
theorem back_yes {c : UInt8} (l : List UInt8) (h : edge c = true) : backL (l ++ [c]) = backL l := by simp [backL, List.dropWhile_cons, h]
theorem back_no {c : UInt8} (l : List UInt8) (h : edge c = false) : backL (l ++ [c]) = l ++ [c] := by simp [backL, List.dropWhile_cons, h]
theorem kept_append (a b : List UInt8) : kept (a ++ b) = kept a ++ kept b := List.filter_append ..
theorem kept_yes {c : UInt8} (h : inn c = true) : kept [c] = [] := by simp [kept, h]
theorem kept_no {c : UInt8} (h : inn c = false) : kept [c] = [c] := by simp [kept, h]
theorem front_len : ∀ l : List UInt8, (frontL l).length ≤ l.length
  | [] => Nat.le_refl _
  | c :: l => by
    cases he : edge c with
    | true => rw [front_yes _ he]; have := front_len l; simp only [List.length_cons]; omega
    | false => rw [front_no _ he]; exact Nat.le_refl _
theorem back_len (l : List UInt8) : (backL l).length ≤ l.length := by
  show (frontL l.reverse).reverse.length ≤ _
  rw [List.length_reverse]
  have := front_len l.reverse
  rw [List.length_reverse] at this
  exact this
theorem kept_len (l : List UInt8) : (kept l).length ≤ l.length := List.length_filter_le _ _
theorem strip_len (l : List UInt8) : (stripL l).length ≤ l.length := Nat.le_trans (kept_len _) (Nat.le_trans (back_len _) (front_len l))

/-- Bytes that may stand in a scheme behind its first one, besides letters. -/
def oth (c : UInt8) : Bool := (decide (48 ≤ c) && decide (c ≤ 57)) || c == 43 || c == 45 || c == 46
def sch (p : Bool) (c : UInt8) : Bool := lr c || (p && oth c)
/-- The bytes of a scheme that a text begins with (p: behind the first one). -/
def st : Bool → List UInt8 → List UInt8
  | _, [] => []
  | p, c :: r => if sch p c = true then c :: st true r else []
theorem st_nil (p : Bool) : st p [] = [] := rfl
theorem st_yes {p : Bool} {c : UInt8} (r : List UInt8) (h : sch p c = true) : st p (c :: r) = c :: st true r := by rw [st, if_pos h]
theorem st_no {p : Bool} {c : UInt8} (r : List UInt8) (h : sch p c = false) : st p (c :: r) = [] := by rw [st, if_neg (by rw [h]; exact Bool.false_ne_true)]
/-- Where the : behind a stripped address's scheme stands. -/
def colonL (l : List UInt8) : Option Nat := if 0 < (st false l).length ∧ l[(st false l).length]? = some 58 then some (st false l).length else none
/-- What the bytes ahead of k are, when these are all a scheme's. -/
def upTo (l : List UInt8) (k : Nat) : Prop := st false l = l.take k ++ st (decide (0 < k)) (l.drop k)
theorem upTo_zero (l : List UInt8) : upTo l 0 := rfl
theorem upTo_next {l : List UInt8} {k : Nat} (h : upTo l k) (hk : k < l.length) (hs : sch (decide (0 < k)) l[k] = true) : upTo l (k + 1) := by
  unfold upTo at *
  rw [h, List.drop_eq_getElem_cons hk, st_yes _ hs, List.take_succ_eq_append_getElem hk, List.append_assoc]
  rfl
theorem upTo_stop {l : List UInt8} {k : Nat} (h : upTo l k) (hk : k < l.length) (hs : sch (decide (0 < k)) l[k] = false) : (st false l).length = k := by
  unfold upTo at h
  rw [h, List.drop_eq_getElem_cons hk, st_no _ hs, List.append_nil, List.length_take]
  omega
theorem upTo_end {l : List UInt8} {k : Nat} (h : upTo l k) (hk : k = l.length) : (st false l).length = k := by
  unfold upTo at h
  rw [h, List.drop_eq_nil_of_le (by omega), st_nil, List.append_nil, List.length_take]
  omega
theorem colon_stop {l : List UInt8} {k : Nat} (hs : (st false l).length = k) (h0 : 0 < k) (hk : k < l.length) (hc : l[k] = 58) : colonL l = some k := by
  unfold colonL
  rw [hs, if_pos ⟨h0, by rw [List.getElem?_eq_getElem hk, hc]⟩]
theorem colon_not {l : List UInt8} {k : Nat} (hs : (st false l).length = k) (h : k = 0 ∨ k = l.length ∨ ∃ hk : k < l.length, l[k] ≠ 58) : colonL l = none := by
  unfold colonL
  rw [hs, if_neg]
  rintro ⟨h1, h2⟩
  rcases h with h | h | ⟨hk, h⟩
  · omega
  · have := (List.getElem?_eq_some_iff.1 h2).1
    omega
  · rw [List.getElem?_eq_getElem hk] at h2
    injection h2 with h2
    exact h h2
/-- Great letters for small ones. -/
def up (c : UInt8) : UInt8 := if 97 ≤ c ∧ c ≤ 122 then c - 32 else c
def small (m : Nat) : UInt8 := UInt8.ofNat m
/-- The scheme of an address; the empty one: it has none. -/
def schemeO (s : List UInt8) : Option (List UInt8) := (colonL (stripL s)).map fun k => lowL ((stripL s).take k)
def schemeL (s : List UInt8) : List UInt8 := (schemeO s).getD []
def hasL (s : List UInt8) : Bool := (schemeO s).isSome
/-- A hexadecimal digit, and its number. -/
def hb (c : UInt8) : Bool := (decide (48 ≤ c) && decide (c ≤ 57)) || (decide (97 ≤ c) && decide (c ≤ 102)) || (decide (65 ≤ c) && decide (c ≤ 70))
def hv (c : UInt8) : Nat := if 48 ≤ c ∧ c ≤ 57 then c.toNat - 48 else if 97 ≤ c ∧ c ≤ 102 then c.toNat - 87 else if 65 ≤ c ∧ c ≤ 70 then c.toNat - 55 else 0
/-- The byte of a mark that a text begins with. -/
def mk : List UInt8 → Option UInt8
  | a :: b :: c :: _ => if a == 37 && (hb b && hb c) then some (UInt8.ofNat (16 * hv b + hv c)) else none
  | _ => none
/-- Bytes for their marks. -/
def pct : List UInt8 → List UInt8
  | [] => []
  | [a] => [a]
  | [a, b] => [a, b]
  | a :: b :: c :: r => if a == 37 && (hb b && hb c) then UInt8.ofNat (16 * hv b + hv c) :: pct r else a :: pct (b :: c :: r)
/-- What is run of an address. -/
def js : List UInt8 := [106, 97, 118, 97, 115, 99, 114, 105, 112, 116]
def scriptL (s : List UInt8) : Bool := decide (schemeL s = js)
def sourceL (s : List UInt8) : List UInt8 := if schemeL s = js then pct ((stripL s).drop ((colonL (stripL s)).getD 0 + 1)) else []
end Go.Proofs.Ytdjkeakagmgfgaa.Lk

namespace Go.Proofs.Ytdjkeakagmgfgaa.Rk
set_option linter.unusedSimpArgs false
set_option linter.unusedVariables false
open Fm Ba Lk
open Ro (At Ro)
/-- Is a name a handler's? -/
def hand : List UInt8 → Bool
  | a :: b :: _ :: _ => a == 111 && b == 110
  | _ => false
/-- Elements and attributes that lead somewhere; those that take an address of a script; elements that are never safe. -/
def leadsL : List (ByteArray × ByteArray) := [(⟨#[97]⟩, ⟨#[104, 114, 101, 102]⟩), (⟨#[97, 114, 101, 97]⟩, ⟨#[104, 114, 101, 102]⟩), (⟨#[98, 117, 116, 116, 111, 110]⟩, ⟨#[102, 111, 114, 109, 97, 99, 116, 105, 111, 110]⟩), (⟨#[101, 109, 98, 101, 100]⟩, ⟨#[115, 114, 99]⟩), (⟨#[102, 111, 114, 109]⟩, ⟨#[97, 99, 116, 105, 111, 110]⟩), (⟨#[102, 114, 97, 109, 101]⟩, ⟨#[115, 114, 99]⟩), (⟨#[105, 102, 114, 97, 109, 101]⟩, ⟨#[115, 114, 99]⟩), (⟨#[105, 110, 112, 117, 116]⟩, ⟨#[102, 111, 114, 109, 97, 99, 116, 105, 111, 110]⟩), (⟨#[111, 98, 106, 101, 99, 116]⟩, ⟨#[100, 97, 116, 97]⟩)]
def takesL : List (ByteArray × ByteArray) := [(⟨#[115, 99, 114, 105, 112, 116]⟩, ⟨#[115, 114, 99]⟩), (⟨#[101, 109, 98, 101, 100]⟩, ⟨#[115, 114, 99]⟩), (⟨#[111, 98, 106, 101, 99, 116]⟩, ⟨#[100, 97, 116, 97]⟩)]
def pairB (P : List (ByteArray × ByteArray)) (e a : ByteArray) : Bool := P.any fun p => decide (p.1 = e) && decide (p.2 = a)
theorem pair_mem {P : List (ByteArray × ByteArray)} {e a : ByteArray} : pairB P e a = true ↔ (e, a) ∈ P := by
  unfold pairB
  rw [List.any_eq_true]
  constructor
  · rintro ⟨p, hp, h⟩
    rw [Bool.and_eq_true, decide_eq_true_iff, decide_eq_true_iff] at h
    have : p = (e, a) := Prod.ext h.1 h.2
    rw [← this]
    exact hp
  · intro h
    exact ⟨_, h, by rw [Bool.and_eq_true]; exact ⟨decide_eq_true rfl, decide_eq_true rfl⟩⟩
def docB (e a : ByteArray) : Bool := decide (e = ⟨#[105, 102, 114, 97, 109, 101]⟩) && decide (a = ⟨#[115, 114, 99, 100, 111, 99]⟩)
def navB (e a : ByteArray) : Bool := pairB leadsL e a
def sinkN (e a : ByteArray) : Nat := if hand (L a) = true then 2 else if pairB takesL e a = true then 3 else if docB e a = true then 1 else 0
def attrB (e : ByteArray) (x : At) : Bool := decide (sinkN e x.name ≠ 0) || (navB e x.name && scriptL (L x.value))
def rowB (x : Ro) : Bool := if x.kind = 0 then (x.attrs.all fun a => !attrB x.name a) && !neverB x.name else true
def safeB (l : List Ro) : Bool := l.all rowB

theorem safe_append (a b : List Ro) : safeB (a ++ b) = (safeB a && safeB b) := List.all_append
theorem safe_one (x : Ro) : safeB [x] = rowB x := by simp [safeB]
theorem safe_of {l : List Ro} (h : safeB l = true) (x : Ro) (hx : x ∈ l) : rowB x = true := List.all_eq_true.1 h x hx
/-! ### The reference's pairs: an element and an attribute with a blank between them. -/
def joinP (p : ByteArray × ByteArray) : ByteArray := p.1 ++ ⟨#[32]⟩ ++ p.2
/-- Both names are there, and the element's has no blank. -/
def namesB (e a : ByteArray) : Bool := !isIn (⟨#[]⟩ : ByteArray) [e, a] && decide ((32 : UInt8) ∉ L e)
def goodP (P : List (ByteArray × ByteArray)) : Prop := ∀ p ∈ P, (32 : UInt8) ∉ L p.1 ∧ p.1 ≠ ⟨#[]⟩ ∧ p.2 ≠ ⟨#[]⟩
instance (P : List (ByteArray × ByteArray)) : Decidable (goodP P) := by unfold goodP; infer_instance
end Go.Proofs.Ytdjkeakagmgfgaa.Rk

namespace Go.Proofs.Ytdjkeakagmgfgaa.Cn
set_option linter.unusedSimpArgs false
set_option linter.unusedVariables false
open Ba Ro
open Co (Cf Pe elementN attrB12 checkN allC)
open Rk (neverB rowB safeB)
/-- What becomes of a row: 0 it stays, 1 it goes with all that it has, 2 what it has stays in its place. -/
def fateN (c : Cf) (s : Bool) (x : Ro) : Nat := if x.kind = 1 then 0 else if x.kind = 2 then (if c.comments = true then 0 else 1) else if (s && neverB x.name) = true then 1 else elementN c x.name
/-- The attributes that stay. -/
def keepB (c : Cf) (s : Bool) (e : ByteArray) (a : At) : Bool := attrB12 c e a.name && !(s && Rk.attrB e a)
def attrsL (c : Cf) (s : Bool) (e : ByteArray) (l : List At) : List At := l.filter (keepB c s e)
def attrsF (c : Cf) (s : Bool) (x : Ro) : List At := attrsL c s x.name x.attrs
def keptL (c : Cf) (s : Bool) (l : List Ro) : List Ro := K (fateN c s) (attrsF c s) 0 l
def cleanL (c : Cf) (s : Bool) (l : List Ro) : List Ro := normal (keptL c s l)

theorem twice_filter (p : At → Bool) : ∀ l : List At, twice l = false → twice (l.filter p) = false
  | [], _ => rfl
  | a :: r, h => by
    rw [twice, Bool.or_eq_false_iff] at h
    rw [List.filter_cons]
    split
    · rw [twice, twice_filter p r h.2, Bool.or_false, List.any_eq_false]
      intro b hb
      exact List.any_eq_false.1 h.1 b (List.mem_filter.1 hb).1
    · exact twice_filter p r h.2
theorem ok_filter {x : Ro} (p : At → Bool) (h : okRow x = true) (e : Int) : okRow ⟨e, x.kind, x.name, x.data, x.attrs.filter p⟩ = true := by
  unfold okRow at h ⊢
  by_cases hk : (x.kind == 0) = true
  · rw [if_pos hk] at h ⊢
    rw [Bool.and_eq_true] at h ⊢
    refine ⟨h.1, ?_⟩
    have h2 := h.2
    rw [Bool.not_eq_true'] at h2 ⊢
    exact twice_filter p _ h2
  · rw [if_neg hk] at h ⊢
    rw [Bool.and_eq_true] at h ⊢
    refine ⟨h.1, ?_⟩
    have h2 := h.2
    rw [beq_iff_eq] at h2 ⊢
    have : x.attrs = [] := List.length_eq_zero_iff.1 (by omega)
    rw [this]
    rfl
theorem ok_kept (c : Cf) (s : Bool) : ∀ x : Ro, okRow x = true → ∀ e, okRow ⟨e, x.kind, x.name, x.data, attrsF c s x⟩ = true := fun x h e => ok_filter _ h e
theorem no_attrs {x : Ro} (h : okRow x = true) (hk : x.kind ≠ 0) : x.attrs = [] := by
  unfold okRow at h
  rw [if_neg (by simpa using hk), Bool.and_eq_true, beq_iff_eq] at h
  exact List.length_eq_zero_iff.1 (by omega)
theorem ok_kinds {x : Ro} (h : okRow x = true) : x.kind = 0 ∨ x.kind = 1 ∨ x.kind = 2 := by
  unfold okRow at h
  by_cases hk : (x.kind == 0) = true
  · exact .inl (by simpa using hk)
  · rw [if_neg hk, Bool.and_eq_true, Bool.and_eq_true, Bool.or_eq_true, beq_iff_eq, beq_iff_eq] at h
    exact .inr h.1.1
theorem text_kept (c : Cf) (s : Bool) : ∀ x : Ro, okRow x = true → x.kind = 1 → fateN c s x = 0 ∧ attrsF c s x = [] := fun x h hk => by
  refine ⟨by unfold fateN; rw [if_pos hk], ?_⟩
  unfold attrsF
  rw [no_attrs h (by rw [hk]; decide)]
  rfl
theorem fate_el (c : Cf) (s : Bool) {x : Ro} (hk : x.kind = 0) : fateN c s x = if (s && neverB x.name) = true then 1 else elementN c x.name := by
  unfold fateN; rw [if_neg (by rw [hk]; decide), if_neg (by rw [hk]; decide)]
theorem fate_note (c : Cf) (s : Bool) {x : Ro} (hk : x.kind = 2) : fateN c s x = if c.comments = true then 0 else 1 := by
  unfold fateN; rw [if_neg (by rw [hk]; decide), if_pos hk]
theorem kept_wd (c : Cf) (s : Bool) {l : List Ro} (h : right l = true) : Wd 0 (keptL c s l) := K_fo (ok_kept c s) (fo_right h) 0 (by omega)
theorem clean_nr (c : Cf) (s : Bool) {l : List Ro} (h : right l = true) : cleanL c s l = nr (keptL c s l) := normal_fo (kept_wd c s h)
theorem clean_wd (c : Cf) (s : Bool) {l : List Ro} (h : right l = true) : Wd 0 (cleanL c s l) := by rw [clean_nr c s h]; exact nr_fo (kept_wd c s h)
theorem clean_right (c : Cf) (s : Bool) {l : List Ro} (h : right l = true) : right (cleanL c s l) = true := (clean_wd c s h).2
theorem clean_len (c : Cf) (s : Bool) {l : List Ro} (h : right l = true) : (cleanL c s l).length ≤ l.length :=
  Nat.le_trans (normal_from _ _ (Nat.le_refl _)).1 (K_len (fo_right h) 0)
theorem clean_deep (c : Cf) (s : Bool) {l : List Ro} (h : right l = true) : ∀ y ∈ cleanL c s l, ∃ x ∈ l, y.depth ≤ x.depth := fun y hy => by
  obtain ⟨z, hz, e, _⟩ := (normal_from _ _ (Nat.le_refl _)).2 y hy
  obtain ⟨x, hx, _, hd, _⟩ := K_mem (fo_right h) 0 (by omega) z hz
  exact ⟨x, hx, by omega⟩
theorem clean_check (c : Cf) (s : Bool) {l : List Ro} (h : check l = 0) : check (cleanL c s l) = 0 := by
  obtain ⟨h1, h2⟩ := check_parts h
  exact check_of (exceeds_less h1 (clean_len c s h2) (clean_deep c s h2)) (clean_right c s h2)

theorem nr_mem : ∀ (l : List Ro), ∀ y ∈ nr l, (y.kind = 1 ∧ y.attrs = []) ∨ y ∈ l
  | [], y, h => by cases h
  | x :: l, y, h => by
    have up : y ∈ nr l → (y.kind = 1 ∧ y.attrs = []) ∨ y ∈ x :: l := fun h => (nr_mem l y h).imp id (List.mem_cons_of_mem _)
    rw [nr_cons] at h
    by_cases hk : x.kind = 1
    · rw [jn_text hk] at h
      by_cases ha : L x.data = []
      · rw [ha, jt_nil] at h; exact up h
      cases hm : nr l with
      | nil => rw [hm, jt_none _ ha, List.mem_singleton] at h; subst h; exact .inl ⟨rfl, rfl⟩
      | cons z t =>
        rw [hm] at h up
        by_cases hz : z.kind = 1 ∧ z.depth = x.depth
        · rw [jt_hit _ ha hz] at h
          rcases List.mem_cons.1 h with rfl | h
          · exact .inl ⟨rfl, rfl⟩
          · exact up (List.mem_cons_of_mem _ h)
        · rw [jt_miss _ ha hz] at h
          rcases List.mem_cons.1 h with rfl | h
          · exact .inl ⟨rfl, rfl⟩
          · exact up h
    · rw [jn_other hk] at h
      rcases List.mem_cons.1 h with rfl | h
      · exact .inr List.mem_cons_self
      · exact up h
/-- Where each row of what was kept comes from. -/
theorem clean_mem (c : Cf) (s : Bool) {l : List Ro} (h : right l = true) : ∀ y ∈ cleanL c s l, (y.kind = 1 ∧ y.attrs = []) ∨ ∃ x ∈ l, fateN c s x = 0 ∧ y = ⟨y.depth, x.kind, x.name, x.data, attrsF c s x⟩ := fun y hy => by
  rw [clean_nr c s h] at hy
  rcases nr_mem _ y hy with h1 | h1
  · exact .inl h1
  · obtain ⟨x, hx, h2, _, h3⟩ := K_mem (fo_right h) 0 (by omega) y h1
    exact .inr ⟨x, hx, h2, h3⟩
theorem attrs_again (c : Cf) (s : Bool) (e : ByteArray) (l : List At) : attrsL c s e (attrsL c s e l) = attrsL c s e l := by
  unfold attrsL
  rw [List.filter_filter]
  congr 1
  funext a
  exact Bool.and_self _
/-- Rows of which all stays as it is. -/
theorem clean_id {c : Cf} {s : Bool} {l : List Ro} (h : right l = true) (hn : Nrm l) (hx : ∀ x ∈ l, fateN c s x = 0 ∧ attrsF c s x = x.attrs) : cleanL c s l = l := by
  unfold cleanL keptL
  rw [K_id (fo_right h) hx, normal_nrm l 0 h hn]
theorem clean_nrm (c : Cf) (s : Bool) {l : List Ro} (h : right l = true) : Nrm (cleanL c s l) := nrm_normal _ _ 0 (Nat.le_refl _) (kept_wd c s h).2
/-- Filtered again it stays. -/
theorem clean_again (c : Cf) (s : Bool) {l : List Ro} (h : right l = true) : cleanL c s (cleanL c s l) = cleanL c s l := by
  refine clean_id (clean_right c s h) (clean_nrm c s h) fun y hy => ?_
  rcases clean_mem c s h y hy with ⟨h1, h2⟩ | ⟨x, hx, h1, h2⟩
  · exact ⟨by unfold fateN; rw [if_pos h1], by unfold attrsF; rw [h2]; rfl⟩
  · rw [h2]
    exact ⟨h1, attrs_again c s x.name x.attrs⟩
/-- Filtered safely it is safe. -/
theorem clean_safe (c : Cf) {l : List Ro} (h : right l = true) : safeB (cleanL c true l) = true := by
  unfold safeB
  rw [List.all_eq_true]
  intro y hy
  unfold rowB
  split
  · rename_i hk
    rcases clean_mem c true h y hy with ⟨h1, h2⟩ | ⟨x, hx, h1, h2⟩
    · omega
    · have e1 : y.kind = x.kind := (congrArg Ro.kind h2).trans rfl
      have e2 : y.name = x.name := (congrArg Ro.name h2).trans rfl
      have e3 : y.attrs = attrsF c true x := (congrArg Ro.attrs h2).trans rfl
      rw [fate_el c true (by omega), Bool.true_and] at h1
      rw [e2, e3, Bool.and_eq_true]
      constructor
      · rw [List.all_eq_true]
        intro a ha
        have := (List.mem_filter.1 ha).2
        unfold keepB at this
        rw [Bool.and_eq_true, Bool.true_and] at this
        exact this.2
      · cases hn : neverB x.name with
        | false => rfl
        | true => rw [if_pos hn] at h1; cases h1
  · rfl

/-! ### By one configuration, then by another -/
theorem all_el (e : ByteArray) : elementN allC e = 0 := rfl
theorem all_attr (e a : ByteArray) : attrB12 allC e a = true := rfl
theorem el_two {c : Cf} (h : c.reps = []) (e : ByteArray) : elementN c e = 0 ∨ elementN c e = 1 := by
  unfold elementN
  rw [h]
  rw [if_neg (by intro h; cases h)]
  split
  · exact .inl rfl
  · exact .inr rfl
theorem attrs_then (c d : Cf) (s t : Bool) (u : Cf) (v : Bool) (e : ByteArray) (h : ∀ a, (keepB c s e a && keepB d t e a) = keepB u v e a) (l : List At) : attrsL d t e (attrsL c s e l) = attrsL u v e l := by
  unfold attrsL
  rw [List.filter_filter]
  congr 1
  funext a
  rw [← h a, Bool.and_comm]
theorem clean_then {c d u : Cf} {s t v : Bool} {l : List Ro} (h : right l = true)
    (hg : ∀ x : Ro, okRow x = true → (fateN c s x = 1 → fateN u v x = 1) ∧ (fateN c s x = 0 → ∀ e, fateN d t ⟨e, x.kind, x.name, x.data, attrsF c s x⟩ = fateN u v x ∧ attrsF d t ⟨e, x.kind, x.name, x.data, attrsF c s x⟩ = attrsF u v x) ∧ (fateN c s x ≠ 0 → fateN c s x ≠ 1 → fateN u v x ≠ 0 ∧ fateN u v x ≠ 1)) :
    cleanL d t (cleanL c s l) = cleanL u v l := by
  rw [clean_nr d t (clean_right c s h), clean_nr u v h, clean_nr c s h]
  show nr (K _ _ 0 (nr (keptL c s l))) = _
  rw [nr_K (text_kept d t) (kept_wd c s h) 0]
  show nr (K _ _ 0 (K _ _ 0 l)) = _
  rw [K_comp (ok_kept c s) hg (fo_right h) 0 0 (by omega)]
  rfl
theorem steps_all {c : Cf} (hr : c.reps = []) {l : List Ro} (h : right l = true) : cleanL allC true (cleanL c false l) = cleanL c true l := by
  refine clean_then h fun x hx => ?_
  have ha : ∀ e, attrsF allC true ⟨e, x.kind, x.name, x.data, attrsF c false x⟩ = attrsF c true x := fun e => attrs_then c allC false true c true x.name (fun a => by
    unfold keepB; rw [all_attr]; simp) x.attrs
  rcases ok_kinds hx with hk | hk | hk
  · rw [fate_el c false hk, fate_el c true hk, Bool.false_and, if_neg (by decide), Bool.true_and]
    refine ⟨fun h1 => by rw [h1]; split <;> rfl, fun h0 e => ⟨?_, ha e⟩, fun h0 h1 => ?_⟩
    · rw [fate_el allC true (x := ⟨e, x.kind, x.name, x.data, attrsF c false x⟩) hk, all_el, h0, Bool.true_and]
    · rcases el_two hr x.name with h | h
      · exact absurd h h0
      · exact absurd h h1
  · have e1 : ∀ (c : Cf) (s : Bool), fateN c s x = 0 := fun c s => by unfold fateN; rw [if_pos hk]
    rw [e1, e1]
    exact ⟨fun h => (by cases h), fun _ e => ⟨by unfold fateN; rw [if_pos hk], ha e⟩, fun h => absurd rfl h⟩
  · rw [fate_note c false hk, fate_note c true hk]
    refine ⟨id, fun h0 e => ⟨?_, ha e⟩, fun h0 h1 => ⟨h0, h1⟩⟩
    rw [fate_note allC true (x := ⟨e, x.kind, x.name, x.data, attrsF c false x⟩) hk, h0]
    rfl
theorem steps_first (c : Cf) {l : List Ro} (h : right l = true) : cleanL c false (cleanL allC true l) = cleanL c true l := by
  refine clean_then h fun x hx => ?_
  have ha : ∀ e, attrsF c false ⟨e, x.kind, x.name, x.data, attrsF allC true x⟩ = attrsF c true x := fun e => attrs_then allC c true false c true x.name (fun a => by
    unfold keepB; rw [all_attr]; simp [Bool.and_comm]) x.attrs
  rcases ok_kinds hx with hk | hk | hk
  · rw [fate_el allC true hk, fate_el c true hk, Bool.true_and, all_el]
    refine ⟨fun h1 => ?_, fun h0 e => ⟨?_, ha e⟩, fun h0 h1 => ?_⟩
    · split at h1
      · rename_i hn; rw [if_pos hn]
      · cases h1
    · split at h0
      · cases h0
      · rename_i hn
        rw [fate_el c false (x := ⟨e, x.kind, x.name, x.data, attrsF allC true x⟩) hk, Bool.false_and, if_neg (by decide), if_neg hn]
    · split at h0
      · rename_i hn; rw [if_pos hn] at h1; exact absurd rfl h1
      · exact absurd rfl h0
  · have e1 : ∀ (c : Cf) (s : Bool), fateN c s x = 0 := fun c s => by unfold fateN; rw [if_pos hk]
    rw [e1, e1]
    exact ⟨fun h => (by cases h), fun _ e => ⟨by unfold fateN; rw [if_pos hk], ha e⟩, fun h => absurd rfl h⟩
  · rw [fate_note allC true hk, fate_note c true hk]
    refine ⟨fun h => (by cases h), fun h0 e => ⟨?_, ha e⟩, fun h0 h1 => absurd rfl h0⟩
    rw [fate_note c false (x := ⟨e, x.kind, x.name, x.data, attrsF allC true x⟩) hk]

/-! ### All stays; nothing stays -/
theorem safe_stays {l : List Ro} (h : right l = true) (hn : Nrm l) : decide (cleanL allC true l = l) = safeB l := by
  cases hs : safeB l with
  | false =>
    refine decide_eq_false fun e => ?_
    have := clean_safe allC h
    rw [e, hs] at this
    cases this
  | true =>
    refine decide_eq_true (clean_id h hn fun x hx => ?_)
    have hrow := Rk.safe_of hs x hx
    have hrr : okRow x = true := right_ok l 0 h x hx
    rcases ok_kinds hrr with hk | hk | hk
    · unfold rowB at hrow
      rw [if_pos hk, Bool.and_eq_true, List.all_eq_true] at hrow
      have hne : neverB x.name = false := by simpa using hrow.2
      rw [fate_el allC true hk, hne]
      refine ⟨rfl, ?_⟩
      unfold attrsF attrsL
      rw [List.filter_eq_self]
      intro a ha
      unfold keepB
      rw [all_attr, Bool.true_and, Bool.true_and]
      exact hrow.1 a ha
    · exact ⟨by unfold fateN; rw [if_pos hk], by unfold attrsF; rw [no_attrs hrr (by omega)]; rfl⟩
    · exact ⟨by rw [fate_note allC true hk]; rfl, by unfold attrsF; rw [no_attrs hrr (by omega)]; rfl⟩
where
  right_ok : ∀ (l : List Ro) (m : Int), rightFrom m l = true → ∀ x ∈ l, okRow x = true
    | [], _, _, x, h => by cases h
    | y :: r, m, h, x, hx => by
      rw [rightFrom] at h
      simp only [Bool.and_eq_true, decide_eq_true_eq] at h
      rcases List.mem_cons.1 hx with rfl | hx
      · exact h.1.2
      · exact right_ok r _ h.2 x hx
/-! ### Text -/
theorem clean_txt (c : Cf) (s : Bool) {l : List Ro} (h : right l = true) : txt (cleanL c s l) = txt (keptL c s l) := txt_normal _ _ (Nat.le_refl _)
theorem clean_txt_le (c : Cf) (s : Bool) {l : List Ro} (h : right l = true) : (txt (cleanL c s l)).length ≤ (txt l).length := by
  rw [clean_txt c s h]; exact txt_K (fo_right h) 0
/-! ### What is replaced leaves what it has -/
end Go.Proofs.Ytdjkeakagmgfgaa.Cn

namespace Go.Proofs.Ytdjkeakagmgfgaa.Co
set_option maxRecDepth 100000
set_option linter.unusedVariables false
set_option linter.unusedSimpArgs false
open Go.RowKit Ba Fm Fo Nm Rk
/-- An element's attributes as they lie. -/
structure Pw where
  pe : Pe
  A : Option Addr
  c : Nat
def pcells (x : Pw) : List Value := [.string x.pe.el, .slice x.A x.pe.at_.length x.c]
theorem len_pcells (x : Pw) : (pcells x).length = 2 := rfl
abbrev perV (x : Pw) : Value := .agg #[.string x.pe.el, .slice x.A x.pe.at_.length x.c]
def pes (l : List Pw) : List Pe := l.map Pw.pe
theorem len_pes (l : List Pw) : (pes l).length = l.length := List.length_map _
theorem pes_append (a b : List Pw) : pes (a ++ b) = pes a ++ pes b := by simp [pes]
theorem pes_take (l : List Pw) (k : Nat) : (pes l).take k = pes (l.take k) := by simp [pes, List.map_take]
/-- Its attributes are there. -/
def Sx (w : World) (N : Nat) (x : Pw) : Prop := Sv w N (.slice x.A x.pe.at_.length x.c) x.pe.at_
/-- These lie at A, below block N. -/
def Pr (w : World) (N : Nat) (A : Option Addr) (l : List Pw) : Prop :=
  (0 < l.length → ∃ b off, A = some ⟨b, off, none⟩ ∧ b < N ∧ ∀ j (h : j < l.length), w.rangeAt b (off + j * 2) (pcells l[j])) ∧ ∀ x ∈ l, Sx w N x
def Pv (w : World) (N : Nat) (v : Value) (l : List Pw) : Prop := ∃ A c, v = .slice A l.length c ∧ l.length ≤ c ∧ (A = none → c = 0) ∧ Pr w N A l

theorem range_keep12 {w w' : World} {b o : Nat} {cs : List Value} (h : w.rangeAt b o cs) (hk : ∀ o, w'.cell? ⟨b, o, none⟩ = w.cell? ⟨b, o, none⟩) : w'.rangeAt b o cs := fun j v hv => (hk _).trans (h j v hv)
theorem Sx.below {w w' : World} {N M : Nat} {x : Pw} (h : Sx w N x) (hb : Below M w w') (hN : N ≤ M := by exact Nat.le_refl _) : Sx w' N x := Sv.below h hb hN
theorem Sx.more {w : World} {N M : Nat} {x : Pw} (h : Sx w N x) (hN : N ≤ M) : Sx w M x := Sv.more h hN
theorem Pr.below {w w' : World} {N M : Nat} {A : Option Addr} {l : List Pw} (h : Pr w N A l) (hb : Below M w w') (hN : N ≤ M := by exact Nat.le_refl _) : Pr w' N A l :=
  ⟨fun h0 => by
    obtain ⟨b, off, e, hbN, hc⟩ := h.1 h0
    exact ⟨b, off, e, hbN, fun j hj => range_keep12 (hc j hj) fun o => hb.cell (p := ⟨b, o, none⟩) (show b < M by omega)⟩, fun x hx => (h.2 x hx).below hb hN⟩
theorem Pr.more {w : World} {N M : Nat} {A : Option Addr} {l : List Pw} (h : Pr w N A l) (hN : N ≤ M) : Pr w M A l :=
  ⟨fun h0 => by
    obtain ⟨b, off, e, hb, hc⟩ := h.1 h0
    exact ⟨b, off, e, by omega, hc⟩, fun x hx => (h.2 x hx).more hN⟩
theorem Pr.nil (w : World) (N : Nat) (A : Option Addr) : Pr w N A [] := ⟨fun h => absurd h (by simp), fun _ h => by simp at h⟩
theorem Pv.below {w w' : World} {N M : Nat} {v : Value} {l : List Pw} (h : Pv w N v l) (hb : Below M w w') (hN : N ≤ M := by exact Nat.le_refl _) : Pv w' N v l := by
  obtain ⟨A, c, h1, h2, h3, h4⟩ := h
  exact ⟨A, c, h1, h2, h3, h4.below hb hN⟩
theorem Pv.more {w : World} {N M : Nat} {v : Value} {l : List Pw} (h : Pv w N v l) (hN : N ≤ M) : Pv w M v l := by
  obtain ⟨A, c, h1, h2, h3, h4⟩ := h
  exact ⟨A, c, h1, h2, h3, h4.more hN⟩
/-- The one at k. -/
theorem Pr.at_ {w : World} {N : Nat} {A : Option Addr} {l : List Pw} (h : Pr w N A l) (k : Nat) (hk : k < l.length) :
    ∃ b off x, A = some ⟨b, off, none⟩ ∧ b < N ∧ l[k]? = some x ∧ w.rangeAt b (off + k * 2) [.string x.pe.el, .slice x.A x.pe.at_.length x.c] ∧ Sx w N x ∧ x ∈ l := by
  obtain ⟨b, off, e, hb, hc⟩ := h.1 (by omega)
  exact ⟨b, off, l[k], e, hb, List.getElem?_eq_getElem hk, hc k hk, h.2 _ (List.getElem_mem _), List.getElem_mem _⟩
theorem info_per : (Try.prog.info? 52).map (fun i => (i.zero, i.size, i.bytes)) = some (some (.agg #[.string .empty, .slice none 0 0]), 2, 40) := by kernel_rfl
theorem range2p {w : World} {b o : Nat} {v0 v1 : Value} (h : w.rangeAt b o [v0, v1]) : w.cell? ⟨b, o, none⟩ = some v0 ∧ w.cell? ⟨b, o + 1, none⟩ = some v1 := ⟨h 0 _ rfl, h 1 _ rfl⟩

/-! ### A configuration -/
abbrev confV (c : Cf) (vE vR vA vP : Value) : Value := .agg #[.bool c.allow, .bool c.attrsAllow, vE, vR, vA, vP, .bool c.comments, .bool c.dataAttrs]
abbrev confO (c : Cf) (vE vR vA vP : Value) : Obj := .cells #[.bool c.allow, .bool c.attrsAllow, vE, vR, vA, vP, .bool c.comments, .bool c.dataAttrs] 26
theorem size_conf : (Try.prog.info? 26).map (·.size) = some 8 := by kernel_rfl
/-- Its parts. -/
structure Cp (w : World) (N : Nat) (c : Cf) (vE vR vA vP : Value) (l : List Pw) : Prop where
  e : Sv w N vE c.els
  r : Sv w N vR c.reps
  a : Sv w N vA c.ats
  p : Pv w N vP l
  m : pes l = c.per
def Cv (w : World) (N : Nat) (v : Value) (c : Cf) : Prop := ∃ vE vR vA vP l, v = confV c vE vR vA vP ∧ Cp w N c vE vR vA vP l
theorem Cp.below {w w' : World} {N M : Nat} {c : Cf} {vE vR vA vP : Value} {l : List Pw} (h : Cp w N c vE vR vA vP l) (hb : Below M w w') (hN : N ≤ M := by exact Nat.le_refl _) : Cp w' N c vE vR vA vP l := ⟨h.e.below hb hN, h.r.below hb hN, h.a.below hb hN, h.p.below hb hN, h.m⟩
theorem Cp.more {w : World} {N M : Nat} {c : Cf} {vE vR vA vP : Value} {l : List Pw} (h : Cp w N c vE vR vA vP l) (hN : N ≤ M) : Cp w M c vE vR vA vP l := ⟨h.e.more hN, h.r.more hN, h.a.more hN, h.p.more hN, h.m⟩
theorem Cp.on {w w' : World} {c : Cf} {vE vR vA vP : Value} {l : List Pw} (h : Cp w w.heap.size c vE vR vA vP l) (hb : Below w.heap.size w w') : Cp w' w'.heap.size c vE vR vA vP l := (h.below hb).more hb.size
theorem Cv.below {w w' : World} {N M : Nat} {v : Value} {c : Cf} (h : Cv w N v c) (hb : Below M w w') (hN : N ≤ M := by exact Nat.le_refl _) : Cv w' N v c := by
  obtain ⟨vE, vR, vA, vP, l, e, h⟩ := h
  exact ⟨vE, vR, vA, vP, l, e, h.below hb hN⟩
theorem Cv.more {w : World} {N M : Nat} {v : Value} {c : Cf} (h : Cv w N v c) (hN : N ≤ M) : Cv w M v c := by
  obtain ⟨vE, vR, vA, vP, l, e, h⟩ := h
  exact ⟨vE, vR, vA, vP, l, e, h.more hN⟩
theorem Cv.on {w w' : World} {v : Value} {c : Cf} (h : Cv w w.heap.size v c) (hb : Below w.heap.size w w') : Cv w' w'.heap.size v c := (h.below hb).more hb.size
theorem sv_on {w w' : World} {v : Value} {l : List ByteArray} (h : Sv w w.heap.size v l) (hb : Below w.heap.size w w') : Sv w' w'.heap.size v l := (Sv.below h hb (Nat.le_refl _)).more hb.size
theorem Pv.on {w w' : World} {v : Value} {l : List Pw} (h : Pv w w.heap.size v l) (hb : Below w.heap.size w w') : Pv w' w'.heap.size v l := (h.below hb).more hb.size
/-- A box that holds it. -/
def Bx (w : World) (b : Nat) (c : Cf) (vE vR vA vP : Value) : Prop := w.rangeAt b 0 [.bool c.allow, .bool c.attrsAllow, vE, vR, vA, vP, .bool c.comments, .bool c.dataAttrs]
theorem Bx.new (w : World) (c : Cf) (vE vR vA vP : Value) : Bx (w.alloc (confO c vE vR vA vP)) w.heap.size c vE vR vA vP := fun j v hv => by
  rw [Nat.zero_add, World.cell?_alloc_mark]
  match j, hv with
  | 0, hv | 1, hv | 2, hv | 3, hv | 4, hv | 5, hv | 6, hv | 7, hv => exact hv
  | j + 8, hv => simp at hv
theorem Bx.below {w w' : World} {b M : Nat} {c : Cf} {vE vR vA vP : Value} (h : Bx w b c vE vR vA vP) (hb : Below M w w') (hM : b < M) : Bx w' b c vE vR vA vP := range_keep12 h fun o => hb.cell (p := ⟨b, o, none⟩) hM
theorem Bx.at_ {w : World} {b : Nat} {c : Cf} {vE vR vA vP : Value} (h : Bx w b c vE vR vA vP) :
    w.cell? ⟨b, 0, none⟩ = some (.bool c.allow) ∧ w.cell? ⟨b, 1, none⟩ = some (.bool c.attrsAllow) ∧ w.cell? ⟨b, 2, none⟩ = some vE ∧ w.cell? ⟨b, 3, none⟩ = some vR ∧ w.cell? ⟨b, 4, none⟩ = some vA ∧ w.cell? ⟨b, 5, none⟩ = some vP ∧ w.cell? ⟨b, 6, none⟩ = some (.bool c.comments) ∧ w.cell? ⟨b, 7, none⟩ = some (.bool c.dataAttrs) :=
  ⟨h 0 _ rfl, h 1 _ rfl, h 2 _ rfl, h 3 _ rfl, h 4 _ rfl, h 5 _ rfl, h 6 _ rfl, h 7 _ rfl⟩
theorem below_new12 (w : World) (o : Obj) : Below w.heap.size w (w.alloc o) := (Below.refl _ _).alloc (Nat.le_refl _) _
theorem bel_eq12 {w w1 w2 : World} {n : Nat} (h : Below n w w1) (he : w2.heap = w1.heap) (ho : w2.os = w1.os) (ht : w2.tape = w1.tape) (hp : w2.output = w1.output) : Below n w w2 := ⟨ho.trans h.os, ht.trans h.tape, hp.trans h.output, by rw [he]; exact h.size, fun b hb => by rw [he]; exact h.block b hb⟩
/-- A block that holds a configuration. -/
def Hb (w : World) (g : Nat) (cs : Array Value) : Prop := w.heap[g]? = some (.cells cs 26)
theorem gcell12 (w : World) (b j : Nat) (u : Value) : w.grownBy (w.setCell ⟨b, j, none⟩ u) (some b) :=
  ⟨rfl, rfl, rfl, by simp [World.setCell], fun k _ hk => Below.heap_setCell _ _ _ _ (fun e => hk (by simp [e]))⟩
theorem gcells12 (b : Nat) : ∀ (vs : List Value) (o : Nat) (w : World), w.grownBy (w.setCells b o vs) (some b)
  | [], _, w => World.grownBy.refl w _
  | v :: r, o, w => (gcell12 w b o v).trans (gcells12 b r (o + 1) _)
theorem Hb.new (w : World) (cs : Array Value) : Hb (w.alloc (.cells cs 26)) w.heap.size cs := heap_alloc_new w _
theorem Hb.keep {w w' : World} {g : Nat} {cs : Array Value} (h : Hb w g cs) (hb : w'.heap[g]? = w.heap[g]?) : Hb w' g cs := hb.trans h
theorem Hb.lt {w : World} {g : Nat} {cs : Array Value} (h : Hb w g cs) : g < w.heap.size := (Array.getElem?_eq_some_iff.1 h).1
theorem Hb.below {w w' : World} {g M : Nat} {cs : Array Value} (h : Hb w g cs) (hb : Below M w w') (hM : g < M) : Hb w' g cs := h.keep (hb.block g hM)
theorem Hb.on {w w' : World} {g : Nat} {cs : Array Value} (h : Hb w g cs) (hb : Below w.heap.size w w') : Hb w' g cs := h.below hb h.lt
theorem Hb.set {w : World} {g : Nat} {cs : Array Value} (h : Hb w g cs) (j : Nat) (u : Value) (hj : j < cs.size := by simp) : Hb (w.setCell ⟨g, j, none⟩ u) g (cs.set j u hj) := by
  unfold Hb at h ⊢
  simp [World.setCell, Array.getElem?_modify, h, Array.setIfInBounds, hj]
theorem Hb.cell {w : World} {g : Nat} {cs : Array Value} (h : Hb w g cs) (j : Nat) (u : Value) (hu : cs[j]? = some u) : w.cell? ⟨g, j, none⟩ = some u := by
  rw [cell_of_row w g j _ _ _ h]
  exact hu
theorem Hb.f {w : World} {g : Nat} {cs : Array Value} (h : Hb w g cs) (j : Nat) : w.frozen? ⟨g, j, none⟩ = false := by
  unfold Hb at h
  simp [World.frozen?, h]
theorem Hb.there {w : World} {g : Nat} {cs : Array Value} (h : Hb w g cs) (n : Nat) (hn : n = cs.size) : w.there g 0 n := fun j hj => by
  rw [Nat.zero_add]
  exact ⟨by rw [h.cell j _ (Array.getElem?_eq_getElem (hn ▸ hj))]; rfl, h.f j⟩
theorem Hb.range {w : World} {g : Nat} {cs : Array Value} (h : Hb w g cs) : w.rangeAt g 0 cs.toList := fun j u hu => by
  rw [Nat.zero_add]
  exact h.cell j u (by rwa [Array.getElem?_toList] at hu)
/-- How much there may be. -/
structure Sm (c : Cf) : Prop where
  e : c.els.length ≤ 1000
  r : c.reps.length ≤ 1000
  a : c.ats.length ≤ 1000
  p : c.per.length ≤ 1000
  pa : ∀ p ∈ c.per, p.at_.length ≤ 1000
  es : ∀ s ∈ c.els, s.size ≤ 140737488355328
  rs : ∀ s ∈ c.reps, s.size ≤ 140737488355328
  as_ : ∀ s ∈ c.ats, s.size ≤ 140737488355328
  ps : ∀ p ∈ c.per, p.el.size ≤ 140737488355328 ∧ ∀ s ∈ p.at_, s.size ≤ 140737488355328

end Go.Proofs.Ytdjkeakagmgfgaa.Co

namespace Go.Proofs.Ytdjkeakagmgfgaa.Co
set_option maxRecDepth 100000
set_option linter.unusedVariables false
set_option linter.unusedSimpArgs false
open Go.RowKit Ba Fm Fo
theorem flat_at12 {α : Type} (f : α → List Value) (m : Nat) (hm : ∀ x, (f x).length = m) : ∀ (l : List α) (j i : Nat) (h : j < l.length), i < m → (l.flatMap f)[j * m + i]? = (f l[j])[i]?
  | [], j, _, h, _ => absurd h (by simp)
  | x :: r, 0, i, _, hi => by
    rw [List.flatMap_cons, List.getElem?_append_left (by rw [hm]; omega)]
    simp
  | x :: r, j + 1, i, h, hi => by
    rw [List.flatMap_cons, List.getElem?_append_right (by rw [hm, Nat.add_mul]; omega), hm, show (j + 1) * m + i - m = j * m + i from by rw [Nat.add_mul]; omega]
    rw [flat_at12 f m hm r j i (by simpa using h) hi]
    rfl
/-- Its attributes lie where no slice of api.Per of the call's own can lie. -/
def Ap (w : World) (N : Nat) (x : Pw) : Prop := 0 < x.pe.at_.length → ∃ b off, x.A = some ⟨b, off, none⟩ ∧ (b < N ∨ ∃ cs fr, w.heap[b]? = some (.cells cs 9 fr))
/-- Its attributes are the call's own. -/
def Fp (N : Nat) (w : World) (x : Pw) : Prop := Sown N w (.slice x.A x.pe.at_.length x.c) x.pe.at_
/-- v is a slice of api.Per of the call's own. -/
def Po (N : Nat) (w : World) (v : Value) (l : List Pw) : Prop := w.ownsRow N 52 2 v l.length (l.flatMap pcells) ∧ ∀ x ∈ l, Sx w w.heap.size x ∧ Ap w N x

theorem Fp.sx {N : Nat} {w : World} {x : Pw} (h : Fp N w x) : Sx w w.heap.size x := sv_own h
theorem Fp.ap {N M : Nat} {w : World} {x : Pw} (h : Fp N w x) : Ap w M x := fun h0 => by
  rcases h.2 with ⟨hv, hn⟩ | ⟨g, cap, cur, hv, hg, hh, _⟩
  · omega
  · injection hv with e1
    exact ⟨g, 0, e1, .inr ⟨_, _, hh⟩⟩
theorem Fp.below {N M : Nat} {w w' : World} {x : Pw} (h : Fp N w x) (hb : Below M w w') (hM : w.heap.size ≤ M := by exact Nat.le_refl _) : Fp N w' x := Sown.below h hb hM
theorem Fp.mono {N N' : Nat} {w : World} {x : Pw} (h : Fp N w x) (hN : N' ≤ N) : Fp N' w x := Sown.mono h hN
theorem Ap.below {N M : Nat} {w w' : World} {x : Pw} (h : Ap w N x) (hb : Below M w w') (hM : w.heap.size ≤ M := by exact Nat.le_refl _) : Ap w' N x := fun h0 => by
  obtain ⟨b, off, e, h⟩ := h h0
  refine ⟨b, off, e, ?_⟩
  rcases h with h | ⟨cs, fr, h⟩
  · exact .inl h
  · refine .inr ⟨cs, fr, ?_⟩
    have hlt : b < w.heap.size := (Array.getElem?_eq_some_iff.1 h).1
    rw [hb.block b (by omega)]
    exact h
theorem Ap.more {N M : Nat} {w : World} {x : Pw} (h : Ap w N x) (hN : N ≤ M) : Ap w M x := fun h0 => by
  obtain ⟨b, off, e, h⟩ := h h0
  exact ⟨b, off, e, h.imp (fun h => by omega) id⟩
theorem Sx.apart {N : Nat} {w : World} {x : Pw} (h : Sx w N x) : Ap w N x := fun h0 => by
  obtain ⟨b, off, e, hb, _⟩ := Sv.rd h h0
  exact ⟨b, off, e, .inl hb⟩
theorem Po.nil (N : Nat) (w : World) : Po N w (.slice none 0 0) [] := ⟨World.ownsRow_nil w N _ 2, fun _ h => by simp at h⟩
theorem Po.made (w : World) : Po w.heap.size (w.alloc (.cells #[] 52)) (.slice (some ⟨w.heap.size, 0, none⟩) 0 0) [] :=
  ⟨World.ownsRow_made w #[] 0 (Nat.le_refl _) (Nat.zero_le _) rfl, fun _ h => by simp at h⟩
theorem Po.below {N M : Nat} {w w' : World} {v : Value} {l : List Pw} (h : Po N w v l) (hb : Below M w w') (hM : w.heap.size ≤ M := by exact Nat.le_refl _) : Po N w' v l := by
  refine ⟨⟨h.1.1, ?_⟩, fun x hx => ⟨((h.2 x hx).1.below hb hM).more hb.size, (h.2 x hx).2.below hb hM⟩⟩
  rcases h.1.2 with hn | ⟨g, cap, cur, hv, hg, hh, rest⟩
  · exact .inl hn
  · refine .inr ⟨g, cap, cur, hv, hg, ?_, rest⟩
    have hlt : g < w.heap.size := (Array.getElem?_eq_some_iff.1 hh).1
    rw [hb.block g (by omega)]
    exact hh
theorem Po.alloc {N : Nat} {w : World} {v : Value} {l : List Pw} (h : Po N w v l) (o : Obj) : Po N (w.alloc o) v l := h.below (below_new12 w o)
/-- What a slice of the call's own is, and reads as. -/
theorem Po.form {N : Nat} {w : World} {v : Value} {l : List Pw} (h : Po N w v l) : ∃ A c, v = .slice A l.length c ∧ l.length ≤ c ∧ c ≤ maxLen ∧ (A = none → c = 0) ∧ Pr w w.heap.size A l := by
  rcases h.1.2 with ⟨hv, hl⟩ | ⟨g, cap, cur, hv, hg, hh, hn, hm, hs, ht⟩
  · have : l = [] := List.eq_nil_of_length_eq_zero hl
    subst this
    exact ⟨none, 0, hv, Nat.le_refl _, Nat.zero_le _, fun _ => rfl, Pr.nil _ _ _⟩
  · refine ⟨some ⟨g, 0, none⟩, cap, hv, hn, hm, (fun e => by cases e), fun _ => ⟨g, 0, rfl, (Array.getElem?_eq_some_iff.1 hh).1, fun j hj i u hu => ?_⟩, fun x hx => (h.2 x hx).1⟩
    have hi : i < 2 := (List.getElem?_eq_some_iff.1 hu).1
    subst hv
    have := World.ownsRow.cells h.1 (g := g) rfl (j * 2 + i) u (by rw [flat_at12 pcells 2 len_pcells _ _ _ hj hi]; exact hu)
    rw [WideShapes.add_plain] at this
    rw [show 0 + j * 2 + i = 0 + (j * 2 + i) from by omega]
    exact this
theorem Po.pv {N : Nat} {w : World} {v : Value} {l : List Pw} (h : Po N w v l) : Pv w w.heap.size v l := by
  obtain ⟨A, c, e, h1, _, h2, h3⟩ := h.form
  exact ⟨A, c, e, h1, h2, h3⟩

theorem pblock_ne {N n : Nat} {w : World} {v : Value} {xs : List Value} {b : Nat} {cs : Array Value} {fr : Nat × Nat} (h : w.ownsRow N 52 2 v n xs) (hb : w.heap[b]? = some (.cells cs 9 fr)) : some b ≠ v.ownBlock := by
  rcases h.2 with ⟨rfl, _⟩ | ⟨g, cap, cur, rfl, _, hh, _⟩
  · simp [Value.ownBlock]
  · intro e
    have e : b = g := by simpa [Value.ownBlock] using e
    subst e
    rw [hb] at hh
    injection hh with hh
    injection hh with _ ht
    exact absurd ht (by decide)
theorem plow_ne {N n : Nat} {w : World} {v : Value} {xs : List Value} {b : Nat} (h : w.ownsRow N 52 2 v n xs) (hb : b < N) : some b ≠ v.ownBlock := fun e => by
  have := (World.ownsRow.lt h b e.symm).1
  omega
theorem Sx.grown {N n : Nat} {w w' : World} {v : Value} {xs : List Value} {y : Pw} (h : w.ownsRow N 52 2 v n xs) (hg : w.grownBy w' v.ownBlock) (hy : Sx w w.heap.size y) (ha : Ap w N y) : Sx w' w'.heap.size y := by
  obtain ⟨A, c, e, h1, h2, h3⟩ := hy
  injection e with e1 e2 e3
  refine ⟨A, c, by rw [e1, e3], h1, h2, fun h0 => ?_⟩
  obtain ⟨b, off, e, hb, hc⟩ := h3 h0
  obtain ⟨b', off', e', ha⟩ := ha h0
  rw [e1, e] at e'
  injection e' with e'
  injection e' with e4 e5
  subst e4 e5
  have hne : some b ≠ v.ownBlock := by
    rcases ha with ha | ⟨cs, fr, ha⟩
    · exact plow_ne h ha
    · exact pblock_ne h ha
  exact ⟨b, off, e, Nat.lt_of_lt_of_le hb hg.size, fun j hj => (World.cell?_of_block (a := ⟨b, off + j, none⟩) (hg.block b hb hne)).trans (hc j hj)⟩
theorem Ap.grown {N n : Nat} {w w' : World} {v : Value} {xs : List Value} {y : Pw} (h : w.ownsRow N 52 2 v n xs) (hg : w.grownBy w' v.ownBlock) (ha : Ap w N y) : Ap w' N y := fun h0 => by
  obtain ⟨b, off, e, ha⟩ := ha h0
  refine ⟨b, off, e, ?_⟩
  rcases ha with ha | ⟨cs, fr, ha⟩
  · exact .inl ha
  · exact .inr ⟨cs, fr, (hg.block b (Array.getElem?_eq_some_iff.1 ha).1 (pblock_ne h ha)).trans ha⟩
abbrev perO (x : Pw) : Obj := .cells #[.string x.pe.el, .slice x.A x.pe.at_.length x.c] 52
theorem pbox_at (w : World) (x : Pw) (j : Nat) : (w.alloc (perO x)).cell? ⟨w.heap.size, j, none⟩ = (pcells x)[j]? := by
  rw [World.cell?_alloc_mark]
  match j with
  | 0 | 1 => rfl
  | j + 2 => simp [pcells]
theorem pbox_kept {w w3 : World} {x : Pw} (hb : Below (w.alloc (perO x)).heap.size (w.alloc (perO x)) w3) (j : Nat) : w3.cell? ⟨w.heap.size, j, none⟩ = (pcells x)[j]? :=
  (hb.cell (p := ⟨w.heap.size, j, none⟩) (by simp)).trans (pbox_at w x j)
theorem pcells_one (x : Pw) : ∀ u ∈ pcells x, u.oneCell' = true := by
  intro u hu
  simp only [pcells, List.mem_cons, List.not_mem_nil, or_false] at hu
  rcases hu with rfl | rfl <;> rfl
theorem Sx.boxed {w w0 : World} {x : Pw} (h : Sx w w0.heap.size x) (hb : Below w0.heap.size w0 w) (o : Obj) : Sx (w.alloc o) (w.alloc o).heap.size x :=
  ((h.more hb.size).below (below_new12 w o)).more (by simp)
/-- What is the call's own stays where a configuration's box is written. -/
theorem row_boxed {w w' : World} {N size n g : Nat} {e : TypeId} {v : Value} {xs : List Value} {cs : Array Value} (h : w.ownsRow N e size v n xs) (he : e ≠ 26) (hb : Hb w g cs) (hg : w.grownBy w' (some g)) : w'.ownsRow N e size v n xs := by
  refine ⟨h.1, ?_⟩
  rcases h.2 with hn | ⟨b, cap, cur, hv, hN, hh, rest⟩
  · exact .inl hn
  · refine .inr ⟨b, cap, cur, hv, hN, ?_, rest⟩
    have hne : b ≠ g := fun e' => by
      subst e'
      unfold Hb at hb
      rw [hb] at hh
      injection hh with hh
      injection hh with _ ht
      exact he ht.symm
    rw [hg.block b (Array.getElem?_eq_some_iff.1 hh).1 (by simpa using hne)]
    exact hh
theorem own_boxed {w w' : World} {N g : Nat} {v : Value} {l : List ByteArray} {cs : Array Value} (h : Sown N w v l) (hb : Hb w g cs) (hg : w.grownBy w' (some g)) : Sown N w' v l := row_boxed h (by decide) hb hg
theorem po_of {N : Nat} {w : World} {v : Value} {l : List Pw} (h : w.ownsRow N 52 2 v l.length (l.flatMap pcells)) (hf : ∀ x ∈ l, Fp N w x) : Po N w v l := ⟨h, fun x hx => ⟨(hf x hx).sx, (hf x hx).ap⟩⟩

/-- What is the call's own stays where an elder block grows. -/
theorem row_elder {w w' : World} {N size n : Nat} {e : TypeId} {v : Value} {xs : List Value} {row : Option Nat} (h : w.ownsRow N e size v n xs) (hg : w.grownBy w' row) (hr : ∀ b, row = some b → b < N) : w'.ownsRow N e size v n xs := by
  refine ⟨h.1, ?_⟩
  rcases h.2 with hn | ⟨b, cap, cur, hv, hN, hh, rest⟩
  · exact .inl hn
  · refine .inr ⟨b, cap, cur, hv, hN, ?_, rest⟩
    rw [hg.block b (Array.getElem?_eq_some_iff.1 hh).1 (fun e => by have := hr b e.symm; omega)]
    exact hh
/-- A configuration of the call's own. -/
structure Own12 (N : Nat) (w : World) (c : Cf) (vE vR vA vP : Value) (l : List Pw) : Prop where
  e : Sown N w vE c.els
  r : Sown N w vR c.reps
  a : Sown N w vA c.ats
  p : Po N w vP l
  f : ∀ x ∈ l, Fp N w x
  m : pes l = c.per
def Cow (N : Nat) (w : World) (v : Value) (c : Cf) : Prop := ∃ vE vR vA vP l, v = confV c vE vR vA vP ∧ Own12 N w c vE vR vA vP l
theorem Own12.cp {N : Nat} {w : World} {c : Cf} {vE vR vA vP : Value} {l : List Pw} (h : Own12 N w c vE vR vA vP l) : Cp w w.heap.size c vE vR vA vP l := ⟨sv_own h.e, sv_own h.r, sv_own h.a, h.p.pv, h.m⟩
theorem Own12.below {N : Nat} {w w' : World} {c : Cf} {vE vR vA vP : Value} {l : List Pw} (h : Own12 N w c vE vR vA vP l) (hb : Below w.heap.size w w') : Own12 N w' c vE vR vA vP l :=
  ⟨h.e.below hb (Nat.le_refl _), h.r.below hb (Nat.le_refl _), h.a.below hb (Nat.le_refl _), h.p.below hb, fun x hx => (h.f x hx).below hb, h.m⟩
theorem Own12.mono {N M : Nat} {w : World} {c : Cf} {vE vR vA vP : Value} {l : List Pw} (h : Own12 N w c vE vR vA vP l) (hN : M ≤ N) : Own12 M w c vE vR vA vP l :=
  ⟨h.e.mono hN, h.r.mono hN, h.a.mono hN, ⟨World.ownsRow.mono h.p.1 hN, fun x hx => ⟨(h.p.2 x hx).1, (h.f x hx).ap⟩⟩, fun x hx => (h.f x hx).mono hN, h.m⟩
theorem Own12.boxed {N g : Nat} {w w' : World} {c : Cf} {vE vR vA vP : Value} {l : List Pw} {cs : Array Value} (h : Own12 N w c vE vR vA vP l) (hb : Hb w g cs) (hg : w.grownBy w' (some g)) : Own12 N w' c vE vR vA vP l :=
  have hf : ∀ x ∈ l, Fp N w' x := fun x hx => own_boxed (h.f x hx) hb hg
  ⟨own_boxed h.e hb hg, own_boxed h.r hb hg, own_boxed h.a hb hg, po_of (row_boxed h.p.1 (by decide) hb hg) hf, hf, h.m⟩
theorem Cow.cv {N : Nat} {w : World} {v : Value} {c : Cf} (h : Cow N w v c) : Cv w w.heap.size v c := by
  obtain ⟨vE, vR, vA, vP, l, e, h⟩ := h
  exact ⟨vE, vR, vA, vP, l, e, h.cp⟩
theorem Cow.below {N : Nat} {w w' : World} {v : Value} {c : Cf} (h : Cow N w v c) (hb : Below w.heap.size w w') : Cow N w' v c := by
  obtain ⟨vE, vR, vA, vP, l, e, h⟩ := h
  exact ⟨vE, vR, vA, vP, l, e, h.below hb⟩
theorem Cow.mono {N M : Nat} {w : World} {v : Value} {c : Cf} (h : Cow N w v c) (hN : M ≤ N) : Cow M w v c := by
  obtain ⟨vE, vR, vA, vP, l, e, h⟩ := h
  exact ⟨vE, vR, vA, vP, l, e, h.mono hN⟩
theorem po_shape {N : Nat} {w : World} {v : Value} {l : List Pw} (h : Po N w v l) : ∃ A n c, v = .slice A n c := by
  obtain ⟨A, c, e, _⟩ := h.form
  exact ⟨A, _, c, e⟩
/-- A result that is a configuration, in its box: written there, and read. -/
theorem res_box {w : World} {g : Nat} {cs : Array Value} {c : Cf} {vE vR vA vP : Value} (h : Hb w g cs) (hc : cs.size = 8) :
    ∃ W, W = w.setCells g 0 [.bool c.allow, .bool c.attrsAllow, vE, vR, vA, vP, .bool c.comments, .bool c.dataAttrs] ∧ w.grownBy W (some g) ∧ Bx W g c vE vR vA vP :=
  ⟨_, rfl, gcells12 g _ 0 w, World.rangeAt_setCells_same w g 0 [.bool c.allow, .bool c.attrsAllow, vE, vR, vA, vP, .bool c.comments, .bool c.dataAttrs] (h.there 8 hc.symm)⟩

end Go.Proofs.Ytdjkeakagmgfgaa.Co

namespace Go.Proofs.Ytdjkeakagmgfgaa.Co
set_option maxRecDepth 100000
set_option linter.unusedVariables false
set_option linter.unusedSimpArgs false
open Go.RowKit Ba Fm Fo Nm Rk
theorem in_snoc (l : List ByteArray) (s : ByteArray) (k : Nat) (h : k < l.length) (hn : ¬ s ∈ l.take k) (he : l[k] ≠ s) : ¬ s ∈ l.take (k + 1) := by
  rw [List.take_succ_eq_append_getElem h, List.mem_append]
  rintro (h' | h')
  · exact hn h'
  · exact he (List.mem_singleton.1 h').symm
set_option maxHeartbeats 400000 in
theorem among_any (A : Option Addr) (c N : Nat) (l : List ByteArray) (s : ByteArray) (w : World) (hr : Rd w N A l) (hl : l.length ≤ 8796093022208) :
    Calls Try.prog 47 #[.slice A l.length c, .string s] w fun e w' => e = .returned (.bool (isIn s l)) ∧ w = w' := by
  go_enter Try.func47, Try.ntmps47
  go_wp2
  go_loop [6, 9] (fun _ i => ∃ k : Nat, i = .int .i64 k ∧ k ≤ l.length ∧ ¬ s ∈ l.take k) (fun _ i => l.length - (intOf i).toNat)
  case atStart => exact ⟨0, rfl, Nat.zero_le _, by simp⟩
  case round =>
    obtain ⟨k, rfl, hks, hn⟩ := hrel
    have HN := Lib.hid hn; clear hn
    by_cases hp : k < l.length
    · obtain ⟨b, off, rfl, _, hc⟩ := hr (by omega)
      have hcell := hc k hp
      clear hc hr
      have heq := eq_of_toList (a := l[k]) (b := s)
      by_cases he : l[k] = s
      · rw [decide_eq_true he] at heq
        have HE := Lib.hid he; clear he
        go_wp2
        go_ret
        exact ⟨ret_bool (isIn_yes (by have := HE.out; rw [← this]; exact List.getElem_mem _)).symm, rfl⟩
      · rw [decide_eq_false he] at heq
        have HE := Lib.hid he; clear he
        go_wp2
        go_round
        case rel => exact ⟨k + 1, by go_num, by omega, in_snoc l s k hp HN.out HE.out⟩
        case measure => simp [intOf]; omega
    · go_wp2
      go_ret
      refine ⟨ret_bool (isIn_no ?_).symm, rfl⟩
      have := HN.out
      rwa [List.take_of_length_le (by omega)] at this
theorem among1 (v : Value) (N : Nat) (l : List ByteArray) (s : ByteArray) (w : World) (q : Bool) (h : Sv w N v l) (hl : l.length ≤ 1000000) (hq : isIn s l = q) :
    Calls Try.prog 47 #[v, .string s] w fun e w' => e = .returned (.bool q) ∧ w = w' := by
  obtain ⟨A, c, rfl, _, _, hr⟩ := h
  subst hq
  exact among_any A c N l s w hr (by omega)
theorem among_q (v : Value) (N : Nat) (l : List ByteArray) (s : ByteArray) (w : World) (q : Bool) (h : Sv w N v l) (hl : l.length ≤ 1000000) (hq : isIn s l = q) (n : Nat) :
    Calls Try.prog 47 #[v, .string s] (w.drewN n) fun e w'' => e = .returned (.bool q) ∧ ∃ m, w'' = w.drewN m :=
  (among1 v N l s (w.drewN n) q h hl hq).mono fun e w' ⟨he, hw⟩ => ⟨he, n, hw.symm⟩
theorem equal1 (a b : ByteArray) (w : World) (q : Bool) (hq : decide (a = b) = q) :
    Calls Try.prog 85 #[.string a, .string b] w fun e w' => e = .returned (.bool q) ∧ w = w' := by
  have h := (eq_of_toList (a := a) (b := b)).trans hq
  clear hq
  go_enter Try.func85, Try.ntmps85
  go_wp2
  go_ret
  exact ⟨rfl, rfl⟩
theorem data_short {a : ByteArray} (h : ¬ 5 < a.size) : dataB a = false := by
  unfold dataB
  rw [decide_eq_false h]; rfl
theorem data_long {a : ByteArray} (h : 5 < a.size) : dataB a = ((a.extract 0 5).toList == dataL) := by
  unfold dataB
  rw [decide_eq_true h, Bool.true_and, toList_L, L_extract, List.drop_zero]
  rw [Bool.eq_iff_iff, decide_eq_true_iff, beq_iff_eq]
theorem isData1 (a : ByteArray) (w : World) (q : Bool) (ha : a.size ≤ 140737488355328) (hq : dataB a = q) :
    Calls Try.prog 68 #[.string a] w fun e w' => e = .returned (.bool q) ∧ w = w' := by
  by_cases h : 5 < a.size
  · rw [data_long h] at hq
    unfold dataL at hq
    have h1 : (5 : Int) < (a.size : Int) := by omega
    have h2 : decide (5 < a.size) = true := decide_eq_true h
    go_enter Try.func68, Try.ntmps68
    cases q with
    | true =>
      go_wp2
      go_ret
      exact ⟨rfl, rfl⟩
    | false =>
      go_wp2
      go_ret
      exact ⟨rfl, rfl⟩
  · rw [data_short h] at hq
    subst hq
    have h1 : ¬ (5 : Int) < (a.size : Int) := by omega
    have h2 : decide (5 < a.size) = false := decide_eq_false h
    go_enter Try.func68, Try.ntmps68
    go_wp2
    go_ret
    exact ⟨rfl, rfl⟩

theorem element1 (v : Value) (c : Cf) (s : ByteArray) (w : World) (q : Nat) (h : Cv w w.heap.size v c) (hs : Sm c) (hq : elementN c s = q) :
    Calls Try.prog 26 #[v, .string s] w fun e w' => e = .returned (.int .i64 q) ∧ Below w.heap.size w w' := by
  obtain ⟨vE, vR, vA, vP, l, rfl, h⟩ := h
  unfold elementN at hq
  have hb1 := below_new12 w (confO c vE vR vA vP)
  have hbx := (Bx.new w c vE vR vA vP).at_
  obtain ⟨_, _, _, _, _, _, _, _⟩ := hbx
  have hr := sv_on h.r hb1
  have he := sv_on h.e hb1
  go_enter Try.func26, Try.ntmps26
  cases hR : isIn s c.reps with
  | true =>
    rw [hR, if_pos rfl] at hq
    subst hq
    go_wp2_with fail
    refine (among1 vR _ c.reps s _ true hr (by have := hs.r; omega) hR).mono ?_
    rintro e w1 ⟨rfl, rfl⟩
    go_wp2
    go_ret
    exact ⟨rfl, hb1⟩
  | false =>
    rw [hR, if_neg (by simp)] at hq
    go_wp2_with fail
    refine (among1 vR _ c.reps s _ false hr (by have := hs.r; omega) hR).mono ?_
    rintro e w1 ⟨rfl, rfl⟩
    obtain ⟨b, hE⟩ : ∃ b, isIn s c.els = b := ⟨_, rfl⟩
    rw [hE] at hq
    have HQ := Lib.hid (among_q vE _ c.els s _ b he (by have := hs.e; omega) hE)
    clear he hE
    cases hbc : (b == c.allow) with
    | true =>
      rw [if_pos (eq_of_beq hbc)] at hq
      subst hq
      go_wp2
      go_quiet ((go_at_call 47; exact HQ.out _))
      go_wp2
      go_ret
      exact ⟨rfl, below_dN hb1 _⟩
    | false =>
      rw [if_neg (fun e => by rw [e] at hbc; simp at hbc)] at hq
      subst hq
      go_wp2
      go_quiet ((go_at_call 47; exact HQ.out _))
      go_wp2
      go_ret
      exact ⟨rfl, below_dN hb1 _⟩

theorem any_snoc {α : Type} (p : α → Bool) (l : List α) (k : Nat) (x : α) (h : l[k]? = some x) : (l.take (k + 1)).any p = ((l.take k).any p || p x) := by
  have hk : k < l.length := (List.getElem?_eq_some_iff.1 h).1
  have hx : l[k] = x := (List.getElem?_eq_some_iff.1 h).2
  rw [List.take_succ_eq_append_getElem hk, List.any_append, hx]
  simp
theorem any_yes {α : Type} (p : α → Bool) (l : List α) (x : α) (h : x ∈ l) (hp : p x = true) : l.any p = true := List.any_eq_true.2 ⟨x, h, hp⟩
set_option maxRecDepth 100000 in
set_option maxHeartbeats 2000000 in
theorem named1 (v : Value) (c : Cf) (e a : ByteArray) (w : World) (q : Bool) (h : Cv w w.heap.size v c) (hs : Sm c) (hq : namedB c e a = q) :
    Calls Try.prog 67 #[v, .string e, .string a] w fun r w' => r = .returned (.bool q) ∧ Below w.heap.size w w' := by
  obtain ⟨vE, vR, vA, vP, l, rfl, h⟩ := h
  obtain ⟨w0, hw0⟩ : ∃ w0, w.alloc (confO c vE vR vA vP) = w0 := ⟨_, rfl⟩
  have hb1 : Below w.heap.size w w0 := hw0 ▸ below_new12 w (confO c vE vR vA vP)
  have hbx : Bx w0 w.heap.size c vE vR vA vP := hw0 ▸ Bx.new w c vE vR vA vP
  have hz : w.heap.size < w0.heap.size := by rw [← hw0]; simp
  have HW := Lib.hid hw0; clear hw0
  obtain ⟨A, cp, rfl, hcp, hna, hr⟩ := h.p
  have hl : l.length ≤ 1000 := by have := hs.p; rw [← h.m, len_pes] at this; exact this
  have hmap : namedB c e a = (l.any (fun x => decide (x.pe.el = e) && isIn a x.pe.at_) || isIn a c.ats) := by
    unfold namedB
    rw [← h.m]
    unfold pes
    rw [List.any_map]
    rfl
  rw [hmap] at hq
  obtain ⟨p, hp⟩ : ∃ p : Pw → Bool, p = fun x => decide (x.pe.el = e) && isIn a x.pe.at_ := ⟨_, rfl⟩
  rw [← hp] at hq
  have HP := Lib.hid hp; clear hp hmap
  have hva := h.a
  have hlen : ∀ x ∈ l, x.pe.at_.length ≤ 1000 := fun x hx => hs.pa _ (by rw [← h.m]; exact List.mem_map.2 ⟨x, hx, rfl⟩)
  have HLEN := Lib.hid hlen; clear hlen
  have HQ := Lib.hid hq; clear hq
  go_enter Try.func67, Try.ntmps67
  go_wp2
  rw [HW.out]
  go_loopw [8, 12] (fun _ i wr => ∃ k : Nat, i = .int .i64 k ∧ k ≤ l.length ∧ (l.take k).any p = false ∧ Below w0.heap.size w0 wr) (fun _ i _ => l.length - (intOf i).toNat)
  case atStart => exact ⟨0, rfl, Nat.zero_le _, rfl, Below.refl _ _⟩
  case round =>
    obtain ⟨k, rfl, hks, hn, hbel⟩ := hrel
    by_cases hk : k < l.length
    · have hr1 := hr.below (hb1.trans (hbel.mono (Nat.le_of_lt hz)))
      obtain ⟨b, off, x, rfl, hb, hx, hcs, hsx, hxm⟩ := hr1.at_ k hk
      obtain ⟨g0, g1⟩ := range2p hcs
      have hxl := HLEN.out x hxm
      have hsn := any_snoc p l k x hx
      rw [hn, Bool.false_or] at hsn
      have hpx : p x = (decide (x.pe.el = e) && isIn a x.pe.at_) := by rw [HP.out]
      have hsx1 : Sx (wr.alloc (perO x)) w.heap.size x := hsx.below (below_new12 wr (perO x)) (Nat.le_trans (Nat.le_of_lt hz) hbel.size)
      have hbel1 := hbel.trans ((below_new12 wr (perO x)).mono hbel.size)
      clear hcs hsx hr1
      by_cases he : x.pe.el.toList = e.toList
      · have he' : x.pe.el = e := L_inj (by rw [← toList_L, ← toList_L]; exact he)
        rw [decide_eq_true he', Bool.true_and] at hpx
        obtain ⟨b1, hb1'⟩ : ∃ b1, isIn a x.pe.at_ = b1 := ⟨_, rfl⟩
        rw [hb1'] at hpx
        rw [hpx] at hsn
        have HB := Lib.hid hb1'; have HPX := Lib.hid hpx; have HSN := Lib.hid hsn; have HSX := Lib.hid hsx1; have HBL := Lib.hid hbel1
        clear hb1' hpx hsn hsx1 hbel1 he'
        cases b1 with
        | true =>
          go_wp2_with (go_at_call 47; refine (among1 _ _ x.pe.at_ a _ true HSX.out (by omega) HB.out).mono ?_; rintro r w3 ⟨rfl, rfl⟩)
          go_ret
          exact ⟨ret_bool (by rw [← HQ.out, any_yes p l x hxm HPX.out]; rfl), hb1.trans (HBL.out.mono (Nat.le_of_lt hz))⟩
        | false =>
          go_wp2_with (go_at_call 47; refine (among1 _ _ x.pe.at_ a _ false HSX.out (by omega) HB.out).mono ?_; rintro r w3 ⟨rfl, rfl⟩)
          go_roundw
          case rel => exact ⟨k + 1, by go_num, by omega, HSN.out, HBL.out⟩
          case measure => simp [intOf]; omega
      · have he' : ¬ x.pe.el = e := fun h => he (by rw [h])
        rw [decide_eq_false he', Bool.false_and] at hpx
        rw [hpx] at hsn
        have HSN := Lib.hid hsn; have HBL := Lib.hid hbel1
        clear hpx hsn hsx1 hbel1 he'
        go_wp2
        go_roundw
        case rel => exact ⟨k + 1, by go_num, by omega, HSN.out, HBL.out⟩
        case measure => simp [intOf]; omega
    · rw [List.take_of_length_le (by omega)] at hn
      have hc4 := (hbx.below hbel hz).at_.2.2.2.2.1
      have hva' := sv_on hva (hb1.trans (hbel.mono (Nat.le_of_lt hz)))
      obtain ⟨b1, hb1'⟩ : ∃ b1, isIn a c.ats = b1 := ⟨_, rfl⟩
      have hq' := HQ.out
      rw [hn, Bool.false_or, hb1'] at hq'
      subst hq'
      have HB := Lib.hid hb1'; clear hb1'
      have HBL := Lib.hid hbel
      clear hbel hn HQ
      go_wp2_with (go_at_call 47; refine (among1 _ _ c.ats a _ _ hva' (by have := hs.a; omega) HB.out).mono ?_; rintro r w3 ⟨rfl, rfl⟩)
      go_ret
      exact ⟨rfl, hb1.trans (HBL.out.mono (Nat.le_of_lt hz))⟩

end Go.Proofs.Ytdjkeakagmgfgaa.Co

namespace Go.Proofs.Ytdjkeakagmgfgaa.Fo
set_option maxRecDepth 100000
set_option linter.unusedSimpArgs false
set_option linter.unusedVariables false
open Go.RowKit Ba Fm
theorem has_snoc (l : List ByteArray) (s : ByteArray) (k : Nat) (h : k < l.length) (hn : ¬ s ∈ l.take k) (he : l[k] ≠ s) : ¬ s ∈ l.take (k + 1) := by
  rw [List.take_succ_eq_append_getElem h, List.mem_append]
  rintro (h' | h')
  · exact hn h'
  · exact he (List.mem_singleton.1 h').symm

set_option maxHeartbeats 400000 in
theorem has_any (A : Option Addr) (c N : Nat) (l : List ByteArray) (s : ByteArray) (w : World) (hr : Rd w N A l) (hl : l.length ≤ 8796093022208) :
    Calls Try.prog 53 #[.slice A l.length c, .string s] w fun e w' => e = .returned (.bool (isIn s l)) ∧ w = w' := by
  go_enter Try.func53, Try.ntmps53
  go_wp2
  go_loop [5] (fun i => ∃ k : Nat, i = .int .i64 k ∧ k ≤ l.length ∧ ¬ s ∈ l.take k) (fun i => l.length - (intOf i).toNat)
  case atStart => exact ⟨0, rfl, Nat.zero_le _, by simp⟩
  case round =>
    obtain ⟨k, rfl, hks, hn⟩ := hrel
    have HN := Lib.hid hn; clear hn
    by_cases hp : k < l.length
    · obtain ⟨b, off, rfl, _, hc⟩ := hr (by omega)
      have hcell := hc k hp
      clear hc hr
      have heq := eq_of_toList (a := l[k]) (b := s)
      by_cases he : l[k] = s
      · rw [decide_eq_true he] at heq
        have HE := Lib.hid he; clear he
        go_wp2
        go_ret
        exact ⟨ret_bool (isIn_yes (by have := HE.out; rw [← this]; exact List.getElem_mem _)).symm, rfl⟩
      · rw [decide_eq_false he] at heq
        have HE := Lib.hid he; clear he
        go_wp2
        go_round
        case rel => exact ⟨k + 1, by go_num, by omega, has_snoc l s k hp HN.out HE.out⟩
        case measure => simp [intOf]; omega
    · go_wp2
      go_ret
      refine ⟨ret_bool (isIn_no ?_).symm, rfl⟩
      have := HN.out
      rwa [List.take_of_length_le (by omega)] at this

end Go.Proofs.Ytdjkeakagmgfgaa.Fo

namespace Go.Proofs.Ytdjkeakagmgfgaa.Co
set_option maxRecDepth 100000
set_option linter.unusedVariables false
set_option linter.unusedSimpArgs false
open Go.RowKit Ba Fm Fo Nm Rk
set_option maxRecDepth 100000 in
set_option maxHeartbeats 2000000 in
theorem attr1 (v : Value) (c : Cf) (e a : ByteArray) (w : World) (q : Bool) (h : Cv w w.heap.size v c) (hs : Sm c) (ha : a.size ≤ 140737488355328) (hq : attrB12 c e a = q) :
    Calls Try.prog 35 #[v, .string e, .string a] w fun r w' => r = .returned (.bool q) ∧ Below w.heap.size w w' := by
  obtain ⟨vE, vR, vA, vP, l, rfl, h⟩ := h
  obtain ⟨al, aa, els, reps, ats, per, cm, da⟩ := c
  obtain ⟨O, hO⟩ : ∃ O : Obj, O = .cells #[.bool al, .bool aa, vE, vR, vA, vP, .bool cm, .bool da] 26 := ⟨_, rfl⟩
  have hb1 : Below w.heap.size w (w.alloc O) := below_new12 w O
  have hz : w.heap.size < (w.alloc O).heap.size := by simp
  have hbx : Bx (w.alloc O) w.heap.size ⟨al, aa, els, reps, ats, per, cm, da⟩ vE vR vA vP := by rw [hO]; exact Bx.new w ⟨al, aa, els, reps, ats, per, cm, da⟩ vE vR vA vP
  have hcv : Cv (w.alloc O) (w.alloc O).heap.size (.agg #[.bool al, .bool aa, vE, vR, vA, vP, .bool cm, .bool da]) ⟨al, aa, els, reps, ats, per, cm, da⟩ := ⟨vE, vR, vA, vP, l, rfl, h.on hb1⟩
  obtain ⟨n, hn⟩ : ∃ n, namedB ⟨al, aa, els, reps, ats, per, cm, da⟩ e a = n := ⟨_, rfl⟩
  have HN := Lib.hid (fun wx hb => named1 (.agg #[.bool al, .bool aa, vE, vR, vA, vP, .bool cm, .bool da]) ⟨al, aa, els, reps, ats, per, cm, da⟩ e a wx n (hcv.on hb) hs hn)
  have H7 := Lib.hid (fun (wx : World) (hb : Below (w.alloc O).heap.size (w.alloc O) wx) => show wx.cell? ⟨w.heap.size, 7, none⟩ = some (.bool da) from (hbx.below hb hz).at_.2.2.2.2.2.2.2)
  unfold attrB12 at hq
  rw [hn] at hq
  have HB1 := Lib.hid hb1
  clear hn hcv h hbx hb1 hs
  subst hO
  cases aa with
  | false =>
    rw [if_neg (by simp)] at hq
    subst hq
    go_enter Try.func35, Try.ntmps35
    go_wp2_with (go_at_call 67; refine (HN.out _ (Below.refl _ _)).mono ?_; rintro r w3 ⟨rfl, hb3⟩)
    go_ret
    exact ⟨rfl, bt HB1.out hb3⟩
  | true =>
    rw [if_pos rfl] at hq
    cases n with
    | true =>
      rw [Bool.true_or] at hq
      subst hq
      go_enter Try.func35, Try.ntmps35
      go_wp2_with (go_at_call 67; refine (HN.out _ (Below.refl _ _)).mono ?_; rintro r w3 ⟨rfl, hb3⟩)
      go_ret
      exact ⟨rfl, bt HB1.out hb3⟩
    | false =>
      rw [Bool.false_or] at hq
      obtain ⟨d, hd⟩ : ∃ d, dataB a = d := ⟨_, rfl⟩
      rw [hd] at hq
      have HD := Lib.hid hd; clear hd
      cases da with
      | false =>
        have hq : false = q := by rw [← hq]; rfl
        subst hq
        go_enter Try.func35, Try.ntmps35
        go_wp2_with (go_at_call 67; refine (HN.out _ (Below.refl _ _)).mono ?_; rintro r w3 ⟨rfl, hb3⟩; have g7 := H7.out _ hb3)
        go_ret
        exact ⟨rfl, bt HB1.out hb3⟩
      | true =>
        have hq : d = q := by rw [← hq]; rfl
        subst hq
        go_enter Try.func35, Try.ntmps35
        go_wp2_with (first
          | (go_at_call 67; refine (HN.out _ (Below.refl _ _)).mono ?_; rintro r w3 ⟨rfl, hb3⟩; have g7 := H7.out _ hb3)
          | (go_at_call 68; refine (isData1 a _ _ ha HD.out).mono ?_; rintro r w4 ⟨rfl, rfl⟩))
        go_ret
        exact ⟨rfl, bt HB1.out hb3⟩

end Go.Proofs.Ytdjkeakagmgfgaa.Co

namespace Go.Proofs.Ytdjkeakagmgfgaa.Ml
open Go.RowKit Go.MapKept
open Go.Maps (Keyed)
open Go.ChangeMaps (setBlock heap_setBlock_same heap_setBlock_other)
set_option linter.unusedVariables false
set_option linter.unusedSimpArgs false

/-- Block b is a map whose pairs are just those of S. -/
def Tab (P : Program) (k : TypeId) (w : World) (b : Nat) (S : Value → Value → Prop) : Prop :=
  ∃ es clock, w.heap[b]? = some (.map es clock) ∧ (∀ e ∈ es.toList, ∃ l, keyOf P k e.key = some l) ∧ ∀ x v, (∃ e ∈ es.toList, e.key = x ∧ e.val = v) ↔ S x v

theorem Tab.made (P : Program) (k : TypeId) (w : World) : Tab P k (w.alloc (.map #[] 0)) w.heap.size fun _ _ => False :=
  ⟨#[], 0, (MapKept.heap_alloc w _).1, by simp, by simp⟩
theorem Tab.congr {P : Program} {k : TypeId} {w : World} {b : Nat} {S S' : Value → Value → Prop} (h : Tab P k w b S) (e : ∀ x v, S x v ↔ S' x v) : Tab P k w b S' := by
  obtain ⟨es, c, h1, h2, h3⟩ := h
  exact ⟨es, c, h1, h2, fun x v => (h3 x v).trans (e x v)⟩
theorem Tab.kept {P : Program} {k : TypeId} {w w' : World} {b : Nat} {S : Value → Value → Prop} (h : Tab P k w b S) (e : w'.heap[b]? = w.heap[b]?) : Tab P k w' b S := by
  obtain ⟨es, c, h1, h2, h3⟩ := h
  exact ⟨es, c, e.trans h1, h2, h3⟩
theorem Tab.lt {P : Program} {k : TypeId} {w : World} {b : Nat} {S : Value → Value → Prop} (h : Tab P k w b S) : b < w.heap.size := by
  obtain ⟨es, c, h1, _⟩ := h
  exact (Array.getElem?_eq_some_iff.1 h1).1
/-- A key that is not there yet is put. -/
theorem Tab.put {P : Program} {k t e : TypeId} {w : World} {b : Nat} {S : Value → Value → Prop} (h : Tab P k w b S) (K : Keyed P k) (ht : P.underlying t = some (.map k e)) {key val : Value} {l : Lit} (hk : keyOf P k key = some l) (hne : ∀ v, ¬ S key v) :
    ∃ w', (Instr.mapUpdate t (.map (some b)) key val).run P w = .ok () w' ∧ Tab P k w' b (fun x v => S x v ∨ x = key ∧ v = val) ∧ w.grownBy w' (some b) := by
  obtain ⟨es, clock, hb, hks, hS⟩ := h
  rcases K.find w hk es.toList hks with ⟨h1, h2⟩ | ⟨j, e0, h1, h2, h3⟩
  · refine ⟨setBlock w b (.map (es.push ⟨key, val, clock⟩) (clock + 1)), ?_, ⟨_, _, heap_setBlock_same hb _, ?_, ?_⟩, ⟨rfl, rfl, rfl, by simp [setBlock], fun i _ hi => heap_setBlock_other hb _ (fun e => hi (by rw [e]))⟩⟩
    · simp [Instr.mapUpdate, run_underlying ht, MapKept.run_getObj_map hb, K.check w false hk, h1, MapKept.run_setObj_map _ hb, Result.andThen, setBlock]
    · intro x hx
      simp only [Array.toList_push, List.mem_append, List.mem_singleton] at hx
      rcases hx with hx | rfl
      · exact hks x hx
      · exact ⟨_, hk⟩
    · intro x v
      simp only [Array.toList_push, List.mem_append, List.mem_singleton]
      rw [← hS x v]
      constructor
      · rintro ⟨y, hy | rfl, rfl, rfl⟩
        · exact .inl ⟨y, hy, rfl, rfl⟩
        · exact .inr ⟨rfl, rfl⟩
      · rintro (⟨y, hy, h1, h2⟩ | ⟨rfl, rfl⟩)
        · exact ⟨y, .inl hy, h1, h2⟩
        · exact ⟨_, .inr rfl, rfl, rfl⟩
  · exact absurd ((hS key e0.val).1 ⟨e0, List.mem_of_getElem? h2, h3, rfl⟩) (hne _)
/-- 'v, ok := m[x]'. -/
theorem Tab.look {P : Program} {k t e : TypeId} {w : World} {b : Nat} {S : Value → Value → Prop} (h : Tab P k w b S) (K : Keyed P k) (ht : P.underlying t = some (.map k e)) {z : Value} (hz : (zeroValue e).run P w = .ok z w) {key : Value} {l : Lit} (hk : keyOf P k key = some l) :
    ((Instr.lookup t (.map (some b)) key true).run P w = .ok (.tuple #[z, .bool false]) w ∧ ∀ v, ¬ S key v) ∨ ∃ v, S key v ∧ (Instr.lookup t (.map (some b)) key true).run P w = .ok (.tuple #[v, .bool true]) w := by
  obtain ⟨es, clock, hb, hks, hS⟩ := h
  rcases K.find w hk es.toList hks with ⟨h1, h2⟩ | ⟨j, e0, h1, h2, h3⟩
  · refine .inl ⟨by simp [Instr.lookup, run_underlying ht, MapKept.run_getObj_map hb, K.check w _ hk, h1, hz, Result.andThen], fun v hv => ?_⟩
    obtain ⟨y, hy, e1, _⟩ := (hS key v).2 hv
    exact h2 y hy e1
  · exact .inr ⟨e0.val, (hS key e0.val).1 ⟨e0, List.mem_of_getElem? h2, h3, rfl⟩, by simp [Instr.lookup, run_underlying ht, MapKept.run_getObj_map hb, K.check w _ hk, h1, Result.andThen]⟩

/-- What an operation of such a region is there for. -/
inductive Job where
  | mk
  | val (v : Value)
  | ins (k v : Value)
def Job.out (b : Nat) : Job → Option Value
  | .mk => some (.map (some b))
  | .val v => some v
  | .ins _ _ => none

section
variable (P : Program) (k t : TypeId) (ops : Array Oper) (D : Nat → Job) (b : Nat)
/-- The slots as they are behind the first n operations. -/
def sets : Nat → Array Value → Array Value
  | 0, x => x
  | n + 1, x => match (ops[n]?).bind (·.dst), (D n).out b with
    | some d, some v => (sets n x).setIfInBounds d v
    | _, _ => sets n x
/-- The slots of what operation i comes behind hold what these yield. -/
def Knows (a : Act) (o : Oper) : Prop := ∀ e ∈ o.after.toList, e.ground = .data → ∀ q d v, ops[e.on]? = some q → q.dst = some d → (D e.on).out b = some v → a.eval (.tmp d) = v
/-- An operation does its job. -/
def Does (o : Oper) : Job → Prop
  | .mk => o.op = .makeMap t none
  | .val v => ∀ a w, Knows ops D b a o → (execOp a.eval o).run P w = .ok (.value v) w
  | .ins x v => o.dst = none ∧ (∃ e ∈ o.after.toList, e.ground = .data ∧ e.on = 0) ∧ ∃ m y z, o.op = .insert t m y z ∧ ∀ a, Knows ops D b a o → a.eval m = .map (some b) ∧ a.eval y = x ∧ a.eval z = v
/-- What holds all along. -/
structure Inv (a0 : Act) (w0 : World) (listed : Array Bool) (a : Act) (w : World) : Prop where
  size : listed.size = ops.size
  defers : a.defers = a0.defers
  room : a.tmps.size = a0.tmps.size
  holds : ∀ (i : Nat) (o : Oper) (d : Nat) (v : Value), listed[i]? = some true → ops[i]? = some o → o.dst = some d → (D i).out b = some v → a.tmps[d]? = some v
  stays : ∀ j : Nat, (∀ (i : Nat) (o : Oper), listed[i]? = some true → ops[i]? = some o → o.dst ≠ some j) → a.tmps[j]? = a0.tmps[j]?
  below : Below b w0 w
  world : (listed[0]? = some false ∧ w = w0 ∧ ∀ i x v, listed[i]? = some true → D i ≠ .ins x v) ∨ (listed[0]? = some true ∧ Tab P k w b fun x v => ∃ i, listed[i]? = some true ∧ D i = .ins x v)
end

section
variable {P : Program} {k t e : TypeId} {ops : Array Oper} {D : Nat → Job} {b : Nat} {Q : Exit → Act → World → Prop}

theorem get_set (l : Array Bool) (i j : Nat) (h : i < l.size) : (l.setIfInBounds i true)[j]? = some true ↔ j = i ∨ l[j]? = some true := by
  rw [Array.getElem?_setIfInBounds]
  by_cases e : i = j
  · subst e
    simp [h]
  · rw [if_neg e]
    exact ⟨.inr, fun h => h.resolve_left fun e' => e e'.symm⟩

theorem mem_ready {listed : Array Bool} {i : Nat} (h : i ∈ Region.ready .any ops listed) : ∃ o, ops[i]? = some o ∧ listed[i]? = some false ∧ ∀ x ∈ o.after.toList, x.ground = .data → listed[x.on]? = some true := by
  unfold Region.ready at h
  rw [List.mem_filter, Bool.and_eq_true] at h
  obtain ⟨hi, h1, h2⟩ := h
  rw [List.mem_range] at hi
  refine ⟨ops[i], Array.getElem?_eq_getElem hi, ?_, fun x hx hg => ?_⟩
  · rw [Array.getD_eq_getD_getElem?] at h1
    cases hl : listed[i]? with
    | none => rw [hl] at h1; cases h1
    | some v => rw [hl] at h1; cases v with
      | true => cases h1
      | false => rfl
  · rw [Array.getElem?_eq_getElem hi, Option.map_some, Option.getD_some, ← Array.all_toList, List.all_eq_true] at h2
    have := h2 x hx
    rw [Region.binds, hg] at this
    rw [Array.getD_eq_getD_getElem?] at this
    cases hl : listed[x.on]? with
    | none => rw [hl] at this; simp at this
    | some v => rw [hl] at this; simp at this; rw [this]

theorem ready_some {listed : Array Bool} (hord : ∀ (i : Nat) (o : Oper), ops[i]? = some o → ∀ x ∈ o.after.toList, x.on < i) (hs : listed.size = ops.size) (hr : Region.ready .any ops listed = []) : ∀ i < ops.size, listed[i]? = some true := by
  intro i
  induction i using Nat.strongRecOn with
  | ind i ih =>
    intro hi
    cases hl : listed[i]? with
    | none => rw [Array.getElem?_eq_none_iff] at hl; omega
    | some v =>
      cases v with
      | true => rfl
      | false =>
        exfalso
        have : i ∈ Region.ready .any ops listed := by
          unfold Region.ready
          rw [List.mem_filter, List.mem_range, Bool.and_eq_true]
          refine ⟨hi, by rw [Array.getD_eq_getD_getElem?, hl]; rfl, ?_⟩
          rw [Array.getElem?_eq_getElem hi, Option.map_some, Option.getD_some, ← Array.all_toList, List.all_eq_true]
          intro x hx
          have hlt := hord i _ (Array.getElem?_eq_getElem hi) x hx
          rw [Array.getD_eq_getD_getElem?, ih _ hlt (by omega)]
          simp
        rw [hr] at this
        cases this

/-- Each operation that may come up does its job, whatever came up before it. -/
theorem step {a0 : Act} {w0 : World} {listed : Array Bool} {a : Act} {w : World} {i : Nat} {o : Oper} (K : Keyed P k) (ht : P.underlying t = some (.map k e)) (hb : b = w0.heap.size)
    (hguard : o.guard = none) (hslot : ∀ d, o.dst = some d → d < a0.tmps.size) (hone : ∀ j q d, ops[j]? = some q → q.dst = some d → o.dst = some d → j = i)
    (hdoes : Does P t ops D b o (D i)) (hmk0 : D 0 = .mk) (hmk : D i = .mk → i = 0) (hout : ∀ d, o.dst = some d → ∃ v, (D i).out b = some v)
    (hkeys : ∀ j x v, D j = .ins x v → ∃ l, keyOf P k x = some l) (hdist : ∀ j x v v', D i = .ins x v → D j = .ins x v' → j = i)
    (h : Inv P k ops D b a0 w0 listed a w) (ho : ops[i]? = some o) (hl : listed[i]? = some false) (hafter : ∀ x ∈ o.after.toList, x.ground = .data → listed[x.on]? = some true) :
    o.wp P a w (fun a' w' => Inv P k ops D b a0 w0 (listed.setIfInBounds i true) a' w') Q := by
  have hlt : i < listed.size := (Array.getElem?_eq_some_iff.1 hl).1
  have hkn : Knows ops D b a o := by
    intro x hx hg q d v hq hd hv
    have := h.holds x.on q d v (hafter x hx hg) hq hd hv
    show a.tmps.getD d undef = v
    rw [Array.getD_eq_getD_getElem?, this]
    rfl
  -- the slots behind it
  have hput : ∀ (v : Value) (w' : World), (∀ d, o.dst = some d → (D i).out b = some v) → Below b w0 w' →
      ((listed.setIfInBounds i true)[0]? = some false ∧ w' = w0 ∧ (∀ j x v, (listed.setIfInBounds i true)[j]? = some true → D j ≠ .ins x v) ∨ (listed.setIfInBounds i true)[0]? = some true ∧ Tab P k w' b fun x v => ∃ j, (listed.setIfInBounds i true)[j]? = some true ∧ D j = .ins x v) →
      Inv P k ops D b a0 w0 (listed.setIfInBounds i true) (a.put o.dst v) w' := by
    intro v w' hv hbel hw
    cases hd : o.dst with
    | none =>
      refine ⟨by rw [Array.size_setIfInBounds, h.size], h.defers, h.room, ?_, ?_, hbel, hw⟩
      · intro j q d u hj hq hqd hu
        rcases (get_set listed i j hlt).1 hj with rfl | hj
        · rw [ho] at hq
          cases hq
          rw [hd] at hqd
          cases hqd
        · exact h.holds j q d u hj hq hqd hu
      · intro j hj
        exact h.stays j fun i' o' h1 h2 => hj i' o' ((get_set listed i i' hlt).2 (.inr h1)) h2
    | some d =>
      have hds : d < a.tmps.size := by rw [h.room]; exact hslot d hd
      refine ⟨by rw [Array.size_setIfInBounds, h.size], h.defers, ?_, ?_, ?_, hbel, hw⟩
      · show (a.tmps.setIfInBounds d v).size = _
        rw [Array.size_setIfInBounds, h.room]
      · intro j q d' u hj hq hqd hu
        show (a.tmps.setIfInBounds d v)[d']? = _
        rw [Array.getElem?_setIfInBounds]
        rcases (get_set listed i j hlt).1 hj with rfl | hj1
        · rw [ho] at hq
          cases hq
          rw [hd] at hqd
          cases hqd
          rw [if_pos rfl, if_pos hds, ← hu, hv d hd]
        · by_cases e : d = d'
          · subst e
            have := hone j q d hq hqd hd
            subst this
            rw [hl] at hj1
            cases hj1
          · rw [if_neg e]
            exact h.holds j q d' u hj1 hq hqd hu
      · intro j hj
        show (a.tmps.setIfInBounds d v)[j]? = _
        have hne : d ≠ j := fun e => hj i o ((get_set listed i i hlt).2 (.inl rfl)) ho (by rw [hd, e])
        rw [Array.getElem?_setIfInBounds, if_neg hne]
        exact h.stays j fun i' o' h1 h2 => hj i' o' ((get_set listed i i' hlt).2 (.inr h1)) h2
  unfold Oper.wp
  cases hD : D i with
  | mk =>
    rw [hD] at hdoes
    have e0 := hmk hD
    subst e0
    have hop : o.op = .makeMap t none := hdoes
    have hw0 : w = w0 := by
      rcases h.world with ⟨_, h2, _⟩ | ⟨h1, _⟩
      · exact h2
      · rw [hl] at h1
        cases h1
    subst hw0
    have hrun : (execOp a.eval o).run P w = .ok (.value (.map (some b))) (w.alloc (.map #[] 0)) := by
      unfold execOp
      rw [hop]
      simp [Instr.makeMap, run_underlying ht, Result.andThen, hb]
    rw [hrun]
    refine hput _ _ (fun d hd => by rw [hD]; rfl) ((Below.refl _ _).alloc (by omega) _) (.inr ⟨(get_set listed 0 0 hlt).2 (.inl rfl), ?_⟩)
    rw [hb]
    refine (Tab.made P k w).congr fun x v => ⟨fun h => h.elim, fun ⟨j, hj, hDj⟩ => ?_⟩
    rcases (get_set listed 0 j hlt).1 hj with rfl | hj
    · rw [hD] at hDj
      cases hDj
    · rcases h.world with ⟨_, _, h3⟩ | ⟨h1, _⟩
      · exact h3 j x v hj hDj
      · rw [hl] at h1
        cases h1
  | val v =>
    rw [hD] at hdoes
    rw [hdoes a w hkn]
    refine hput _ _ (fun d hd => by rw [hD]; rfl) h.below ?_
    have hno : ∀ j x u, (listed.setIfInBounds i true)[j]? = some true → D j = .ins x u → listed[j]? = some true := by
      intro j x u hj hDj
      rcases (get_set listed i j hlt).1 hj with rfl | hj
      · rw [hD] at hDj
        cases hDj
      · exact hj
    rcases h.world with ⟨h1, h2, h3⟩ | ⟨h1, h2⟩
    · by_cases e0 : i = 0
      · subst e0
        rw [hmk0] at hD
        cases hD
      · refine .inl ⟨by rw [Array.getElem?_setIfInBounds, if_neg e0]; exact h1, h2, fun j x u hj hDj => h3 j x u (hno j x u hj hDj) hDj⟩
    · exact .inr ⟨(get_set listed i 0 hlt).2 (.inr h1), h2.congr fun x u => ⟨fun ⟨j, hj, hDj⟩ => ⟨j, (get_set listed i j hlt).2 (.inr hj), hDj⟩, fun ⟨j, hj, hDj⟩ => ⟨j, hno j x u hj hDj, hDj⟩⟩⟩
  | ins x v =>
    rw [hD] at hdoes
    obtain ⟨hdst, ⟨x0, hx0, hg0, hx0'⟩, m, y, z, hop, hev⟩ := hdoes
    obtain ⟨em, ey, ez⟩ := hev a hkn
    have h0 := hafter x0 hx0 hg0
    rw [hx0'] at h0
    rcases h.world with ⟨h1, _⟩ | ⟨_, hT⟩
    · rw [h0] at h1
      cases h1
    · obtain ⟨l, hkl⟩ := hkeys i x v hD
      obtain ⟨w', hrun, hT', hg⟩ := hT.put K ht (val := v) hkl (fun u ⟨j, hj, hDj⟩ => by
        have := hdist j x v u hD hDj
        subst this
        rw [hl] at hj
        cases hj)
      have hrun2 : (execOp a.eval o).run P w = .ok .skip w' := by
        unfold execOp
        rw [hop]
        simp [em, ey, ez, hrun, Result.andThen]
      rw [hrun2]
      have hlt' := hT.lt
      refine hput _ _ (fun d hd => by rw [hdst] at hd; cases hd) (h.below.grown hg (by omega) (fun k hk => by cases hk; exact Nat.le_refl _)) (.inr ⟨(get_set listed i 0 hlt).2 (.inr h0), hT'.congr fun x' v' => ?_⟩)
      constructor
      · rintro (⟨j, hj, hDj⟩ | ⟨rfl, rfl⟩)
        · exact ⟨j, (get_set listed i j hlt).2 (.inr hj), hDj⟩
        · exact ⟨i, (get_set listed i i hlt).2 (.inl rfl), hD⟩
      · rintro ⟨j, hj, hDj⟩
        rcases (get_set listed i j hlt).1 hj with rfl | hj
        · rw [hD] at hDj
          cases hDj
          exact .inr ⟨rfl, rfl⟩
        · exact .inl ⟨j, hj, hDj⟩

theorem run_inv {a0 : Act} {w0 : World} (K : Keyed P k) (ht : P.underlying t = some (.map k e)) (hb : b = w0.heap.size)
    (hguard : ∀ (i : Nat) (o : Oper), ops[i]? = some o → o.guard = none) (hslot : ∀ (i : Nat) (o : Oper) (d : Nat), ops[i]? = some o → o.dst = some d → d < a0.tmps.size)
    (hone : ∀ (i j : Nat) (o q : Oper) (d : Nat), ops[i]? = some o → ops[j]? = some q → o.dst = some d → q.dst = some d → j = i)
    (hdoes : ∀ (i : Nat) (o : Oper), ops[i]? = some o → Does P t ops D b o (D i)) (hmk0 : D 0 = .mk) (hmk : ∀ i, D i = .mk → i = 0)
    (hout : ∀ (i : Nat) (o : Oper) (d : Nat), ops[i]? = some o → o.dst = some d → ∃ v, (D i).out b = some v)
    (hkeys : ∀ j x v, D j = .ins x v → ∃ l, keyOf P k x = some l) (hdist : ∀ i j x v v', D i = .ins x v → D j = .ins x v' → j = i)
    (hQ : ∀ listed a w, Inv P k ops D b a0 w0 listed a w → Region.ready .any ops listed = [] → Q .normal a w) :
    ∀ (fuel : Nat) (listed : Array Bool) (a : Act) (w : World), listed.toList.count false ≤ fuel → Inv P k ops D b a0 w0 listed a w → wpAny P .any ops Q fuel listed a w
  | 0, listed, a, w, hc, h => by
    have : Region.ready .any ops listed = [] := by
      cases hr : Region.ready .any ops listed with
      | nil => rfl
      | cons i r =>
        exfalso
        obtain ⟨o, ho, hl, _⟩ := mem_ready (ops := ops) (listed := listed) (i := i) (by rw [hr]; exact List.mem_cons_self)
        have := List.count_pos_iff.2 (List.mem_of_getElem? (l := listed.toList) (by simpa using hl))
        omega
    exact ⟨this, hQ listed a w h this⟩
  | fuel + 1, listed, a, w, hc, h => by
    refine ⟨hQ listed a w h, fun i hi => ?_⟩
    obtain ⟨o, ho, hl, hafter⟩ := mem_ready hi
    unfold wpOp
    rw [ho]
    have hw : Region.wanted o (yielded ops a.tmps) = true := by
      unfold Region.wanted
      rw [hguard i o ho]
    simp only [hw, if_true]
    refine .inl (Oper.wp_mono (fun a' w' h' => run_inv K ht hb hguard hslot hone hdoes hmk0 hmk hout hkeys hdist hQ fuel _ a' w' ?_ h') (step K ht hb (hguard i o ho) (fun d hd => hslot i o d ho hd) (fun j q d hq hqd hd => hone i j o q d ho hq hd hqd) (hdoes i o ho) hmk0 (hmk i) (fun d hd => hout i o d ho hd) hkeys (fun j x v v' h1 h2 => hdist i j x v v' h1 h2) h ho hl hafter))
    have hlt : i < listed.toList.length := by simpa using (Array.getElem?_eq_some_iff.1 hl).1
    have hli : listed.toList[i] = false := by
      have := (Array.getElem?_eq_some_iff.1 hl).2
      simpa using this
    have hpos := List.count_pos_iff.2 (List.mem_of_getElem? (l := listed.toList) (by simpa using hl))
    rw [Array.toList_setIfInBounds, List.count_set hlt, hli, if_pos (show (false == false) = true from rfl), if_neg (show ¬ (true == false) = true by decide)]
    omega

/-- The slots behind all. -/
theorem get_sets {x : Array Value} (hone : ∀ (i j : Nat) (o q : Oper) (d : Nat), ops[i]? = some o → ops[j]? = some q → o.dst = some d → q.dst = some d → j = i)
    (hslot : ∀ (i : Nat) (o : Oper) (d : Nat), ops[i]? = some o → o.dst = some d → d < x.size) (hout : ∀ (i : Nat) (o : Oper) (d : Nat), ops[i]? = some o → o.dst = some d → ∃ v, (D i).out b = some v) :
    ∀ n, (sets ops D b n x).size = x.size ∧ (∀ (i : Nat) (o : Oper) (d : Nat) (v : Value), i < n → ops[i]? = some o → o.dst = some d → (D i).out b = some v → (sets ops D b n x)[d]? = some v) ∧ ∀ j : Nat, (∀ (i : Nat) (o : Oper), i < n → ops[i]? = some o → o.dst ≠ some j) → (sets ops D b n x)[j]? = x[j]?
  | 0 => ⟨rfl, fun i o d v h => by omega, fun j _ => rfl⟩
  | n + 1 => by
    obtain ⟨h1, h2, h3⟩ := get_sets hone hslot hout n
    cases hn : ops[n]? with
    | none =>
      have e : sets ops D b (n + 1) x = sets ops D b n x := by rw [sets, hn]; rfl
      rw [e]
      refine ⟨h1, fun i o d v hi ho hd hv => ?_, fun j hj => h3 j fun i o hi => hj i o (by omega)⟩
      rcases Nat.lt_succ_iff_lt_or_eq.1 hi with hi | rfl
      · exact h2 i o d v hi ho hd hv
      · rw [hn] at ho
        cases ho
    | some q =>
      cases hd : q.dst with
      | none =>
        have e : sets ops D b (n + 1) x = sets ops D b n x := by rw [sets, hn, Option.bind_some, hd]
        rw [e]
        refine ⟨h1, fun i o d v hi ho hd' hv => ?_, fun j hj => h3 j fun i o hi => hj i o (by omega)⟩
        rcases Nat.lt_succ_iff_lt_or_eq.1 hi with hi | rfl
        · exact h2 i o d v hi ho hd' hv
        · rw [hn] at ho
          cases ho
          rw [hd] at hd'
          cases hd'
      | some d =>
        obtain ⟨v, hv⟩ := hout n q d hn hd
        have e : sets ops D b (n + 1) x = (sets ops D b n x).setIfInBounds d v := by rw [sets, hn, Option.bind_some, hd, hv]
        rw [e]
        have hlt : d < (sets ops D b n x).size := by rw [h1]; exact hslot n q d hn hd
        refine ⟨by rw [Array.size_setIfInBounds, h1], fun i o d' v' hi ho hd' hv' => ?_, fun j hj => ?_⟩
        · rw [Array.getElem?_setIfInBounds]
          rcases Nat.lt_succ_iff_lt_or_eq.1 hi with hi | rfl
          · have hne : d ≠ d' := fun e => by
              subst e
              have := hone i n o q d ho hn hd' hd
              omega
            rw [if_neg hne]
            exact h2 i o d' v' hi ho hd' hv'
          · rw [hn] at ho
            cases ho
            rw [hd] at hd'
            cases hd'
            rw [if_pos rfl, if_pos hlt, ← hv', hv]
        · have hne : d ≠ j := fun e => hj n q (by omega) hn (by rw [hd, e])
          rw [Array.getElem?_setIfInBounds, if_neg hne]
          exact h3 j fun i o hi => hj i o (by omega)

/-- THE REGION OF A MAP's LITERAL. -/
theorem region_lit {a0 : Act} {w : World} {id : Nat} (hm : P.follows .mixedOrders = true) (K : Keyed P k) (ht : P.underlying t = some (.map k e)) (hb : b = w.heap.size) (hn : 0 < ops.size)
    (hguard : ∀ (i : Nat) (o : Oper), ops[i]? = some o → o.guard = none) (hslot : ∀ (i : Nat) (o : Oper) (d : Nat), ops[i]? = some o → o.dst = some d → d < a0.tmps.size)
    (hone : ∀ (i j : Nat) (o q : Oper) (d : Nat), ops[i]? = some o → ops[j]? = some q → o.dst = some d → q.dst = some d → j = i)
    (hord : ∀ (i : Nat) (o : Oper), ops[i]? = some o → ∀ x ∈ o.after.toList, x.on < i)
    (hdoes : ∀ (i : Nat) (o : Oper), ops[i]? = some o → Does P t ops D b o (D i)) (hmk0 : D 0 = .mk) (hmk : ∀ i, D i = .mk → i = 0)
    (hout : ∀ (i : Nat) (o : Oper) (d : Nat), ops[i]? = some o → o.dst = some d → ∃ v, (D i).out b = some v)
    (hkeys : ∀ j x v, D j = .ins x v → ∃ l, keyOf P k x = some l) (hdist : ∀ i j x v v', D i = .ins x v → D j = .ins x v' → j = i)
    (hQ : ∀ w', Below b w.drew w' → Tab P k w' b (fun x v => ∃ i < ops.size, D i = .ins x v) → Q .normal ⟨sets ops D b ops.size a0.tmps, a0.defers⟩ w') :
    (Code.region id ops true).wp P Q a0 w := by
  refine wp_region_any hm (run_inv (w0 := w.drew) K ht hb hguard hslot hone hdoes hmk0 hmk hout hkeys hdist ?_ _ _ _ _ ?_ ?_)
  · intro listed a w' h hr
    have hall := ready_some hord h.size hr
    have hT : Tab P k w' b fun x v => ∃ i < ops.size, D i = .ins x v := by
      rcases h.world with ⟨h1, _⟩ | ⟨_, h2⟩
      · rw [hall 0 hn] at h1
        cases h1
      · refine h2.congr fun x v => ⟨fun ⟨i, hi, hD⟩ => ⟨i, ?_, hD⟩, fun ⟨i, hi, hD⟩ => ⟨i, hall i hi, hD⟩⟩
        have := (Array.getElem?_eq_some_iff.1 hi).1
        rw [h.size] at this
        exact this
    obtain ⟨s1, s2, s3⟩ := get_sets (ops := ops) (D := D) (b := b) (x := a0.tmps) hone hslot hout ops.size
    have htm : a.tmps = sets ops D b ops.size a0.tmps := by
      apply Array.ext_getElem?
      intro j
      by_cases hj : ∃ (i : Nat) (o : Oper), ops[i]? = some o ∧ o.dst = some j
      · obtain ⟨i, o, ho, hd⟩ := hj
        obtain ⟨v, hv⟩ := hout i o j ho hd
        have hi : i < ops.size := (Array.getElem?_eq_some_iff.1 ho).1
        rw [h.holds i o j v (hall i hi) ho hd hv, s2 i o j v hi ho hd hv]
      · rw [h.stays j fun i o _ ho hd => hj ⟨i, o, ho, hd⟩, s3 j fun i o _ ho hd => hj ⟨i, o, ho, hd⟩]
    have ha : a = ⟨sets ops D b ops.size a0.tmps, a0.defers⟩ := by
      obtain ⟨x, y⟩ := a
      have h2 := h.defers
      simp only at htm h2
      rw [htm, h2]
    rw [ha]
    exact hQ w' h.below hT
  · rw [Array.toList_replicate, List.count_replicate_self]
    exact Nat.le_refl _
  · have hf : ∀ i : Nat, (Array.replicate ops.size false)[i]? ≠ some true := by
      intro i hi
      rw [Array.getElem?_replicate] at hi
      split at hi <;> cases hi
    refine ⟨by rw [Array.size_replicate], rfl, rfl, fun i o d v hi => absurd hi (hf i), fun j _ => rfl, Below.refl _ _, .inl ⟨?_, rfl, fun i x v hi => absurd hi (hf i)⟩⟩
    rw [Array.getElem?_replicate, if_pos hn]

/-! ### Keys that are pairs of strings, and all that is asked as tests. -/
def pairV (e a : ByteArray) : Value := .agg #[.string e, .string a]
theorem pairV_inj {e a e' a' : ByteArray} (h : pairV e a = pairV e' a') : e = e' ∧ a = a' := by
  unfold pairV at h
  simp only [Value.agg.injEq, Array.mk.injEq, List.cons.injEq, Value.string.injEq, and_true] at h
  exact h
def ent : Job → Option (ByteArray × ByteArray × Value)
  | .ins (.agg cs) v => match cs.toList with
    | [.string e, .string a] => some (e, a, v)
    | _ => none
  | _ => none
theorem ent_some {j : Job} {e a : ByteArray} {v : Value} (h : ent j = some (e, a, v)) : j = .ins (pairV e a) v := by
  unfold ent at h
  split at h
  · rename_i cs u
    split at h
    · rename_i e' a' hc
      cases h
      have : cs = #[.string e, .string a] := Array.toList_inj.1 hc
      rw [this]
      rfl
    · cases h
  · cases h
def isIns : Job → Bool
  | .ins _ _ => true
  | _ => false
def isMk : Job → Bool
  | .mk => true
  | _ => false
def at_ (l : List Job) (i : Nat) : Job := (l[i]?).getD (.val undef)
theorem at_mem {l : List Job} {i : Nat} (h : i < l.length) : at_ l i ∈ l := by
  unfold at_
  rw [List.getElem?_eq_getElem h]
  exact List.getElem_mem h
theorem at_out {l : List Job} {i : Nat} (h : ¬ i < l.length) : at_ l i = .val undef := by
  unfold at_
  rw [List.getElem?_eq_none (by omega)]
  rfl
def AllDo (P : Program) (t : TypeId) (ops : Array Oper) (D : Nat → Job) (b : Nat) : List Oper → List Job → Prop
  | o :: r, j :: s => Does P t ops D b o j ∧ AllDo P t ops D b r s
  | [], [] => True
  | _, _ => False
theorem allDo_at {D : Nat → Job} : ∀ {r : List Oper} {s : List Job}, AllDo P t ops D b r s → ∀ (i : Nat) (o : Oper), r[i]? = some o → Does P t ops D b o (at_ s i)
  | o :: r, j :: s, h, 0, q, hq => by
    cases hq
    exact h.1
  | o :: r, j :: s, h, i + 1, q, hq => allDo_at h.2 i q hq
  | [], [], _, i, q, hq => by cases hq
  | [], _ :: _, h, _, _, _ => h.elim
  | _ :: _, [], h, _, _, _ => h.elim

def outs (l : List Job) (i : Nat) : Bool := !isIns (at_ l i)
/-- All that is asked of the operations and the jobs but what they do. -/
def fine (ops : Array Oper) (room : Nat) (l : List Job) : Bool :=
  decide (0 < ops.size) && decide (l.length = ops.size) && (ops.toList.all fun o => o.guard.isNone) && (ops.toList.all fun o => match o.dst with | some d => decide (d < room) | none => true) &&
  ((List.range ops.size).all fun i => (ops[i]?).all fun o => o.after.toList.all fun x => decide (x.on < i)) &&
  ((List.range ops.size).all fun i => (List.range ops.size).all fun j => decide (i = j) || !((ops[i]?).bind (·.dst)).isSome || !decide ((ops[i]?).bind (·.dst) = (ops[j]?).bind (·.dst))) &&
  isMk (at_ l 0) && ((List.range ops.size).all fun i => !isMk (at_ l i) || decide (i = 0)) &&
  ((List.range ops.size).all fun i => !((ops[i]?).bind (·.dst)).isSome || outs l i) &&
  (l.all fun j => !isIns j || (ent j).isSome) &&
  ((List.range ops.size).all fun i => (List.range ops.size).all fun j => decide (i = j) || !(ent (at_ l i)).isSome || !decide ((ent (at_ l i)).map (fun x => (x.1, x.2.1)) = (ent (at_ l j)).map (fun x => (x.1, x.2.1))))

theorem knows_at {D : Nat → Job} {a : Act} {o : Oper} (h : Knows ops D b a o) (i : Nat) {d : Nat} {v : Value} (he : (⟨i, .data⟩ : Edge) ∈ o.after.toList) (hq : (ops[i]?).bind (·.dst) = some d) (hv : (D i).out b = some v) : a.eval (.tmp d) = v := by
  cases hi : ops[i]? with
  | none => rw [hi] at hq; cases hq
  | some q =>
    rw [hi, Option.bind_some] at hq
    exact h _ he rfl q d v hi hq hv
/-- An entry is put: map, key, value from slots; or the value is a constant. -/
theorem does_ins {D : Nat → Job} {o : Oper} {m y z : Nat} {x v : Value} (i0 i1 i2 : Nat) (hd : o.dst = none) (ho : o.op = .insert t (.tmp m) (.tmp y) (.tmp z)) (hi0 : i0 = 0) (h0 : (⟨i0, .data⟩ : Edge) ∈ o.after.toList) (h1 : (⟨i1, .data⟩ : Edge) ∈ o.after.toList) (h2 : (⟨i2, .data⟩ : Edge) ∈ o.after.toList)
    (q0 : (ops[i0]?).bind (·.dst) = some m) (q1 : (ops[i1]?).bind (·.dst) = some y) (q2 : (ops[i2]?).bind (·.dst) = some z) (v0 : (D i0).out b = some (.map (some b))) (v1 : (D i1).out b = some x) (v2 : (D i2).out b = some v) : Does P t ops D b o (.ins x v) := by
  subst hi0
  exact ⟨hd, ⟨_, h0, rfl, rfl⟩, _, _, _, ho, fun a h => ⟨knows_at h 0 h0 q0 v0, knows_at h i1 h1 q1 v1, knows_at h i2 h2 q2 v2⟩⟩
theorem does_insC {D : Nat → Job} {o : Oper} {m y : Nat} {x v : Value} (i0 i1 : Nat) (hd : o.dst = none) (ho : o.op = .insert t (.tmp m) (.tmp y) (.const v)) (hi0 : i0 = 0) (h0 : (⟨i0, .data⟩ : Edge) ∈ o.after.toList) (h1 : (⟨i1, .data⟩ : Edge) ∈ o.after.toList)
    (q0 : (ops[i0]?).bind (·.dst) = some m) (q1 : (ops[i1]?).bind (·.dst) = some y) (v0 : (D i0).out b = some (.map (some b))) (v1 : (D i1).out b = some x) : Does P t ops D b o (.ins x v) := by
  subst hi0
  exact ⟨hd, ⟨_, h0, rfl, rfl⟩, _, _, _, ho, fun a h => ⟨knows_at h 0 h0 q0 v0, knows_at h i1 h1 q1 v1, rfl⟩⟩
theorem does_move {D : Nat → Job} {o : Oper} {m : Nat} {v : Value} (i : Nat) (ho : o.op = .move (.tmp m) ∨ o.op = .assign (.tmp m)) (h0 : (⟨i, .data⟩ : Edge) ∈ o.after.toList) (q0 : (ops[i]?).bind (·.dst) = some m) (v0 : (D i).out b = some v) : Does P t ops D b o (.val v) := by
  intro a w h
  have := knows_at h i h0 q0 v0
  rcases ho with ho | ho
  · unfold execOp; rw [ho]; show Sem.run P (pure (Next.value (a.eval (.tmp m)))) w = _; rw [this]; rfl
  · unfold execOp; rw [ho]; show Sem.run P (pure (Next.value (a.eval (.tmp m)))) w = _; rw [this]; rfl

theorem region_pairs {a0 : Act} {w : World} {id : Nat} {l : List Job} (x : Array Value) (hm : P.follows .mixedOrders = true) (K : Keyed P k) (ht : P.underlying t = some (.map k e)) (hb : b = w.heap.size)
    (hf : fine ops a0.tmps.size l = true) (hdo : AllDo P t ops (at_ l) b ops.toList l)
    (hkeys : ∀ e a v, (e, a, v) ∈ l.filterMap ent → ∃ x, keyOf P k (pairV e a) = some x)
    (hx : sets ops (at_ l) b ops.size a0.tmps = x) (hQ : ∀ w', Below b w.drew w' → Tab P k w' b (fun x v => ∃ e a, x = pairV e a ∧ (e, a, v) ∈ l.filterMap ent) → Q .normal ⟨x, a0.defers⟩ w') :
    (Code.region id ops true).wp P Q a0 w := by
  subst hx
  unfold fine at hf
  simp only [Bool.and_eq_true] at hf
  obtain ⟨⟨⟨⟨⟨⟨⟨⟨⟨⟨f1, f2⟩, f3⟩, f4⟩, f5⟩, f6⟩, f7⟩, f8⟩, f9⟩, f10⟩, f11⟩ := hf
  have f1 := of_decide_eq_true f1
  have f2 := of_decide_eq_true f2
  have mem {i : Nat} {o : Oper} (h : ops[i]? = some o) : i < ops.size ∧ o ∈ ops.toList := ⟨(Array.getElem?_eq_some_iff.1 h).1, Array.mem_toList_iff.2 (Array.mem_of_getElem? h)⟩
  have hpairs : ∀ i x v, at_ l i = .ins x v → i < ops.size ∧ ∃ e a, x = pairV e a ∧ ent (at_ l i) = some (e, a, v) := by
    intro i x v h
    have hi : i < l.length := by
      by_cases hi : i < l.length
      · exact hi
      · rw [at_out hi] at h
        cases h
    have := List.all_eq_true.1 f10 _ (at_mem hi)
    rw [h] at this
    rw [f2] at hi
    refine ⟨hi, ?_⟩
    cases he : ent (.ins x v) with
    | none => rw [he] at this; cases this
    | some z =>
      obtain ⟨e, a, u⟩ := z
      have h2 := ent_some he
      injection h2 with h3 h4
      exact ⟨e, a, h3, by rw [h, he, h4]⟩
  refine region_lit (b := b) (D := at_ l) hm K ht hb f1 ?_ ?_ ?_ ?_ (fun i o ho => allDo_at hdo i o (by simpa using ho)) ?_ ?_ ?_ ?_ ?_ ?_
  · intro i o ho
    have := List.all_eq_true.1 f3 o (mem ho).2
    cases hg : o.guard with
    | none => rfl
    | some x => rw [hg] at this; cases this
  · intro i o d ho hd
    have := List.all_eq_true.1 f4 o (mem ho).2
    rw [hd] at this
    exact of_decide_eq_true this
  · intro i j o q d ho hq hd hqd
    have := List.all_eq_true.1 (List.all_eq_true.1 f6 i (List.mem_range.2 (mem ho).1)) j (List.mem_range.2 (mem hq).1)
    rw [ho, hq, Option.bind_some, Option.bind_some, hd, hqd] at this
    simp at this
    exact this.symm
  · intro i o ho x hx
    have := List.all_eq_true.1 f5 i (List.mem_range.2 (mem ho).1)
    rw [ho] at this
    exact of_decide_eq_true (List.all_eq_true.1 this x hx)
  · cases h : at_ l 0 with
    | mk => rfl
    | val v => rw [h] at f7; cases f7
    | ins x v => rw [h] at f7; cases f7
  · intro i h
    by_cases hi : i < ops.size
    · have := List.all_eq_true.1 f8 i (List.mem_range.2 hi)
      rw [h] at this
      simpa [isMk] using this
    · rw [at_out (by omega)] at h
      cases h
  · intro i o d ho hd
    have := List.all_eq_true.1 f9 i (List.mem_range.2 (mem ho).1)
    rw [ho, Option.bind_some, hd, outs] at this
    cases h : at_ l i with
    | mk => exact ⟨_, rfl⟩
    | val v => exact ⟨_, rfl⟩
    | ins x v => rw [h] at this; cases this
  · intro j x v h
    obtain ⟨hj, e, a, rfl, he⟩ := hpairs j x v h
    exact hkeys e a v (List.mem_filterMap.2 ⟨_, at_mem (by omega), he⟩)
  · intro i j x v v' h h'
    obtain ⟨hi, e, a, rfl, he⟩ := hpairs i x v h
    obtain ⟨hj, e', a', hx, he'⟩ := hpairs j _ v' h'
    obtain ⟨rfl, rfl⟩ := pairV_inj hx
    have := List.all_eq_true.1 (List.all_eq_true.1 f11 i (List.mem_range.2 hi)) j (List.mem_range.2 hj)
    rw [he, he'] at this
    simp at this
    exact this.symm
  · intro w' hw hT
    refine hQ w' hw (hT.congr fun x v => ⟨fun ⟨i, hi, hD⟩ => ?_, fun ⟨e, a, hx, hmem⟩ => ?_⟩)
    · obtain ⟨_, e, a, hx, he⟩ := hpairs i x v hD
      exact ⟨e, a, hx, List.mem_filterMap.2 ⟨_, at_mem (by omega), he⟩⟩
    · obtain ⟨j, hj, he⟩ := List.mem_filterMap.1 hmem
      obtain ⟨i, hi⟩ := List.getElem?_of_mem hj
      have hil : i < l.length := (List.getElem?_eq_some_iff.1 hi).1
      refine ⟨i, by omega, ?_⟩
      rw [at_, hi, Option.getD_some, ent_some he, hx]
end
end Go.Proofs.Ytdjkeakagmgfgaa.Ml
