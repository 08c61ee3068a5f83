/-
  Documents cut into tokens, in plain words, over lists of bytes: nothing of the program.
  Stage 7, in plain words: trees of tokens, and what is true of them whatever the tokens; nothing of the program.
  Stage 7, in plain words: what is true of a tree of tokens behind each of them; nothing of the program.
  The text of rows, and rows with their texts joined, in plain words.
  Stage 7, in plain words: a tree of tokens is right, normal, and small; nothing of the program.
  Stage 7, in plain words: trees of few tokens, trees behind rows, elements that close nothing; nothing of the program.
  Stage 7, in plain words: what loops over open elements (the first one first) and over attributes come to; nothing of the program.
  Walks of stage 7: the open elements from the end on (a range over a function): among, fromEnd, find.
  Walks of stage 7: closed, leftOpen, Nested, endWalls, passedOver.
  Walks of stage 5: bolting/boltingref05.Closes: what an element closes, and what ends the search.
-/
import Derived.Test.YtdplbcchkjpcdaaGreatDoorCk01
import Derived.RangeFuncBox
import Derived.RangeFuncLeaves
import Derived.RangeFuncCalls
import Derived.Shelf.Abstract
import Derived.OwnWalkIn
import Derived.TacticsInMore
import Derived.LoopNIn
import Derived.LoopIn
import Derived.Sort.BigQuietIn
import Derived.Maps.AppendAt
import Derived.Shelf.RegionOpen
namespace Go.Proofs.YtdplbcchkjpcdaaGreatDoor.Tm
set_option linter.unusedVariables false
set_option linter.unusedSimpArgs false
open Ba Fm Rm Nm
open Ro (At)
/-- What stands ahead of the first place at which p holds of the rest, and that rest. -/
def lead (p : List UInt8 → Bool) : List UInt8 → List UInt8
  | [] => []
  | c :: r => if p (c :: r) = true then [] else c :: lead p r
def trail (p : List UInt8 → Bool) : List UInt8 → List UInt8
  | [] => []
  | c :: r => if p (c :: r) = true then c :: r else trail p r
theorem lead_trail (p : List UInt8 → Bool) : ∀ l, lead p l ++ trail p l = l
  | [] => rfl
  | c :: r => by
    unfold lead trail
    split
    · rfl
    · rw [List.cons_append, lead_trail p r]
theorem lead_nil (p : List UInt8 → Bool) : lead p [] = [] := rfl
theorem trail_nil (p : List UInt8 → Bool) : trail p [] = [] := rfl
theorem lead_yes {p : List UInt8 → Bool} {c : UInt8} {r : List UInt8} (h : p (c :: r) = true) : lead p (c :: r) = [] := by unfold lead; rw [if_pos h]
theorem trail_yes {p : List UInt8 → Bool} {c : UInt8} {r : List UInt8} (h : p (c :: r) = true) : trail p (c :: r) = c :: r := by unfold trail; rw [if_pos h]
theorem lead_no {p : List UInt8 → Bool} {c : UInt8} {r : List UInt8} (h : p (c :: r) = false) : lead p (c :: r) = c :: lead p r := by
  show (if p (c :: r) = true then _ else _) = _
  rw [if_neg (by simp [h])]
theorem trail_no {p : List UInt8 → Bool} {c : UInt8} {r : List UInt8} (h : p (c :: r) = false) : trail p (c :: r) = trail p r := by
  show (if p (c :: r) = true then _ else _) = _
  rw [if_neg (by simp [h])]
theorem len_trail (p : List UInt8 → Bool) (l : List UInt8) : (trail p l).length ≤ l.length := by
  have := congrArg List.length (lead_trail p l)
  rw [List.length_append] at this
  omega
theorem len_lead (p : List UInt8 → Bool) (l : List UInt8) : (lead p l).length ≤ l.length := by
  have := congrArg List.length (lead_trail p l)
  rw [List.length_append] at this
  omega
theorem trail_cases (p : List UInt8 → Bool) : ∀ l, trail p l = [] ∨ p (trail p l) = true
  | [] => .inl rfl
  | c :: r => by
    cases h : p (c :: r) with
    | true => rw [trail_yes h]; exact .inr h
    | false => rw [trail_no h]; exact trail_cases p r

/-- One byte's property, of what begins with it. -/
def by1 (q : UInt8 → Bool) : List UInt8 → Bool
  | [] => false
  | c :: _ => q c
/-- What ends a value without quotes, a tag's name, an attribute's name. -/
def ev (c : UInt8) : Bool := c == 62 || sp c
def en (c : UInt8) : Bool := c == 47 || ev c
def ea (c : UInt8) : Bool := c == 61 || en c
def gt (c : UInt8) : Bool := c == 62
def is (q : UInt8) (c : UInt8) : Bool := c == q
abbrev upTo (q : UInt8 → Bool) (l : List UInt8) : List UInt8 := lead (by1 q) l
abbrev from_ (q : UInt8 → Bool) (l : List UInt8) : List UInt8 := trail (by1 q) l

/-- A value as it stands, and what stands trail it. -/
def quo (q : UInt8) (r : List UInt8) : List UInt8 × List UInt8 := (upTo (is q) r, (from_ (is q) r).drop 1)
def value (l : List UInt8) : List UInt8 × List UInt8 :=
  if l.head? = some 34 then quo 34 (l.drop 1) else if l.head? = some 39 then quo 39 (l.drop 1) else (upTo ev l, from_ ev l)
/-- What an attribute has trail its name, spaces passed: its value, and the rest. -/
def valued (l : List UInt8) : List UInt8 × List UInt8 :=
  if l.head? = some 61 then (dec (value (trimS (l.drop 1))).1, (value (trimS (l.drop 1))).2) else ([], l)
/-- An attribute that begins with a byte, and the rest. -/
def attr (c : UInt8) (r : List UInt8) : At × List UInt8 :=
  (⟨B (lowL (c :: upTo ea r)), B (valued (trimS (from_ ea r))).1⟩, (valued (trimS (from_ ea r))).2)
def known (l : List At) (name : ByteArray) : Bool := l.any fun a => decide (a.name = name)
/-- An attribute is added, if none has its name. -/
def put (l : List At) (a : At) : List At := if known l a.name = true then l else l ++ [a]

theorem len_from (q : UInt8 → Bool) (l : List UInt8) : (from_ q l).length ≤ l.length := len_trail _ l
theorem len_quo (q : UInt8) (r : List UInt8) : (quo q r).2.length ≤ r.length := by
  have := len_from (is q) r
  unfold quo
  rw [List.length_drop]
  omega
theorem len_value (l : List UInt8) : (value l).2.length ≤ l.length := by
  unfold value
  have h1 := len_quo 34 (l.drop 1)
  have h2 := len_quo 39 (l.drop 1)
  have h3 := len_from ev l
  rw [List.length_drop] at h1 h2
  split
  · omega
  · split
    · omega
    · exact h3
theorem len_valued (l : List UInt8) : (valued l).2.length ≤ l.length := by
  unfold valued
  have h1 := len_value (trimS (l.drop 1))
  have h2 := len_trimS (l.drop 1)
  rw [List.length_drop] at h2
  split
  · show (value _).2.length ≤ _
    omega
  · exact Nat.le_refl _
theorem len_attr (c : UInt8) (r : List UInt8) : (attr c r).2.length ≤ r.length := by
  have h1 := len_valued (trimS (from_ ea r))
  have h2 := len_trimS (from_ ea r)
  have h3 := len_from ea r
  show (valued _).2.length ≤ _
  omega

/-- A tag's attributes, from a place trail its name on: they, whether a slash is directly lead of its end, and what stands trail that; none: there is no end. -/
def attrs (self : Bool) (acc : List At) : List UInt8 → Option (List At × Bool × List UInt8)
  | [] => none
  | c :: r =>
    if c = 62 then some (acc, self, r)
    else if c = 47 ∨ sp c = true then attrs (c == 47) acc r
    else attrs false (put acc (attr c r).1) (attr c r).2
  termination_by l => l.length
  decreasing_by
    · simp
    · have := len_attr c r
      simp only [List.length_cons]
      omega
theorem attrs_nil (self : Bool) (acc : List At) : attrs self acc [] = none := by rw [attrs]
theorem attrs_end (self : Bool) (acc : List At) (r : List UInt8) : attrs self acc (62 :: r) = some (acc, self, r) := by rw [attrs, if_pos rfl]
theorem attrs_skip (self : Bool) (acc : List At) {c : UInt8} (r : List UInt8) (h : c ≠ 62) (hs : c = 47 ∨ sp c = true) : attrs self acc (c :: r) = attrs (c == 47) acc r := by rw [attrs, if_neg h, if_pos hs]
theorem attrs_attr (self : Bool) (acc : List At) {c : UInt8} (r : List UInt8) (h : c ≠ 62) (hs : ¬ (c = 47 ∨ sp c = true)) : attrs self acc (c :: r) = attrs false (put acc (attr c r).1) (attr c r).2 := by rw [attrs, if_neg h, if_neg hs]

/-- A token. -/
structure Tk where
  kind : Int
  name : ByteArray
  data : ByteArray
  attrs : List At
  self : Bool
deriving DecidableEq

def tx (d : List UInt8) : Tk := ⟨0, B [], B d, [], false⟩
/-- A text, if there is any. -/
def txt (d : List UInt8) : List Tk := if d = [] then [] else [tx d]

/-- Does the rest begin with these bytes? -/
def pre (t l : List UInt8) : Bool := decide (l.take t.length = t)
/-- Does an end tag of a name begin here? -/
def isEnd (n : List UInt8) (l : List UInt8) : Bool := pre [60, 47] l && decide (lowL ((l.drop 2).take n.length) = lowL n) && by1 en (l.drop (2 + n.length))

/-- What `<!` begins. -/
def marked (r : List UInt8) : Nat := if pre [45, 45] r = true then 4 else if lowL (r.take 7) = [100, 111, 99, 116, 121, 112, 101] ∧ by1 lr (r.drop 7) = false then 5 else 6
def slashed : List UInt8 → Nat
  | [] => 0
  | d :: _ => if lr d = true then 2 else if d = 62 then 3 else 6
/-- What begins here: 0 nothing, 1 a start tag, 2 an end tag, 3 what is skipped, 4 a comment, 5 a doctype, 6 another comment. -/
def begun : List UInt8 → Nat
  | [] => 0
  | a :: l => if a = 60 then (match l with
    | [] => 0
    | c :: r => if lr c = true then 1 else if c = 47 then slashed r else if c = 33 then marked r else if c = 63 then 6 else 0) else 0
def bg (l : List UInt8) : Bool := decide (begun l ≠ 0)
/-- A comment's end. -/
def cend (l : List UInt8) : Bool := pre [45, 45, 62] l || pre [45, 45, 33, 62] l
/-- A comment's text, and the rest, by what stands trail its beginning. -/
def comm (l : List UInt8) : List UInt8 × List UInt8 :=
  if pre [62] l = true then ([], l.drop 1) else if pre [45, 62] l = true then ([], l.drop 2)
  else (lead cend l, (trail cend l).drop (if pre [45, 45, 62] (trail cend l) = true then 3 else 4))
/-- What goes up to the next > , and the rest. -/
def closed (l : List UInt8) : List UInt8 × List UInt8 := (upTo gt l, (from_ gt l).drop 1)
/-- What stands behind the mark of another comment. -/
def marks (l : List UInt8) : List UInt8 := if l.head? = some 33 then l.drop 1 else if l.head? = some 47 then l.drop 1 else l

def rawB (n : List UInt8) : Bool := isIn (B n) rawL
def softB (n : List UInt8) : Bool := isIn (B n) softL
/-- What an element of a name has lead, if it has text alone. -/
def cont (n : List UInt8) (l : List UInt8) : List Tk × List UInt8 :=
  if rawB n = true then (txt (lead (isEnd n) l), trail (isEnd n) l)
  else if softB n = true then (txt (dec (lead (isEnd n) l)), trail (isEnd n) l)
  else ([], l)
/-- A tag from its name on. -/
def startTag (l : List UInt8) : List Tk × List UInt8 := match attrs false [] (from_ en l) with
  | none => ([], [])
  | some (bs, self, r) => (⟨1, B (lowL (upTo en l)), B [], bs, self⟩ :: (cont (lowL (upTo en l)) r).1, (cont (lowL (upTo en l)) r).2)
def endTag (l : List UInt8) : List Tk × List UInt8 := match attrs false [] (from_ en l) with
  | none => ([], [])
  | some (bs, self, r) => ([⟨2, B (lowL (upTo en l)), B [], [], false⟩], r)
/-- What begins here, and the rest. -/
def mk (l : List UInt8) : List Tk × List UInt8 :=
  if begun l = 1 then startTag (l.drop 1)
  else if begun l = 2 then endTag (l.drop 2)
  else if begun l = 3 then ([], l.drop 3)
  else if begun l = 4 then ([⟨3, B [], B (comm (l.drop 4)).1, [], false⟩], (comm (l.drop 4)).2)
  else if begun l = 5 then ([⟨4, B [], B (trimL (closed (l.drop 9)).1), [], false⟩], (closed (l.drop 9)).2)
  else if begun l = 6 then ([⟨3, B [], B (closed (marks (l.drop 1))).1, [], false⟩], (closed (marks (l.drop 1))).2)
  else ([], l)
/-- The text lead of what begins, that, and the rest. -/
def turn (l : List UInt8) : List Tk × List UInt8 := (txt (dec (lead bg l)) ++ (mk (trail bg l)).1, (mk (trail bg l)).2)

/-- The tokens of a document. -/
def cut (l : List UInt8) : List Tk :=
  if _h : (turn l).2.length < l.length then (turn l).1 ++ cut (turn l).2 else (turn l).1
  termination_by l.length
/-- The tokens of what an element of a name has. -/
def within (n l : List UInt8) : List Tk := (cont n l).1 ++ cut (cont n l).2

end Go.Proofs.YtdplbcchkjpcdaaGreatDoor.Tm

namespace Go.Proofs.YtdplbcchkjpcdaaGreatDoor.Bm
set_option linter.unusedVariables false
set_option linter.unusedSimpArgs false
open Ba Fm Nm
open Ro (At Ro)
open Tm (Tk put)
/-- The open elements (the last one first), and the rows so far. -/
structure St where
  stk : List ByteArray
  out : List Ro
/-- Attributes, of one name the first one. -/
def once (l : List At) : List At := l.foldl put []
/-- A text behind rows, joined to one that stands right ahead of it. -/
def addText (out : List Ro) (d : Int) (t : ByteArray) : List Ro :=
  match out.getLast? with
  | some y => if y.kind = 1 ∧ y.depth = d then out.dropLast ++ [⟨y.depth, y.kind, y.name, y.data ++ t, y.attrs⟩] else out ++ [⟨d, 1, ⟨#[]⟩, t, []⟩]
  | none => out ++ [⟨d, 1, ⟨#[]⟩, t, []⟩]
/-- A tag of this name is nothing. -/
def noName (n : ByteArray) : Bool := decide (n = ⟨#[]⟩) || isIn n goneL
/-- What ends the search for the element that a tag ends. -/
def endWalls (n : ByteArray) : List ByteArray := if n = n_table ∨ isIn n tableL = true then wallsL n_tr else wallsL n_p
def stepB (st : St) (t : Tk) : St :=
  if t.kind = 0 then (if t.data = ⟨#[]⟩ then st else ⟨st.stk, addText st.out st.stk.length t.data⟩)
  else if t.kind = 3 then ⟨st.stk, st.out ++ [⟨st.stk.length, 2, ⟨#[]⟩, t.data, []⟩]⟩
  else if t.kind = 1 then (if noName t.name = true then st else ⟨if isIn t.name voidL = true then openedS t.name st.stk else t.name :: openedS t.name st.stk, st.out ++ [⟨(openedS t.name st.stk).length, 0, t.name, ⟨#[]⟩, once t.attrs⟩]⟩)
  else if t.kind = 2 then (if noName t.name = true ∨ isIn t.name voidL = true then st else
    match findS [t.name] (endWalls t.name) st.stk with
    | some r => ⟨r, st.out⟩
    | none => if t.name = n_p then ⟨st.stk, st.out ++ [⟨st.stk.length, 0, n_p, ⟨#[]⟩, []⟩]⟩ else st)
  else st
def tooBig (out : List Ro) : Bool := decide (4096 < out.length) || (match out.getLast? with | some y => decide (60 ≤ y.depth) | none => false)
def treeB (st : St) : List Tk → Option (List Ro)
  | [] => some st.out
  | t :: r => if tooBig (stepB st t).out = true then none else treeB (stepB st t) r

/-- The elements around what comes behind a row, the first one first. -/
def pathStep (p : List ByteArray) (x : Ro) : List ByteArray := p.take x.depth.toNat ++ (if x.kind = 0 then [x.name] else [])
def pathFrom (p : List ByteArray) (l : List Ro) : List ByteArray := l.foldl pathStep p
theorem pathFrom_snoc (p : List ByteArray) (l : List Ro) (x : Ro) : pathFrom p (l ++ [x]) = pathStep (pathFrom p l) x := by unfold pathFrom; rw [List.foldl_append]; rfl
/-- A row may stand behind these elements. -/
def fits (p : List ByteArray) (x : Ro) : Prop :=
  0 ≤ x.depth ∧ x.depth ≤ p.length ∧ Ro.okRow x = true ∧ (∀ n, 0 < x.depth → p[x.depth.toNat - 1]? = some n → isIn n voidL = false) ∧
    (x.kind = 0 → quiet x.name (p.take x.depth.toNat).reverse ∧ isIn x.name goneL = false)
def goodFrom (p : List ByteArray) : List Ro → Prop
  | [] => True
  | x :: r => fits p x ∧ goodFrom (pathStep p x) r
theorem goodFrom_snoc : ∀ {p : List ByteArray} {l : List Ro} {x : Ro}, goodFrom p l → fits (pathFrom p l) x → goodFrom p (l ++ [x])
  | p, [], x, _, h => ⟨h, trivial⟩
  | p, y :: l, x, h, hx => ⟨h.1, goodFrom_snoc h.2 hx⟩
theorem goodFrom_init : ∀ {p : List ByteArray} {l : List Ro} {x : Ro}, goodFrom p (l ++ [x]) → goodFrom p l ∧ fits (pathFrom p l) x
  | p, [], x, h => ⟨trivial, h.1⟩
  | p, y :: l, x, h => by
    obtain ⟨h1, h2⟩ := goodFrom_init h.2
    exact ⟨⟨h.1, h1⟩, h2⟩
/-- No text is empty, no two with one parent stand side by side. -/
def calm : List Ro → Prop
  | [] => True
  | x :: r => (x.kind = 1 → x.data ≠ ⟨#[]⟩) ∧ (∀ y, r.head? = some y → ¬ (x.kind = 1 ∧ y.kind = 1 ∧ y.depth = x.depth)) ∧ calm r
theorem calm_snoc : ∀ {l : List Ro} {x : Ro}, calm l → (x.kind = 1 → x.data ≠ ⟨#[]⟩) → (∀ y, l.getLast? = some y → ¬ (y.kind = 1 ∧ x.kind = 1 ∧ x.depth = y.depth)) → calm (l ++ [x])
  | [], x, _, h1, _ => ⟨h1, (fun y h => by cases h), trivial⟩
  | [z], x, h, h1, h2 => ⟨h.1, (fun y hy => by injection hy with hy; rw [← hy]; exact h2 z rfl), h1, (fun y h => by cases h), trivial⟩
  | z :: y :: l, x, h, h1, h2 => ⟨h.1, (fun u hu => h.2.1 u hu), calm_snoc (l := y :: l) h.2.2 h1 (fun u hu => h2 u (by rw [List.getLast?_cons_cons]; exact hu))⟩
theorem calm_init : ∀ {l : List Ro} {x : Ro}, calm (l ++ [x]) → calm l ∧ (x.kind = 1 → x.data ≠ ⟨#[]⟩) ∧ (∀ y, l.getLast? = some y → ¬ (y.kind = 1 ∧ x.kind = 1 ∧ x.depth = y.depth))
  | [], x, h => ⟨trivial, h.1, fun y h => by cases h⟩
  | [z], x, h => ⟨⟨h.1, (fun y h => by cases h), trivial⟩, h.2.2.1, fun y hy => by injection hy with hy; rw [← hy]; exact h.2.1 x rfl⟩
  | z :: y :: l, x, h => by
    obtain ⟨h1, h2, h3⟩ := calm_init (l := y :: l) h.2.2
    exact ⟨⟨h.1, (fun u hu => h.2.1 u hu), h1⟩, h2, fun u hu => h3 u (by rw [List.getLast?_cons_cons] at hu; exact hu)⟩

/-- What is true behind each token. -/
structure Inv (st : St) : Prop where
  ch : chain st.stk
  nv : ∀ n ∈ st.stk, isIn n voidL = false
  le : st.stk.length ≤ (pathFrom [] st.out).length
  eq : (pathFrom [] st.out).take st.stk.length = st.stk.reverse
  good : goodFrom [] st.out
  calm : calm st.out
theorem inv_nil : Inv ⟨[], []⟩ := ⟨trivial, (fun n h => by cases h), Nat.le_refl _, rfl, trivial, trivial⟩

theorem twice_snoc (a : At) : ∀ {l : List At}, Ro.twice l = false → Tm.known l a.name = false → Ro.twice (l ++ [a]) = false := by
  intro l
  induction l with
  | nil => intro _ _; rfl
  | cons b r ih =>
    intro h hk
    unfold Tm.known at hk
    rw [List.any_cons, Bool.or_eq_false_iff] at hk
    have h : (r.any (fun c => decide (c.name = b.name)) || Ro.twice r) = false := h
    rw [Bool.or_eq_false_iff] at h
    show ((r ++ [a]).any (fun c => decide (c.name = b.name)) || Ro.twice (r ++ [a])) = false
    rw [ih h.2 hk.2, List.any_append, h.1]
    have e : (decide (a.name = b.name)) = false := decide_eq_false fun e => (of_decide_eq_false hk.1) e.symm
    simp only [List.any_cons, List.any_nil, e]
    rfl
theorem twice_put {l : List At} {a : At} (h : Ro.twice l = false) : Ro.twice (put l a) = false := by
  unfold put
  split
  · exact h
  · rename_i hk
    exact twice_snoc a h (by simpa using hk)
theorem twice_once (l : List At) : Ro.twice (once l) = false := by
  unfold once
  have : ∀ (l acc : List At), Ro.twice acc = false → Ro.twice (l.foldl put acc) = false := fun l => by
    induction l with
    | nil => intro acc h; exact h
    | cons a r ih => intro acc h; exact ih _ (twice_put h)
  exact this l [] rfl

/-- A stack that is an end of another one, held against the elements around. -/
theorem take_suffix {p s r : List ByteArray} (h : p.take s.length = s.reverse) (hr : r <:+ s) : p.take r.length = r.reverse := by
  obtain ⟨u, rfl⟩ := hr
  have h2 := congrArg (List.take r.length) h
  rw [List.take_take, List.length_append, List.reverse_append, show min r.length (u.length + r.length) = r.length from by omega, List.take_append_of_le_length (by rw [List.length_reverse]; exact Nat.le_refl _)] at h2
  rwa [List.take_of_length_le (show r.reverse.length ≤ r.length by simp)] at h2
theorem last_nv {p s : List ByteArray} (h : p.take s.length = s.reverse) (hv : ∀ n ∈ s, isIn n voidL = false) (n : ByteArray) (h0 : 0 < s.length) (hn : p[s.length - 1]? = some n) : isIn n voidL = false := by
  have h1 : (p.take s.length)[s.length - 1]? = some n := by rw [List.getElem?_take, if_pos (by omega)]; exact hn
  rw [h] at h1
  exact hv n (List.mem_reverse.1 (List.mem_of_getElem? h1))

/-- A row that stands within the open elements of an end of the stack. -/
theorem Inv.row {st : St} (h : Inv st) {r : List ByteArray} (hr : r <:+ st.stk) (x : Ro) (hd : x.depth = (r.length : Int)) (hok : Ro.okRow x = true)
    (hq : x.kind = 0 → quiet x.name r ∧ isIn x.name goneL = false) : fits (pathFrom [] st.out) x ∧ (pathFrom [] (st.out ++ [x])) = r.reverse ++ (if x.kind = 0 then [x.name] else []) := by
  have ht := take_suffix h.eq hr
  have hl := hr.length_le
  have hle := h.le
  have hdn : x.depth.toNat = r.length := by rw [hd]; simp
  refine ⟨⟨by omega, by omega, hok, fun n h0 hn => ?_, fun hk => ?_⟩, ?_⟩
  · rw [hdn] at hn
    exact last_nv ht (fun m hm => h.nv m (hr.subset hm)) n (by omega) hn
  · rw [hdn, ht, List.reverse_reverse]
    exact hq hk
  · rw [pathFrom_snoc]
    unfold pathStep
    rw [hdn, ht]

theorem text_fits {p : List ByteArray} {y : Ro} {t : ByteArray} (h : fits p y) (hk : y.kind = 1) : fits p ⟨y.depth, y.kind, y.name, y.data ++ t, y.attrs⟩ := by
  obtain ⟨h1, h2, h3, h4, h5⟩ := h
  refine ⟨h1, h2, ?_, h4, h5⟩
  unfold Ro.okRow at h3 ⊢
  have e : (y.kind == 0) = false := by rw [hk]; rfl
  rw [e, if_neg (by simp)] at h3
  show (if (y.kind == 0) = true then _ else _) = true
  rw [e, if_neg (by simp)]
  exact h3

end Go.Proofs.YtdplbcchkjpcdaaGreatDoor.Bm

namespace Go.Proofs.YtdplbcchkjpcdaaGreatDoor.Bm
set_option linter.unusedVariables false
set_option linter.unusedSimpArgs false
open Ba Fm Nm
open Ro (At Ro)
open Tm (Tk put)
/-- A row is added within an end of the open elements. -/
theorem Inv.add {st : St} (h : Inv st) {r : List ByteArray} (hr : r <:+ st.stk) (x : Ro) (hd : x.depth = (r.length : Int)) (hok : Ro.okRow x = true)
    (hq : x.kind = 0 → quiet x.name r ∧ isIn x.name goneL = false) (ht : x.kind = 1 → x.data ≠ ⟨#[]⟩ ∧ ∀ y, st.out.getLast? = some y → ¬ (y.kind = 1 ∧ x.depth = y.depth)) : Inv ⟨r, st.out ++ [x]⟩ := by
  obtain ⟨h1, h2⟩ := h.row hr x hd hok hq
  refine ⟨chain_suffix hr h.ch, fun n hn => h.nv n (hr.subset hn), ?_, ?_, goodFrom_snoc h.good h1, calm_snoc h.calm (fun hk => (ht hk).1) (fun y hy e => (ht e.2.1).2 y hy ⟨e.1, e.2.2⟩)⟩
  · rw [h2, List.length_append, List.length_reverse]; exact Nat.le_add_right _ _
  · rw [h2, List.take_append_of_le_length (by rw [List.length_reverse]; exact Nat.le_refl _)]
    exact List.take_of_length_le (by rw [List.length_reverse]; exact Nat.le_refl _)
/-- An element is added, and is open from here on. -/
theorem Inv.push {st : St} (h : Inv st) {r : List ByteArray} (hr : r <:+ st.stk) (x : Ro) (hd : x.depth = (r.length : Int)) (hok : Ro.okRow x = true) (hk : x.kind = 0)
    (hq : quiet x.name r ∧ isIn x.name goneL = false) (hv : isIn x.name voidL = false) : Inv ⟨x.name :: r, st.out ++ [x]⟩ := by
  obtain ⟨h1, h2⟩ := h.row hr x hd hok (fun _ => hq)
  rw [if_pos hk] at h2
  refine ⟨⟨hq.1, chain_suffix hr h.ch⟩, ?_, ?_, ?_, goodFrom_snoc h.good h1, calm_snoc h.calm (fun e => ?_) (fun y hy e => ?_)⟩
  · intro n hn
    rcases List.mem_cons.1 hn with e | e
    · rw [e]; exact hv
    · exact h.nv n (hr.subset e)
  · rw [h2]; simp
  · rw [h2]
    show List.take (r.length + 1) _ = _
    rw [List.take_of_length_le (by rw [List.length_append, List.length_reverse]; exact Nat.le_refl _)]
    exact List.reverse_cons.symm
  · rw [hk] at e; cases e
  · rw [hk] at e; cases e.2.1
theorem Inv.drop {st : St} (h : Inv st) {r : List ByteArray} (hr : r <:+ st.stk) : Inv ⟨r, st.out⟩ :=
  ⟨chain_suffix hr h.ch, fun n hn => h.nv n (hr.subset hn), Nat.le_trans hr.length_le h.le, take_suffix h.eq hr, h.good, h.calm⟩
theorem last_snoc {l : List Ro} {y : Ro} (h : l.getLast? = some y) : l = l.dropLast ++ [y] := by
  have hl : l ≠ [] := fun e => by rw [e] at h; cases h
  rw [List.getLast?_eq_some_getLast hl] at h
  injection h with h
  rw [← h]
  exact (List.dropLast_concat_getLast hl).symm
theorem append_ne {a b : ByteArray} (h : b ≠ ⟨#[]⟩) : a ++ b ≠ ⟨#[]⟩ := by
  intro e
  have hs : (a ++ b).size = 0 := by rw [e]; rfl
  rw [ByteArray.size_append] at hs
  apply h
  have hb : b.size = 0 := by omega
  rcases b with ⟨⟨l⟩⟩
  cases l with
  | nil => rfl
  | cons c l => exact absurd hb (by show l.length + 1 ≠ 0; omega)
theorem empty_name {s : ByteArray} (h : s.toList.isEmpty = true) : s = ⟨#[]⟩ := by
  rw [List.isEmpty_iff, toList_L] at h
  rw [← B_L s, h]
  rfl
theorem nil_empty : (⟨#[]⟩ : ByteArray).toList.isEmpty = true := by kernel_rfl
theorem ok_text {d : Int} {t : ByteArray} : Ro.okRow ⟨d, 1, ⟨#[]⟩, t, []⟩ = true := by
  show (if ((1 : Int) == 0) = true then _ else ((1 : Int) == 1 || (1 : Int) == 2) && (⟨#[]⟩ : ByteArray).toList.isEmpty && ((0 : Nat) : Int) == 0) = true
  rw [if_neg (by decide), nil_empty]
  rfl
theorem ok_note {d : Int} {t : ByteArray} : Ro.okRow ⟨d, 2, ⟨#[]⟩, t, []⟩ = true := by
  show (if ((2 : Int) == 0) = true then _ else ((2 : Int) == 1 || (2 : Int) == 2) && (⟨#[]⟩ : ByteArray).toList.isEmpty && ((0 : Nat) : Int) == 0) = true
  rw [if_neg (by decide), nil_empty]
  rfl
theorem Inv.text {st : St} (h : Inv st) {t : ByteArray} (ht : t ≠ ⟨#[]⟩) : Inv ⟨st.stk, addText st.out st.stk.length t⟩ := by
  unfold addText
  cases hy : st.out.getLast? with
  | none => exact h.add (List.suffix_refl _) _ rfl ok_text (fun e => by cases e) (fun _ => ⟨ht, fun y e => by rw [hy] at e; cases e⟩)
  | some y =>
    show Inv ⟨st.stk, if y.kind = 1 ∧ y.depth = (st.stk.length : Int) then _ else _⟩
    by_cases hc : y.kind = 1 ∧ y.depth = (st.stk.length : Int)
    · rw [if_pos hc]
      have e := last_snoc hy
      have hg := h.good
      have hl := h.le
      have he := h.eq
      have hm := h.calm
      rw [e] at hg hl he hm
      obtain ⟨g1, g2⟩ := goodFrom_init hg
      obtain ⟨m1, m2, m3⟩ := calm_init hm
      have hp : pathFrom [] (st.out.dropLast ++ [⟨y.depth, y.kind, y.name, y.data ++ t, y.attrs⟩]) = pathFrom [] (st.out.dropLast ++ [y]) := by rw [pathFrom_snoc, pathFrom_snoc]; rfl
      exact ⟨h.ch, h.nv, by rw [hp]; exact hl, by rw [hp]; exact he, goodFrom_snoc g1 (text_fits g2 hc.1), calm_snoc m1 (fun _ => append_ne ht) m3⟩
    · rw [if_neg hc]
      exact h.add (List.suffix_refl _) _ rfl ok_text (fun e => by cases e) (fun _ => ⟨ht, fun z e hz => by rw [hy] at e; injection e with e; rw [← e] at hz; exact hc ⟨hz.1, hz.2.symm⟩⟩)
theorem ok_elem {d : Int} {n : ByteArray} {a : List At} (hn : n ≠ ⟨#[]⟩) (ha : Ro.twice a = false) : Ro.okRow ⟨d, 0, n, ⟨#[]⟩, a⟩ = true := by
  show (if ((0 : Int) == 0) = true then !n.toList.isEmpty && (⟨#[]⟩ : ByteArray).toList.isEmpty && !Ro.twice a else _) = true
  rw [if_pos (by decide), nil_empty, ha]
  have : n.toList.isEmpty = false := by
    cases he : n.toList.isEmpty with
    | false => rfl
    | true => exact absurd (empty_name he) hn
  rw [this]; rfl
theorem noName_no {n : ByteArray} (h : ¬ noName n = true) : n ≠ ⟨#[]⟩ ∧ isIn n goneL = false := by
  unfold noName at h
  rw [Bool.or_eq_true, decide_eq_true_iff] at h
  exact ⟨fun e => h (Or.inl e), by cases hg : isIn n goneL with | false => rfl | true => exact absurd (Or.inr hg) h⟩
theorem Inv.start {st : St} (h : Inv st) {t : Tk} (hn : ¬ noName t.name = true) :
    Inv ⟨if isIn t.name voidL = true then openedS t.name st.stk else t.name :: openedS t.name st.stk, st.out ++ [⟨(openedS t.name st.stk).length, 0, t.name, ⟨#[]⟩, once t.attrs⟩]⟩ := by
  obtain ⟨h1, h2⟩ := noName_no hn
  have hs := openedS_suffix t.name st.stk
  have hok := ok_elem (d := (openedS t.name st.stk).length) h1 (twice_once t.attrs)
  split
  · exact h.add hs _ rfl hok (fun _ => ⟨opened_quiet h.ch, h2⟩) (fun e => by cases e)
  · rename_i hv
    exact h.push hs ⟨(openedS t.name st.stk).length, 0, t.name, ⟨#[]⟩, once t.attrs⟩ rfl hok rfl ⟨opened_quiet h.ch, h2⟩ (by simpa using hv)
theorem p_facts : endWalls n_p = wallsL n_p ∧ closesL n_p = [n_p] ∧ para n_p = false ∧ isIn n_p goneL = false ∧ n_p ≠ ⟨#[]⟩ := by decide
theorem Inv.stop {st : St} (h : Inv st) {t : Tk} : Inv (match findS [t.name] (endWalls t.name) st.stk with
    | some r => ⟨r, st.out⟩
    | none => if t.name = n_p then ⟨st.stk, st.out ++ [⟨st.stk.length, 0, n_p, ⟨#[]⟩, []⟩]⟩ else st) := by
  cases hf : findS [t.name] (endWalls t.name) st.stk with
  | some r => exact h.drop (findS_suffix hf)
  | none =>
    show Inv (if t.name = n_p then _ else _)
    by_cases e : t.name = n_p
    · rw [if_pos e]
      obtain ⟨p1, p2, p3, p4, p5⟩ := p_facts
      rw [e, p1] at hf
      exact h.add (List.suffix_refl _) _ rfl (ok_elem p5 rfl) (fun _ => ⟨⟨by rw [p2]; exact hf, fun hp => by rw [p3] at hp; cases hp⟩, p4⟩) (fun e => by cases e)
    · rw [if_neg e]; exact h
theorem Inv.step {st : St} (h : Inv st) (t : Tk) : Inv (stepB st t) := by
  unfold stepB
  by_cases k0 : t.kind = 0
  · rw [if_pos k0]
    by_cases hd : t.data = ⟨#[]⟩
    · rw [if_pos hd]; exact h
    · rw [if_neg hd]; exact h.text hd
  rw [if_neg k0]
  by_cases k3 : t.kind = 3
  · rw [if_pos k3]
    exact h.add (List.suffix_refl _) _ rfl ok_note (fun e => by cases e) (fun e => by cases e)
  rw [if_neg k3]
  by_cases k1 : t.kind = 1
  · rw [if_pos k1]
    by_cases hn : noName t.name = true
    · rw [if_pos hn]; exact h
    · rw [if_neg hn]; exact h.start hn
  rw [if_neg k1]
  by_cases k2 : t.kind = 2
  · rw [if_pos k2]
    by_cases hn : noName t.name = true ∨ isIn t.name voidL = true
    · rw [if_pos hn]; exact h
    · rw [if_neg hn]; exact h.stop
  rw [if_neg k2]; exact h

/-- A tree is good and calm. -/
theorem tree_good : ∀ {l : List Tk} {st : St} {o : List Ro}, Inv st → treeB st l = some o → goodFrom [] o ∧ calm o
  | [], st, o, h, e => by injection e with e; rw [← e]; exact ⟨h.good, h.calm⟩
  | t :: l, st, o, h, e => by
    by_cases hb : tooBig (stepB st t).out = true
    · rw [treeB, if_pos hb] at e; cases e
    · rw [treeB, if_neg hb] at e; exact tree_good (h.step t) e
/-- Rows that fit are right. -/
theorem path_len {p : List ByteArray} {x : Ro} (h0 : 0 ≤ x.depth) (h : x.depth ≤ p.length) : ((pathStep p x).length : Int) = if x.kind = 0 then x.depth + 1 else x.depth := by
  unfold pathStep
  rw [List.length_append, List.length_take]
  split <;> simp <;> omega
theorem good_right : ∀ {l : List Ro} {p : List ByteArray}, goodFrom p l → Ro.rightFrom p.length l = true
  | [], p, _ => rfl
  | x :: l, p, ⟨⟨h0, h1, h2, _, _⟩, h⟩ => by
    have := good_right h
    rw [path_len h0 h1] at this
    unfold Ro.rightFrom
    rw [this, h2, decide_eq_true h0, decide_eq_true h1]; rfl

end Go.Proofs.YtdplbcchkjpcdaaGreatDoor.Bm

namespace Go.Proofs.YtdplbcchkjpcdaaGreatDoor.Ro
set_option linter.unusedVariables false
set_option linter.unusedSimpArgs false
open Ba
/-- The data of all texts, one after the other. -/
def txt : List Ro → List UInt8
  | [] => []
  | x :: r => (if x.kind = 1 then L x.data else []) ++ txt r
theorem txt_append (a b : List Ro) : txt (a ++ b) = txt a ++ txt b := by
  induction a with
  | nil => rfl
  | cons x r ih => rw [List.cons_append, txt, ih, txt, List.append_assoc]
theorem txt_one (x : Ro) : txt [x] = if x.kind = 1 then L x.data else [] := by rw [txt, txt, List.append_nil]
theorem txt_text {x : Ro} (h : x.kind = 1) : txt [x] = L x.data := by rw [txt_one, if_pos h]
theorem txt_other {x : Ro} (h : ¬ x.kind = 1) : txt [x] = [] := by rw [txt_one, if_neg h]
theorem txt_take (l : List Ro) (k : Nat) : (txt (l.take k)).length ≤ (txt l).length := by
  have h := txt_append (l.take k) (l.drop k)
  rw [List.take_append_drop] at h
  rw [h, List.length_append]
  omega
theorem txt_drop (l : List Ro) (k : Nat) : (txt (l.drop k)).length ≤ (txt l).length := by
  have h := txt_append (l.take k) (l.drop k)
  rw [List.take_append_drop] at h
  rw [h, List.length_append]
  omega
/-- How many texts at this depth come next. -/
def nexts (d : Int) (l : List Ro) : Nat := (l.takeWhile fun y => y.kind == 1 && y.depth == d).length
/-- The rows with each text joined to the one before it, and without empty ones. -/
def normal : List Ro → List Ro
  | [] => []
  | x :: r =>
    if x.kind = 1 then
      (if txt (x :: r.take (nexts x.depth r)) = [] then [] else [⟨x.depth, 1, .empty, B (txt (x :: r.take (nexts x.depth r))), []⟩]) ++ normal (r.drop (nexts x.depth r))
    else x :: normal r
termination_by l => l.length
decreasing_by all_goals (simp [List.length_drop]; try omega)

end Go.Proofs.YtdplbcchkjpcdaaGreatDoor.Ro

namespace Go.Proofs.YtdplbcchkjpcdaaGreatDoor.Bm
set_option linter.unusedVariables false
set_option linter.unusedSimpArgs false
open Ba Fm Nm
open Ro (At Ro)
open Tm (Tk put)
theorem text_row {x : Ro} (h : Ro.okRow x = true) (hk : x.kind = 1) : x = ⟨x.depth, 1, .empty, x.data, []⟩ := by
  rw [Ro.okRow, if_neg (by rw [hk]; decide)] at h
  simp only [Bool.and_eq_true] at h
  have h1 := empty_name h.1.2
  have h2 := h.2
  obtain ⟨d, k, n, t, a⟩ := x
  simp only at hk h1 h2 ⊢
  subst hk
  subst h1
  cases a with
  | nil => rfl
  | cons u r =>
    exfalso
    rw [beq_iff_eq, List.length_cons] at h2
    omega
theorem good_ok : ∀ {l : List Ro} {p : List ByteArray}, goodFrom p l → ∀ x ∈ l, Ro.okRow x = true
  | [], p, _, x, h => by cases h
  | y :: l, p, h, x, hx => by
    rcases List.mem_cons.1 hx with e | e
    · rw [e]; exact h.1.2.2.1
    · exact good_ok h.2 x e
theorem calm_normal : ∀ {l : List Ro}, calm l → (∀ x ∈ l, Ro.okRow x = true) → Ro.normal l = l
  | [], _, _ => by rw [Ro.normal]
  | x :: l, h, hok => by
    have ih := calm_normal h.2.2 fun y hy => hok y (List.mem_cons_of_mem _ hy)
    rw [Ro.normal]
    by_cases hk : x.kind = 1
    · have hn : Ro.nexts x.depth l = 0 := by
        unfold Ro.nexts
        cases l with
        | nil => rfl
        | cons y r =>
          have hy := h.2.1 y rfl
          have e : (y.kind == 1 && y.depth == x.depth) = false := by
            cases he : (y.kind == 1 && y.depth == x.depth) with
            | false => rfl
            | true =>
              rw [Bool.and_eq_true, beq_iff_eq, beq_iff_eq] at he
              exact absurd ⟨hk, he.1, he.2⟩ hy
          rw [List.takeWhile_cons_of_neg (by rw [e]; simp)]
          rfl
      have ht : Ro.txt (x :: l.take 0) = L x.data := by
        show (if x.kind = 1 then L x.data else []) ++ [] = _
        rw [if_pos hk, List.append_nil]
      rw [if_pos hk, hn, ht, if_neg (fun e => h.1 hk (empty_name (by rw [toList_L, e]; rfl))), B_L, List.drop_zero, ih, ← text_row (hok x List.mem_cons_self) hk]
      rfl
    · rw [if_neg hk, ih]

/-- No row is too deep, and they aren't too many. -/
def small (l : List Ro) : Prop := l.length ≤ 4096 ∧ ∀ y ∈ l, y.depth < 60
theorem small_of {o : List Ro} {x : Ro} (h : small o) (hb : ¬ tooBig (o ++ [x]) = true) : small (o ++ [x]) := by
  unfold tooBig at hb
  rw [Bool.or_eq_true, not_or, decide_eq_true_iff, List.getLast?_append] at hb
  refine ⟨by omega, fun z hz => ?_⟩
  rcases List.mem_append.1 hz with hz | hz
  · exact h.2 z hz
  · rw [List.mem_singleton.1 hz]
    have := hb.2
    simp at this
    omega
theorem small_add {st : St} {d : Int} {t : ByteArray} (h : small st.out) (hb : ¬ tooBig (addText st.out d t) = true) : small (addText st.out d t) := by
  unfold addText at hb ⊢
  cases hy : st.out.getLast? with
  | none =>
    rw [hy] at hb
    exact small_of h hb
  | some y =>
    rw [hy] at hb
    show small (if y.kind = 1 ∧ y.depth = d then _ else _)
    by_cases hc : y.kind = 1 ∧ y.depth = d
    · rw [if_pos hc]
      have e := last_snoc hy
      refine ⟨?_, fun z hz => ?_⟩
      · have := h.1
        rw [e, List.length_append] at this
        rw [List.length_append]; exact this
      · rcases List.mem_append.1 hz with hz | hz
        · exact h.2 z (by rw [e]; exact List.mem_append_left _ hz)
        · rw [List.mem_singleton.1 hz]
          exact h.2 y (by rw [e]; exact List.mem_append_right _ (List.mem_singleton.2 rfl))
    · rw [if_neg hc]
      have hb : ¬ tooBig (if y.kind = 1 ∧ y.depth = d then _ else _) = true := hb
      rw [if_neg hc] at hb
      exact small_of h hb
theorem small_step {st : St} {t : Tk} (h : small st.out) (hb : ¬ tooBig (stepB st t).out = true) : small (stepB st t).out := by
  unfold stepB at hb ⊢
  by_cases k0 : t.kind = 0
  · rw [if_pos k0] at hb ⊢
    by_cases hd : t.data = ⟨#[]⟩
    · rw [if_pos hd]; exact h
    · rw [if_neg hd] at hb ⊢; exact small_add h hb
  rw [if_neg k0] at hb ⊢
  by_cases k3 : t.kind = 3
  · rw [if_pos k3] at hb ⊢; exact small_of h hb
  rw [if_neg k3] at hb ⊢
  by_cases k1 : t.kind = 1
  · rw [if_pos k1] at hb ⊢
    by_cases hn : noName t.name = true
    · rw [if_pos hn]; exact h
    · rw [if_neg hn] at hb ⊢; exact small_of h hb
  rw [if_neg k1] at hb ⊢
  by_cases k2 : t.kind = 2
  · rw [if_pos k2] at hb ⊢
    by_cases hn : noName t.name = true ∨ isIn t.name voidL = true
    · rw [if_pos hn]; exact h
    · rw [if_neg hn] at hb ⊢
      cases hf : findS [t.name] (endWalls t.name) st.stk with
      | some r => exact h
      | none =>
        rw [hf] at hb
        show small (if t.name = n_p then _ else _ : St).out
        have hb : ¬ tooBig (if t.name = n_p then _ else _ : St).out = true := hb
        by_cases e : t.name = n_p
        · rw [if_pos e] at hb ⊢; exact small_of h hb
        · rw [if_neg e]; exact h
  rw [if_neg k2]; exact h
theorem tree_small : ∀ {l : List Tk} {st : St} {o : List Ro}, small st.out → treeB st l = some o → small o
  | [], st, o, h, e => by injection e with e; rw [← e]; exact h
  | t :: l, st, o, h, e => by
    by_cases hb : tooBig (stepB st t).out = true
    · rw [treeB, if_pos hb] at e; cases e
    · rw [treeB, if_neg hb] at e; exact tree_small (small_step h hb) e
/-- All that a tree of tokens is. -/
theorem tree_all {l : List Tk} {o : List Ro} (h : treeB ⟨[], []⟩ l = some o) : goodFrom [] o ∧ Ro.right o = true ∧ Ro.normal o = o ∧ small o := by
  obtain ⟨h1, h2⟩ := tree_good inv_nil h
  exact ⟨h1, good_right h1, calm_normal h2 (good_ok h1), tree_small ⟨Nat.zero_le _, fun y hy => by cases hy⟩ h⟩

end Go.Proofs.YtdplbcchkjpcdaaGreatDoor.Bm

namespace Go.Proofs.YtdplbcchkjpcdaaGreatDoor.Bm
set_option linter.unusedVariables false
set_option linter.unusedSimpArgs false
open Ba Fm Nm
open Ro (At Ro)
open Tm (Tk put)
/-- The tokens, one after the other, without bounds. -/
def runB (st : St) (l : List Tk) : St := l.foldl stepB st
/-- How many tags begin. -/
def starts : List Tk → Nat
  | [] => 0
  | t :: l => (if t.kind = 1 then 1 else 0) + starts l
theorem add_mem {o : List Ro} {d : Int} {t : ByteArray} {P : Int → Prop} (h : ∀ y ∈ o, P y.depth) (hd : P d) : (∀ y ∈ addText o d t, P y.depth) ∧ (addText o d t).length ≤ o.length + 1 := by
  have key : ∀ x : Ro, P x.depth → (∀ y ∈ o ++ [x], P y.depth) ∧ (o ++ [x]).length ≤ o.length + 1 := fun x hx =>
    ⟨fun y hy => by
      rcases List.mem_append.1 hy with e | e
      · exact h y e
      · rw [List.mem_singleton.1 e]; exact hx, by rw [List.length_append]; exact Nat.le_refl _⟩
  unfold addText
  cases hy : o.getLast? with
  | none => exact key _ hd
  | some y =>
    show (∀ z ∈ (if y.kind = 1 ∧ y.depth = d then _ else _ : List Ro), P z.depth) ∧ (if y.kind = 1 ∧ y.depth = d then _ else _ : List Ro).length ≤ _
    by_cases hc : y.kind = 1 ∧ y.depth = d
    · rw [if_pos hc]
      have e := last_snoc hy
      refine ⟨fun z hz => ?_, ?_⟩
      · rcases List.mem_append.1 hz with hz | hz
        · exact h z (by rw [e]; exact List.mem_append_left _ hz)
        · rw [List.mem_singleton.1 hz]
          exact h y (by rw [e]; exact List.mem_append_right _ (List.mem_singleton.2 rfl))
      · have e2 := congrArg List.length e
        rw [List.length_append] at e2
        rw [List.length_append]
        show _ + 1 ≤ _
        have e3 : [y].length = 1 := rfl
        omega
    · rw [if_neg hc]; exact key _ hd
/-- What a token does at most. -/
theorem step_low {st : St} {t : Tk} {D : Int} (h : ∀ y ∈ st.out, y.depth ≤ D) (hs : (st.stk.length : Int) ≤ D) :
    (∀ y ∈ (stepB st t).out, y.depth ≤ D) ∧ (stepB st t).out.length ≤ st.out.length + 1 ∧ (stepB st t).stk.length ≤ st.stk.length + (if t.kind = 1 then 1 else 0) := by
  have key : ∀ x : Ro, x.depth ≤ D → (∀ y ∈ st.out ++ [x], y.depth ≤ D) ∧ (st.out ++ [x]).length ≤ st.out.length + 1 := fun x hx =>
    ⟨fun y hy => by
      rcases List.mem_append.1 hy with e | e
      · exact h y e
      · rw [List.mem_singleton.1 e]; exact hx, by rw [List.length_append]; exact Nat.le_refl _⟩
  have id : (∀ y ∈ st.out, y.depth ≤ D) ∧ st.out.length ≤ st.out.length + 1 ∧ st.stk.length ≤ st.stk.length + (if t.kind = 1 then 1 else 0) := ⟨h, Nat.le_succ _, Nat.le_add_right _ _⟩
  unfold stepB
  by_cases k0 : t.kind = 0
  · rw [if_pos k0]
    by_cases hd : t.data = ⟨#[]⟩
    · rw [if_pos hd]; exact id
    · rw [if_neg hd]
      obtain ⟨a1, a2⟩ := add_mem (t := t.data) (P := fun e => e ≤ D) h hs
      exact ⟨a1, a2, Nat.le_add_right _ _⟩
  rw [if_neg k0]
  by_cases k3 : t.kind = 3
  · rw [if_pos k3]
    exact ⟨(key _ hs).1, (key ⟨st.stk.length, 2, ⟨#[]⟩, t.data, []⟩ hs).2, Nat.le_add_right _ _⟩
  rw [if_neg k3]
  by_cases k1 : t.kind = 1
  · rw [if_pos k1]
    by_cases hn : noName t.name = true
    · rw [if_pos hn]; exact id
    · rw [if_neg hn]
      have hl := (openedS_suffix t.name st.stk).length_le
      have hk := key ⟨(openedS t.name st.stk).length, 0, t.name, ⟨#[]⟩, once t.attrs⟩ (by show ((openedS t.name st.stk).length : Int) ≤ D; omega)
      refine ⟨hk.1, hk.2, ?_⟩
      rw [if_pos k1]
      show (if isIn t.name voidL = true then _ else _ : List ByteArray).length ≤ _
      split
      · omega
      · rw [List.length_cons]; omega
  rw [if_neg k1]
  by_cases k2 : t.kind = 2
  · rw [if_pos k2]
    by_cases hn : noName t.name = true ∨ isIn t.name voidL = true
    · rw [if_pos hn]; exact id
    · rw [if_neg hn]
      cases hf : findS [t.name] (endWalls t.name) st.stk with
      | some r => exact ⟨h, Nat.le_succ _, Nat.le_trans (findS_suffix hf).length_le (Nat.le_add_right _ _)⟩
      | none =>
        show (∀ y ∈ (if t.name = n_p then _ else _ : St).out, y.depth ≤ D) ∧ (if t.name = n_p then _ else _ : St).out.length ≤ _ ∧ (if t.name = n_p then _ else _ : St).stk.length ≤ _
        by_cases e : t.name = n_p
        · rw [if_pos e]
          exact ⟨(key _ hs).1, (key ⟨st.stk.length, 0, n_p, ⟨#[]⟩, []⟩ hs).2, Nat.le_add_right _ _⟩
        · rw [if_neg e]; exact id
  rw [if_neg k2]; exact id
theorem not_big {o : List Ro} (hl : o.length ≤ 4096) (hd : ∀ y ∈ o, y.depth ≤ 59) : ¬ tooBig o = true := by
  unfold tooBig
  rw [Bool.or_eq_true, not_or, decide_eq_true_iff]
  refine ⟨by omega, ?_⟩
  cases hy : o.getLast? with
  | none => simp
  | some y =>
    have := hd y (List.mem_of_getLast? hy)
    simp
    omega
/-- Few tokens are never too many. -/
theorem few : ∀ {l : List Tk} {st : St}, st.out.length + l.length ≤ 4096 → (∀ y ∈ st.out, y.depth ≤ 59) → st.stk.length + starts l ≤ 59 → treeB st l = some (runB st l).out
  | [], st, _, _, _ => rfl
  | t :: l, st, h1, h2, h3 => by
    unfold starts at h3
    rw [List.length_cons] at h1
    obtain ⟨a, b, c⟩ := step_low (t := t) h2 (by omega)
    rw [treeB, if_neg (not_big (by omega) a)]
    exact few (by omega) a (by omega)

/-- A text behind rows that don't end in one. -/
theorem add_behind {o0 o : List Ro} {d : Int} {t : ByteArray} (h : ∀ y, o0.getLast? = some y → y.kind ≠ 1) : addText (o0 ++ o) d t = o0 ++ addText o d t := by
  unfold addText
  rw [List.getLast?_append]
  cases hy : o.getLast? with
  | some y =>
    show (if y.kind = 1 ∧ y.depth = d then _ else _) = o0 ++ (if y.kind = 1 ∧ y.depth = d then _ else _)
    by_cases hc : y.kind = 1 ∧ y.depth = d
    · rw [if_pos hc, if_pos hc, List.dropLast_append_of_ne_nil (fun e => by rw [e] at hy; cases hy), List.append_assoc]
    · rw [if_neg hc, if_neg hc, List.append_assoc]
  | none =>
    have e : o = [] := List.getLast?_eq_none_iff.1 hy
    subst e
    rw [List.append_nil]
    cases hz : o0.getLast? with
    | none => rfl
    | some z =>
      show (if z.kind = 1 ∧ z.depth = d then _ else _) = _
      rw [if_neg (fun hc => h z hz hc.1)]
      rfl
end Go.Proofs.YtdplbcchkjpcdaaGreatDoor.Bm

namespace Go.Proofs.YtdplbcchkjpcdaaGreatDoor.Bm
set_option linter.unusedVariables false
set_option linter.unusedSimpArgs false
open Ba Fm Nm
open Ro (At Ro)
open Tm (Tk put)
/-- The last open elements, the first one first and the last one first. -/
theorem rev_take {o : List ByteArray} {k : Nat} {x : ByteArray} (h : o[k]? = some x) : (o.take (k + 1)).reverse = x :: (o.take k).reverse := by
  rw [List.take_add_one, h, List.reverse_append]
  rfl
theorem suffix_take {s r : List ByteArray} (h : r <:+ s) : s.reverse.take r.length = r.reverse := by
  obtain ⟨u, rfl⟩ := h
  rw [List.reverse_append, List.take_append_of_le_length (by rw [List.length_reverse]; exact Nat.le_refl _), ← List.length_reverse, List.take_length]
/-- Where a search from the end on stops. -/
theorem found_take {ns ws : List ByteArray} {o r : List ByteArray} (h : findS ns ws o.reverse = some r) : r = (o.take r.length).reverse ∧ r.length < o.length := by
  have h1 := suffix_take (findS_suffix h)
  have h2 := findS_len h
  rw [List.reverse_reverse] at h1
  rw [List.length_reverse] at h2
  exact ⟨by rw [h1, List.reverse_reverse], h2⟩
theorem found_hit {ns ws : List ByteArray} {o : List ByteArray} {k : Nat} {x : ByteArray} (h : o[k]? = some x) (hx : isIn x ns = true) : findS ns ws (o.take (k + 1)).reverse = some (o.take k).reverse := by
  rw [rev_take h]; exact findS_hit _ hx
theorem found_wall {ns ws : List ByteArray} {o : List ByteArray} {k : Nat} {x : ByteArray} (h : o[k]? = some x) (hx : isIn x ns = false) (hw : isIn x ws = true) : findS ns ws (o.take (k + 1)).reverse = none := by
  rw [rev_take h]; exact findS_wall _ hx hw
theorem found_past {ns ws : List ByteArray} {o : List ByteArray} {k : Nat} {x : ByteArray} (h : o[k]? = some x) (hx : isIn x ns = false) (hw : isIn x ws = false) : findS ns ws (o.take (k + 1)).reverse = findS ns ws (o.take k).reverse := by
  rw [rev_take h]; exact findS_past _ hx hw

/-- Is there an attribute of this name among them? -/
def has (l : List At) (n : ByteArray) : Bool := l.any fun b => decide (b.name = n)
theorem known_put (l : List At) (a : At) (n : ByteArray) : Tm.known (put l a) n = (Tm.known l n || decide (a.name = n)) := by
  unfold put
  split
  · rename_i hk
    by_cases e : a.name = n
    · rw [← e, hk]; rfl
    · rw [decide_eq_false e, Bool.or_false]
  · unfold Tm.known
    rw [List.any_append, List.any_cons, List.any_nil, Bool.or_false]
theorem known_once (l : List At) (n : ByteArray) : Tm.known (once l) n = has l n := by
  unfold once has
  have : ∀ (l acc : List At), Tm.known (l.foldl put acc) n = (Tm.known acc n || l.any fun b => decide (b.name = n)) := fun l => by
    induction l with
    | nil => intro acc; rw [List.any_nil, Bool.or_false]; rfl
    | cons a r ih => intro acc; rw [List.foldl_cons, ih, known_put, List.any_cons, Bool.or_assoc]
  rw [this l []]
  rfl
theorem once_len (l : List At) : (once l).length ≤ l.length := by
  have : ∀ (l acc : List At), (l.foldl put acc).length ≤ acc.length + l.length := fun l => by
    induction l with
    | nil => intro acc; exact Nat.le_refl _
    | cons a r ih =>
      intro acc
      refine Nat.le_trans (ih (put acc a)) ?_
      unfold put
      split
      · rw [List.length_cons]; omega
      · simp only [List.length_append, List.length_cons, List.length_nil]
        omega
  have := this l []
  rw [List.length_nil, Nat.zero_add] at this
  exact this

/-- Whether an element may stand within others, the first one first. -/
def nestedB (n : ByteArray) (o : List ByteArray) : Bool := decide ((openedS n o.reverse).length = o.length)
end Go.Proofs.YtdplbcchkjpcdaaGreatDoor.Bm

namespace Go.Proofs.YtdplbcchkjpcdaaGreatDoor.Bu
set_option maxRecDepth 100000
set_option linter.unusedVariables false
set_option linter.unusedSimpArgs false
open Go.RowKit Ba Fm Fo Nm Bm Go.Shelf
attribute [local go_sem] Oper.semAt_some

set_option maxHeartbeats 400000 in
theorem among_any (A : Option Addr) (c N : Nat) (l : List ByteArray) (s : ByteArray) (w : World) (hr : Rd w N A l) (hl : l.length ≤ 8796093022208) :
    Calls Tryz.prog 112 #[.string s, .slice A l.length c] w fun e w' => e = .returned (.bool (isIn s l)) ∧ w = w' := by
  go_enter Tryz.func112, Tryz.ntmps112
  go_wp2
  go_loop [9] (fun i => ∃ k : Nat, i = .int .i64 k ∧ k ≤ l.length ∧ ¬ s ∈ l.take k) (fun i => l.length - (intOf i).toNat)
  case atStart => exact ⟨0, rfl, Nat.zero_le _, by simp⟩
  case round =>
    obtain ⟨k, rfl, hks, hn⟩ := hrel
    have HN := Lib.hid hn; clear hn
    by_cases hp : k < l.length
    · obtain ⟨b, off, rfl, _, hc⟩ := hr (by omega)
      have hcell := hc k hp
      clear hc hr
      have heq := eq_of_toList (a := l[k]) (b := s)
      by_cases he : l[k] = s
      · rw [decide_eq_true he] at heq
        have HE := Lib.hid he; clear he
        go_wp2
        go_ret
        exact ⟨ret_bool (isIn_yes (by have := HE.out; rw [← this]; exact List.getElem_mem _)).symm, rfl⟩
      · rw [decide_eq_false he] at heq
        have HE := Lib.hid he; clear he
        go_wp2
        go_round
        case rel => exact ⟨k + 1, by go_num, by omega, has_snoc l s k hp HN.out HE.out⟩
        case measure => simp [intOf]; omega
    · go_wp2
      go_ret
      refine ⟨ret_bool (isIn_no ?_).symm, rfl⟩
      have := HN.out
      rwa [List.take_of_length_le (by omega)] at this

/-- The open elements with their places, the last one first. -/
def dn : List ByteArray → List (Nat × ByteArray)
  | [] => []
  | x :: r => (r.length, x) :: dn r
theorem dn_take {l : List ByteArray} {k : Nat} (h : k < l.length) : dn (l.take (k + 1)).reverse = (k, l[k]) :: dn (l.take k).reverse := by
  rw [rev_take (List.getElem?_eq_getElem h), dn, List.length_reverse, List.length_take, Nat.min_eq_left (Nat.le_of_lt h)]

/-- What a round leaves as it was: what lay below n₀, and the box of the iterator. -/
def Kp (n₀ B1 : Nat) (W W' : World) : Prop := Below n₀ W W' ∧ W'.heap[B1]? = W.heap[B1]?
theorem Kp.t {n₀ B1 : Nat} {A B C : World} (h : Kp n₀ B1 A B) (k : Kp n₀ B1 B C) : Kp n₀ B1 A C := ⟨h.1.trans k.1, k.2.trans h.2⟩
theorem Kp.r {n₀ B1 : Nat} (A : World) : Kp n₀ B1 A A := ⟨Below.refl _ _, rfl⟩
theorem Kp.b {n₀ B1 : Nat} {w : World} (hn : n₀ ≤ w.heap.size) (h1 : B1 < w.heap.size) (W : World) (l : Nat) (o o' : Obj) (hl : w.heap.size ≤ l) (h : W.heap[l]? = some o) (hc : o.isCells = false) (hw : o.isWalk = false) : Kp n₀ B1 W (W.putObj l o') :=
  ⟨belowK_b hn W l o o' hl h hc hw, World.putObj_heap_other (by omega)⟩
theorem boxB {W : World} {B : Nat} {t : TypeId} {v : Value} {W' : World} (h : Boxed W B t v) (hk : W'.heap[B]? = W.heap[B]?) : Boxed W' B t v := hk.trans h

set_option maxRecDepth 100000 in
set_option maxHeartbeats 2000000 in
theorem from1_in (n : Nat) (hn : 1 ≤ n) (lp B1 n₀ : Nat) (A : Option Addr) (c : Nat) (l : List ByteArray) (J Jx : List (Nat × ByteArray) → World → Prop) (hm : l.length ≤ 1000000)
    (hY : ∀ pre (x : Nat × ByteArray) W, J pre W → pre.length < l.length → YieldAt Fence.wide (n - 1) Tryz.prog lp #[.int .i64 (x.1 : Nat), .string x.2] W fun e W' =>
      (e = .returned (.bool true) ∧ J (pre ++ [x]) W' ∧ Kp n₀ B1 W W') ∨ (e = .returned (.bool false) ∧ Jx (pre ++ [x]) W'))
    (W : World) (hn₀ : n₀ ≤ W.heap.size) (hb1 : Boxed W B1 39 (.slice A l.length c)) (hr : Rd W n₀ A l) (h0 : J [] W) :
    CallsIn Fence.wide n Tryz.prog 125 #[.func (.yield lp) #[] #[], .pointer (some ⟨B1, 0, none⟩)] W fun e W' => (∃ v, e = .returned v) ∧
      ((∃ ys, ys = dn l.reverse ∧ J ys W') ∨ (∃ pre, pre <+: dn l.reverse ∧ Jx pre W')) := by
  have c1 := hb1.cell
  obtain ⟨xs, hxs⟩ : ∃ xs, dn l.reverse = xs := ⟨_, rfl⟩
  have hx0 : dn (l.take l.length).reverse = xs := by rw [List.take_length]; exact hxs
  have hlen0 : xs.length = l.length := by
    have : ∀ s : List ByteArray, (dn s).length = s.length := fun s => by
      induction s with
      | nil => rfl
      | cons x r ih => rw [dn, List.length_cons, List.length_cons, ih]
    rw [← hxs, this, List.length_reverse]
  rw [hxs]
  obtain ⟨F, hF⟩ : ∃ F, Fence.wide = F := ⟨_, rfl⟩
  rw [hF] at hY ⊢
  have hfn : ∀ f, F.fn f := hF ▸ fun _ => trivial
  have hro : F.round = none := hF ▸ rfl
  have h52 := hfn 125
  clear hF hfn
  have HX0 := Lib.hid hx0; have HXS := Lib.hid hxs; have HY := Lib.hid hY; have HL := Lib.hid hlen0
  clear hx0 hxs hY hlen0
  refine callsIn_of_wp Tryz.func125 rfl h52 ?_ hro
  simp only [Tryz.ntmps125, List.size_toArray, List.length_cons, List.length_nil, Nat.reduceAdd, Nat.reduceSub, Array.replicate_succ, Array.replicate_zero, List.push_toArray, List.append_toArray, List.nil_append, List.cons_append]
  gi_wp2
  gi_loopw [3] (fun v wr => ∃ (k : Nat) (i : Int) (pre : List (Nat × ByteArray)), v = .int .i64 i ∧ i + 1 = k ∧ k ≤ l.length ∧ xs = pre ++ dn (l.take k).reverse ∧ J pre wr ∧ n₀ ≤ wr.heap.size ∧ Boxed wr B1 39 (.slice A l.length c) ∧ Rd wr n₀ A l) (fun v _ => (intOf v + 1).toNat)
  case atStart => exact ⟨l.length, _, [], rfl, by omega, Nat.le_refl _, HX0.out.symm, h0, hn₀, hb1, hr⟩
  case round =>
    clear HX0 c1 hb1 hr h0
    obtain ⟨k, i, pre, rfl, hi, hk, hxp, hJs, hnw, hb1, hr⟩ := hrel
    have c1 := hb1.cell
    by_cases hp : 0 < k
    · obtain ⟨m, rfl⟩ : ∃ m, k = m + 1 := ⟨k - 1, by omega⟩
      obtain rfl : i = (m : Int) := by omega
      obtain ⟨b, off, rfl, hb, hc⟩ := hr (by omega)
      have hcell := hc m (by omega)
      rw [dn_take (by omega)] at hxp
      have hlen : pre.length < l.length := by rw [← HL.out, hxp]; simp
      obtain ⟨fn, tmps, assign, body, hy, hR⟩ := HY.out pre (m, l[m]) wr hJs hlen
      have HXP := Lib.hid hxp
      have hge : decide ((0 : Int) ≤ (m : Int)) = true := decide_eq_true (by omega)
      clear hxp hlen
      gi_wp2
      refine hR.mono ?_
      rintro e W3 (⟨rfl, hJ3, hk3⟩ | ⟨rfl, hJx3⟩)
      · gi_wp2
        go_roundw
        case rel => exact ⟨m, _, pre ++ [(m, l[m])], rfl, by omega, by omega, by rw [HXP.out, List.append_assoc]; rfl, hJ3, Nat.le_trans hnw hk3.1.size, boxB hb1 hk3.2, hr.below hk3.1 (Nat.le_refl _)⟩
        case measure => simp [intOf]
      · gi_wp2
        refine bodyPost_ret (results_none rfl _ _ _) rfl ?_
        exact ⟨⟨_, rfl⟩, .inr ⟨pre ++ [(m, l[m])], ⟨dn (l.take m).reverse, by rw [HXP.out, List.append_assoc]; rfl⟩, hJx3⟩⟩
    · obtain rfl : k = 0 := by omega
      obtain rfl : i = -1 := by omega
      have HXP := Lib.hid hxp
      clear hxp
      gi_wp2
      go_end0
      exact ⟨⟨_, rfl⟩, .inl ⟨pre, by rw [HXP.out]; exact (List.append_nil _).symm, hJs⟩⟩

theorem fromEnd_any (A : Option Addr) (n c : Nat) (w : World) :
    Calls Tryz.prog 111 #[.slice A n c] w fun e w' => e = .returned (.func (.func 125) #[] #[.pointer (some ⟨w.heap.size, 0, none⟩)]) ∧ w' = w.alloc (.cells #[.slice A n c] 39) := by
  go_enter Tryz.func111, Tryz.ntmps111
  go_wp2
  go_ret
  exact ⟨rfl, rfl⟩

theorem from_stops (n : Nat) (hn : 1 ≤ n) (B1 n₀ : Nat) (A : Option Addr) (c : Nat) (l : List ByteArray) (hm : l.length ≤ 1000000) (w : World) (hn₀ : n₀ ≤ w.heap.size) (hb1 : Boxed w B1 39 (.slice A l.length c)) (hr : Rd w n₀ A l) :
    SeqStopsK Fence.wide n Tryz.prog 125 #[.pointer (some ⟨B1, 0, none⟩)] (fun x : Nat × ByteArray => #[.int .i64 (x.1 : Nat), .string x.2]) (Kp n₀ B1) (fun ys => ys = dn l.reverse) (fun pre => pre <+: dn l.reverse) l.length w := fun lp J Jx W hW hJ _ hY h0 =>
  from1_in n hn lp B1 n₀ A c l J Jx hm hY W (Nat.le_trans hn₀ hW.size) (boxB hb1 (hW.block B1 hb1.lt)) (hr.below hW hn₀) h0

/-- Where the search ends: below 0: nothing. -/
def idx (ns ws o : List ByteArray) : Int := match findS ns ws o.reverse with | some r => (r.length : Nat) | none => -1
def past (ns ws : List ByteArray) (p : Nat × ByteArray) : Prop := isIn p.2 ns = false ∧ isIn p.2 ws = false
theorem dn_split {ns ws : List ByteArray} : ∀ {s : List ByteArray} {q t : List (Nat × ByteArray)}, dn s = q ++ t → (∀ p ∈ q, past ns ws p) → ∃ r, dn r = t ∧ findS ns ws s = findS ns ws r
  | s, [], t, h, _ => ⟨s, h, rfl⟩
  | [], p :: q, t, h, _ => by cases h
  | x :: s, p :: q, t, h, hp => by
    rw [dn, List.cons_append] at h
    injection h with h1 h2
    obtain ⟨r, e1, e2⟩ := dn_split h2 fun y hy => hp y (List.mem_cons_of_mem _ hy)
    have hx := hp p List.mem_cons_self
    rw [← h1] at hx
    exact ⟨r, e1, by rw [findS_past s hx.1 hx.2, e2]⟩
theorem idx_none {ns ws o : List ByteArray} (h : ∀ p ∈ dn o.reverse, past ns ws p) : idx ns ws o = -1 := by
  obtain ⟨r, e1, e2⟩ := dn_split (ns := ns) (ws := ws) (s := o.reverse) (q := dn o.reverse) (t := []) (by rw [List.append_nil]) h
  unfold idx
  rw [e2]
  cases r with
  | nil => rfl
  | cons x r => cases e1
theorem idx_stop {ns ws o : List ByteArray} {q t : List (Nat × ByteArray)} {x : Nat × ByteArray} (h : dn o.reverse = q ++ x :: t) (hq : ∀ p ∈ q, past ns ws p) (hx : isIn x.2 ns = false → isIn x.2 ws = true) :
    idx ns ws o = if isIn x.2 ns = true then (x.1 : Int) else -1 := by
  obtain ⟨r, e1, e2⟩ := dn_split h hq
  unfold idx
  rw [e2]
  cases r with
  | nil => cases e1
  | cons y r =>
    rw [dn] at e1
    injection e1 with e1 _
    subst e1
    cases hn : isIn y ns with
    | true => rw [findS_hit r hn]; rfl
    | false => rw [findS_wall r hn (hx hn)]; rfl

theorem box_own {W W' : World} {B n : Nat} {t : TypeId} {v : Value} {row : Option Nat} (h : Boxed W B t v) (hg : W.grownBy W' row) (hr : ∀ r, row = some r → n ≤ r ∧ ∃ o : Obj, W.heap[r]? = some o ∧ o.isCells = false) : Boxed W' B t v :=
  h.kept hg fun e => by
    obtain ⟨_, o, ho, hc⟩ := hr B e.symm
    rw [show W.heap[B]? = _ from h] at ho
    cases ho
    cases hc
/-- What the rounds leave. -/
def Fl (w : World) (ns ws : List ByteArray) (v1 v2 : Value) (pre : List (Nat × ByteArray)) (W : World) : Prop :=
  Boxed W w.heap.size 39 v1 ∧ Boxed W (w.heap.size + 1) 39 v2 ∧ Boxed W (w.heap.size + 1 + 1) 3 (.int .i64 0) ∧ Below w.heap.size w W ∧ w.heap.size + 1 + 1 + 1 + 1 ≤ W.heap.size ∧ ∀ p ∈ pre, past ns ws p
def Fx (w : World) (ns ws : List ByteArray) (c : Code) (pre : List (Nat × ByteArray)) (W : World) : Prop :=
  c = .ret ∧ ∃ q x, pre = q ++ [x] ∧ (∀ p ∈ q, past ns ws p) ∧ (isIn x.2 ns = false → isIn x.2 ws = true) ∧ Boxed W (w.heap.size + 1 + 1) 3 (.int .i64 (if isIn x.2 ns = true then (x.1 : Int) else -1)) ∧ Below w.heap.size w W
theorem Fl.own (w : World) (ns ws : List ByteArray) (v1 v2 : Value) (n : Nat) (hn : w.heap.size ≤ n) : OwnFrom n (Fl w ns ws v1 v2) := fun s W W' row hs hg hr =>
  ⟨box_own hs.1 hg hr, box_own hs.2.1 hg hr, box_own hs.2.2.1 hg hr, hs.2.2.2.1.grown hg hs.2.2.2.1.size (fun k hk => Nat.le_trans hn (hr k hk).1), Nat.le_trans hs.2.2.2.2.1 hg.size, hs.2.2.2.2.2⟩
theorem Fx.own (w : World) (ns ws : List ByteArray) (c : Code) (n : Nat) (hn : w.heap.size ≤ n) : OwnFrom n (Fx w ns ws c) := fun s W W' row hs hg hr => by
  obtain ⟨hc, q, x, e1, e2, e3, h2, h3⟩ := hs
  exact ⟨hc, q, x, e1, e2, e3, box_own h2 hg hr, h3.grown hg h3.size (fun k hk => Nat.le_trans hn (hr k hk).1)⟩

theorem among1 (A : Option Addr) (c N n : Nat) (l : List ByteArray) (s : ByteArray) (w : World) (hr : Rd w N A l) (hl : l.length ≤ 1000) (q : Bool) (hq : isIn s l = q) (hn : n = l.length) :
    Calls Tryz.prog 112 #[.string s, .slice A n c] w fun e w' => e = .returned (.bool q) ∧ w = w' := by
  subst hq; subst hn
  exact among_any A c N l s w hr (by omega)

set_option maxRecDepth 100000 in
set_option maxHeartbeats 4000000 in
theorem find_any (A A1 A2 : Option Addr) (c c1 c2 : Nat) (l ns ws : List ByteArray) (w : World) (hm : l.length ≤ 1000000) (hr : Rd w w.heap.size A l) (hr1 : Rd w w.heap.size A1 ns) (hr2 : Rd w w.heap.size A2 ws) (hn1 : ns.length ≤ 1000) (hn2 : ws.length ≤ 1000) :
    Calls Tryz.prog 88 #[.slice A l.length c, .slice A1 ns.length c1, .slice A2 ws.length c2] w fun e w' => e = .returned (.int .i64 (idx ns ws l)) ∧ Below w.heap.size w w' := by
  have x0 := Boxed.new w 39 (.slice A1 ns.length c1)
  replace x0 := Lib.hid (((x0.alloc (.cells #[.slice A2 ws.length c2] 39)).alloc (.cells #[.int .i64 0] 3)).alloc (.cells #[.slice A l.length c] 39))
  have x1 := Boxed.new (w.alloc (.cells #[.slice A1 ns.length c1] 39)) 39 (.slice A2 ws.length c2)
  rw [World.size_alloc] at x1
  replace x1 := Lib.hid ((x1.alloc (.cells #[.int .i64 0] 3)).alloc (.cells #[.slice A l.length c] 39))
  have x2 := Boxed.new ((w.alloc (.cells #[.slice A1 ns.length c1] 39)).alloc (.cells #[.slice A2 ws.length c2] 39)) 3 (.int .i64 0)
  rw [World.size_alloc, World.size_alloc] at x2
  replace x2 := Lib.hid (x2.alloc (.cells #[.slice A l.length c] 39))
  have x3 := Boxed.new (((w.alloc (.cells #[.slice A1 ns.length c1] 39)).alloc (.cells #[.slice A2 ws.length c2] 39)).alloc (.cells #[.int .i64 0] 3)) 39 (.slice A l.length c)
  rw [World.size_alloc, World.size_alloc, World.size_alloc] at x3
  replace x3 := Lib.hid x3
  have hB0 := ((((below_one w (.cells #[.slice A1 ns.length c1] 39)).alloc (by simp <;> omega) (.cells #[.slice A2 ws.length c2] 39)).alloc (by simp <;> omega) (.cells #[.int .i64 0] 3)).alloc (by simp <;> omega) (.cells #[.slice A l.length c] 39))
  have HR := Lib.hid (hr.below hB0 (Nat.le_refl _))
  have HR1 := Lib.hid hr1; have HR2 := Lib.hid hr2
  have HB0 := Lib.hid hB0
  clear hB0 hr hr1 hr2
  refine (callsIn_wide (n := 4)).1 ?_
  refine callsIn_of_wp_marks Tryz.func88 rfl trivial ?_ rfl
  simp only [Tryz.ntmps88, List.size_toArray, List.length_cons, List.length_nil, Nat.reduceAdd, Nat.reduceSub, Array.replicate_succ, Array.replicate_zero, List.push_toArray, List.append_toArray, List.nil_append, List.cons_append]
  gi_wp2_with (refine ⟨trivial, ?_⟩; gi_at_call 111; refine (callsIn_wide.2 (fromEnd_any A _ c _)).mono ?_; rintro e w' ⟨rfl, rfl⟩)
  refine wpIn_rangeFunc_ownG rfl (by omega) (gf := 125) (lb := #[.pointer (some ⟨w.heap.size + 1 + 1 + 1, 0, none⟩)]) rfl trivial (enters_of Tryz.func125 (by kernel_rfl) rfl)
    (from_stops (4 - 1) (by omega) (w.heap.size + 1 + 1 + 1) w.heap.size A c l hm _ (by simp <;> omega) x3.out HR.out) Kp.t (Kp.b (by simp <;> omega) (by simp <;> omega)) (Below.refl _ _) (fun _ => rfl)
    (Fl w ns ws (.slice A1 ns.length c1) (.slice A2 ws.length c2)) (Fx w ns ws) (Fl.own w ns ws _ _ _ (by simp <;> omega)) (fun c => Fx.own w ns ws c _ (by simp <;> omega))
    ⟨x0.out, x1.out, x2.out, HB0.out, by simp, fun p hp => by cases hp⟩
    (fun x => { tmps := #[.slice A l.length c, .slice A1 ns.length c1, .slice A2 ws.length c2, undef, .pointer (some ⟨w.heap.size, 0, none⟩), .pointer (some ⟨w.heap.size + 1, 0, none⟩), .pointer (some ⟨w.heap.size + 1 + 1, 0, none⟩), .int .i64 (x.1 : Nat), .string x.2, .slice A l.length c, .func (.func 125) #[] #[.pointer (some ⟨w.heap.size + 1 + 1 + 1, 0, none⟩)], .int .i64 (x.1 : Nat), .string x.2, undef, undef, undef, undef, undef, undef, undef, undef, undef], defers := [] }) ?assign ?body ?done ?stop
  case assign =>
    intro l x W K hK
    gi_wp2
    exact hK
  case body =>
    rintro lp pre x W ⟨b0, b1, b2, hB, hsz, hps⟩ hlt
    have k0 := b0.cell
    have k1 := b1.cell
    have k2 := b2.cell
    have f2 := b2.frozen
    have hw1 := HR1.out.below hB (Nat.le_refl _)
    have hw2 := HR2.out.below hB (Nat.le_refl _)
    have HW1 := Lib.hid hw1; have HW2 := Lib.hid hw2
    clear hw1 hw2
    cases hx : isIn x.2 ns with
    | true =>
      have HX := Lib.hid hx
      clear hx
      gi_wp2_with (refine ⟨trivial, ?_⟩; gi_at_call 112; refine (CallsIn.inRound lp (callsIn_wide.2 (among1 A1 c1 _ _ ns x.2 W HW1.out hn1 true HX.out rfl))).mono ?_; rintro e w' ⟨rfl, rfl⟩)
      exact ⟨(KeepsOthers.setCell _ _ _).from _, rfl, pre, x, rfl, hps, (fun e => by rw [HX.out] at e; cases e), by rw [HX.out, if_pos rfl]; exact b2.set _, hB.setCell (p := ⟨w.heap.size + 1 + 1, 0, none⟩) (by show w.heap.size ≤ w.heap.size + 1 + 1; omega) _⟩
    | false =>
    cases hy : isIn x.2 ws with
    | true =>
      have HX := Lib.hid hx; have HY := Lib.hid hy
      clear hx hy
      gi_wp2_with fail
      refine ⟨trivial, ?_⟩
      gi_at_call 112
      refine (CallsIn.inRound lp (callsIn_wide.2 (among1 A1 c1 _ _ ns x.2 W HW1.out hn1 false HX.out rfl))).mono ?_
      rintro e w' ⟨rfl, rfl⟩
      gi_wp2_with fail
      refine ⟨trivial, ?_⟩
      gi_at_call 112
      refine (CallsIn.inRound lp (callsIn_wide.2 (among1 A2 c2 _ _ ws x.2 W HW2.out hn2 true HY.out rfl))).mono ?_
      rintro e w' ⟨rfl, rfl⟩
      gi_wp2
      exact ⟨(KeepsOthers.setCell _ _ _).from _, rfl, pre, x, rfl, hps, (fun _ => HY.out), by rw [HX.out, if_neg (by simp)]; exact b2.set _, hB.setCell (p := ⟨w.heap.size + 1 + 1, 0, none⟩) (by show w.heap.size ≤ w.heap.size + 1 + 1; omega) _⟩
    | false =>
      have HX := Lib.hid hx; have HY := Lib.hid hy
      clear hx hy
      gi_wp2_with fail
      refine ⟨trivial, ?_⟩
      gi_at_call 112
      refine (CallsIn.inRound lp (callsIn_wide.2 (among1 A1 c1 _ _ ns x.2 W HW1.out hn1 false HX.out rfl))).mono ?_
      rintro e w' ⟨rfl, rfl⟩
      gi_wp2_with fail
      refine ⟨trivial, ?_⟩
      gi_at_call 112
      refine (CallsIn.inRound lp (callsIn_wide.2 (among1 A2 c2 _ _ ws x.2 W HW2.out hn2 false HY.out rfl))).mono ?_
      rintro e w' ⟨rfl, rfl⟩
      gi_wp2
      exact ⟨KeepsFrom.refl _ _, Kp.r _, b0, b1, b2, hB, hsz, fun p hp => by
        rcases List.mem_append.1 hp with e | e
        · exact hps p e
        · rw [List.mem_singleton.1 e]; exact ⟨HX.out, HY.out⟩⟩
  case done =>
    rintro D ys W hD rfl ⟨b0, b1, b2, hB, hsz, hps⟩ hK
    have k2 := b2.cell
    have f2 := b2.frozen
    have HI := Lib.hid (idx_none hps)
    gi_wp2
    refine ⟨by simp, .inl ⟨_, _, rfl, run_takeDeferred (show (W.setCell ⟨w.heap.size + 1 + 1, 0, none⟩ _).heap[D]? = _ from (Below.heap_setCell W ⟨w.heap.size + 1 + 1, 0, none⟩ _ D (by have := hD; simp at this; show D ≠ w.heap.size + 1 + 1; omega)).trans hK), ?_⟩⟩
    have hK' : (W.setCell ⟨w.heap.size + 1 + 1, 0, none⟩ (.int .i64 (-1))).heap[D]? = some (.deferred (some [])) := (Below.heap_setCell W ⟨w.heap.size + 1 + 1, 0, none⟩ _ D (by have := hD; simp at this; show D ≠ w.heap.size + 1 + 1; omega)).trans hK
    have q2 := cell_kept (b2.set (.int .i64 (-1))).cell (grownBy_putObj' _ D (.deferred none)) (fun r e => by cases e; exact ⟨_, hK', rfl⟩)
    refine ⟨.int .i64 (-1), ?_, by rw [HI.out], (hB.setCell (p := ⟨w.heap.size + 1 + 1, 0, none⟩) (by show w.heap.size ≤ w.heap.size + 1 + 1; omega) _).trans (belowK_b (w := w) (Nat.le_refl _) _ D _ _ (by have := hD; simp at this; omega) hK' rfl rfl)⟩
    simp [results, Tryz.f88, go_sem, q2]
  case stop =>
    rintro D c pre W hD hpre ⟨rfl, q, x, rfl, hq, hx, b2, hB⟩ hK
    obtain ⟨t, ht⟩ := hpre
    have HI := Lib.hid (idx_stop (o := l) (t := t) (by rw [← ht, List.append_assoc]; rfl) hq hx)
    gi_wp2
    refine ⟨by simp, .inl ⟨_, _, rfl, run_takeDeferred hK, ?_⟩⟩
    have q2 := cell_kept b2.cell (grownBy_putObj' _ D (.deferred none)) (fun r e => by cases e; exact ⟨_, hK, rfl⟩)
    refine ⟨.int .i64 (if isIn x.2 ns = true then (x.1 : Int) else -1), ?_, by rw [HI.out], hB.trans (belowK_b (w := w) (Nat.le_refl _) W D _ _ (by have := hD; simp at this; omega) hK rfl rfl)⟩
    simp [results, Tryz.f88, go_sem, q2]

end Go.Proofs.YtdplbcchkjpcdaaGreatDoor.Bu

namespace Go.Proofs.YtdplbcchkjpcdaaGreatDoor.Bu
set_option maxRecDepth 100000
set_option linter.unusedVariables false
set_option linter.unusedSimpArgs false
open Go.RowKit Ba Fm Fo Nm Bm
theorem closes_len (n : ByteArray) : (closesL n).length ≤ 1000 := by
  have : ∀ q : List ByteArray, closesL n = q → q.length ≤ 1000 := fun q h => by
    unfold closesL at h
    subst h
    repeat' split
    all_goals decide
  exact this _ rfl
theorem walls_len (n : ByteArray) : (wallsL n).length ≤ 1000 := by
  have : ∀ q : List ByteArray, wallsL n = q → q.length ≤ 1000 := fun q h => by
    unfold wallsL at h
    subst h
    repeat' split
    all_goals decide
  exact this _ rfl
theorem idx_take {ns ws o : List ByteArray} : (idx ns ws o = -1 ∧ findS ns ws o.reverse = none) ∨ (∃ k : Nat, idx ns ws o = k ∧ k < o.length ∧ findS ns ws o.reverse = some (o.take k).reverse) := by
  unfold idx
  cases h : findS ns ws o.reverse with
  | none => exact .inl ⟨rfl, rfl⟩
  | some r =>
    obtain ⟨e, hl⟩ := found_take h
    exact .inr ⟨r.length, rfl, hl, by rw [← e]⟩

theorem find1 (V V1 V2 : Value) (M : Nat) (l ns ws : List ByteArray) (w : World) (hm : l.length ≤ 1000000) (A : Option Addr) (c : Nat) (hV : V = .slice A l.length c) (hr : Rd w w.heap.size A l) (h1 : Sv w w.heap.size V1 ns) (h2 : Sv w w.heap.size V2 ws) (hn1 : ns.length ≤ 1000) (hn2 : ws.length ≤ 1000) (i : Int) (hi : idx ns ws l = i) :
    Calls Tryz.prog 88 #[V, V1, V2] w fun e w' => e = .returned (.int .i64 i) ∧ Below w.heap.size w w' := by
  obtain ⟨A1, c1, rfl, _, _, hr1⟩ := h1
  obtain ⟨A2, c2, rfl, _, _, hr2⟩ := h2
  subst hV; subst hi
  exact find_any A A1 A2 c c1 c2 l ns ws w hm hr hr1 hr2 hn1 hn2

set_option maxRecDepth 100000 in
set_option maxHeartbeats 1000000 in
theorem closed_any (A : Option Addr) (c : Nat) (l : List ByteArray) (n : ByteArray) (w : World) (hm : l.length ≤ 1000000) (hc : l.length ≤ c) (hr : Rd w w.heap.size A l) :
    Calls Tryz.prog 83 #[.slice A l.length c, .string n] w fun e w' => ∃ k : Nat, e = .returned (.slice A k c) ∧ k ≤ l.length ∧ (l.take k).reverse = closedS (closesL n) (wallsL n) l.reverse ∧ Below w.heap.size w w' := by
  have hL1 := closes_len n
  have hL2 := walls_len n
  go_enter Tryz.func83, Tryz.ntmps83
  go_wp2_with fail
  refine (Na.closes_any n w).mono ?_
  rintro e w1 ⟨V1, rfl, s1, b1⟩
  go_wp2_with fail
  refine (Na.walls_any n w1).mono ?_
  rintro e w2 ⟨V2, rfl, s2, b2⟩
  have v1 : Sv w2 w2.heap.size V1 (closesL n) := sv_own (s1.below b2 (Nat.le_refl _))
  have v2 : Sv w2 w2.heap.size V2 (wallsL n) := sv_own s2
  have B2 := bt b1 b2
  have hr2 : Rd w2 w2.heap.size A l := (hr.below B2 (Nat.le_refl _)).more B2.size
  have HV1 := Lib.hid v1; have HV2 := Lib.hid v2; have HB2 := Lib.hid B2; have HR2 := Lib.hid hr2
  clear v1 v2 s1 s2 b1 b2 B2 hr hr2
  obtain ⟨i, hi⟩ : ∃ i, idx (closesL n) (wallsL n) l = i := ⟨_, rfl⟩
  go_wp2_with fail
  refine (find1 _ V1 V2 0 l (closesL n) (wallsL n) w2 hm A c rfl HR2.out HV1.out HV2.out hL1 hL2 i hi).mono ?_
  rintro e w3 ⟨rfl, b3⟩
  have HI := Lib.hid hi
  have HB3 := Lib.hid b3
  clear hi b3
  go_wp2
  go_loopw [0, 7] (fun v x wr => ∃ (k : Nat) (j : Int), v = .slice A k c ∧ x = .int .i64 j ∧ k ≤ l.length ∧ idx (closesL n) (wallsL n) (l.take k) = j ∧ closedS (closesL n) (wallsL n) (l.take k).reverse = closedS (closesL n) (wallsL n) l.reverse ∧ Below w2.heap.size w2 wr) (fun v _ _ => lenOf v)
  case atStart => exact ⟨l.length, i, rfl, rfl, Nat.le_refl _, by rw [List.take_length]; exact HI.out, by rw [List.take_length], HB3.out⟩
  case round =>
    obtain ⟨k, j, rfl, rfl, hk, hj, hcl, hb⟩ := hrel
    rcases idx_take (ns := closesL n) (ws := wallsL n) (o := l.take k) with ⟨e1, e2⟩ | ⟨m, e1, hmk, e2⟩
    · rw [hj] at e1
      subst e1
      rw [closedS_no e2] at hcl
      have HC := Lib.hid hcl; have HB := Lib.hid hb
      clear hcl hb hj e2
      go_wp2
      go_ret
      exact ⟨k, rfl, hk, HC.out, bt HB2.out HB.out⟩
    · rw [hj] at e1
      subst e1
      have hlk : (l.take k).length = k := by rw [List.length_take]; omega
      rw [hlk] at hmk
      have et : (l.take k).take m = l.take m := by rw [List.take_take, Nat.min_eq_left (by omega)]
      rw [closedS_yes e2, et] at hcl
      have hge : decide ((0 : Int) ≤ (m : Int)) = true := decide_eq_true (by omega)
      have hr3 : Rd wr wr.heap.size A (l.take m) := ((HR2.out.below hb (Nat.le_refl _)).more hb.size).take m
      have v1 := (HV1.out.below hb (Nat.le_refl _)).more hb.size
      have v2 := (HV2.out.below hb (Nat.le_refl _)).more hb.size
      have hml : (l.take m).length = m := by rw [List.length_take]; omega
      obtain ⟨i2, hi2⟩ : ∃ i, idx (closesL n) (wallsL n) (l.take m) = i := ⟨_, rfl⟩
      have HC := Lib.hid hcl; have HB := Lib.hid hb; have HV1' := Lib.hid v1; have HV2' := Lib.hid v2; have HR3 := Lib.hid hr3; have HML := Lib.hid hml; have HI2 := Lib.hid hi2
      clear hcl hb hj e2 v1 v2 hr3 hml hi2 et hlk
      have hm0 : (0 : Int) ≤ (m : Int) := by omega
      have hmc : (m : Int) ≤ (c : Int) := by omega
      go_wp2_with fail
      refine (find1 _ V1 V2 0 (l.take m) (closesL n) (wallsL n) wr (by rw [HML.out]; omega) A c (by rw [HML.out]) HR3.out HV1'.out HV2'.out hL1 hL2 i2 HI2.out).mono ?_
      rintro e w4 ⟨rfl, b4⟩
      have HB4 := Lib.hid b4
      clear b4
      go_wp2
      go_roundw
      case rel => exact ⟨m, i2, rfl, rfl, by omega, HI2.out, HC.out, bt HB.out HB4.out⟩
      case measure => simp [lenOf]; omega

theorem closed1 (V : Value) (l : List ByteArray) (n : ByteArray) (w : World) (hm : l.length ≤ 1000000) (A : Option Addr) (c : Nat) (hV : V = .slice A l.length c) (hc : l.length ≤ c) (hr : Rd w w.heap.size A l) :
    Calls Tryz.prog 83 #[V, .string n] w fun e w' => ∃ k : Nat, e = .returned (.slice A k c) ∧ k ≤ l.length ∧ (l.take k).reverse = closedS (closesL n) (wallsL n) l.reverse ∧ Below w.heap.size w w' := by
  subst hV
  exact closed_any A c l n w hm hc hr

/-- Is it one of the three that close a paragraph besides? -/
theorem para_true {n : ByteArray} (h : para n = true) : (n.toList == [108, 105]) = true ∨ ((n.toList == [108, 105]) = false ∧ (n.toList == [100, 100]) = true) ∨ ((n.toList == [108, 105]) = false ∧ (n.toList == [100, 100]) = false ∧ (n.toList == [100, 116]) = true) := by
  unfold para at h
  rw [Bool.or_eq_true, Bool.or_eq_true, decide_eq_true_iff, decide_eq_true_iff, decide_eq_true_iff] at h
  have e1 : n_li.toList = [108, 105] := by rw [toList_L]
  have e2 : n_dd.toList = [100, 100] := by rw [toList_L]
  have e3 : n_dt.toList = [100, 116] := by rw [toList_L]
  rcases h with (rfl | rfl) | rfl
  · exact .inl (by rw [e1]; rfl)
  · exact .inr (.inl ⟨by rw [e2]; rfl, by rw [e2]; rfl⟩)
  · exact .inr (.inr ⟨by rw [e3]; rfl, by rw [e3]; rfl, by rw [e3]; rfl⟩)
theorem para_false {n : ByteArray} (h : para n = false) : (n.toList == [108, 105]) = false ∧ (n.toList == [100, 100]) = false ∧ (n.toList == [100, 116]) = false := by
  unfold para at h
  rw [Bool.or_eq_false_iff, Bool.or_eq_false_iff, decide_eq_false_iff_not, decide_eq_false_iff_not, decide_eq_false_iff_not] at h
  have e1 : n_li.toList = [108, 105] := by rw [toList_L]
  have e2 : n_dd.toList = [100, 100] := by rw [toList_L]
  have e3 : n_dt.toList = [100, 116] := by rw [toList_L]
  rw [← e1, ← e2, ← e3, eq_of_toList, eq_of_toList, eq_of_toList]
  exact ⟨decide_eq_false h.1.1, decide_eq_false h.1.2, decide_eq_false h.2⟩
theorem opened_yes {n : ByteArray} (h : para n = true) (s : List ByteArray) : openedS n s = closedS (closesL n_p) (wallsL n_p) (closedS (closesL n) (wallsL n) s) := by
  unfold openedS
  rw [if_pos h]
  rfl
theorem opened_no {n : ByteArray} (h : para n = false) (s : List ByteArray) : openedS n s = closedS (closesL n) (wallsL n) s := by
  unfold openedS
  rw [if_neg (by rw [h]; simp)]

set_option maxRecDepth 100000 in
set_option maxHeartbeats 1000000 in
theorem leftOpen_yes (A : Option Addr) (c : Nat) (l : List ByteArray) (n : ByteArray) (w : World) (hm : l.length ≤ 1000000) (hc : l.length ≤ c) (hr : Rd w w.heap.size A l) (hp : para n = true) :
    Calls Tryz.prog 43 #[.slice A l.length c, .string n] w fun e w' => ∃ k : Nat, e = .returned (.slice A k c) ∧ k ≤ l.length ∧ (l.take k).reverse = openedS n l.reverse ∧ Below w.heap.size w w' := by
  have HR := Lib.hid hr; have HO := Lib.hid (opened_yes hp l.reverse)
  have hq := para_true hp
  clear hr hp
  rcases hq with q1 | ⟨q1, q2⟩ | ⟨q1, q2, q3⟩
  · have HH := HO
    clear HH
    go_enter Tryz.func43, Tryz.ntmps43
    go_wp2_with fail
    refine (closed_any A c l n w hm hc HR.out).mono ?_
    rintro e w1 ⟨k, rfl, hk, hcl, b1⟩
    have hkl : (l.take k).length = k := by rw [List.length_take]; omega
    have hr1 : Rd w1 w1.heap.size A (l.take k) := ((HR.out.below b1 (Nat.le_refl _)).more b1.size).take k
    have HC := Lib.hid hcl; have HB := Lib.hid b1; have HKL := Lib.hid hkl; have HR1 := Lib.hid hr1
    clear hcl b1 hkl hr1
    go_wp2_with fail
    refine (closed1 _ (l.take k) n_p w1 (by rw [HKL.out]; omega) A c (by rw [HKL.out]) (by rw [HKL.out]; omega) HR1.out).mono ?_
    rintro e w2 ⟨k2, rfl, hk2, hcl2, b2⟩
    rw [HKL.out] at hk2
    have et : (l.take k).take k2 = l.take k2 := by rw [List.take_take, Nat.min_eq_left hk2]
    rw [et, HC.out] at hcl2
    have HC2 := Lib.hid hcl2
    have HB2 := Lib.hid (bt HB.out b2)
    clear hcl2 et b2
    go_wp2
    go_ret
    exact ⟨k2, rfl, Nat.le_trans hk2 hk, by rw [HC2.out, HO.out], HB2.out⟩
  · have HH := HO
    clear HH
    go_enter Tryz.func43, Tryz.ntmps43
    go_wp2_with fail
    refine (closed_any A c l n w hm hc HR.out).mono ?_
    rintro e w1 ⟨k, rfl, hk, hcl, b1⟩
    have hkl : (l.take k).length = k := by rw [List.length_take]; omega
    have hr1 : Rd w1 w1.heap.size A (l.take k) := ((HR.out.below b1 (Nat.le_refl _)).more b1.size).take k
    have HC := Lib.hid hcl; have HB := Lib.hid b1; have HKL := Lib.hid hkl; have HR1 := Lib.hid hr1
    clear hcl b1 hkl hr1
    go_wp2_with fail
    refine (closed1 _ (l.take k) n_p w1 (by rw [HKL.out]; omega) A c (by rw [HKL.out]) (by rw [HKL.out]; omega) HR1.out).mono ?_
    rintro e w2 ⟨k2, rfl, hk2, hcl2, b2⟩
    rw [HKL.out] at hk2
    have et : (l.take k).take k2 = l.take k2 := by rw [List.take_take, Nat.min_eq_left hk2]
    rw [et, HC.out] at hcl2
    have HC2 := Lib.hid hcl2
    have HB2 := Lib.hid (bt HB.out b2)
    clear hcl2 et b2
    go_wp2
    go_ret
    exact ⟨k2, rfl, Nat.le_trans hk2 hk, by rw [HC2.out, HO.out], HB2.out⟩
  · have HH := HO
    clear HH
    go_enter Tryz.func43, Tryz.ntmps43
    go_wp2_with fail
    refine (closed_any A c l n w hm hc HR.out).mono ?_
    rintro e w1 ⟨k, rfl, hk, hcl, b1⟩
    have hkl : (l.take k).length = k := by rw [List.length_take]; omega
    have hr1 : Rd w1 w1.heap.size A (l.take k) := ((HR.out.below b1 (Nat.le_refl _)).more b1.size).take k
    have HC := Lib.hid hcl; have HB := Lib.hid b1; have HKL := Lib.hid hkl; have HR1 := Lib.hid hr1
    clear hcl b1 hkl hr1
    go_wp2_with fail
    refine (closed1 _ (l.take k) n_p w1 (by rw [HKL.out]; omega) A c (by rw [HKL.out]) (by rw [HKL.out]; omega) HR1.out).mono ?_
    rintro e w2 ⟨k2, rfl, hk2, hcl2, b2⟩
    rw [HKL.out] at hk2
    have et : (l.take k).take k2 = l.take k2 := by rw [List.take_take, Nat.min_eq_left hk2]
    rw [et, HC.out] at hcl2
    have HC2 := Lib.hid hcl2
    have HB2 := Lib.hid (bt HB.out b2)
    clear hcl2 et b2
    go_wp2
    go_ret
    exact ⟨k2, rfl, Nat.le_trans hk2 hk, by rw [HC2.out, HO.out], HB2.out⟩
set_option maxRecDepth 100000 in
set_option maxHeartbeats 1000000 in
theorem leftOpen_no (A : Option Addr) (c : Nat) (l : List ByteArray) (n : ByteArray) (w : World) (hm : l.length ≤ 1000000) (hc : l.length ≤ c) (hr : Rd w w.heap.size A l) (hp : para n = false) :
    Calls Tryz.prog 43 #[.slice A l.length c, .string n] w fun e w' => ∃ k : Nat, e = .returned (.slice A k c) ∧ k ≤ l.length ∧ (l.take k).reverse = openedS n l.reverse ∧ Below w.heap.size w w' := by
  have HO := Lib.hid (opened_no hp l.reverse)
  obtain ⟨q1, q2, q3⟩ := para_false hp
  clear hp
  go_enter Tryz.func43, Tryz.ntmps43
  go_wp2_with fail
  refine (closed_any A c l n w hm hc hr).mono ?_
  rintro e w1 ⟨k, rfl, hk, hcl, b1⟩
  have HC := Lib.hid hcl; have HB := Lib.hid b1
  clear hcl b1 hr
  go_wp2
  go_ret
  exact ⟨k, rfl, hk, by rw [HC.out, HO.out], HB.out⟩
theorem leftOpen_any (A : Option Addr) (c : Nat) (l : List ByteArray) (n : ByteArray) (w : World) (hm : l.length ≤ 1000000) (hc : l.length ≤ c) (hr : Rd w w.heap.size A l) :
    Calls Tryz.prog 43 #[.slice A l.length c, .string n] w fun e w' => ∃ k : Nat, e = .returned (.slice A k c) ∧ k ≤ l.length ∧ (l.take k).reverse = openedS n l.reverse ∧ Below w.heap.size w w' := by
  cases hp : para n with
  | true => exact leftOpen_yes A c l n w hm hc hr hp
  | false => exact leftOpen_no A c l n w hm hc hr hp

theorem nested_any (n : ByteArray) (V : Value) (l : List ByteArray) (w : World) (hm : l.length ≤ 1000000) (h : Sv w w.heap.size V l) (q : Bool) (hq : nestedB n l = q) :
    Calls Tryz.prog 17 #[.string n, V] w fun e w' => e = .returned (.bool q) ∧ Below w.heap.size w w' := by
  obtain ⟨A, c, rfl, hc, _, hr⟩ := h
  go_enter Tryz.func17, Tryz.ntmps17
  go_wp2_with fail
  refine (leftOpen_any A c l n w hm hc hr).mono ?_
  rintro e w1 ⟨k, rfl, hk, ho, b1⟩
  have hkl : (l.take k).length = k := by rw [List.length_take]; omega
  have he : ((k : Int) == (l.length : Int)) = q := by
    rw [← hq, nestedB, ← ho, List.length_reverse, hkl, Bool.eq_iff_iff, beq_iff_eq, decide_eq_true_iff]
    omega
  have HB := Lib.hid b1
  clear b1 ho hq hkl
  go_wp2
  go_ret
  exact ⟨rfl, HB.out⟩

end Go.Proofs.YtdplbcchkjpcdaaGreatDoor.Bu

namespace Go.Proofs.YtdplbcchkjpcdaaGreatDoor.Na
set_option maxRecDepth 100000
set_option linter.unusedSimpArgs false
set_option linter.unusedVariables false
open Go.RowKit Ba Fm Fo Nm
set_option maxRecDepth 100000 in
set_option maxHeartbeats 4000000 in
theorem refCloses_any (s : ByteArray) (w : World) : Calls Tryz.prog 64 #[.string s] w fun e w' => ∃ v, e = .returned v ∧ Sown w.heap.size w' v (closesL s) ∧ Below w.heap.size w w' := by
  by_cases h0 : s = n_li
  · obtain ⟨⟨f0, f1, f2, f3, f4, f5, f6, f7, f8, f9, f10⟩, hcl, hwl, htb, hbl⟩ := own_li h0
    rw [hcl]
    have hb := below_one w (.cells ([n_li].map sc).toArray 9)
    have hs := sown_lit w [n_li] (by decide)
    have HX := Lib.hid h0; have HTB := Lib.hid htb
    clear h0 hcl hwl htb hbl
    go_enter Tryz.func64, Tryz.ntmps64
    rw [← HX.out] at hs hb
    rw [← HX.out]
    go_wp2
    go_ret
    exact ⟨_, rfl, hs, hb⟩
  by_cases h1 : s = n_dd
  · obtain ⟨⟨f0, f1, f2, f3, f4, f5, f6, f7, f8, f9, f10⟩, hcl, hwl, htb, hbl⟩ := own_dd h1
    rw [hcl]
    have hb := below_one w (.cells ([n_dd, n_dt].map sc).toArray 9)
    have hs := sown_lit w [n_dd, n_dt] (by decide)
    have HX := Lib.hid h1; have HTB := Lib.hid htb
    clear h0 h1 hcl hwl htb hbl
    go_enter Tryz.func64, Tryz.ntmps64
    go_wp2
    go_ret
    exact ⟨_, rfl, hs, hb⟩
  by_cases h2 : s = n_dt
  · obtain ⟨⟨f0, f1, f2, f3, f4, f5, f6, f7, f8, f9, f10⟩, hcl, hwl, htb, hbl⟩ := own_dt h2
    rw [hcl]
    have hb := below_one w (.cells ([n_dd, n_dt].map sc).toArray 9)
    have hs := sown_lit w [n_dd, n_dt] (by decide)
    have HX := Lib.hid h2; have HTB := Lib.hid htb
    clear h0 h1 h2 hcl hwl htb hbl
    go_enter Tryz.func64, Tryz.ntmps64
    go_wp2
    go_ret
    exact ⟨_, rfl, hs, hb⟩
  by_cases h3 : s = n_option
  · obtain ⟨⟨f0, f1, f2, f3, f4, f5, f6, f7, f8, f9, f10⟩, hcl, hwl, htb, hbl⟩ := own_option h3
    rw [hcl]
    have hb := below_one w (.cells ([n_option].map sc).toArray 9)
    have hs := sown_lit w [n_option] (by decide)
    have HX := Lib.hid h3; have HTB := Lib.hid htb
    clear h0 h1 h2 h3 hcl hwl htb hbl
    go_enter Tryz.func64, Tryz.ntmps64
    rw [← HX.out] at hs hb
    rw [← HX.out]
    go_wp2
    go_ret
    exact ⟨_, rfl, hs, hb⟩
  by_cases h4 : s = n_optgroup
  · obtain ⟨⟨f0, f1, f2, f3, f4, f5, f6, f7, f8, f9, f10⟩, hcl, hwl, htb, hbl⟩ := own_optgroup h4
    rw [hcl]
    have hb := below_one w (.cells ([n_optgroup, n_option].map sc).toArray 9)
    have hs := sown_lit w [n_optgroup, n_option] (by decide)
    have HX := Lib.hid h4; have HTB := Lib.hid htb
    clear h0 h1 h2 h3 h4 hcl hwl htb hbl
    go_enter Tryz.func64, Tryz.ntmps64
    go_wp2
    go_ret
    exact ⟨_, rfl, hs, hb⟩
  by_cases h5 : s = n_tr
  · obtain ⟨⟨f0, f1, f2, f3, f4, f5, f6, f7, f8, f9, f10⟩, hcl, hwl, htb, hbl⟩ := own_tr h5
    rw [hcl]
    have hb := below_one w (.cells ([n_td, n_th, n_tr].map sc).toArray 9)
    have hs := sown_lit w [n_td, n_th, n_tr] (by decide)
    have HX := Lib.hid h5; have HTB := Lib.hid htb
    clear h0 h1 h2 h3 h4 h5 hcl hwl htb hbl
    go_enter Tryz.func64, Tryz.ntmps64
    go_wp2
    go_ret
    exact ⟨_, rfl, hs, hb⟩
  by_cases h6 : s = n_td
  · obtain ⟨⟨f0, f1, f2, f3, f4, f5, f6, f7, f8, f9, f10⟩, hcl, hwl, htb, hbl⟩ := own_td h6
    rw [hcl]
    have hb := below_one w (.cells ([n_td, n_th].map sc).toArray 9)
    have hs := sown_lit w [n_td, n_th] (by decide)
    have HX := Lib.hid h6; have HTB := Lib.hid htb
    clear h0 h1 h2 h3 h4 h5 h6 hcl hwl htb hbl
    go_enter Tryz.func64, Tryz.ntmps64
    go_wp2
    go_ret
    exact ⟨_, rfl, hs, hb⟩
  by_cases h7 : s = n_th
  · obtain ⟨⟨f0, f1, f2, f3, f4, f5, f6, f7, f8, f9, f10⟩, hcl, hwl, htb, hbl⟩ := own_th h7
    rw [hcl]
    have hb := below_one w (.cells ([n_td, n_th].map sc).toArray 9)
    have hs := sown_lit w [n_td, n_th] (by decide)
    have HX := Lib.hid h7; have HTB := Lib.hid htb
    clear h0 h1 h2 h3 h4 h5 h6 h7 hcl hwl htb hbl
    go_enter Tryz.func64, Tryz.ntmps64
    go_wp2
    go_ret
    exact ⟨_, rfl, hs, hb⟩
  by_cases h8 : s = n_tbody
  · obtain ⟨⟨f0, f1, f2, f3, f4, f5, f6, f7, f8, f9, f10⟩, hcl, hwl, htb, hbl⟩ := own_tbody h8
    rw [hcl]
    have hb := below_one w (.cells ([n_tbody, n_td, n_tfoot, n_th, n_thead, n_tr].map sc).toArray 9)
    have hs := sown_lit w [n_tbody, n_td, n_tfoot, n_th, n_thead, n_tr] (by decide)
    have HX := Lib.hid h8; have HTB := Lib.hid htb
    clear h0 h1 h2 h3 h4 h5 h6 h7 h8 hcl hwl htb hbl
    go_enter Tryz.func64, Tryz.ntmps64
    go_wp2_with fail
    refine (refTable_any w).mono ?_
    rintro e w1 ⟨v1, rfl, ho1, hb1⟩
    go_wp2_with fail
    refine (hasS w1 v1 tableL s (sv_own ho1) (by decide)).mono ?_
    rintro e w2 ⟨rfl, rfl⟩
    rw [HTB.out]
    go_wp2_with fail
    refine (refTable_any w1).mono ?_
    rintro e w2 ⟨v2, rfl, ho2, hb2⟩
    go_wp2
    go_ret
    exact ⟨v2, rfl, ho2.mono hb1.size, bt hb1 hb2⟩
  by_cases h9 : s = n_tfoot
  · obtain ⟨⟨f0, f1, f2, f3, f4, f5, f6, f7, f8, f9, f10⟩, hcl, hwl, htb, hbl⟩ := own_tfoot h9
    rw [hcl]
    have hb := below_one w (.cells ([n_tbody, n_td, n_tfoot, n_th, n_thead, n_tr].map sc).toArray 9)
    have hs := sown_lit w [n_tbody, n_td, n_tfoot, n_th, n_thead, n_tr] (by decide)
    have HX := Lib.hid h9; have HTB := Lib.hid htb
    clear h0 h1 h2 h3 h4 h5 h6 h7 h8 h9 hcl hwl htb hbl
    go_enter Tryz.func64, Tryz.ntmps64
    go_wp2_with fail
    refine (refTable_any w).mono ?_
    rintro e w1 ⟨v1, rfl, ho1, hb1⟩
    go_wp2_with fail
    refine (hasS w1 v1 tableL s (sv_own ho1) (by decide)).mono ?_
    rintro e w2 ⟨rfl, rfl⟩
    rw [HTB.out]
    go_wp2_with fail
    refine (refTable_any w1).mono ?_
    rintro e w2 ⟨v2, rfl, ho2, hb2⟩
    go_wp2
    go_ret
    exact ⟨v2, rfl, ho2.mono hb1.size, bt hb1 hb2⟩
  by_cases h10 : s = n_thead
  · obtain ⟨⟨f0, f1, f2, f3, f4, f5, f6, f7, f8, f9, f10⟩, hcl, hwl, htb, hbl⟩ := own_thead h10
    rw [hcl]
    have hb := below_one w (.cells ([n_tbody, n_td, n_tfoot, n_th, n_thead, n_tr].map sc).toArray 9)
    have hs := sown_lit w [n_tbody, n_td, n_tfoot, n_th, n_thead, n_tr] (by decide)
    have HX := Lib.hid h10; have HTB := Lib.hid htb
    clear h0 h1 h2 h3 h4 h5 h6 h7 h8 h9 h10 hcl hwl htb hbl
    go_enter Tryz.func64, Tryz.ntmps64
    go_wp2_with fail
    refine (refTable_any w).mono ?_
    rintro e w1 ⟨v1, rfl, ho1, hb1⟩
    go_wp2_with fail
    refine (hasS w1 v1 tableL s (sv_own ho1) (by decide)).mono ?_
    rintro e w2 ⟨rfl, rfl⟩
    rw [HTB.out]
    go_wp2_with fail
    refine (refTable_any w1).mono ?_
    rintro e w2 ⟨v2, rfl, ho2, hb2⟩
    go_wp2
    go_ret
    exact ⟨v2, rfl, ho2.mono hb1.size, bt hb1 hb2⟩
  obtain ⟨⟨f0, f1, f2, f3, f4, f5, f6, f7, f8, f9, f10⟩, hcl, hwl, htb⟩ := own_none h0 h1 h2 h3 h4 h5 h6 h7 h8 h9 h10
  clear h0 h1 h2 h3 h4 h5 h6 h7 h8 h9 h10
  rw [hcl]
  have HTB := Lib.hid htb
  clear htb
  clear hcl hwl
  obtain ⟨q, hq⟩ : ∃ q, isIn s blockL = q := ⟨_, rfl⟩
  rw [hq]
  have HQ := Lib.hid hq
  clear hq
  cases q with
  | true =>
    rw [if_pos rfl]
    go_enter Tryz.func64, Tryz.ntmps64
    go_wp2_with fail
    refine (refTable_any w).mono ?_
    rintro e w1 ⟨v1, rfl, ho1, hb1⟩
    go_wp2_with fail
    refine (hasS w1 v1 tableL s (sv_own ho1) (by decide)).mono ?_
    rintro e w2 ⟨rfl, rfl⟩
    rw [HTB.out]
    go_wp2_with fail
    refine (refBlock_any w1).mono ?_
    rintro e w2 ⟨v2, rfl, ho2, hb2⟩
    go_wp2_with fail
    refine (hasS w2 v2 blockL s (sv_own ho2) (by decide)).mono ?_
    rintro e w3 ⟨rfl, rfl⟩
    rw [HQ.out]
    have hb12 := bt hb1 hb2
    have hb3 := below_one w2 (.cells ([n_p].map sc).toArray 9)
    have hs3 := sown_lit w2 [n_p] (by decide)
    go_wp2
    go_ret
    exact ⟨_, rfl, hs3.mono hb12.size, bt hb12 hb3⟩
    | false =>
    rw [if_neg (by decide)]
    go_enter Tryz.func64, Tryz.ntmps64
    go_wp2_with fail
    refine (refTable_any w).mono ?_
    rintro e w1 ⟨v1, rfl, ho1, hb1⟩
    go_wp2_with fail
    refine (hasS w1 v1 tableL s (sv_own ho1) (by decide)).mono ?_
    rintro e w2 ⟨rfl, rfl⟩
    rw [HTB.out]
    go_wp2_with fail
    refine (refBlock_any w1).mono ?_
    rintro e w2 ⟨v2, rfl, ho2, hb2⟩
    go_wp2_with fail
    refine (hasS w2 v2 blockL s (sv_own ho2) (by decide)).mono ?_
    rintro e w3 ⟨rfl, rfl⟩
    rw [HQ.out]
    have hb12 := bt hb1 hb2
    have hb3 := below_one w2 (.cells (([] : List ByteArray).map sc).toArray 9)
    have hs3 := sown_lit w2 [] (by decide)
    go_wp2
    go_ret
    exact ⟨_, rfl, hs3.mono hb12.size, bt hb12 hb3⟩

end Go.Proofs.YtdplbcchkjpcdaaGreatDoor.Na
