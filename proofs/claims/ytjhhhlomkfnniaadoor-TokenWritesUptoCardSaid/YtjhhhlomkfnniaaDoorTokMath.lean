/-
  Documents cut into tokens, in plain words, over lists of bytes: nothing of the program.
-/
import Derived.Test.YtjhhhlomkfnniaaDoorRowMath
import Derived.Test.YtjhhhlomkfnniaaDoorFoldMath
import Derived.Test.YtjhhhlomkfnniaaDoorRefsMath
import Derived.Test.YtjhhhlomkfnniaaDoorNamesMath
namespace Go.Proofs.YtjhhhlomkfnniaaDoor.Tm
set_option linter.unusedVariables false
set_option linter.unusedSimpArgs false
open Ba Fm Rm Nm
open Ro (At)

/-- What stands ahead of the first place at which p holds of the rest, and that rest. -/
def lead (p : List UInt8 → Bool) : List UInt8 → List UInt8
  | [] => []
  | c :: r => if p (c :: r) = true then [] else c :: lead p r
def trail (p : List UInt8 → Bool) : List UInt8 → List UInt8
  | [] => []
  | c :: r => if p (c :: r) = true then c :: r else trail p r
theorem lead_trail (p : List UInt8 → Bool) : ∀ l, lead p l ++ trail p l = l
  | [] => rfl
  | c :: r => by
    unfold lead trail
    split
    · rfl
    · rw [List.cons_append, lead_trail p r]
theorem lead_nil (p : List UInt8 → Bool) : lead p [] = [] := rfl
theorem trail_nil (p : List UInt8 → Bool) : trail p [] = [] := rfl
theorem lead_yes {p : List UInt8 → Bool} {c : UInt8} {r : List UInt8} (h : p (c :: r) = true) : lead p (c :: r) = [] := by unfold lead; rw [if_pos h]
theorem trail_yes {p : List UInt8 → Bool} {c : UInt8} {r : List UInt8} (h : p (c :: r) = true) : trail p (c :: r) = c :: r := by unfold trail; rw [if_pos h]
theorem lead_no {p : List UInt8 → Bool} {c : UInt8} {r : List UInt8} (h : p (c :: r) = false) : lead p (c :: r) = c :: lead p r := by
  show (if p (c :: r) = true then _ else _) = _
  rw [if_neg (by simp [h])]
theorem trail_no {p : List UInt8 → Bool} {c : UInt8} {r : List UInt8} (h : p (c :: r) = false) : trail p (c :: r) = trail p r := by
  show (if p (c :: r) = true then _ else _) = _
  rw [if_neg (by simp [h])]
theorem len_trail (p : List UInt8 → Bool) (l : List UInt8) : (trail p l).length ≤ l.length := by
  have := congrArg List.length (lead_trail p l)
  rw [List.length_append] at this
  omega
theorem len_lead (p : List UInt8 → Bool) (l : List UInt8) : (lead p l).length ≤ l.length := by
  have := congrArg List.length (lead_trail p l)
  rw [List.length_append] at this
  omega
theorem trail_cases (p : List UInt8 → Bool) : ∀ l, trail p l = [] ∨ p (trail p l) = true
  | [] => .inl rfl
  | c :: r => by
    cases h : p (c :: r) with
    | true => rw [trail_yes h]; exact .inr h
    | false => rw [trail_no h]; exact trail_cases p r

/-- One byte's property, of what begins with it. -/
def by1 (q : UInt8 → Bool) : List UInt8 → Bool
  | [] => false
  | c :: _ => q c
/-- What ends a value without quotes, a tag's name, an attribute's name. -/
def ev (c : UInt8) : Bool := c == 62 || sp c
def en (c : UInt8) : Bool := c == 47 || ev c
def ea (c : UInt8) : Bool := c == 61 || en c
def gt (c : UInt8) : Bool := c == 62
def is (q : UInt8) (c : UInt8) : Bool := c == q
abbrev upTo (q : UInt8 → Bool) (l : List UInt8) : List UInt8 := lead (by1 q) l
abbrev from_ (q : UInt8 → Bool) (l : List UInt8) : List UInt8 := trail (by1 q) l

/-- A value as it stands, and what stands trail it. -/
def quo (q : UInt8) (r : List UInt8) : List UInt8 × List UInt8 := (upTo (is q) r, (from_ (is q) r).drop 1)
def value (l : List UInt8) : List UInt8 × List UInt8 :=
  if l.head? = some 34 then quo 34 (l.drop 1) else if l.head? = some 39 then quo 39 (l.drop 1) else (upTo ev l, from_ ev l)
/-- What an attribute has trail its name, spaces passed: its value, and the rest. -/
def valued (l : List UInt8) : List UInt8 × List UInt8 :=
  if l.head? = some 61 then (dec (value (trimS (l.drop 1))).1, (value (trimS (l.drop 1))).2) else ([], l)
/-- An attribute that begins with a byte, and the rest. -/
def attr (c : UInt8) (r : List UInt8) : At × List UInt8 :=
  (⟨B (lowL (c :: upTo ea r)), B (valued (trimS (from_ ea r))).1⟩, (valued (trimS (from_ ea r))).2)
def known (l : List At) (name : ByteArray) : Bool := l.any fun a => decide (a.name = name)
/-- An attribute is added, if none has its name. -/
def put (l : List At) (a : At) : List At := if known l a.name = true then l else l ++ [a]

theorem len_from (q : UInt8 → Bool) (l : List UInt8) : (from_ q l).length ≤ l.length := len_trail _ l
theorem len_quo (q : UInt8) (r : List UInt8) : (quo q r).2.length ≤ r.length := by
  have := len_from (is q) r
  unfold quo
  rw [List.length_drop]
  omega
theorem len_value (l : List UInt8) : (value l).2.length ≤ l.length := by
  unfold value
  have h1 := len_quo 34 (l.drop 1)
  have h2 := len_quo 39 (l.drop 1)
  have h3 := len_from ev l
  rw [List.length_drop] at h1 h2
  split
  · omega
  · split
    · omega
    · exact h3
theorem len_valued (l : List UInt8) : (valued l).2.length ≤ l.length := by
  unfold valued
  have h1 := len_value (trimS (l.drop 1))
  have h2 := len_trimS (l.drop 1)
  rw [List.length_drop] at h2
  split
  · show (value _).2.length ≤ _
    omega
  · exact Nat.le_refl _
theorem len_attr (c : UInt8) (r : List UInt8) : (attr c r).2.length ≤ r.length := by
  have h1 := len_valued (trimS (from_ ea r))
  have h2 := len_trimS (from_ ea r)
  have h3 := len_from ea r
  show (valued _).2.length ≤ _
  omega

/-- A tag's attributes, from a place trail its name on: they, whether a slash is directly lead of its end, and what stands trail that; none: there is no end. -/
def attrs (self : Bool) (acc : List At) : List UInt8 → Option (List At × Bool × List UInt8)
  | [] => none
  | c :: r =>
    if c = 62 then some (acc, self, r)
    else if c = 47 ∨ sp c = true then attrs (c == 47) acc r
    else attrs false (put acc (attr c r).1) (attr c r).2
  termination_by l => l.length
  decreasing_by
    · simp
    · have := len_attr c r
      simp only [List.length_cons]
      omega
theorem attrs_nil (self : Bool) (acc : List At) : attrs self acc [] = none := by rw [attrs]
theorem attrs_end (self : Bool) (acc : List At) (r : List UInt8) : attrs self acc (62 :: r) = some (acc, self, r) := by rw [attrs, if_pos rfl]
theorem attrs_skip (self : Bool) (acc : List At) {c : UInt8} (r : List UInt8) (h : c ≠ 62) (hs : c = 47 ∨ sp c = true) : attrs self acc (c :: r) = attrs (c == 47) acc r := by rw [attrs, if_neg h, if_pos hs]
theorem attrs_attr (self : Bool) (acc : List At) {c : UInt8} (r : List UInt8) (h : c ≠ 62) (hs : ¬ (c = 47 ∨ sp c = true)) : attrs self acc (c :: r) = attrs false (put acc (attr c r).1) (attr c r).2 := by rw [attrs, if_neg h, if_neg hs]

/-- A token. -/
structure Tk where
  kind : Int
  name : ByteArray
  data : ByteArray
  attrs : List At
  self : Bool
deriving DecidableEq

def tx (d : List UInt8) : Tk := ⟨0, B [], B d, [], false⟩
/-- A text, if there is any. -/
def txt (d : List UInt8) : List Tk := if d = [] then [] else [tx d]

/-- Does the rest begin with these bytes? -/
def pre (t l : List UInt8) : Bool := decide (l.take t.length = t)
/-- Does an end tag of a name begin here? -/
def isEnd (n : List UInt8) (l : List UInt8) : Bool := pre [60, 47] l && decide (lowL ((l.drop 2).take n.length) = lowL n) && by1 en (l.drop (2 + n.length))

/-- What `<!` begins. -/
def marked (r : List UInt8) : Nat := if pre [45, 45] r = true then 4 else if lowL (r.take 7) = [100, 111, 99, 116, 121, 112, 101] ∧ by1 lr (r.drop 7) = false then 5 else 6
def slashed : List UInt8 → Nat
  | [] => 0
  | d :: _ => if lr d = true then 2 else if d = 62 then 3 else 6
/-- What begins here: 0 nothing, 1 a start tag, 2 an end tag, 3 what is skipped, 4 a comment, 5 a doctype, 6 another comment. -/
def begun : List UInt8 → Nat
  | [] => 0
  | a :: l => if a = 60 then (match l with
    | [] => 0
    | c :: r => if lr c = true then 1 else if c = 47 then slashed r else if c = 33 then marked r else if c = 63 then 6 else 0) else 0
def bg (l : List UInt8) : Bool := decide (begun l ≠ 0)
/-- A comment's end. -/
def cend (l : List UInt8) : Bool := pre [45, 45, 62] l || pre [45, 45, 33, 62] l
/-- A comment's text, and the rest, by what stands trail its beginning. -/
def comm (l : List UInt8) : List UInt8 × List UInt8 :=
  if pre [62] l = true then ([], l.drop 1) else if pre [45, 62] l = true then ([], l.drop 2)
  else (lead cend l, (trail cend l).drop (if pre [45, 45, 62] (trail cend l) = true then 3 else 4))
/-- What goes up to the next > , and the rest. -/
def closed (l : List UInt8) : List UInt8 × List UInt8 := (upTo gt l, (from_ gt l).drop 1)
/-- What stands behind the mark of another comment. -/
def marks (l : List UInt8) : List UInt8 := if l.head? = some 33 then l.drop 1 else if l.head? = some 47 then l.drop 1 else l

def rawB (n : List UInt8) : Bool := isIn (B n) rawL
def softB (n : List UInt8) : Bool := isIn (B n) softL
/-- What an element of a name has lead, if it has text alone. -/
def cont (n : List UInt8) (l : List UInt8) : List Tk × List UInt8 :=
  if rawB n = true then (txt (lead (isEnd n) l), trail (isEnd n) l)
  else if softB n = true then (txt (dec (lead (isEnd n) l)), trail (isEnd n) l)
  else ([], l)
/-- A tag from its name on. -/
def startTag (l : List UInt8) : List Tk × List UInt8 := match attrs false [] (from_ en l) with
  | none => ([], [])
  | some (bs, self, r) => (⟨1, B (lowL (upTo en l)), B [], bs, self⟩ :: (cont (lowL (upTo en l)) r).1, (cont (lowL (upTo en l)) r).2)
def endTag (l : List UInt8) : List Tk × List UInt8 := match attrs false [] (from_ en l) with
  | none => ([], [])
  | some (bs, self, r) => ([⟨2, B (lowL (upTo en l)), B [], [], false⟩], r)
/-- What begins here, and the rest. -/
def mk (l : List UInt8) : List Tk × List UInt8 :=
  if begun l = 1 then startTag (l.drop 1)
  else if begun l = 2 then endTag (l.drop 2)
  else if begun l = 3 then ([], l.drop 3)
  else if begun l = 4 then ([⟨3, B [], B (comm (l.drop 4)).1, [], false⟩], (comm (l.drop 4)).2)
  else if begun l = 5 then ([⟨4, B [], B (trimL (closed (l.drop 9)).1), [], false⟩], (closed (l.drop 9)).2)
  else if begun l = 6 then ([⟨3, B [], B (closed (marks (l.drop 1))).1, [], false⟩], (closed (marks (l.drop 1))).2)
  else ([], l)
/-- The text lead of what begins, that, and the rest. -/
def turn (l : List UInt8) : List Tk × List UInt8 := (txt (dec (lead bg l)) ++ (mk (trail bg l)).1, (mk (trail bg l)).2)

/-- The tokens of a document. -/
def cut (l : List UInt8) : List Tk :=
  if _h : (turn l).2.length < l.length then (turn l).1 ++ cut (turn l).2 else (turn l).1
  termination_by l.length
/-- The tokens of what an element of a name has. -/
def within (n l : List UInt8) : List Tk := (cont n l).1 ++ cut (cont n l).2

end Go.Proofs.YtjhhhlomkfnniaaDoor.Tm
