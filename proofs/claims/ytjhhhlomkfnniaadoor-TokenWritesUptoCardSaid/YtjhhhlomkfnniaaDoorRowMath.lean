/-
  Trees as rows, in plain words: which rows are right, where a node's tree ends, its kids, its text; nothing of the program.
-/
import Derived.Test.YtjhhhlomkfnniaaDoorStr
namespace Go.Proofs.YtjhhhlomkfnniaaDoor.Ro
set_option linter.unusedVariables false
set_option linter.unusedSimpArgs false

structure At where
  name : ByteArray
  value : ByteArray
deriving DecidableEq
structure Ro where
  depth : Int
  kind : Int
  name : ByteArray
  data : ByteArray
  attrs : List At
deriving DecidableEq

/-- Is there one that stands at this depth or deeper, or too many? -/
def exceeds (l : List Ro) (n d : Int) : Bool := decide (n < l.length) || l.any fun x => decide (d ≤ x.depth)

/-- Are two names the same? -/
def twice : List At → Bool
  | [] => false
  | a :: r => r.any (fun b => decide (b.name = a.name)) || twice r
def okRow (x : Ro) : Bool := if (x.kind == 0) = true then !x.name.toList.isEmpty && x.data.toList.isEmpty && !twice x.attrs else (x.kind == 1 || x.kind == 2) && x.name.toList.isEmpty && (x.attrs.length : Int) == 0
/-- Right from here on, where a row may stand at most at depth m. -/
def rightFrom (m : Int) : List Ro → Bool
  | [] => true
  | x :: r => decide (0 ≤ x.depth) && decide (x.depth ≤ m) && okRow x && rightFrom (if x.kind = 0 then x.depth + 1 else x.depth) r
def right (l : List Ro) : Bool := rightFrom 0 l

/-- The depth of row i; of -1, which stands for what has the roots: -1. -/
def dep (l : List Ro) (i : Int) : Int := if i = -1 then -1 else ((l[i.toNat]?).map (·.depth)).getD 0
theorem dep_top (l : List Ro) : dep l (-1) = -1 := rfl
theorem dep_at {l : List Ro} {k : Nat} {x : Ro} (h : l[k]? = some x) : dep l k = x.depth := by
  unfold dep
  rw [if_neg (by omega), Int.toNat_natCast, h]
  rfl
/-- What stands behind row i and deeper than it. -/
def below (l : List Ro) (i : Int) : List Ro := (l.drop (i + 1).toNat).takeWhile fun x => decide (dep l i < x.depth)
/-- Where the tree of row i ends. -/
def endOf (l : List Ro) (i : Int) : Nat := (i + 1).toNat + (below l i).length
def hasRow (l : List Ro) (i : Int) : Bool := decide (0 ≤ i ∧ i < l.length)
def endAt (l : List Ro) (i : Int) : Nat := if hasRow l i then endOf l i else 0
/-- The last row ahead of n that is less deep than d. -/
def up (l : List Ro) (d : Int) : Nat → Int
  | 0 => -1
  | n + 1 => if dep l n < d then n else up l d n
def parent (l : List Ro) (i : Int) : Int := if hasRow l i then up l (dep l i) i.toNat else -1
/-- The last row from k on, ahead of n, that is just at depth d; p, if there is none. -/
def lastAt (l : List Ro) (d : Int) (p : Int) : Nat → Nat → Int
  | _, 0 => p
  | k, n + 1 => lastAt l d (if dep l k = d then k else p) (k + 1) n

end Go.Proofs.YtjhhhlomkfnniaaDoor.Ro
