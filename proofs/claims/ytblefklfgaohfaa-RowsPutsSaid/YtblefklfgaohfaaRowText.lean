/-
  The text of rows, and rows with their texts joined, in plain words.
-/
import Derived.Test.YtblefklfgaohfaaRowMath
namespace Go.Proofs.Ytblefklfgaohfaa.Ro
set_option linter.unusedVariables false
set_option linter.unusedSimpArgs false
open Ba

/-- The data of all texts, one after the other. -/
def txt : List Ro → List UInt8
  | [] => []
  | x :: r => (if x.kind = 1 then L x.data else []) ++ txt r
theorem txt_append (a b : List Ro) : txt (a ++ b) = txt a ++ txt b := by
  induction a with
  | nil => rfl
  | cons x r ih => rw [List.cons_append, txt, ih, txt, List.append_assoc]
theorem txt_one (x : Ro) : txt [x] = if x.kind = 1 then L x.data else [] := by rw [txt, txt, List.append_nil]
theorem txt_text {x : Ro} (h : x.kind = 1) : txt [x] = L x.data := by rw [txt_one, if_pos h]
theorem txt_other {x : Ro} (h : ¬ x.kind = 1) : txt [x] = [] := by rw [txt_one, if_neg h]
theorem txt_take (l : List Ro) (k : Nat) : (txt (l.take k)).length ≤ (txt l).length := by
  have h := txt_append (l.take k) (l.drop k)
  rw [List.take_append_drop] at h
  rw [h, List.length_append]
  omega
theorem txt_drop (l : List Ro) (k : Nat) : (txt (l.drop k)).length ≤ (txt l).length := by
  have h := txt_append (l.take k) (l.drop k)
  rw [List.take_append_drop] at h
  rw [h, List.length_append]
  omega
/-- The text of row i; of -1 that of all rows. -/
def textAt (l : List Ro) (i : Int) : List UInt8 := if i = -1 then txt l else if hasRow l i then txt ((l.take (endOf l i)).drop i.toNat) else []
/-- How many texts at this depth come next. -/
def nexts (d : Int) (l : List Ro) : Nat := (l.takeWhile fun y => y.kind == 1 && y.depth == d).length
/-- The rows with each text joined to the one before it, and without empty ones. -/
def normal : List Ro → List Ro
  | [] => []
  | x :: r =>
    if x.kind = 1 then
      (if txt (x :: r.take (nexts x.depth r)) = [] then [] else [⟨x.depth, 1, .empty, B (txt (x :: r.take (nexts x.depth r))), []⟩]) ++ normal (r.drop (nexts x.depth r))
    else x :: normal r
termination_by l => l.length
decreasing_by all_goals (simp [List.length_drop]; try omega)

end Go.Proofs.Ytblefklfgaohfaa.Ro
