/-
  Tokens of documents that are written out: the same functions by steps that are counted, so that they can be reckoned.
-/
import Derived.Test.YtjhhhlomkfnniaaDoorTokTag
import Derived.Test.YtjhhhlomkfnniaaDoorTokPut
namespace Go.Proofs.YtjhhhlomkfnniaaDoor.Tm
set_option linter.unusedVariables false
set_option linter.unusedSimpArgs false
open Ba Fm Rm Nm
open Ro (At)

def runF (f : List UInt8 → List UInt8 × Nat) : Nat → List UInt8 → List UInt8
  | 0, _ => []
  | n + 1, l => if l.isEmpty = true then [] else (f l).1 ++ runF f n (l.drop ((f l).2 - 1 + 1))
theorem run_eval (f : List UInt8 → List UInt8 × Nat) : ∀ (n : Nat) (l : List UInt8), l.length ≤ n → run f l = runF f n l
  | 0, l, h => by
    have : l = [] := List.eq_nil_of_length_eq_zero (by omega)
    rw [this, run_nil]
    rfl
  | n + 1, l, h => by
    by_cases he : l = []
    · rw [he, run_nil]; rfl
    · rw [run, dif_neg he]
      have hi : l.isEmpty = false := by simpa using he
      show _ = if l.isEmpty = true then [] else _
      rw [if_neg (by rw [hi]; simp), run_eval f n]
      have : 0 < l.length := List.length_pos_iff.2 he
      rw [List.length_drop]
      omega
def decF (l : List UInt8) : List UInt8 := runF fst l.length l
def escF (q : Bool) (l : List UInt8) : List UInt8 := runF (est q) l.length l
theorem dec_eval : dec = decF := funext fun l => run_eval fst l.length l (Nat.le_refl _)
theorem esc_eval (q : Bool) : esc q = escF q := funext fun l => run_eval (est q) l.length l (Nat.le_refl _)

def valuedF (l : List UInt8) : List UInt8 × List UInt8 :=
  if l.head? = some 61 then (decF (value (trimS (l.drop 1))).1, (value (trimS (l.drop 1))).2) else ([], l)
theorem valued_eval : valued = valuedF := by funext l; unfold valued valuedF; rw [dec_eval]
def attrF (c : UInt8) (r : List UInt8) : At × List UInt8 :=
  (⟨B (lowL (c :: upTo ea r)), B (valuedF (trimS (from_ ea r))).1⟩, (valuedF (trimS (from_ ea r))).2)
theorem attr_eval : attr = attrF := by funext c r; unfold attr attrF; rw [valued_eval]
def attrsF : Nat → Bool → List At → List UInt8 → Option (List At × Bool × List UInt8)
  | 0, _, _, _ => none
  | _ + 1, _, _, [] => none
  | n + 1, self, acc, c :: r => if c = 62 then some (acc, self, r) else if c = 47 ∨ sp c = true then attrsF n (c == 47) acc r else attrsF n false (put acc (attrF c r).1) (attrF c r).2
theorem attrs_eval : ∀ (n : Nat) (self : Bool) (acc : List At) (l : List UInt8), l.length < n → attrs self acc l = attrsF n self acc l
  | 0, _, _, _, h => absurd h (by omega)
  | n + 1, self, acc, [], _ => attrs_nil self acc
  | n + 1, self, acc, c :: r, h => by
    simp only [List.length_cons] at h
    have h3 := len_attr c r
    rw [attrs]
    show _ = if c = 62 then some (acc, self, r) else if c = 47 ∨ sp c = true then attrsF n (c == 47) acc r else attrsF n false (put acc (attrF c r).1) (attrF c r).2
    rw [attrs_eval n _ _ r (by omega), attrs_eval n _ _ (attr c r).2 (by omega), attr_eval]
def contF (n : List UInt8) (l : List UInt8) : List Tk × List UInt8 :=
  if rawB n = true then (txt (lead (isEnd n) l), trail (isEnd n) l)
  else if softB n = true then (txt (decF (lead (isEnd n) l)), trail (isEnd n) l)
  else ([], l)
theorem cont_eval : cont = contF := by funext n l; unfold cont contF; rw [dec_eval]
def startF (l : List UInt8) : List Tk × List UInt8 := match attrsF ((from_ en l).length + 1) false [] (from_ en l) with
  | none => ([], [])
  | some (bs, self, r) => (⟨1, B (lowL (upTo en l)), B [], bs, self⟩ :: (contF (lowL (upTo en l)) r).1, (contF (lowL (upTo en l)) r).2)
def endF (l : List UInt8) : List Tk × List UInt8 := match attrsF ((from_ en l).length + 1) false [] (from_ en l) with
  | none => ([], [])
  | some (bs, self, r) => ([⟨2, B (lowL (upTo en l)), B [], [], false⟩], r)
theorem start_eval : startTag = startF := by funext l; unfold startTag startF; rw [attrs_eval ((from_ en l).length + 1) _ _ _ (Nat.lt_succ_self _), cont_eval]; rfl
theorem end_eval : endTag = endF := by funext l; unfold endTag endF; rw [attrs_eval ((from_ en l).length + 1) _ _ _ (Nat.lt_succ_self _)]; rfl
def mkF (l : List UInt8) : List Tk × List UInt8 :=
  if begun l = 1 then startF (l.drop 1)
  else if begun l = 2 then endF (l.drop 2)
  else if begun l = 3 then ([], l.drop 3)
  else if begun l = 4 then ([⟨3, B [], B (comm (l.drop 4)).1, [], false⟩], (comm (l.drop 4)).2)
  else if begun l = 5 then ([⟨4, B [], B (trimL (closed (l.drop 9)).1), [], false⟩], (closed (l.drop 9)).2)
  else if begun l = 6 then ([⟨3, B [], B (closed (marks (l.drop 1))).1, [], false⟩], (closed (marks (l.drop 1))).2)
  else ([], l)
theorem mk_eval : mk = mkF := by funext l; unfold mk mkF; rw [start_eval, end_eval]
def turnF (l : List UInt8) : List Tk × List UInt8 := (txt (decF (lead bg l)) ++ (mkF (trail bg l)).1, (mkF (trail bg l)).2)
theorem turn_eval : turn = turnF := by funext l; unfold turn turnF; rw [dec_eval, mk_eval]
def cutF : Nat → List UInt8 → List Tk
  | 0, _ => []
  | n + 1, l => if l.isEmpty = true then [] else (turnF l).1 ++ cutF n (turnF l).2
theorem cut_eval : ∀ (n : Nat) (l : List UInt8), l.length ≤ n → cut l = cutF n l
  | 0, l, h => by
    have : l = [] := List.eq_nil_of_length_eq_zero (by omega)
    rw [this]
    exact To.cut_nil
  | n + 1, l, h => by
    by_cases he : l = []
    · rw [he]; exact To.cut_nil
    · have hi : l.isEmpty = false := by simpa using he
      have hl := To.len_turn he
      show _ = if l.isEmpty = true then [] else _
      rw [if_neg (by rw [hi]; simp), To.cut_step he, cut_eval n _ (by omega), turn_eval]
def withinF (n l : List UInt8) : List Tk := (contF n l).1 ++ cutF l.length (contF n l).2
theorem within_eval (n l : List UInt8) : within n l = withinF n l := by
  unfold within withinF
  rw [cut_eval l.length _ (To.len_cont n l), cont_eval]
def wAttrF (a : At) : List UInt8 := [32] ++ (L a.name ++ ([61, 34] ++ (escF true (L a.value) ++ [34])))
def wStartF (t : Tk) : List UInt8 := [60] ++ L t.name ++ t.attrs.flatMap wAttrF ++ (if t.self = true then [32, 47] else []) ++ [62]
def w1F (raw : Bool) (t : Tk) : List UInt8 :=
  if t.kind = 0 then (if raw = true then L t.data else escF false (L t.data))
  else if t.kind = 1 then wStartF t
  else if t.kind = 2 then [60, 47] ++ L t.name ++ [62]
  else if t.kind = 3 then [60, 33, 45, 45] ++ L t.data ++ [45, 45, 62]
  else if t.kind = 4 then [60, 33, 100, 111, 99, 116, 121, 112, 101, 32] ++ L t.data ++ [62]
  else []
def wAllF (raw : Bool) : List Tk → List UInt8
  | [] => []
  | t :: r => w1F raw t ++ wAllF (rawT t) r
theorem wAttr_eval : wAttr = wAttrF := by funext a; unfold wAttr wAttrF; rw [esc_eval]
theorem w1_eval : w1 = w1F := by funext r t; unfold w1 w1F wStart wStartF; rw [esc_eval, wAttr_eval]
theorem wAll_eval : ∀ (r : Bool) (l : List Tk), wAll r l = wAllF r l
  | _, [] => rfl
  | r, t :: l => by
    show w1 r t ++ wAll (rawT t) l = w1F r t ++ wAllF (rawT t) l
    rw [w1_eval, wAll_eval]

abbrev fxA : List Tk := [tx [97], ⟨1, B [98], B [], [⟨B [99], B [100]⟩], false⟩, tx [120], ⟨2, B [98], B [], [], false⟩]
abbrev fxB : List Tk := [⟨1, B [115, 99, 114, 105, 112, 116], B [], [], false⟩, tx [60, 98, 62], ⟨2, B [115, 99, 114, 105, 112, 116], B [], [], false⟩]
abbrev fxC : List Tk := [tx [49, 32, 60, 32, 50]]
abbrev fxD : List Tk := [tx [97, 60, 98, 62, 38], ⟨2, B [116, 105, 116, 108, 101], B [], [], false⟩]
set_option maxRecDepth 100000 in
theorem fixA : within [] [97, 60, 66, 32, 99, 61, 100, 62, 120, 60, 47, 98, 32, 62] = fxA := by rw [within_eval]; decide
set_option maxRecDepth 100000 in
theorem fixB : within [] [60, 115, 99, 114, 105, 112, 116, 62, 60, 98, 62, 60, 47, 115, 99, 114, 105, 112, 116, 62] = fxB := by rw [within_eval]; decide
set_option maxRecDepth 100000 in
theorem fixC : within [] [49, 32, 60, 32, 50] = fxC := by rw [within_eval]; decide
set_option maxRecDepth 100000 in
theorem fixD : within [116, 105, 116, 108, 101] [97, 60, 98, 62, 38, 97, 109, 112, 59, 60, 47, 116, 105, 116, 108, 101, 62] = fxD := by rw [within_eval]; decide
set_option maxRecDepth 100000 in
theorem fixE : wAll false fxA = [97, 60, 98, 32, 99, 61, 34, 100, 34, 62, 120, 60, 47, 98, 62] := by rw [wAll_eval]; decide
set_option maxRecDepth 100000 in
theorem fixF : wAll false fxB = [60, 115, 99, 114, 105, 112, 116, 62, 60, 98, 62, 60, 47, 115, 99, 114, 105, 112, 116, 62] := by rw [wAll_eval]; decide

end Go.Proofs.YtjhhhlomkfnniaaDoor.Tm
