/-
  Strings as lists of bytes. For every stage.
  Slices of strings in memory: what a slice reads as, and a slice of the call's own. For every stage.
  Plain mathematics for stage 2: lists that rise in a strict order, merging, inserting, counting; spaces, words and small letters of bytes. Nothing of the program stands here.
  Slices of strings as values: reading (Sv), of the call's own (Sown), literals, stores; the order of strings. For every stage from 5 on.
  boltingref02.Has.
  Plain mathematics for stage 5: the lists of elements, what each closes and what ends the search, texts that may be names. Nothing of the program stands here.
  Walks of stage 5: names.among, names.Raw, Soft, the document's own.
  Walks of stage 5: names.among, the five lists (names.Void, Raw, Soft, Block, Gone), and the document's own lists.
  Stage 5: the facts about a name that is one of those that close or wall anything of their own, or none.
  Walks of stage 5: bolting/names.Closes: what an element closes, and what ends the search.
  Walks of stage 5: bolting/names.Walls: what an element closes, and what ends the search.
  Stage 5: facts about the lists: what stands in one is right, in one of four alone; what closes does not wall; great letters stand in none; names together and cut.
  Stage 7, in plain words: the open elements (the last one first), what a tag closes, what ends; nothing of the program.
  Trees as rows, in plain words: which rows are right, where a node's tree ends, its kids, its text; nothing of the program.
  Plain mathematics of stage 3 (character references): what a number, a name and a reference stand for; a text decoded; a text written out; what follows for the laws. It speaks of no program.
-/
import Derived.Test.YtdplbcchkjpcdaaGreatDoorRows
import Derived.WalkKit
import Derived.WalkSpells
import Derived.Lib.OthersKept
import Derived.Lib.Hide
import Derived.Lib.Strings
import Derived.OpenShut
import Derived.WalkLawsBesides
import Derived.Lib.AppendStr
import Derived.WalkSmall
import Derived.Laws.IdiomStrings
import Derived.Laws.Cover1
import Derived.Laws.OwnMore
import Derived.Laws.AppendOwnNone
import Derived.Deep.AppendLies
import Derived.Deep.Draws
import Derived.Deep.Onto
import Derived.Maps.AppendAt
import Derived.Deep.QuietTactic
import Derived.BigQuiet
namespace Go.Proofs.YtdplbcchkjpcdaaGreatDoor.Ba
set_option linter.unusedSimpArgs false
set_option linter.unusedVariables false
open Go.RowKit
abbrev L (s : ByteArray) : List UInt8 := s.data.toList
theorem L_def (s : ByteArray) : L s = s.data.toList := rfl
theorem size_L (s : ByteArray) : (L s).length = s.size := by rw [Array.length_toList]; rfl
theorem drop_nil (s : ByteArray) (k : Nat) (h : ¬ k < s.size) : (L s).drop k = [] := List.drop_eq_nil_of_le (by rw [size_L]; omega)
theorem drop_cons (s : ByteArray) (k : Nat) (h : k < s.size) : (L s).drop k = s[k] :: (L s).drop (k + 1) := by
  rw [List.drop_eq_getElem_cons (by rw [size_L]; exact h)]
  rfl
theorem take_snoc (s : ByteArray) (k : Nat) (h : k < s.size) : (L s).take (k + 1) = (L s).take k ++ [s[k]] := by
  rw [List.take_succ_eq_append_getElem (by rw [size_L]; exact h)]; rfl

theorem ret_int {k : IntKind} {a b : Int} (h : a = b) : Ending.returned (.int k a) = .returned (.int k b) := by rw [h]
theorem ret_bool {a b : Bool} (h : a = b) : Ending.returned (.bool a) = .returned (.bool b) := by rw [h]
theorem ret_str {a b : ByteArray} (h : a = b) : Ending.returned (.string a) = .returned (.string b) := by rw [h]

/-- A string of these bytes. -/
def B (l : List UInt8) : ByteArray := ⟨l.toArray⟩
theorem L_B (l : List UInt8) : L (B l) = l := by simp [B]
theorem toList_B (l : List UInt8) : (B l).toList = l := by unfold B; exact ByteArray.toList_mk l
theorem size_B (l : List UInt8) : (B l).size = l.length := by rw [← size_L, L_B]
theorem B_of {s : ByteArray} {l : List UInt8} (h : L s = l) : s = B l := WideShapes.bytes_inj (h.trans (L_B l).symm)
theorem B_L (s : ByteArray) : B (L s) = s := (B_of rfl).symm
theorem B_inj {a b : List UInt8} (h : B a = B b) : a = b := by rw [← L_B a, h, L_B]
theorem toList_L (s : ByteArray) : s.toList = L s := by
  obtain ⟨⟨x⟩⟩ := s
  exact ByteArray.toList_mk x
theorem L_inj {a b : ByteArray} (h : L a = L b) : a = b := WideShapes.bytes_inj h
theorem eq_of_toList {a b : ByteArray} : (a.toList == b.toList) = decide (a = b) := by
  rw [toList_L, toList_L, Bool.eq_iff_iff, beq_iff_eq, decide_eq_true_iff]
  exact ⟨L_inj, fun h => by rw [h]⟩
theorem L_extract (s : ByteArray) (a b : Nat) : L (s.extract a b) = ((L s).drop a).take (b - a) := Lib.extract_data s a b
theorem L_end (s : ByteArray) (a : Nat) : L (s.extract a s.size) = (L s).drop a := by
  rw [L_extract, List.take_of_length_le]
  rw [List.length_drop, size_L]
  exact Nat.le_refl _
theorem L_append (a b : ByteArray) : L (a ++ b) = L a ++ L b := by
  obtain ⟨⟨x⟩⟩ := a
  obtain ⟨⟨y⟩⟩ := b
  rfl
theorem size_append (a b : ByteArray) : (a ++ b).size = a.size + b.size := by rw [← size_L, L_append, List.length_append, size_L, size_L]
theorem B_append (a b : List UInt8) : B a ++ B b = B (a ++ b) := B_of (by rw [L_append, L_B, L_B])
theorem size_extract (s : ByteArray) (a b : Nat) : (s.extract a b).size ≤ s.size := by
  rw [← size_L, ← size_L, L_extract, List.length_take, List.length_drop]; omega

theorem u8_eq {a b : UInt8} : (((a.toNat : Int)) == (b.toNat : Int)) = (a == b) := by
  rw [Bool.eq_iff_iff, beq_iff_eq, beq_iff_eq]
  exact ⟨fun h => UInt8.toNat.inj (by omega), fun h => by rw [h]⟩

theorem bt {w w1 w2 : World} (h1 : Below w.heap.size w w1) (h2 : Below w1.heap.size w1 w2) : Below w.heap.size w w2 := h1.trans (h2.mono h1.size)
theorem below_drewN (w : World) (n : Nat) : Below w.heap.size w (w.drewN n) := ⟨rfl, rfl, rfl, Nat.le_refl _, fun _ _ => rfl⟩

end Go.Proofs.YtdplbcchkjpcdaaGreatDoor.Ba

namespace Go.Proofs.YtdplbcchkjpcdaaGreatDoor.Ba
set_option maxRecDepth 100000
set_option linter.unusedSimpArgs false
set_option linter.unusedVariables false
open Go.RowKit
/-- A slice at A reads as these strings, below block B. -/
def Rd (w : World) (N : Nat) (A : Option Addr) (l : List ByteArray) : Prop :=
  0 < l.length → ∃ b off, A = some ⟨b, off, none⟩ ∧ b < N ∧ ∀ j (h : j < l.length), w.cell? ⟨b, off + j, none⟩ = some (.string l[j])

theorem Rd.nil (w : World) (N : Nat) (A : Option Addr) : Rd w N A [] := fun h => absurd h (by simp)
theorem Rd.keep {w w' : World} {N : Nat} {A : Option Addr} {l : List ByteArray} (h : Rd w N A l) (hk : ∀ p : Addr, p.block < N → w'.cell? p = w.cell? p) : Rd w' N A l := fun h0 => by
  obtain ⟨b, off, e, hb, hc⟩ := h h0
  exact ⟨b, off, e, hb, fun j hj => (hk _ hb).trans (hc j hj)⟩
theorem Rd.more {w : World} {N N' : Nat} {A : Option Addr} {l : List ByteArray} (h : Rd w N A l) (hN : N ≤ N') : Rd w N' A l := fun h0 => by
  obtain ⟨b, off, e, hb, hc⟩ := h h0
  exact ⟨b, off, e, by omega, hc⟩
theorem Rd.below {w w' : World} {N M : Nat} {A : Option Addr} {l : List ByteArray} (h : Rd w N A l) (hb : Below M w w') (hN : N ≤ M) : Rd w' N A l := h.keep fun p hp => hb.cell (p := p) (by omega)
theorem Rd.alloc {w : World} {N : Nat} {A : Option Addr} {l : List ByteArray} (h : Rd w N A l) (hN : N ≤ w.heap.size) (o : Obj) : Rd (w.alloc o) N A l := h.keep fun p hp => World.cell?_alloc_lt w o p (by omega)
theorem Rd.take {w : World} {N : Nat} {A : Option Addr} {l : List ByteArray} (h : Rd w N A l) (m : Nat) : Rd w N A (l.take m) := fun h0 => by
  rw [List.length_take] at h0
  obtain ⟨b, off, e, hb, hc⟩ := h (by omega)
  refine ⟨b, off, e, hb, fun j hj => ?_⟩
  rw [List.length_take] at hj
  rw [List.getElem_take]
  exact hc j (by omega)
/-- Cut: what the model makes of s[m:]. -/
theorem Rd.drop {w : World} {N : Nat} {A : Option Addr} {l : List ByteArray} (h : Rd w N A l) (m cap : Nat) (hc : l.length ≤ cap) : Rd w N (if cap = m then A else A.map (·.add m)) (l.drop m) := fun h0 => by
  rw [List.length_drop] at h0
  obtain ⟨b, off, e, hb, hcc⟩ := h (by omega)
  rw [if_neg (by omega), e]
  refine ⟨b, off + m, by simp [WideShapes.add_plain], hb, fun j hj => ?_⟩
  rw [List.length_drop] at hj
  rw [List.getElem_drop, Nat.add_assoc]
  exact hcc (m + j) (by omega)

def sc (s : ByteArray) : Value := .string s
/-- v is a slice of strings of the call's own that holds l. -/
def Sown (N : Nat) (w : World) (v : Value) (l : List ByteArray) : Prop := w.ownsRow N 9 1 v l.length (l.map sc)

theorem info_str : (Tryz.prog.info? 9).map (fun i => (i.zero, i.size, i.bytes)) = some (some (.string .empty), 1, 16) := by kernel_rfl

theorem Sown.nil (N : Nat) (w : World) : Sown N w (.slice none 0 0) [] := World.ownsRow_nil w N _ 1
theorem Sown.made (w : World) : Sown w.heap.size (w.alloc (.cells #[] 9)) (.slice (some ⟨w.heap.size, 0, none⟩) 0 0) [] :=
  World.ownsRow_made w #[] 0 (Nat.le_refl _) (Nat.zero_le _) rfl
theorem Sown.alloc {N : Nat} {w : World} {v : Value} {l : List ByteArray} (h : Sown N w v l) (o : Obj) : Sown N (w.alloc o) v l := World.ownsRow.alloc h o
theorem Sown.mono {N N' : Nat} {w : World} {v : Value} {l : List ByteArray} (h : Sown N w v l) (hN : N' ≤ N) : Sown N' w v l := World.ownsRow.mono h hN
theorem Sown.below {N M : Nat} {w w' : World} {v : Value} {l : List ByteArray} (h : Sown N w v l) (hb : Below M w w') (hM : w.heap.size ≤ M) : Sown N w' v l := by
  refine ⟨h.1, ?_⟩
  rcases h.2 with hn | ⟨g, cap, cur, hv, hg, hh, rest⟩
  · exact .inl hn
  · refine .inr ⟨g, cap, cur, hv, hg, ?_, rest⟩
    have hlt : g < w.heap.size := (Array.getElem?_eq_some_iff.1 hh).1
    rw [hb.block g (by omega)]
    exact hh
theorem Sown.kept {N : Nat} {w0 w w' : World} {v : Value} {l : List ByteArray} (h : Sown N w v l) (hg : w.grownBy w' v.ownBlock) (hb : Below N w0 w) (hN : N ≤ w.heap.size) : Below N w0 w' :=
  hb.grown hg hN fun k hk => (h.lt k hk).1
/-- Its form, and what it reads as. -/
theorem Sown.form {N : Nat} {w : World} {v : Value} {l : List ByteArray} (h : Sown N w v l) : ∃ A c, v = .slice A l.length c ∧ l.length ≤ c ∧ c ≤ maxLen ∧ Rd w w.heap.size A l := by
  rcases h.2 with ⟨hv, hl⟩ | ⟨g, cap, cur, hv, hg, hh, hn, hm, hs, ht⟩
  · have : l = [] := List.eq_nil_of_length_eq_zero hl
    subst this
    exact ⟨none, 0, hv, Nat.le_refl _, Nat.zero_le _, Rd.nil _ _ _⟩
  · refine ⟨some ⟨g, 0, none⟩, cap, hv, hn, hm, fun _ => ⟨g, 0, rfl, (Array.getElem?_eq_some_iff.1 hh).1, fun j hj => ?_⟩⟩
    subst hv
    have := World.ownsRow.cells h rfl j (sc l[j]) (by simp [hj])
    rw [WideShapes.add_plain] at this
    exact this
theorem Sown.appended {N : Nat} {w : World} {v : Value} {l m : List ByteArray} {n : Nat} (h : w.ownsRow N 9 1 v n (l.map sc ++ m.map sc)) (hn : n = l.length + m.length) : Sown N w v (l ++ m) := by
  unfold Sown
  rw [List.map_append, List.length_append, ← hn]
  exact h

set_option maxRecDepth 100000 in
/-- append of another slice's strings, nil or not. -/
theorem app_all {ops : Array Oper} {rest : List Oper} {o : Oper} {a : Act} {Q : Exit → Act → World → Prop} (w : World) (hgd : o.guard = none) (s x : Operand)
    (ho : o.op = .call { callee := .builtin .append, args := #[s, x], argTypes := #[39, 39] })
    (N : Nat) (v : Value) (l m : List ByteArray) (A : Option Addr) (c M : Nat) (hs : a.eval s = v) (hown : Sown N w v l) (hx : a.eval x = .slice A m.length c) (hc : A = none → c = 0) (hr : Rd w M A m)
    (hl : (l.length + m.length) * 16 ≤ 140737488355328) (hN : N ≤ w.heap.size)
    (h : ∀ v' w', Sown N w' v' (l ++ m) → (∀ w0, Below N w0 w → Below N w0 w') → (∀ A m, Rd w N A m → Rd w' N A m) → wpList Tryz.prog ops Q rest (a.put o.dst v') w') :
    wpList Tryz.prog ops Q (o :: rest) a w := by
  obtain ⟨i0, hi, hz0, hz1, hz2⟩ := info_parts info_str
  cases A with
  | none =>
    have hm : m = [] := by
      rcases Nat.eq_zero_or_pos m.length with h0 | h0
      · exact List.eq_nil_of_length_eq_zero h0
      · obtain ⟨b, off, e, _⟩ := hr h0
        cases e
    subst hm
    have hc0 := hc rfl
    subst hc0
    refine wpList_append_own_none hgd s x 39 ho N 9 i0 1 Tryz.underlying39 hi v l.length (l.map sc) hs hown hx ?_
    exact h v w (by rw [List.append_nil]; exact hown) (fun _ hb => hb) (fun _ _ hr => hr)
  | some ad =>
    have hcells : ∀ j u, (m.map sc)[j]? = some u → w.cell? (ad.add j) = some u := by
      intro j u hu
      have hj : j < m.length := by
        have := (List.getElem?_eq_some_iff.1 hu).1
        rw [List.length_map] at this
        exact this
      obtain ⟨b, off, e, _, hcc⟩ := hr (by omega)
      injection e with e
      subst e
      rw [WideShapes.add_plain, hcc j hj]
      rw [List.getElem?_map, List.getElem?_eq_getElem hj] at hu
      exact hu
    refine wpList_append_own _ hgd s x 39 ho N 9 i0 (.string .empty) 1 16 Tryz.underlying39 hi hz0 hz1 hz2 rfl (by decide) v l.length (l.map sc) hs hown ad m.length c (m.map sc) hx (by simp) hcells (by intro u hu; obtain ⟨y, _, rfl⟩ := List.mem_map.1 hu; rfl) (by unfold maxLen; omega) hl hN ?_
    intro v' w' ho2 hg2 _
    have hk : ∀ w0, Below N w0 w → Below N w0 w' := fun w0 hb => hown.kept hg2 hb hN
    exact h v' w' (Sown.appended ho2 rfl) hk fun A m hr => hr.below (hk w (Below.refl _ _)) (Nat.le_refl _)

end Go.Proofs.YtdplbcchkjpcdaaGreatDoor.Ba

namespace Go.Proofs.YtdplbcchkjpcdaaGreatDoor.Fm
set_option linter.unusedSimpArgs false
set_option linter.unusedVariables false

section order
variable {α : Type}

/-- A strict order in which two that are not less than one another are the same. -/
structure Ord (lt : α → α → Bool) : Prop where
  irr : ∀ a, lt a a = false
  tr : ∀ a b c, lt a b = true → lt b c = true → lt a c = true
  tri : ∀ a b, lt a b = false → lt b a = false → a = b

theorem Ord.ne {lt : α → α → Bool} (h : Ord lt) {a b : α} (hl : lt a b = true) : a ≠ b := by
  rintro rfl
  rw [h.irr] at hl
  cases hl
/-- How many names are smaller. -/
def below (lt : α → α → Bool) (l : List α) (s : α) : Nat := l.countP (lt · s)

variable [DecidableEq α]

/-- Does it stand there? -/
def isIn (x : α) (l : List α) : Bool := decide (x ∈ l)
theorem isIn_yes {x : α} {l : List α} (h : x ∈ l) : isIn x l = true := decide_eq_true h
theorem isIn_no {x : α} {l : List α} (h : ¬ x ∈ l) : isIn x l = false := decide_eq_false h
theorem isIn_of {x : α} {l : List α} (h : isIn x l = true) : x ∈ l := of_decide_eq_true h
end order

section bytes

/-- A space. -/
def sp (c : UInt8) : Bool := c == 32 || c == 9 || c == 10 || c == 12 || c == 13
/-- A letter. -/
def lr (c : UInt8) : Bool := (decide (65 ≤ c) && decide (c ≤ 90)) || (decide (97 ≤ c) && decide (c ≤ 122))
/-- A small letter. -/
def low (c : UInt8) : UInt8 := if 65 ≤ c ∧ c ≤ 90 then c + 32 else c
def lowL (l : List UInt8) : List UInt8 := l.map low

theorem lowL_append (a b : List UInt8) : lowL (a ++ b) = lowL a ++ lowL b := List.map_append
theorem len_lowL (l : List UInt8) : (lowL l).length = l.length := List.length_map ..

/-- Without the spaces at the beginning. -/
def trimS (l : List UInt8) : List UInt8 := l.dropWhile sp
/-- Without the spaces at the end. -/
def trimE (l : List UInt8) : List UInt8 := (l.reverse.dropWhile sp).reverse
def trimL (l : List UInt8) : List UInt8 := trimE (trimS l)

theorem trimS_sp {c : UInt8} (l : List UInt8) (h : sp c = true) : trimS (c :: l) = trimS l := by simp [trimS, List.dropWhile_cons, h]
theorem trimS_no {c : UInt8} (l : List UInt8) (h : sp c = false) : trimS (c :: l) = c :: l := by simp [trimS, List.dropWhile_cons, h]
theorem trimS_nil : trimS [] = [] := rfl
theorem trimE_nil : trimE [] = [] := rfl
theorem trimE_sp {c : UInt8} (l : List UInt8) (h : sp c = true) : trimE (l ++ [c]) = trimE l := by simp [trimE, List.dropWhile_cons, h]
theorem trimE_no {c : UInt8} (l : List UInt8) (h : sp c = false) : trimE (l ++ [c]) = l ++ [c] := by simp [trimE, List.dropWhile_cons, h]

theorem snoc_cases (l : List UInt8) : l = [] ∨ ∃ m c, l = m ++ [c] := by
  rcases List.eq_nil_or_concat l with h | ⟨m, c, h⟩
  · exact .inl h
  · exact .inr ⟨m, c, by rw [h, List.concat_eq_append]⟩

theorem len_trimS : ∀ l : List UInt8, (trimS l).length ≤ l.length
  | [] => Nat.le_refl _
  | c :: l => by
    cases h : sp c with
    | true => rw [trimS_sp l h]; have := len_trimS l; simp; omega
    | false => rw [trimS_no l h]; exact Nat.le_refl _
theorem len_trimE (l : List UInt8) : (trimE l).length ≤ l.length := by
  have := len_trimS l.reverse
  unfold trimE
  rw [List.length_reverse]
  rw [List.length_reverse] at this
  exact this
theorem len_trimL (l : List UInt8) : (trimL l).length ≤ l.length := Nat.le_trans (len_trimE _) (len_trimS l)

end bytes
end Go.Proofs.YtdplbcchkjpcdaaGreatDoor.Fm

namespace Go.Proofs.YtdplbcchkjpcdaaGreatDoor.Fo
set_option linter.unusedSimpArgs false
set_option linter.unusedVariables false
open Go.RowKit Ba Fm
/-- Less, byte by byte. -/
def lt (a b : ByteArray) : Bool := Op.bytesLess a.toList b.toList

theorem below_dN {N : Nat} {a w : World} (h : Below N a w) (n : Nat) : Below N a (w.drewN n) := ⟨h.os, h.tape, h.output, h.size, h.block⟩

def lenOf : Value → Nat | .slice _ n _ => n | _ => 0

/-- v reads as l, below block N. -/
def Sv (w : World) (N : Nat) (v : Value) (l : List ByteArray) : Prop := ∃ A c, v = .slice A l.length c ∧ l.length ≤ c ∧ (A = none → c = 0) ∧ Rd w N A l
theorem sv_own {N : Nat} {w : World} {v : Value} {l : List ByteArray} (h : Sown N w v l) : Sv w w.heap.size v l := by
  rcases h.2 with ⟨hv, hl⟩ | ⟨g, cap, cur, hv, hg, hh, hn, hm, hs, ht⟩
  · have : l = [] := List.eq_nil_of_length_eq_zero hl
    subst this
    exact ⟨none, 0, hv, Nat.le_refl _, fun _ => rfl, Rd.nil _ _ _⟩
  · obtain ⟨A, c, hv', h1, _, h3⟩ := h.form
    refine ⟨A, c, hv', h1, fun e => ?_, h3⟩
    rw [hv] at hv'
    injection hv' with e1
    rw [e] at e1
    cases e1
theorem Sv.below {w w' : World} {N M : Nat} {v : Value} {l : List ByteArray} (h : Sv w N v l) (hb : Below M w w') (hN : N ≤ M) : Sv w' N v l := by
  obtain ⟨A, c, h1, h2, h3, h4⟩ := h
  exact ⟨A, c, h1, h2, h3, h4.below hb hN⟩
theorem Sv.more {w : World} {N M : Nat} {v : Value} {l : List ByteArray} (h : Sv w N v l) (hN : N ≤ M) : Sv w M v l := by
  obtain ⟨A, c, h1, h2, h3, h4⟩ := h
  exact ⟨A, c, h1, h2, h3, h4.more hN⟩

theorem sv_lit (w : World) (l : List ByteArray) : Sv (w.alloc (.cells (l.map sc).toArray 9)) (w.alloc (.cells (l.map sc).toArray 9)).heap.size (.slice (some ⟨w.heap.size, 0, none⟩) l.length l.length) l := by
  refine ⟨_, l.length, rfl, Nat.le_refl _, (fun e => by cases e), fun _ => ⟨w.heap.size, 0, rfl, by simp, fun j hj => ?_⟩⟩
  rw [Nat.zero_add, World.cell?_alloc_at _ _ _ _ rfl]
  simp [sc, hj]
theorem Sv.rd {w : World} {N n c : Nat} {A : Option Addr} {l : List ByteArray} (h : Sv w N (.slice A n c) l) : Rd w N A l := by
  obtain ⟨A', c', e, _, _, hr⟩ := h
  injection e with e
  rw [e]
  exact hr
theorem below_one (w : World) (o : Obj) : Below w.heap.size w (w.alloc o) := (Below.refl _ _).alloc (Nat.le_refl _) _

end Go.Proofs.YtdplbcchkjpcdaaGreatDoor.Fo

namespace Go.Proofs.YtdplbcchkjpcdaaGreatDoor.Fo
set_option maxRecDepth 100000
set_option linter.unusedSimpArgs false
set_option linter.unusedVariables false
open Go.RowKit Ba Fm
theorem has_snoc (l : List ByteArray) (s : ByteArray) (k : Nat) (h : k < l.length) (hn : ¬ s ∈ l.take k) (he : l[k] ≠ s) : ¬ s ∈ l.take (k + 1) := by
  rw [List.take_succ_eq_append_getElem h, List.mem_append]
  rintro (h' | h')
  · exact hn h'
  · exact he (List.mem_singleton.1 h').symm

set_option maxHeartbeats 400000 in
theorem has_any (A : Option Addr) (c N : Nat) (l : List ByteArray) (s : ByteArray) (w : World) (hr : Rd w N A l) (hl : l.length ≤ 8796093022208) :
    Calls Tryz.prog 28 #[.slice A l.length c, .string s] w fun e w' => e = .returned (.bool (isIn s l)) ∧ w = w' := by
  go_enter Tryz.func28, Tryz.ntmps28
  go_wp2
  go_loop [5] (fun i => ∃ k : Nat, i = .int .i64 k ∧ k ≤ l.length ∧ ¬ s ∈ l.take k) (fun i => l.length - (intOf i).toNat)
  case atStart => exact ⟨0, rfl, Nat.zero_le _, by simp⟩
  case round =>
    obtain ⟨k, rfl, hks, hn⟩ := hrel
    have HN := Lib.hid hn; clear hn
    by_cases hp : k < l.length
    · obtain ⟨b, off, rfl, _, hc⟩ := hr (by omega)
      have hcell := hc k hp
      clear hc hr
      have heq := eq_of_toList (a := l[k]) (b := s)
      by_cases he : l[k] = s
      · rw [decide_eq_true he] at heq
        have HE := Lib.hid he; clear he
        go_wp2
        go_ret
        exact ⟨ret_bool (isIn_yes (by have := HE.out; rw [← this]; exact List.getElem_mem _)).symm, rfl⟩
      · rw [decide_eq_false he] at heq
        have HE := Lib.hid he; clear he
        go_wp2
        go_round
        case rel => exact ⟨k + 1, by go_num, by omega, has_snoc l s k hp HN.out HE.out⟩
        case measure => simp [intOf]; omega
    · go_wp2
      go_ret
      refine ⟨ret_bool (isIn_no ?_).symm, rfl⟩
      have := HN.out
      rwa [List.take_of_length_le (by omega)] at this

end Go.Proofs.YtdplbcchkjpcdaaGreatDoor.Fo

namespace Go.Proofs.YtdplbcchkjpcdaaGreatDoor.Nm
set_option linter.unusedSimpArgs false
set_option linter.unusedVariables false
open Ba Fm
abbrev n_button : ByteArray := ⟨#[98, 117, 116, 116, 111, 110]⟩
abbrev n_caption : ByteArray := ⟨#[99, 97, 112, 116, 105, 111, 110]⟩
abbrev n_dd : ByteArray := ⟨#[100, 100]⟩
abbrev n_dl : ByteArray := ⟨#[100, 108]⟩
abbrev n_dt : ByteArray := ⟨#[100, 116]⟩
abbrev n_li : ByteArray := ⟨#[108, 105]⟩
abbrev n_menu : ByteArray := ⟨#[109, 101, 110, 117]⟩
abbrev n_ol : ByteArray := ⟨#[111, 108]⟩
abbrev n_optgroup : ByteArray := ⟨#[111, 112, 116, 103, 114, 111, 117, 112]⟩
abbrev n_option : ByteArray := ⟨#[111, 112, 116, 105, 111, 110]⟩
abbrev n_p : ByteArray := ⟨#[112]⟩
abbrev n_select : ByteArray := ⟨#[115, 101, 108, 101, 99, 116]⟩
abbrev n_table : ByteArray := ⟨#[116, 97, 98, 108, 101]⟩
abbrev n_tbody : ByteArray := ⟨#[116, 98, 111, 100, 121]⟩
abbrev n_td : ByteArray := ⟨#[116, 100]⟩
abbrev n_template : ByteArray := ⟨#[116, 101, 109, 112, 108, 97, 116, 101]⟩
abbrev n_tfoot : ByteArray := ⟨#[116, 102, 111, 111, 116]⟩
abbrev n_th : ByteArray := ⟨#[116, 104]⟩
abbrev n_thead : ByteArray := ⟨#[116, 104, 101, 97, 100]⟩
abbrev n_tr : ByteArray := ⟨#[116, 114]⟩
abbrev n_ul : ByteArray := ⟨#[117, 108]⟩
abbrev voidL : List ByteArray := [⟨#[97, 114, 101, 97]⟩, ⟨#[98, 97, 115, 101]⟩, ⟨#[98, 114]⟩, ⟨#[99, 111, 108]⟩, ⟨#[101, 109, 98, 101, 100]⟩, ⟨#[104, 114]⟩, ⟨#[105, 109, 103]⟩, ⟨#[105, 110, 112, 117, 116]⟩, ⟨#[108, 105, 110, 107]⟩, ⟨#[109, 101, 116, 97]⟩, ⟨#[112, 97, 114, 97, 109]⟩, ⟨#[115, 111, 117, 114, 99, 101]⟩, ⟨#[116, 114, 97, 99, 107]⟩, ⟨#[119, 98, 114]⟩]
abbrev rawL : List ByteArray := [⟨#[105, 102, 114, 97, 109, 101]⟩, ⟨#[110, 111, 101, 109, 98, 101, 100]⟩, ⟨#[110, 111, 102, 114, 97, 109, 101, 115]⟩, ⟨#[115, 99, 114, 105, 112, 116]⟩, ⟨#[115, 116, 121, 108, 101]⟩, ⟨#[120, 109, 112]⟩]
abbrev softL : List ByteArray := [⟨#[116, 101, 120, 116, 97, 114, 101, 97]⟩, ⟨#[116, 105, 116, 108, 101]⟩]
abbrev blockL : List ByteArray := [⟨#[97, 100, 100, 114, 101, 115, 115]⟩, ⟨#[97, 114, 116, 105, 99, 108, 101]⟩, ⟨#[97, 115, 105, 100, 101]⟩, ⟨#[98, 108, 111, 99, 107, 113, 117, 111, 116, 101]⟩, ⟨#[99, 101, 110, 116, 101, 114]⟩, n_dd, ⟨#[100, 101, 116, 97, 105, 108, 115]⟩, ⟨#[100, 105, 97, 108, 111, 103]⟩, ⟨#[100, 105, 114]⟩, ⟨#[100, 105, 118]⟩, n_dl, n_dt, ⟨#[102, 105, 101, 108, 100, 115, 101, 116]⟩, ⟨#[102, 105, 103, 99, 97, 112, 116, 105, 111, 110]⟩, ⟨#[102, 105, 103, 117, 114, 101]⟩, ⟨#[102, 111, 111, 116, 101, 114]⟩, ⟨#[102, 111, 114, 109]⟩, ⟨#[104, 49]⟩, ⟨#[104, 50]⟩, ⟨#[104, 51]⟩, ⟨#[104, 52]⟩, ⟨#[104, 53]⟩, ⟨#[104, 54]⟩, ⟨#[104, 101, 97, 100, 101, 114]⟩, ⟨#[104, 103, 114, 111, 117, 112]⟩, ⟨#[104, 114]⟩, n_li, ⟨#[109, 97, 105, 110]⟩, n_menu, ⟨#[110, 97, 118]⟩, n_ol, n_p, ⟨#[112, 114, 101]⟩, ⟨#[115, 101, 99, 116, 105, 111, 110]⟩, ⟨#[115, 117, 109, 109, 97, 114, 121]⟩, n_table, n_ul, ⟨#[120, 109, 112]⟩]
abbrev goneL : List ByteArray := [⟨#[98, 111, 100, 121]⟩, ⟨#[102, 114, 97, 109, 101, 115, 101, 116]⟩, ⟨#[104, 101, 97, 100]⟩, ⟨#[104, 116, 109, 108]⟩]
abbrev tableL : List ByteArray := [n_tbody, n_td, n_tfoot, n_th, n_thead, n_tr]

/-- What an element closes. -/
def closesL (s : ByteArray) : List ByteArray :=
  if s = n_li then [n_li] else if s = n_dd then [n_dd, n_dt] else if s = n_dt then [n_dd, n_dt] else if s = n_option then [n_option] else if s = n_optgroup then [n_optgroup, n_option] else if s = n_tr then [n_td, n_th, n_tr]
  else if s = n_td then [n_td, n_th] else if s = n_th then [n_td, n_th] else if s = n_tbody then tableL else if s = n_tfoot then tableL else if s = n_thead then tableL else if isIn s blockL = true then [n_p] else []
/-- What ends the search. -/
def wallsL (s : ByteArray) : List ByteArray :=
  if s = n_li then [n_menu, n_ol, n_template, n_ul] else if s = n_dd then [n_dl, n_template] else if s = n_dt then [n_dl, n_template] else if s = n_option then [n_select, n_template] else if s = n_optgroup then [n_select, n_template]
  else if s = n_tr then [n_table, n_template] else if s = n_td then [n_table, n_template] else if s = n_th then [n_table, n_template] else if s = n_tbody then [n_table, n_template] else if s = n_tfoot then [n_table, n_template] else if s = n_thead then [n_table, n_template]
  else [n_button, n_caption, n_table, n_td, n_template, n_th]

def small (c : UInt8) : Bool := 97 ≤ c && c ≤ 122
end Go.Proofs.YtdplbcchkjpcdaaGreatDoor.Nm

namespace Go.Proofs.YtdplbcchkjpcdaaGreatDoor.Na
set_option maxRecDepth 100000
set_option linter.unusedSimpArgs false
set_option linter.unusedVariables false
open Go.RowKit Ba Fm Fo Nm
set_option maxHeartbeats 400000 in
theorem among_any (A : Option Addr) (c N : Nat) (l : List ByteArray) (s : ByteArray) (w : World) (hr : Rd w N A l) (hl : l.length ≤ 8796093022208) :
    Calls Tryz.prog 90 #[.string s, .slice A l.length c] w fun e w' => e = .returned (.bool (isIn s l)) ∧ w = w' := by
  go_enter Tryz.func90, Tryz.ntmps90
  go_wp2
  go_loop [9] (fun i => ∃ k : Nat, i = .int .i64 k ∧ k ≤ l.length ∧ ¬ s ∈ l.take k) (fun i => l.length - (intOf i).toNat)
  case atStart => exact ⟨0, rfl, Nat.zero_le _, by simp⟩
  case round =>
    obtain ⟨k, rfl, hks, hn⟩ := hrel
    have HN := Lib.hid hn; clear hn
    by_cases hp : k < l.length
    · obtain ⟨b, off, rfl, _, hc⟩ := hr (by omega)
      have hcell := hc k hp
      clear hc hr
      have heq := eq_of_toList (a := l[k]) (b := s)
      by_cases he : l[k] = s
      · rw [decide_eq_true he] at heq
        have HE := Lib.hid he; clear he
        go_wp2
        go_ret
        exact ⟨ret_bool (isIn_yes (by have := HE.out; rw [← this]; exact List.getElem_mem _)).symm, rfl⟩
      · rw [decide_eq_false he] at heq
        have HE := Lib.hid he; clear he
        go_wp2
        go_round
        case rel => exact ⟨k + 1, by go_num, by omega, has_snoc l s k hp HN.out HE.out⟩
        case measure => simp [intOf]; omega
    · go_wp2
      go_ret
      refine ⟨ret_bool (isIn_no ?_).symm, rfl⟩
      have := HN.out
      rwa [List.take_of_length_le (by omega)] at this

theorem amongLit (w : World) (l : List ByteArray) (s : ByteArray) (hl : l.length ≤ 1000) :
    Calls Tryz.prog 90 #[.string s, .slice (some ⟨w.heap.size, 0, none⟩) l.length l.length] (w.alloc (.cells (l.map sc).toArray 9)) fun e w' => e = .returned (.bool (isIn s l)) ∧ w.alloc (.cells (l.map sc).toArray 9) = w' :=
  among_any _ _ _ l s _ (sv_lit w l).rd (by omega)
theorem sown_lit (w : World) (l : List ByteArray) (hl : l.length ≤ 1000) : Sown w.heap.size (w.alloc (.cells (l.map sc).toArray 9)) (.slice (some ⟨w.heap.size, 0, none⟩) l.length l.length) l :=
  World.ownsRow_lit w (l.map sc).toArray l.length (Nat.le_refl _) (by unfold maxLen; omega) (by simp)

theorem raw_lit (w : World) (s : ByteArray) :
    Calls Tryz.prog 90 #[.string s, .slice (some ⟨w.heap.size, 0, none⟩) 6 6] (w.alloc (.cells #[.string ⟨#[105, 102, 114, 97, 109, 101]⟩, .string ⟨#[110, 111, 101, 109, 98, 101, 100]⟩, .string ⟨#[110, 111, 102, 114, 97, 109, 101, 115]⟩, .string ⟨#[115, 99, 114, 105, 112, 116]⟩, .string ⟨#[115, 116, 121, 108, 101]⟩, .string ⟨#[120, 109, 112]⟩] 9)) fun e w' => e = .returned (.bool (isIn s rawL)) ∧ w.alloc (.cells #[.string ⟨#[105, 102, 114, 97, 109, 101]⟩, .string ⟨#[110, 111, 101, 109, 98, 101, 100]⟩, .string ⟨#[110, 111, 102, 114, 97, 109, 101, 115]⟩, .string ⟨#[115, 99, 114, 105, 112, 116]⟩, .string ⟨#[115, 116, 121, 108, 101]⟩, .string ⟨#[120, 109, 112]⟩] 9) = w' := amongLit w rawL s (by decide)
set_option maxHeartbeats 1000000 in
theorem raw_any (s : ByteArray) (w : World) : Calls Tryz.prog 51 #[.string s] w fun e w' => e = .returned (.bool (isIn s rawL)) ∧ Below w.heap.size w w' := by
  go_enter Tryz.func51, Tryz.ntmps51
  go_wp2_with fail
  refine (raw_lit w s).mono ?_
  rintro e w1 ⟨rfl, rfl⟩
  go_wp2
  go_ret
  exact ⟨rfl, below_one w _⟩
theorem soft_lit (w : World) (s : ByteArray) :
    Calls Tryz.prog 90 #[.string s, .slice (some ⟨w.heap.size, 0, none⟩) 2 2] (w.alloc (.cells #[.string ⟨#[116, 101, 120, 116, 97, 114, 101, 97]⟩, .string ⟨#[116, 105, 116, 108, 101]⟩] 9)) fun e w' => e = .returned (.bool (isIn s softL)) ∧ w.alloc (.cells #[.string ⟨#[116, 101, 120, 116, 97, 114, 101, 97]⟩, .string ⟨#[116, 105, 116, 108, 101]⟩] 9) = w' := amongLit w softL s (by decide)
set_option maxHeartbeats 1000000 in
theorem soft_any (s : ByteArray) (w : World) : Calls Tryz.prog 53 #[.string s] w fun e w' => e = .returned (.bool (isIn s softL)) ∧ Below w.heap.size w w' := by
  go_enter Tryz.func53, Tryz.ntmps53
  go_wp2_with fail
  refine (soft_lit w s).mono ?_
  rintro e w1 ⟨rfl, rfl⟩
  go_wp2
  go_ret
  exact ⟨rfl, below_one w _⟩
set_option maxHeartbeats 1000000 in
theorem refRaw_any (w : World) : Calls Tryz.prog 69 #[] w fun e w' => ∃ v, e = .returned v ∧ Sown w.heap.size w' v rawL ∧ Below w.heap.size w w' := by
  have hs := sown_lit w rawL (by decide)
  go_enter Tryz.func69, Tryz.ntmps69
  go_wp2
  go_ret
  exact ⟨_, rfl, hs, below_one w _⟩
set_option maxHeartbeats 1000000 in
theorem refSoft_any (w : World) : Calls Tryz.prog 70 #[] w fun e w' => ∃ v, e = .returned v ∧ Sown w.heap.size w' v softL ∧ Below w.heap.size w w' := by
  have hs := sown_lit w softL (by decide)
  go_enter Tryz.func70, Tryz.ntmps70
  go_wp2
  go_ret
  exact ⟨_, rfl, hs, below_one w _⟩
theorem hasS (w : World) (v : Value) (l : List ByteArray) (s : ByteArray) (hv : Sv w w.heap.size v l) (hl : l.length ≤ 1000) :
    Calls Tryz.prog 28 #[v, .string s] w fun e w' => e = .returned (.bool (isIn s l)) ∧ w = w' := by
  obtain ⟨A, c, rfl, _, _, hr⟩ := hv
  exact has_any A c _ l s w hr (by omega)

end Go.Proofs.YtdplbcchkjpcdaaGreatDoor.Na

namespace Go.Proofs.YtdplbcchkjpcdaaGreatDoor.Na
set_option maxRecDepth 100000
set_option linter.unusedSimpArgs false
set_option linter.unusedVariables false
open Go.RowKit Ba Fm Fo Nm
theorem void_lit (w : World) (s : ByteArray) :
    Calls Tryz.prog 90 #[.string s, .slice (some ⟨w.heap.size, 0, none⟩) 14 14] (w.alloc (.cells #[.string ⟨#[97, 114, 101, 97]⟩, .string ⟨#[98, 97, 115, 101]⟩, .string ⟨#[98, 114]⟩, .string ⟨#[99, 111, 108]⟩, .string ⟨#[101, 109, 98, 101, 100]⟩, .string ⟨#[104, 114]⟩, .string ⟨#[105, 109, 103]⟩, .string ⟨#[105, 110, 112, 117, 116]⟩, .string ⟨#[108, 105, 110, 107]⟩, .string ⟨#[109, 101, 116, 97]⟩, .string ⟨#[112, 97, 114, 97, 109]⟩, .string ⟨#[115, 111, 117, 114, 99, 101]⟩, .string ⟨#[116, 114, 97, 99, 107]⟩, .string ⟨#[119, 98, 114]⟩] 9)) fun e w' => e = .returned (.bool (isIn s voidL)) ∧ w.alloc (.cells #[.string ⟨#[97, 114, 101, 97]⟩, .string ⟨#[98, 97, 115, 101]⟩, .string ⟨#[98, 114]⟩, .string ⟨#[99, 111, 108]⟩, .string ⟨#[101, 109, 98, 101, 100]⟩, .string ⟨#[104, 114]⟩, .string ⟨#[105, 109, 103]⟩, .string ⟨#[105, 110, 112, 117, 116]⟩, .string ⟨#[108, 105, 110, 107]⟩, .string ⟨#[109, 101, 116, 97]⟩, .string ⟨#[112, 97, 114, 97, 109]⟩, .string ⟨#[115, 111, 117, 114, 99, 101]⟩, .string ⟨#[116, 114, 97, 99, 107]⟩, .string ⟨#[119, 98, 114]⟩] 9) = w' := amongLit w voidL s (by decide)
set_option maxHeartbeats 1000000 in
theorem void_any (s : ByteArray) (w : World) : Calls Tryz.prog 87 #[.string s] w fun e w' => e = .returned (.bool (isIn s voidL)) ∧ Below w.heap.size w w' := by
  go_enter Tryz.func87, Tryz.ntmps87
  go_wp2_with fail
  refine (void_lit w s).mono ?_
  rintro e w1 ⟨rfl, rfl⟩
  go_wp2
  go_ret
  exact ⟨rfl, below_one w _⟩
theorem block_lit (w : World) (s : ByteArray) :
    Calls Tryz.prog 90 #[.string s, .slice (some ⟨w.heap.size, 0, none⟩) 38 38] (w.alloc (.cells #[.string ⟨#[97, 100, 100, 114, 101, 115, 115]⟩, .string ⟨#[97, 114, 116, 105, 99, 108, 101]⟩, .string ⟨#[97, 115, 105, 100, 101]⟩, .string ⟨#[98, 108, 111, 99, 107, 113, 117, 111, 116, 101]⟩, .string ⟨#[99, 101, 110, 116, 101, 114]⟩, .string ⟨#[100, 100]⟩, .string ⟨#[100, 101, 116, 97, 105, 108, 115]⟩, .string ⟨#[100, 105, 97, 108, 111, 103]⟩, .string ⟨#[100, 105, 114]⟩, .string ⟨#[100, 105, 118]⟩, .string ⟨#[100, 108]⟩, .string ⟨#[100, 116]⟩, .string ⟨#[102, 105, 101, 108, 100, 115, 101, 116]⟩, .string ⟨#[102, 105, 103, 99, 97, 112, 116, 105, 111, 110]⟩, .string ⟨#[102, 105, 103, 117, 114, 101]⟩, .string ⟨#[102, 111, 111, 116, 101, 114]⟩, .string ⟨#[102, 111, 114, 109]⟩, .string ⟨#[104, 49]⟩, .string ⟨#[104, 50]⟩, .string ⟨#[104, 51]⟩, .string ⟨#[104, 52]⟩, .string ⟨#[104, 53]⟩, .string ⟨#[104, 54]⟩, .string ⟨#[104, 101, 97, 100, 101, 114]⟩, .string ⟨#[104, 103, 114, 111, 117, 112]⟩, .string ⟨#[104, 114]⟩, .string ⟨#[108, 105]⟩, .string ⟨#[109, 97, 105, 110]⟩, .string ⟨#[109, 101, 110, 117]⟩, .string ⟨#[110, 97, 118]⟩, .string ⟨#[111, 108]⟩, .string ⟨#[112]⟩, .string ⟨#[112, 114, 101]⟩, .string ⟨#[115, 101, 99, 116, 105, 111, 110]⟩, .string ⟨#[115, 117, 109, 109, 97, 114, 121]⟩, .string ⟨#[116, 97, 98, 108, 101]⟩, .string ⟨#[117, 108]⟩, .string ⟨#[120, 109, 112]⟩] 9)) fun e w' => e = .returned (.bool (isIn s blockL)) ∧ w.alloc (.cells #[.string ⟨#[97, 100, 100, 114, 101, 115, 115]⟩, .string ⟨#[97, 114, 116, 105, 99, 108, 101]⟩, .string ⟨#[97, 115, 105, 100, 101]⟩, .string ⟨#[98, 108, 111, 99, 107, 113, 117, 111, 116, 101]⟩, .string ⟨#[99, 101, 110, 116, 101, 114]⟩, .string ⟨#[100, 100]⟩, .string ⟨#[100, 101, 116, 97, 105, 108, 115]⟩, .string ⟨#[100, 105, 97, 108, 111, 103]⟩, .string ⟨#[100, 105, 114]⟩, .string ⟨#[100, 105, 118]⟩, .string ⟨#[100, 108]⟩, .string ⟨#[100, 116]⟩, .string ⟨#[102, 105, 101, 108, 100, 115, 101, 116]⟩, .string ⟨#[102, 105, 103, 99, 97, 112, 116, 105, 111, 110]⟩, .string ⟨#[102, 105, 103, 117, 114, 101]⟩, .string ⟨#[102, 111, 111, 116, 101, 114]⟩, .string ⟨#[102, 111, 114, 109]⟩, .string ⟨#[104, 49]⟩, .string ⟨#[104, 50]⟩, .string ⟨#[104, 51]⟩, .string ⟨#[104, 52]⟩, .string ⟨#[104, 53]⟩, .string ⟨#[104, 54]⟩, .string ⟨#[104, 101, 97, 100, 101, 114]⟩, .string ⟨#[104, 103, 114, 111, 117, 112]⟩, .string ⟨#[104, 114]⟩, .string ⟨#[108, 105]⟩, .string ⟨#[109, 97, 105, 110]⟩, .string ⟨#[109, 101, 110, 117]⟩, .string ⟨#[110, 97, 118]⟩, .string ⟨#[111, 108]⟩, .string ⟨#[112]⟩, .string ⟨#[112, 114, 101]⟩, .string ⟨#[115, 101, 99, 116, 105, 111, 110]⟩, .string ⟨#[115, 117, 109, 109, 97, 114, 121]⟩, .string ⟨#[116, 97, 98, 108, 101]⟩, .string ⟨#[117, 108]⟩, .string ⟨#[120, 109, 112]⟩] 9) = w' := amongLit w blockL s (by decide)
set_option maxHeartbeats 1000000 in
theorem block_any (s : ByteArray) (w : World) : Calls Tryz.prog 124 #[.string s] w fun e w' => e = .returned (.bool (isIn s blockL)) ∧ Below w.heap.size w w' := by
  go_enter Tryz.func124, Tryz.ntmps124
  go_wp2_with fail
  refine (block_lit w s).mono ?_
  rintro e w1 ⟨rfl, rfl⟩
  go_wp2
  go_ret
  exact ⟨rfl, below_one w _⟩
theorem gone_lit (w : World) (s : ByteArray) :
    Calls Tryz.prog 90 #[.string s, .slice (some ⟨w.heap.size, 0, none⟩) 4 4] (w.alloc (.cells #[.string ⟨#[98, 111, 100, 121]⟩, .string ⟨#[102, 114, 97, 109, 101, 115, 101, 116]⟩, .string ⟨#[104, 101, 97, 100]⟩, .string ⟨#[104, 116, 109, 108]⟩] 9)) fun e w' => e = .returned (.bool (isIn s goneL)) ∧ w.alloc (.cells #[.string ⟨#[98, 111, 100, 121]⟩, .string ⟨#[102, 114, 97, 109, 101, 115, 101, 116]⟩, .string ⟨#[104, 101, 97, 100]⟩, .string ⟨#[104, 116, 109, 108]⟩] 9) = w' := amongLit w goneL s (by decide)
set_option maxHeartbeats 1000000 in
theorem gone_any (s : ByteArray) (w : World) : Calls Tryz.prog 110 #[.string s] w fun e w' => e = .returned (.bool (isIn s goneL)) ∧ Below w.heap.size w w' := by
  go_enter Tryz.func110, Tryz.ntmps110
  go_wp2_with fail
  refine (gone_lit w s).mono ?_
  rintro e w1 ⟨rfl, rfl⟩
  go_wp2
  go_ret
  exact ⟨rfl, below_one w _⟩
set_option maxHeartbeats 1000000 in
theorem refVoid_any (w : World) : Calls Tryz.prog 33 #[] w fun e w' => ∃ v, e = .returned v ∧ Sown w.heap.size w' v voidL ∧ Below w.heap.size w w' := by
  have hs := sown_lit w voidL (by decide)
  go_enter Tryz.func33, Tryz.ntmps33
  go_wp2
  go_ret
  exact ⟨_, rfl, hs, below_one w _⟩
set_option maxHeartbeats 1000000 in
theorem refBlock_any (w : World) : Calls Tryz.prog 102 #[] w fun e w' => ∃ v, e = .returned v ∧ Sown w.heap.size w' v blockL ∧ Below w.heap.size w w' := by
  have hs := sown_lit w blockL (by decide)
  go_enter Tryz.func102, Tryz.ntmps102
  go_wp2
  go_ret
  exact ⟨_, rfl, hs, below_one w _⟩
set_option maxHeartbeats 1000000 in
theorem refGone_any (w : World) : Calls Tryz.prog 29 #[] w fun e w' => ∃ v, e = .returned v ∧ Sown w.heap.size w' v goneL ∧ Below w.heap.size w w' := by
  have hs := sown_lit w goneL (by decide)
  go_enter Tryz.func29, Tryz.ntmps29
  go_wp2
  go_ret
  exact ⟨_, rfl, hs, below_one w _⟩
set_option maxHeartbeats 1000000 in
theorem refTable_any (w : World) : Calls Tryz.prog 67 #[] w fun e w' => ∃ v, e = .returned v ∧ Sown w.heap.size w' v tableL ∧ Below w.heap.size w w' := by
  have hs := sown_lit w tableL (by decide)
  go_enter Tryz.func67, Tryz.ntmps67
  go_wp2
  go_ret
  exact ⟨_, rfl, hs, below_one w _⟩
end Go.Proofs.YtdplbcchkjpcdaaGreatDoor.Na

namespace Go.Proofs.YtdplbcchkjpcdaaGreatDoor.Nm
set_option linter.unusedSimpArgs false
set_option linter.unusedVariables false
open Go.RowKit Ba Fm
theorem eqlit (s : ByteArray) (l : List UInt8) : (s.toList == l) = decide (s = ⟨l.toArray⟩) := by
  rw [← ByteArray.toList_mk l, eq_of_toList, ByteArray.toList_mk]
theorem own_li {s : ByteArray} (h : s = n_li) : ((s.toList == [108, 105]) = true ∧ (s.toList == [100, 100]) = false ∧ (s.toList == [100, 116]) = false ∧ (s.toList == [111, 112, 116, 105, 111, 110]) = false ∧ (s.toList == [111, 112, 116, 103, 114, 111, 117, 112]) = false ∧ (s.toList == [116, 114]) = false ∧ (s.toList == [116, 100]) = false ∧ (s.toList == [116, 104]) = false ∧ (s.toList == [116, 98, 111, 100, 121]) = false ∧ (s.toList == [116, 102, 111, 111, 116]) = false ∧ (s.toList == [116, 104, 101, 97, 100]) = false) ∧ closesL s = [n_li] ∧ wallsL s = [n_menu, n_ol, n_template, n_ul] ∧ isIn s tableL = false ∧ isIn s blockL = true := by
  subst h
  refine ⟨⟨by kernel_rfl, by kernel_rfl, by kernel_rfl, by kernel_rfl, by kernel_rfl, by kernel_rfl, by kernel_rfl, by kernel_rfl, by kernel_rfl, by kernel_rfl, by kernel_rfl⟩, by kernel_rfl, by kernel_rfl, by kernel_rfl, by kernel_rfl⟩
theorem own_dd {s : ByteArray} (h : s = n_dd) : ((s.toList == [108, 105]) = false ∧ (s.toList == [100, 100]) = true ∧ (s.toList == [100, 116]) = false ∧ (s.toList == [111, 112, 116, 105, 111, 110]) = false ∧ (s.toList == [111, 112, 116, 103, 114, 111, 117, 112]) = false ∧ (s.toList == [116, 114]) = false ∧ (s.toList == [116, 100]) = false ∧ (s.toList == [116, 104]) = false ∧ (s.toList == [116, 98, 111, 100, 121]) = false ∧ (s.toList == [116, 102, 111, 111, 116]) = false ∧ (s.toList == [116, 104, 101, 97, 100]) = false) ∧ closesL s = [n_dd, n_dt] ∧ wallsL s = [n_dl, n_template] ∧ isIn s tableL = false ∧ isIn s blockL = true := by
  subst h
  refine ⟨⟨by kernel_rfl, by kernel_rfl, by kernel_rfl, by kernel_rfl, by kernel_rfl, by kernel_rfl, by kernel_rfl, by kernel_rfl, by kernel_rfl, by kernel_rfl, by kernel_rfl⟩, by kernel_rfl, by kernel_rfl, by kernel_rfl, by kernel_rfl⟩
theorem own_dt {s : ByteArray} (h : s = n_dt) : ((s.toList == [108, 105]) = false ∧ (s.toList == [100, 100]) = false ∧ (s.toList == [100, 116]) = true ∧ (s.toList == [111, 112, 116, 105, 111, 110]) = false ∧ (s.toList == [111, 112, 116, 103, 114, 111, 117, 112]) = false ∧ (s.toList == [116, 114]) = false ∧ (s.toList == [116, 100]) = false ∧ (s.toList == [116, 104]) = false ∧ (s.toList == [116, 98, 111, 100, 121]) = false ∧ (s.toList == [116, 102, 111, 111, 116]) = false ∧ (s.toList == [116, 104, 101, 97, 100]) = false) ∧ closesL s = [n_dd, n_dt] ∧ wallsL s = [n_dl, n_template] ∧ isIn s tableL = false ∧ isIn s blockL = true := by
  subst h
  refine ⟨⟨by kernel_rfl, by kernel_rfl, by kernel_rfl, by kernel_rfl, by kernel_rfl, by kernel_rfl, by kernel_rfl, by kernel_rfl, by kernel_rfl, by kernel_rfl, by kernel_rfl⟩, by kernel_rfl, by kernel_rfl, by kernel_rfl, by kernel_rfl⟩
theorem own_option {s : ByteArray} (h : s = n_option) : ((s.toList == [108, 105]) = false ∧ (s.toList == [100, 100]) = false ∧ (s.toList == [100, 116]) = false ∧ (s.toList == [111, 112, 116, 105, 111, 110]) = true ∧ (s.toList == [111, 112, 116, 103, 114, 111, 117, 112]) = false ∧ (s.toList == [116, 114]) = false ∧ (s.toList == [116, 100]) = false ∧ (s.toList == [116, 104]) = false ∧ (s.toList == [116, 98, 111, 100, 121]) = false ∧ (s.toList == [116, 102, 111, 111, 116]) = false ∧ (s.toList == [116, 104, 101, 97, 100]) = false) ∧ closesL s = [n_option] ∧ wallsL s = [n_select, n_template] ∧ isIn s tableL = false ∧ isIn s blockL = false := by
  subst h
  refine ⟨⟨by kernel_rfl, by kernel_rfl, by kernel_rfl, by kernel_rfl, by kernel_rfl, by kernel_rfl, by kernel_rfl, by kernel_rfl, by kernel_rfl, by kernel_rfl, by kernel_rfl⟩, by kernel_rfl, by kernel_rfl, by kernel_rfl, by kernel_rfl⟩
theorem own_optgroup {s : ByteArray} (h : s = n_optgroup) : ((s.toList == [108, 105]) = false ∧ (s.toList == [100, 100]) = false ∧ (s.toList == [100, 116]) = false ∧ (s.toList == [111, 112, 116, 105, 111, 110]) = false ∧ (s.toList == [111, 112, 116, 103, 114, 111, 117, 112]) = true ∧ (s.toList == [116, 114]) = false ∧ (s.toList == [116, 100]) = false ∧ (s.toList == [116, 104]) = false ∧ (s.toList == [116, 98, 111, 100, 121]) = false ∧ (s.toList == [116, 102, 111, 111, 116]) = false ∧ (s.toList == [116, 104, 101, 97, 100]) = false) ∧ closesL s = [n_optgroup, n_option] ∧ wallsL s = [n_select, n_template] ∧ isIn s tableL = false ∧ isIn s blockL = false := by
  subst h
  refine ⟨⟨by kernel_rfl, by kernel_rfl, by kernel_rfl, by kernel_rfl, by kernel_rfl, by kernel_rfl, by kernel_rfl, by kernel_rfl, by kernel_rfl, by kernel_rfl, by kernel_rfl⟩, by kernel_rfl, by kernel_rfl, by kernel_rfl, by kernel_rfl⟩
theorem own_tr {s : ByteArray} (h : s = n_tr) : ((s.toList == [108, 105]) = false ∧ (s.toList == [100, 100]) = false ∧ (s.toList == [100, 116]) = false ∧ (s.toList == [111, 112, 116, 105, 111, 110]) = false ∧ (s.toList == [111, 112, 116, 103, 114, 111, 117, 112]) = false ∧ (s.toList == [116, 114]) = true ∧ (s.toList == [116, 100]) = false ∧ (s.toList == [116, 104]) = false ∧ (s.toList == [116, 98, 111, 100, 121]) = false ∧ (s.toList == [116, 102, 111, 111, 116]) = false ∧ (s.toList == [116, 104, 101, 97, 100]) = false) ∧ closesL s = [n_td, n_th, n_tr] ∧ wallsL s = [n_table, n_template] ∧ isIn s tableL = true ∧ isIn s blockL = false := by
  subst h
  refine ⟨⟨by kernel_rfl, by kernel_rfl, by kernel_rfl, by kernel_rfl, by kernel_rfl, by kernel_rfl, by kernel_rfl, by kernel_rfl, by kernel_rfl, by kernel_rfl, by kernel_rfl⟩, by kernel_rfl, by kernel_rfl, by kernel_rfl, by kernel_rfl⟩
theorem own_td {s : ByteArray} (h : s = n_td) : ((s.toList == [108, 105]) = false ∧ (s.toList == [100, 100]) = false ∧ (s.toList == [100, 116]) = false ∧ (s.toList == [111, 112, 116, 105, 111, 110]) = false ∧ (s.toList == [111, 112, 116, 103, 114, 111, 117, 112]) = false ∧ (s.toList == [116, 114]) = false ∧ (s.toList == [116, 100]) = true ∧ (s.toList == [116, 104]) = false ∧ (s.toList == [116, 98, 111, 100, 121]) = false ∧ (s.toList == [116, 102, 111, 111, 116]) = false ∧ (s.toList == [116, 104, 101, 97, 100]) = false) ∧ closesL s = [n_td, n_th] ∧ wallsL s = [n_table, n_template] ∧ isIn s tableL = true ∧ isIn s blockL = false := by
  subst h
  refine ⟨⟨by kernel_rfl, by kernel_rfl, by kernel_rfl, by kernel_rfl, by kernel_rfl, by kernel_rfl, by kernel_rfl, by kernel_rfl, by kernel_rfl, by kernel_rfl, by kernel_rfl⟩, by kernel_rfl, by kernel_rfl, by kernel_rfl, by kernel_rfl⟩
theorem own_th {s : ByteArray} (h : s = n_th) : ((s.toList == [108, 105]) = false ∧ (s.toList == [100, 100]) = false ∧ (s.toList == [100, 116]) = false ∧ (s.toList == [111, 112, 116, 105, 111, 110]) = false ∧ (s.toList == [111, 112, 116, 103, 114, 111, 117, 112]) = false ∧ (s.toList == [116, 114]) = false ∧ (s.toList == [116, 100]) = false ∧ (s.toList == [116, 104]) = true ∧ (s.toList == [116, 98, 111, 100, 121]) = false ∧ (s.toList == [116, 102, 111, 111, 116]) = false ∧ (s.toList == [116, 104, 101, 97, 100]) = false) ∧ closesL s = [n_td, n_th] ∧ wallsL s = [n_table, n_template] ∧ isIn s tableL = true ∧ isIn s blockL = false := by
  subst h
  refine ⟨⟨by kernel_rfl, by kernel_rfl, by kernel_rfl, by kernel_rfl, by kernel_rfl, by kernel_rfl, by kernel_rfl, by kernel_rfl, by kernel_rfl, by kernel_rfl, by kernel_rfl⟩, by kernel_rfl, by kernel_rfl, by kernel_rfl, by kernel_rfl⟩
theorem own_tbody {s : ByteArray} (h : s = n_tbody) : ((s.toList == [108, 105]) = false ∧ (s.toList == [100, 100]) = false ∧ (s.toList == [100, 116]) = false ∧ (s.toList == [111, 112, 116, 105, 111, 110]) = false ∧ (s.toList == [111, 112, 116, 103, 114, 111, 117, 112]) = false ∧ (s.toList == [116, 114]) = false ∧ (s.toList == [116, 100]) = false ∧ (s.toList == [116, 104]) = false ∧ (s.toList == [116, 98, 111, 100, 121]) = true ∧ (s.toList == [116, 102, 111, 111, 116]) = false ∧ (s.toList == [116, 104, 101, 97, 100]) = false) ∧ closesL s = [n_tbody, n_td, n_tfoot, n_th, n_thead, n_tr] ∧ wallsL s = [n_table, n_template] ∧ isIn s tableL = true ∧ isIn s blockL = false := by
  subst h
  refine ⟨⟨by kernel_rfl, by kernel_rfl, by kernel_rfl, by kernel_rfl, by kernel_rfl, by kernel_rfl, by kernel_rfl, by kernel_rfl, by kernel_rfl, by kernel_rfl, by kernel_rfl⟩, by kernel_rfl, by kernel_rfl, by kernel_rfl, by kernel_rfl⟩
theorem own_tfoot {s : ByteArray} (h : s = n_tfoot) : ((s.toList == [108, 105]) = false ∧ (s.toList == [100, 100]) = false ∧ (s.toList == [100, 116]) = false ∧ (s.toList == [111, 112, 116, 105, 111, 110]) = false ∧ (s.toList == [111, 112, 116, 103, 114, 111, 117, 112]) = false ∧ (s.toList == [116, 114]) = false ∧ (s.toList == [116, 100]) = false ∧ (s.toList == [116, 104]) = false ∧ (s.toList == [116, 98, 111, 100, 121]) = false ∧ (s.toList == [116, 102, 111, 111, 116]) = true ∧ (s.toList == [116, 104, 101, 97, 100]) = false) ∧ closesL s = [n_tbody, n_td, n_tfoot, n_th, n_thead, n_tr] ∧ wallsL s = [n_table, n_template] ∧ isIn s tableL = true ∧ isIn s blockL = false := by
  subst h
  refine ⟨⟨by kernel_rfl, by kernel_rfl, by kernel_rfl, by kernel_rfl, by kernel_rfl, by kernel_rfl, by kernel_rfl, by kernel_rfl, by kernel_rfl, by kernel_rfl, by kernel_rfl⟩, by kernel_rfl, by kernel_rfl, by kernel_rfl, by kernel_rfl⟩
theorem own_thead {s : ByteArray} (h : s = n_thead) : ((s.toList == [108, 105]) = false ∧ (s.toList == [100, 100]) = false ∧ (s.toList == [100, 116]) = false ∧ (s.toList == [111, 112, 116, 105, 111, 110]) = false ∧ (s.toList == [111, 112, 116, 103, 114, 111, 117, 112]) = false ∧ (s.toList == [116, 114]) = false ∧ (s.toList == [116, 100]) = false ∧ (s.toList == [116, 104]) = false ∧ (s.toList == [116, 98, 111, 100, 121]) = false ∧ (s.toList == [116, 102, 111, 111, 116]) = false ∧ (s.toList == [116, 104, 101, 97, 100]) = true) ∧ closesL s = [n_tbody, n_td, n_tfoot, n_th, n_thead, n_tr] ∧ wallsL s = [n_table, n_template] ∧ isIn s tableL = true ∧ isIn s blockL = false := by
  subst h
  refine ⟨⟨by kernel_rfl, by kernel_rfl, by kernel_rfl, by kernel_rfl, by kernel_rfl, by kernel_rfl, by kernel_rfl, by kernel_rfl, by kernel_rfl, by kernel_rfl, by kernel_rfl⟩, by kernel_rfl, by kernel_rfl, by kernel_rfl, by kernel_rfl⟩
theorem own_none {s : ByteArray} (h0 : ¬ s = n_li) (h1 : ¬ s = n_dd) (h2 : ¬ s = n_dt) (h3 : ¬ s = n_option) (h4 : ¬ s = n_optgroup) (h5 : ¬ s = n_tr) (h6 : ¬ s = n_td) (h7 : ¬ s = n_th) (h8 : ¬ s = n_tbody) (h9 : ¬ s = n_tfoot) (h10 : ¬ s = n_thead) : ((s.toList == [108, 105]) = false ∧ (s.toList == [100, 100]) = false ∧ (s.toList == [100, 116]) = false ∧ (s.toList == [111, 112, 116, 105, 111, 110]) = false ∧ (s.toList == [111, 112, 116, 103, 114, 111, 117, 112]) = false ∧ (s.toList == [116, 114]) = false ∧ (s.toList == [116, 100]) = false ∧ (s.toList == [116, 104]) = false ∧ (s.toList == [116, 98, 111, 100, 121]) = false ∧ (s.toList == [116, 102, 111, 111, 116]) = false ∧ (s.toList == [116, 104, 101, 97, 100]) = false) ∧ closesL s = (if isIn s blockL = true then [n_p] else []) ∧ wallsL s = [n_button, n_caption, n_table, n_td, n_template, n_th] ∧ isIn s tableL = false := by
  refine ⟨⟨by rw [eqlit]; exact decide_eq_false h0, by rw [eqlit]; exact decide_eq_false h1, by rw [eqlit]; exact decide_eq_false h2, by rw [eqlit]; exact decide_eq_false h3, by rw [eqlit]; exact decide_eq_false h4, by rw [eqlit]; exact decide_eq_false h5, by rw [eqlit]; exact decide_eq_false h6, by rw [eqlit]; exact decide_eq_false h7, by rw [eqlit]; exact decide_eq_false h8, by rw [eqlit]; exact decide_eq_false h9, by rw [eqlit]; exact decide_eq_false h10⟩, ?_, ?_, ?_⟩
  · unfold closesL; rw [if_neg h0, if_neg h1, if_neg h2, if_neg h3, if_neg h4, if_neg h5, if_neg h6, if_neg h7, if_neg h8, if_neg h9, if_neg h10]
  · unfold wallsL; rw [if_neg h0, if_neg h1, if_neg h2, if_neg h3, if_neg h4, if_neg h5, if_neg h6, if_neg h7, if_neg h8, if_neg h9, if_neg h10]
  · refine isIn_no fun h => ?_
    simp only [List.mem_cons, List.not_mem_nil, or_false] at h
    rcases h with h | h | h | h | h | h
    · exact h8 h
    · exact h6 h
    · exact h9 h
    · exact h7 h
    · exact h10 h
    · exact h5 h

end Go.Proofs.YtdplbcchkjpcdaaGreatDoor.Nm

namespace Go.Proofs.YtdplbcchkjpcdaaGreatDoor.Na
set_option maxRecDepth 100000
set_option linter.unusedSimpArgs false
set_option linter.unusedVariables false
open Go.RowKit Ba Fm Fo Nm
set_option maxRecDepth 100000 in
set_option maxHeartbeats 4000000 in
theorem closes_any (s : ByteArray) (w : World) : Calls Tryz.prog 108 #[.string s] w fun e w' => ∃ v, e = .returned v ∧ Sown w.heap.size w' v (closesL s) ∧ Below w.heap.size w w' := by
  by_cases h0 : s = n_li
  · obtain ⟨⟨f0, f1, f2, f3, f4, f5, f6, f7, f8, f9, f10⟩, hcl, hwl, htb, hbl⟩ := own_li h0
    rw [hcl]
    have hb := below_one w (.cells ([n_li].map sc).toArray 9)
    have hs := sown_lit w [n_li] (by decide)
    have HX := Lib.hid h0; have HTB := Lib.hid htb
    clear h0 hcl hwl htb hbl
    go_enter Tryz.func108, Tryz.ntmps108
    go_wp2
    go_ret
    exact ⟨_, rfl, hs, hb⟩
  by_cases h1 : s = n_dd
  · obtain ⟨⟨f0, f1, f2, f3, f4, f5, f6, f7, f8, f9, f10⟩, hcl, hwl, htb, hbl⟩ := own_dd h1
    rw [hcl]
    have hb := below_one w (.cells ([n_dd, n_dt].map sc).toArray 9)
    have hs := sown_lit w [n_dd, n_dt] (by decide)
    have HX := Lib.hid h1; have HTB := Lib.hid htb
    clear h0 h1 hcl hwl htb hbl
    go_enter Tryz.func108, Tryz.ntmps108
    go_wp2
    go_ret
    exact ⟨_, rfl, hs, hb⟩
  by_cases h2 : s = n_dt
  · obtain ⟨⟨f0, f1, f2, f3, f4, f5, f6, f7, f8, f9, f10⟩, hcl, hwl, htb, hbl⟩ := own_dt h2
    rw [hcl]
    have hb := below_one w (.cells ([n_dd, n_dt].map sc).toArray 9)
    have hs := sown_lit w [n_dd, n_dt] (by decide)
    have HX := Lib.hid h2; have HTB := Lib.hid htb
    clear h0 h1 h2 hcl hwl htb hbl
    go_enter Tryz.func108, Tryz.ntmps108
    go_wp2
    go_ret
    exact ⟨_, rfl, hs, hb⟩
  by_cases h3 : s = n_option
  · obtain ⟨⟨f0, f1, f2, f3, f4, f5, f6, f7, f8, f9, f10⟩, hcl, hwl, htb, hbl⟩ := own_option h3
    rw [hcl]
    have hb := below_one w (.cells ([n_option].map sc).toArray 9)
    have hs := sown_lit w [n_option] (by decide)
    have HX := Lib.hid h3; have HTB := Lib.hid htb
    clear h0 h1 h2 h3 hcl hwl htb hbl
    go_enter Tryz.func108, Tryz.ntmps108
    go_wp2
    go_ret
    exact ⟨_, rfl, hs, hb⟩
  by_cases h4 : s = n_optgroup
  · obtain ⟨⟨f0, f1, f2, f3, f4, f5, f6, f7, f8, f9, f10⟩, hcl, hwl, htb, hbl⟩ := own_optgroup h4
    rw [hcl]
    have hb := below_one w (.cells ([n_optgroup, n_option].map sc).toArray 9)
    have hs := sown_lit w [n_optgroup, n_option] (by decide)
    have HX := Lib.hid h4; have HTB := Lib.hid htb
    clear h0 h1 h2 h3 h4 hcl hwl htb hbl
    go_enter Tryz.func108, Tryz.ntmps108
    go_wp2
    go_ret
    exact ⟨_, rfl, hs, hb⟩
  by_cases h5 : s = n_tr
  · obtain ⟨⟨f0, f1, f2, f3, f4, f5, f6, f7, f8, f9, f10⟩, hcl, hwl, htb, hbl⟩ := own_tr h5
    rw [hcl]
    have hb := below_one w (.cells ([n_td, n_th, n_tr].map sc).toArray 9)
    have hs := sown_lit w [n_td, n_th, n_tr] (by decide)
    have HX := Lib.hid h5; have HTB := Lib.hid htb
    clear h0 h1 h2 h3 h4 h5 hcl hwl htb hbl
    go_enter Tryz.func108, Tryz.ntmps108
    go_wp2
    go_ret
    exact ⟨_, rfl, hs, hb⟩
  by_cases h6 : s = n_td
  · obtain ⟨⟨f0, f1, f2, f3, f4, f5, f6, f7, f8, f9, f10⟩, hcl, hwl, htb, hbl⟩ := own_td h6
    rw [hcl]
    have hb := below_one w (.cells ([n_td, n_th].map sc).toArray 9)
    have hs := sown_lit w [n_td, n_th] (by decide)
    have HX := Lib.hid h6; have HTB := Lib.hid htb
    clear h0 h1 h2 h3 h4 h5 h6 hcl hwl htb hbl
    go_enter Tryz.func108, Tryz.ntmps108
    go_wp2
    go_ret
    exact ⟨_, rfl, hs, hb⟩
  by_cases h7 : s = n_th
  · obtain ⟨⟨f0, f1, f2, f3, f4, f5, f6, f7, f8, f9, f10⟩, hcl, hwl, htb, hbl⟩ := own_th h7
    rw [hcl]
    have hb := below_one w (.cells ([n_td, n_th].map sc).toArray 9)
    have hs := sown_lit w [n_td, n_th] (by decide)
    have HX := Lib.hid h7; have HTB := Lib.hid htb
    clear h0 h1 h2 h3 h4 h5 h6 h7 hcl hwl htb hbl
    go_enter Tryz.func108, Tryz.ntmps108
    go_wp2
    go_ret
    exact ⟨_, rfl, hs, hb⟩
  by_cases h8 : s = n_tbody
  · obtain ⟨⟨f0, f1, f2, f3, f4, f5, f6, f7, f8, f9, f10⟩, hcl, hwl, htb, hbl⟩ := own_tbody h8
    rw [hcl]
    have hb := below_one w (.cells ([n_tbody, n_td, n_tfoot, n_th, n_thead, n_tr].map sc).toArray 9)
    have hs := sown_lit w [n_tbody, n_td, n_tfoot, n_th, n_thead, n_tr] (by decide)
    have HX := Lib.hid h8; have HTB := Lib.hid htb
    clear h0 h1 h2 h3 h4 h5 h6 h7 h8 hcl hwl htb hbl
    go_enter Tryz.func108, Tryz.ntmps108
    go_wp2
    go_ret
    exact ⟨_, rfl, hs, hb⟩
  by_cases h9 : s = n_tfoot
  · obtain ⟨⟨f0, f1, f2, f3, f4, f5, f6, f7, f8, f9, f10⟩, hcl, hwl, htb, hbl⟩ := own_tfoot h9
    rw [hcl]
    have hb := below_one w (.cells ([n_tbody, n_td, n_tfoot, n_th, n_thead, n_tr].map sc).toArray 9)
    have hs := sown_lit w [n_tbody, n_td, n_tfoot, n_th, n_thead, n_tr] (by decide)
    have HX := Lib.hid h9; have HTB := Lib.hid htb
    clear h0 h1 h2 h3 h4 h5 h6 h7 h8 h9 hcl hwl htb hbl
    go_enter Tryz.func108, Tryz.ntmps108
    go_wp2
    go_ret
    exact ⟨_, rfl, hs, hb⟩
  by_cases h10 : s = n_thead
  · obtain ⟨⟨f0, f1, f2, f3, f4, f5, f6, f7, f8, f9, f10⟩, hcl, hwl, htb, hbl⟩ := own_thead h10
    rw [hcl]
    have hb := below_one w (.cells ([n_tbody, n_td, n_tfoot, n_th, n_thead, n_tr].map sc).toArray 9)
    have hs := sown_lit w [n_tbody, n_td, n_tfoot, n_th, n_thead, n_tr] (by decide)
    have HX := Lib.hid h10; have HTB := Lib.hid htb
    clear h0 h1 h2 h3 h4 h5 h6 h7 h8 h9 h10 hcl hwl htb hbl
    go_enter Tryz.func108, Tryz.ntmps108
    go_wp2
    go_ret
    exact ⟨_, rfl, hs, hb⟩
  obtain ⟨⟨f0, f1, f2, f3, f4, f5, f6, f7, f8, f9, f10⟩, hcl, hwl, htb⟩ := own_none h0 h1 h2 h3 h4 h5 h6 h7 h8 h9 h10
  clear h0 h1 h2 h3 h4 h5 h6 h7 h8 h9 h10
  rw [hcl]
  have HTB := Lib.hid htb
  clear htb
  clear hcl hwl
  obtain ⟨q, hq⟩ : ∃ q, isIn s blockL = q := ⟨_, rfl⟩
  rw [hq]
  have HQ := Lib.hid hq
  clear hq
  cases q with
  | true =>
    rw [if_pos rfl]
    go_enter Tryz.func108, Tryz.ntmps108
    go_wp2_with fail
    refine (block_any s w).mono ?_
    rintro e w1 ⟨rfl, hb12⟩
    rw [HQ.out]
    have hb3 := below_one w1 (.cells ([n_p].map sc).toArray 9)
    have hs3 := sown_lit w1 [n_p] (by decide)
    go_wp2
    go_ret
    exact ⟨_, rfl, hs3.mono hb12.size, bt hb12 hb3⟩
    | false =>
    rw [if_neg (by decide)]
    go_enter Tryz.func108, Tryz.ntmps108
    go_wp2_with fail
    refine (block_any s w).mono ?_
    rintro e w1 ⟨rfl, hb12⟩
    rw [HQ.out]
    go_wp2
    go_ret
    exact ⟨_, rfl, Sown.nil _ _, hb12⟩

end Go.Proofs.YtdplbcchkjpcdaaGreatDoor.Na

namespace Go.Proofs.YtdplbcchkjpcdaaGreatDoor.Na
set_option maxRecDepth 100000
set_option linter.unusedSimpArgs false
set_option linter.unusedVariables false
open Go.RowKit Ba Fm Fo Nm
set_option maxRecDepth 100000 in
set_option maxHeartbeats 4000000 in
theorem walls_any (s : ByteArray) (w : World) : Calls Tryz.prog 109 #[.string s] w fun e w' => ∃ v, e = .returned v ∧ Sown w.heap.size w' v (wallsL s) ∧ Below w.heap.size w w' := by
  by_cases h0 : s = n_li
  · obtain ⟨⟨f0, f1, f2, f3, f4, f5, f6, f7, f8, f9, f10⟩, hcl, hwl, htb, hbl⟩ := own_li h0
    rw [hwl]
    have hb := below_one w (.cells ([n_menu, n_ol, n_template, n_ul].map sc).toArray 9)
    have hs := sown_lit w [n_menu, n_ol, n_template, n_ul] (by decide)
    have HX := Lib.hid h0; have HTB := Lib.hid htb
    clear h0 hcl hwl htb hbl
    go_enter Tryz.func109, Tryz.ntmps109
    go_wp2
    go_ret
    exact ⟨_, rfl, hs, hb⟩
  by_cases h1 : s = n_dd
  · obtain ⟨⟨f0, f1, f2, f3, f4, f5, f6, f7, f8, f9, f10⟩, hcl, hwl, htb, hbl⟩ := own_dd h1
    rw [hwl]
    have hb := below_one w (.cells ([n_dl, n_template].map sc).toArray 9)
    have hs := sown_lit w [n_dl, n_template] (by decide)
    have HX := Lib.hid h1; have HTB := Lib.hid htb
    clear h0 h1 hcl hwl htb hbl
    go_enter Tryz.func109, Tryz.ntmps109
    go_wp2
    go_ret
    exact ⟨_, rfl, hs, hb⟩
  by_cases h2 : s = n_dt
  · obtain ⟨⟨f0, f1, f2, f3, f4, f5, f6, f7, f8, f9, f10⟩, hcl, hwl, htb, hbl⟩ := own_dt h2
    rw [hwl]
    have hb := below_one w (.cells ([n_dl, n_template].map sc).toArray 9)
    have hs := sown_lit w [n_dl, n_template] (by decide)
    have HX := Lib.hid h2; have HTB := Lib.hid htb
    clear h0 h1 h2 hcl hwl htb hbl
    go_enter Tryz.func109, Tryz.ntmps109
    go_wp2
    go_ret
    exact ⟨_, rfl, hs, hb⟩
  by_cases h3 : s = n_option
  · obtain ⟨⟨f0, f1, f2, f3, f4, f5, f6, f7, f8, f9, f10⟩, hcl, hwl, htb, hbl⟩ := own_option h3
    rw [hwl]
    have hb := below_one w (.cells ([n_select, n_template].map sc).toArray 9)
    have hs := sown_lit w [n_select, n_template] (by decide)
    have HX := Lib.hid h3; have HTB := Lib.hid htb
    clear h0 h1 h2 h3 hcl hwl htb hbl
    go_enter Tryz.func109, Tryz.ntmps109
    go_wp2
    go_ret
    exact ⟨_, rfl, hs, hb⟩
  by_cases h4 : s = n_optgroup
  · obtain ⟨⟨f0, f1, f2, f3, f4, f5, f6, f7, f8, f9, f10⟩, hcl, hwl, htb, hbl⟩ := own_optgroup h4
    rw [hwl]
    have hb := below_one w (.cells ([n_select, n_template].map sc).toArray 9)
    have hs := sown_lit w [n_select, n_template] (by decide)
    have HX := Lib.hid h4; have HTB := Lib.hid htb
    clear h0 h1 h2 h3 h4 hcl hwl htb hbl
    go_enter Tryz.func109, Tryz.ntmps109
    go_wp2
    go_ret
    exact ⟨_, rfl, hs, hb⟩
  by_cases h5 : s = n_tr
  · obtain ⟨⟨f0, f1, f2, f3, f4, f5, f6, f7, f8, f9, f10⟩, hcl, hwl, htb, hbl⟩ := own_tr h5
    rw [hwl]
    have hb := below_one w (.cells ([n_table, n_template].map sc).toArray 9)
    have hs := sown_lit w [n_table, n_template] (by decide)
    have HX := Lib.hid h5; have HTB := Lib.hid htb
    clear h0 h1 h2 h3 h4 h5 hcl hwl htb hbl
    go_enter Tryz.func109, Tryz.ntmps109
    go_wp2
    go_ret
    exact ⟨_, rfl, hs, hb⟩
  by_cases h6 : s = n_td
  · obtain ⟨⟨f0, f1, f2, f3, f4, f5, f6, f7, f8, f9, f10⟩, hcl, hwl, htb, hbl⟩ := own_td h6
    rw [hwl]
    have hb := below_one w (.cells ([n_table, n_template].map sc).toArray 9)
    have hs := sown_lit w [n_table, n_template] (by decide)
    have HX := Lib.hid h6; have HTB := Lib.hid htb
    clear h0 h1 h2 h3 h4 h5 h6 hcl hwl htb hbl
    go_enter Tryz.func109, Tryz.ntmps109
    go_wp2
    go_ret
    exact ⟨_, rfl, hs, hb⟩
  by_cases h7 : s = n_th
  · obtain ⟨⟨f0, f1, f2, f3, f4, f5, f6, f7, f8, f9, f10⟩, hcl, hwl, htb, hbl⟩ := own_th h7
    rw [hwl]
    have hb := below_one w (.cells ([n_table, n_template].map sc).toArray 9)
    have hs := sown_lit w [n_table, n_template] (by decide)
    have HX := Lib.hid h7; have HTB := Lib.hid htb
    clear h0 h1 h2 h3 h4 h5 h6 h7 hcl hwl htb hbl
    go_enter Tryz.func109, Tryz.ntmps109
    go_wp2
    go_ret
    exact ⟨_, rfl, hs, hb⟩
  by_cases h8 : s = n_tbody
  · obtain ⟨⟨f0, f1, f2, f3, f4, f5, f6, f7, f8, f9, f10⟩, hcl, hwl, htb, hbl⟩ := own_tbody h8
    rw [hwl]
    have hb := below_one w (.cells ([n_table, n_template].map sc).toArray 9)
    have hs := sown_lit w [n_table, n_template] (by decide)
    have HX := Lib.hid h8; have HTB := Lib.hid htb
    clear h0 h1 h2 h3 h4 h5 h6 h7 h8 hcl hwl htb hbl
    go_enter Tryz.func109, Tryz.ntmps109
    go_wp2
    go_ret
    exact ⟨_, rfl, hs, hb⟩
  by_cases h9 : s = n_tfoot
  · obtain ⟨⟨f0, f1, f2, f3, f4, f5, f6, f7, f8, f9, f10⟩, hcl, hwl, htb, hbl⟩ := own_tfoot h9
    rw [hwl]
    have hb := below_one w (.cells ([n_table, n_template].map sc).toArray 9)
    have hs := sown_lit w [n_table, n_template] (by decide)
    have HX := Lib.hid h9; have HTB := Lib.hid htb
    clear h0 h1 h2 h3 h4 h5 h6 h7 h8 h9 hcl hwl htb hbl
    go_enter Tryz.func109, Tryz.ntmps109
    go_wp2
    go_ret
    exact ⟨_, rfl, hs, hb⟩
  by_cases h10 : s = n_thead
  · obtain ⟨⟨f0, f1, f2, f3, f4, f5, f6, f7, f8, f9, f10⟩, hcl, hwl, htb, hbl⟩ := own_thead h10
    rw [hwl]
    have hb := below_one w (.cells ([n_table, n_template].map sc).toArray 9)
    have hs := sown_lit w [n_table, n_template] (by decide)
    have HX := Lib.hid h10; have HTB := Lib.hid htb
    clear h0 h1 h2 h3 h4 h5 h6 h7 h8 h9 h10 hcl hwl htb hbl
    go_enter Tryz.func109, Tryz.ntmps109
    go_wp2
    go_ret
    exact ⟨_, rfl, hs, hb⟩
  obtain ⟨⟨f0, f1, f2, f3, f4, f5, f6, f7, f8, f9, f10⟩, hcl, hwl, htb⟩ := own_none h0 h1 h2 h3 h4 h5 h6 h7 h8 h9 h10
  clear h0 h1 h2 h3 h4 h5 h6 h7 h8 h9 h10
  rw [hwl]
  clear hcl hwl htb
  have hb3 := below_one w (.cells ([n_button, n_caption, n_table, n_td, n_template, n_th].map sc).toArray 9)
  have hs3 := sown_lit w [n_button, n_caption, n_table, n_td, n_template, n_th] (by decide)
  go_enter Tryz.func109, Tryz.ntmps109
  go_wp2
  go_ret
  exact ⟨_, rfl, hs3, hb3⟩

end Go.Proofs.YtdplbcchkjpcdaaGreatDoor.Na

namespace Go.Proofs.YtdplbcchkjpcdaaGreatDoor.Nm
set_option linter.unusedSimpArgs false
set_option linter.unusedVariables false
open Go.RowKit Ba Fm Fo
end Go.Proofs.YtdplbcchkjpcdaaGreatDoor.Nm

namespace Go.Proofs.YtdplbcchkjpcdaaGreatDoor.Bm
set_option linter.unusedVariables false
set_option linter.unusedSimpArgs false
open Ba Fm Nm
/-- What is left when the last of some names goes, and all behind it; none: a wall, or the end, comes first. -/
def findS (ns ws : List ByteArray) : List ByteArray → Option (List ByteArray)
  | [] => none
  | x :: r => if isIn x ns = true then some r else if isIn x ws = true then none else findS ns ws r
theorem findS_hit {ns ws : List ByteArray} {x : ByteArray} (r : List ByteArray) (h : isIn x ns = true) : findS ns ws (x :: r) = some r := by unfold findS; rw [if_pos h]
theorem findS_wall {ns ws : List ByteArray} {x : ByteArray} (r : List ByteArray) (h : isIn x ns = false) (h' : isIn x ws = true) : findS ns ws (x :: r) = none := by unfold findS; rw [if_neg (by rw [h]; simp), if_pos h']
theorem findS_past {ns ws : List ByteArray} {x : ByteArray} (r : List ByteArray) (h : isIn x ns = false) (h' : isIn x ws = false) : findS ns ws (x :: r) = findS ns ws r := by
  show (if isIn x ns = true then some r else if isIn x ws = true then none else findS ns ws r) = _
  rw [if_neg (by rw [h]; simp), if_neg (by rw [h']; simp)]
theorem findS_some {ns ws : List ByteArray} : ∀ {s r : List ByteArray}, findS ns ws s = some r → ∃ u x, s = u ++ x :: r ∧ isIn x ns = true ∧ ∀ y ∈ u, isIn y ns = false ∧ isIn y ws = false
  | [], _, h => by cases h
  | x :: s, r, h => by
    cases h1 : isIn x ns with
    | true =>
      rw [findS_hit s h1] at h
      injection h with h
      exact ⟨[], x, by rw [h]; rfl, h1, fun y hy => by cases hy⟩
    | false =>
      cases h2 : isIn x ws with
      | true => rw [findS_wall s h1 h2] at h; cases h
      | false =>
        rw [findS_past s h1 h2] at h
        obtain ⟨u, z, e, hz, hu⟩ := findS_some h
        refine ⟨x :: u, z, by rw [e]; rfl, hz, fun y hy => ?_⟩
        rcases List.mem_cons.1 hy with e | e
        · rw [e]; exact ⟨h1, h2⟩
        · exact hu y e
theorem findS_len {ns ws s r : List ByteArray} (h : findS ns ws s = some r) : r.length < s.length := by
  obtain ⟨u, x, e, _, _⟩ := findS_some h
  rw [e, List.length_append, List.length_cons]
  omega
theorem findS_suffix {ns ws s r : List ByteArray} (h : findS ns ws s = some r) : r <:+ s := by
  obtain ⟨u, x, e, _, _⟩ := findS_some h
  exact ⟨u ++ [x], by rw [e, List.append_assoc]; rfl⟩
/-- The open elements when some names are closed up to walls. -/
def closedS (ns ws s : List ByteArray) : List ByteArray :=
  match h : findS ns ws s with
  | none => s
  | some r => closedS ns ws r
  termination_by s.length
  decreasing_by exact findS_len h
theorem closedS_no {ns ws s : List ByteArray} (h : findS ns ws s = none) : closedS ns ws s = s := by
  rw [closedS]
  split
  · rfl
  · rename_i r hr; rw [h] at hr; cases hr
theorem closedS_yes {ns ws s r : List ByteArray} (h : findS ns ws s = some r) : closedS ns ws s = closedS ns ws r := by
  rw [closedS]
  split
  · rename_i hr; rw [h] at hr; cases hr
  · rename_i r' hr; rw [h] at hr; injection hr with hr; rw [hr]
theorem closedS_end (ns ws s : List ByteArray) : findS ns ws (closedS ns ws s) = none ∧ closedS ns ws s <:+ s := by
  induction hn : s.length using Nat.strongRecOn generalizing s with
  | ind n ih =>
    subst hn
    cases h : findS ns ws s with
    | none => rw [closedS_no h]; exact ⟨h, List.suffix_refl _⟩
    | some r =>
      rw [closedS_yes h]
      obtain ⟨h1, h2⟩ := ih _ (findS_len h) r rfl
      exact ⟨h1, h2.trans (findS_suffix h)⟩
/-- Does an element close a paragraph besides? -/
def para (n : ByteArray) : Bool := decide (n = n_li) || decide (n = n_dd) || decide (n = n_dt)
/-- The open elements when a tag of a name begins. -/
def openedS (n : ByteArray) (s : List ByteArray) : List ByteArray :=
  if para n = true then closedS [n_p] (wallsL n_p) (closedS (closesL n) (wallsL n) s) else closedS (closesL n) (wallsL n) s
theorem openedS_suffix (n : ByteArray) (s : List ByteArray) : openedS n s <:+ s := by
  unfold openedS
  split
  · exact (closedS_end _ _ _).2.trans (closedS_end _ _ _).2
  · exact (closedS_end _ _ _).2
/-- A tag of a name closes nothing of them. -/
def quiet (n : ByteArray) (s : List ByteArray) : Prop := findS (closesL n) (wallsL n) s = none ∧ (para n = true → findS [n_p] (wallsL n_p) s = none)
/-- Each open element may stand within those around it. -/
def chain : List ByteArray → Prop
  | [] => True
  | n :: r => quiet n r ∧ chain r
theorem chain_suffix : ∀ {s r : List ByteArray}, r <:+ s → chain s → chain r
  | s, r, ⟨[], e⟩, h => by rw [← e] at h; exact h
  | [], r, ⟨x :: u, e⟩, h => by cases e
  | y :: s, r, ⟨x :: u, e⟩, h => by
    injection e with _ e
    exact chain_suffix ⟨u, e⟩ h.2
/-- What ends the search for the elements that close a paragraph besides ends that for paragraphs, or closes them. -/
theorem para_walls {n : ByteArray} (h : para n = true) : (∀ x ∈ wallsL n, isIn x (wallsL n_p) = true ∨ (closesL x = [n_p] ∧ wallsL x = wallsL n_p)) ∧ isIn n_p (closesL n) = false ∧ isIn n_p (wallsL n) = false := by
  unfold para at h
  rw [Bool.or_eq_true, Bool.or_eq_true, decide_eq_true_iff, decide_eq_true_iff, decide_eq_true_iff] at h
  rcases h with (rfl | rfl) | rfl <;> refine ⟨?_, by decide, by decide⟩ <;> decide
theorem para_step {n : ByteArray} (hp : para n = true) : ∀ {s r : List ByteArray}, chain s → findS (closesL n) (wallsL n) s = none → findS [n_p] (wallsL n_p) s = some r → findS (closesL n) (wallsL n) r = none
  | [], r, _, _, h => by cases h
  | x :: s, r, hc, hn, h => by
    obtain ⟨hw, hp1, hp2⟩ := para_walls hp
    by_cases hx : x = n_p
    · subst hx
      rw [findS_hit s (by decide)] at h
      injection h with h
      rw [findS_past s hp1 hp2] at hn
      rw [← h]; exact hn
    · have hx1 : isIn x [n_p] = false := isIn_no fun e => hx (List.mem_singleton.1 e)
      cases hx2 : isIn x (wallsL n_p) with
      | true => rw [findS_wall s hx1 hx2] at h; cases h
      | false =>
        rw [findS_past s hx1 hx2] at h
        cases h3 : isIn x (closesL n) with
        | true => rw [findS_hit s h3] at hn; cases hn
        | false =>
          cases h4 : isIn x (wallsL n) with
          | true =>
            rcases hw x (isIn_of h4) with e | ⟨e1, e2⟩
            · rw [e] at hx2; cases hx2
            · have := hc.1.1
              rw [e1, e2, h] at this
              cases this
          | false =>
            rw [findS_past s h3 h4] at hn
            exact para_step hp hc.2 hn h
theorem para_closed {n : ByteArray} (hp : para n = true) (s : List ByteArray) : chain s → findS (closesL n) (wallsL n) s = none → findS (closesL n) (wallsL n) (closedS [n_p] (wallsL n_p) s) = none := by
  induction hn : s.length using Nat.strongRecOn generalizing s with
  | ind k ih =>
    subst hn
    intro hc h
    cases hf : findS [n_p] (wallsL n_p) s with
    | none => rw [closedS_no hf]; exact h
    | some r =>
      rw [closedS_yes hf]
      exact ih _ (findS_len hf) r rfl (chain_suffix (findS_suffix hf) hc) (para_step hp hc h hf)
/-- Behind what it closed a tag closes nothing more. -/
theorem opened_quiet {n : ByteArray} {s : List ByteArray} (hc : chain s) : quiet n (openedS n s) := by
  unfold openedS
  have h1 := closedS_end (closesL n) (wallsL n) s
  split
  · rename_i hp
    exact ⟨para_closed hp _ (chain_suffix h1.2 hc) h1.1, fun _ => (closedS_end _ _ _).1⟩
  · rename_i hp
    exact ⟨h1.1, fun h => absurd h hp⟩
end Go.Proofs.YtdplbcchkjpcdaaGreatDoor.Bm

namespace Go.Proofs.YtdplbcchkjpcdaaGreatDoor.Ro
set_option linter.unusedVariables false
set_option linter.unusedSimpArgs false

structure At where
  name : ByteArray
  value : ByteArray
deriving DecidableEq
structure Ro where
  depth : Int
  kind : Int
  name : ByteArray
  data : ByteArray
  attrs : List At
deriving DecidableEq

/-- Are two names the same? -/
def twice : List At → Bool
  | [] => false
  | a :: r => r.any (fun b => decide (b.name = a.name)) || twice r
def okRow (x : Ro) : Bool := if (x.kind == 0) = true then !x.name.toList.isEmpty && x.data.toList.isEmpty && !twice x.attrs else (x.kind == 1 || x.kind == 2) && x.name.toList.isEmpty && (x.attrs.length : Int) == 0
/-- Right from here on, where a row may stand at most at depth m. -/
def rightFrom (m : Int) : List Ro → Bool
  | [] => true
  | x :: r => decide (0 ≤ x.depth) && decide (x.depth ≤ m) && okRow x && rightFrom (if x.kind = 0 then x.depth + 1 else x.depth) r
def right (l : List Ro) : Bool := rightFrom 0 l

/-- The depth of row i; of -1, which stands for what has the roots: -1. -/
def dep (l : List Ro) (i : Int) : Int := if i = -1 then -1 else ((l[i.toNat]?).map (·.depth)).getD 0
/-- What stands behind row i and deeper than it. -/
def below (l : List Ro) (i : Int) : List Ro := (l.drop (i + 1).toNat).takeWhile fun x => decide (dep l i < x.depth)
/-- The last row ahead of n that is less deep than d. -/
def up (l : List Ro) (d : Int) : Nat → Int
  | 0 => -1
  | n + 1 => if dep l n < d then n else up l d n
end Go.Proofs.YtdplbcchkjpcdaaGreatDoor.Ro

namespace Go.Proofs.YtdplbcchkjpcdaaGreatDoor.Rm
set_option linter.unusedSimpArgs false
set_option linter.unusedVariables false

/-- A character's bytes. -/
def enc (n : Nat) : List UInt8 :=
  if n < 128 then [UInt8.ofNat n]
  else if n < 2048 then [UInt8.ofNat (192 + n / 64), UInt8.ofNat (128 + n % 64)]
  else if n < 65536 then [UInt8.ofNat (224 + n / 4096), UInt8.ofNat (128 + n / 64 % 64), UInt8.ofNat (128 + n % 64)]
  else [UInt8.ofNat (240 + n / 262144), UInt8.ofNat (128 + n / 4096 % 64), UInt8.ofNat (128 + n / 64 % 64), UInt8.ofNat (128 + n % 64)]
theorem len_enc (n : Nat) : (enc n).length ≤ 4 := by
  unfold enc
  repeat' split
  all_goals simp
/-- No character has this number. -/
def bad (n : Int) : Bool := decide (n < 1) || decide (1114111 < n) || (decide (55296 ≤ n) && decide (n ≤ 57343))
def code (n : Int) : List UInt8 := if bad n then [239, 191, 189] else if n = 13 then [10] else enc n.toNat
theorem len_code (n : Int) : (code n).length ≤ 4 := by
  unfold code
  split
  · simp
  · split
    · simp
    · exact len_enc _
/-- The names, and the numbers of their characters. -/
def tab : List (List UInt8 × Nat) := [([97, 109, 112], 38), ([108, 116], 60), ([103, 116], 62), ([113, 117, 111, 116], 34), ([97, 112, 111, 115], 39), ([110, 98, 115, 112], 160), ([99, 111, 112, 121], 169), ([114, 101, 103], 174), ([112, 97, 114, 97], 182), ([109, 105, 100, 100, 111, 116], 183), ([101, 97, 99, 117, 116, 101], 233), ([97, 117, 109, 108], 228), ([111, 117, 109, 108], 246), ([117, 117, 109, 108], 252), ([115, 122, 108, 105, 103], 223), ([101, 117, 114, 111], 8364), ([104, 101, 108, 108, 105, 112], 8230), ([110, 100, 97, 115, 104], 8211), ([109, 100, 97, 115, 104], 8212), ([98, 117, 108, 108], 8226), ([84, 97, 98], 9), ([78, 101, 119, 76, 105, 110, 101], 10), ([99, 111, 108, 111, 110], 58), ([108, 112, 97, 114], 40)]
def look : List (List UInt8 × Nat) → List UInt8 → Option (List UInt8)
  | [], _ => none
  | p :: r, s => if p.1 = s then some (code p.2) else look r s
theorem look_some {t : List (List UInt8 × Nat)} {s x : List UInt8} (h : look t s = some x) : ∃ n, (s, n) ∈ t ∧ x = code n := by
  induction t with
  | nil => cases h
  | cons p r ih =>
    unfold look at h
    split at h
    · rename_i e
      injection h with h
      exact ⟨p.2, by rw [← e]; exact List.mem_cons_self, h.symm⟩
    · obtain ⟨n, h1, h2⟩ := ih h
      exact ⟨n, List.mem_cons_of_mem _ h1, h2⟩
theorem tab_long : ∀ p ∈ tab, 2 ≤ p.1.length ∧ (38 : UInt8) ∉ p.1 := by decide

def dig (c : UInt8) : Int := if 48 ≤ c.toNat ∧ c.toNat ≤ 57 then c.toNat - 48 else if 97 ≤ c.toNat ∧ c.toNat ≤ 102 then c.toNat - 87 else if 65 ≤ c.toNat ∧ c.toNat ≤ 70 then c.toNat - 55 else -1
theorem dig_le (c : UInt8) : -1 ≤ dig c ∧ dig c ≤ 15 := by
  unfold dig
  split
  · omega
  split
  · omega
  split
  · omega
  · omega
/-- What digits of a base come to, kept just above all characters. -/
def val (base : Int) : Int → List UInt8 → Option Int
  | n, [] => some n
  | n, c :: r => if dig c < 0 ∨ base ≤ dig c then none else val base (min (n * base + dig c) 1114112) r
def numL (base : Int) (l : List UInt8) : Option (List UInt8) := if l = [] then none else (val base 0 l).map code
theorem val_no {base : Int} {l : List UInt8} {c : UInt8} (hc : c ∈ l) (hd : dig c < 0) (n : Int) : val base n l = none := by
  induction l generalizing n with
  | nil => cases hc
  | cons x r ih =>
    unfold val
    split
    · rfl
    · rename_i h
      rcases List.mem_cons.1 hc with e | hr
      · rw [← e] at h; exact absurd (Or.inl hd) h
      · exact ih hr _
/-- What a reference's body stands for. -/
def meant (s : List UInt8) : Option (List UInt8) :=
  if s.head? = some 35 then (if s[1]? = some 120 ∨ s[1]? = some 88 then numL 16 (s.drop 2) else numL 10 (s.drop 1)) else look tab s
theorem numL_some {base : Int} {l x : List UInt8} (h : numL base l = some x) : l ≠ [] ∧ ∃ n, x = code n := by
  unfold numL at h
  split at h
  · cases h
  · rename_i hl
    cases hv : val base 0 l with
    | none => rw [hv] at h; cases h
    | some n =>
      rw [hv] at h
      injection h with h
      exact ⟨hl, n, h.symm⟩
theorem meant_len {s t : List UInt8} (h : meant s = some t) : 2 ≤ s.length ∧ t.length ≤ 4 := by
  unfold meant at h
  split at h
  · split at h
    · obtain ⟨h1, n, rfl⟩ := numL_some h
      refine ⟨?_, len_code n⟩
      have : 0 < (s.drop 2).length := List.length_pos_iff.2 h1
      rw [List.length_drop] at this
      omega
    · obtain ⟨h1, n, rfl⟩ := numL_some h
      refine ⟨?_, len_code n⟩
      have : 0 < (s.drop 1).length := List.length_pos_iff.2 h1
      rw [List.length_drop] at this
      omega
  · obtain ⟨n, h1, rfl⟩ := look_some h
    exact ⟨(tab_long _ h1).1, len_code _⟩
theorem numL_no {base : Int} {l : List UInt8} {c : UInt8} (hc : c ∈ l) (hd : dig c < 0) : numL base l = none := by
  unfold numL
  split
  · rfl
  · rw [val_no hc hd]; rfl
theorem meant_amp {s : List UInt8} (h : (38 : UInt8) ∈ s) : meant s = none := by
  unfold meant
  have hd : dig 38 < 0 := by decide
  split
  · rename_i h1
    cases s with
    | nil => cases h
    | cons a r =>
      simp only [List.head?_cons, Option.some.injEq] at h1
      subst h1
      have hr : (38 : UInt8) ∈ r := by
        rcases List.mem_cons.1 h with e | e
        · exact absurd e (by decide)
        · exact e
      split
      · rename_i h2
        cases r with
        | nil => cases hr
        | cons b q =>
          simp only [List.getElem?_cons_succ, List.getElem?_cons_zero, Option.some.injEq] at h2
          have hq : (38 : UInt8) ∈ q := by
            rcases List.mem_cons.1 hr with e | e
            · subst e; exact absurd h2 (by decide)
            · exact e
          exact numL_no hq hd
      · exact numL_no hr hd
  · cases hl : look tab s with
    | none => rfl
    | some x =>
      obtain ⟨n, h1, _⟩ := look_some hl
      exact absurd h (tab_long _ h1).2

/-- What stands ahead of the first ; . -/
def cutAt : List UInt8 → Option (List UInt8)
  | [] => none
  | c :: r => if c = 59 then some [] else (cutAt r).map (c :: ·)
/-- The same, if no & comes earlier. -/
def bod : List UInt8 → Option (List UInt8)
  | [] => none
  | c :: r => if c = 59 then some [] else if c = 38 then none else (bod r).map (c :: ·)
theorem bod_cut (l : List UInt8) : (∀ b, bod l = some b → cutAt l = some b) ∧ (bod l = none → ∀ b, cutAt l = some b → (38 : UInt8) ∈ b) := by
  induction l with
  | nil => exact ⟨fun b h => (nomatch h), fun _ b h => (nomatch h)⟩
  | cons c r ih =>
    unfold bod cutAt
    by_cases h1 : c = 59
    · simp [h1]
    · by_cases h2 : c = 38
      · simp only [h2, if_true]
        refine ⟨fun b h => by simp at h, fun _ b h => ?_⟩
        cases hc : cutAt r with
        | none => simp [hc] at h
        | some x => simp [hc] at h; rw [← h]; exact List.mem_cons_self
      · simp only [h1, h2, if_false]
        refine ⟨fun b h => ?_, fun h b hb => ?_⟩
        · cases hb : bod r with
          | none => simp [hb] at h
          | some x => rw [ih.1 x hb]; rw [hb] at h; exact h
        · cases hq : bod r with
          | some x => simp [hq] at h
          | none =>
            cases hc : cutAt r with
            | none => simp [hc] at hb
            | some x =>
              simp [hc] at hb
              rw [← hb]
              exact List.mem_cons_of_mem _ (ih.2 hq x hc)
/-- What a reference stands for whose & is passed, and how many bytes its body has. -/
def refAt (r : List UInt8) : Option (List UInt8 × Nat) := match cutAt r with
  | some b => (meant b).map (·, b.length)
  | none => none
theorem refAt_bod (r : List UInt8) : refAt r = (match bod r with | some b => (meant b).map (·, b.length) | none => none) := by
  unfold refAt
  cases hb : bod r with
  | some b => rw [(bod_cut r).1 b hb]
  | none =>
    cases hc : cutAt r with
    | none => rfl
    | some b =>
      show (meant b).map _ = none
      rw [meant_amp ((bod_cut r).2 hb b hc)]
      rfl
theorem len_cut {r b : List UInt8} (h : cutAt r = some b) : b.length + 1 ≤ r.length := by
  induction r generalizing b with
  | nil => cases h
  | cons c r ih =>
    unfold cutAt at h
    split at h
    · injection h with h; rw [← h]; simp
    · cases hc : cutAt r with
      | none => simp [hc] at h
      | some x =>
        simp [hc] at h
        have := ih hc
        rw [← h]; simp; omega
theorem cutAt_stop (b r : List UInt8) (h : (59 : UInt8) ∉ b) : cutAt (b ++ 59 :: r) = some b := by
  induction b with
  | nil => simp [cutAt]
  | cons c q ih =>
    have h1 : ¬ c = 59 := fun e => h (by rw [e]; exact List.mem_cons_self)
    rw [List.cons_append, cutAt, if_neg h1, ih (fun e => h (List.mem_cons_of_mem _ e))]
    rfl

/-- The start of a text, and how many bytes it has: a reference, or one byte. -/
def fst : List UInt8 → List UInt8 × Nat
  | [] => ([], 1)
  | c :: r => if c = 38 then (match refAt r with | some (t, k) => (t, k + 2) | none => ([c], 1)) else ([c], 1)
theorem fst_cons (c : UInt8) (r : List UInt8) : fst (c :: r) = if c = 38 then (match refAt r with | some (t, k) => (t, k + 2) | none => ([c], 1)) else ([c], 1) := rfl
theorem fst_ok (l : List UInt8) (h : l ≠ []) : 1 ≤ (fst l).2 ∧ (fst l).2 ≤ l.length ∧ (fst l).1.length ≤ (fst l).2 := by
  cases l with
  | nil => exact absurd rfl h
  | cons c r =>
    rw [fst_cons]
    split
    · cases hr : refAt r with
      | none => simp
      | some p =>
        obtain ⟨t, k⟩ := p
        unfold refAt at hr
        cases hc : cutAt r with
        | none => rw [hc] at hr; cases hr
        | some b =>
          rw [hc] at hr
          simp only at hr
          cases hm : meant b with
          | none => rw [hm] at hr; cases hr
          | some x =>
            rw [hm] at hr
            simp only [Option.map_some, Option.some.injEq, Prod.mk.injEq] at hr
            obtain ⟨rfl, rfl⟩ := hr
            have h1 := meant_len hm
            have h2 := len_cut hc
            simp only [List.length_cons]
            omega
    · simp
theorem fst_byte {c : UInt8} (r : List UInt8) (h : c ≠ 38) : fst (c :: r) = ([c], 1) := by simp [fst, h]

/-- Step by step through a text. -/
def run (f : List UInt8 → List UInt8 × Nat) (l : List UInt8) : List UInt8 :=
  if _h : l = [] then [] else (f l).1 ++ run f (l.drop ((f l).2 - 1 + 1))
  termination_by l.length
  decreasing_by
    have : 0 < l.length := List.length_pos_iff.2 _h
    rw [List.length_drop]
    omega
theorem run_nil (f : List UInt8 → List UInt8 × Nat) : run f [] = [] := by rw [run]; simp
theorem run_step (f : List UInt8 → List UInt8 × Nat) {l : List UInt8} (h : l ≠ []) (hk : 1 ≤ (f l).2) : run f l = (f l).1 ++ run f (l.drop (f l).2) := by
  rw [run, dif_neg h, Nat.sub_add_cancel hk]
/-- Induction by steps. -/
theorem steps {f : List UInt8 → List UInt8 × Nat} (hf : ∀ l, l ≠ [] → 1 ≤ (f l).2) {Q : List UInt8 → Prop} (h0 : Q []) (h1 : ∀ l, l ≠ [] → Q (l.drop (f l).2) → Q l) : ∀ l, Q l := by
  intro l
  induction hn : l.length using Nat.strongRecOn generalizing l with
  | ind n ih =>
    by_cases h : l = []
    · rw [h]; exact h0
    · refine h1 l h (ih _ ?_ _ rfl)
      have := hf l h
      have : 0 < l.length := List.length_pos_iff.2 h
      rw [List.length_drop]
      omega

/-- A text with characters in the place of their references. -/
def dec (l : List UInt8) : List UInt8 := run fst l
theorem dec_nil : dec [] = [] := run_nil fst
theorem dec_step {l : List UInt8} (h : l ≠ []) : dec l = (fst l).1 ++ dec (l.drop (fst l).2) := run_step fst h (fst_ok l h).1
theorem dec_byte {c : UInt8} (r : List UInt8) (h : c ≠ 38) : dec (c :: r) = c :: dec r := by
  rw [dec_step (List.cons_ne_nil _ _), fst_byte r h]; rfl
theorem len_dec (l : List UInt8) : (dec l).length ≤ l.length := by
  refine steps (f := fst) (fun l h => (fst_ok l h).1) (Q := fun l => (dec l).length ≤ l.length) (by rw [dec_nil]; exact Nat.le_refl _) (fun l h ih => ?_) l
  rw [dec_step h, List.length_append]
  have := fst_ok l h
  rw [List.length_drop] at ih
  omega
/-- A character of its own, written out. -/
def e1 (q : Bool) (c : UInt8) : List UInt8 :=
  if c = 38 then [38, 97, 109, 112, 59] else if c = 60 then [38, 108, 116, 59] else if c = 62 then [38, 103, 116, 59] else if c = 34 ∧ q = true then [38, 113, 117, 111, 116, 59] else [c]
def est (q : Bool) : List UInt8 → List UInt8 × Nat
  | [] => ([], 1)
  | c :: r => if c = 194 ∧ r.head? = some 160 then ([38, 110, 98, 115, 112, 59], 2) else (e1 q c, 1)
/-- A text written out. -/
def esc (q : Bool) (l : List UInt8) : List UInt8 := run (est q) l
theorem est_pos (q : Bool) (l : List UInt8) : 1 ≤ (est q l).2 := by
  cases l with
  | nil => exact Nat.le_refl _
  | cons c r =>
    show 1 ≤ (if c = 194 ∧ r.head? = some 160 then _ else _ : List UInt8 × Nat).2
    split
    · exact Nat.le_succ _
    · exact Nat.le_refl _
theorem esc_nil (q : Bool) : esc q [] = [] := run_nil _
theorem esc_step (q : Bool) {l : List UInt8} (h : l ≠ []) : esc q l = (est q l).1 ++ esc q (l.drop (est q l).2) := run_step _ h (est_pos q l)
theorem est_cases (q : Bool) (l : List UInt8) (h : l ≠ []) : (∃ r, l = 194 :: 160 :: r ∧ est q l = ([38, 110, 98, 115, 112, 59], 2)) ∨ (∃ c r, l = c :: r ∧ ¬ (c = 194 ∧ r.head? = some 160) ∧ est q l = (e1 q c, 1)) := by
  cases l with
  | nil => exact absurd rfl h
  | cons c r =>
    by_cases hc : c = 194 ∧ r.head? = some 160
    · left
      obtain ⟨rfl, h2⟩ := hc
      cases r with
      | nil => cases h2
      | cons d r =>
        simp only [List.head?_cons, Option.some.injEq] at h2
        subst h2
        exact ⟨r, rfl, by simp [est]⟩
    · right
      exact ⟨c, r, rfl, hc, by simp only [est, if_neg hc]⟩
theorem esc_nbsp (q : Bool) (r : List UInt8) : esc q (194 :: 160 :: r) = [38, 110, 98, 115, 112, 59] ++ esc q r := by
  rw [esc_step q (List.cons_ne_nil _ _)]; simp [est]
theorem esc_byte (q : Bool) {c : UInt8} {r : List UInt8} (h : ¬ (c = 194 ∧ r.head? = some 160)) : esc q (c :: r) = e1 q c ++ esc q r := by
  rw [esc_step q (List.cons_ne_nil _ _)]; simp only [est, if_neg h, List.drop_succ_cons, List.drop_zero]
/-- Induction by characters written. -/
theorem writes (q : Bool) {Q : List UInt8 → Prop} (h0 : Q []) (h1 : ∀ r, Q r → Q (194 :: 160 :: r)) (h2 : ∀ c r, ¬ (c = 194 ∧ r.head? = some 160) → Q r → Q (c :: r)) (l : List UInt8) : Q l := by
  refine steps (f := est q) (fun l _ => est_pos q l) h0 (fun l h ih => ?_) l
  rcases est_cases q l h with ⟨r, rfl, he⟩ | ⟨c, r, rfl, hc, he⟩
  · rw [he] at ih; exact h1 r ih
  · rw [he] at ih; exact h2 c r hc ih
theorem fst_ref {b t : List UInt8} (r : List UInt8) (hb : (59 : UInt8) ∉ b) (hm : meant b = some t) : fst (38 :: (b ++ 59 :: r)) = (t, b.length + 2) := by
  rw [fst_cons, if_pos rfl]
  unfold refAt
  rw [cutAt_stop b r hb]
  simp only [hm, Option.map_some]
theorem dec_ref {b t : List UInt8} (r : List UInt8) (hb : (59 : UInt8) ∉ b) (hm : meant b = some t) : dec (38 :: (b ++ 59 :: r)) = t ++ dec r := by
  rw [dec_step (List.cons_ne_nil _ _), fst_ref r hb hm]
  simp only
  congr 2
  rw [show b.length + 2 = (b.length + 1) + 1 from rfl, List.drop_succ_cons, List.drop_append]
  simp
/-- Nothing of it opens or closes a tag; nothing of a value closes it. -/
theorem esc_free (q : Bool) (l : List UInt8) : (60 : UInt8) ∉ esc q l ∧ (62 : UInt8) ∉ esc q l ∧ (q = true → (34 : UInt8) ∉ esc q l) := by
  refine writes q (Q := fun l => (60 : UInt8) ∉ esc q l ∧ (62 : UInt8) ∉ esc q l ∧ (q = true → (34 : UInt8) ∉ esc q l)) (by rw [esc_nil]; simp) (fun r ih => ?_) (fun c r hc ih => ?_) l
  · rw [esc_nbsp]
    obtain ⟨i1, i2, i3⟩ := ih
    refine ⟨?_, ?_, fun hq => ?_⟩
    · simpa using i1
    · simpa using i2
    · simpa using i3 hq
  · rw [esc_byte q hc]
    obtain ⟨i1, i2, i3⟩ := ih
    have k : (60 : UInt8) ∉ e1 q c ∧ (62 : UInt8) ∉ e1 q c ∧ (q = true → (34 : UInt8) ∉ e1 q c) := by
      unfold e1
      split
      · refine ⟨by decide, by decide, fun _ => by decide⟩
      split
      · refine ⟨by decide, by decide, fun _ => by decide⟩
      split
      · refine ⟨by decide, by decide, fun _ => by decide⟩
      split
      · refine ⟨by decide, by decide, fun _ => by decide⟩
      · rename_i _ h1 h2 h3
        refine ⟨fun e => ?_, fun e => ?_, fun hq e => ?_⟩
        · rw [List.mem_singleton] at e; exact h1 e.symm
        · rw [List.mem_singleton] at e; exact h2 e.symm
        · rw [List.mem_singleton] at e; exact h3 ⟨e.symm, hq⟩
    obtain ⟨k1, k2, k3⟩ := k
    refine ⟨?_, ?_, fun hq => ?_⟩
    · rw [List.mem_append]; exact fun e => e.elim k1 i1
    · rw [List.mem_append]; exact fun e => e.elim k2 i2
    · rw [List.mem_append]; exact fun e => e.elim (k3 hq) (i3 hq)
end Go.Proofs.YtdplbcchkjpcdaaGreatDoor.Rm
