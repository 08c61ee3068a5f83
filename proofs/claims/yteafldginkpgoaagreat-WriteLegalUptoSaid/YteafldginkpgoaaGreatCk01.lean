/-
  Strings as lists of bytes. For every stage.
  Trees as rows, in plain words: which rows are right, where a node's tree ends, its kids, its text; nothing of the program.
  Slices of strings in memory: what a slice reads as, and a slice of the call's own. For every stage.
  Plain mathematics of stage 3 (character references): what a number, a name and a reference stand for; a text decoded; a text written out; what follows for the laws. It speaks of no program.
  Plain mathematics for stage 2: lists that rise in a strict order, merging, inserting, counting; spaces, words and small letters of bytes. Nothing of the program stands here.
  Plain mathematics for stage 5: the lists of elements, what each closes and what ends the search, texts that may be names. Nothing of the program stands here.
  Stage 8, in plain words: trees, written as bytes. Nothing of the program.
  Stage 5: the facts about a name that is one of those that close or wall anything of their own, or none.
  Slices of strings as values: reading (Sv), of the call's own (Sown), literals, stores; the order of strings. For every stage from 5 on.
  Stage 5: facts about the lists: what stands in one is right, in one of four alone; what closes does not wall; great letters stand in none; names together and cut.
  Stage 7, in plain words: the open elements (the last one first), what a tag closes, what ends; nothing of the program.
  Documents cut into tokens, in plain words, over lists of bytes: nothing of the program.
  Stage 7, in plain words: trees of tokens, and what is true of them whatever the tokens; nothing of the program.
  Stage 7, in plain words: what is true of a tree of tokens behind each of them; nothing of the program.
  The text of rows, and rows with their texts joined, in plain words.
  Stage 7, in plain words: a tree of tokens is right, normal, and small; nothing of the program.
  Stage 7, in plain words: trees of few tokens, trees behind rows, elements that close nothing; nothing of the program.
  Stage 7, in plain words: what loops over open elements (the first one first) and over attributes come to; nothing of the program.
-/
import Derived.Test.YteafldginkpgoaaGreatRows
import Derived.WalkKit
import Derived.WalkSpells
import Derived.Lib.OthersKept
import Derived.Lib.Hide
import Derived.Lib.Strings
import Derived.OpenShut
import Derived.WalkLawsBesides
import Derived.Lib.AppendStr
import Derived.WalkSmall
import Derived.Laws.IdiomStrings
import Derived.Laws.Cover1
import Derived.Laws.OwnMore
import Derived.Laws.AppendOwnNone
import Derived.Deep.AppendLies
import Derived.Deep.Draws
import Derived.Deep.Onto
import Derived.Maps.AppendAt
import Derived.Deep.QuietTactic
import Derived.BigQuiet
namespace Go.Proofs.YteafldginkpgoaaGreat.Ba
set_option linter.unusedSimpArgs false
set_option linter.unusedVariables false
open Go.RowKit
abbrev L (s : ByteArray) : List UInt8 := s.data.toList
theorem size_L (s : ByteArray) : (L s).length = s.size := by rw [Array.length_toList]; rfl
theorem drop_nil (s : ByteArray) (k : Nat) (h : ¬ k < s.size) : (L s).drop k = [] := List.drop_eq_nil_of_le (by rw [size_L]; omega)
theorem drop_cons (s : ByteArray) (k : Nat) (h : k < s.size) : (L s).drop k = s[k] :: (L s).drop (k + 1) := by
  rw [List.drop_eq_getElem_cons (by rw [size_L]; exact h)]
  rfl
theorem take_snoc (s : ByteArray) (k : Nat) (h : k < s.size) : (L s).take (k + 1) = (L s).take k ++ [s[k]] := by
  rw [List.take_succ_eq_append_getElem (by rw [size_L]; exact h)]; rfl

theorem ret_int {k : IntKind} {a b : Int} (h : a = b) : Ending.returned (.int k a) = .returned (.int k b) := by rw [h]
theorem ret_bool {a b : Bool} (h : a = b) : Ending.returned (.bool a) = .returned (.bool b) := by rw [h]
/-- A string of these bytes. -/
def B (l : List UInt8) : ByteArray := ⟨l.toArray⟩
theorem L_B (l : List UInt8) : L (B l) = l := by simp [B]
theorem toList_B (l : List UInt8) : (B l).toList = l := by unfold B; exact ByteArray.toList_mk l
theorem size_B (l : List UInt8) : (B l).size = l.length := by rw [← size_L, L_B]
theorem B_of {s : ByteArray} {l : List UInt8} (h : L s = l) : s = B l := WideShapes.bytes_inj (h.trans (L_B l).symm)
theorem B_L (s : ByteArray) : B (L s) = s := (B_of rfl).symm
theorem toList_L (s : ByteArray) : s.toList = L s := by
  obtain ⟨⟨x⟩⟩ := s
  exact ByteArray.toList_mk x
theorem L_inj {a b : ByteArray} (h : L a = L b) : a = b := WideShapes.bytes_inj h
theorem eq_of_toList {a b : ByteArray} : (a.toList == b.toList) = decide (a = b) := by
  rw [toList_L, toList_L, Bool.eq_iff_iff, beq_iff_eq, decide_eq_true_iff]
  exact ⟨L_inj, fun h => by rw [h]⟩
theorem L_extract (s : ByteArray) (a b : Nat) : L (s.extract a b) = ((L s).drop a).take (b - a) := Lib.extract_data s a b
theorem L_end (s : ByteArray) (a : Nat) : L (s.extract a s.size) = (L s).drop a := by
  rw [L_extract, List.take_of_length_le]
  rw [List.length_drop, size_L]
  exact Nat.le_refl _
theorem L_append (a b : ByteArray) : L (a ++ b) = L a ++ L b := by
  obtain ⟨⟨x⟩⟩ := a
  obtain ⟨⟨y⟩⟩ := b
  rfl
theorem size_append (a b : ByteArray) : (a ++ b).size = a.size + b.size := by rw [← size_L, L_append, List.length_append, size_L, size_L]
theorem B_append (a b : List UInt8) : B a ++ B b = B (a ++ b) := B_of (by rw [L_append, L_B, L_B])
theorem size_extract (s : ByteArray) (a b : Nat) : (s.extract a b).size ≤ s.size := by
  rw [← size_L, ← size_L, L_extract, List.length_take, List.length_drop]; omega

theorem u8_eq {a b : UInt8} : (((a.toNat : Int)) == (b.toNat : Int)) = (a == b) := by
  rw [Bool.eq_iff_iff, beq_iff_eq, beq_iff_eq]
  exact ⟨fun h => UInt8.toNat.inj (by omega), fun h => by rw [h]⟩

theorem bt {w w1 w2 : World} (h1 : Below w.heap.size w w1) (h2 : Below w1.heap.size w1 w2) : Below w.heap.size w w2 := h1.trans (h2.mono h1.size)
theorem below_drewN (w : World) (n : Nat) : Below w.heap.size w (w.drewN n) := ⟨rfl, rfl, rfl, Nat.le_refl _, fun _ _ => rfl⟩

end Go.Proofs.YteafldginkpgoaaGreat.Ba

namespace Go.Proofs.YteafldginkpgoaaGreat.Ro
set_option linter.unusedVariables false
set_option linter.unusedSimpArgs false

structure At where
  name : ByteArray
  value : ByteArray
deriving DecidableEq
structure Ro where
  depth : Int
  kind : Int
  name : ByteArray
  data : ByteArray
  attrs : List At
deriving DecidableEq

/-- Is there one that stands at this depth or deeper, or too many? -/
def exceeds (l : List Ro) (n d : Int) : Bool := decide (n < l.length) || l.any fun x => decide (d ≤ x.depth)

/-- Are two names the same? -/
def twice : List At → Bool
  | [] => false
  | a :: r => r.any (fun b => decide (b.name = a.name)) || twice r
def okRow (x : Ro) : Bool := if (x.kind == 0) = true then !x.name.toList.isEmpty && x.data.toList.isEmpty && !twice x.attrs else (x.kind == 1 || x.kind == 2) && x.name.toList.isEmpty && (x.attrs.length : Int) == 0
/-- Right from here on, where a row may stand at most at depth m. -/
def rightFrom (m : Int) : List Ro → Bool
  | [] => true
  | x :: r => decide (0 ≤ x.depth) && decide (x.depth ≤ m) && okRow x && rightFrom (if x.kind = 0 then x.depth + 1 else x.depth) r
def right (l : List Ro) : Bool := rightFrom 0 l

/-- The depth of row i; of -1, which stands for what has the roots: -1. -/
def dep (l : List Ro) (i : Int) : Int := if i = -1 then -1 else ((l[i.toNat]?).map (·.depth)).getD 0
theorem dep_top (l : List Ro) : dep l (-1) = -1 := rfl
theorem dep_at {l : List Ro} {k : Nat} {x : Ro} (h : l[k]? = some x) : dep l k = x.depth := by
  unfold dep
  rw [if_neg (by omega), Int.toNat_natCast, h]
  rfl
/-- What stands behind row i and deeper than it. -/
def below (l : List Ro) (i : Int) : List Ro := (l.drop (i + 1).toNat).takeWhile fun x => decide (dep l i < x.depth)
/-- Where the tree of row i ends. -/
def endOf (l : List Ro) (i : Int) : Nat := (i + 1).toNat + (below l i).length
def hasRow (l : List Ro) (i : Int) : Bool := decide (0 ≤ i ∧ i < l.length)
def endAt (l : List Ro) (i : Int) : Nat := if hasRow l i then endOf l i else 0
/-- The last row ahead of n that is less deep than d. -/
def up (l : List Ro) (d : Int) : Nat → Int
  | 0 => -1
  | n + 1 => if dep l n < d then n else up l d n
def parent (l : List Ro) (i : Int) : Int := if hasRow l i then up l (dep l i) i.toNat else -1
/-- The last row from k on, ahead of n, that is just at depth d; p, if there is none. -/
def lastAt (l : List Ro) (d : Int) (p : Int) : Nat → Nat → Int
  | _, 0 => p
  | k, n + 1 => lastAt l d (if dep l k = d then k else p) (k + 1) n

end Go.Proofs.YteafldginkpgoaaGreat.Ro

namespace Go.Proofs.YteafldginkpgoaaGreat.Ba
set_option maxRecDepth 100000
set_option linter.unusedSimpArgs false
set_option linter.unusedVariables false
open Go.RowKit
/-- A slice at A reads as these strings, below block B. -/
def Rd (w : World) (N : Nat) (A : Option Addr) (l : List ByteArray) : Prop :=
  0 < l.length → ∃ b off, A = some ⟨b, off, none⟩ ∧ b < N ∧ ∀ j (h : j < l.length), w.cell? ⟨b, off + j, none⟩ = some (.string l[j])

theorem Rd.nil (w : World) (N : Nat) (A : Option Addr) : Rd w N A [] := fun h => absurd h (by simp)
theorem Rd.keep {w w' : World} {N : Nat} {A : Option Addr} {l : List ByteArray} (h : Rd w N A l) (hk : ∀ p : Addr, p.block < N → w'.cell? p = w.cell? p) : Rd w' N A l := fun h0 => by
  obtain ⟨b, off, e, hb, hc⟩ := h h0
  exact ⟨b, off, e, hb, fun j hj => (hk _ hb).trans (hc j hj)⟩
theorem Rd.more {w : World} {N N' : Nat} {A : Option Addr} {l : List ByteArray} (h : Rd w N A l) (hN : N ≤ N') : Rd w N' A l := fun h0 => by
  obtain ⟨b, off, e, hb, hc⟩ := h h0
  exact ⟨b, off, e, by omega, hc⟩
theorem Rd.below {w w' : World} {N M : Nat} {A : Option Addr} {l : List ByteArray} (h : Rd w N A l) (hb : Below M w w') (hN : N ≤ M) : Rd w' N A l := h.keep fun p hp => hb.cell (p := p) (by omega)
theorem Rd.alloc {w : World} {N : Nat} {A : Option Addr} {l : List ByteArray} (h : Rd w N A l) (hN : N ≤ w.heap.size) (o : Obj) : Rd (w.alloc o) N A l := h.keep fun p hp => World.cell?_alloc_lt w o p (by omega)
theorem Rd.take {w : World} {N : Nat} {A : Option Addr} {l : List ByteArray} (h : Rd w N A l) (m : Nat) : Rd w N A (l.take m) := fun h0 => by
  rw [List.length_take] at h0
  obtain ⟨b, off, e, hb, hc⟩ := h (by omega)
  refine ⟨b, off, e, hb, fun j hj => ?_⟩
  rw [List.length_take] at hj
  rw [List.getElem_take]
  exact hc j (by omega)
/-- Cut: what the model makes of s[m:]. -/
theorem Rd.drop {w : World} {N : Nat} {A : Option Addr} {l : List ByteArray} (h : Rd w N A l) (m cap : Nat) (hc : l.length ≤ cap) : Rd w N (if cap = m then A else A.map (·.add m)) (l.drop m) := fun h0 => by
  rw [List.length_drop] at h0
  obtain ⟨b, off, e, hb, hcc⟩ := h (by omega)
  rw [if_neg (by omega), e]
  refine ⟨b, off + m, by simp [WideShapes.add_plain], hb, fun j hj => ?_⟩
  rw [List.length_drop] at hj
  rw [List.getElem_drop, Nat.add_assoc]
  exact hcc (m + j) (by omega)

def sc (s : ByteArray) : Value := .string s
/-- v is a slice of strings of the call's own that holds l. -/
def Sown (N : Nat) (w : World) (v : Value) (l : List ByteArray) : Prop := w.ownsRow N 9 1 v l.length (l.map sc)

theorem info_str : (Tryz.prog.info? 9).map (fun i => (i.zero, i.size, i.bytes)) = some (some (.string .empty), 1, 16) := by kernel_rfl

theorem Sown.nil (N : Nat) (w : World) : Sown N w (.slice none 0 0) [] := World.ownsRow_nil w N _ 1
theorem Sown.made (w : World) : Sown w.heap.size (w.alloc (.cells #[] 9)) (.slice (some ⟨w.heap.size, 0, none⟩) 0 0) [] :=
  World.ownsRow_made w #[] 0 (Nat.le_refl _) (Nat.zero_le _) rfl
theorem Sown.alloc {N : Nat} {w : World} {v : Value} {l : List ByteArray} (h : Sown N w v l) (o : Obj) : Sown N (w.alloc o) v l := World.ownsRow.alloc h o
theorem Sown.mono {N N' : Nat} {w : World} {v : Value} {l : List ByteArray} (h : Sown N w v l) (hN : N' ≤ N) : Sown N' w v l := World.ownsRow.mono h hN
theorem Sown.below {N M : Nat} {w w' : World} {v : Value} {l : List ByteArray} (h : Sown N w v l) (hb : Below M w w') (hM : w.heap.size ≤ M) : Sown N w' v l := by
  refine ⟨h.1, ?_⟩
  rcases h.2 with hn | ⟨g, cap, cur, hv, hg, hh, rest⟩
  · exact .inl hn
  · refine .inr ⟨g, cap, cur, hv, hg, ?_, rest⟩
    have hlt : g < w.heap.size := (Array.getElem?_eq_some_iff.1 hh).1
    rw [hb.block g (by omega)]
    exact hh
theorem Sown.kept {N : Nat} {w0 w w' : World} {v : Value} {l : List ByteArray} (h : Sown N w v l) (hg : w.grownBy w' v.ownBlock) (hb : Below N w0 w) (hN : N ≤ w.heap.size) : Below N w0 w' :=
  hb.grown hg hN fun k hk => (h.lt k hk).1
/-- Its form, and what it reads as. -/
theorem Sown.form {N : Nat} {w : World} {v : Value} {l : List ByteArray} (h : Sown N w v l) : ∃ A c, v = .slice A l.length c ∧ l.length ≤ c ∧ c ≤ maxLen ∧ Rd w w.heap.size A l := by
  rcases h.2 with ⟨hv, hl⟩ | ⟨g, cap, cur, hv, hg, hh, hn, hm, hs, ht⟩
  · have : l = [] := List.eq_nil_of_length_eq_zero hl
    subst this
    exact ⟨none, 0, hv, Nat.le_refl _, Nat.zero_le _, Rd.nil _ _ _⟩
  · refine ⟨some ⟨g, 0, none⟩, cap, hv, hn, hm, fun _ => ⟨g, 0, rfl, (Array.getElem?_eq_some_iff.1 hh).1, fun j hj => ?_⟩⟩
    subst hv
    have := World.ownsRow.cells h rfl j (sc l[j]) (by simp [hj])
    rw [WideShapes.add_plain] at this
    exact this
theorem Sown.appended {N : Nat} {w : World} {v : Value} {l m : List ByteArray} {n : Nat} (h : w.ownsRow N 9 1 v n (l.map sc ++ m.map sc)) (hn : n = l.length + m.length) : Sown N w v (l ++ m) := by
  unfold Sown
  rw [List.map_append, List.length_append, ← hn]
  exact h

set_option maxRecDepth 100000 in
/-- append of one string, in a block of its own, onto a slice of the call's own. -/
theorem app_one {ops : Array Oper} {rest : List Oper} {o : Oper} {a : Act} {Q : Exit → Act → World → Prop} (w : World) (hgd : o.guard = none) (s x : Operand)
    (ho : o.op = .call { callee := .builtin .append, args := #[s, x], argTypes := #[37, 37] })
    (N : Nat) (v : Value) (l : List ByteArray) (y : ByteArray) (hs : a.eval s = v) (hown : Sown N w v l) (hx : a.eval x = .slice (some ⟨w.heap.size, 0, none⟩) 1 1)
    (hl : (l.length + 1) * 16 ≤ 140737488355328) (hN : N ≤ w.heap.size)
    (h : ∀ v' w', Sown N w' v' (l ++ [y]) → (∀ w0, Below N w0 w → Below N w0 w') → (∀ A m, Rd w N A m → Rd w' N A m) → wpList Tryz.prog ops Q rest (a.put o.dst v') w') :
    wpList Tryz.prog ops Q (o :: rest) a (w.alloc (.cells #[.string y] 9)) := by
  obtain ⟨i0, hi, hz0, hz1, hz2⟩ := info_parts info_str
  have hown' : Sown N (w.alloc (.cells #[.string y] 9)) v l := hown.alloc _
  have hsz : (w.alloc (.cells #[.string y] 9)).heap.size = w.heap.size + 1 := by simp
  refine wpList_append_own _ hgd s x 37 ho N 9 i0 (.string .empty) 1 16 Tryz.underlying37 hi hz0 hz1 hz2 rfl (by decide) v l.length (l.map sc) hs hown' ⟨w.heap.size, 0, none⟩ 1 1 [.string y] hx rfl (cell_one_new _ _ _) (by intro u hu; simp at hu; subst hu; rfl) (by unfold maxLen; omega) hl (by omega) ?_
  intro v' w' ho2 hg2 _
  have hk : ∀ w0, Below N w0 w → Below N w0 w' := fun w0 hb => hown'.kept hg2 (hb.alloc hN _) (by omega)
  exact h v' w' (Sown.appended (m := [y]) ho2 rfl) hk fun A m hr => hr.below (hk w (Below.refl _ _)) (Nat.le_refl _)

set_option maxRecDepth 100000 in
/-- append of another slice's strings, nil or not. -/
theorem app_all {ops : Array Oper} {rest : List Oper} {o : Oper} {a : Act} {Q : Exit → Act → World → Prop} (w : World) (hgd : o.guard = none) (s x : Operand)
    (ho : o.op = .call { callee := .builtin .append, args := #[s, x], argTypes := #[37, 37] })
    (N : Nat) (v : Value) (l m : List ByteArray) (A : Option Addr) (c M : Nat) (hs : a.eval s = v) (hown : Sown N w v l) (hx : a.eval x = .slice A m.length c) (hc : A = none → c = 0) (hr : Rd w M A m)
    (hl : (l.length + m.length) * 16 ≤ 140737488355328) (hN : N ≤ w.heap.size)
    (h : ∀ v' w', Sown N w' v' (l ++ m) → (∀ w0, Below N w0 w → Below N w0 w') → (∀ A m, Rd w N A m → Rd w' N A m) → wpList Tryz.prog ops Q rest (a.put o.dst v') w') :
    wpList Tryz.prog ops Q (o :: rest) a w := by
  obtain ⟨i0, hi, hz0, hz1, hz2⟩ := info_parts info_str
  cases A with
  | none =>
    have hm : m = [] := by
      rcases Nat.eq_zero_or_pos m.length with h0 | h0
      · exact List.eq_nil_of_length_eq_zero h0
      · obtain ⟨b, off, e, _⟩ := hr h0
        cases e
    subst hm
    have hc0 := hc rfl
    subst hc0
    refine wpList_append_own_none hgd s x 37 ho N 9 i0 1 Tryz.underlying37 hi v l.length (l.map sc) hs hown hx ?_
    exact h v w (by rw [List.append_nil]; exact hown) (fun _ hb => hb) (fun _ _ hr => hr)
  | some ad =>
    have hcells : ∀ j u, (m.map sc)[j]? = some u → w.cell? (ad.add j) = some u := by
      intro j u hu
      have hj : j < m.length := by
        have := (List.getElem?_eq_some_iff.1 hu).1
        rw [List.length_map] at this
        exact this
      obtain ⟨b, off, e, _, hcc⟩ := hr (by omega)
      injection e with e
      subst e
      rw [WideShapes.add_plain, hcc j hj]
      rw [List.getElem?_map, List.getElem?_eq_getElem hj] at hu
      exact hu
    refine wpList_append_own _ hgd s x 37 ho N 9 i0 (.string .empty) 1 16 Tryz.underlying37 hi hz0 hz1 hz2 rfl (by decide) v l.length (l.map sc) hs hown ad m.length c (m.map sc) hx (by simp) hcells (by intro u hu; obtain ⟨y, _, rfl⟩ := List.mem_map.1 hu; rfl) (by unfold maxLen; omega) hl hN ?_
    intro v' w' ho2 hg2 _
    have hk : ∀ w0, Below N w0 w → Below N w0 w' := fun w0 hb => hown.kept hg2 hb hN
    exact h v' w' (Sown.appended ho2 rfl) hk fun A m hr => hr.below (hk w (Below.refl _ _)) (Nat.le_refl _)

end Go.Proofs.YteafldginkpgoaaGreat.Ba

namespace Go.Proofs.YteafldginkpgoaaGreat.Rm
set_option linter.unusedSimpArgs false
set_option linter.unusedVariables false

/-- A character's bytes. -/
def enc (n : Nat) : List UInt8 :=
  if n < 128 then [UInt8.ofNat n]
  else if n < 2048 then [UInt8.ofNat (192 + n / 64), UInt8.ofNat (128 + n % 64)]
  else if n < 65536 then [UInt8.ofNat (224 + n / 4096), UInt8.ofNat (128 + n / 64 % 64), UInt8.ofNat (128 + n % 64)]
  else [UInt8.ofNat (240 + n / 262144), UInt8.ofNat (128 + n / 4096 % 64), UInt8.ofNat (128 + n / 64 % 64), UInt8.ofNat (128 + n % 64)]
theorem len_enc (n : Nat) : (enc n).length ≤ 4 := by
  unfold enc
  repeat' split
  all_goals simp
/-- No character has this number. -/
def bad (n : Int) : Bool := decide (n < 1) || decide (1114111 < n) || (decide (55296 ≤ n) && decide (n ≤ 57343))
def code (n : Int) : List UInt8 := if bad n then [239, 191, 189] else if n = 13 then [10] else enc n.toNat
theorem len_code (n : Int) : (code n).length ≤ 4 := by
  unfold code
  split
  · simp
  · split
    · simp
    · exact len_enc _
/-- The names, and the numbers of their characters. -/
def tab : List (List UInt8 × Nat) := [([97, 109, 112], 38), ([108, 116], 60), ([103, 116], 62), ([113, 117, 111, 116], 34), ([97, 112, 111, 115], 39), ([110, 98, 115, 112], 160), ([99, 111, 112, 121], 169), ([114, 101, 103], 174), ([112, 97, 114, 97], 182), ([109, 105, 100, 100, 111, 116], 183), ([101, 97, 99, 117, 116, 101], 233), ([97, 117, 109, 108], 228), ([111, 117, 109, 108], 246), ([117, 117, 109, 108], 252), ([115, 122, 108, 105, 103], 223), ([101, 117, 114, 111], 8364), ([104, 101, 108, 108, 105, 112], 8230), ([110, 100, 97, 115, 104], 8211), ([109, 100, 97, 115, 104], 8212), ([98, 117, 108, 108], 8226), ([84, 97, 98], 9), ([78, 101, 119, 76, 105, 110, 101], 10), ([99, 111, 108, 111, 110], 58), ([108, 112, 97, 114], 40)]
def look : List (List UInt8 × Nat) → List UInt8 → Option (List UInt8)
  | [], _ => none
  | p :: r, s => if p.1 = s then some (code p.2) else look r s
theorem look_some {t : List (List UInt8 × Nat)} {s x : List UInt8} (h : look t s = some x) : ∃ n, (s, n) ∈ t ∧ x = code n := by
  induction t with
  | nil => cases h
  | cons p r ih =>
    unfold look at h
    split at h
    · rename_i e
      injection h with h
      exact ⟨p.2, by rw [← e]; exact List.mem_cons_self, h.symm⟩
    · obtain ⟨n, h1, h2⟩ := ih h
      exact ⟨n, List.mem_cons_of_mem _ h1, h2⟩
theorem tab_long : ∀ p ∈ tab, 2 ≤ p.1.length ∧ (38 : UInt8) ∉ p.1 := by decide

def dig (c : UInt8) : Int := if 48 ≤ c.toNat ∧ c.toNat ≤ 57 then c.toNat - 48 else if 97 ≤ c.toNat ∧ c.toNat ≤ 102 then c.toNat - 87 else if 65 ≤ c.toNat ∧ c.toNat ≤ 70 then c.toNat - 55 else -1
/-- What digits of a base come to, kept just above all characters. -/
def val (base : Int) : Int → List UInt8 → Option Int
  | n, [] => some n
  | n, c :: r => if dig c < 0 ∨ base ≤ dig c then none else val base (min (n * base + dig c) 1114112) r
def numL (base : Int) (l : List UInt8) : Option (List UInt8) := if l = [] then none else (val base 0 l).map code
/-- What a reference's body stands for. -/
def meant (s : List UInt8) : Option (List UInt8) :=
  if s.head? = some 35 then (if s[1]? = some 120 ∨ s[1]? = some 88 then numL 16 (s.drop 2) else numL 10 (s.drop 1)) else look tab s
theorem numL_some {base : Int} {l x : List UInt8} (h : numL base l = some x) : l ≠ [] ∧ ∃ n, x = code n := by
  unfold numL at h
  split at h
  · cases h
  · rename_i hl
    cases hv : val base 0 l with
    | none => rw [hv] at h; cases h
    | some n =>
      rw [hv] at h
      injection h with h
      exact ⟨hl, n, h.symm⟩
theorem meant_len {s t : List UInt8} (h : meant s = some t) : 2 ≤ s.length ∧ t.length ≤ 4 := by
  unfold meant at h
  split at h
  · split at h
    · obtain ⟨h1, n, rfl⟩ := numL_some h
      refine ⟨?_, len_code n⟩
      have : 0 < (s.drop 2).length := List.length_pos_iff.2 h1
      rw [List.length_drop] at this
      omega
    · obtain ⟨h1, n, rfl⟩ := numL_some h
      refine ⟨?_, len_code n⟩
      have : 0 < (s.drop 1).length := List.length_pos_iff.2 h1
      rw [List.length_drop] at this
      omega
  · obtain ⟨n, h1, rfl⟩ := look_some h
    exact ⟨(tab_long _ h1).1, len_code _⟩
/-- What stands ahead of the first ; . -/
def cutAt : List UInt8 → Option (List UInt8)
  | [] => none
  | c :: r => if c = 59 then some [] else (cutAt r).map (c :: ·)
/-- What a reference stands for whose & is passed, and how many bytes its body has. -/
def refAt (r : List UInt8) : Option (List UInt8 × Nat) := match cutAt r with
  | some b => (meant b).map (·, b.length)
  | none => none
theorem len_cut {r b : List UInt8} (h : cutAt r = some b) : b.length + 1 ≤ r.length := by
  induction r generalizing b with
  | nil => cases h
  | cons c r ih =>
    unfold cutAt at h
    split at h
    · injection h with h; rw [← h]; simp
    · cases hc : cutAt r with
      | none => simp [hc] at h
      | some x =>
        simp [hc] at h
        have := ih hc
        rw [← h]; simp; omega
theorem cutAt_stop (b r : List UInt8) (h : (59 : UInt8) ∉ b) : cutAt (b ++ 59 :: r) = some b := by
  induction b with
  | nil => simp [cutAt]
  | cons c q ih =>
    have h1 : ¬ c = 59 := fun e => h (by rw [e]; exact List.mem_cons_self)
    rw [List.cons_append, cutAt, if_neg h1, ih (fun e => h (List.mem_cons_of_mem _ e))]
    rfl

/-- The start of a text, and how many bytes it has: a reference, or one byte. -/
def fst : List UInt8 → List UInt8 × Nat
  | [] => ([], 1)
  | c :: r => if c = 38 then (match refAt r with | some (t, k) => (t, k + 2) | none => ([c], 1)) else ([c], 1)
theorem fst_cons (c : UInt8) (r : List UInt8) : fst (c :: r) = if c = 38 then (match refAt r with | some (t, k) => (t, k + 2) | none => ([c], 1)) else ([c], 1) := rfl
theorem fst_ok (l : List UInt8) (h : l ≠ []) : 1 ≤ (fst l).2 ∧ (fst l).2 ≤ l.length ∧ (fst l).1.length ≤ (fst l).2 := by
  cases l with
  | nil => exact absurd rfl h
  | cons c r =>
    rw [fst_cons]
    split
    · cases hr : refAt r with
      | none => simp
      | some p =>
        obtain ⟨t, k⟩ := p
        unfold refAt at hr
        cases hc : cutAt r with
        | none => rw [hc] at hr; cases hr
        | some b =>
          rw [hc] at hr
          simp only at hr
          cases hm : meant b with
          | none => rw [hm] at hr; cases hr
          | some x =>
            rw [hm] at hr
            simp only [Option.map_some, Option.some.injEq, Prod.mk.injEq] at hr
            obtain ⟨rfl, rfl⟩ := hr
            have h1 := meant_len hm
            have h2 := len_cut hc
            simp only [List.length_cons]
            omega
    · simp
theorem fst_byte {c : UInt8} (r : List UInt8) (h : c ≠ 38) : fst (c :: r) = ([c], 1) := by simp [fst, h]

/-- Step by step through a text. -/
def run (f : List UInt8 → List UInt8 × Nat) (l : List UInt8) : List UInt8 :=
  if _h : l = [] then [] else (f l).1 ++ run f (l.drop ((f l).2 - 1 + 1))
  termination_by l.length
  decreasing_by
    have : 0 < l.length := List.length_pos_iff.2 _h
    rw [List.length_drop]
    omega
theorem run_nil (f : List UInt8 → List UInt8 × Nat) : run f [] = [] := by rw [run]; simp
theorem run_step (f : List UInt8 → List UInt8 × Nat) {l : List UInt8} (h : l ≠ []) (hk : 1 ≤ (f l).2) : run f l = (f l).1 ++ run f (l.drop (f l).2) := by
  rw [run, dif_neg h, Nat.sub_add_cancel hk]
/-- Induction by steps. -/
theorem steps {f : List UInt8 → List UInt8 × Nat} (hf : ∀ l, l ≠ [] → 1 ≤ (f l).2) {Q : List UInt8 → Prop} (h0 : Q []) (h1 : ∀ l, l ≠ [] → Q (l.drop (f l).2) → Q l) : ∀ l, Q l := by
  intro l
  induction hn : l.length using Nat.strongRecOn generalizing l with
  | ind n ih =>
    by_cases h : l = []
    · rw [h]; exact h0
    · refine h1 l h (ih _ ?_ _ rfl)
      have := hf l h
      have : 0 < l.length := List.length_pos_iff.2 h
      rw [List.length_drop]
      omega

/-- A text with characters in the place of their references. -/
def dec (l : List UInt8) : List UInt8 := run fst l
theorem dec_nil : dec [] = [] := run_nil fst
theorem dec_step {l : List UInt8} (h : l ≠ []) : dec l = (fst l).1 ++ dec (l.drop (fst l).2) := run_step fst h (fst_ok l h).1
theorem dec_byte {c : UInt8} (r : List UInt8) (h : c ≠ 38) : dec (c :: r) = c :: dec r := by
  rw [dec_step (List.cons_ne_nil _ _), fst_byte r h]; rfl
/-- A character of its own, written out. -/
def e1 (q : Bool) (c : UInt8) : List UInt8 :=
  if c = 38 then [38, 97, 109, 112, 59] else if c = 60 then [38, 108, 116, 59] else if c = 62 then [38, 103, 116, 59] else if c = 34 ∧ q = true then [38, 113, 117, 111, 116, 59] else [c]
def est (q : Bool) : List UInt8 → List UInt8 × Nat
  | [] => ([], 1)
  | c :: r => if c = 194 ∧ r.head? = some 160 then ([38, 110, 98, 115, 112, 59], 2) else (e1 q c, 1)
/-- A text written out. -/
def esc (q : Bool) (l : List UInt8) : List UInt8 := run (est q) l
theorem est_pos (q : Bool) (l : List UInt8) : 1 ≤ (est q l).2 := by
  cases l with
  | nil => exact Nat.le_refl _
  | cons c r =>
    show 1 ≤ (if c = 194 ∧ r.head? = some 160 then _ else _ : List UInt8 × Nat).2
    split
    · exact Nat.le_succ _
    · exact Nat.le_refl _
theorem esc_nil (q : Bool) : esc q [] = [] := run_nil _
theorem esc_step (q : Bool) {l : List UInt8} (h : l ≠ []) : esc q l = (est q l).1 ++ esc q (l.drop (est q l).2) := run_step _ h (est_pos q l)
theorem est_cases (q : Bool) (l : List UInt8) (h : l ≠ []) : (∃ r, l = 194 :: 160 :: r ∧ est q l = ([38, 110, 98, 115, 112, 59], 2)) ∨ (∃ c r, l = c :: r ∧ ¬ (c = 194 ∧ r.head? = some 160) ∧ est q l = (e1 q c, 1)) := by
  cases l with
  | nil => exact absurd rfl h
  | cons c r =>
    by_cases hc : c = 194 ∧ r.head? = some 160
    · left
      obtain ⟨rfl, h2⟩ := hc
      cases r with
      | nil => cases h2
      | cons d r =>
        simp only [List.head?_cons, Option.some.injEq] at h2
        subst h2
        exact ⟨r, rfl, by simp [est]⟩
    · right
      exact ⟨c, r, rfl, hc, by simp only [est, if_neg hc]⟩
theorem esc_nbsp (q : Bool) (r : List UInt8) : esc q (194 :: 160 :: r) = [38, 110, 98, 115, 112, 59] ++ esc q r := by
  rw [esc_step q (List.cons_ne_nil _ _)]; simp [est]
theorem esc_byte (q : Bool) {c : UInt8} {r : List UInt8} (h : ¬ (c = 194 ∧ r.head? = some 160)) : esc q (c :: r) = e1 q c ++ esc q r := by
  rw [esc_step q (List.cons_ne_nil _ _)]; simp only [est, if_neg h, List.drop_succ_cons, List.drop_zero]
/-- Induction by characters written. -/
theorem writes (q : Bool) {Q : List UInt8 → Prop} (h0 : Q []) (h1 : ∀ r, Q r → Q (194 :: 160 :: r)) (h2 : ∀ c r, ¬ (c = 194 ∧ r.head? = some 160) → Q r → Q (c :: r)) (l : List UInt8) : Q l := by
  refine steps (f := est q) (fun l _ => est_pos q l) h0 (fun l h ih => ?_) l
  rcases est_cases q l h with ⟨r, rfl, he⟩ | ⟨c, r, rfl, hc, he⟩
  · rw [he] at ih; exact h1 r ih
  · rw [he] at ih; exact h2 c r hc ih
theorem e1_cases (q : Bool) (c : UInt8) : (38 : UInt8) ∈ e1 q c ∧ 4 ≤ (e1 q c).length ∨ e1 q c = [c] ∧ c ≠ 38 := by
  unfold e1
  split
  · exact .inl ⟨by decide, by decide⟩
  split
  · exact .inl ⟨by decide, by decide⟩
  split
  · exact .inl ⟨by decide, by decide⟩
  split
  · exact .inl ⟨by decide, by decide⟩
  · rename_i h _ _ _
    exact .inr ⟨rfl, h⟩
theorem fst_ref {b t : List UInt8} (r : List UInt8) (hb : (59 : UInt8) ∉ b) (hm : meant b = some t) : fst (38 :: (b ++ 59 :: r)) = (t, b.length + 2) := by
  rw [fst_cons, if_pos rfl]
  unfold refAt
  rw [cutAt_stop b r hb]
  simp only [hm, Option.map_some]
theorem dec_ref {b t : List UInt8} (r : List UInt8) (hb : (59 : UInt8) ∉ b) (hm : meant b = some t) : dec (38 :: (b ++ 59 :: r)) = t ++ dec r := by
  rw [dec_step (List.cons_ne_nil _ _), fst_ref r hb hm]
  simp only
  congr 2
  rw [show b.length + 2 = (b.length + 1) + 1 from rfl, List.drop_succ_cons, List.drop_append]
  simp
/-- Nothing of it opens or closes a tag; nothing of a value closes it. -/
theorem esc_free (q : Bool) (l : List UInt8) : (60 : UInt8) ∉ esc q l ∧ (62 : UInt8) ∉ esc q l ∧ (q = true → (34 : UInt8) ∉ esc q l) := by
  refine writes q (Q := fun l => (60 : UInt8) ∉ esc q l ∧ (62 : UInt8) ∉ esc q l ∧ (q = true → (34 : UInt8) ∉ esc q l)) (by rw [esc_nil]; simp) (fun r ih => ?_) (fun c r hc ih => ?_) l
  · rw [esc_nbsp]
    obtain ⟨i1, i2, i3⟩ := ih
    refine ⟨?_, ?_, fun hq => ?_⟩
    · simpa using i1
    · simpa using i2
    · simpa using i3 hq
  · rw [esc_byte q hc]
    obtain ⟨i1, i2, i3⟩ := ih
    have k : (60 : UInt8) ∉ e1 q c ∧ (62 : UInt8) ∉ e1 q c ∧ (q = true → (34 : UInt8) ∉ e1 q c) := by
      unfold e1
      split
      · refine ⟨by decide, by decide, fun _ => by decide⟩
      split
      · refine ⟨by decide, by decide, fun _ => by decide⟩
      split
      · refine ⟨by decide, by decide, fun _ => by decide⟩
      split
      · refine ⟨by decide, by decide, fun _ => by decide⟩
      · rename_i _ h1 h2 h3
        refine ⟨fun e => ?_, fun e => ?_, fun hq e => ?_⟩
        · rw [List.mem_singleton] at e; exact h1 e.symm
        · rw [List.mem_singleton] at e; exact h2 e.symm
        · rw [List.mem_singleton] at e; exact h3 ⟨e.symm, hq⟩
    obtain ⟨k1, k2, k3⟩ := k
    refine ⟨?_, ?_, fun hq => ?_⟩
    · rw [List.mem_append]; exact fun e => e.elim k1 i1
    · rw [List.mem_append]; exact fun e => e.elim k2 i2
    · rw [List.mem_append]; exact fun e => e.elim (k3 hq) (i3 hq)
theorem len_esc (q : Bool) (l : List UInt8) : l.length ≤ (esc q l).length ∧ (esc q l).length ≤ 6 * l.length ∧ ((38 : UInt8) ∈ l → l.length < (esc q l).length) := by
  refine writes q (Q := fun l => l.length ≤ (esc q l).length ∧ (esc q l).length ≤ 6 * l.length ∧ ((38 : UInt8) ∈ l → l.length < (esc q l).length)) (by rw [esc_nil]; simp) (fun r ih => ?_) (fun c r hc ih => ?_) l
  · rw [esc_nbsp]
    simp only [List.length_cons, List.length_append, List.length_nil]
    obtain ⟨i1, i2, i3⟩ := ih
    exact ⟨by omega, by omega, fun _ => by omega⟩
  · rw [esc_byte q hc]
    obtain ⟨i1, i2, i3⟩ := ih
    simp only [List.length_cons, List.length_append]
    have h6 : (e1 q c).length ≤ 6 := by
      unfold e1
      repeat' split
      all_goals simp
    rcases e1_cases q c with ⟨_, h4⟩ | ⟨he, hn⟩
    · exact ⟨by omega, by omega, fun _ => by omega⟩
    · rw [he]
      simp only [List.length_cons, List.length_nil]
      refine ⟨by omega, by omega, fun hm => ?_⟩
      rcases List.mem_cons.1 hm with e | e
      · exact absurd e.symm hn
      · have := i3 e; omega
end Go.Proofs.YteafldginkpgoaaGreat.Rm

namespace Go.Proofs.YteafldginkpgoaaGreat.Fm
set_option linter.unusedSimpArgs false
set_option linter.unusedVariables false

section order
variable {α : Type}

/-- How many names are smaller. -/
def below (lt : α → α → Bool) (l : List α) (s : α) : Nat := l.countP (lt · s)

variable [DecidableEq α]

/-- Does it stand there? -/
def isIn (x : α) (l : List α) : Bool := decide (x ∈ l)
theorem isIn_yes {x : α} {l : List α} (h : x ∈ l) : isIn x l = true := decide_eq_true h
theorem isIn_no {x : α} {l : List α} (h : ¬ x ∈ l) : isIn x l = false := decide_eq_false h
theorem isIn_of {x : α} {l : List α} (h : isIn x l = true) : x ∈ l := of_decide_eq_true h
end order

section bytes

/-- A space. -/
def sp (c : UInt8) : Bool := c == 32 || c == 9 || c == 10 || c == 12 || c == 13
/-- A letter. -/
def lr (c : UInt8) : Bool := (decide (65 ≤ c) && decide (c ≤ 90)) || (decide (97 ≤ c) && decide (c ≤ 122))
/-- A small letter. -/
def low (c : UInt8) : UInt8 := if 65 ≤ c ∧ c ≤ 90 then c + 32 else c
def lowL (l : List UInt8) : List UInt8 := l.map low

/-- Without the spaces at the beginning. -/
def trimS (l : List UInt8) : List UInt8 := l.dropWhile sp
/-- Without the spaces at the end. -/
def trimE (l : List UInt8) : List UInt8 := (l.reverse.dropWhile sp).reverse
def trimL (l : List UInt8) : List UInt8 := trimE (trimS l)

theorem trimS_sp {c : UInt8} (l : List UInt8) (h : sp c = true) : trimS (c :: l) = trimS l := by simp [trimS, List.dropWhile_cons, h]
theorem trimS_no {c : UInt8} (l : List UInt8) (h : sp c = false) : trimS (c :: l) = c :: l := by simp [trimS, List.dropWhile_cons, h]
theorem snoc_cases (l : List UInt8) : l = [] ∨ ∃ m c, l = m ++ [c] := by
  rcases List.eq_nil_or_concat l with h | ⟨m, c, h⟩
  · exact .inl h
  · exact .inr ⟨m, c, by rw [h, List.concat_eq_append]⟩

theorem len_trimS : ∀ l : List UInt8, (trimS l).length ≤ l.length
  | [] => Nat.le_refl _
  | c :: l => by
    cases h : sp c with
    | true => rw [trimS_sp l h]; have := len_trimS l; simp; omega
    | false => rw [trimS_no l h]; exact Nat.le_refl _
end bytes
end Go.Proofs.YteafldginkpgoaaGreat.Fm

namespace Go.Proofs.YteafldginkpgoaaGreat.Nm
set_option linter.unusedSimpArgs false
set_option linter.unusedVariables false
open Ba Fm
abbrev n_button : ByteArray := ⟨#[98, 117, 116, 116, 111, 110]⟩
abbrev n_caption : ByteArray := ⟨#[99, 97, 112, 116, 105, 111, 110]⟩
abbrev n_dd : ByteArray := ⟨#[100, 100]⟩
abbrev n_dl : ByteArray := ⟨#[100, 108]⟩
abbrev n_dt : ByteArray := ⟨#[100, 116]⟩
abbrev n_li : ByteArray := ⟨#[108, 105]⟩
abbrev n_menu : ByteArray := ⟨#[109, 101, 110, 117]⟩
abbrev n_ol : ByteArray := ⟨#[111, 108]⟩
abbrev n_optgroup : ByteArray := ⟨#[111, 112, 116, 103, 114, 111, 117, 112]⟩
abbrev n_option : ByteArray := ⟨#[111, 112, 116, 105, 111, 110]⟩
abbrev n_p : ByteArray := ⟨#[112]⟩
abbrev n_select : ByteArray := ⟨#[115, 101, 108, 101, 99, 116]⟩
abbrev n_table : ByteArray := ⟨#[116, 97, 98, 108, 101]⟩
abbrev n_tbody : ByteArray := ⟨#[116, 98, 111, 100, 121]⟩
abbrev n_td : ByteArray := ⟨#[116, 100]⟩
abbrev n_template : ByteArray := ⟨#[116, 101, 109, 112, 108, 97, 116, 101]⟩
abbrev n_tfoot : ByteArray := ⟨#[116, 102, 111, 111, 116]⟩
abbrev n_th : ByteArray := ⟨#[116, 104]⟩
abbrev n_thead : ByteArray := ⟨#[116, 104, 101, 97, 100]⟩
abbrev n_tr : ByteArray := ⟨#[116, 114]⟩
abbrev n_ul : ByteArray := ⟨#[117, 108]⟩
abbrev voidL : List ByteArray := [⟨#[97, 114, 101, 97]⟩, ⟨#[98, 97, 115, 101]⟩, ⟨#[98, 114]⟩, ⟨#[99, 111, 108]⟩, ⟨#[101, 109, 98, 101, 100]⟩, ⟨#[104, 114]⟩, ⟨#[105, 109, 103]⟩, ⟨#[105, 110, 112, 117, 116]⟩, ⟨#[108, 105, 110, 107]⟩, ⟨#[109, 101, 116, 97]⟩, ⟨#[112, 97, 114, 97, 109]⟩, ⟨#[115, 111, 117, 114, 99, 101]⟩, ⟨#[116, 114, 97, 99, 107]⟩, ⟨#[119, 98, 114]⟩]
abbrev rawL : List ByteArray := [⟨#[105, 102, 114, 97, 109, 101]⟩, ⟨#[110, 111, 101, 109, 98, 101, 100]⟩, ⟨#[110, 111, 102, 114, 97, 109, 101, 115]⟩, ⟨#[115, 99, 114, 105, 112, 116]⟩, ⟨#[115, 116, 121, 108, 101]⟩, ⟨#[120, 109, 112]⟩]
abbrev softL : List ByteArray := [⟨#[116, 101, 120, 116, 97, 114, 101, 97]⟩, ⟨#[116, 105, 116, 108, 101]⟩]
abbrev blockL : List ByteArray := [⟨#[97, 100, 100, 114, 101, 115, 115]⟩, ⟨#[97, 114, 116, 105, 99, 108, 101]⟩, ⟨#[97, 115, 105, 100, 101]⟩, ⟨#[98, 108, 111, 99, 107, 113, 117, 111, 116, 101]⟩, ⟨#[99, 101, 110, 116, 101, 114]⟩, n_dd, ⟨#[100, 101, 116, 97, 105, 108, 115]⟩, ⟨#[100, 105, 97, 108, 111, 103]⟩, ⟨#[100, 105, 114]⟩, ⟨#[100, 105, 118]⟩, n_dl, n_dt, ⟨#[102, 105, 101, 108, 100, 115, 101, 116]⟩, ⟨#[102, 105, 103, 99, 97, 112, 116, 105, 111, 110]⟩, ⟨#[102, 105, 103, 117, 114, 101]⟩, ⟨#[102, 111, 111, 116, 101, 114]⟩, ⟨#[102, 111, 114, 109]⟩, ⟨#[104, 49]⟩, ⟨#[104, 50]⟩, ⟨#[104, 51]⟩, ⟨#[104, 52]⟩, ⟨#[104, 53]⟩, ⟨#[104, 54]⟩, ⟨#[104, 101, 97, 100, 101, 114]⟩, ⟨#[104, 103, 114, 111, 117, 112]⟩, ⟨#[104, 114]⟩, n_li, ⟨#[109, 97, 105, 110]⟩, n_menu, ⟨#[110, 97, 118]⟩, n_ol, n_p, ⟨#[112, 114, 101]⟩, ⟨#[115, 101, 99, 116, 105, 111, 110]⟩, ⟨#[115, 117, 109, 109, 97, 114, 121]⟩, n_table, n_ul, ⟨#[120, 109, 112]⟩]
abbrev goneL : List ByteArray := [⟨#[98, 111, 100, 121]⟩, ⟨#[102, 114, 97, 109, 101, 115, 101, 116]⟩, ⟨#[104, 101, 97, 100]⟩, ⟨#[104, 116, 109, 108]⟩]
abbrev tableL : List ByteArray := [n_tbody, n_td, n_tfoot, n_th, n_thead, n_tr]

/-- What an element closes. -/
def closesL (s : ByteArray) : List ByteArray :=
  if s = n_li then [n_li] else if s = n_dd then [n_dd, n_dt] else if s = n_dt then [n_dd, n_dt] else if s = n_option then [n_option] else if s = n_optgroup then [n_optgroup, n_option] else if s = n_tr then [n_td, n_th, n_tr]
  else if s = n_td then [n_td, n_th] else if s = n_th then [n_td, n_th] else if s = n_tbody then tableL else if s = n_tfoot then tableL else if s = n_thead then tableL else if isIn s blockL = true then [n_p] else []
/-- What ends the search. -/
def wallsL (s : ByteArray) : List ByteArray :=
  if s = n_li then [n_menu, n_ol, n_template, n_ul] else if s = n_dd then [n_dl, n_template] else if s = n_dt then [n_dl, n_template] else if s = n_option then [n_select, n_template] else if s = n_optgroup then [n_select, n_template]
  else if s = n_tr then [n_table, n_template] else if s = n_td then [n_table, n_template] else if s = n_th then [n_table, n_template] else if s = n_tbody then [n_table, n_template] else if s = n_tfoot then [n_table, n_template] else if s = n_thead then [n_table, n_template]
  else [n_button, n_caption, n_table, n_td, n_template, n_th]

/-- May a byte stand in an element's name; in an attribute's. -/
def elB (c : UInt8) : Bool := !(sp c || (65 ≤ c && c ≤ 90) || c == 0 || c == 47 || c == 62)
def atB (c : UInt8) : Bool := elB c && !(c == 34 || c == 39 || c == 60 || c == 61)
def small (c : UInt8) : Bool := 97 ≤ c && c ≤ 122
def rightL : List UInt8 → Bool
  | [] => false
  | c :: r => small c && (c :: r).all elB
def attrL : List UInt8 → Bool
  | [] => false
  | c :: r => (c :: r).all atB
def rightB (s : ByteArray) : Bool := rightL (L s)
def attrB (s : ByteArray) : Bool := attrL (L s)

end Go.Proofs.YteafldginkpgoaaGreat.Nm

namespace Go.Proofs.YteafldginkpgoaaGreat.Wm
set_option linter.unusedVariables false
set_option linter.unusedSimpArgs false
open Ba Fm Rm Nm
open Ro (At Ro)
def deep (d : Int) (y : Ro) : Bool := decide (d < y.depth)
/-- What stands within the first row's tree, and behind it. -/
def inn (x : Ro) (r : List Ro) : List Ro := r.takeWhile (deep x.depth)
def beh (x : Ro) (r : List Ro) : List Ro := r.dropWhile (deep x.depth)
theorem inn_beh (x : Ro) (r : List Ro) : inn x r ++ beh x r = r := List.takeWhile_append_dropWhile
theorem len_parts (x : Ro) (r : List Ro) : (inn x r).length + (beh x r).length = r.length := by
  have := congrArg List.length (inn_beh x r)
  rwa [List.length_append] at this
/-- A node whose kids are written. -/
def holds (x : Ro) : Bool := x.kind == 0 && !isIn x.name voidL
def wA (a : At) : List UInt8 := [32] ++ (L a.name ++ ([61, 34] ++ (esc true (L a.value) ++ [34])))
def tagW (x : Ro) : List UInt8 := [60] ++ L x.name ++ x.attrs.flatMap wA ++ [62]
def node (raw : Bool) (x : Ro) : List UInt8 :=
  if x.kind = 0 then tagW x
  else if x.kind = 1 then (if raw = true then L x.data else esc false (L x.data))
  else if x.kind = 2 then [60, 33, 45, 45] ++ L x.data ++ [45, 45, 62]
  else []
def endW (x : Ro) : List UInt8 := [60, 47] ++ L x.name ++ [62]
/-- Trees, written; raw: they stand in an element whose text is left as it is. -/
def wr (raw : Bool) : List Ro → List UInt8
  | [] => []
  | x :: r => node raw x ++ ((if holds x = true then wr (isIn x.name rawL) (inn x r) ++ endW x else []) ++ wr raw (beh x r))
  termination_by l => l.length
  decreasing_by
    · have := len_parts x r
      simp only [List.length_cons]; omega
    · have := len_parts x r
      simp only [List.length_cons]; omega
theorem wr_nil (raw : Bool) : wr raw [] = [] := by rw [wr]
theorem wr_cons (raw : Bool) (x : Ro) (r : List Ro) : wr raw (x :: r) = node raw x ++ ((if holds x = true then wr (isIn x.name rawL) (inn x r) ++ endW x else []) ++ wr raw (beh x r)) := by rw [wr]

end Go.Proofs.YteafldginkpgoaaGreat.Wm

namespace Go.Proofs.YteafldginkpgoaaGreat.Nm
set_option linter.unusedSimpArgs false
set_option linter.unusedVariables false
open Go.RowKit Ba Fm
theorem eqlit (s : ByteArray) (l : List UInt8) : (s.toList == l) = decide (s = ⟨l.toArray⟩) := by
  rw [← ByteArray.toList_mk l, eq_of_toList, ByteArray.toList_mk]
theorem own_li {s : ByteArray} (h : s = n_li) : ((s.toList == [108, 105]) = true ∧ (s.toList == [100, 100]) = false ∧ (s.toList == [100, 116]) = false ∧ (s.toList == [111, 112, 116, 105, 111, 110]) = false ∧ (s.toList == [111, 112, 116, 103, 114, 111, 117, 112]) = false ∧ (s.toList == [116, 114]) = false ∧ (s.toList == [116, 100]) = false ∧ (s.toList == [116, 104]) = false ∧ (s.toList == [116, 98, 111, 100, 121]) = false ∧ (s.toList == [116, 102, 111, 111, 116]) = false ∧ (s.toList == [116, 104, 101, 97, 100]) = false) ∧ closesL s = [n_li] ∧ wallsL s = [n_menu, n_ol, n_template, n_ul] ∧ isIn s tableL = false ∧ isIn s blockL = true := by
  subst h
  refine ⟨⟨by kernel_rfl, by kernel_rfl, by kernel_rfl, by kernel_rfl, by kernel_rfl, by kernel_rfl, by kernel_rfl, by kernel_rfl, by kernel_rfl, by kernel_rfl, by kernel_rfl⟩, by kernel_rfl, by kernel_rfl, by kernel_rfl, by kernel_rfl⟩
theorem own_dd {s : ByteArray} (h : s = n_dd) : ((s.toList == [108, 105]) = false ∧ (s.toList == [100, 100]) = true ∧ (s.toList == [100, 116]) = false ∧ (s.toList == [111, 112, 116, 105, 111, 110]) = false ∧ (s.toList == [111, 112, 116, 103, 114, 111, 117, 112]) = false ∧ (s.toList == [116, 114]) = false ∧ (s.toList == [116, 100]) = false ∧ (s.toList == [116, 104]) = false ∧ (s.toList == [116, 98, 111, 100, 121]) = false ∧ (s.toList == [116, 102, 111, 111, 116]) = false ∧ (s.toList == [116, 104, 101, 97, 100]) = false) ∧ closesL s = [n_dd, n_dt] ∧ wallsL s = [n_dl, n_template] ∧ isIn s tableL = false ∧ isIn s blockL = true := by
  subst h
  refine ⟨⟨by kernel_rfl, by kernel_rfl, by kernel_rfl, by kernel_rfl, by kernel_rfl, by kernel_rfl, by kernel_rfl, by kernel_rfl, by kernel_rfl, by kernel_rfl, by kernel_rfl⟩, by kernel_rfl, by kernel_rfl, by kernel_rfl, by kernel_rfl⟩
theorem own_dt {s : ByteArray} (h : s = n_dt) : ((s.toList == [108, 105]) = false ∧ (s.toList == [100, 100]) = false ∧ (s.toList == [100, 116]) = true ∧ (s.toList == [111, 112, 116, 105, 111, 110]) = false ∧ (s.toList == [111, 112, 116, 103, 114, 111, 117, 112]) = false ∧ (s.toList == [116, 114]) = false ∧ (s.toList == [116, 100]) = false ∧ (s.toList == [116, 104]) = false ∧ (s.toList == [116, 98, 111, 100, 121]) = false ∧ (s.toList == [116, 102, 111, 111, 116]) = false ∧ (s.toList == [116, 104, 101, 97, 100]) = false) ∧ closesL s = [n_dd, n_dt] ∧ wallsL s = [n_dl, n_template] ∧ isIn s tableL = false ∧ isIn s blockL = true := by
  subst h
  refine ⟨⟨by kernel_rfl, by kernel_rfl, by kernel_rfl, by kernel_rfl, by kernel_rfl, by kernel_rfl, by kernel_rfl, by kernel_rfl, by kernel_rfl, by kernel_rfl, by kernel_rfl⟩, by kernel_rfl, by kernel_rfl, by kernel_rfl, by kernel_rfl⟩
theorem own_option {s : ByteArray} (h : s = n_option) : ((s.toList == [108, 105]) = false ∧ (s.toList == [100, 100]) = false ∧ (s.toList == [100, 116]) = false ∧ (s.toList == [111, 112, 116, 105, 111, 110]) = true ∧ (s.toList == [111, 112, 116, 103, 114, 111, 117, 112]) = false ∧ (s.toList == [116, 114]) = false ∧ (s.toList == [116, 100]) = false ∧ (s.toList == [116, 104]) = false ∧ (s.toList == [116, 98, 111, 100, 121]) = false ∧ (s.toList == [116, 102, 111, 111, 116]) = false ∧ (s.toList == [116, 104, 101, 97, 100]) = false) ∧ closesL s = [n_option] ∧ wallsL s = [n_select, n_template] ∧ isIn s tableL = false ∧ isIn s blockL = false := by
  subst h
  refine ⟨⟨by kernel_rfl, by kernel_rfl, by kernel_rfl, by kernel_rfl, by kernel_rfl, by kernel_rfl, by kernel_rfl, by kernel_rfl, by kernel_rfl, by kernel_rfl, by kernel_rfl⟩, by kernel_rfl, by kernel_rfl, by kernel_rfl, by kernel_rfl⟩
theorem own_optgroup {s : ByteArray} (h : s = n_optgroup) : ((s.toList == [108, 105]) = false ∧ (s.toList == [100, 100]) = false ∧ (s.toList == [100, 116]) = false ∧ (s.toList == [111, 112, 116, 105, 111, 110]) = false ∧ (s.toList == [111, 112, 116, 103, 114, 111, 117, 112]) = true ∧ (s.toList == [116, 114]) = false ∧ (s.toList == [116, 100]) = false ∧ (s.toList == [116, 104]) = false ∧ (s.toList == [116, 98, 111, 100, 121]) = false ∧ (s.toList == [116, 102, 111, 111, 116]) = false ∧ (s.toList == [116, 104, 101, 97, 100]) = false) ∧ closesL s = [n_optgroup, n_option] ∧ wallsL s = [n_select, n_template] ∧ isIn s tableL = false ∧ isIn s blockL = false := by
  subst h
  refine ⟨⟨by kernel_rfl, by kernel_rfl, by kernel_rfl, by kernel_rfl, by kernel_rfl, by kernel_rfl, by kernel_rfl, by kernel_rfl, by kernel_rfl, by kernel_rfl, by kernel_rfl⟩, by kernel_rfl, by kernel_rfl, by kernel_rfl, by kernel_rfl⟩
theorem own_tr {s : ByteArray} (h : s = n_tr) : ((s.toList == [108, 105]) = false ∧ (s.toList == [100, 100]) = false ∧ (s.toList == [100, 116]) = false ∧ (s.toList == [111, 112, 116, 105, 111, 110]) = false ∧ (s.toList == [111, 112, 116, 103, 114, 111, 117, 112]) = false ∧ (s.toList == [116, 114]) = true ∧ (s.toList == [116, 100]) = false ∧ (s.toList == [116, 104]) = false ∧ (s.toList == [116, 98, 111, 100, 121]) = false ∧ (s.toList == [116, 102, 111, 111, 116]) = false ∧ (s.toList == [116, 104, 101, 97, 100]) = false) ∧ closesL s = [n_td, n_th, n_tr] ∧ wallsL s = [n_table, n_template] ∧ isIn s tableL = true ∧ isIn s blockL = false := by
  subst h
  refine ⟨⟨by kernel_rfl, by kernel_rfl, by kernel_rfl, by kernel_rfl, by kernel_rfl, by kernel_rfl, by kernel_rfl, by kernel_rfl, by kernel_rfl, by kernel_rfl, by kernel_rfl⟩, by kernel_rfl, by kernel_rfl, by kernel_rfl, by kernel_rfl⟩
theorem own_td {s : ByteArray} (h : s = n_td) : ((s.toList == [108, 105]) = false ∧ (s.toList == [100, 100]) = false ∧ (s.toList == [100, 116]) = false ∧ (s.toList == [111, 112, 116, 105, 111, 110]) = false ∧ (s.toList == [111, 112, 116, 103, 114, 111, 117, 112]) = false ∧ (s.toList == [116, 114]) = false ∧ (s.toList == [116, 100]) = true ∧ (s.toList == [116, 104]) = false ∧ (s.toList == [116, 98, 111, 100, 121]) = false ∧ (s.toList == [116, 102, 111, 111, 116]) = false ∧ (s.toList == [116, 104, 101, 97, 100]) = false) ∧ closesL s = [n_td, n_th] ∧ wallsL s = [n_table, n_template] ∧ isIn s tableL = true ∧ isIn s blockL = false := by
  subst h
  refine ⟨⟨by kernel_rfl, by kernel_rfl, by kernel_rfl, by kernel_rfl, by kernel_rfl, by kernel_rfl, by kernel_rfl, by kernel_rfl, by kernel_rfl, by kernel_rfl, by kernel_rfl⟩, by kernel_rfl, by kernel_rfl, by kernel_rfl, by kernel_rfl⟩
theorem own_th {s : ByteArray} (h : s = n_th) : ((s.toList == [108, 105]) = false ∧ (s.toList == [100, 100]) = false ∧ (s.toList == [100, 116]) = false ∧ (s.toList == [111, 112, 116, 105, 111, 110]) = false ∧ (s.toList == [111, 112, 116, 103, 114, 111, 117, 112]) = false ∧ (s.toList == [116, 114]) = false ∧ (s.toList == [116, 100]) = false ∧ (s.toList == [116, 104]) = true ∧ (s.toList == [116, 98, 111, 100, 121]) = false ∧ (s.toList == [116, 102, 111, 111, 116]) = false ∧ (s.toList == [116, 104, 101, 97, 100]) = false) ∧ closesL s = [n_td, n_th] ∧ wallsL s = [n_table, n_template] ∧ isIn s tableL = true ∧ isIn s blockL = false := by
  subst h
  refine ⟨⟨by kernel_rfl, by kernel_rfl, by kernel_rfl, by kernel_rfl, by kernel_rfl, by kernel_rfl, by kernel_rfl, by kernel_rfl, by kernel_rfl, by kernel_rfl, by kernel_rfl⟩, by kernel_rfl, by kernel_rfl, by kernel_rfl, by kernel_rfl⟩
theorem own_tbody {s : ByteArray} (h : s = n_tbody) : ((s.toList == [108, 105]) = false ∧ (s.toList == [100, 100]) = false ∧ (s.toList == [100, 116]) = false ∧ (s.toList == [111, 112, 116, 105, 111, 110]) = false ∧ (s.toList == [111, 112, 116, 103, 114, 111, 117, 112]) = false ∧ (s.toList == [116, 114]) = false ∧ (s.toList == [116, 100]) = false ∧ (s.toList == [116, 104]) = false ∧ (s.toList == [116, 98, 111, 100, 121]) = true ∧ (s.toList == [116, 102, 111, 111, 116]) = false ∧ (s.toList == [116, 104, 101, 97, 100]) = false) ∧ closesL s = [n_tbody, n_td, n_tfoot, n_th, n_thead, n_tr] ∧ wallsL s = [n_table, n_template] ∧ isIn s tableL = true ∧ isIn s blockL = false := by
  subst h
  refine ⟨⟨by kernel_rfl, by kernel_rfl, by kernel_rfl, by kernel_rfl, by kernel_rfl, by kernel_rfl, by kernel_rfl, by kernel_rfl, by kernel_rfl, by kernel_rfl, by kernel_rfl⟩, by kernel_rfl, by kernel_rfl, by kernel_rfl, by kernel_rfl⟩
theorem own_tfoot {s : ByteArray} (h : s = n_tfoot) : ((s.toList == [108, 105]) = false ∧ (s.toList == [100, 100]) = false ∧ (s.toList == [100, 116]) = false ∧ (s.toList == [111, 112, 116, 105, 111, 110]) = false ∧ (s.toList == [111, 112, 116, 103, 114, 111, 117, 112]) = false ∧ (s.toList == [116, 114]) = false ∧ (s.toList == [116, 100]) = false ∧ (s.toList == [116, 104]) = false ∧ (s.toList == [116, 98, 111, 100, 121]) = false ∧ (s.toList == [116, 102, 111, 111, 116]) = true ∧ (s.toList == [116, 104, 101, 97, 100]) = false) ∧ closesL s = [n_tbody, n_td, n_tfoot, n_th, n_thead, n_tr] ∧ wallsL s = [n_table, n_template] ∧ isIn s tableL = true ∧ isIn s blockL = false := by
  subst h
  refine ⟨⟨by kernel_rfl, by kernel_rfl, by kernel_rfl, by kernel_rfl, by kernel_rfl, by kernel_rfl, by kernel_rfl, by kernel_rfl, by kernel_rfl, by kernel_rfl, by kernel_rfl⟩, by kernel_rfl, by kernel_rfl, by kernel_rfl, by kernel_rfl⟩
theorem own_thead {s : ByteArray} (h : s = n_thead) : ((s.toList == [108, 105]) = false ∧ (s.toList == [100, 100]) = false ∧ (s.toList == [100, 116]) = false ∧ (s.toList == [111, 112, 116, 105, 111, 110]) = false ∧ (s.toList == [111, 112, 116, 103, 114, 111, 117, 112]) = false ∧ (s.toList == [116, 114]) = false ∧ (s.toList == [116, 100]) = false ∧ (s.toList == [116, 104]) = false ∧ (s.toList == [116, 98, 111, 100, 121]) = false ∧ (s.toList == [116, 102, 111, 111, 116]) = false ∧ (s.toList == [116, 104, 101, 97, 100]) = true) ∧ closesL s = [n_tbody, n_td, n_tfoot, n_th, n_thead, n_tr] ∧ wallsL s = [n_table, n_template] ∧ isIn s tableL = true ∧ isIn s blockL = false := by
  subst h
  refine ⟨⟨by kernel_rfl, by kernel_rfl, by kernel_rfl, by kernel_rfl, by kernel_rfl, by kernel_rfl, by kernel_rfl, by kernel_rfl, by kernel_rfl, by kernel_rfl, by kernel_rfl⟩, by kernel_rfl, by kernel_rfl, by kernel_rfl, by kernel_rfl⟩
theorem own_none {s : ByteArray} (h0 : ¬ s = n_li) (h1 : ¬ s = n_dd) (h2 : ¬ s = n_dt) (h3 : ¬ s = n_option) (h4 : ¬ s = n_optgroup) (h5 : ¬ s = n_tr) (h6 : ¬ s = n_td) (h7 : ¬ s = n_th) (h8 : ¬ s = n_tbody) (h9 : ¬ s = n_tfoot) (h10 : ¬ s = n_thead) : ((s.toList == [108, 105]) = false ∧ (s.toList == [100, 100]) = false ∧ (s.toList == [100, 116]) = false ∧ (s.toList == [111, 112, 116, 105, 111, 110]) = false ∧ (s.toList == [111, 112, 116, 103, 114, 111, 117, 112]) = false ∧ (s.toList == [116, 114]) = false ∧ (s.toList == [116, 100]) = false ∧ (s.toList == [116, 104]) = false ∧ (s.toList == [116, 98, 111, 100, 121]) = false ∧ (s.toList == [116, 102, 111, 111, 116]) = false ∧ (s.toList == [116, 104, 101, 97, 100]) = false) ∧ closesL s = (if isIn s blockL = true then [n_p] else []) ∧ wallsL s = [n_button, n_caption, n_table, n_td, n_template, n_th] ∧ isIn s tableL = false := by
  refine ⟨⟨by rw [eqlit]; exact decide_eq_false h0, by rw [eqlit]; exact decide_eq_false h1, by rw [eqlit]; exact decide_eq_false h2, by rw [eqlit]; exact decide_eq_false h3, by rw [eqlit]; exact decide_eq_false h4, by rw [eqlit]; exact decide_eq_false h5, by rw [eqlit]; exact decide_eq_false h6, by rw [eqlit]; exact decide_eq_false h7, by rw [eqlit]; exact decide_eq_false h8, by rw [eqlit]; exact decide_eq_false h9, by rw [eqlit]; exact decide_eq_false h10⟩, ?_, ?_, ?_⟩
  · unfold closesL; rw [if_neg h0, if_neg h1, if_neg h2, if_neg h3, if_neg h4, if_neg h5, if_neg h6, if_neg h7, if_neg h8, if_neg h9, if_neg h10]
  · unfold wallsL; rw [if_neg h0, if_neg h1, if_neg h2, if_neg h3, if_neg h4, if_neg h5, if_neg h6, if_neg h7, if_neg h8, if_neg h9, if_neg h10]
  · refine isIn_no fun h => ?_
    simp only [List.mem_cons, List.not_mem_nil, or_false] at h
    rcases h with h | h | h | h | h | h
    · exact h8 h
    · exact h6 h
    · exact h9 h
    · exact h7 h
    · exact h10 h
    · exact h5 h

end Go.Proofs.YteafldginkpgoaaGreat.Nm

namespace Go.Proofs.YteafldginkpgoaaGreat.Fo
set_option linter.unusedSimpArgs false
set_option linter.unusedVariables false
open Go.RowKit Ba Fm
/-- Less, byte by byte. -/
def lt (a b : ByteArray) : Bool := Op.bytesLess a.toList b.toList

theorem below_dN {N : Nat} {a w : World} (h : Below N a w) (n : Nat) : Below N a (w.drewN n) := ⟨h.os, h.tape, h.output, h.size, h.block⟩

def lenOf : Value → Nat | .slice _ n _ => n | _ => 0

/-- v reads as l, below block N. -/
def Sv (w : World) (N : Nat) (v : Value) (l : List ByteArray) : Prop := ∃ A c, v = .slice A l.length c ∧ l.length ≤ c ∧ (A = none → c = 0) ∧ Rd w N A l
theorem sv_own {N : Nat} {w : World} {v : Value} {l : List ByteArray} (h : Sown N w v l) : Sv w w.heap.size v l := by
  rcases h.2 with ⟨hv, hl⟩ | ⟨g, cap, cur, hv, hg, hh, hn, hm, hs, ht⟩
  · have : l = [] := List.eq_nil_of_length_eq_zero hl
    subst this
    exact ⟨none, 0, hv, Nat.le_refl _, fun _ => rfl, Rd.nil _ _ _⟩
  · obtain ⟨A, c, hv', h1, _, h3⟩ := h.form
    refine ⟨A, c, hv', h1, fun e => ?_, h3⟩
    rw [hv] at hv'
    injection hv' with e1
    rw [e] at e1
    cases e1
theorem Sv.below {w w' : World} {N M : Nat} {v : Value} {l : List ByteArray} (h : Sv w N v l) (hb : Below M w w') (hN : N ≤ M) : Sv w' N v l := by
  obtain ⟨A, c, h1, h2, h3, h4⟩ := h
  exact ⟨A, c, h1, h2, h3, h4.below hb hN⟩
theorem Sv.more {w : World} {N M : Nat} {v : Value} {l : List ByteArray} (h : Sv w N v l) (hN : N ≤ M) : Sv w M v l := by
  obtain ⟨A, c, h1, h2, h3, h4⟩ := h
  exact ⟨A, c, h1, h2, h3, h4.more hN⟩

theorem sv_lit (w : World) (l : List ByteArray) : Sv (w.alloc (.cells (l.map sc).toArray 9)) (w.alloc (.cells (l.map sc).toArray 9)).heap.size (.slice (some ⟨w.heap.size, 0, none⟩) l.length l.length) l := by
  refine ⟨_, l.length, rfl, Nat.le_refl _, (fun e => by cases e), fun _ => ⟨w.heap.size, 0, rfl, by simp, fun j hj => ?_⟩⟩
  rw [Nat.zero_add, World.cell?_alloc_at _ _ _ _ rfl]
  simp [sc, hj]
theorem Sv.rd {w : World} {N n c : Nat} {A : Option Addr} {l : List ByteArray} (h : Sv w N (.slice A n c) l) : Rd w N A l := by
  obtain ⟨A', c', e, _, _, hr⟩ := h
  injection e with e
  rw [e]
  exact hr
theorem below_one (w : World) (o : Obj) : Below w.heap.size w (w.alloc o) := (Below.refl _ _).alloc (Nat.le_refl _) _

end Go.Proofs.YteafldginkpgoaaGreat.Fo

namespace Go.Proofs.YteafldginkpgoaaGreat.Nm
set_option linter.unusedSimpArgs false
set_option linter.unusedVariables false
open Go.RowKit Ba Fm Fo
theorem of_all {α : Type} {l : List α} {p : α → Bool} (h : l.all p = true) {x : α} (hx : x ∈ l) : p x = true := List.all_eq_true.1 h x hx
theorem void_all : (voidL.all fun x => !isIn x rawL && !isIn x softL && !isIn x goneL && rightB x) = true := by kernel_rfl
theorem raw_all : (rawL.all fun x => !isIn x voidL && !isIn x softL && !isIn x goneL && rightB x) = true := by kernel_rfl
theorem soft_all : (softL.all fun x => !isIn x voidL && !isIn x rawL && !isIn x goneL && rightB x) = true := by kernel_rfl
theorem gone_all : (goneL.all fun x => !isIn x voidL && !isIn x rawL && !isIn x softL && rightB x) = true := by kernel_rfl
theorem not_of {b : Bool} (h : (!b) = true) : b = false := by cases b <;> simp_all
/-- A name is one of the four at most; then it is right. -/
theorem kinds (s : ByteArray) : (isIn s voidL = false ∧ isIn s rawL = false ∧ isIn s softL = false ∧ isIn s goneL = false) ∨
    (rightB s = true ∧ ((isIn s voidL = true ∧ isIn s rawL = false ∧ isIn s softL = false ∧ isIn s goneL = false) ∨ (isIn s voidL = false ∧ isIn s rawL = true ∧ isIn s softL = false ∧ isIn s goneL = false) ∨
      (isIn s voidL = false ∧ isIn s rawL = false ∧ isIn s softL = true ∧ isIn s goneL = false) ∨ (isIn s voidL = false ∧ isIn s rawL = false ∧ isIn s softL = false ∧ isIn s goneL = true))) := by
  cases h1 : isIn s voidL with
  | true =>
    have := of_all void_all (isIn_of h1)
    simp only [Bool.and_eq_true] at this
    obtain ⟨⟨⟨a, b⟩, c⟩, d⟩ := this
    exact .inr ⟨d, .inl ⟨rfl, not_of a, not_of b, not_of c⟩⟩
  | false =>
  cases h2 : isIn s rawL with
  | true =>
    have := of_all raw_all (isIn_of h2)
    simp only [Bool.and_eq_true] at this
    obtain ⟨⟨⟨a, b⟩, c⟩, d⟩ := this
    exact .inr ⟨d, .inr (.inl ⟨rfl, rfl, not_of b, not_of c⟩)⟩
  | false =>
  cases h3 : isIn s softL with
  | true =>
    have := of_all soft_all (isIn_of h3)
    simp only [Bool.and_eq_true] at this
    obtain ⟨⟨⟨a, b⟩, c⟩, d⟩ := this
    exact .inr ⟨d, .inr (.inr (.inl ⟨rfl, rfl, rfl, not_of c⟩))⟩
  | false =>
  cases h4 : isIn s goneL with
  | true =>
    have := of_all gone_all (isIn_of h4)
    simp only [Bool.and_eq_true] at this
    exact .inr ⟨this.2, .inr (.inr (.inr ⟨rfl, rfl, rfl, rfl⟩))⟩
  | false => exact .inl ⟨rfl, rfl, rfl, rfl⟩
theorem el_of_right {s : ByteArray} (h : rightB s = true) : ∀ c ∈ L s, elB c = true := by
  unfold rightB at h
  intro c hc
  cases hl : L s with
  | nil => rw [hl] at hc; simp at hc
  | cons d r =>
    rw [hl] at h hc
    have h2 : (small d && (d :: r).all elB) = true := h
    rw [Bool.and_eq_true] at h2
    exact of_all h2.2 hc
theorem at_of_attr {s : ByteArray} (h : attrB s = true) : ∀ c ∈ L s, atB c = true := by
  unfold attrB at h
  intro c hc
  cases hl : L s with
  | nil => rw [hl] at hc; simp at hc
  | cons d r =>
    rw [hl] at h hc
    exact of_all (show (d :: r).all atB = true from h) hc
theorem el_of_at {c : UInt8} (h : atB c = true) : elB c = true := by
  unfold atB at h
  rw [Bool.and_eq_true] at h
  exact h.1
theorem right_append {a b : ByteArray} (ha : rightB a = true) (hb : attrB b = true) : rightB (a ++ b) = true := by
  have h1 := el_of_right ha
  have h2 := at_of_attr hb
  unfold rightB at ha ⊢
  rw [L_append]
  cases hl : L a with
  | nil => rw [hl] at ha; cases ha
  | cons d r =>
    rw [hl] at ha
    have h3 : (small d && (d :: r).all elB) = true := ha
    rw [Bool.and_eq_true] at h3
    show (small d && (d :: (r ++ L b)).all elB) = true
    rw [h3.1, ← List.cons_append, ← hl, Bool.true_and]
    exact List.all_eq_true.2 fun x hx => by
      rcases List.mem_append.1 hx with h | h
      · exact h1 x h
      · exact el_of_at (h2 x h)
end Go.Proofs.YteafldginkpgoaaGreat.Nm

namespace Go.Proofs.YteafldginkpgoaaGreat.Bm
set_option linter.unusedVariables false
set_option linter.unusedSimpArgs false
open Ba Fm Nm
/-- What is left when the last of some names goes, and all behind it; none: a wall, or the end, comes first. -/
def findS (ns ws : List ByteArray) : List ByteArray → Option (List ByteArray)
  | [] => none
  | x :: r => if isIn x ns = true then some r else if isIn x ws = true then none else findS ns ws r
theorem findS_hit {ns ws : List ByteArray} {x : ByteArray} (r : List ByteArray) (h : isIn x ns = true) : findS ns ws (x :: r) = some r := by unfold findS; rw [if_pos h]
theorem findS_wall {ns ws : List ByteArray} {x : ByteArray} (r : List ByteArray) (h : isIn x ns = false) (h' : isIn x ws = true) : findS ns ws (x :: r) = none := by unfold findS; rw [if_neg (by rw [h]; simp), if_pos h']
theorem findS_past {ns ws : List ByteArray} {x : ByteArray} (r : List ByteArray) (h : isIn x ns = false) (h' : isIn x ws = false) : findS ns ws (x :: r) = findS ns ws r := by
  show (if isIn x ns = true then some r else if isIn x ws = true then none else findS ns ws r) = _
  rw [if_neg (by rw [h]; simp), if_neg (by rw [h']; simp)]
theorem findS_some {ns ws : List ByteArray} : ∀ {s r : List ByteArray}, findS ns ws s = some r → ∃ u x, s = u ++ x :: r ∧ isIn x ns = true ∧ ∀ y ∈ u, isIn y ns = false ∧ isIn y ws = false
  | [], _, h => by cases h
  | x :: s, r, h => by
    cases h1 : isIn x ns with
    | true =>
      rw [findS_hit s h1] at h
      injection h with h
      exact ⟨[], x, by rw [h]; rfl, h1, fun y hy => by cases hy⟩
    | false =>
      cases h2 : isIn x ws with
      | true => rw [findS_wall s h1 h2] at h; cases h
      | false =>
        rw [findS_past s h1 h2] at h
        obtain ⟨u, z, e, hz, hu⟩ := findS_some h
        refine ⟨x :: u, z, by rw [e]; rfl, hz, fun y hy => ?_⟩
        rcases List.mem_cons.1 hy with e | e
        · rw [e]; exact ⟨h1, h2⟩
        · exact hu y e
theorem findS_len {ns ws s r : List ByteArray} (h : findS ns ws s = some r) : r.length < s.length := by
  obtain ⟨u, x, e, _, _⟩ := findS_some h
  rw [e, List.length_append, List.length_cons]
  omega
theorem findS_suffix {ns ws s r : List ByteArray} (h : findS ns ws s = some r) : r <:+ s := by
  obtain ⟨u, x, e, _, _⟩ := findS_some h
  exact ⟨u ++ [x], by rw [e, List.append_assoc]; rfl⟩
/-- The open elements when some names are closed up to walls. -/
def closedS (ns ws s : List ByteArray) : List ByteArray :=
  match h : findS ns ws s with
  | none => s
  | some r => closedS ns ws r
  termination_by s.length
  decreasing_by exact findS_len h
theorem closedS_no {ns ws s : List ByteArray} (h : findS ns ws s = none) : closedS ns ws s = s := by
  rw [closedS]
  split
  · rfl
  · rename_i r hr; rw [h] at hr; cases hr
theorem closedS_yes {ns ws s r : List ByteArray} (h : findS ns ws s = some r) : closedS ns ws s = closedS ns ws r := by
  rw [closedS]
  split
  · rename_i hr; rw [h] at hr; cases hr
  · rename_i r' hr; rw [h] at hr; injection hr with hr; rw [hr]
theorem closedS_end (ns ws s : List ByteArray) : findS ns ws (closedS ns ws s) = none ∧ closedS ns ws s <:+ s := by
  induction hn : s.length using Nat.strongRecOn generalizing s with
  | ind n ih =>
    subst hn
    cases h : findS ns ws s with
    | none => rw [closedS_no h]; exact ⟨h, List.suffix_refl _⟩
    | some r =>
      rw [closedS_yes h]
      obtain ⟨h1, h2⟩ := ih _ (findS_len h) r rfl
      exact ⟨h1, h2.trans (findS_suffix h)⟩
theorem closedS_same {ns ws s : List ByteArray} (h : closedS ns ws s = s) : findS ns ws s = none := by
  rw [← h]; exact (closedS_end ns ws s).1

/-- Does an element close a paragraph besides? -/
def para (n : ByteArray) : Bool := decide (n = n_li) || decide (n = n_dd) || decide (n = n_dt)
/-- The open elements when a tag of a name begins. -/
def openedS (n : ByteArray) (s : List ByteArray) : List ByteArray :=
  if para n = true then closedS [n_p] (wallsL n_p) (closedS (closesL n) (wallsL n) s) else closedS (closesL n) (wallsL n) s
theorem openedS_suffix (n : ByteArray) (s : List ByteArray) : openedS n s <:+ s := by
  unfold openedS
  split
  · exact (closedS_end _ _ _).2.trans (closedS_end _ _ _).2
  · exact (closedS_end _ _ _).2
/-- A tag of a name closes nothing of them. -/
def quiet (n : ByteArray) (s : List ByteArray) : Prop := findS (closesL n) (wallsL n) s = none ∧ (para n = true → findS [n_p] (wallsL n_p) s = none)
theorem quiet_same {n : ByteArray} {s : List ByteArray} (h : quiet n s) : openedS n s = s := by
  unfold openedS
  rw [closedS_no h.1]
  split
  · rename_i hp; exact closedS_no (h.2 hp)
  · rfl
theorem same_quiet {n : ByteArray} {s : List ByteArray} (h : openedS n s = s) : quiet n s := by
  have hs := (closedS_end (closesL n) (wallsL n) s).2
  unfold openedS at h
  by_cases hp : para n = true
  · rw [if_pos hp] at h
    have h2 := (closedS_end [n_p] (wallsL n_p) (closedS (closesL n) (wallsL n) s)).2
    rw [h] at h2
    have e : closedS (closesL n) (wallsL n) s = s := by
      have l1 := hs.length_le
      have l2 := h2.length_le
      exact hs.eq_of_length (by omega)
    rw [e] at h
    exact ⟨closedS_same e, fun _ => closedS_same h⟩
  · rw [if_neg hp] at h
    exact ⟨closedS_same h, fun hp' => absurd hp' hp⟩
theorem quiet_len (n : ByteArray) (s : List ByteArray) : (openedS n s).length = s.length ↔ quiet n s :=
  ⟨fun h => same_quiet ((openedS_suffix n s).eq_of_length h), fun h => by rw [quiet_same h]⟩
/-- Each open element may stand within those around it. -/
def chain : List ByteArray → Prop
  | [] => True
  | n :: r => quiet n r ∧ chain r
theorem chain_suffix : ∀ {s r : List ByteArray}, r <:+ s → chain s → chain r
  | s, r, ⟨[], e⟩, h => by rw [← e] at h; exact h
  | [], r, ⟨x :: u, e⟩, h => by cases e
  | y :: s, r, ⟨x :: u, e⟩, h => by
    injection e with _ e
    exact chain_suffix ⟨u, e⟩ h.2
/-- What ends the search for the elements that close a paragraph besides ends that for paragraphs, or closes them. -/
theorem para_walls {n : ByteArray} (h : para n = true) : (∀ x ∈ wallsL n, isIn x (wallsL n_p) = true ∨ (closesL x = [n_p] ∧ wallsL x = wallsL n_p)) ∧ isIn n_p (closesL n) = false ∧ isIn n_p (wallsL n) = false := by
  unfold para at h
  rw [Bool.or_eq_true, Bool.or_eq_true, decide_eq_true_iff, decide_eq_true_iff, decide_eq_true_iff] at h
  rcases h with (rfl | rfl) | rfl <;> refine ⟨?_, by decide, by decide⟩ <;> decide
theorem para_step {n : ByteArray} (hp : para n = true) : ∀ {s r : List ByteArray}, chain s → findS (closesL n) (wallsL n) s = none → findS [n_p] (wallsL n_p) s = some r → findS (closesL n) (wallsL n) r = none
  | [], r, _, _, h => by cases h
  | x :: s, r, hc, hn, h => by
    obtain ⟨hw, hp1, hp2⟩ := para_walls hp
    by_cases hx : x = n_p
    · subst hx
      rw [findS_hit s (by decide)] at h
      injection h with h
      rw [findS_past s hp1 hp2] at hn
      rw [← h]; exact hn
    · have hx1 : isIn x [n_p] = false := isIn_no fun e => hx (List.mem_singleton.1 e)
      cases hx2 : isIn x (wallsL n_p) with
      | true => rw [findS_wall s hx1 hx2] at h; cases h
      | false =>
        rw [findS_past s hx1 hx2] at h
        cases h3 : isIn x (closesL n) with
        | true => rw [findS_hit s h3] at hn; cases hn
        | false =>
          cases h4 : isIn x (wallsL n) with
          | true =>
            rcases hw x (isIn_of h4) with e | ⟨e1, e2⟩
            · rw [e] at hx2; cases hx2
            · have := hc.1.1
              rw [e1, e2, h] at this
              cases this
          | false =>
            rw [findS_past s h3 h4] at hn
            exact para_step hp hc.2 hn h
theorem para_closed {n : ByteArray} (hp : para n = true) (s : List ByteArray) : chain s → findS (closesL n) (wallsL n) s = none → findS (closesL n) (wallsL n) (closedS [n_p] (wallsL n_p) s) = none := by
  induction hn : s.length using Nat.strongRecOn generalizing s with
  | ind k ih =>
    subst hn
    intro hc h
    cases hf : findS [n_p] (wallsL n_p) s with
    | none => rw [closedS_no hf]; exact h
    | some r =>
      rw [closedS_yes hf]
      exact ih _ (findS_len hf) r rfl (chain_suffix (findS_suffix hf) hc) (para_step hp hc h hf)
/-- Behind what it closed a tag closes nothing more. -/
theorem opened_quiet {n : ByteArray} {s : List ByteArray} (hc : chain s) : quiet n (openedS n s) := by
  unfold openedS
  have h1 := closedS_end (closesL n) (wallsL n) s
  split
  · rename_i hp
    exact ⟨para_closed hp _ (chain_suffix h1.2 hc) h1.1, fun _ => (closedS_end _ _ _).1⟩
  · rename_i hp
    exact ⟨h1.1, fun h => absurd h hp⟩
end Go.Proofs.YteafldginkpgoaaGreat.Bm

namespace Go.Proofs.YteafldginkpgoaaGreat.Tm
set_option linter.unusedVariables false
set_option linter.unusedSimpArgs false
open Ba Fm Rm Nm
open Ro (At)
/-- What stands ahead of the first place at which p holds of the rest, and that rest. -/
def lead (p : List UInt8 → Bool) : List UInt8 → List UInt8
  | [] => []
  | c :: r => if p (c :: r) = true then [] else c :: lead p r
def trail (p : List UInt8 → Bool) : List UInt8 → List UInt8
  | [] => []
  | c :: r => if p (c :: r) = true then c :: r else trail p r
theorem lead_trail (p : List UInt8 → Bool) : ∀ l, lead p l ++ trail p l = l
  | [] => rfl
  | c :: r => by
    unfold lead trail
    split
    · rfl
    · rw [List.cons_append, lead_trail p r]
theorem lead_yes {p : List UInt8 → Bool} {c : UInt8} {r : List UInt8} (h : p (c :: r) = true) : lead p (c :: r) = [] := by unfold lead; rw [if_pos h]
theorem trail_yes {p : List UInt8 → Bool} {c : UInt8} {r : List UInt8} (h : p (c :: r) = true) : trail p (c :: r) = c :: r := by unfold trail; rw [if_pos h]
theorem lead_no {p : List UInt8 → Bool} {c : UInt8} {r : List UInt8} (h : p (c :: r) = false) : lead p (c :: r) = c :: lead p r := by
  show (if p (c :: r) = true then _ else _) = _
  rw [if_neg (by simp [h])]
theorem trail_no {p : List UInt8 → Bool} {c : UInt8} {r : List UInt8} (h : p (c :: r) = false) : trail p (c :: r) = trail p r := by
  show (if p (c :: r) = true then _ else _) = _
  rw [if_neg (by simp [h])]
theorem len_trail (p : List UInt8 → Bool) (l : List UInt8) : (trail p l).length ≤ l.length := by
  have := congrArg List.length (lead_trail p l)
  rw [List.length_append] at this
  omega
/-- One byte's property, of what begins with it. -/
def by1 (q : UInt8 → Bool) : List UInt8 → Bool
  | [] => false
  | c :: _ => q c
/-- What ends a value without quotes, a tag's name, an attribute's name. -/
def ev (c : UInt8) : Bool := c == 62 || sp c
def en (c : UInt8) : Bool := c == 47 || ev c
def ea (c : UInt8) : Bool := c == 61 || en c
def gt (c : UInt8) : Bool := c == 62
def is (q : UInt8) (c : UInt8) : Bool := c == q
abbrev upTo (q : UInt8 → Bool) (l : List UInt8) : List UInt8 := lead (by1 q) l
abbrev from_ (q : UInt8 → Bool) (l : List UInt8) : List UInt8 := trail (by1 q) l

/-- A value as it stands, and what stands trail it. -/
def quo (q : UInt8) (r : List UInt8) : List UInt8 × List UInt8 := (upTo (is q) r, (from_ (is q) r).drop 1)
def value (l : List UInt8) : List UInt8 × List UInt8 :=
  if l.head? = some 34 then quo 34 (l.drop 1) else if l.head? = some 39 then quo 39 (l.drop 1) else (upTo ev l, from_ ev l)
/-- What an attribute has trail its name, spaces passed: its value, and the rest. -/
def valued (l : List UInt8) : List UInt8 × List UInt8 :=
  if l.head? = some 61 then (dec (value (trimS (l.drop 1))).1, (value (trimS (l.drop 1))).2) else ([], l)
/-- An attribute that begins with a byte, and the rest. -/
def attr (c : UInt8) (r : List UInt8) : At × List UInt8 :=
  (⟨B (lowL (c :: upTo ea r)), B (valued (trimS (from_ ea r))).1⟩, (valued (trimS (from_ ea r))).2)
def known (l : List At) (name : ByteArray) : Bool := l.any fun a => decide (a.name = name)
/-- An attribute is added, if none has its name. -/
def put (l : List At) (a : At) : List At := if known l a.name = true then l else l ++ [a]

theorem len_from (q : UInt8 → Bool) (l : List UInt8) : (from_ q l).length ≤ l.length := len_trail _ l
theorem len_quo (q : UInt8) (r : List UInt8) : (quo q r).2.length ≤ r.length := by
  have := len_from (is q) r
  unfold quo
  rw [List.length_drop]
  omega
theorem len_value (l : List UInt8) : (value l).2.length ≤ l.length := by
  unfold value
  have h1 := len_quo 34 (l.drop 1)
  have h2 := len_quo 39 (l.drop 1)
  have h3 := len_from ev l
  rw [List.length_drop] at h1 h2
  split
  · omega
  · split
    · omega
    · exact h3
theorem len_valued (l : List UInt8) : (valued l).2.length ≤ l.length := by
  unfold valued
  have h1 := len_value (trimS (l.drop 1))
  have h2 := len_trimS (l.drop 1)
  rw [List.length_drop] at h2
  split
  · show (value _).2.length ≤ _
    omega
  · exact Nat.le_refl _
theorem len_attr (c : UInt8) (r : List UInt8) : (attr c r).2.length ≤ r.length := by
  have h1 := len_valued (trimS (from_ ea r))
  have h2 := len_trimS (from_ ea r)
  have h3 := len_from ea r
  show (valued _).2.length ≤ _
  omega

/-- A tag's attributes, from a place trail its name on: they, whether a slash is directly lead of its end, and what stands trail that; none: there is no end. -/
def attrs (self : Bool) (acc : List At) : List UInt8 → Option (List At × Bool × List UInt8)
  | [] => none
  | c :: r =>
    if c = 62 then some (acc, self, r)
    else if c = 47 ∨ sp c = true then attrs (c == 47) acc r
    else attrs false (put acc (attr c r).1) (attr c r).2
  termination_by l => l.length
  decreasing_by
    · simp
    · have := len_attr c r
      simp only [List.length_cons]
      omega
/-- A token. -/
structure Tk where
  kind : Int
  name : ByteArray
  data : ByteArray
  attrs : List At
  self : Bool
deriving DecidableEq

def tx (d : List UInt8) : Tk := ⟨0, B [], B d, [], false⟩
/-- A text, if there is any. -/
def txt (d : List UInt8) : List Tk := if d = [] then [] else [tx d]

/-- Does the rest begin with these bytes? -/
def pre (t l : List UInt8) : Bool := decide (l.take t.length = t)
/-- Does an end tag of a name begin here? -/
def isEnd (n : List UInt8) (l : List UInt8) : Bool := pre [60, 47] l && decide (lowL ((l.drop 2).take n.length) = lowL n) && by1 en (l.drop (2 + n.length))

/-- What `<!` begins. -/
def marked (r : List UInt8) : Nat := if pre [45, 45] r = true then 4 else if lowL (r.take 7) = [100, 111, 99, 116, 121, 112, 101] ∧ by1 lr (r.drop 7) = false then 5 else 6
def slashed : List UInt8 → Nat
  | [] => 0
  | d :: _ => if lr d = true then 2 else if d = 62 then 3 else 6
/-- What begins here: 0 nothing, 1 a start tag, 2 an end tag, 3 what is skipped, 4 a comment, 5 a doctype, 6 another comment. -/
def begun : List UInt8 → Nat
  | [] => 0
  | a :: l => if a = 60 then (match l with
    | [] => 0
    | c :: r => if lr c = true then 1 else if c = 47 then slashed r else if c = 33 then marked r else if c = 63 then 6 else 0) else 0
def bg (l : List UInt8) : Bool := decide (begun l ≠ 0)
/-- A comment's end. -/
def cend (l : List UInt8) : Bool := pre [45, 45, 62] l || pre [45, 45, 33, 62] l
/-- A comment's text, and the rest, by what stands trail its beginning. -/
def comm (l : List UInt8) : List UInt8 × List UInt8 :=
  if pre [62] l = true then ([], l.drop 1) else if pre [45, 62] l = true then ([], l.drop 2)
  else (lead cend l, (trail cend l).drop (if pre [45, 45, 62] (trail cend l) = true then 3 else 4))
/-- What goes up to the next > , and the rest. -/
def closed (l : List UInt8) : List UInt8 × List UInt8 := (upTo gt l, (from_ gt l).drop 1)
/-- What stands behind the mark of another comment. -/
def marks (l : List UInt8) : List UInt8 := if l.head? = some 33 then l.drop 1 else if l.head? = some 47 then l.drop 1 else l

def rawB (n : List UInt8) : Bool := isIn (B n) rawL
def softB (n : List UInt8) : Bool := isIn (B n) softL
/-- What an element of a name has lead, if it has text alone. -/
def cont (n : List UInt8) (l : List UInt8) : List Tk × List UInt8 :=
  if rawB n = true then (txt (lead (isEnd n) l), trail (isEnd n) l)
  else if softB n = true then (txt (dec (lead (isEnd n) l)), trail (isEnd n) l)
  else ([], l)
/-- A tag from its name on. -/
def startTag (l : List UInt8) : List Tk × List UInt8 := match attrs false [] (from_ en l) with
  | none => ([], [])
  | some (bs, self, r) => (⟨1, B (lowL (upTo en l)), B [], bs, self⟩ :: (cont (lowL (upTo en l)) r).1, (cont (lowL (upTo en l)) r).2)
def endTag (l : List UInt8) : List Tk × List UInt8 := match attrs false [] (from_ en l) with
  | none => ([], [])
  | some (bs, self, r) => ([⟨2, B (lowL (upTo en l)), B [], [], false⟩], r)
/-- What begins here, and the rest. -/
def mk (l : List UInt8) : List Tk × List UInt8 :=
  if begun l = 1 then startTag (l.drop 1)
  else if begun l = 2 then endTag (l.drop 2)
  else if begun l = 3 then ([], l.drop 3)
  else if begun l = 4 then ([⟨3, B [], B (comm (l.drop 4)).1, [], false⟩], (comm (l.drop 4)).2)
  else if begun l = 5 then ([⟨4, B [], B (trimL (closed (l.drop 9)).1), [], false⟩], (closed (l.drop 9)).2)
  else if begun l = 6 then ([⟨3, B [], B (closed (marks (l.drop 1))).1, [], false⟩], (closed (marks (l.drop 1))).2)
  else ([], l)
/-- The text lead of what begins, that, and the rest. -/
def turn (l : List UInt8) : List Tk × List UInt8 := (txt (dec (lead bg l)) ++ (mk (trail bg l)).1, (mk (trail bg l)).2)

/-- The tokens of a document. -/
def cut (l : List UInt8) : List Tk :=
  if _h : (turn l).2.length < l.length then (turn l).1 ++ cut (turn l).2 else (turn l).1
  termination_by l.length
end Go.Proofs.YteafldginkpgoaaGreat.Tm

namespace Go.Proofs.YteafldginkpgoaaGreat.Bm
set_option linter.unusedVariables false
set_option linter.unusedSimpArgs false
open Ba Fm Nm
open Ro (At Ro)
open Tm (Tk put)
/-- The open elements (the last one first), and the rows so far. -/
structure St where
  stk : List ByteArray
  out : List Ro
/-- Attributes, of one name the first one. -/
def once (l : List At) : List At := l.foldl put []
/-- A text behind rows, joined to one that stands right ahead of it. -/
def addText (out : List Ro) (d : Int) (t : ByteArray) : List Ro :=
  match out.getLast? with
  | some y => if y.kind = 1 ∧ y.depth = d then out.dropLast ++ [⟨y.depth, y.kind, y.name, y.data ++ t, y.attrs⟩] else out ++ [⟨d, 1, ⟨#[]⟩, t, []⟩]
  | none => out ++ [⟨d, 1, ⟨#[]⟩, t, []⟩]
/-- A tag of this name is nothing. -/
def noName (n : ByteArray) : Bool := decide (n = ⟨#[]⟩) || isIn n goneL
/-- What ends the search for the element that a tag ends. -/
def endWalls (n : ByteArray) : List ByteArray := if n = n_table ∨ isIn n tableL = true then wallsL n_tr else wallsL n_p
def stepB (st : St) (t : Tk) : St :=
  if t.kind = 0 then (if t.data = ⟨#[]⟩ then st else ⟨st.stk, addText st.out st.stk.length t.data⟩)
  else if t.kind = 3 then ⟨st.stk, st.out ++ [⟨st.stk.length, 2, ⟨#[]⟩, t.data, []⟩]⟩
  else if t.kind = 1 then (if noName t.name = true then st else ⟨if isIn t.name voidL = true then openedS t.name st.stk else t.name :: openedS t.name st.stk, st.out ++ [⟨(openedS t.name st.stk).length, 0, t.name, ⟨#[]⟩, once t.attrs⟩]⟩)
  else if t.kind = 2 then (if noName t.name = true ∨ isIn t.name voidL = true then st else
    match findS [t.name] (endWalls t.name) st.stk with
    | some r => ⟨r, st.out⟩
    | none => if t.name = n_p then ⟨st.stk, st.out ++ [⟨st.stk.length, 0, n_p, ⟨#[]⟩, []⟩]⟩ else st)
  else st
def tooBig (out : List Ro) : Bool := decide (4096 < out.length) || (match out.getLast? with | some y => decide (60 ≤ y.depth) | none => false)
def treeB (st : St) : List Tk → Option (List Ro)
  | [] => some st.out
  | t :: r => if tooBig (stepB st t).out = true then none else treeB (stepB st t) r

/-- The elements around what comes behind a row, the first one first. -/
def pathStep (p : List ByteArray) (x : Ro) : List ByteArray := p.take x.depth.toNat ++ (if x.kind = 0 then [x.name] else [])
def pathFrom (p : List ByteArray) (l : List Ro) : List ByteArray := l.foldl pathStep p
theorem pathFrom_snoc (p : List ByteArray) (l : List Ro) (x : Ro) : pathFrom p (l ++ [x]) = pathStep (pathFrom p l) x := by unfold pathFrom; rw [List.foldl_append]; rfl
/-- A row may stand behind these elements. -/
def fits (p : List ByteArray) (x : Ro) : Prop :=
  0 ≤ x.depth ∧ x.depth ≤ p.length ∧ Ro.okRow x = true ∧ (∀ n, 0 < x.depth → p[x.depth.toNat - 1]? = some n → isIn n voidL = false) ∧
    (x.kind = 0 → quiet x.name (p.take x.depth.toNat).reverse ∧ isIn x.name goneL = false)
def goodFrom (p : List ByteArray) : List Ro → Prop
  | [] => True
  | x :: r => fits p x ∧ goodFrom (pathStep p x) r
theorem goodFrom_snoc : ∀ {p : List ByteArray} {l : List Ro} {x : Ro}, goodFrom p l → fits (pathFrom p l) x → goodFrom p (l ++ [x])
  | p, [], x, _, h => ⟨h, trivial⟩
  | p, y :: l, x, h, hx => ⟨h.1, goodFrom_snoc h.2 hx⟩
theorem goodFrom_init : ∀ {p : List ByteArray} {l : List Ro} {x : Ro}, goodFrom p (l ++ [x]) → goodFrom p l ∧ fits (pathFrom p l) x
  | p, [], x, h => ⟨trivial, h.1⟩
  | p, y :: l, x, h => by
    obtain ⟨h1, h2⟩ := goodFrom_init h.2
    exact ⟨⟨h.1, h1⟩, h2⟩
/-- No text is empty, no two with one parent stand side by side. -/
def calm : List Ro → Prop
  | [] => True
  | x :: r => (x.kind = 1 → x.data ≠ ⟨#[]⟩) ∧ (∀ y, r.head? = some y → ¬ (x.kind = 1 ∧ y.kind = 1 ∧ y.depth = x.depth)) ∧ calm r
theorem calm_snoc : ∀ {l : List Ro} {x : Ro}, calm l → (x.kind = 1 → x.data ≠ ⟨#[]⟩) → (∀ y, l.getLast? = some y → ¬ (y.kind = 1 ∧ x.kind = 1 ∧ x.depth = y.depth)) → calm (l ++ [x])
  | [], x, _, h1, _ => ⟨h1, (fun y h => by cases h), trivial⟩
  | [z], x, h, h1, h2 => ⟨h.1, (fun y hy => by injection hy with hy; rw [← hy]; exact h2 z rfl), h1, (fun y h => by cases h), trivial⟩
  | z :: y :: l, x, h, h1, h2 => ⟨h.1, (fun u hu => h.2.1 u hu), calm_snoc (l := y :: l) h.2.2 h1 (fun u hu => h2 u (by rw [List.getLast?_cons_cons]; exact hu))⟩
theorem calm_init : ∀ {l : List Ro} {x : Ro}, calm (l ++ [x]) → calm l ∧ (x.kind = 1 → x.data ≠ ⟨#[]⟩) ∧ (∀ y, l.getLast? = some y → ¬ (y.kind = 1 ∧ x.kind = 1 ∧ x.depth = y.depth))
  | [], x, h => ⟨trivial, h.1, fun y h => by cases h⟩
  | [z], x, h => ⟨⟨h.1, (fun y h => by cases h), trivial⟩, h.2.2.1, fun y hy => by injection hy with hy; rw [← hy]; exact h.2.1 x rfl⟩
  | z :: y :: l, x, h => by
    obtain ⟨h1, h2, h3⟩ := calm_init (l := y :: l) h.2.2
    exact ⟨⟨h.1, (fun u hu => h.2.1 u hu), h1⟩, h2, fun u hu => h3 u (by rw [List.getLast?_cons_cons] at hu; exact hu)⟩

/-- What is true behind each token. -/
structure Inv (st : St) : Prop where
  ch : chain st.stk
  nv : ∀ n ∈ st.stk, isIn n voidL = false
  le : st.stk.length ≤ (pathFrom [] st.out).length
  eq : (pathFrom [] st.out).take st.stk.length = st.stk.reverse
  good : goodFrom [] st.out
  calm : calm st.out
theorem twice_snoc (a : At) : ∀ {l : List At}, Ro.twice l = false → Tm.known l a.name = false → Ro.twice (l ++ [a]) = false := by
  intro l
  induction l with
  | nil => intro _ _; rfl
  | cons b r ih =>
    intro h hk
    unfold Tm.known at hk
    rw [List.any_cons, Bool.or_eq_false_iff] at hk
    have h : (r.any (fun c => decide (c.name = b.name)) || Ro.twice r) = false := h
    rw [Bool.or_eq_false_iff] at h
    show ((r ++ [a]).any (fun c => decide (c.name = b.name)) || Ro.twice (r ++ [a])) = false
    rw [ih h.2 hk.2, List.any_append, h.1]
    have e : (decide (a.name = b.name)) = false := decide_eq_false fun e => (of_decide_eq_false hk.1) e.symm
    simp only [List.any_cons, List.any_nil, e]
    rfl
theorem twice_put {l : List At} {a : At} (h : Ro.twice l = false) : Ro.twice (put l a) = false := by
  unfold put
  split
  · exact h
  · rename_i hk
    exact twice_snoc a h (by simpa using hk)
theorem twice_once (l : List At) : Ro.twice (once l) = false := by
  unfold once
  have : ∀ (l acc : List At), Ro.twice acc = false → Ro.twice (l.foldl put acc) = false := fun l => by
    induction l with
    | nil => intro acc h; exact h
    | cons a r ih => intro acc h; exact ih _ (twice_put h)
  exact this l [] rfl

/-- A stack that is an end of another one, held against the elements around. -/
theorem take_suffix {p s r : List ByteArray} (h : p.take s.length = s.reverse) (hr : r <:+ s) : p.take r.length = r.reverse := by
  obtain ⟨u, rfl⟩ := hr
  have h2 := congrArg (List.take r.length) h
  rw [List.take_take, List.length_append, List.reverse_append, show min r.length (u.length + r.length) = r.length from by omega, List.take_append_of_le_length (by rw [List.length_reverse]; exact Nat.le_refl _)] at h2
  rwa [List.take_of_length_le (show r.reverse.length ≤ r.length by simp)] at h2
theorem last_nv {p s : List ByteArray} (h : p.take s.length = s.reverse) (hv : ∀ n ∈ s, isIn n voidL = false) (n : ByteArray) (h0 : 0 < s.length) (hn : p[s.length - 1]? = some n) : isIn n voidL = false := by
  have h1 : (p.take s.length)[s.length - 1]? = some n := by rw [List.getElem?_take, if_pos (by omega)]; exact hn
  rw [h] at h1
  exact hv n (List.mem_reverse.1 (List.mem_of_getElem? h1))

/-- A row that stands within the open elements of an end of the stack. -/
theorem Inv.row {st : St} (h : Inv st) {r : List ByteArray} (hr : r <:+ st.stk) (x : Ro) (hd : x.depth = (r.length : Int)) (hok : Ro.okRow x = true)
    (hq : x.kind = 0 → quiet x.name r ∧ isIn x.name goneL = false) : fits (pathFrom [] st.out) x ∧ (pathFrom [] (st.out ++ [x])) = r.reverse ++ (if x.kind = 0 then [x.name] else []) := by
  have ht := take_suffix h.eq hr
  have hl := hr.length_le
  have hle := h.le
  have hdn : x.depth.toNat = r.length := by rw [hd]; simp
  refine ⟨⟨by omega, by omega, hok, fun n h0 hn => ?_, fun hk => ?_⟩, ?_⟩
  · rw [hdn] at hn
    exact last_nv ht (fun m hm => h.nv m (hr.subset hm)) n (by omega) hn
  · rw [hdn, ht, List.reverse_reverse]
    exact hq hk
  · rw [pathFrom_snoc]
    unfold pathStep
    rw [hdn, ht]

theorem text_fits {p : List ByteArray} {y : Ro} {t : ByteArray} (h : fits p y) (hk : y.kind = 1) : fits p ⟨y.depth, y.kind, y.name, y.data ++ t, y.attrs⟩ := by
  obtain ⟨h1, h2, h3, h4, h5⟩ := h
  refine ⟨h1, h2, ?_, h4, h5⟩
  unfold Ro.okRow at h3 ⊢
  have e : (y.kind == 0) = false := by rw [hk]; rfl
  rw [e, if_neg (by simp)] at h3
  show (if (y.kind == 0) = true then _ else _) = true
  rw [e, if_neg (by simp)]
  exact h3

end Go.Proofs.YteafldginkpgoaaGreat.Bm

namespace Go.Proofs.YteafldginkpgoaaGreat.Bm
set_option linter.unusedVariables false
set_option linter.unusedSimpArgs false
open Ba Fm Nm
open Ro (At Ro)
open Tm (Tk put)
/-- A row is added within an end of the open elements. -/
theorem Inv.add {st : St} (h : Inv st) {r : List ByteArray} (hr : r <:+ st.stk) (x : Ro) (hd : x.depth = (r.length : Int)) (hok : Ro.okRow x = true)
    (hq : x.kind = 0 → quiet x.name r ∧ isIn x.name goneL = false) (ht : x.kind = 1 → x.data ≠ ⟨#[]⟩ ∧ ∀ y, st.out.getLast? = some y → ¬ (y.kind = 1 ∧ x.depth = y.depth)) : Inv ⟨r, st.out ++ [x]⟩ := by
  obtain ⟨h1, h2⟩ := h.row hr x hd hok hq
  refine ⟨chain_suffix hr h.ch, fun n hn => h.nv n (hr.subset hn), ?_, ?_, goodFrom_snoc h.good h1, calm_snoc h.calm (fun hk => (ht hk).1) (fun y hy e => (ht e.2.1).2 y hy ⟨e.1, e.2.2⟩)⟩
  · rw [h2, List.length_append, List.length_reverse]; exact Nat.le_add_right _ _
  · rw [h2, List.take_append_of_le_length (by rw [List.length_reverse]; exact Nat.le_refl _)]
    exact List.take_of_length_le (by rw [List.length_reverse]; exact Nat.le_refl _)
/-- An element is added, and is open from here on. -/
theorem Inv.push {st : St} (h : Inv st) {r : List ByteArray} (hr : r <:+ st.stk) (x : Ro) (hd : x.depth = (r.length : Int)) (hok : Ro.okRow x = true) (hk : x.kind = 0)
    (hq : quiet x.name r ∧ isIn x.name goneL = false) (hv : isIn x.name voidL = false) : Inv ⟨x.name :: r, st.out ++ [x]⟩ := by
  obtain ⟨h1, h2⟩ := h.row hr x hd hok (fun _ => hq)
  rw [if_pos hk] at h2
  refine ⟨⟨hq.1, chain_suffix hr h.ch⟩, ?_, ?_, ?_, goodFrom_snoc h.good h1, calm_snoc h.calm (fun e => ?_) (fun y hy e => ?_)⟩
  · intro n hn
    rcases List.mem_cons.1 hn with e | e
    · rw [e]; exact hv
    · exact h.nv n (hr.subset e)
  · rw [h2]; simp
  · rw [h2]
    show List.take (r.length + 1) _ = _
    rw [List.take_of_length_le (by rw [List.length_append, List.length_reverse]; exact Nat.le_refl _)]
    exact List.reverse_cons.symm
  · rw [hk] at e; cases e
  · rw [hk] at e; cases e.2.1
theorem Inv.drop {st : St} (h : Inv st) {r : List ByteArray} (hr : r <:+ st.stk) : Inv ⟨r, st.out⟩ :=
  ⟨chain_suffix hr h.ch, fun n hn => h.nv n (hr.subset hn), Nat.le_trans hr.length_le h.le, take_suffix h.eq hr, h.good, h.calm⟩
theorem last_snoc {l : List Ro} {y : Ro} (h : l.getLast? = some y) : l = l.dropLast ++ [y] := by
  have hl : l ≠ [] := fun e => by rw [e] at h; cases h
  rw [List.getLast?_eq_some_getLast hl] at h
  injection h with h
  rw [← h]
  exact (List.dropLast_concat_getLast hl).symm
theorem append_ne {a b : ByteArray} (h : b ≠ ⟨#[]⟩) : a ++ b ≠ ⟨#[]⟩ := by
  intro e
  have hs : (a ++ b).size = 0 := by rw [e]; rfl
  rw [ByteArray.size_append] at hs
  apply h
  have hb : b.size = 0 := by omega
  rcases b with ⟨⟨l⟩⟩
  cases l with
  | nil => rfl
  | cons c l => exact absurd hb (by show l.length + 1 ≠ 0; omega)
theorem empty_name {s : ByteArray} (h : s.toList.isEmpty = true) : s = ⟨#[]⟩ := by
  rw [List.isEmpty_iff, toList_L] at h
  rw [← B_L s, h]
  rfl
theorem nil_empty : (⟨#[]⟩ : ByteArray).toList.isEmpty = true := by kernel_rfl
theorem ok_text {d : Int} {t : ByteArray} : Ro.okRow ⟨d, 1, ⟨#[]⟩, t, []⟩ = true := by
  show (if ((1 : Int) == 0) = true then _ else ((1 : Int) == 1 || (1 : Int) == 2) && (⟨#[]⟩ : ByteArray).toList.isEmpty && ((0 : Nat) : Int) == 0) = true
  rw [if_neg (by decide), nil_empty]
  rfl
theorem ok_note {d : Int} {t : ByteArray} : Ro.okRow ⟨d, 2, ⟨#[]⟩, t, []⟩ = true := by
  show (if ((2 : Int) == 0) = true then _ else ((2 : Int) == 1 || (2 : Int) == 2) && (⟨#[]⟩ : ByteArray).toList.isEmpty && ((0 : Nat) : Int) == 0) = true
  rw [if_neg (by decide), nil_empty]
  rfl
theorem Inv.text {st : St} (h : Inv st) {t : ByteArray} (ht : t ≠ ⟨#[]⟩) : Inv ⟨st.stk, addText st.out st.stk.length t⟩ := by
  unfold addText
  cases hy : st.out.getLast? with
  | none => exact h.add (List.suffix_refl _) _ rfl ok_text (fun e => by cases e) (fun _ => ⟨ht, fun y e => by rw [hy] at e; cases e⟩)
  | some y =>
    show Inv ⟨st.stk, if y.kind = 1 ∧ y.depth = (st.stk.length : Int) then _ else _⟩
    by_cases hc : y.kind = 1 ∧ y.depth = (st.stk.length : Int)
    · rw [if_pos hc]
      have e := last_snoc hy
      have hg := h.good
      have hl := h.le
      have he := h.eq
      have hm := h.calm
      rw [e] at hg hl he hm
      obtain ⟨g1, g2⟩ := goodFrom_init hg
      obtain ⟨m1, m2, m3⟩ := calm_init hm
      have hp : pathFrom [] (st.out.dropLast ++ [⟨y.depth, y.kind, y.name, y.data ++ t, y.attrs⟩]) = pathFrom [] (st.out.dropLast ++ [y]) := by rw [pathFrom_snoc, pathFrom_snoc]; rfl
      exact ⟨h.ch, h.nv, by rw [hp]; exact hl, by rw [hp]; exact he, goodFrom_snoc g1 (text_fits g2 hc.1), calm_snoc m1 (fun _ => append_ne ht) m3⟩
    · rw [if_neg hc]
      exact h.add (List.suffix_refl _) _ rfl ok_text (fun e => by cases e) (fun _ => ⟨ht, fun z e hz => by rw [hy] at e; injection e with e; rw [← e] at hz; exact hc ⟨hz.1, hz.2.symm⟩⟩)
theorem ok_elem {d : Int} {n : ByteArray} {a : List At} (hn : n ≠ ⟨#[]⟩) (ha : Ro.twice a = false) : Ro.okRow ⟨d, 0, n, ⟨#[]⟩, a⟩ = true := by
  show (if ((0 : Int) == 0) = true then !n.toList.isEmpty && (⟨#[]⟩ : ByteArray).toList.isEmpty && !Ro.twice a else _) = true
  rw [if_pos (by decide), nil_empty, ha]
  have : n.toList.isEmpty = false := by
    cases he : n.toList.isEmpty with
    | false => rfl
    | true => exact absurd (empty_name he) hn
  rw [this]; rfl
theorem noName_no {n : ByteArray} (h : ¬ noName n = true) : n ≠ ⟨#[]⟩ ∧ isIn n goneL = false := by
  unfold noName at h
  rw [Bool.or_eq_true, decide_eq_true_iff] at h
  exact ⟨fun e => h (Or.inl e), by cases hg : isIn n goneL with | false => rfl | true => exact absurd (Or.inr hg) h⟩
theorem Inv.start {st : St} (h : Inv st) {t : Tk} (hn : ¬ noName t.name = true) :
    Inv ⟨if isIn t.name voidL = true then openedS t.name st.stk else t.name :: openedS t.name st.stk, st.out ++ [⟨(openedS t.name st.stk).length, 0, t.name, ⟨#[]⟩, once t.attrs⟩]⟩ := by
  obtain ⟨h1, h2⟩ := noName_no hn
  have hs := openedS_suffix t.name st.stk
  have hok := ok_elem (d := (openedS t.name st.stk).length) h1 (twice_once t.attrs)
  split
  · exact h.add hs _ rfl hok (fun _ => ⟨opened_quiet h.ch, h2⟩) (fun e => by cases e)
  · rename_i hv
    exact h.push hs ⟨(openedS t.name st.stk).length, 0, t.name, ⟨#[]⟩, once t.attrs⟩ rfl hok rfl ⟨opened_quiet h.ch, h2⟩ (by simpa using hv)
theorem p_facts : endWalls n_p = wallsL n_p ∧ closesL n_p = [n_p] ∧ para n_p = false ∧ isIn n_p goneL = false ∧ n_p ≠ ⟨#[]⟩ := by decide
theorem Inv.stop {st : St} (h : Inv st) {t : Tk} : Inv (match findS [t.name] (endWalls t.name) st.stk with
    | some r => ⟨r, st.out⟩
    | none => if t.name = n_p then ⟨st.stk, st.out ++ [⟨st.stk.length, 0, n_p, ⟨#[]⟩, []⟩]⟩ else st) := by
  cases hf : findS [t.name] (endWalls t.name) st.stk with
  | some r => exact h.drop (findS_suffix hf)
  | none =>
    show Inv (if t.name = n_p then _ else _)
    by_cases e : t.name = n_p
    · rw [if_pos e]
      obtain ⟨p1, p2, p3, p4, p5⟩ := p_facts
      rw [e, p1] at hf
      exact h.add (List.suffix_refl _) _ rfl (ok_elem p5 rfl) (fun _ => ⟨⟨by rw [p2]; exact hf, fun hp => by rw [p3] at hp; cases hp⟩, p4⟩) (fun e => by cases e)
    · rw [if_neg e]; exact h
theorem Inv.step {st : St} (h : Inv st) (t : Tk) : Inv (stepB st t) := by
  unfold stepB
  by_cases k0 : t.kind = 0
  · rw [if_pos k0]
    by_cases hd : t.data = ⟨#[]⟩
    · rw [if_pos hd]; exact h
    · rw [if_neg hd]; exact h.text hd
  rw [if_neg k0]
  by_cases k3 : t.kind = 3
  · rw [if_pos k3]
    exact h.add (List.suffix_refl _) _ rfl ok_note (fun e => by cases e) (fun e => by cases e)
  rw [if_neg k3]
  by_cases k1 : t.kind = 1
  · rw [if_pos k1]
    by_cases hn : noName t.name = true
    · rw [if_pos hn]; exact h
    · rw [if_neg hn]; exact h.start hn
  rw [if_neg k1]
  by_cases k2 : t.kind = 2
  · rw [if_pos k2]
    by_cases hn : noName t.name = true ∨ isIn t.name voidL = true
    · rw [if_pos hn]; exact h
    · rw [if_neg hn]; exact h.stop
  rw [if_neg k2]; exact h

/-- Rows that fit are right. -/
theorem path_len {p : List ByteArray} {x : Ro} (h0 : 0 ≤ x.depth) (h : x.depth ≤ p.length) : ((pathStep p x).length : Int) = if x.kind = 0 then x.depth + 1 else x.depth := by
  unfold pathStep
  rw [List.length_append, List.length_take]
  split <;> simp <;> omega
end Go.Proofs.YteafldginkpgoaaGreat.Bm

namespace Go.Proofs.YteafldginkpgoaaGreat.Ro
set_option linter.unusedVariables false
set_option linter.unusedSimpArgs false
open Ba
/-- The data of all texts, one after the other. -/
def txt : List Ro → List UInt8
  | [] => []
  | x :: r => (if x.kind = 1 then L x.data else []) ++ txt r
theorem txt_append (a b : List Ro) : txt (a ++ b) = txt a ++ txt b := by
  induction a with
  | nil => rfl
  | cons x r ih => rw [List.cons_append, txt, ih, txt, List.append_assoc]
theorem txt_one (x : Ro) : txt [x] = if x.kind = 1 then L x.data else [] := by rw [txt, txt, List.append_nil]
theorem txt_text {x : Ro} (h : x.kind = 1) : txt [x] = L x.data := by rw [txt_one, if_pos h]
theorem txt_other {x : Ro} (h : ¬ x.kind = 1) : txt [x] = [] := by rw [txt_one, if_neg h]
theorem txt_take (l : List Ro) (k : Nat) : (txt (l.take k)).length ≤ (txt l).length := by
  have h := txt_append (l.take k) (l.drop k)
  rw [List.take_append_drop] at h
  rw [h, List.length_append]
  omega
theorem txt_drop (l : List Ro) (k : Nat) : (txt (l.drop k)).length ≤ (txt l).length := by
  have h := txt_append (l.take k) (l.drop k)
  rw [List.take_append_drop] at h
  rw [h, List.length_append]
  omega
/-- How many texts at this depth come next. -/
def nexts (d : Int) (l : List Ro) : Nat := (l.takeWhile fun y => y.kind == 1 && y.depth == d).length
/-- The rows with each text joined to the one before it, and without empty ones. -/
def normal : List Ro → List Ro
  | [] => []
  | x :: r =>
    if x.kind = 1 then
      (if txt (x :: r.take (nexts x.depth r)) = [] then [] else [⟨x.depth, 1, .empty, B (txt (x :: r.take (nexts x.depth r))), []⟩]) ++ normal (r.drop (nexts x.depth r))
    else x :: normal r
termination_by l => l.length
decreasing_by all_goals (simp [List.length_drop]; try omega)

end Go.Proofs.YteafldginkpgoaaGreat.Ro

namespace Go.Proofs.YteafldginkpgoaaGreat.Bm
set_option linter.unusedVariables false
set_option linter.unusedSimpArgs false
open Ba Fm Nm
open Ro (At Ro)
open Tm (Tk put)
/-- No row is too deep, and they aren't too many. -/
def small (l : List Ro) : Prop := l.length ≤ 4096 ∧ ∀ y ∈ l, y.depth < 60
end Go.Proofs.YteafldginkpgoaaGreat.Bm

namespace Go.Proofs.YteafldginkpgoaaGreat.Bm
set_option linter.unusedVariables false
set_option linter.unusedSimpArgs false
open Ba Fm Nm
open Ro (At Ro)
open Tm (Tk put)
/-- The tokens, one after the other, without bounds. -/
def runB (st : St) (l : List Tk) : St := l.foldl stepB st
/-- How many tags begin. -/
def starts : List Tk → Nat
  | [] => 0
  | t :: l => (if t.kind = 1 then 1 else 0) + starts l
theorem add_mem {o : List Ro} {d : Int} {t : ByteArray} {P : Int → Prop} (h : ∀ y ∈ o, P y.depth) (hd : P d) : (∀ y ∈ addText o d t, P y.depth) ∧ (addText o d t).length ≤ o.length + 1 := by
  have key : ∀ x : Ro, P x.depth → (∀ y ∈ o ++ [x], P y.depth) ∧ (o ++ [x]).length ≤ o.length + 1 := fun x hx =>
    ⟨fun y hy => by
      rcases List.mem_append.1 hy with e | e
      · exact h y e
      · rw [List.mem_singleton.1 e]; exact hx, by rw [List.length_append]; exact Nat.le_refl _⟩
  unfold addText
  cases hy : o.getLast? with
  | none => exact key _ hd
  | some y =>
    show (∀ z ∈ (if y.kind = 1 ∧ y.depth = d then _ else _ : List Ro), P z.depth) ∧ (if y.kind = 1 ∧ y.depth = d then _ else _ : List Ro).length ≤ _
    by_cases hc : y.kind = 1 ∧ y.depth = d
    · rw [if_pos hc]
      have e := last_snoc hy
      refine ⟨fun z hz => ?_, ?_⟩
      · rcases List.mem_append.1 hz with hz | hz
        · exact h z (by rw [e]; exact List.mem_append_left _ hz)
        · rw [List.mem_singleton.1 hz]
          exact h y (by rw [e]; exact List.mem_append_right _ (List.mem_singleton.2 rfl))
      · have e2 := congrArg List.length e
        rw [List.length_append] at e2
        rw [List.length_append]
        show _ + 1 ≤ _
        have e3 : [y].length = 1 := rfl
        omega
    · rw [if_neg hc]; exact key _ hd
/-- What a token does at most. -/
theorem step_low {st : St} {t : Tk} {D : Int} (h : ∀ y ∈ st.out, y.depth ≤ D) (hs : (st.stk.length : Int) ≤ D) :
    (∀ y ∈ (stepB st t).out, y.depth ≤ D) ∧ (stepB st t).out.length ≤ st.out.length + 1 ∧ (stepB st t).stk.length ≤ st.stk.length + (if t.kind = 1 then 1 else 0) := by
  have key : ∀ x : Ro, x.depth ≤ D → (∀ y ∈ st.out ++ [x], y.depth ≤ D) ∧ (st.out ++ [x]).length ≤ st.out.length + 1 := fun x hx =>
    ⟨fun y hy => by
      rcases List.mem_append.1 hy with e | e
      · exact h y e
      · rw [List.mem_singleton.1 e]; exact hx, by rw [List.length_append]; exact Nat.le_refl _⟩
  have id : (∀ y ∈ st.out, y.depth ≤ D) ∧ st.out.length ≤ st.out.length + 1 ∧ st.stk.length ≤ st.stk.length + (if t.kind = 1 then 1 else 0) := ⟨h, Nat.le_succ _, Nat.le_add_right _ _⟩
  unfold stepB
  by_cases k0 : t.kind = 0
  · rw [if_pos k0]
    by_cases hd : t.data = ⟨#[]⟩
    · rw [if_pos hd]; exact id
    · rw [if_neg hd]
      obtain ⟨a1, a2⟩ := add_mem (t := t.data) (P := fun e => e ≤ D) h hs
      exact ⟨a1, a2, Nat.le_add_right _ _⟩
  rw [if_neg k0]
  by_cases k3 : t.kind = 3
  · rw [if_pos k3]
    exact ⟨(key _ hs).1, (key ⟨st.stk.length, 2, ⟨#[]⟩, t.data, []⟩ hs).2, Nat.le_add_right _ _⟩
  rw [if_neg k3]
  by_cases k1 : t.kind = 1
  · rw [if_pos k1]
    by_cases hn : noName t.name = true
    · rw [if_pos hn]; exact id
    · rw [if_neg hn]
      have hl := (openedS_suffix t.name st.stk).length_le
      have hk := key ⟨(openedS t.name st.stk).length, 0, t.name, ⟨#[]⟩, once t.attrs⟩ (by show ((openedS t.name st.stk).length : Int) ≤ D; omega)
      refine ⟨hk.1, hk.2, ?_⟩
      rw [if_pos k1]
      show (if isIn t.name voidL = true then _ else _ : List ByteArray).length ≤ _
      split
      · omega
      · rw [List.length_cons]; omega
  rw [if_neg k1]
  by_cases k2 : t.kind = 2
  · rw [if_pos k2]
    by_cases hn : noName t.name = true ∨ isIn t.name voidL = true
    · rw [if_pos hn]; exact id
    · rw [if_neg hn]
      cases hf : findS [t.name] (endWalls t.name) st.stk with
      | some r => exact ⟨h, Nat.le_succ _, Nat.le_trans (findS_suffix hf).length_le (Nat.le_add_right _ _)⟩
      | none =>
        show (∀ y ∈ (if t.name = n_p then _ else _ : St).out, y.depth ≤ D) ∧ (if t.name = n_p then _ else _ : St).out.length ≤ _ ∧ (if t.name = n_p then _ else _ : St).stk.length ≤ _
        by_cases e : t.name = n_p
        · rw [if_pos e]
          exact ⟨(key _ hs).1, (key ⟨st.stk.length, 0, n_p, ⟨#[]⟩, []⟩ hs).2, Nat.le_add_right _ _⟩
        · rw [if_neg e]; exact id
  rw [if_neg k2]; exact id
theorem not_big {o : List Ro} (hl : o.length ≤ 4096) (hd : ∀ y ∈ o, y.depth ≤ 59) : ¬ tooBig o = true := by
  unfold tooBig
  rw [Bool.or_eq_true, not_or, decide_eq_true_iff]
  refine ⟨by omega, ?_⟩
  cases hy : o.getLast? with
  | none => simp
  | some y =>
    have := hd y (List.mem_of_getLast? hy)
    simp
    omega
/-- Few tokens are never too many. -/
theorem few : ∀ {l : List Tk} {st : St}, st.out.length + l.length ≤ 4096 → (∀ y ∈ st.out, y.depth ≤ 59) → st.stk.length + starts l ≤ 59 → treeB st l = some (runB st l).out
  | [], st, _, _, _ => rfl
  | t :: l, st, h1, h2, h3 => by
    unfold starts at h3
    rw [List.length_cons] at h1
    obtain ⟨a, b, c⟩ := step_low (t := t) h2 (by omega)
    rw [treeB, if_neg (not_big (by omega) a)]
    exact few (by omega) a (by omega)

/-- A text behind rows that don't end in one. -/
theorem add_behind {o0 o : List Ro} {d : Int} {t : ByteArray} (h : ∀ y, o0.getLast? = some y → y.kind ≠ 1) : addText (o0 ++ o) d t = o0 ++ addText o d t := by
  unfold addText
  rw [List.getLast?_append]
  cases hy : o.getLast? with
  | some y =>
    show (if y.kind = 1 ∧ y.depth = d then _ else _) = o0 ++ (if y.kind = 1 ∧ y.depth = d then _ else _)
    by_cases hc : y.kind = 1 ∧ y.depth = d
    · rw [if_pos hc, if_pos hc, List.dropLast_append_of_ne_nil (fun e => by rw [e] at hy; cases hy), List.append_assoc]
    · rw [if_neg hc, if_neg hc, List.append_assoc]
  | none =>
    have e : o = [] := List.getLast?_eq_none_iff.1 hy
    subst e
    rw [List.append_nil]
    cases hz : o0.getLast? with
    | none => rfl
    | some z =>
      show (if z.kind = 1 ∧ z.depth = d then _ else _) = _
      rw [if_neg (fun hc => h z hz hc.1)]
      rfl
/-- An element that closes nothing. -/
theorem findS_none (ws : List ByteArray) : ∀ s : List ByteArray, findS [] ws s = none
  | [] => rfl
  | x :: s => by
    cases h : isIn x ws with
    | true => exact findS_wall s rfl h
    | false => rw [findS_past s rfl h]; exact findS_none ws s
theorem free_para {n : ByteArray} (h : closesL n = []) : para n = false := by
  unfold para
  by_cases h1 : n = n_li
  · subst h1; cases h
  by_cases h2 : n = n_dd
  · subst h2; cases h
  by_cases h3 : n = n_dt
  · subst h3; cases h
  rw [decide_eq_false h1, decide_eq_false h2, decide_eq_false h3]; rfl
theorem opened_free {n : ByteArray} (h : closesL n = []) (s : List ByteArray) : openedS n s = s := by
  unfold openedS
  rw [h, if_neg (by rw [free_para h]; simp)]
  exact closedS_no (findS_none _ s)
/-- Within nothing, each. -/
theorem quiet_nil (n : ByteArray) : quiet n [] := ⟨rfl, fun _ => rfl⟩
end Go.Proofs.YteafldginkpgoaaGreat.Bm

namespace Go.Proofs.YteafldginkpgoaaGreat.Bm
set_option linter.unusedVariables false
set_option linter.unusedSimpArgs false
open Ba Fm Nm
open Ro (At Ro)
open Tm (Tk put)
/-- The last open elements, the first one first and the last one first. -/
theorem rev_take {o : List ByteArray} {k : Nat} {x : ByteArray} (h : o[k]? = some x) : (o.take (k + 1)).reverse = x :: (o.take k).reverse := by
  rw [List.take_add_one, h, List.reverse_append]
  rfl
theorem suffix_take {s r : List ByteArray} (h : r <:+ s) : s.reverse.take r.length = r.reverse := by
  obtain ⟨u, rfl⟩ := h
  rw [List.reverse_append, List.take_append_of_le_length (by rw [List.length_reverse]; exact Nat.le_refl _), ← List.length_reverse, List.take_length]
/-- Where a search from the end on stops. -/
theorem found_take {ns ws : List ByteArray} {o r : List ByteArray} (h : findS ns ws o.reverse = some r) : r = (o.take r.length).reverse ∧ r.length < o.length := by
  have h1 := suffix_take (findS_suffix h)
  have h2 := findS_len h
  rw [List.reverse_reverse] at h1
  rw [List.length_reverse] at h2
  exact ⟨by rw [h1, List.reverse_reverse], h2⟩
theorem found_hit {ns ws : List ByteArray} {o : List ByteArray} {k : Nat} {x : ByteArray} (h : o[k]? = some x) (hx : isIn x ns = true) : findS ns ws (o.take (k + 1)).reverse = some (o.take k).reverse := by
  rw [rev_take h]; exact findS_hit _ hx
theorem found_wall {ns ws : List ByteArray} {o : List ByteArray} {k : Nat} {x : ByteArray} (h : o[k]? = some x) (hx : isIn x ns = false) (hw : isIn x ws = true) : findS ns ws (o.take (k + 1)).reverse = none := by
  rw [rev_take h]; exact findS_wall _ hx hw
theorem found_past {ns ws : List ByteArray} {o : List ByteArray} {k : Nat} {x : ByteArray} (h : o[k]? = some x) (hx : isIn x ns = false) (hw : isIn x ws = false) : findS ns ws (o.take (k + 1)).reverse = findS ns ws (o.take k).reverse := by
  rw [rev_take h]; exact findS_past _ hx hw

/-- Is there an attribute of this name among them? -/
def has (l : List At) (n : ByteArray) : Bool := l.any fun b => decide (b.name = n)
/-- Whether an element may stand within others, the first one first. -/
def nestedB (n : ByteArray) (o : List ByteArray) : Bool := decide ((openedS n o.reverse).length = o.length)
theorem nestedB_iff (n : ByteArray) (o : List ByteArray) : nestedB n o = true ↔ quiet n o.reverse := by
  unfold nestedB
  rw [decide_eq_true_iff, ← quiet_len, List.length_reverse]
theorem nestedB_nil (n : ByteArray) : nestedB n [] = true := (nestedB_iff n []).2 (quiet_nil n)
end Go.Proofs.YteafldginkpgoaaGreat.Bm
