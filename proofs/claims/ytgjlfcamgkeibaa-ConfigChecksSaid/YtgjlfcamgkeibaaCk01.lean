/-
  Strings as lists of bytes. For every stage.
  Slices of strings in memory: what a slice reads as, and a slice of the call's own. For every stage.
  Plain mathematics for stage 2: lists that rise in a strict order, merging, inserting, counting; spaces, words and small letters of bytes. Nothing of the program stands here.
  Slices of strings as values: reading (Sv), of the call's own (Sown), literals, stores; the order of strings. For every stage from 5 on.
  The elements that are never safe. It speaks of no program.
  Plain mathematics for stage 5: the lists of elements, what each closes and what ends the search, texts that may be names. Nothing of the program stands here.
  Plain mathematics of stage 12 (configurations): which may be, what is in order, what is never safe taken out, what is kept. It speaks of no program.
  Configurations in memory: what a slice of api.Per reads as, a configuration as a value, and in a box.
  Slices of api.Per of the call's own: what they hold, what is kept where another one grows, append.
  Walks of stage 12: among, equal, isData, Element, named, Attr.
  boltingref02.Has.
  Walks of stage 12: Attr; the document's Element and Attr.
  Walks of stage 12: meet and twice, of names, of names and api.Per, of api.Per.
  Walks of stage 12: meet of api.Per, and twice.
  append within a region that draws its order: of one api.Per, of names.
  fold.Space.
  Walks of stage 5: names.inElement, inAttr, every, Attr, Right.
  boltingref02.Space.
  Walks of stage 5: names.inElement, inAttr, every, Right, Attr, and the document's bad, May.
  Walks of stage 12: the document's may, once, meet, of.
  boltingref02.Equal, of slices that read as one list.
-/
import Derived.Test.YtgjlfcamgkeibaaRows
import Derived.WalkKit
import Derived.WalkSpells
import Derived.Lib.OthersKept
import Derived.Lib.Hide
import Derived.Lib.Strings
import Derived.OpenShut
import Derived.WalkLawsBesides
import Derived.Lib.AppendStr
import Derived.WalkSmall
import Derived.Laws.IdiomStrings
import Derived.Laws.Cover1
import Derived.Laws.OwnMore
import Derived.Laws.AppendOwnNone
import Derived.Deep.AppendLies
import Derived.Deep.Draws
import Derived.Deep.Onto
import Derived.Maps.AppendAt
import Derived.Deep.QuietTactic
import Derived.BigQuiet
import Derived.Deep.MidRow
import Derived.Deep.Cut
import Derived.Deep.RegionWith
import Derived.Deep.RegionHeld3
import Derived.Deep.RegionLaw
import Derived.BigRegion
namespace Go.Proofs.Ytgjlfcamgkeibaa.Ba
set_option linter.unusedSimpArgs false
set_option linter.unusedVariables false
open Go.RowKit
abbrev L (s : ByteArray) : List UInt8 := s.data.toList
theorem size_L (s : ByteArray) : (L s).length = s.size := by rw [Array.length_toList]; rfl
theorem drop_cons (s : ByteArray) (k : Nat) (h : k < s.size) : (L s).drop k = s[k] :: (L s).drop (k + 1) := by
  rw [List.drop_eq_getElem_cons (by rw [size_L]; exact h)]
  rfl
theorem take_snoc (s : ByteArray) (k : Nat) (h : k < s.size) : (L s).take (k + 1) = (L s).take k ++ [s[k]] := by
  rw [List.take_succ_eq_append_getElem (by rw [size_L]; exact h)]; rfl

theorem ret_bool {a b : Bool} (h : a = b) : Ending.returned (.bool a) = .returned (.bool b) := by rw [h]
def B (l : List UInt8) : ByteArray := ⟨l.toArray⟩
theorem toList_L (s : ByteArray) : s.toList = L s := by
  obtain ⟨⟨x⟩⟩ := s
  exact ByteArray.toList_mk x
theorem L_inj {a b : ByteArray} (h : L a = L b) : a = b := WideShapes.bytes_inj h
theorem eq_of_toList {a b : ByteArray} : (a.toList == b.toList) = decide (a = b) := by
  rw [toList_L, toList_L, Bool.eq_iff_iff, beq_iff_eq, decide_eq_true_iff]
  exact ⟨L_inj, fun h => by rw [h]⟩
theorem L_extract (s : ByteArray) (a b : Nat) : L (s.extract a b) = ((L s).drop a).take (b - a) := Lib.extract_data s a b
theorem u8_eq {a b : UInt8} : (((a.toNat : Int)) == (b.toNat : Int)) = (a == b) := by
  rw [Bool.eq_iff_iff, beq_iff_eq, beq_iff_eq]
  exact ⟨fun h => UInt8.toNat.inj (by omega), fun h => by rw [h]⟩

theorem bt {w w1 w2 : World} (h1 : Below w.heap.size w w1) (h2 : Below w1.heap.size w1 w2) : Below w.heap.size w w2 := h1.trans (h2.mono h1.size)
end Go.Proofs.Ytgjlfcamgkeibaa.Ba

namespace Go.Proofs.Ytgjlfcamgkeibaa.Ba
set_option maxRecDepth 100000
set_option linter.unusedSimpArgs false
set_option linter.unusedVariables false
open Go.RowKit
def Rd (w : World) (N : Nat) (A : Option Addr) (l : List ByteArray) : Prop :=
  0 < l.length → ∃ b off, A = some ⟨b, off, none⟩ ∧ b < N ∧ ∀ j (h : j < l.length), w.cell? ⟨b, off + j, none⟩ = some (.string l[j])

theorem Rd.nil (w : World) (N : Nat) (A : Option Addr) : Rd w N A [] := fun h => absurd h (by simp)
theorem Rd.keep {w w' : World} {N : Nat} {A : Option Addr} {l : List ByteArray} (h : Rd w N A l) (hk : ∀ p : Addr, p.block < N → w'.cell? p = w.cell? p) : Rd w' N A l := fun h0 => by
  obtain ⟨b, off, e, hb, hc⟩ := h h0
  exact ⟨b, off, e, hb, fun j hj => (hk _ hb).trans (hc j hj)⟩
theorem Rd.more {w : World} {N N' : Nat} {A : Option Addr} {l : List ByteArray} (h : Rd w N A l) (hN : N ≤ N') : Rd w N' A l := fun h0 => by
  obtain ⟨b, off, e, hb, hc⟩ := h h0
  exact ⟨b, off, e, by omega, hc⟩
theorem Rd.below {w w' : World} {N M : Nat} {A : Option Addr} {l : List ByteArray} (h : Rd w N A l) (hb : Below M w w') (hN : N ≤ M) : Rd w' N A l := h.keep fun p hp => hb.cell (p := p) (by omega)
theorem Rd.alloc {w : World} {N : Nat} {A : Option Addr} {l : List ByteArray} (h : Rd w N A l) (hN : N ≤ w.heap.size) (o : Obj) : Rd (w.alloc o) N A l := h.keep fun p hp => World.cell?_alloc_lt w o p (by omega)
theorem Rd.take {w : World} {N : Nat} {A : Option Addr} {l : List ByteArray} (h : Rd w N A l) (m : Nat) : Rd w N A (l.take m) := fun h0 => by
  rw [List.length_take] at h0
  obtain ⟨b, off, e, hb, hc⟩ := h (by omega)
  refine ⟨b, off, e, hb, fun j hj => ?_⟩
  rw [List.length_take] at hj
  rw [List.getElem_take]
  exact hc j (by omega)
theorem Rd.drop {w : World} {N : Nat} {A : Option Addr} {l : List ByteArray} (h : Rd w N A l) (m cap : Nat) (hc : l.length ≤ cap) : Rd w N (if cap = m then A else A.map (·.add m)) (l.drop m) := fun h0 => by
  rw [List.length_drop] at h0
  obtain ⟨b, off, e, hb, hcc⟩ := h (by omega)
  rw [if_neg (by omega), e]
  refine ⟨b, off + m, by simp [WideShapes.add_plain], hb, fun j hj => ?_⟩
  rw [List.length_drop] at hj
  rw [List.getElem_drop, Nat.add_assoc]
  exact hcc (m + j) (by omega)

def sc (s : ByteArray) : Value := .string s
def Sown (N : Nat) (w : World) (v : Value) (l : List ByteArray) : Prop := w.ownsRow N 9 1 v l.length (l.map sc)

theorem info_str : (Try.prog.info? 9).map (fun i => (i.zero, i.size, i.bytes)) = some (some (.string .empty), 1, 16) := by kernel_rfl

theorem Sown.nil (N : Nat) (w : World) : Sown N w (.slice none 0 0) [] := World.ownsRow_nil w N _ 1
theorem Sown.made (w : World) : Sown w.heap.size (w.alloc (.cells #[] 9)) (.slice (some ⟨w.heap.size, 0, none⟩) 0 0) [] :=
  World.ownsRow_made w #[] 0 (Nat.le_refl _) (Nat.zero_le _) rfl
theorem Sown.alloc {N : Nat} {w : World} {v : Value} {l : List ByteArray} (h : Sown N w v l) (o : Obj) : Sown N (w.alloc o) v l := World.ownsRow.alloc h o
theorem Sown.mono {N N' : Nat} {w : World} {v : Value} {l : List ByteArray} (h : Sown N w v l) (hN : N' ≤ N) : Sown N' w v l := World.ownsRow.mono h hN
theorem Sown.below {N M : Nat} {w w' : World} {v : Value} {l : List ByteArray} (h : Sown N w v l) (hb : Below M w w') (hM : w.heap.size ≤ M) : Sown N w' v l := by
  refine ⟨h.1, ?_⟩
  rcases h.2 with hn | ⟨g, cap, cur, hv, hg, hh, rest⟩
  · exact .inl hn
  · refine .inr ⟨g, cap, cur, hv, hg, ?_, rest⟩
    have hlt : g < w.heap.size := (Array.getElem?_eq_some_iff.1 hh).1
    rw [hb.block g (by omega)]
    exact hh
theorem Sown.kept {N : Nat} {w0 w w' : World} {v : Value} {l : List ByteArray} (h : Sown N w v l) (hg : w.grownBy w' v.ownBlock) (hb : Below N w0 w) (hN : N ≤ w.heap.size) : Below N w0 w' :=
  hb.grown hg hN fun k hk => (h.lt k hk).1
theorem Sown.form {N : Nat} {w : World} {v : Value} {l : List ByteArray} (h : Sown N w v l) : ∃ A c, v = .slice A l.length c ∧ l.length ≤ c ∧ c ≤ maxLen ∧ Rd w w.heap.size A l := by
  rcases h.2 with ⟨hv, hl⟩ | ⟨g, cap, cur, hv, hg, hh, hn, hm, hs, ht⟩
  · have : l = [] := List.eq_nil_of_length_eq_zero hl
    subst this
    exact ⟨none, 0, hv, Nat.le_refl _, Nat.zero_le _, Rd.nil _ _ _⟩
  · refine ⟨some ⟨g, 0, none⟩, cap, hv, hn, hm, fun _ => ⟨g, 0, rfl, (Array.getElem?_eq_some_iff.1 hh).1, fun j hj => ?_⟩⟩
    subst hv
    have := World.ownsRow.cells h rfl j (sc l[j]) (by simp [hj])
    rw [WideShapes.add_plain] at this
    exact this
theorem Sown.appended {N : Nat} {w : World} {v : Value} {l m : List ByteArray} {n : Nat} (h : w.ownsRow N 9 1 v n (l.map sc ++ m.map sc)) (hn : n = l.length + m.length) : Sown N w v (l ++ m) := by
  unfold Sown
  rw [List.map_append, List.length_append, ← hn]
  exact h

set_option maxRecDepth 100000 in
theorem app_one {ops : Array Oper} {rest : List Oper} {o : Oper} {a : Act} {Q : Exit → Act → World → Prop} (w : World) (hgd : o.guard = none) (s x : Operand)
    (ho : o.op = .call { callee := .builtin .append, args := #[s, x], argTypes := #[23, 23] })
    (N : Nat) (v : Value) (l : List ByteArray) (y : ByteArray) (hs : a.eval s = v) (hown : Sown N w v l) (hx : a.eval x = .slice (some ⟨w.heap.size, 0, none⟩) 1 1)
    (hl : (l.length + 1) * 16 ≤ 140737488355328) (hN : N ≤ w.heap.size)
    (h : ∀ v' w', Sown N w' v' (l ++ [y]) → (∀ w0, Below N w0 w → Below N w0 w') → (∀ A m, Rd w N A m → Rd w' N A m) → wpList Try.prog ops Q rest (a.put o.dst v') w') :
    wpList Try.prog ops Q (o :: rest) a (w.alloc (.cells #[.string y] 9)) := by
  obtain ⟨i0, hi, hz0, hz1, hz2⟩ := info_parts info_str
  have hown' : Sown N (w.alloc (.cells #[.string y] 9)) v l := hown.alloc _
  have hsz : (w.alloc (.cells #[.string y] 9)).heap.size = w.heap.size + 1 := by simp
  refine wpList_append_own _ hgd s x 23 ho N 9 i0 (.string .empty) 1 16 Try.underlying23 hi hz0 hz1 hz2 rfl (by decide) v l.length (l.map sc) hs hown' ⟨w.heap.size, 0, none⟩ 1 1 [.string y] hx rfl (cell_one_new _ _ _) (by intro u hu; simp at hu; subst hu; rfl) (by unfold maxLen; omega) hl (by omega) ?_
  intro v' w' ho2 hg2 _
  have hk : ∀ w0, Below N w0 w → Below N w0 w' := fun w0 hb => hown'.kept hg2 (hb.alloc hN _) (by omega)
  exact h v' w' (Sown.appended (m := [y]) ho2 rfl) hk fun A m hr => hr.below (hk w (Below.refl _ _)) (Nat.le_refl _)

set_option maxRecDepth 100000 in
theorem app_all {ops : Array Oper} {rest : List Oper} {o : Oper} {a : Act} {Q : Exit → Act → World → Prop} (w : World) (hgd : o.guard = none) (s x : Operand)
    (ho : o.op = .call { callee := .builtin .append, args := #[s, x], argTypes := #[23, 23] })
    (N : Nat) (v : Value) (l m : List ByteArray) (A : Option Addr) (c M : Nat) (hs : a.eval s = v) (hown : Sown N w v l) (hx : a.eval x = .slice A m.length c) (hc : A = none → c = 0) (hr : Rd w M A m)
    (hl : (l.length + m.length) * 16 ≤ 140737488355328) (hN : N ≤ w.heap.size)
    (h : ∀ v' w', Sown N w' v' (l ++ m) → (∀ w0, Below N w0 w → Below N w0 w') → (∀ A m, Rd w N A m → Rd w' N A m) → wpList Try.prog ops Q rest (a.put o.dst v') w') :
    wpList Try.prog ops Q (o :: rest) a w := by
  obtain ⟨i0, hi, hz0, hz1, hz2⟩ := info_parts info_str
  cases A with
  | none =>
    have hm : m = [] := by
      rcases Nat.eq_zero_or_pos m.length with h0 | h0
      · exact List.eq_nil_of_length_eq_zero h0
      · obtain ⟨b, off, e, _⟩ := hr h0
        cases e
    subst hm
    have hc0 := hc rfl
    subst hc0
    refine wpList_append_own_none hgd s x 23 ho N 9 i0 1 Try.underlying23 hi v l.length (l.map sc) hs hown hx ?_
    exact h v w (by rw [List.append_nil]; exact hown) (fun _ hb => hb) (fun _ _ hr => hr)
  | some ad =>
    have hcells : ∀ j u, (m.map sc)[j]? = some u → w.cell? (ad.add j) = some u := by
      intro j u hu
      have hj : j < m.length := by
        have := (List.getElem?_eq_some_iff.1 hu).1
        rw [List.length_map] at this
        exact this
      obtain ⟨b, off, e, _, hcc⟩ := hr (by omega)
      injection e with e
      subst e
      rw [WideShapes.add_plain, hcc j hj]
      rw [List.getElem?_map, List.getElem?_eq_getElem hj] at hu
      exact hu
    refine wpList_append_own _ hgd s x 23 ho N 9 i0 (.string .empty) 1 16 Try.underlying23 hi hz0 hz1 hz2 rfl (by decide) v l.length (l.map sc) hs hown ad m.length c (m.map sc) hx (by simp) hcells (by intro u hu; obtain ⟨y, _, rfl⟩ := List.mem_map.1 hu; rfl) (by unfold maxLen; omega) hl hN ?_
    intro v' w' ho2 hg2 _
    have hk : ∀ w0, Below N w0 w → Below N w0 w' := fun w0 hb => hown.kept hg2 hb hN
    exact h v' w' (Sown.appended ho2 rfl) hk fun A m hr => hr.below (hk w (Below.refl _ _)) (Nat.le_refl _)

end Go.Proofs.Ytgjlfcamgkeibaa.Ba

namespace Go.Proofs.Ytgjlfcamgkeibaa.Fm
set_option linter.unusedSimpArgs false
set_option linter.unusedVariables false

section order
variable {α : Type}

structure Ord (lt : α → α → Bool) : Prop where
  irr : ∀ a, lt a a = false
  tr : ∀ a b c, lt a b = true → lt b c = true → lt a c = true
  tri : ∀ a b, lt a b = false → lt b a = false → a = b

theorem Ord.ne {lt : α → α → Bool} (h : Ord lt) {a b : α} (hl : lt a b = true) : a ≠ b := by
  rintro rfl
  rw [h.irr] at hl
  cases hl
theorem Ord.asym {lt : α → α → Bool} (h : Ord lt) {a b : α} (hl : lt a b = true) : lt b a = false := by
  cases hb : lt b a with
  | false => rfl
  | true =>
    have := h.tr _ _ _ hl hb
    rw [h.irr] at this
    cases this

def Asc (lt : α → α → Bool) (l : List α) : Prop := l.Pairwise fun a b => lt a b = true

theorem asc_nil (lt : α → α → Bool) : Asc lt [] := List.Pairwise.nil
theorem asc_cons {lt : α → α → Bool} {a : α} {l : List α} : Asc lt (a :: l) ↔ (∀ b ∈ l, lt a b = true) ∧ Asc lt l := List.pairwise_cons

theorem uniq {lt : α → α → Bool} (h : Ord lt) : ∀ (l m : List α), Asc lt l → Asc lt m → (∀ x, x ∈ l ↔ x ∈ m) → l = m
  | [], [], _, _, _ => rfl
  | [], b :: m, _, _, hx => by have := (hx b).2 (by simp); simp at this
  | a :: l, [], _, _, hx => by have := (hx a).1 (by simp); simp at this
  | a :: l, b :: m, ha, hb, hx => by
    obtain ⟨ha1, ha2⟩ := asc_cons.1 ha
    obtain ⟨hb1, hb2⟩ := asc_cons.1 hb
    have hab : a = b := by
      rcases List.mem_cons.1 ((hx a).1 (by simp)) with e | e
      · exact e
      · rcases List.mem_cons.1 ((hx b).2 (by simp)) with e' | e'
        · exact e'.symm
        · have h1 := hb1 a e
          have h2 := ha1 b e'
          have := h.tr _ _ _ h1 h2
          rw [h.irr] at this
          cases this
    subst hab
    have : l = m := by
      refine uniq h l m ha2 hb2 fun x => ⟨fun hm => ?_, fun hm => ?_⟩
      · rcases List.mem_cons.1 ((hx x).1 (List.mem_cons_of_mem _ hm)) with e | e
        · subst e
          exact absurd rfl (h.ne (ha1 x hm))
        · exact e
      · rcases List.mem_cons.1 ((hx x).2 (List.mem_cons_of_mem _ hm)) with e | e
        · subst e
          exact absurd rfl (h.ne (hb1 x hm))
        · exact e
    rw [this]

def mrg (lt : α → α → Bool) (a b : List α) : List α :=
  match a, b with
  | [], b => b
  | x :: a, [] => x :: a
  | x :: a, y :: b => if lt x y = true then x :: mrg lt a (y :: b) else if lt y x = true then y :: mrg lt (x :: a) b else mrg lt a (y :: b)
termination_by a.length + b.length

theorem mrg_nil (lt : α → α → Bool) (b : List α) : mrg lt [] b = b := by rw [mrg]
theorem mrg_nil' (lt : α → α → Bool) (a : List α) : mrg lt a [] = a := by
  cases a with
  | nil => rw [mrg]
  | cons x a => rw [mrg]
theorem mrg_lt {lt : α → α → Bool} {x y : α} (a b : List α) (h : lt x y = true) : mrg lt (x :: a) (y :: b) = x :: mrg lt a (y :: b) := by rw [mrg, if_pos h]
theorem mrg_gt {lt : α → α → Bool} {x y : α} (a b : List α) (h : lt x y = false) (h' : lt y x = true) : mrg lt (x :: a) (y :: b) = y :: mrg lt (x :: a) b := by
  rw [mrg, if_neg (by simp [h]), if_pos h']
theorem mrg_eq {lt : α → α → Bool} {x y : α} (a b : List α) (h : lt x y = false) (h' : lt y x = false) : mrg lt (x :: a) (y :: b) = mrg lt a (y :: b) := by
  rw [mrg, if_neg (by simp [h]), if_neg (by simp [h'])]

theorem len_mrg (lt : α → α → Bool) (a b : List α) : (mrg lt a b).length ≤ a.length + b.length := by
  match a, b with
  | [], b => rw [mrg_nil]; simp
  | x :: a, [] => rw [mrg_nil']; simp
  | x :: a, y :: b =>
    cases h1 : lt x y with
    | true =>
      rw [mrg_lt _ _ h1]
      have := len_mrg lt a (y :: b)
      simp at this ⊢; omega
    | false =>
      cases h2 : lt y x with
      | true =>
        rw [mrg_gt _ _ h1 h2]
        have := len_mrg lt (x :: a) b
        simp at this ⊢; omega
      | false =>
        rw [mrg_eq _ _ h1 h2]
        have := len_mrg lt a (y :: b)
        simp at this ⊢; omega
termination_by a.length + b.length

theorem mem_mrg {lt : α → α → Bool} (h : Ord lt) (z : α) (a b : List α) : z ∈ mrg lt a b ↔ z ∈ a ∨ z ∈ b := by
  match a, b with
  | [], b => rw [mrg_nil]; simp
  | x :: a, [] => rw [mrg_nil']; simp
  | x :: a, y :: b =>
    cases h1 : lt x y with
    | true =>
      rw [mrg_lt _ _ h1, List.mem_cons, mem_mrg h z a (y :: b), List.mem_cons (l := a), or_assoc]
    | false =>
      cases h2 : lt y x with
      | true =>
        rw [mrg_gt _ _ h1 h2, List.mem_cons, mem_mrg h z (x :: a) b, List.mem_cons (l := b)]
        exact or_left_comm
      | false =>
        rw [mrg_eq _ _ h1 h2, mem_mrg h z a (y :: b)]
        have e := h.tri _ _ h1 h2
        subst e
        rw [List.mem_cons (l := a), List.mem_cons (l := b)]
        constructor
        · rintro (e | e)
          · exact .inl (.inr e)
          · exact .inr e
        · rintro ((e | e) | e)
          · exact .inr (.inl e)
          · exact .inl e
          · exact .inr e
termination_by a.length + b.length

theorem asc_mrg {lt : α → α → Bool} (h : Ord lt) (a b : List α) (ha : Asc lt a) (hb : Asc lt b) : Asc lt (mrg lt a b) := by
  match a, b with
  | [], b => rw [mrg_nil]; exact hb
  | x :: a, [] => rw [mrg_nil']; exact ha
  | x :: a, y :: b =>
    obtain ⟨ha1, ha2⟩ := asc_cons.1 ha
    obtain ⟨hb1, hb2⟩ := asc_cons.1 hb
    cases h1 : lt x y with
    | true =>
      rw [mrg_lt _ _ h1]
      refine asc_cons.2 ⟨fun z hz => ?_, asc_mrg h a (y :: b) ha2 hb⟩
      rcases (mem_mrg h z _ _).1 hz with e | e
      · exact ha1 z e
      · rcases List.mem_cons.1 e with e | e
        · rw [e]; exact h1
        · exact h.tr _ _ _ h1 (hb1 z e)
    | false =>
      cases h2 : lt y x with
      | true =>
        rw [mrg_gt _ _ h1 h2]
        refine asc_cons.2 ⟨fun z hz => ?_, asc_mrg h (x :: a) b ha hb2⟩
        rcases (mem_mrg h z _ _).1 hz with e | e
        · rcases List.mem_cons.1 e with e | e
          · rw [e]; exact h2
          · exact h.tr _ _ _ h2 (ha1 z e)
        · exact hb1 z e
      | false =>
        rw [mrg_eq _ _ h1 h2]
        exact asc_mrg h a (y :: b) ha2 hb
termination_by a.length + b.length

def insL (lt : α → α → Bool) (x : α) : Bool → List α → List α
  | true, l => l
  | false, [] => [x]
  | false, y :: l => if lt x y = true then x :: y :: l else y :: insL lt x false l

theorem insL_true (lt : α → α → Bool) (x : α) (l : List α) : insL lt x true l = l := by cases l <;> rfl
theorem len_insL (lt : α → α → Bool) (x : α) : ∀ (p : Bool) (l : List α), (insL lt x p l).length ≤ l.length + 1
  | true, l => by rw [insL_true]; omega
  | false, [] => by simp [insL]
  | false, y :: l => by
    have := len_insL lt x false l
    unfold insL
    split <;> simp <;> omega
theorem mem_insL (lt : α → α → Bool) (x z : α) : ∀ l : List α, z ∈ insL lt x false l ↔ z = x ∨ z ∈ l
  | [] => by simp [insL]
  | y :: l => by
    have := mem_insL lt x z l
    unfold insL
    split
    · simp
    · rw [List.mem_cons, this, List.mem_cons]
      exact or_left_comm
theorem asc_insL {lt : α → α → Bool} (h : Ord lt) (x : α) : ∀ l : List α, Asc lt l → x ∉ l → Asc lt (insL lt x false l)
  | [], _, _ => by simp [insL, Asc]
  | y :: l, ha, hx => by
    obtain ⟨ha1, ha2⟩ := asc_cons.1 ha
    unfold insL
    split
    · rename_i hl
      refine asc_cons.2 ⟨fun z hz => ?_, ha⟩
      rcases List.mem_cons.1 hz with e | e
      · rw [e]; exact hl
      · exact h.tr _ _ _ hl (ha1 z e)
    · rename_i hl
      have hyx : lt y x = true := by
        cases hq : lt y x with
        | true => rfl
        | false =>
          have := h.tri x y (by simpa using hl) hq
          subst this
          simp at hx
      refine asc_cons.2 ⟨fun z hz => ?_, asc_insL h x l ha2 fun hm => hx (List.mem_cons_of_mem _ hm)⟩
      rcases (mem_insL lt x z l).1 hz with e | e
      · rw [e]; exact hyx
      · exact ha1 z e

def below (lt : α → α → Bool) (l : List α) (s : α) : Nat := l.countP (lt · s)

theorem asc_get {lt : α → α → Bool} {l : List α} (h : Asc lt l) {i j : Nat} (hij : i < j) (hj : j < l.length) : lt (l[i]'(by omega)) l[j] = true :=
  List.pairwise_iff_getElem.1 h i j (by omega) hj hij
theorem low_of {lt : α → α → Bool} (h : Ord lt) {l : List α} (ha : Asc lt l) {s : α} {m : Nat} (hm : m < l.length) (hs : lt l[m] s = true) {i : Nat} (hi : i ≤ m) : lt (l[i]'(by omega)) s = true := by
  rcases Nat.lt_or_ge i m with h1 | h1
  · exact h.tr _ _ _ (asc_get ha h1 hm) hs
  · have : i = m := by omega
    subst this
    exact hs
theorem high_of {lt : α → α → Bool} (h : Ord lt) {l : List α} (ha : Asc lt l) {s : α} {m : Nat} (hm : m < l.length) (hs : lt l[m] s = false) {i : Nat} (hi : m ≤ i) (hl : i < l.length) : lt l[i] s = false := by
  cases hq : lt l[i] s with
  | false => rfl
  | true =>
    have := low_of h ha hl hq hi
    rw [hs] at this
    cases this
theorem below_of {lt : α → α → Bool} {l : List α} {s : α} {k : Nat} (hk : k ≤ l.length) (h1 : ∀ i (hi : i < k), lt (l[i]'(by omega)) s = true) (h2 : ∀ i, k ≤ i → (hi : i < l.length) → lt l[i] s = false) : below lt l s = k := by
  unfold below
  have e : l.countP (lt · s) = (l.take k).countP (lt · s) + (l.drop k).countP (lt · s) := by rw [← List.countP_append, List.take_append_drop]
  have e1 : (l.take k).countP (lt · s) = (l.take k).length := by
    rw [List.countP_eq_length]
    intro a ha
    obtain ⟨i, hi, rfl⟩ := List.getElem_of_mem ha
    rw [List.length_take] at hi
    rw [List.getElem_take]
    exact h1 i (by omega)
  have e2 : (l.drop k).countP (lt · s) = 0 := by
    rw [List.countP_eq_zero]
    intro a ha
    obtain ⟨i, hi, rfl⟩ := List.getElem_of_mem ha
    rw [List.length_drop] at hi
    rw [List.getElem_drop]
    simp [h2 (k + i) (by omega) (by omega)]
  rw [e, e1, e2, List.length_take]
  omega
theorem found_of {lt : α → α → Bool} (h : Ord lt) {l : List α} {s : α} {k : Nat} (h1 : ∀ i, (hi : i < l.length) → i < k → lt l[i] s = true) (ha : Asc lt l) (hkl : k < l.length) (hk : lt l[k] s = false) : (l[k] = s ↔ s ∈ l) := by
  constructor
  · rintro rfl
    exact List.getElem_mem _
  · intro hm
    obtain ⟨i, hi, rfl⟩ := List.getElem_of_mem hm
    rcases Nat.lt_trichotomy i k with hc | hc | hc
    · have := h1 i hi hc
      rw [h.irr] at this
      cases this
    · subst hc; rfl
    · have := asc_get ha hc hi
      rw [hk] at this
      cases this
theorem notfound_of {lt : α → α → Bool} (h : Ord lt) {l : List α} {s : α} (h1 : ∀ i, (hi : i < l.length) → lt l[i] s = true) : s ∉ l := by
  intro hm
  obtain ⟨i, hi, rfl⟩ := List.getElem_of_mem hm
  have := h1 i hi
  rw [h.irr] at this
  cases this
theorem below_at {lt : α → α → Bool} (h : Ord lt) {l : List α} (ha : Asc lt l) {k : Nat} (hk : k < l.length) : below lt l l[k] = k := by
  refine below_of (Nat.le_of_lt hk) (fun i hi => asc_get ha hi hk) fun i hki hi => ?_
  rcases Nat.lt_or_ge k i with hc | hc
  · exact h.asym (asc_get ha hc hi)
  · have : i = k := by omega
    subst this
    exact h.irr _

variable [DecidableEq α]

def isIn (x : α) (l : List α) : Bool := decide (x ∈ l)
theorem isIn_yes {x : α} {l : List α} (h : x ∈ l) : isIn x l = true := decide_eq_true h
theorem isIn_no {x : α} {l : List α} (h : ¬ x ∈ l) : isIn x l = false := decide_eq_false h
theorem isIn_of {x : α} {l : List α} (h : isIn x l = true) : x ∈ l := of_decide_eq_true h
theorem notIn_of {x : α} {l : List α} (h : isIn x l = false) : ¬ x ∈ l := of_decide_eq_false h
theorem isIn_congr {x : α} {l m : List α} (h : x ∈ l ↔ x ∈ m) : isIn x l = isIn x m := decide_eq_decide.2 h

def ins (lt : α → α → Bool) (x : α) (l : List α) : List α := insL lt x (isIn x l) l
def srt (lt : α → α → Bool) (l : List α) : List α := l.foldl (fun out x => ins lt x out) []

theorem mem_ins (lt : α → α → Bool) (x z : α) (l : List α) : z ∈ ins lt x l ↔ z = x ∨ z ∈ l := by
  unfold ins
  by_cases hx : x ∈ l
  · rw [isIn_yes hx, insL_true]
    exact ⟨.inr, fun h => h.elim (fun e => e ▸ hx) id⟩
  · rw [isIn_no hx, mem_insL]
theorem asc_ins {lt : α → α → Bool} (h : Ord lt) (x : α) (l : List α) (ha : Asc lt l) : Asc lt (ins lt x l) := by
  unfold ins
  by_cases hx : x ∈ l
  · rw [isIn_yes hx, insL_true]; exact ha
  · rw [isIn_no hx]; exact asc_insL h x l ha hx

theorem srt_snoc (lt : α → α → Bool) (l : List α) (x : α) : srt lt (l ++ [x]) = ins lt x (srt lt l) := by
  unfold srt
  rw [List.foldl_append]
  rfl
theorem len_srt (lt : α → α → Bool) : ∀ l : List α, (srt lt l).length ≤ l.length := by
  have : ∀ (l out : List α), (l.foldl (fun out x => ins lt x out) out).length ≤ out.length + l.length := by
    intro l
    induction l with
    | nil => intro out; simp
    | cons x l ih =>
      intro out
      have h1 := ih (ins lt x out)
      have h2 := len_insL lt x (isIn x out) out
      simp only [List.foldl_cons, List.length_cons]
      unfold ins at h1 ⊢
      omega
  intro l
  have := this l []
  simpa [srt] using this
theorem srt_is {lt : α → α → Bool} (h : Ord lt) : ∀ l : List α, Asc lt (srt lt l) ∧ ∀ z, z ∈ srt lt l ↔ z ∈ l := by
  have : ∀ (l out : List α), Asc lt out → Asc lt (l.foldl (fun out x => ins lt x out) out) ∧ ∀ z, z ∈ l.foldl (fun out x => ins lt x out) out ↔ z ∈ out ∨ z ∈ l := by
    intro l
    induction l with
    | nil => intro out ho; exact ⟨ho, by simp⟩
    | cons x l ih =>
      intro out ho
      obtain ⟨h1, h2⟩ := ih (ins lt x out) (asc_ins h x out ho)
      refine ⟨h1, fun z => ?_⟩
      rw [List.foldl_cons, h2, mem_ins, List.mem_cons]
      constructor
      · rintro ((e | e) | e)
        · exact .inr (.inl e)
        · exact .inl e
        · exact .inr (.inr e)
      · rintro (e | e | e)
        · exact .inl (.inr e)
        · exact .inl (.inl e)
        · exact .inr e
  intro l
  obtain ⟨h1, h2⟩ := this l [] (asc_nil lt)
  exact ⟨h1, fun z => (h2 z).trans (by simp)⟩
theorem srt_of {lt : α → α → Bool} (h : Ord lt) {l r : List α} (ha : Asc lt r) (hm : ∀ z, z ∈ r ↔ z ∈ l) : r = srt lt l :=
  uniq h _ _ ha (srt_is h l).1 fun x => (hm x).trans ((srt_is h l).2 x).symm
theorem srt_small {lt : α → α → Bool} (h : Ord lt) {l : List α} (hl : l.length < 2) : l = srt lt l := by
  refine srt_of h ?_ fun z => Iff.rfl
  match l, hl with
  | [], _ => exact asc_nil lt
  | [x], _ => simp [Asc]
theorem srt_halves {lt : α → α → Bool} (h : Ord lt) (l : List α) (m : Nat) : mrg lt (srt lt (l.take m)) (srt lt (l.drop m)) = srt lt l := by
  refine srt_of h (asc_mrg h _ _ (srt_is h _).1 (srt_is h _).1) fun z => ?_
  rw [mem_mrg h, (srt_is h _).2, (srt_is h _).2]
  conv => rhs; rw [← List.take_append_drop m l, List.mem_append]
def mns (a b : List α) : List α := a.filter fun x => !isIn x b
theorem mns_yes (a b : List α) (x : α) (h : isIn x b = true) : mns (a ++ [x]) b = mns a b := by
  unfold mns
  rw [List.filter_append]
  simp [h]
theorem mns_no (a b : List α) (x : α) (h : isIn x b = false) : mns (a ++ [x]) b = mns a b ++ [x] := by
  unfold mns
  rw [List.filter_append]
  simp [h]
theorem len_mns (a b : List α) : (mns a b).length ≤ a.length := List.length_filter_le _ _

end order

section bytes

def sp (c : UInt8) : Bool := c == 32 || c == 9 || c == 10 || c == 12 || c == 13
def low (c : UInt8) : UInt8 := if 65 ≤ c ∧ c ≤ 90 then c + 32 else c
end bytes
end Go.Proofs.Ytgjlfcamgkeibaa.Fm

namespace Go.Proofs.Ytgjlfcamgkeibaa.Fo
set_option linter.unusedSimpArgs false
set_option linter.unusedVariables false
open Go.RowKit Ba Fm
def lt (a b : ByteArray) : Bool := Op.bytesLess a.toList b.toList

theorem bl_irr : ∀ a : List UInt8, Op.bytesLess a a = false
  | [] => rfl
  | a :: x => by simp [Op.bytesLess, bl_irr x]
theorem bl_tr : ∀ a b c : List UInt8, Op.bytesLess a b = true → Op.bytesLess b c = true → Op.bytesLess a c = true
  | _, [], _, h, _ => by simp [Op.bytesLess] at h
  | _, _ :: _, [], _, h => by simp [Op.bytesLess] at h
  | [], _ :: _, _ :: _, _, _ => rfl
  | a :: x, b :: y, c :: z, h1, h2 => by
    simp only [Op.bytesLess, Bool.or_eq_true, Bool.and_eq_true, decide_eq_true_eq, beq_iff_eq] at h1 h2 ⊢
    rcases h1 with h1 | ⟨rfl, h1⟩
    · rcases h2 with h2 | ⟨rfl, h2⟩
      · exact .inl (UInt8.lt_trans h1 h2)
      · exact .inl h1
    · rcases h2 with h2 | ⟨rfl, h2⟩
      · exact .inl h2
      · exact .inr ⟨rfl, bl_tr x y z h1 h2⟩
theorem bl_tri : ∀ a b : List UInt8, Op.bytesLess a b = false → Op.bytesLess b a = false → a = b
  | [], [], _, _ => rfl
  | [], _ :: _, h, _ => by simp [Op.bytesLess] at h
  | _ :: _, [], _, h => by simp [Op.bytesLess] at h
  | a :: x, b :: y, h1, h2 => by
    simp only [Op.bytesLess, Bool.or_eq_false_iff, decide_eq_false_iff_not, UInt8.not_lt] at h1 h2
    have hab : a = b := UInt8.le_antisymm h2.1 h1.1
    subst hab
    have e1 := h1.2
    have e2 := h2.2
    simp at e1 e2
    rw [bl_tri x y e1 e2]
theorem ord_lt : Ord lt where
  irr a := bl_irr _
  tr a b c := bl_tr _ _ _
  tri a b h1 h2 := by
    have := bl_tri _ _ h1 h2
    rw [toList_L, toList_L] at this
    exact L_inj this

theorem below_dN {N : Nat} {a w : World} (h : Below N a w) (n : Nat) : Below N a (w.drewN n) := ⟨h.os, h.tape, h.output, h.size, h.block⟩

def lenOf : Value → Nat | .slice _ n _ => n | _ => 0

def Sv (w : World) (N : Nat) (v : Value) (l : List ByteArray) : Prop := ∃ A c, v = .slice A l.length c ∧ l.length ≤ c ∧ (A = none → c = 0) ∧ Rd w N A l
theorem sv_own {N : Nat} {w : World} {v : Value} {l : List ByteArray} (h : Sown N w v l) : Sv w w.heap.size v l := by
  rcases h.2 with ⟨hv, hl⟩ | ⟨g, cap, cur, hv, hg, hh, hn, hm, hs, ht⟩
  · have : l = [] := List.eq_nil_of_length_eq_zero hl
    subst this
    exact ⟨none, 0, hv, Nat.le_refl _, fun _ => rfl, Rd.nil _ _ _⟩
  · obtain ⟨A, c, hv', h1, _, h3⟩ := h.form
    refine ⟨A, c, hv', h1, fun e => ?_, h3⟩
    rw [hv] at hv'
    injection hv' with e1
    rw [e] at e1
    cases e1
theorem Sv.below {w w' : World} {N M : Nat} {v : Value} {l : List ByteArray} (h : Sv w N v l) (hb : Below M w w') (hN : N ≤ M) : Sv w' N v l := by
  obtain ⟨A, c, h1, h2, h3, h4⟩ := h
  exact ⟨A, c, h1, h2, h3, h4.below hb hN⟩
theorem Sv.more {w : World} {N M : Nat} {v : Value} {l : List ByteArray} (h : Sv w N v l) (hN : N ≤ M) : Sv w M v l := by
  obtain ⟨A, c, h1, h2, h3, h4⟩ := h
  exact ⟨A, c, h1, h2, h3, h4.more hN⟩

theorem sv_tail {w : World} {N b o c : Nat} {p : ByteArray} {x : List ByteArray} (h : Rd w N (some ⟨b, o, none⟩) (p :: x)) (hc : x.length + 1 ≤ c) : Sv w N (.slice (if c = 1 then some ⟨b, o, none⟩ else some ⟨b, o + 1, none⟩) x.length (c - 1)) x := by
  refine ⟨_, c - 1, rfl, by omega, fun e => ?_, fun h0 => ?_⟩
  · split at e <;> cases e
  · obtain ⟨b', o', e, hb, hcc⟩ := h (by simp)
    injection e with e
    injection e with e1 e2
    subst e1 e2
    rw [if_neg (by omega)]
    refine ⟨b, o + 1, rfl, hb, fun j hj => ?_⟩
    have := hcc (j + 1) (by simp; omega)
    rw [show o + 1 + j = o + (j + 1) from by omega]
    exact this
theorem Sv.rd {w : World} {N n c : Nat} {A : Option Addr} {l : List ByteArray} (h : Sv w N (.slice A n c) l) : Rd w N A l := by
  obtain ⟨A', c', e, _, _, hr⟩ := h
  injection e with e
  rw [e]
  exact hr
theorem own_other {N : Nat} {w : World} {v : Value} {l : List ByteArray} (h : Sown N w v l) {p : Addr} (hp : p.block < N) (u : Value) : Sown N (w.setCell p u) v l := ownsRow_setCell_below h hp u
theorem sown_dN {N : Nat} {w : World} {v : Value} {l : List ByteArray} (h : Sown N w v l) (n : Nat) : Sown N (w.drewN n) v l := h

theorem take_snocS (l : List ByteArray) (k : Nat) (h : k < l.length) : l.take (k + 1) = l.take k ++ [l[k]] := List.take_succ_eq_append_getElem h

end Go.Proofs.Ytgjlfcamgkeibaa.Fo

namespace Go.Proofs.Ytgjlfcamgkeibaa.Rk
set_option linter.unusedSimpArgs false
set_option linter.unusedVariables false
open Fm Ba
def unsafeL : List ByteArray := [⟨#[98, 97, 115, 101]⟩, ⟨#[101, 109, 98, 101, 100]⟩, ⟨#[102, 114, 97, 109, 101]⟩, ⟨#[105, 102, 114, 97, 109, 101]⟩, ⟨#[108, 105, 110, 107]⟩, ⟨#[109, 101, 116, 97]⟩, ⟨#[111, 98, 106, 101, 99, 116]⟩, ⟨#[115, 99, 114, 105, 112, 116]⟩]
def neverB (e : ByteArray) : Bool := isIn e unsafeL

end Go.Proofs.Ytgjlfcamgkeibaa.Rk

namespace Go.Proofs.Ytgjlfcamgkeibaa.Nm
set_option linter.unusedSimpArgs false
set_option linter.unusedVariables false
open Ba Fm
def elB (c : UInt8) : Bool := !(sp c || (65 ≤ c && c ≤ 90) || c == 0 || c == 47 || c == 62)
def atB (c : UInt8) : Bool := elB c && !(c == 34 || c == 39 || c == 60 || c == 61)
def small (c : UInt8) : Bool := 97 ≤ c && c ≤ 122
def rightL : List UInt8 → Bool
  | [] => false
  | c :: r => small c && (c :: r).all elB
def attrL : List UInt8 → Bool
  | [] => false
  | c :: r => (c :: r).all atB
def rightB (s : ByteArray) : Bool := rightL (L s)
def attrB (s : ByteArray) : Bool := attrL (L s)

end Go.Proofs.Ytgjlfcamgkeibaa.Nm

namespace Go.Proofs.Ytgjlfcamgkeibaa.Co
set_option linter.unusedSimpArgs false
set_option linter.unusedVariables false
open Ba Fm Fo Nm Rk
structure Pe where
  el : ByteArray
  at_ : List ByteArray
structure Cf where
  allow : Bool
  attrsAllow : Bool
  els : List ByteArray
  reps : List ByteArray
  ats : List ByteArray
  per : List Pe
  comments : Bool
  dataAttrs : Bool

def elementN (c : Cf) (s : ByteArray) : Nat := if isIn s c.reps = true then 2 else if isIn s c.els = c.allow then 0 else 1
def namedB (c : Cf) (e a : ByteArray) : Bool := (c.per.any fun p => decide (p.el = e) && isIn a p.at_) || isIn a c.ats
def dataL : List UInt8 := [100, 97, 116, 97, 45]
def dataB (a : ByteArray) : Bool := decide (5 < a.size) && decide ((L a).take 5 = dataL)
def attrB12 (c : Cf) (e a : ByteArray) : Bool := if c.attrsAllow = true then namedB c e a || (c.dataAttrs && dataB a) else !namedB c e a
def onceB (l : List ByteArray) : Bool := decide l.Nodup
def meetB (a b : List ByteArray) : Bool := a.any fun x => isIn x b
def bigB (c : Cf) : Bool := decide (64 < c.els.length) || decide (64 < c.reps.length) || decide (64 < c.ats.length) || decide (64 < c.per.length) || c.per.any fun p => decide (64 < p.at_.length)
def namesB (c : Cf) : Bool := c.els.all rightB && c.reps.all rightB && c.ats.all Nm.attrB && c.per.all fun p => rightB p.el && p.at_.all Nm.attrB
def singleB (c : Cf) : Bool := onceB c.els && onceB c.reps && onceB c.ats && onceB (c.per.map Pe.el) && c.per.all fun p => onceB p.at_
def bothB (c : Cf) : Bool := meetB c.els c.reps || (c.dataAttrs && !c.attrsAllow) || c.per.any fun p => meetB p.at_ c.ats
def checkN (c : Cf) : Nat := if bigB c = true then 2 else if namesB c = false then 121 else if singleB c = false then 122 else if bothB c = true then 120 else 0

def pickP (per : List Pe) (e : ByteArray) : List Pe := per.filter fun p => decide (p.el = e) && decide (p.at_ ≠ [])
def groupL (per : List Pe) (es : List ByteArray) : List Pe := es.flatMap (pickP per)
def sortP (p : Pe) : Pe := ⟨p.el, srt lt p.at_⟩
def canonPer (per : List Pe) : List Pe := groupL (per.map sortP) (srt lt (per.map Pe.el))
def canonC (c : Cf) : Cf := { c with els := srt lt c.els, reps := srt lt c.reps, ats := srt lt c.ats, per := canonPer c.per }
def stripC (c : Cf) : Cf := { c with els := if c.allow = true then mns c.els unsafeL else c.els ++ mns unsafeL c.els, reps := mns c.reps unsafeL }

/-! ### Lists -/
theorem isIn_iff {x : ByteArray} {l : List ByteArray} : isIn x l = true ↔ x ∈ l := ⟨isIn_of, isIn_yes⟩
theorem mem_srt {x : ByteArray} {l : List ByteArray} : x ∈ srt lt l ↔ x ∈ l := (srt_is ord_lt l).2 x
theorem srt_none {l : List ByteArray} : srt lt l = [] ↔ l = [] := by
  constructor
  · intro h
    cases l with
    | nil => rfl
    | cons a r =>
      have : a ∈ srt lt (a :: r) := mem_srt.2 List.mem_cons_self
      rw [h] at this
      cases this
  · rintro rfl; rfl
theorem asc_nodup {l : List ByteArray} (h : Asc lt l) : l.Nodup := List.Pairwise.imp (fun hab => ord_lt.ne hab) h
theorem meet_iff {a b : List ByteArray} : meetB a b = true ↔ ∃ x, x ∈ a ∧ x ∈ b := by
  unfold meetB
  rw [List.any_eq_true]
  exact ⟨fun ⟨x, h1, h2⟩ => ⟨x, h1, isIn_of h2⟩, fun ⟨x, h1, h2⟩ => ⟨x, h1, isIn_yes h2⟩⟩
theorem mem_mns {x : ByteArray} {a b : List ByteArray} : x ∈ mns a b ↔ x ∈ a ∧ x ∉ b := by
  unfold mns
  rw [List.mem_filter]
  constructor
  · rintro ⟨h1, h2⟩
    exact ⟨h1, fun h => by rw [isIn_yes h] at h2; cases h2⟩
  · rintro ⟨h1, h2⟩
    exact ⟨h1, by rw [isIn_no h2]; rfl⟩
/-! ### In order -/
theorem mem_pick {P : List Pe} {e : ByteArray} {p : Pe} : p ∈ pickP P e ↔ p ∈ P ∧ p.el = e ∧ p.at_ ≠ [] := by
  unfold pickP
  rw [List.mem_filter, Bool.and_eq_true, decide_eq_true_iff, decide_eq_true_iff]
theorem mem_group {P : List Pe} {es : List ByteArray} {p : Pe} : p ∈ groupL P es ↔ p ∈ P ∧ p.el ∈ es ∧ p.at_ ≠ [] := by
  unfold groupL
  rw [List.mem_flatMap]
  constructor
  · rintro ⟨e, he, hp⟩
    obtain ⟨h1, rfl, h2⟩ := mem_pick.1 hp
    exact ⟨h1, he, h2⟩
  · rintro ⟨h1, h2, h3⟩
    exact ⟨_, h2, mem_pick.2 ⟨h1, rfl, h3⟩⟩
theorem mem_canon {per : List Pe} {p : Pe} : p ∈ canonPer per ↔ ∃ q ∈ per, q.at_ ≠ [] ∧ p = sortP q := by
  unfold canonPer
  rw [mem_group]
  constructor
  · rintro ⟨h1, _, h2⟩
    obtain ⟨q, hq, rfl⟩ := List.mem_map.1 h1
    exact ⟨q, hq, fun h => h2 (srt_none.2 h), rfl⟩
  · rintro ⟨q, hq, h, rfl⟩
    exact ⟨List.mem_map.2 ⟨q, hq, rfl⟩, mem_srt.2 (List.mem_map.2 ⟨q, hq, rfl⟩), fun e => h (srt_none.1 e)⟩
instance : DecidableEq Pe := fun a b => by
  cases a; cases b
  rw [Pe.mk.injEq]
  infer_instance
theorem map_el (per : List Pe) : (per.map sortP).map Pe.el = per.map Pe.el := by rw [List.map_map]; rfl

/-! ### May it be -/
/-! ### Without what is never safe -/
/-! ### Data, few, turned -/
end Go.Proofs.Ytgjlfcamgkeibaa.Co

namespace Go.Proofs.Ytgjlfcamgkeibaa.Co
set_option maxRecDepth 100000
set_option linter.unusedVariables false
set_option linter.unusedSimpArgs false
open Go.RowKit Ba Fm Fo Nm Rk
structure Pw where
  pe : Pe
  A : Option Addr
  c : Nat
def pcells (x : Pw) : List Value := [.string x.pe.el, .slice x.A x.pe.at_.length x.c]
theorem len_pcells (x : Pw) : (pcells x).length = 2 := rfl
abbrev perV (x : Pw) : Value := .agg #[.string x.pe.el, .slice x.A x.pe.at_.length x.c]
def pes (l : List Pw) : List Pe := l.map Pw.pe
theorem len_pes (l : List Pw) : (pes l).length = l.length := List.length_map _
theorem pes_append (a b : List Pw) : pes (a ++ b) = pes a ++ pes b := by simp [pes]
theorem pes_take (l : List Pw) (k : Nat) : (pes l).take k = pes (l.take k) := by simp [pes, List.map_take]
def Sx (w : World) (N : Nat) (x : Pw) : Prop := Sv w N (.slice x.A x.pe.at_.length x.c) x.pe.at_
def Pr (w : World) (N : Nat) (A : Option Addr) (l : List Pw) : Prop :=
  (0 < l.length → ∃ b off, A = some ⟨b, off, none⟩ ∧ b < N ∧ ∀ j (h : j < l.length), w.rangeAt b (off + j * 2) (pcells l[j])) ∧ ∀ x ∈ l, Sx w N x
def Pv (w : World) (N : Nat) (v : Value) (l : List Pw) : Prop := ∃ A c, v = .slice A l.length c ∧ l.length ≤ c ∧ (A = none → c = 0) ∧ Pr w N A l

theorem range_keep12 {w w' : World} {b o : Nat} {cs : List Value} (h : w.rangeAt b o cs) (hk : ∀ o, w'.cell? ⟨b, o, none⟩ = w.cell? ⟨b, o, none⟩) : w'.rangeAt b o cs := fun j v hv => (hk _).trans (h j v hv)
theorem Sx.below {w w' : World} {N M : Nat} {x : Pw} (h : Sx w N x) (hb : Below M w w') (hN : N ≤ M := by exact Nat.le_refl _) : Sx w' N x := Sv.below h hb hN
theorem Sx.more {w : World} {N M : Nat} {x : Pw} (h : Sx w N x) (hN : N ≤ M) : Sx w M x := Sv.more h hN
theorem Pr.below {w w' : World} {N M : Nat} {A : Option Addr} {l : List Pw} (h : Pr w N A l) (hb : Below M w w') (hN : N ≤ M := by exact Nat.le_refl _) : Pr w' N A l :=
  ⟨fun h0 => by
    obtain ⟨b, off, e, hbN, hc⟩ := h.1 h0
    exact ⟨b, off, e, hbN, fun j hj => range_keep12 (hc j hj) fun o => hb.cell (p := ⟨b, o, none⟩) (show b < M by omega)⟩, fun x hx => (h.2 x hx).below hb hN⟩
theorem Pr.more {w : World} {N M : Nat} {A : Option Addr} {l : List Pw} (h : Pr w N A l) (hN : N ≤ M) : Pr w M A l :=
  ⟨fun h0 => by
    obtain ⟨b, off, e, hb, hc⟩ := h.1 h0
    exact ⟨b, off, e, by omega, hc⟩, fun x hx => (h.2 x hx).more hN⟩
theorem Pr.nil (w : World) (N : Nat) (A : Option Addr) : Pr w N A [] := ⟨fun h => absurd h (by simp), fun _ h => by simp at h⟩
theorem Pv.below {w w' : World} {N M : Nat} {v : Value} {l : List Pw} (h : Pv w N v l) (hb : Below M w w') (hN : N ≤ M := by exact Nat.le_refl _) : Pv w' N v l := by
  obtain ⟨A, c, h1, h2, h3, h4⟩ := h
  exact ⟨A, c, h1, h2, h3, h4.below hb hN⟩
theorem Pv.more {w : World} {N M : Nat} {v : Value} {l : List Pw} (h : Pv w N v l) (hN : N ≤ M) : Pv w M v l := by
  obtain ⟨A, c, h1, h2, h3, h4⟩ := h
  exact ⟨A, c, h1, h2, h3, h4.more hN⟩
theorem Pr.at_ {w : World} {N : Nat} {A : Option Addr} {l : List Pw} (h : Pr w N A l) (k : Nat) (hk : k < l.length) :
    ∃ b off x, A = some ⟨b, off, none⟩ ∧ b < N ∧ l[k]? = some x ∧ w.rangeAt b (off + k * 2) [.string x.pe.el, .slice x.A x.pe.at_.length x.c] ∧ Sx w N x ∧ x ∈ l := by
  obtain ⟨b, off, e, hb, hc⟩ := h.1 (by omega)
  exact ⟨b, off, l[k], e, hb, List.getElem?_eq_getElem hk, hc k hk, h.2 _ (List.getElem_mem _), List.getElem_mem _⟩
theorem info_per : (Try.prog.info? 48).map (fun i => (i.zero, i.size, i.bytes)) = some (some (.agg #[.string .empty, .slice none 0 0]), 2, 40) := by kernel_rfl
theorem range2p {w : World} {b o : Nat} {v0 v1 : Value} (h : w.rangeAt b o [v0, v1]) : w.cell? ⟨b, o, none⟩ = some v0 ∧ w.cell? ⟨b, o + 1, none⟩ = some v1 := ⟨h 0 _ rfl, h 1 _ rfl⟩

/-! ### A configuration -/
abbrev confV (c : Cf) (vE vR vA vP : Value) : Value := .agg #[.bool c.allow, .bool c.attrsAllow, vE, vR, vA, vP, .bool c.comments, .bool c.dataAttrs]
abbrev confO (c : Cf) (vE vR vA vP : Value) : Obj := .cells #[.bool c.allow, .bool c.attrsAllow, vE, vR, vA, vP, .bool c.comments, .bool c.dataAttrs] 26
theorem size_conf : (Try.prog.info? 26).map (·.size) = some 8 := by kernel_rfl
structure Cp (w : World) (N : Nat) (c : Cf) (vE vR vA vP : Value) (l : List Pw) : Prop where
  e : Sv w N vE c.els
  r : Sv w N vR c.reps
  a : Sv w N vA c.ats
  p : Pv w N vP l
  m : pes l = c.per
def Cv (w : World) (N : Nat) (v : Value) (c : Cf) : Prop := ∃ vE vR vA vP l, v = confV c vE vR vA vP ∧ Cp w N c vE vR vA vP l
theorem Cp.below {w w' : World} {N M : Nat} {c : Cf} {vE vR vA vP : Value} {l : List Pw} (h : Cp w N c vE vR vA vP l) (hb : Below M w w') (hN : N ≤ M := by exact Nat.le_refl _) : Cp w' N c vE vR vA vP l := ⟨h.e.below hb hN, h.r.below hb hN, h.a.below hb hN, h.p.below hb hN, h.m⟩
theorem Cp.more {w : World} {N M : Nat} {c : Cf} {vE vR vA vP : Value} {l : List Pw} (h : Cp w N c vE vR vA vP l) (hN : N ≤ M) : Cp w M c vE vR vA vP l := ⟨h.e.more hN, h.r.more hN, h.a.more hN, h.p.more hN, h.m⟩
theorem Cp.on {w w' : World} {c : Cf} {vE vR vA vP : Value} {l : List Pw} (h : Cp w w.heap.size c vE vR vA vP l) (hb : Below w.heap.size w w') : Cp w' w'.heap.size c vE vR vA vP l := (h.below hb).more hb.size
theorem Cv.below {w w' : World} {N M : Nat} {v : Value} {c : Cf} (h : Cv w N v c) (hb : Below M w w') (hN : N ≤ M := by exact Nat.le_refl _) : Cv w' N v c := by
  obtain ⟨vE, vR, vA, vP, l, e, h⟩ := h
  exact ⟨vE, vR, vA, vP, l, e, h.below hb hN⟩
theorem Cv.more {w : World} {N M : Nat} {v : Value} {c : Cf} (h : Cv w N v c) (hN : N ≤ M) : Cv w M v c := by
  obtain ⟨vE, vR, vA, vP, l, e, h⟩ := h
  exact ⟨vE, vR, vA, vP, l, e, h.more hN⟩
theorem Cv.on {w w' : World} {v : Value} {c : Cf} (h : Cv w w.heap.size v c) (hb : Below w.heap.size w w') : Cv w' w'.heap.size v c := (h.below hb).more hb.size
theorem sv_on {w w' : World} {v : Value} {l : List ByteArray} (h : Sv w w.heap.size v l) (hb : Below w.heap.size w w') : Sv w' w'.heap.size v l := (Sv.below h hb (Nat.le_refl _)).more hb.size
theorem Pv.on {w w' : World} {v : Value} {l : List Pw} (h : Pv w w.heap.size v l) (hb : Below w.heap.size w w') : Pv w' w'.heap.size v l := (h.below hb).more hb.size
def Bx (w : World) (b : Nat) (c : Cf) (vE vR vA vP : Value) : Prop := w.rangeAt b 0 [.bool c.allow, .bool c.attrsAllow, vE, vR, vA, vP, .bool c.comments, .bool c.dataAttrs]
theorem Bx.new (w : World) (c : Cf) (vE vR vA vP : Value) : Bx (w.alloc (confO c vE vR vA vP)) w.heap.size c vE vR vA vP := fun j v hv => by
  rw [Nat.zero_add, World.cell?_alloc_mark]
  match j, hv with
  | 0, hv | 1, hv | 2, hv | 3, hv | 4, hv | 5, hv | 6, hv | 7, hv => exact hv
  | j + 8, hv => simp at hv
theorem Bx.below {w w' : World} {b M : Nat} {c : Cf} {vE vR vA vP : Value} (h : Bx w b c vE vR vA vP) (hb : Below M w w') (hM : b < M) : Bx w' b c vE vR vA vP := range_keep12 h fun o => hb.cell (p := ⟨b, o, none⟩) hM
theorem Bx.at_ {w : World} {b : Nat} {c : Cf} {vE vR vA vP : Value} (h : Bx w b c vE vR vA vP) :
    w.cell? ⟨b, 0, none⟩ = some (.bool c.allow) ∧ w.cell? ⟨b, 1, none⟩ = some (.bool c.attrsAllow) ∧ w.cell? ⟨b, 2, none⟩ = some vE ∧ w.cell? ⟨b, 3, none⟩ = some vR ∧ w.cell? ⟨b, 4, none⟩ = some vA ∧ w.cell? ⟨b, 5, none⟩ = some vP ∧ w.cell? ⟨b, 6, none⟩ = some (.bool c.comments) ∧ w.cell? ⟨b, 7, none⟩ = some (.bool c.dataAttrs) :=
  ⟨h 0 _ rfl, h 1 _ rfl, h 2 _ rfl, h 3 _ rfl, h 4 _ rfl, h 5 _ rfl, h 6 _ rfl, h 7 _ rfl⟩
theorem below_new12 (w : World) (o : Obj) : Below w.heap.size w (w.alloc o) := (Below.refl _ _).alloc (Nat.le_refl _) _
theorem bel_eq12 {w w1 w2 : World} {n : Nat} (h : Below n w w1) (he : w2.heap = w1.heap) (ho : w2.os = w1.os) (ht : w2.tape = w1.tape) (hp : w2.output = w1.output) : Below n w w2 := ⟨ho.trans h.os, ht.trans h.tape, hp.trans h.output, by rw [he]; exact h.size, fun b hb => by rw [he]; exact h.block b hb⟩
def Hb (w : World) (g : Nat) (cs : Array Value) : Prop := w.heap[g]? = some (.cells cs 26)
theorem gcell12 (w : World) (b j : Nat) (u : Value) : w.grownBy (w.setCell ⟨b, j, none⟩ u) (some b) :=
  ⟨rfl, rfl, rfl, by simp [World.setCell], fun k _ hk => Below.heap_setCell _ _ _ _ (fun e => hk (by simp [e]))⟩
theorem gcells12 (b : Nat) : ∀ (vs : List Value) (o : Nat) (w : World), w.grownBy (w.setCells b o vs) (some b)
  | [], _, w => World.grownBy.refl w _
  | v :: r, o, w => (gcell12 w b o v).trans (gcells12 b r (o + 1) _)
theorem Hb.new (w : World) (cs : Array Value) : Hb (w.alloc (.cells cs 26)) w.heap.size cs := heap_alloc_new w _
theorem Hb.keep {w w' : World} {g : Nat} {cs : Array Value} (h : Hb w g cs) (hb : w'.heap[g]? = w.heap[g]?) : Hb w' g cs := hb.trans h
theorem Hb.lt {w : World} {g : Nat} {cs : Array Value} (h : Hb w g cs) : g < w.heap.size := (Array.getElem?_eq_some_iff.1 h).1
theorem Hb.below {w w' : World} {g M : Nat} {cs : Array Value} (h : Hb w g cs) (hb : Below M w w') (hM : g < M) : Hb w' g cs := h.keep (hb.block g hM)
theorem Hb.on {w w' : World} {g : Nat} {cs : Array Value} (h : Hb w g cs) (hb : Below w.heap.size w w') : Hb w' g cs := h.below hb h.lt
theorem Hb.set {w : World} {g : Nat} {cs : Array Value} (h : Hb w g cs) (j : Nat) (u : Value) (hj : j < cs.size := by simp) : Hb (w.setCell ⟨g, j, none⟩ u) g (cs.set j u hj) := by
  unfold Hb at h ⊢
  simp [World.setCell, Array.getElem?_modify, h, Array.setIfInBounds, hj]
theorem Hb.cell {w : World} {g : Nat} {cs : Array Value} (h : Hb w g cs) (j : Nat) (u : Value) (hu : cs[j]? = some u) : w.cell? ⟨g, j, none⟩ = some u := by
  rw [cell_of_row w g j _ _ _ h]
  exact hu
theorem Hb.f {w : World} {g : Nat} {cs : Array Value} (h : Hb w g cs) (j : Nat) : w.frozen? ⟨g, j, none⟩ = false := by
  unfold Hb at h
  simp [World.frozen?, h]
theorem Hb.there {w : World} {g : Nat} {cs : Array Value} (h : Hb w g cs) (n : Nat) (hn : n = cs.size) : w.there g 0 n := fun j hj => by
  rw [Nat.zero_add]
  exact ⟨by rw [h.cell j _ (Array.getElem?_eq_getElem (hn ▸ hj))]; rfl, h.f j⟩
theorem Hb.range {w : World} {g : Nat} {cs : Array Value} (h : Hb w g cs) : w.rangeAt g 0 cs.toList := fun j u hu => by
  rw [Nat.zero_add]
  exact h.cell j u (by rwa [Array.getElem?_toList] at hu)
structure Sm (c : Cf) : Prop where
  e : c.els.length ≤ 1000
  r : c.reps.length ≤ 1000
  a : c.ats.length ≤ 1000
  p : c.per.length ≤ 1000
  pa : ∀ p ∈ c.per, p.at_.length ≤ 1000
  es : ∀ s ∈ c.els, s.size ≤ 140737488355328
  rs : ∀ s ∈ c.reps, s.size ≤ 140737488355328
  as_ : ∀ s ∈ c.ats, s.size ≤ 140737488355328
  ps : ∀ p ∈ c.per, p.el.size ≤ 140737488355328 ∧ ∀ s ∈ p.at_, s.size ≤ 140737488355328

end Go.Proofs.Ytgjlfcamgkeibaa.Co

namespace Go.Proofs.Ytgjlfcamgkeibaa.Co
set_option maxRecDepth 100000
set_option linter.unusedVariables false
set_option linter.unusedSimpArgs false
open Go.RowKit Ba Fm Fo
theorem flat_at12 {α : Type} (f : α → List Value) (m : Nat) (hm : ∀ x, (f x).length = m) : ∀ (l : List α) (j i : Nat) (h : j < l.length), i < m → (l.flatMap f)[j * m + i]? = (f l[j])[i]?
  | [], j, _, h, _ => absurd h (by simp)
  | x :: r, 0, i, _, hi => by
    rw [List.flatMap_cons, List.getElem?_append_left (by rw [hm]; omega)]
    simp
  | x :: r, j + 1, i, h, hi => by
    rw [List.flatMap_cons, List.getElem?_append_right (by rw [hm, Nat.add_mul]; omega), hm, show (j + 1) * m + i - m = j * m + i from by rw [Nat.add_mul]; omega]
    rw [flat_at12 f m hm r j i (by simpa using h) hi]
    rfl
theorem flat_len12 {α : Type} (f : α → List Value) (m : Nat) (hm : ∀ x, (f x).length = m) : ∀ l : List α, (l.flatMap f).length = l.length * m
  | [] => by simp
  | x :: r => by rw [List.flatMap_cons, List.length_append, hm, flat_len12 f m hm r, List.length_cons, Nat.add_mul]; omega

def Ap (w : World) (N : Nat) (x : Pw) : Prop := 0 < x.pe.at_.length → ∃ b off, x.A = some ⟨b, off, none⟩ ∧ (b < N ∨ ∃ cs fr, w.heap[b]? = some (.cells cs 9 fr))
def Fp (N : Nat) (w : World) (x : Pw) : Prop := Sown N w (.slice x.A x.pe.at_.length x.c) x.pe.at_
def Po (N : Nat) (w : World) (v : Value) (l : List Pw) : Prop := w.ownsRow N 48 2 v l.length (l.flatMap pcells) ∧ ∀ x ∈ l, Sx w w.heap.size x ∧ Ap w N x

theorem Fp.sx {N : Nat} {w : World} {x : Pw} (h : Fp N w x) : Sx w w.heap.size x := sv_own h
theorem Fp.ap {N M : Nat} {w : World} {x : Pw} (h : Fp N w x) : Ap w M x := fun h0 => by
  rcases h.2 with ⟨hv, hn⟩ | ⟨g, cap, cur, hv, hg, hh, _⟩
  · omega
  · injection hv with e1
    exact ⟨g, 0, e1, .inr ⟨_, _, hh⟩⟩
theorem Fp.below {N M : Nat} {w w' : World} {x : Pw} (h : Fp N w x) (hb : Below M w w') (hM : w.heap.size ≤ M := by exact Nat.le_refl _) : Fp N w' x := Sown.below h hb hM
theorem Fp.mono {N N' : Nat} {w : World} {x : Pw} (h : Fp N w x) (hN : N' ≤ N) : Fp N' w x := Sown.mono h hN
theorem Ap.below {N M : Nat} {w w' : World} {x : Pw} (h : Ap w N x) (hb : Below M w w') (hM : w.heap.size ≤ M := by exact Nat.le_refl _) : Ap w' N x := fun h0 => by
  obtain ⟨b, off, e, h⟩ := h h0
  refine ⟨b, off, e, ?_⟩
  rcases h with h | ⟨cs, fr, h⟩
  · exact .inl h
  · refine .inr ⟨cs, fr, ?_⟩
    have hlt : b < w.heap.size := (Array.getElem?_eq_some_iff.1 h).1
    rw [hb.block b (by omega)]
    exact h
theorem Ap.more {N M : Nat} {w : World} {x : Pw} (h : Ap w N x) (hN : N ≤ M) : Ap w M x := fun h0 => by
  obtain ⟨b, off, e, h⟩ := h h0
  exact ⟨b, off, e, h.imp (fun h => by omega) id⟩
theorem Sx.apart {N : Nat} {w : World} {x : Pw} (h : Sx w N x) : Ap w N x := fun h0 => by
  obtain ⟨b, off, e, hb, _⟩ := Sv.rd h h0
  exact ⟨b, off, e, .inl hb⟩
theorem Po.nil (N : Nat) (w : World) : Po N w (.slice none 0 0) [] := ⟨World.ownsRow_nil w N _ 2, fun _ h => by simp at h⟩
theorem Po.made (w : World) : Po w.heap.size (w.alloc (.cells #[] 48)) (.slice (some ⟨w.heap.size, 0, none⟩) 0 0) [] :=
  ⟨World.ownsRow_made w #[] 0 (Nat.le_refl _) (Nat.zero_le _) rfl, fun _ h => by simp at h⟩
theorem Po.below {N M : Nat} {w w' : World} {v : Value} {l : List Pw} (h : Po N w v l) (hb : Below M w w') (hM : w.heap.size ≤ M := by exact Nat.le_refl _) : Po N w' v l := by
  refine ⟨⟨h.1.1, ?_⟩, fun x hx => ⟨((h.2 x hx).1.below hb hM).more hb.size, (h.2 x hx).2.below hb hM⟩⟩
  rcases h.1.2 with hn | ⟨g, cap, cur, hv, hg, hh, rest⟩
  · exact .inl hn
  · refine .inr ⟨g, cap, cur, hv, hg, ?_, rest⟩
    have hlt : g < w.heap.size := (Array.getElem?_eq_some_iff.1 hh).1
    rw [hb.block g (by omega)]
    exact hh
theorem Po.alloc {N : Nat} {w : World} {v : Value} {l : List Pw} (h : Po N w v l) (o : Obj) : Po N (w.alloc o) v l := h.below (below_new12 w o)
theorem Po.form {N : Nat} {w : World} {v : Value} {l : List Pw} (h : Po N w v l) : ∃ A c, v = .slice A l.length c ∧ l.length ≤ c ∧ c ≤ maxLen ∧ (A = none → c = 0) ∧ Pr w w.heap.size A l := by
  rcases h.1.2 with ⟨hv, hl⟩ | ⟨g, cap, cur, hv, hg, hh, hn, hm, hs, ht⟩
  · have : l = [] := List.eq_nil_of_length_eq_zero hl
    subst this
    exact ⟨none, 0, hv, Nat.le_refl _, Nat.zero_le _, fun _ => rfl, Pr.nil _ _ _⟩
  · refine ⟨some ⟨g, 0, none⟩, cap, hv, hn, hm, (fun e => by cases e), fun _ => ⟨g, 0, rfl, (Array.getElem?_eq_some_iff.1 hh).1, fun j hj i u hu => ?_⟩, fun x hx => (h.2 x hx).1⟩
    have hi : i < 2 := (List.getElem?_eq_some_iff.1 hu).1
    subst hv
    have := World.ownsRow.cells h.1 (g := g) rfl (j * 2 + i) u (by rw [flat_at12 pcells 2 len_pcells _ _ _ hj hi]; exact hu)
    rw [WideShapes.add_plain] at this
    rw [show 0 + j * 2 + i = 0 + (j * 2 + i) from by omega]
    exact this
theorem Po.pv {N : Nat} {w : World} {v : Value} {l : List Pw} (h : Po N w v l) : Pv w w.heap.size v l := by
  obtain ⟨A, c, e, h1, _, h2, h3⟩ := h.form
  exact ⟨A, c, e, h1, h2, h3⟩

theorem pblock_ne {N n : Nat} {w : World} {v : Value} {xs : List Value} {b : Nat} {cs : Array Value} {fr : Nat × Nat} (h : w.ownsRow N 48 2 v n xs) (hb : w.heap[b]? = some (.cells cs 9 fr)) : some b ≠ v.ownBlock := by
  rcases h.2 with ⟨rfl, _⟩ | ⟨g, cap, cur, rfl, _, hh, _⟩
  · simp [Value.ownBlock]
  · intro e
    have e : b = g := by simpa [Value.ownBlock] using e
    subst e
    rw [hb] at hh
    injection hh with hh
    injection hh with _ ht
    exact absurd ht (by decide)
theorem plow_ne {N n : Nat} {w : World} {v : Value} {xs : List Value} {b : Nat} (h : w.ownsRow N 48 2 v n xs) (hb : b < N) : some b ≠ v.ownBlock := fun e => by
  have := (World.ownsRow.lt h b e.symm).1
  omega
theorem Sx.grown {N n : Nat} {w w' : World} {v : Value} {xs : List Value} {y : Pw} (h : w.ownsRow N 48 2 v n xs) (hg : w.grownBy w' v.ownBlock) (hy : Sx w w.heap.size y) (ha : Ap w N y) : Sx w' w'.heap.size y := by
  obtain ⟨A, c, e, h1, h2, h3⟩ := hy
  injection e with e1 e2 e3
  refine ⟨A, c, by rw [e1, e3], h1, h2, fun h0 => ?_⟩
  obtain ⟨b, off, e, hb, hc⟩ := h3 h0
  obtain ⟨b', off', e', ha⟩ := ha h0
  rw [e1, e] at e'
  injection e' with e'
  injection e' with e4 e5
  subst e4 e5
  have hne : some b ≠ v.ownBlock := by
    rcases ha with ha | ⟨cs, fr, ha⟩
    · exact plow_ne h ha
    · exact pblock_ne h ha
  exact ⟨b, off, e, Nat.lt_of_lt_of_le hb hg.size, fun j hj => (World.cell?_of_block (a := ⟨b, off + j, none⟩) (hg.block b hb hne)).trans (hc j hj)⟩
theorem Ap.grown {N n : Nat} {w w' : World} {v : Value} {xs : List Value} {y : Pw} (h : w.ownsRow N 48 2 v n xs) (hg : w.grownBy w' v.ownBlock) (ha : Ap w N y) : Ap w' N y := fun h0 => by
  obtain ⟨b, off, e, ha⟩ := ha h0
  refine ⟨b, off, e, ?_⟩
  rcases ha with ha | ⟨cs, fr, ha⟩
  · exact .inl ha
  · exact .inr ⟨cs, fr, (hg.block b (Array.getElem?_eq_some_iff.1 ha).1 (pblock_ne h ha)).trans ha⟩
theorem Sown.grownP {N M n : Nat} {w w' : World} {v u : Value} {xs : List Value} {l : List ByteArray} (h : w.ownsRow M 48 2 v n xs) (hg : w.grownBy w' v.ownBlock) (hy : Sown N w u l) : Sown N w' u l := by
  refine ⟨hy.1, ?_⟩
  rcases hy.2 with hn | ⟨g, cap, cur, hv, hg', hh, rest⟩
  · exact .inl hn
  · exact .inr ⟨g, cap, cur, hv, hg', (hg.block g (Array.getElem?_eq_some_iff.1 hh).1 (pblock_ne h hh)).trans hh, rest⟩
abbrev perO (x : Pw) : Obj := .cells #[.string x.pe.el, .slice x.A x.pe.at_.length x.c] 48
theorem pbox_at (w : World) (x : Pw) (j : Nat) : (w.alloc (perO x)).cell? ⟨w.heap.size, j, none⟩ = (pcells x)[j]? := by
  rw [World.cell?_alloc_mark]
  match j with
  | 0 | 1 => rfl
  | j + 2 => simp [pcells]
theorem pbox_kept {w w3 : World} {x : Pw} (hb : Below (w.alloc (perO x)).heap.size (w.alloc (perO x)) w3) (j : Nat) : w3.cell? ⟨w.heap.size, j, none⟩ = (pcells x)[j]? :=
  (hb.cell (p := ⟨w.heap.size, j, none⟩) (by simp)).trans (pbox_at w x j)
theorem pcells_one (x : Pw) : ∀ u ∈ pcells x, u.oneCell' = true := by
  intro u hu
  simp only [pcells, List.mem_cons, List.not_mem_nil, or_false] at hu
  rcases hu with rfl | rfl <;> rfl
theorem Sx.boxed {w w0 : World} {x : Pw} (h : Sx w w0.heap.size x) (hb : Below w0.heap.size w0 w) (o : Obj) : Sx (w.alloc o) (w.alloc o).heap.size x :=
  ((h.more hb.size).below (below_new12 w o)).more (by simp)
theorem app_pers {ops : Array Oper} {rest : List Oper} {o : Oper} {a : Act} {Q : Exit → Act → World → Prop} (w : World) (hgd : o.guard = none) (s x : Operand)
    (ho : o.op = .call { callee := .builtin .append, args := #[s, x], argTypes := #[24, 24] })
    (N : Nat) (v : Value) (l m : List Pw) (B : Option Addr) (c : Nat) (hs : a.eval s = v) (hown : Po N w v l) (hx : a.eval x = .slice B m.length c) (hB : B = none → c = 0) (hr : Pr w w.heap.size B m) (hap : ∀ y ∈ m, Ap w N y)
    (hl : l.length + m.length ≤ 2000000) (hN : N ≤ w.heap.size)
    (h : ∀ v' w', Po N w' v' (l ++ m) → (∀ w0, Below N w0 w → Below N w0 w') → (∀ M u m, Sown M w u m → Sown M w' u m) → w.grownBy w' v.ownBlock → wpList Try.prog ops Q rest (a.put o.dst v') w') :
    wpList Try.prog ops Q (o :: rest) a w := by
  obtain ⟨i0, hi, hz0, hz1, hz2⟩ := info_parts info_per
  cases B with
  | none =>
    have hm : m = [] := by
      rcases Nat.eq_zero_or_pos m.length with h0 | h0
      · exact List.eq_nil_of_length_eq_zero h0
      · obtain ⟨b, off, e, _⟩ := hr.1 h0
        cases e
    subst hm
    rw [hB rfl] at hx
    refine wpList_append_own_none hgd s x 24 ho N 48 i0 2 Try.underlying24 hi v l.length (l.flatMap pcells) hs hown.1 hx ?_
    exact h v w (by rw [List.append_nil]; exact hown) (fun _ hb => hb) (fun _ _ _ hz => hz) (World.grownBy.refl _ _)
  | some ad =>
    have hcells : ∀ j u, (m.flatMap pcells)[j]? = some u → w.cell? (ad.add j) = some u := by
      intro j u hu
      have hj : j < (m.flatMap pcells).length := (List.getElem?_eq_some_iff.1 hu).1
      rw [flat_len12 pcells 2 len_pcells] at hj
      obtain ⟨b, off, e, _, hc⟩ := hr.1 (by omega)
      injection e with e
      subst e
      rw [WideShapes.add_plain]
      have hq := hc (j / 2) (by omega) (j % 2) u (by rw [← flat_at12 pcells 2 len_pcells _ _ _ (by omega) (Nat.mod_lt _ (by decide)), show j / 2 * 2 + j % 2 = j from by omega]; exact hu)
      rw [show off + j / 2 * 2 + j % 2 = off + j from by omega] at hq
      exact hq
    refine wpList_append_own _ hgd s x 24 ho N 48 i0 _ 2 40 Try.underlying24 hi hz0 hz1 hz2 rfl (by decide) v l.length (l.flatMap pcells) hs hown.1 ad m.length c (m.flatMap pcells) hx (flat_len12 pcells 2 len_pcells _) hcells (by
      intro u hu
      obtain ⟨y, _, hu⟩ := List.mem_flatMap.1 hu
      exact pcells_one y u hu) (by unfold maxLen; omega) (by omega) hN ?_
    intro v' w' ho2 hg2 _
    have hk : ∀ w0, Below N w0 w → Below N w0 w' := fun w0 hb => hb.grown hg2 hN fun k hk => (World.ownsRow.lt hown.1 k hk).1
    refine h v' w' ⟨?_, ?_⟩ hk (fun M u m hz => Sown.grownP hown.1 hg2 hz) hg2
    · rw [List.length_append, List.flatMap_append]
      exact ho2
    · intro z hz
      rcases List.mem_append.1 hz with hz | hz
      · exact ⟨(hown.2 z hz).1.grown hown.1 hg2 (hown.2 z hz).2, (hown.2 z hz).2.grown hown.1 hg2⟩
      · exact ⟨(hr.2 z hz).grown hown.1 hg2 (hap z hz), (hap z hz).grown hown.1 hg2⟩

theorem row_boxed {w w' : World} {N size n g : Nat} {e : TypeId} {v : Value} {xs : List Value} {cs : Array Value} (h : w.ownsRow N e size v n xs) (he : e ≠ 26) (hb : Hb w g cs) (hg : w.grownBy w' (some g)) : w'.ownsRow N e size v n xs := by
  refine ⟨h.1, ?_⟩
  rcases h.2 with hn | ⟨b, cap, cur, hv, hN, hh, rest⟩
  · exact .inl hn
  · refine .inr ⟨b, cap, cur, hv, hN, ?_, rest⟩
    have hne : b ≠ g := fun e' => by
      subst e'
      unfold Hb at hb
      rw [hb] at hh
      injection hh with hh
      injection hh with _ ht
      exact he ht.symm
    rw [hg.block b (Array.getElem?_eq_some_iff.1 hh).1 (by simpa using hne)]
    exact hh
theorem own_boxed {w w' : World} {N g : Nat} {v : Value} {l : List ByteArray} {cs : Array Value} (h : Sown N w v l) (hb : Hb w g cs) (hg : w.grownBy w' (some g)) : Sown N w' v l := row_boxed h (by decide) hb hg
theorem po_of {N : Nat} {w : World} {v : Value} {l : List Pw} (h : w.ownsRow N 48 2 v l.length (l.flatMap pcells)) (hf : ∀ x ∈ l, Fp N w x) : Po N w v l := ⟨h, fun x hx => ⟨(hf x hx).sx, (hf x hx).ap⟩⟩

theorem row_elder {w w' : World} {N size n : Nat} {e : TypeId} {v : Value} {xs : List Value} {row : Option Nat} (h : w.ownsRow N e size v n xs) (hg : w.grownBy w' row) (hr : ∀ b, row = some b → b < N) : w'.ownsRow N e size v n xs := by
  refine ⟨h.1, ?_⟩
  rcases h.2 with hn | ⟨b, cap, cur, hv, hN, hh, rest⟩
  · exact .inl hn
  · refine .inr ⟨b, cap, cur, hv, hN, ?_, rest⟩
    rw [hg.block b (Array.getElem?_eq_some_iff.1 hh).1 (fun e => by have := hr b e.symm; omega)]
    exact hh
theorem hb_beside {w w' : World} {N g : Nat} {cs : Array Value} {v : Value} {l : List ByteArray} (h : Hb w g cs) (ho : Sown N w v l) (hg : w.grownBy w' v.ownBlock) : Hb w' g cs := by
  refine h.keep (hg.block g h.lt fun e => ?_)
  rcases ho.2 with ⟨e1, _⟩ | ⟨b, cap, cur, e1, _, hh, _⟩
  · subst e1
    simp [Value.ownBlock] at e
  · subst e1
    have e : g = b := by simpa [Value.ownBlock] using e
    subst e
    unfold Hb at h
    rw [h] at hh
    injection hh with hh
    injection hh with _ ht
    exact absurd ht (by decide)
structure Own12 (N : Nat) (w : World) (c : Cf) (vE vR vA vP : Value) (l : List Pw) : Prop where
  e : Sown N w vE c.els
  r : Sown N w vR c.reps
  a : Sown N w vA c.ats
  p : Po N w vP l
  f : ∀ x ∈ l, Fp N w x
  m : pes l = c.per
def Cow (N : Nat) (w : World) (v : Value) (c : Cf) : Prop := ∃ vE vR vA vP l, v = confV c vE vR vA vP ∧ Own12 N w c vE vR vA vP l
theorem Own12.cp {N : Nat} {w : World} {c : Cf} {vE vR vA vP : Value} {l : List Pw} (h : Own12 N w c vE vR vA vP l) : Cp w w.heap.size c vE vR vA vP l := ⟨sv_own h.e, sv_own h.r, sv_own h.a, h.p.pv, h.m⟩
theorem Own12.below {N : Nat} {w w' : World} {c : Cf} {vE vR vA vP : Value} {l : List Pw} (h : Own12 N w c vE vR vA vP l) (hb : Below w.heap.size w w') : Own12 N w' c vE vR vA vP l :=
  ⟨h.e.below hb (Nat.le_refl _), h.r.below hb (Nat.le_refl _), h.a.below hb (Nat.le_refl _), h.p.below hb, fun x hx => (h.f x hx).below hb, h.m⟩
theorem Own12.mono {N M : Nat} {w : World} {c : Cf} {vE vR vA vP : Value} {l : List Pw} (h : Own12 N w c vE vR vA vP l) (hN : M ≤ N) : Own12 M w c vE vR vA vP l :=
  ⟨h.e.mono hN, h.r.mono hN, h.a.mono hN, ⟨World.ownsRow.mono h.p.1 hN, fun x hx => ⟨(h.p.2 x hx).1, (h.f x hx).ap⟩⟩, fun x hx => (h.f x hx).mono hN, h.m⟩
theorem Own12.boxed {N g : Nat} {w w' : World} {c : Cf} {vE vR vA vP : Value} {l : List Pw} {cs : Array Value} (h : Own12 N w c vE vR vA vP l) (hb : Hb w g cs) (hg : w.grownBy w' (some g)) : Own12 N w' c vE vR vA vP l :=
  have hf : ∀ x ∈ l, Fp N w' x := fun x hx => own_boxed (h.f x hx) hb hg
  ⟨own_boxed h.e hb hg, own_boxed h.r hb hg, own_boxed h.a hb hg, po_of (row_boxed h.p.1 (by decide) hb hg) hf, hf, h.m⟩
theorem Cow.cv {N : Nat} {w : World} {v : Value} {c : Cf} (h : Cow N w v c) : Cv w w.heap.size v c := by
  obtain ⟨vE, vR, vA, vP, l, e, h⟩ := h
  exact ⟨vE, vR, vA, vP, l, e, h.cp⟩
theorem Cow.below {N : Nat} {w w' : World} {v : Value} {c : Cf} (h : Cow N w v c) (hb : Below w.heap.size w w') : Cow N w' v c := by
  obtain ⟨vE, vR, vA, vP, l, e, h⟩ := h
  exact ⟨vE, vR, vA, vP, l, e, h.below hb⟩
theorem Cow.mono {N M : Nat} {w : World} {v : Value} {c : Cf} (h : Cow N w v c) (hN : M ≤ N) : Cow M w v c := by
  obtain ⟨vE, vR, vA, vP, l, e, h⟩ := h
  exact ⟨vE, vR, vA, vP, l, e, h.mono hN⟩
theorem own_shape {N : Nat} {w : World} {v : Value} {l : List ByteArray} (h : Sown N w v l) : ∃ A n c, v = .slice A n c := by
  obtain ⟨A, c, e, _⟩ := h.form
  exact ⟨A, _, c, e⟩
theorem po_shape {N : Nat} {w : World} {v : Value} {l : List Pw} (h : Po N w v l) : ∃ A n c, v = .slice A n c := by
  obtain ⟨A, c, e, _⟩ := h.form
  exact ⟨A, _, c, e⟩
abbrev zeroA : Array Value := #[.bool false, .bool false, .slice none 0 0, .slice none 0 0, .slice none 0 0, .slice none 0 0, .bool false, .bool false]
theorem res_box {w : World} {g : Nat} {cs : Array Value} {c : Cf} {vE vR vA vP : Value} (h : Hb w g cs) (hc : cs.size = 8) :
    ∃ W, W = w.setCells g 0 [.bool c.allow, .bool c.attrsAllow, vE, vR, vA, vP, .bool c.comments, .bool c.dataAttrs] ∧ w.grownBy W (some g) ∧ Bx W g c vE vR vA vP :=
  ⟨_, rfl, gcells12 g _ 0 w, World.rangeAt_setCells_same w g 0 [.bool c.allow, .bool c.attrsAllow, vE, vR, vA, vP, .bool c.comments, .bool c.dataAttrs] (h.there 8 hc.symm)⟩

end Go.Proofs.Ytgjlfcamgkeibaa.Co

namespace Go.Proofs.Ytgjlfcamgkeibaa.Co
set_option maxRecDepth 100000
set_option linter.unusedVariables false
set_option linter.unusedSimpArgs false
open Go.RowKit Ba Fm Fo Nm Rk
theorem in_snoc (l : List ByteArray) (s : ByteArray) (k : Nat) (h : k < l.length) (hn : ¬ s ∈ l.take k) (he : l[k] ≠ s) : ¬ s ∈ l.take (k + 1) := by
  rw [List.take_succ_eq_append_getElem h, List.mem_append]
  rintro (h' | h')
  · exact hn h'
  · exact he (List.mem_singleton.1 h').symm
set_option maxHeartbeats 400000 in
theorem among_any (A : Option Addr) (c N : Nat) (l : List ByteArray) (s : ByteArray) (w : World) (hr : Rd w N A l) (hl : l.length ≤ 8796093022208) :
    Calls Try.prog 89 #[.slice A l.length c, .string s] w fun e w' => e = .returned (.bool (isIn s l)) ∧ w = w' := by
  go_enter Try.func89, Try.ntmps89
  go_wp2
  go_loop [6, 9] (fun _ i => ∃ k : Nat, i = .int .i64 k ∧ k ≤ l.length ∧ ¬ s ∈ l.take k) (fun _ i => l.length - (intOf i).toNat)
  case atStart => exact ⟨0, rfl, Nat.zero_le _, by simp⟩
  case round =>
    obtain ⟨k, rfl, hks, hn⟩ := hrel
    have HN := Lib.hid hn; clear hn
    by_cases hp : k < l.length
    · obtain ⟨b, off, rfl, _, hc⟩ := hr (by omega)
      have hcell := hc k hp
      clear hc hr
      have heq := eq_of_toList (a := l[k]) (b := s)
      by_cases he : l[k] = s
      · rw [decide_eq_true he] at heq
        have HE := Lib.hid he; clear he
        go_wp2
        go_ret
        exact ⟨ret_bool (isIn_yes (by have := HE.out; rw [← this]; exact List.getElem_mem _)).symm, rfl⟩
      · rw [decide_eq_false he] at heq
        have HE := Lib.hid he; clear he
        go_wp2
        go_round
        case rel => exact ⟨k + 1, by go_num, by omega, in_snoc l s k hp HN.out HE.out⟩
        case measure => simp [intOf]; omega
    · go_wp2
      go_ret
      refine ⟨ret_bool (isIn_no ?_).symm, rfl⟩
      have := HN.out
      rwa [List.take_of_length_le (by omega)] at this
theorem among1 (v : Value) (N : Nat) (l : List ByteArray) (s : ByteArray) (w : World) (q : Bool) (h : Sv w N v l) (hl : l.length ≤ 1000000) (hq : isIn s l = q) :
    Calls Try.prog 89 #[v, .string s] w fun e w' => e = .returned (.bool q) ∧ w = w' := by
  obtain ⟨A, c, rfl, _, _, hr⟩ := h
  subst hq
  exact among_any A c N l s w hr (by omega)
theorem among_q (v : Value) (N : Nat) (l : List ByteArray) (s : ByteArray) (w : World) (q : Bool) (h : Sv w N v l) (hl : l.length ≤ 1000000) (hq : isIn s l = q) (n : Nat) :
    Calls Try.prog 89 #[v, .string s] (w.drewN n) fun e w'' => e = .returned (.bool q) ∧ ∃ m, w'' = w.drewN m :=
  (among1 v N l s (w.drewN n) q h hl hq).mono fun e w' ⟨he, hw⟩ => ⟨he, n, hw.symm⟩
theorem equal1 (a b : ByteArray) (w : World) (q : Bool) (hq : decide (a = b) = q) :
    Calls Try.prog 86 #[.string a, .string b] w fun e w' => e = .returned (.bool q) ∧ w = w' := by
  have h := (eq_of_toList (a := a) (b := b)).trans hq
  clear hq
  go_enter Try.func86, Try.ntmps86
  go_wp2
  go_ret
  exact ⟨rfl, rfl⟩
theorem data_short {a : ByteArray} (h : ¬ 5 < a.size) : dataB a = false := by
  unfold dataB
  rw [decide_eq_false h]; rfl
theorem data_long {a : ByteArray} (h : 5 < a.size) : dataB a = ((a.extract 0 5).toList == dataL) := by
  unfold dataB
  rw [decide_eq_true h, Bool.true_and, toList_L, L_extract, List.drop_zero]
  rw [Bool.eq_iff_iff, decide_eq_true_iff, beq_iff_eq]
theorem isData1 (a : ByteArray) (w : World) (q : Bool) (ha : a.size ≤ 140737488355328) (hq : dataB a = q) :
    Calls Try.prog 71 #[.string a] w fun e w' => e = .returned (.bool q) ∧ w = w' := by
  by_cases h : 5 < a.size
  · rw [data_long h] at hq
    unfold dataL at hq
    have h1 : (5 : Int) < (a.size : Int) := by omega
    have h2 : decide (5 < a.size) = true := decide_eq_true h
    go_enter Try.func71, Try.ntmps71
    cases q with
    | true =>
      go_wp2
      go_ret
      exact ⟨rfl, rfl⟩
    | false =>
      go_wp2
      go_ret
      exact ⟨rfl, rfl⟩
  · rw [data_short h] at hq
    subst hq
    have h1 : ¬ (5 : Int) < (a.size : Int) := by omega
    have h2 : decide (5 < a.size) = false := decide_eq_false h
    go_enter Try.func71, Try.ntmps71
    go_wp2
    go_ret
    exact ⟨rfl, rfl⟩

theorem element1 (v : Value) (c : Cf) (s : ByteArray) (w : World) (q : Nat) (h : Cv w w.heap.size v c) (hs : Sm c) (hq : elementN c s = q) :
    Calls Try.prog 57 #[v, .string s] w fun e w' => e = .returned (.int .i64 q) ∧ Below w.heap.size w w' := by
  obtain ⟨vE, vR, vA, vP, l, rfl, h⟩ := h
  unfold elementN at hq
  have hb1 := below_new12 w (confO c vE vR vA vP)
  have hbx := (Bx.new w c vE vR vA vP).at_
  obtain ⟨_, _, _, _, _, _, _, _⟩ := hbx
  have hr := sv_on h.r hb1
  have he := sv_on h.e hb1
  go_enter Try.func57, Try.ntmps57
  cases hR : isIn s c.reps with
  | true =>
    rw [hR, if_pos rfl] at hq
    subst hq
    go_wp2_with fail
    refine (among1 vR _ c.reps s _ true hr (by have := hs.r; omega) hR).mono ?_
    rintro e w1 ⟨rfl, rfl⟩
    go_wp2
    go_ret
    exact ⟨rfl, hb1⟩
  | false =>
    rw [hR, if_neg (by simp)] at hq
    go_wp2_with fail
    refine (among1 vR _ c.reps s _ false hr (by have := hs.r; omega) hR).mono ?_
    rintro e w1 ⟨rfl, rfl⟩
    obtain ⟨b, hE⟩ : ∃ b, isIn s c.els = b := ⟨_, rfl⟩
    rw [hE] at hq
    have HQ := Lib.hid (among_q vE _ c.els s _ b he (by have := hs.e; omega) hE)
    clear he hE
    cases hbc : (b == c.allow) with
    | true =>
      rw [if_pos (eq_of_beq hbc)] at hq
      subst hq
      go_wp2
      go_quiet ((go_at_call 89; exact HQ.out _))
      go_wp2
      go_ret
      exact ⟨rfl, below_dN hb1 _⟩
    | false =>
      rw [if_neg (fun e => by rw [e] at hbc; simp at hbc)] at hq
      subst hq
      go_wp2
      go_quiet ((go_at_call 89; exact HQ.out _))
      go_wp2
      go_ret
      exact ⟨rfl, below_dN hb1 _⟩

theorem any_snoc {α : Type} (p : α → Bool) (l : List α) (k : Nat) (x : α) (h : l[k]? = some x) : (l.take (k + 1)).any p = ((l.take k).any p || p x) := by
  have hk : k < l.length := (List.getElem?_eq_some_iff.1 h).1
  have hx : l[k] = x := (List.getElem?_eq_some_iff.1 h).2
  rw [List.take_succ_eq_append_getElem hk, List.any_append, hx]
  simp
theorem any_yes {α : Type} (p : α → Bool) (l : List α) (x : α) (h : x ∈ l) (hp : p x = true) : l.any p = true := List.any_eq_true.2 ⟨x, h, hp⟩
set_option maxRecDepth 100000 in
set_option maxHeartbeats 2000000 in
theorem named1 (v : Value) (c : Cf) (e a : ByteArray) (w : World) (q : Bool) (h : Cv w w.heap.size v c) (hs : Sm c) (hq : namedB c e a = q) :
    Calls Try.prog 70 #[v, .string e, .string a] w fun r w' => r = .returned (.bool q) ∧ Below w.heap.size w w' := by
  obtain ⟨vE, vR, vA, vP, l, rfl, h⟩ := h
  obtain ⟨w0, hw0⟩ : ∃ w0, w.alloc (confO c vE vR vA vP) = w0 := ⟨_, rfl⟩
  have hb1 : Below w.heap.size w w0 := hw0 ▸ below_new12 w (confO c vE vR vA vP)
  have hbx : Bx w0 w.heap.size c vE vR vA vP := hw0 ▸ Bx.new w c vE vR vA vP
  have hz : w.heap.size < w0.heap.size := by rw [← hw0]; simp
  have HW := Lib.hid hw0; clear hw0
  obtain ⟨A, cp, rfl, hcp, hna, hr⟩ := h.p
  have hl : l.length ≤ 1000 := by have := hs.p; rw [← h.m, len_pes] at this; exact this
  have hmap : namedB c e a = (l.any (fun x => decide (x.pe.el = e) && isIn a x.pe.at_) || isIn a c.ats) := by
    unfold namedB
    rw [← h.m]
    unfold pes
    rw [List.any_map]
    rfl
  rw [hmap] at hq
  obtain ⟨p, hp⟩ : ∃ p : Pw → Bool, p = fun x => decide (x.pe.el = e) && isIn a x.pe.at_ := ⟨_, rfl⟩
  rw [← hp] at hq
  have HP := Lib.hid hp; clear hp hmap
  have hva := h.a
  have hlen : ∀ x ∈ l, x.pe.at_.length ≤ 1000 := fun x hx => hs.pa _ (by rw [← h.m]; exact List.mem_map.2 ⟨x, hx, rfl⟩)
  have HLEN := Lib.hid hlen; clear hlen
  have HQ := Lib.hid hq; clear hq
  go_enter Try.func70, Try.ntmps70
  go_wp2
  rw [HW.out]
  go_loopw [8, 12] (fun _ i wr => ∃ k : Nat, i = .int .i64 k ∧ k ≤ l.length ∧ (l.take k).any p = false ∧ Below w0.heap.size w0 wr) (fun _ i _ => l.length - (intOf i).toNat)
  case atStart => exact ⟨0, rfl, Nat.zero_le _, rfl, Below.refl _ _⟩
  case round =>
    obtain ⟨k, rfl, hks, hn, hbel⟩ := hrel
    by_cases hk : k < l.length
    · have hr1 := hr.below (hb1.trans (hbel.mono (Nat.le_of_lt hz)))
      obtain ⟨b, off, x, rfl, hb, hx, hcs, hsx, hxm⟩ := hr1.at_ k hk
      obtain ⟨g0, g1⟩ := range2p hcs
      have hxl := HLEN.out x hxm
      have hsn := any_snoc p l k x hx
      rw [hn, Bool.false_or] at hsn
      have hpx : p x = (decide (x.pe.el = e) && isIn a x.pe.at_) := by rw [HP.out]
      have hsx1 : Sx (wr.alloc (perO x)) w.heap.size x := hsx.below (below_new12 wr (perO x)) (Nat.le_trans (Nat.le_of_lt hz) hbel.size)
      have hbel1 := hbel.trans ((below_new12 wr (perO x)).mono hbel.size)
      clear hcs hsx hr1
      by_cases he : x.pe.el.toList = e.toList
      · have he' : x.pe.el = e := L_inj (by rw [← toList_L, ← toList_L]; exact he)
        rw [decide_eq_true he', Bool.true_and] at hpx
        obtain ⟨b1, hb1'⟩ : ∃ b1, isIn a x.pe.at_ = b1 := ⟨_, rfl⟩
        rw [hb1'] at hpx
        rw [hpx] at hsn
        have HB := Lib.hid hb1'; have HPX := Lib.hid hpx; have HSN := Lib.hid hsn; have HSX := Lib.hid hsx1; have HBL := Lib.hid hbel1
        clear hb1' hpx hsn hsx1 hbel1 he'
        cases b1 with
        | true =>
          go_wp2_with (go_at_call 89; refine (among1 _ _ x.pe.at_ a _ true HSX.out (by omega) HB.out).mono ?_; rintro r w3 ⟨rfl, rfl⟩)
          go_ret
          exact ⟨ret_bool (by rw [← HQ.out, any_yes p l x hxm HPX.out]; rfl), hb1.trans (HBL.out.mono (Nat.le_of_lt hz))⟩
        | false =>
          go_wp2_with (go_at_call 89; refine (among1 _ _ x.pe.at_ a _ false HSX.out (by omega) HB.out).mono ?_; rintro r w3 ⟨rfl, rfl⟩)
          go_roundw
          case rel => exact ⟨k + 1, by go_num, by omega, HSN.out, HBL.out⟩
          case measure => simp [intOf]; omega
      · have he' : ¬ x.pe.el = e := fun h => he (by rw [h])
        rw [decide_eq_false he', Bool.false_and] at hpx
        rw [hpx] at hsn
        have HSN := Lib.hid hsn; have HBL := Lib.hid hbel1
        clear hpx hsn hsx1 hbel1 he'
        go_wp2
        go_roundw
        case rel => exact ⟨k + 1, by go_num, by omega, HSN.out, HBL.out⟩
        case measure => simp [intOf]; omega
    · rw [List.take_of_length_le (by omega)] at hn
      have hc4 := (hbx.below hbel hz).at_.2.2.2.2.1
      have hva' := sv_on hva (hb1.trans (hbel.mono (Nat.le_of_lt hz)))
      obtain ⟨b1, hb1'⟩ : ∃ b1, isIn a c.ats = b1 := ⟨_, rfl⟩
      have hq' := HQ.out
      rw [hn, Bool.false_or, hb1'] at hq'
      subst hq'
      have HB := Lib.hid hb1'; clear hb1'
      have HBL := Lib.hid hbel
      clear hbel hn HQ
      go_wp2_with (go_at_call 89; refine (among1 _ _ c.ats a _ _ hva' (by have := hs.a; omega) HB.out).mono ?_; rintro r w3 ⟨rfl, rfl⟩)
      go_ret
      exact ⟨rfl, hb1.trans (HBL.out.mono (Nat.le_of_lt hz))⟩

end Go.Proofs.Ytgjlfcamgkeibaa.Co

namespace Go.Proofs.Ytgjlfcamgkeibaa.Fo
set_option maxRecDepth 100000
set_option linter.unusedSimpArgs false
set_option linter.unusedVariables false
open Go.RowKit Ba Fm
theorem has_snoc (l : List ByteArray) (s : ByteArray) (k : Nat) (h : k < l.length) (hn : ¬ s ∈ l.take k) (he : l[k] ≠ s) : ¬ s ∈ l.take (k + 1) := by
  rw [List.take_succ_eq_append_getElem h, List.mem_append]
  rintro (h' | h')
  · exact hn h'
  · exact he (List.mem_singleton.1 h').symm

set_option maxHeartbeats 400000 in
theorem has_any (A : Option Addr) (c N : Nat) (l : List ByteArray) (s : ByteArray) (w : World) (hr : Rd w N A l) (hl : l.length ≤ 8796093022208) :
    Calls Try.prog 61 #[.slice A l.length c, .string s] w fun e w' => e = .returned (.bool (isIn s l)) ∧ w = w' := by
  go_enter Try.func61, Try.ntmps61
  go_wp2
  go_loop [5] (fun i => ∃ k : Nat, i = .int .i64 k ∧ k ≤ l.length ∧ ¬ s ∈ l.take k) (fun i => l.length - (intOf i).toNat)
  case atStart => exact ⟨0, rfl, Nat.zero_le _, by simp⟩
  case round =>
    obtain ⟨k, rfl, hks, hn⟩ := hrel
    have HN := Lib.hid hn; clear hn
    by_cases hp : k < l.length
    · obtain ⟨b, off, rfl, _, hc⟩ := hr (by omega)
      have hcell := hc k hp
      clear hc hr
      have heq := eq_of_toList (a := l[k]) (b := s)
      by_cases he : l[k] = s
      · rw [decide_eq_true he] at heq
        have HE := Lib.hid he; clear he
        go_wp2
        go_ret
        exact ⟨ret_bool (isIn_yes (by have := HE.out; rw [← this]; exact List.getElem_mem _)).symm, rfl⟩
      · rw [decide_eq_false he] at heq
        have HE := Lib.hid he; clear he
        go_wp2
        go_round
        case rel => exact ⟨k + 1, by go_num, by omega, has_snoc l s k hp HN.out HE.out⟩
        case measure => simp [intOf]; omega
    · go_wp2
      go_ret
      refine ⟨ret_bool (isIn_no ?_).symm, rfl⟩
      have := HN.out
      rwa [List.take_of_length_le (by omega)] at this

end Go.Proofs.Ytgjlfcamgkeibaa.Fo

namespace Go.Proofs.Ytgjlfcamgkeibaa.Co
set_option maxRecDepth 100000
set_option linter.unusedVariables false
set_option linter.unusedSimpArgs false
open Go.RowKit Ba Fm Fo Nm Rk
set_option maxRecDepth 100000 in
set_option maxHeartbeats 2000000 in
theorem attr1 (v : Value) (c : Cf) (e a : ByteArray) (w : World) (q : Bool) (h : Cv w w.heap.size v c) (hs : Sm c) (ha : a.size ≤ 140737488355328) (hq : attrB12 c e a = q) :
    Calls Try.prog 30 #[v, .string e, .string a] w fun r w' => r = .returned (.bool q) ∧ Below w.heap.size w w' := by
  obtain ⟨vE, vR, vA, vP, l, rfl, h⟩ := h
  obtain ⟨al, aa, els, reps, ats, per, cm, da⟩ := c
  obtain ⟨O, hO⟩ : ∃ O : Obj, O = .cells #[.bool al, .bool aa, vE, vR, vA, vP, .bool cm, .bool da] 26 := ⟨_, rfl⟩
  have hb1 : Below w.heap.size w (w.alloc O) := below_new12 w O
  have hz : w.heap.size < (w.alloc O).heap.size := by simp
  have hbx : Bx (w.alloc O) w.heap.size ⟨al, aa, els, reps, ats, per, cm, da⟩ vE vR vA vP := by rw [hO]; exact Bx.new w ⟨al, aa, els, reps, ats, per, cm, da⟩ vE vR vA vP
  have hcv : Cv (w.alloc O) (w.alloc O).heap.size (.agg #[.bool al, .bool aa, vE, vR, vA, vP, .bool cm, .bool da]) ⟨al, aa, els, reps, ats, per, cm, da⟩ := ⟨vE, vR, vA, vP, l, rfl, h.on hb1⟩
  obtain ⟨n, hn⟩ : ∃ n, namedB ⟨al, aa, els, reps, ats, per, cm, da⟩ e a = n := ⟨_, rfl⟩
  have HN := Lib.hid (fun wx hb => named1 (.agg #[.bool al, .bool aa, vE, vR, vA, vP, .bool cm, .bool da]) ⟨al, aa, els, reps, ats, per, cm, da⟩ e a wx n (hcv.on hb) hs hn)
  have H7 := Lib.hid (fun (wx : World) (hb : Below (w.alloc O).heap.size (w.alloc O) wx) => show wx.cell? ⟨w.heap.size, 7, none⟩ = some (.bool da) from (hbx.below hb hz).at_.2.2.2.2.2.2.2)
  unfold attrB12 at hq
  rw [hn] at hq
  have HB1 := Lib.hid hb1
  clear hn hcv h hbx hb1 hs
  subst hO
  cases aa with
  | false =>
    rw [if_neg (by simp)] at hq
    subst hq
    go_enter Try.func30, Try.ntmps30
    go_wp2_with (go_at_call 70; refine (HN.out _ (Below.refl _ _)).mono ?_; rintro r w3 ⟨rfl, hb3⟩)
    go_ret
    exact ⟨rfl, bt HB1.out hb3⟩
  | true =>
    rw [if_pos rfl] at hq
    cases n with
    | true =>
      rw [Bool.true_or] at hq
      subst hq
      go_enter Try.func30, Try.ntmps30
      go_wp2_with (go_at_call 70; refine (HN.out _ (Below.refl _ _)).mono ?_; rintro r w3 ⟨rfl, hb3⟩)
      go_ret
      exact ⟨rfl, bt HB1.out hb3⟩
    | false =>
      rw [Bool.false_or] at hq
      obtain ⟨d, hd⟩ : ∃ d, dataB a = d := ⟨_, rfl⟩
      rw [hd] at hq
      have HD := Lib.hid hd; clear hd
      cases da with
      | false =>
        have hq : false = q := by rw [← hq]; rfl
        subst hq
        go_enter Try.func30, Try.ntmps30
        go_wp2_with (go_at_call 70; refine (HN.out _ (Below.refl _ _)).mono ?_; rintro r w3 ⟨rfl, hb3⟩; have g7 := H7.out _ hb3)
        go_ret
        exact ⟨rfl, bt HB1.out hb3⟩
      | true =>
        have hq : d = q := by rw [← hq]; rfl
        subst hq
        go_enter Try.func30, Try.ntmps30
        go_wp2_with (first
          | (go_at_call 70; refine (HN.out _ (Below.refl _ _)).mono ?_; rintro r w3 ⟨rfl, hb3⟩; have g7 := H7.out _ hb3)
          | (go_at_call 71; refine (isData1 a _ _ ha HD.out).mono ?_; rintro r w4 ⟨rfl, rfl⟩))
        go_ret
        exact ⟨rfl, bt HB1.out hb3⟩

theorem has1 (v : Value) (N : Nat) (l : List ByteArray) (s : ByteArray) (w : World) (q : Bool) (h : Sv w N v l) (hl : l.length ≤ 1000000) (hq : isIn s l = q) :
    Calls Try.prog 61 #[v, .string s] w fun e w' => e = .returned (.bool q) ∧ w = w' := by
  obtain ⟨A, c, rfl, _, _, hr⟩ := h
  subst hq
  exact has_any A c N l s w hr (by omega)
theorem has_q (v : Value) (N : Nat) (l : List ByteArray) (s : ByteArray) (w : World) (q : Bool) (h : Sv w N v l) (hl : l.length ≤ 1000000) (hq : isIn s l = q) (n : Nat) :
    Calls Try.prog 61 #[v, .string s] (w.drewN n) fun e w'' => e = .returned (.bool q) ∧ ∃ m, w'' = w.drewN m :=
  (has1 v N l s (w.drewN n) q h hl hq).mono fun e w' ⟨he, hw⟩ => ⟨he, n, hw.symm⟩
end Go.Proofs.Ytgjlfcamgkeibaa.Co

namespace Go.Proofs.Ytgjlfcamgkeibaa.Co
set_option maxRecDepth 100000
set_option linter.unusedVariables false
set_option linter.unusedSimpArgs false
open Go.RowKit Ba Fm Fo Nm Rk
theorem any_snoc' {α : Type} (p : α → Bool) (l : List α) (k : Nat) (h : k < l.length) : (l.take (k + 1)).any p = ((l.take k).any p || p l[k]) := any_snoc p l k _ (List.getElem?_eq_getElem h)

set_option maxRecDepth 100000 in
set_option maxHeartbeats 2000000 in
theorem meetSS (va vb : Value) (N M : Nat) (a b : List ByteArray) (w : World) (q : Bool) (ha : Sv w N va a) (hb : Sv w M vb b) (hla : a.length ≤ 1000000) (hlb : b.length ≤ 1000000) (hq : meetB a b = q) :
    Calls Try.prog 90 #[va, vb, .func (.func 86) #[] #[]] w fun e w' => e = .returned (.bool q) ∧ w = w' := by
  obtain ⟨A, c, rfl, _, _, hra⟩ := ha
  obtain ⟨C, d, rfl, _, _, hrb⟩ := hb
  have HQ := Lib.hid hq; clear hq
  go_enter Try.func90, Try.ntmps90
  go_wp2
  go_loopw [8, 10, 13] (fun _ _ i wr => ∃ k : Nat, i = .int .i64 k ∧ k ≤ a.length ∧ meetB (a.take k) b = false ∧ w = wr) (fun _ _ i _ => a.length - (intOf i).toNat)
  case atStart => exact ⟨0, rfl, Nat.zero_le _, rfl, rfl⟩
  case round =>
    obtain ⟨k, rfl, hks, hn, rfl⟩ := hrel
    by_cases hk : k < a.length
    · obtain ⟨b0, off, rfl, _, hc⟩ := hra (by omega)
      have hcell := hc k hk
      have hsn := any_snoc' (fun x => isIn x b) a k hk
      have hn' : (a.take k).any (fun x => isIn x b) = false := hn
      rw [hn', Bool.false_or] at hsn
      generalize hx : a[k] = x at *
      have hxm : x ∈ a := hx ▸ List.getElem_mem _
      have HSN := Lib.hid hsn; have HXM := Lib.hid hxm
      clear hc hn hn' hra hx hsn hxm
      go_wp2
      go_loopw [10, 19] (fun _ i wr => ∃ j : Nat, i = .int .i64 j ∧ j ≤ b.length ∧ ¬ x ∈ b.take j ∧ w = wr) (fun _ i _ => b.length - (intOf i).toNat)
      case atStart => exact ⟨0, rfl, Nat.zero_le _, by simp, rfl⟩
      case round =>
        obtain ⟨j, rfl, hjs, hj0, rfl⟩ := hrel
        by_cases hj : j < b.length
        · obtain ⟨b1, off1, rfl, _, hc1⟩ := hrb (by omega)
          have hcell1 := hc1 j hj
          clear hc1 hrb
          by_cases he : x = b[j]
          · have HE := Lib.hid (decide_eq_true he)
            have HM := Lib.hid (show meetB a b = true from meet_iff.2 ⟨x, HXM.out, he ▸ List.getElem_mem _⟩)
            clear he hj0
            go_wp2_with (go_at_call 86; refine (equal1 x b[j] _ true HE.out).mono ?_; rintro r w3 ⟨rfl, rfl⟩)
            go_ret
            exact ⟨ret_bool (by rw [← HQ.out, HM.out]), rfl⟩
          · have HE := Lib.hid (decide_eq_false he)
            have HN := Lib.hid (in_snoc b x j hj hj0 (fun h => he h.symm))
            clear he hj0
            go_wp2_with (go_at_call 86; refine (equal1 x b[j] _ false HE.out).mono ?_; rintro r w3 ⟨rfl, rfl⟩)
            go_roundw
            case rel => exact ⟨j + 1, by go_num, by omega, HN.out, by trivial⟩
            case measure => simp [intOf]; omega
        · rw [List.take_of_length_le (by omega)] at hj0
          have HN := Lib.hid (isIn_no hj0)
          clear hj0
          go_wp2
          go_roundw
          case rel => exact ⟨k + 1, by go_num, by omega, by rw [show meetB (a.take (k + 1)) b = isIn x b from HSN.out]; exact HN.out, by trivial⟩
          case measure => simp [intOf]; omega
    · rw [List.take_of_length_le (by omega)] at hn
      have hq := HQ.out
      rw [hn] at hq
      subst hq
      clear hn
      go_wp2
      go_ret
      exact ⟨rfl, rfl⟩

theorem has12 (x : ByteArray) (y : Pw) (w : World) (q : Bool) (h : Sx w w.heap.size y) (hl : y.pe.at_.length ≤ 1000000) (hq : isIn x y.pe.at_ = q) :
    Calls Try.prog 88 #[.string x, perV y] w fun e w' => e = .returned (.bool q) ∧ Below w.heap.size w w' := by
  have hb := below_new12 w (perO y)
  have h1 : Sx (w.alloc (perO y)) w.heap.size y := h.below hb
  go_enter Try.func88, Try.ntmps88
  go_wp2_with (go_at_call 89; refine (among1 _ _ y.pe.at_ x _ q h1 hl hq).mono ?_; rintro r w3 ⟨rfl, rfl⟩)
  go_ret
  exact ⟨rfl, hb⟩
theorem ofOne1 (x y : Pw) (w : World) (q : Bool) (hq : decide (x.pe.el = y.pe.el) = q) :
    Calls Try.prog 84 #[perV x, perV y] w fun e w' => e = .returned (.bool q) ∧ Below w.heap.size w w' := by
  have h := (eq_of_toList (a := x.pe.el) (b := y.pe.el)).trans hq
  have hb := (below_new12 w (perO x)).trans ((below_new12 (w.alloc (perO x)) (perO y)).mono (below_new12 w (perO x)).size)
  go_enter Try.func84, Try.ntmps84
  go_wp2
  go_ret
  exact ⟨rfl, hb⟩

def meetSPB (a : List ByteArray) (l : List Pe) : Bool := a.any fun x => l.any fun p => isIn x p.at_
def meetPPB (a b : List Pe) : Bool := a.any fun x => b.any fun y => decide (x.el = y.el)
set_option maxRecDepth 100000 in
set_option maxHeartbeats 2000000 in
theorem meetSP (va vb : Value) (a : List ByteArray) (b : List Pw) (w : World) (q : Bool) (ha : Sv w w.heap.size va a) (hb : Pv w w.heap.size vb b) (hla : a.length ≤ 1000000) (hlb : b.length ≤ 1000000) (hlx : ∀ y ∈ b, y.pe.at_.length ≤ 1000000) (hq : meetSPB a (pes b) = q) :
    Calls Try.prog 91 #[va, vb, .func (.func 88) #[] #[]] w fun e w' => e = .returned (.bool q) ∧ Below w.heap.size w w' := by
  obtain ⟨A, c, rfl, _, _, hra⟩ := ha
  obtain ⟨C, d, rfl, _, _, hrb⟩ := hb
  have HQ := Lib.hid hq; have HLX := Lib.hid hlx; clear hq hlx
  go_enter Try.func91, Try.ntmps91
  go_wp2
  go_loopw [8, 10, 13] (fun _ _ i wr => ∃ k : Nat, i = .int .i64 k ∧ k ≤ a.length ∧ meetSPB (a.take k) (pes b) = false ∧ Below w.heap.size w wr) (fun _ _ i _ => a.length - (intOf i).toNat)
  case atStart => exact ⟨0, rfl, Nat.zero_le _, rfl, Below.refl _ _⟩
  case round =>
    obtain ⟨w5, hw5⟩ : ∃ x, x = wr := ⟨_, rfl⟩
    subst hw5
    obtain ⟨k, rfl, hks, hn, hbel⟩ := hrel
    by_cases hk : k < a.length
    · obtain ⟨b0, off, rfl, hb0, hc⟩ := hra (by omega)
      have hcell := (hbel.cell (p := ⟨b0, off + k, none⟩) hb0).trans (hc k hk)
      have hsn := any_snoc' (fun x => (pes b).any fun p => isIn x p.at_) a k hk
      have hn' : (a.take k).any (fun x => (pes b).any fun p => isIn x p.at_) = false := hn
      rw [hn', Bool.false_or] at hsn
      generalize hx : a[k] = x at *
      have hxm : x ∈ a := hx ▸ List.getElem_mem _
      have HSN := Lib.hid hsn; have HXM := Lib.hid hxm; have HB0 := Lib.hid hbel
      clear hc hn hn' hra hx hsn hxm hbel
      go_wp2
      go_loopw [10, 19] (fun _ i wr => ∃ j : Nat, i = .int .i64 j ∧ j ≤ b.length ∧ (b.take j).any (fun y => isIn x y.pe.at_) = false ∧ Below w.heap.size w wr) (fun _ i _ => b.length - (intOf i).toNat)
      case atStart => exact ⟨0, rfl, Nat.zero_le _, by simp, HB0.out⟩
      case round =>
        obtain ⟨j, rfl, hjs, hj0, hbel⟩ := hrel
        by_cases hj : j < b.length
        · obtain ⟨b1, off1, y, rfl, _, hy, hcs, hsy, hym⟩ := (hrb.below hbel).at_ j hj
          obtain ⟨g0, g1⟩ := range2p hcs
          have hsn2 := any_snoc (fun y => isIn x y.pe.at_) b j y hy
          rw [hj0, Bool.false_or] at hsn2
          have hsy1 : Sx (wr.alloc (perO y)) (wr.alloc (perO y)).heap.size y := Sx.boxed hsy hbel (perO y)
          have hb1 := hbel.trans ((below_new12 wr (perO y)).mono hbel.size)
          have hyl := HLX.out y hym
          clear hcs hsy hrb hj0 hbel
          cases he : isIn x y.pe.at_ with
          | true =>
            have HE := Lib.hid he
            have HM := Lib.hid (show meetSPB a (pes b) = true from any_yes _ a x HXM.out (any_yes _ (pes b) y.pe (List.mem_map.2 ⟨y, hym, rfl⟩) he))
            have HSY := Lib.hid hsy1; have HB1 := Lib.hid hb1
            clear he hsn2 hsy1 hb1
            go_wp2_with (go_at_call 88; refine (has12 x y _ true HSY.out hyl HE.out).mono ?_; rintro r w3 ⟨rfl, hb3⟩)
            go_ret
            exact ⟨ret_bool (by rw [← HQ.out, HM.out]), HB1.out.trans (hb3.mono HB1.out.size)⟩
          | false =>
            have HE := Lib.hid he
            rw [he] at hsn2
            have HN := Lib.hid hsn2
            have HSY := Lib.hid hsy1; have HB1 := Lib.hid hb1
            clear he hsn2 hsy1 hb1
            go_wp2_with (go_at_call 88; refine (has12 x y _ false HSY.out hyl HE.out).mono ?_; rintro r w3 ⟨rfl, hb3⟩)
            go_roundw
            case rel => exact ⟨j + 1, by go_num, by omega, HN.out, HB1.out.trans (hb3.mono HB1.out.size)⟩
            case measure => simp [intOf]; omega
        · rw [List.take_of_length_le (by omega)] at hj0
          have hj1 : (pes b).any (fun p => isIn x p.at_) = false := by unfold pes; rw [List.any_map]; exact hj0
          have HN := Lib.hid hj1; have HBL := Lib.hid hbel
          clear hj0 hj1 hbel
          go_wp2
          go_roundw
          case rel => exact ⟨k + 1, by go_num, by omega, by rw [show meetSPB (a.take (k + 1)) (pes b) = _ from HSN.out]; exact HN.out, HBL.out⟩
          case measure => simp [intOf]; omega
    · rw [List.take_of_length_le (by omega)] at hn
      have hq := HQ.out
      rw [hn] at hq
      subst hq
      have HBL := Lib.hid hbel
      clear hn hbel
      go_wp2
      go_ret
      exact ⟨rfl, HBL.out⟩

end Go.Proofs.Ytgjlfcamgkeibaa.Co

namespace Go.Proofs.Ytgjlfcamgkeibaa.Co
set_option maxRecDepth 100000
set_option linter.unusedVariables false
set_option linter.unusedSimpArgs false
open Go.RowKit Ba Fm Fo Nm Rk
set_option maxRecDepth 100000 in
set_option maxHeartbeats 2000000 in
theorem meetPP (va vb : Value) (a b : List Pw) (w : World) (q : Bool) (ha : Pv w w.heap.size va a) (hb : Pv w w.heap.size vb b) (hla : a.length ≤ 1000000) (hlb : b.length ≤ 1000000) (hq : meetPPB (pes a) (pes b) = q) :
    Calls Try.prog 111 #[va, vb, .func (.func 84) #[] #[]] w fun e w' => e = .returned (.bool q) ∧ Below w.heap.size w w' := by
  obtain ⟨A, c, rfl, _, _, hra⟩ := ha
  obtain ⟨C, d, rfl, _, _, hrb⟩ := hb
  have hq' : (a.any fun x => b.any fun y => decide (x.pe.el = y.pe.el)) = q := by
    rw [← hq]
    unfold meetPPB pes
    rw [List.any_map]
    congr 1
    funext x
    rw [Function.comp, List.any_map]
    rfl
  have HQ := Lib.hid hq'; clear hq hq'
  go_enter Try.func111, Try.ntmps111
  go_wp2
  go_loopw [8, 10, 13] (fun _ _ i wr => ∃ k : Nat, i = .int .i64 k ∧ k ≤ a.length ∧ ((a.take k).any fun x => b.any fun y => decide (x.pe.el = y.pe.el)) = false ∧ Below w.heap.size w wr) (fun _ _ i _ => a.length - (intOf i).toNat)
  case atStart => exact ⟨0, rfl, Nat.zero_le _, rfl, Below.refl _ _⟩
  case round =>
    obtain ⟨w5, hw5⟩ : ∃ x, x = wr := ⟨_, rfl⟩
    subst hw5
    obtain ⟨k, rfl, hks, hn, hbel⟩ := hrel
    by_cases hk : k < a.length
    · obtain ⟨b0, off, x, rfl, _, hx, hcs, hsx, hxm⟩ := (hra.below hbel).at_ k hk
      obtain ⟨g0, g1⟩ := range2p hcs
      have hsn := any_snoc (fun x => b.any fun y => decide (x.pe.el = y.pe.el)) a k x hx
      rw [hn, Bool.false_or] at hsn
      obtain ⟨w6, hw6⟩ : ∃ w6, w5.alloc (perO x) = w6 := ⟨_, rfl⟩
      have hb6 : Below w5.heap.size w5 w6 := hw6 ▸ below_new12 w5 (perO x)
      have hbk : ∀ j w3, Below w6.heap.size w6 w3 → w3.cell? ⟨w5.heap.size, j, none⟩ = (pcells x)[j]? := fun j w3 h => by subst hw6; exact pbox_kept h j
      have hz6 : w6.heap.size = w5.heap.size + 1 := by rw [← hw6]; simp
      have hB6 := hbel.trans (hb6.mono hbel.size)
      have HSN := Lib.hid hsn; have HXM := Lib.hid hxm; have HB6 := Lib.hid hB6; have HBK := Lib.hid hbk; have HW6 := Lib.hid hw6
      clear hcs hsx hn hra hx hsn hxm hbel hb6 hbk hB6 hw6
      go_wp2
      rw [HW6.out]
      go_loopw [10, 19] (fun _ i wr => ∃ j : Nat, i = .int .i64 j ∧ j ≤ b.length ∧ ((b.take j).any fun y => decide (x.pe.el = y.pe.el)) = false ∧ Below w6.heap.size w6 wr) (fun _ i _ => b.length - (intOf i).toNat)
      case atStart => exact ⟨0, rfl, Nat.zero_le _, by simp, Below.refl _ _⟩
      case round =>
        obtain ⟨j, rfl, hjs, hj0, hbel⟩ := hrel
        have hbel0 := HB6.out.trans (hbel.mono HB6.out.size)
        by_cases hj : j < b.length
        · obtain ⟨b1, off1, y, rfl, _, hy, hcs, hsy, hym⟩ := (hrb.below hbel0).at_ j hj
          obtain ⟨k0, k1⟩ := range2p hcs
          have hsn2 := any_snoc (fun y => decide (x.pe.el = y.pe.el)) b j y hy
          rw [hj0, Bool.false_or] at hsn2
          have hb1 := hbel.trans ((below_new12 wr (perO y)).mono hbel.size)
          have e0 : (wr.alloc (perO y)).cell? ⟨w5.heap.size, 0, none⟩ = some (.string x.pe.el) := HBK.out 0 _ hb1
          have e1 : (wr.alloc (perO y)).cell? ⟨w5.heap.size, 1, none⟩ = some (.slice x.A x.pe.at_.length x.c) := HBK.out 1 _ hb1
          clear hcs hrb hj0 hbel hbel0
          cases he : decide (x.pe.el = y.pe.el) with
          | true =>
            have HE := Lib.hid he
            have HM := Lib.hid (show (a.any fun x => b.any fun y => decide (x.pe.el = y.pe.el)) = true from any_yes _ a x HXM.out (any_yes _ b y hym he))
            have HB1 := Lib.hid hb1
            clear he hsn2 hb1 hsy
            go_wp2_with (go_at_call 84; refine (ofOne1 x y _ true HE.out).mono ?_; rintro r w3 ⟨rfl, hb3⟩)
            go_ret
            exact ⟨ret_bool (by rw [← HQ.out, HM.out]), HB6.out.trans ((HB1.out.trans (hb3.mono HB1.out.size)).mono HB6.out.size)⟩
          | false =>
            have HE := Lib.hid he
            rw [he] at hsn2
            have HN := Lib.hid hsn2
            have HB1 := Lib.hid hb1
            clear he hsn2 hb1 hsy
            go_wp2_with (go_at_call 84; refine (ofOne1 x y _ false HE.out).mono ?_; rintro r w3 ⟨rfl, hb3⟩)
            go_roundw
            case rel => exact ⟨j + 1, by go_num, by omega, HN.out, HB1.out.trans (hb3.mono HB1.out.size)⟩
            case measure => simp [intOf]; omega
        · rw [List.take_of_length_le (by omega)] at hj0
          have HN := Lib.hid hj0; have HBL := Lib.hid hbel0
          clear hj0 hbel hbel0
          go_wp2
          go_roundw
          case rel => exact ⟨k + 1, by go_num, by omega, by rw [HSN.out]; exact HN.out, HBL.out⟩
          case measure => simp [intOf]; omega
    · rw [List.take_of_length_le (by omega)] at hn
      have hq := HQ.out
      rw [hn] at hq
      subst hq
      have HBL := Lib.hid hbel
      clear hn hbel
      go_wp2
      go_ret
      exact ⟨rfl, HBL.out⟩

theorem once_snoc {l : List ByteArray} {k : Nat} (h : k < l.length) (hn : (l.take k).Nodup) (hm : l[k] ∉ l.take k) : (l.take (k + 1)).Nodup := by
  rw [List.take_succ_eq_append_getElem h, List.nodup_append]
  refine ⟨hn, by simp, fun x hx y hy e => ?_⟩
  rw [List.mem_singleton] at hy
  subst hy
  exact hm (e ▸ hx)
theorem once_no {l : List ByteArray} {k : Nat} (h : k < l.length) (hm : l[k] ∈ l.take k) : ¬ l.Nodup := fun hn => by
  rw [← List.take_append_drop k l, List.nodup_append] at hn
  exact hn.2.2 _ hm _ (by rw [List.drop_eq_getElem_cons h]; exact List.mem_cons_self) rfl
theorem meet_one (a : List ByteArray) (x : ByteArray) : meetB a [x] = isIn x a := by
  rw [Bool.eq_iff_iff, meet_iff, isIn_iff]
  constructor
  · rintro ⟨y, h1, h2⟩
    rw [List.mem_singleton] at h2
    exact h2 ▸ h1
  · exact fun h => ⟨x, h, List.mem_singleton.2 rfl⟩
theorem sv_one {w : World} {N b off c k : Nat} {l : List ByteArray} (hr : Rd w N (some ⟨b, off, none⟩) l) (hk : k < l.length) (hc : l.length ≤ c) : Sv w N (.slice (some ⟨b, off + k, none⟩) 1 (c - k)) [l[k]] := by
  refine ⟨_, _, rfl, by simp; omega, (fun e => by cases e), fun _ => ?_⟩
  obtain ⟨b', o', e, hb, hcc⟩ := hr (by omega)
  injection e with e
  injection e with e1 e2
  subst e1 e2
  exact ⟨b, off + k, rfl, hb, fun j hj => by
    have : j = 0 := by simpa using hj
    subst this
    exact hcc k hk⟩
set_option maxRecDepth 100000 in
set_option maxHeartbeats 2000000 in
theorem twiceS (v : Value) (l : List ByteArray) (w : World) (q : Bool) (h : Sv w w.heap.size v l) (hl : l.length ≤ 1000000) (hq : (!onceB l) = q) :
    Calls Try.prog 85 #[v, .func (.func 86) #[] #[]] w fun e w' => e = .returned (.bool q) ∧ Below w.heap.size w w' := by
  obtain ⟨A, c, rfl, hlc, hna, hr⟩ := h
  have HQ := Lib.hid hq; clear hq
  go_enter Try.func85, Try.ntmps85
  go_wp2
  go_loopw [5, 8] (fun _ i wr => ∃ k : Nat, i = .int .i64 k ∧ k ≤ l.length ∧ (l.take k).Nodup ∧ Below w.heap.size w wr) (fun _ i _ => l.length - (intOf i).toNat)
  case atStart => exact ⟨0, rfl, Nat.zero_le _, by simp, Below.refl _ _⟩
  case round =>
    obtain ⟨k, rfl, hks, hn, hbel⟩ := hrel
    by_cases hk : k < l.length
    · obtain ⟨b0, off, rfl, hb0, _⟩ := hr (by omega)
      have hr1 := hr.below hbel (Nat.le_refl _)
      have h1 : Sv wr w.heap.size (.slice (some ⟨b0, off, none⟩) k c) (l.take k) := ⟨_, c, by rw [List.length_take, Nat.min_eq_left hks], by rw [List.length_take]; omega, hna, hr1.take k⟩
      have h2 := sv_one hr1 hk hlc
      obtain ⟨m, hm⟩ : ∃ m, isIn l[k] (l.take k) = m := ⟨_, rfl⟩
      have hmq : ∀ n, Calls Try.prog 90 #[.slice (some ⟨b0, off, none⟩) k c, .slice (some ⟨b0, off + k, none⟩) 1 (c - k), .func (.func 86) #[] #[]] (wr.drewN n) fun e w'' => e = .returned (.bool m) ∧ ∃ m, w'' = wr.drewN m := fun n => (meetSS _ _ _ _ (l.take k) [l[k]] (wr.drewN n) m h1 h2 (by rw [List.length_take]; omega) (by simp) ((meet_one _ _).trans hm)).mono fun e w' ⟨he, hw⟩ => ⟨he, n, hw.symm⟩
      have HM := Lib.hid hmq; have HI := Lib.hid hm; have HN := Lib.hid hn
      clear hmq h1 h2 hm hn hr hr1
      have hk0 : (0 : Int) ≤ (k : Int) := by omega
      have hk1 : (k : Int) ≤ (c : Int) := by omega
      have hck : ¬ c = k := by omega
      obtain ⟨j, hj⟩ : ∃ j, k + 1 = j := ⟨_, rfl⟩
      have hj1 : IntKind.i64.wrap ((k : Int) + 1) = (j : Int) := by rw [← hj]; exact IntWalk.i64_in _ (by omega)
      have hj2 : (j : Int) ≤ (c : Int) := by omega
      have hj3 : (k : Int) ≤ (j : Int) := by omega
      have hj4 : j - k = 1 := by omega
      have HJ := Lib.hid hj
      clear hj
      cases m with
      | true =>
        have hq : true = q := by rw [← HQ.out, show onceB l = false from decide_eq_false (once_no hk (isIn_of HI.out))]; rfl
        subst hq
        go_wp2
        go_quiet ((go_at_call 90; exact HM.out _))
        go_wp2
        go_ret
        exact ⟨rfl, below_dN hbel _⟩
      | false =>
        have HN1 := Lib.hid (once_snoc hk HN.out (notIn_of HI.out))
        clear hck hj2 hj3 hj4
        have hck : ¬ c = k := by omega
        have hj2 : (j : Int) ≤ (c : Int) := by have := HJ.out; omega
        have hj3 : (k : Int) ≤ (j : Int) := by have := HJ.out; omega
        have hj4 : j - k = 1 := by have := HJ.out; omega
        go_wp2
        go_quiet ((go_at_call 90; exact HM.out _))
        go_wp2
        go_roundw
        case rel => exact ⟨k + 1, by rw [HJ.out], by omega, HN1.out, below_dN hbel _⟩
        case measure => have := HJ.out; simp [intOf]; omega
    · rw [List.take_of_length_le (by omega)] at hn
      have hq : false = q := by rw [← HQ.out, show onceB l = true from decide_eq_true hn]; rfl
      subst hq
      go_wp2
      go_ret
      exact ⟨rfl, hbel⟩

theorem meetPP_one (a : List Pe) (x : Pe) : meetPPB a [x] = isIn x.el (a.map Pe.el) := by
  rw [Bool.eq_iff_iff, isIn_iff, List.mem_map]
  unfold meetPPB
  rw [List.any_eq_true]
  constructor
  · rintro ⟨y, h1, h2⟩
    simp only [List.any_cons, List.any_nil, Bool.or_false, decide_eq_true_eq] at h2
    exact ⟨y, h1, h2⟩
  · rintro ⟨y, h1, h2⟩
    exact ⟨y, h1, by simp [h2]⟩
theorem pv_one {w : World} {N b off c k : Nat} {l : List Pw} (hr : Pr w N (some ⟨b, off, none⟩) l) (hk : k < l.length) (hc : l.length ≤ c) : Pv w N (.slice (some ⟨b, off + k * 2, none⟩) 1 (c - k)) [l[k]] := by
  refine ⟨_, _, rfl, by simp; omega, (fun e => by cases e), fun _ => ?_, fun x hx => ?_⟩
  · obtain ⟨b', o', e, hb, hcc⟩ := hr.1 (by omega)
    injection e with e
    injection e with e1 e2
    subst e1 e2
    exact ⟨b, off + k * 2, rfl, hb, fun j hj => by
      have : j = 0 := by simpa using hj
      subst this
      exact hcc k hk⟩
  · rw [List.mem_singleton] at hx
    subst hx
    exact hr.2 _ (List.getElem_mem _)
theorem pv_take {w : World} {N c k : Nat} {A : Option Addr} {l : List Pw} (hr : Pr w N A l) (hk : k ≤ l.length) (hc : l.length ≤ c) (hn : A = none → c = 0) : Pv w N (.slice A k c) (l.take k) := by
  refine ⟨A, c, by rw [List.length_take, Nat.min_eq_left hk], by rw [List.length_take]; omega, hn, fun h0 => ?_, fun x hx => hr.2 x (List.mem_of_mem_take hx)⟩
  rw [List.length_take] at h0
  obtain ⟨b, off, e, hb, hcc⟩ := hr.1 (by omega)
  refine ⟨b, off, e, hb, fun j hj => ?_⟩
  rw [List.length_take] at hj
  rw [List.getElem_take]
  exact hcc j (by omega)
set_option maxRecDepth 100000 in
set_option maxHeartbeats 2000000 in
theorem twiceP (v : Value) (l : List Pw) (w : World) (q : Bool) (h : Pv w w.heap.size v l) (hl : l.length ≤ 1000000) (hq : (!onceB ((pes l).map Pe.el)) = q) :
    Calls Try.prog 87 #[v, .func (.func 84) #[] #[]] w fun e w' => e = .returned (.bool q) ∧ Below w.heap.size w w' := by
  obtain ⟨A, c, rfl, hlc, hna, hr⟩ := h
  have HQ := Lib.hid hq; clear hq
  obtain ⟨es, hes⟩ : ∃ es, es = (pes l).map Pe.el := ⟨_, rfl⟩
  have hel : es.length = l.length := by rw [hes, List.length_map, len_pes]
  have htk : ∀ k, es.take k = (pes (l.take k)).map Pe.el := fun k => by rw [hes, ← pes_take, List.map_take]
  have hat : ∀ k (h : k < l.length), es[k]? = some l[k].pe.el := fun k h => by subst hes; simp [pes, h]
  have HE := Lib.hid hel; have HT := Lib.hid htk; have HA := Lib.hid hat
  rw [← hes] at HQ
  clear hes hel htk hat
  go_enter Try.func87, Try.ntmps87
  go_wp2
  go_loopw [5, 8] (fun _ i wr => ∃ k : Nat, i = .int .i64 k ∧ k ≤ l.length ∧ (es.take k).Nodup ∧ Below w.heap.size w wr) (fun _ i _ => l.length - (intOf i).toNat)
  case atStart => exact ⟨0, rfl, Nat.zero_le _, by simp, Below.refl _ _⟩
  case round =>
    obtain ⟨k, rfl, hks, hn, hbel⟩ := hrel
    by_cases hk : k < l.length
    · obtain ⟨b0, off, rfl, hb0, _⟩ := hr.1 (by omega)
      have hr1 := (hr.below hbel).more hbel.size
      have h1 : Pv wr wr.heap.size (.slice (some ⟨b0, off, none⟩) k c) (l.take k) := pv_take hr1 hks hlc hna
      have h2 := pv_one hr1 hk hlc
      obtain ⟨m, hm⟩ : ∃ m, isIn l[k].pe.el (es.take k) = m := ⟨_, rfl⟩
      have hmm : meetPPB (pes (l.take k)) (pes [l[k]]) = m := by
        rw [← hm, HT.out]
        exact meetPP_one _ _
      have HMC := Lib.hid (fun (wx : World) (hb : Below wr.heap.size wr wx) => meetPP _ _ (l.take k) [l[k]] wx m (h1.on hb) (h2.on hb) (by rw [List.length_take]; omega) (by simp) hmm)
      have HI := Lib.hid hm; have HN := Lib.hid hn
      clear h1 h2 hm hn hr hr1 hmm
      have hk0 : (0 : Int) ≤ (k : Int) := by omega
      have hk1 : (k : Int) ≤ (c : Int) := by omega
      have hck : ¬ c = k := by omega
      obtain ⟨j, hj⟩ : ∃ j, k + 1 = j := ⟨_, rfl⟩
      have hj1 : IntKind.i64.wrap ((k : Int) + 1) = (j : Int) := by rw [← hj]; exact IntWalk.i64_in _ (by omega)
      have hj2 : (j : Int) ≤ (c : Int) := by omega
      have hj3 : (k : Int) ≤ (j : Int) := by omega
      have hj4 : j - k = 1 := by omega
      have HJ := Lib.hid hj; have HBL := Lib.hid hbel
      clear hj hbel
      cases m with
      | true =>
        have hq : true = q := by rw [← HQ.out, show onceB es = false from decide_eq_false (once_no (k := k) (by have := HE.out; omega) (by rw [(List.getElem?_eq_some_iff.1 (HA.out k hk)).2]; exact isIn_of HI.out))]; rfl
        subst hq
        go_wp2
        go_region_with (go_at_call 111; refine (HMC.out _ (by exact bel_eq12 (Below.refl _ wr) rfl rfl rfl rfl)).mono ?_; rintro e w3 ⟨rfl, hb3⟩)
        all_goals go_wp2
        all_goals go_ret
        all_goals exact ⟨rfl, HBL.out.trans ((Below.refl _ wr).drew.trans (hb3.mono HBL.out.size))⟩
      | false =>
        have HN1 := Lib.hid (once_snoc (l := es) (k := k) (by have := HE.out; omega) HN.out (by rw [(List.getElem?_eq_some_iff.1 (HA.out k hk)).2]; exact notIn_of HI.out))
        go_wp2
        go_region_with (go_at_call 111; refine (HMC.out _ (by exact bel_eq12 (Below.refl _ wr) rfl rfl rfl rfl)).mono ?_; rintro e w3 ⟨rfl, hb3⟩)
        all_goals go_wp2
        all_goals go_roundw
        case rel => exact ⟨k + 1, by rw [HJ.out], by omega, HN1.out, HBL.out.trans ((Below.refl _ wr).drew.trans (hb3.mono HBL.out.size))⟩
        case measure => have := HJ.out; simp [intOf]; omega
    · rw [List.take_of_length_le (by have := HE.out; omega)] at hn
      have hq : false = q := by rw [← HQ.out, show onceB es = true from decide_eq_true hn]; rfl
      subst hq
      go_wp2
      go_ret
      exact ⟨rfl, hbel⟩

end Go.Proofs.Ytgjlfcamgkeibaa.Co

namespace Go.Proofs.Ytgjlfcamgkeibaa.Co
set_option maxRecDepth 100000
set_option linter.unusedVariables false
set_option linter.unusedSimpArgs false
open Go.RowKit Ba Fm Fo
theorem app_oneG {ops : Array Oper} {rest : List Oper} {o : Oper} {a : Act} {Q : Exit → Act → World → Prop} (w : World) (hgd : o.guard = none) (s x : Operand)
    (ho : o.op = .call { callee := .builtin .append, args := #[s, x], argTypes := #[23, 23] })
    (N : Nat) (v : Value) (l : List ByteArray) (y : ByteArray) (hs : a.eval s = v) (hown : Sown N w v l) (g : Nat) (hgz : g = w.heap.size) (hx : a.eval x = .slice (some ⟨g, 0, none⟩) 1 1)
    (hl : (l.length + 1) * 16 ≤ 140737488355328) (hN : N ≤ w.heap.size)
    (h : ∀ v' w', Sown N w' v' (l ++ [y]) → (∀ w0, Below N w0 w → Below N w0 w') → wpList Try.prog ops Q rest (a.put o.dst v') w') :
    wpList Try.prog ops Q (o :: rest) a (w.alloc (.cells #[.string y] 9)) := by
  subst hgz
  exact app_one w hgd s x ho N v l y hs hown hx hl hN fun v' w' h1 h2 _ => h v' w' h1 h2
theorem grown_none {w0 w w1 : World} {row : Option Nat} (hg : w0.grownBy w none) (h2 : w.grownBy w1 row) : w0.grownBy w1 row :=
  ⟨h2.os.trans hg.os, h2.tape.trans hg.tape, h2.output.trans hg.output, Nat.le_trans hg.size h2.size, fun i hi hne => (h2.block i (Nat.lt_of_lt_of_le hi hg.size) hne).trans (hg.block i hi (by simp))⟩
theorem grown_drew (w : World) (n : Nat) (row : Option Nat) : w.grownBy (w.drewN n) row := ⟨rfl, rfl, rfl, Nat.le_refl _, fun _ _ _ => rfl⟩
theorem step_app_per {ops : Array Oper} {o : Oper} {a : Act} {K : Act → World → Prop} {Q : Exit → Act → World → Prop} {E : Prop} (W : World) (hgd : o.guard = none) (s x : Operand)
    (ho : o.op = .call { callee := .builtin .append, args := #[s, x], argTypes := #[24, 24] })
    (W0 : World) (N : Nat) (v : Value) (l : List Pw) (z : Pw) (hr : Po N W0 v l) (hz1 : Sx W0 W0.heap.size z) (hz2 : Ap W0 N z) (hg : W0.grownBy W none) (hN : N ≤ W0.heap.size) (hl : l.length ≤ 2000000)
    (hs : a.eval s = v) (g0 : Nat) (hx : a.eval x = .slice (some ⟨g0, 0, none⟩) 1 1) (hz : W.heap[g0]? = some (perO z))
    (h : ∀ v' w', Po N w' v' (l ++ [z]) → W0.grownBy w' v.ownBlock → K (a.put o.dst v') w') :
    if Region.wanted o (yielded ops a.tmps) = true then Oper.wp Try.prog o a W K Q else E := by
  obtain ⟨i0, hi, hz0, hz1', hz2'⟩ := info_parts info_per
  have hown : W.ownsRow N 48 2 v l.length (l.flatMap pcells) := World.ownsRow.kept hr.1 hg (by cases hv : v.ownBlock with
    | none => exact .inl rfl
    | some k => right; simp)
  refine step_append_lies W hgd s x 24 ho N 48 i0 _ 2 40 Try.underlying24 hi hz0 hz1' hz2' rfl (by decide) v l.length (l.flatMap pcells) hs hown ⟨g0, 0, none⟩ 1 1 (pcells z) hx rfl (fun j u hu => World.news_of_block hz j u hu) (pcells_one z) (by decide) (by unfold maxLen; omega) (by omega) (Nat.le_trans hN hg.size) _ rfl ?_
  intro g cap w1 h1 h2 _ _
  have hgw : W0.grownBy w1 v.ownBlock := grown_none hg h2
  refine h _ w1 ⟨by rw [List.length_append, List.flatMap_append]; simpa using h1, fun y hy => ?_⟩ hgw
  rcases List.mem_append.1 hy with hy | hy
  · exact ⟨(hr.2 y hy).1.grown hr.1 hgw (hr.2 y hy).2, (hr.2 y hy).2.grown hr.1 hgw⟩
  · obtain rfl := List.mem_singleton.1 hy
    exact ⟨hz1.grown hr.1 hgw hz2, hz2.grown hr.1 hgw⟩

theorem step_app_strs {ops : Array Oper} {o : Oper} {a : Act} {K : Act → World → Prop} {Q : Exit → Act → World → Prop} {E : Prop} (W : World) (hgd : o.guard = none) (s x : Operand)
    (ho : o.op = .call { callee := .builtin .append, args := #[s, x], argTypes := #[23, 23] })
    (N : Nat) (v u : Value) (l m : List ByteArray) (hr : Sown N W v l) (hu : Sv W W.heap.size u m) (hN : N ≤ W.heap.size) (hl : l.length + m.length ≤ 2000000)
    (hs : a.eval s = v) (hx : a.eval x = u)
    (h : ∀ v' w', Sown N w' v' (l ++ m) → W.grownBy w' v.ownBlock → K (a.put o.dst v') w') :
    if Region.wanted o (yielded ops a.tmps) = true then Oper.wp Try.prog o a W K Q else E := by
  rw [if_pos (show Region.wanted o (yielded ops a.tmps) = true by simp [Region.wanted, hgd])]
  obtain ⟨i0, hi, hz0, hz1, hz2⟩ := info_parts info_str
  obtain ⟨A, c, rfl, hc, hn, hrd⟩ := hu
  cases A with
  | none =>
    have hm : m = [] := by
      rcases Nat.eq_zero_or_pos m.length with h0 | h0
      · exact List.eq_nil_of_length_eq_zero h0
      · obtain ⟨b, off, e, _⟩ := hrd h0
        cases e
    subst hm
    have hc0 := hn rfl
    subst hc0
    have hrun := run_append_owned_none (P := Try.prog) (w := W) N 23 o.type 9 i0 1 Try.underlying23 hi v l.length (l.map sc) hr
    have hx' : a.eval x = .slice none 0 0 := hx
    have hk := h v W (by rw [List.append_nil]; exact hr) (World.grownBy.refl _ _)
    unfold Oper.wp
    simp [execOp, ho, resolve, invoke, builtin, hs, hx', hrun, Result.andThen]
    exact hk
  | some ad =>
    have hcells : ∀ j w, (m.map sc)[j]? = some w → W.cell? (ad.add j) = some w := by
      intro j u hu
      have hj : j < m.length := by
        have := (List.getElem?_eq_some_iff.1 hu).1
        rwa [List.length_map] at this
      obtain ⟨b, off, e, _, hcc⟩ := hrd (by omega)
      injection e with e
      subst e
      rw [WideShapes.add_plain, hcc j hj]
      rw [List.getElem?_map, List.getElem?_eq_getElem hj] at hu
      exact hu
    obtain ⟨v', w', hrun, h2, h3, _⟩ := run_append_own_at (P := Try.prog) W N 23 o.type 9 i0 (.string .empty) 1 16 Try.underlying23 hi hz0 hz1 hz2 rfl (by decide) v l.length (l.map sc) hr ad m.length c (m.map sc) (by simp) hcells (fun u hu => by obtain ⟨y, _, rfl⟩ := List.mem_map.1 hu; rfl) (by unfold maxLen; omega) (by omega) hN
    have hk := h v' w' (Sown.appended h2 rfl) h3
    unfold Oper.wp
    simp [execOp, ho, resolve, invoke, builtin, hs, hx, hrun, Result.andThen]
    exact hk

end Go.Proofs.Ytgjlfcamgkeibaa.Co

namespace Go.Proofs.Ytgjlfcamgkeibaa.Fo
set_option maxRecDepth 100000
set_option linter.unusedSimpArgs false
set_option linter.unusedVariables false
open Go.RowKit Ba Fm
theorem space_any (c : UInt8) (w : World) :
    Calls Try.prog 119 #[.int .u8 c.toNat] w fun e w' => e = .returned (.bool (sp c)) ∧ w = w' := by
  have e9 : ((c.toNat : Int) == 9) = (c == 9) := u8_eq (b := 9)
  have e10 : ((c.toNat : Int) == 10) = (c == 10) := u8_eq (b := 10)
  have e12 : ((c.toNat : Int) == 12) = (c == 12) := u8_eq (b := 12)
  have e13 : ((c.toNat : Int) == 13) = (c == 13) := u8_eq (b := 13)
  have e32 : ((c.toNat : Int) == 32) = (c == 32) := u8_eq (b := 32)
  cases h9 : (c == 9) <;> cases h10 : (c == 10) <;> cases h12 : (c == 12) <;> cases h13 : (c == 13) <;> cases h32 : (c == 32)
  all_goals
    rw [h9] at e9
    rw [h10] at e10
    rw [h12] at e12
    rw [h13] at e13
    rw [h32] at e32
    have H9 := Lib.hid h9; have H10 := Lib.hid h10; have H12 := Lib.hid h12; have H13 := Lib.hid h13; have H32 := Lib.hid h32
    clear h9 h10 h12 h13 h32
    go_enter Try.func119, Try.ntmps119
    go_wp2
    go_ret
    exact ⟨ret_bool (by unfold sp; rw [H9.out, H10.out, H12.out, H13.out, H32.out]; rfl), rfl⟩

end Go.Proofs.Ytgjlfcamgkeibaa.Fo

namespace Go.Proofs.Ytgjlfcamgkeibaa.Na
set_option maxRecDepth 100000
set_option linter.unusedSimpArgs false
set_option linter.unusedVariables false
open Go.RowKit Ba Fm Fo Nm
theorem u8_range {c : UInt8} : (decide ((65 : UInt8) ≤ c) && decide (c ≤ 90)) = (decide ((65 : Int) ≤ c.toNat) && decide ((c.toNat : Int) ≤ 90)) := by
  rw [Bool.eq_iff_iff]
  simp only [Bool.and_eq_true, decide_eq_true_eq, UInt8.le_iff_toNat_le]
  have e65 : (65 : UInt8).toNat = 65 := rfl
  have e90 : (90 : UInt8).toNat = 90 := rfl
  rw [e65, e90]
  omega
theorem u8_small {c : UInt8} : small c = (decide ((97 : Int) ≤ c.toNat) && decide ((c.toNat : Int) ≤ 122)) := by
  unfold small
  rw [Bool.eq_iff_iff]
  simp only [Bool.and_eq_true, decide_eq_true_eq, UInt8.le_iff_toNat_le]
  have e65 : (97 : UInt8).toNat = 97 := rfl
  have e90 : (122 : UInt8).toNat = 122 := rfl
  rw [e65, e90]
  omega

def elBAll (s : ByteArray) : Bool := (L s).all elB
def atBAll (s : ByteArray) : Bool := (L s).all atB
theorem all_snoc (p : UInt8 → Bool) (s : ByteArray) (k : Nat) (h : k < s.size) : ((L s).take (k + 1)).all p = (((L s).take k).all p && p s[k]) := by
  rw [take_snoc s k h, List.all_append]; simp
theorem all_no (p : UInt8 → Bool) (s : ByteArray) (k : Nat) (h : k < s.size) (hb : p s[k] = false) : (L s).all p = false := by
  rw [List.all_eq_false]
  exact ⟨s[k], List.getElem_mem (by rw [size_L]; exact h), by simp [hb]⟩

set_option maxHeartbeats 1000000 in
theorem inElement_any (c : UInt8) (w : World) :
    Calls Try.prog 109 #[.int .u8 c.toNat] w fun e w' => e = .returned (.bool (elB c)) ∧ w = w' := by
  have e0 : ((c.toNat : Int) == 0) = (c == 0) := u8_eq (b := 0)
  have e47 : ((c.toNat : Int) == 47) = (c == 47) := u8_eq (b := 47)
  have e62 : ((c.toNat : Int) == 62) = (c == 62) := u8_eq (b := 62)
  have hr := u8_range (c := c)
  have he : elB c = !(sp c || (decide ((65 : UInt8) ≤ c) && decide (c ≤ 90)) || c == 0 || c == 47 || c == 62) := rfl
  rw [hr] at he
  obtain ⟨q, hq⟩ : ∃ q, elB c = q := ⟨_, rfl⟩
  rw [hq] at he ⊢
  clear hr hq
  cases h0 : (c == 0) <;> cases h47 : (c == 47) <;> cases h62 : (c == 62)
  all_goals
    rw [h0] at e0
    rw [h47] at e47
    rw [h62] at e62
    rw [h0, h47, h62] at he
    clear h0 h47 h62
  case false.false.false =>
    cases hs : sp c <;> by_cases h1 : (65 : Int) ≤ c.toNat <;> by_cases h2 : (c.toNat : Int) ≤ 90
    all_goals
      have HE := Lib.hid he; have HS := Lib.hid hs
      clear he hs
      first
      | omega
      | (go_enter Try.func109, Try.ntmps109
         go_wp2_with (go_at_call 119; refine (space_any c _).mono ?_; rw [HS.out]; rintro e w' ⟨rfl, rfl⟩)
         go_ret
         exact ⟨ret_bool (by rw [HE.out, HS.out]; simp [h1, h2]), rfl⟩)
  all_goals
    have HE := Lib.hid he
    clear he
    go_enter Try.func109, Try.ntmps109
    go_wp2
    go_ret
    exact ⟨ret_bool (by rw [HE.out]; simp), rfl⟩

set_option maxHeartbeats 1000000 in
theorem inAttr_any (c : UInt8) (w : World) :
    Calls Try.prog 110 #[.int .u8 c.toNat] w fun e w' => e = .returned (.bool (atB c)) ∧ w = w' := by
  have e34 : ((c.toNat : Int) == 34) = (c == 34) := u8_eq (b := 34)
  have e39 : ((c.toNat : Int) == 39) = (c == 39) := u8_eq (b := 39)
  have e60 : ((c.toNat : Int) == 60) = (c == 60) := u8_eq (b := 60)
  have e61 : ((c.toNat : Int) == 61) = (c == 61) := u8_eq (b := 61)
  have he : atB c = (elB c && !(c == 34 || c == 39 || c == 60 || c == 61)) := rfl
  obtain ⟨q, hq⟩ : ∃ q, atB c = q := ⟨_, rfl⟩
  rw [hq] at he ⊢
  clear hq
  cases h34 : (c == 34) <;> cases h39 : (c == 39) <;> cases h60 : (c == 60) <;> cases h61 : (c == 61)
  all_goals
    rw [h34] at e34
    rw [h39] at e39
    rw [h60] at e60
    rw [h61] at e61
    rw [h34, h39, h60, h61] at he
    clear h34 h39 h60 h61
    have HE := Lib.hid he
    clear he
    go_enter Try.func110, Try.ntmps110
    go_wp2_with (go_at_call 109; refine (inElement_any c _).mono ?_; rintro e w' ⟨rfl, rfl⟩)
    go_ret
    exact ⟨ret_bool (by rw [HE.out]; simp), rfl⟩

set_option maxHeartbeats 1000000 in
theorem every_el (s : ByteArray) (w : World) (hs : s.size ≤ 140737488355328) :
    Calls Try.prog 108 #[.string s, .func (.func 109) #[] #[]] w fun e w' => e = .returned (.bool (elBAll s)) ∧ w = w' := by
  go_enter Try.func108, Try.ntmps108
  go_wp2
  go_loop [8] (fun i => ∃ k : Nat, i = .int .i64 k ∧ k ≤ s.size ∧ ((L s).take k).all elB = true) (fun i => s.size - (intOf i).toNat)
  case atStart => exact ⟨0, rfl, Nat.zero_le _, by simp⟩
  case round =>
    obtain ⟨k, rfl, hks, hn⟩ := hrel
    by_cases hp : k < s.size
    · have hsn := all_snoc elB s k hp
      rw [hn] at hsn
      cases hb : elB s[k] with
      | true =>
        rw [hb] at hsn
        have HB := Lib.hid hb; have HS := Lib.hid hsn; clear hb hsn hn
        go_wp2_with (go_at_call 109; refine (inElement_any s[k] _).mono ?_; rw [HB.out]; rintro e w' ⟨rfl, rfl⟩)
        go_round
        case rel => exact ⟨k + 1, by go_num, by omega, HS.out⟩
        case measure => simp [intOf]; omega
      | false =>
        have hno : elBAll s = false := all_no elB s k hp hb
        have HB := Lib.hid hb; have HN := Lib.hid hno; clear hb hsn hn hno
        go_wp2_with (go_at_call 109; refine (inElement_any s[k] _).mono ?_; rw [HB.out]; rintro e w' ⟨rfl, rfl⟩)
        go_ret
        exact ⟨ret_bool HN.out.symm, rfl⟩
    · rw [List.take_of_length_le (by rw [size_L]; omega)] at hn
      have hn : elBAll s = true := hn
      have HN := Lib.hid hn; clear hn
      go_wp2
      go_ret
      exact ⟨ret_bool HN.out.symm, rfl⟩
set_option maxHeartbeats 1000000 in
theorem every_at (s : ByteArray) (w : World) (hs : s.size ≤ 140737488355328) :
    Calls Try.prog 108 #[.string s, .func (.func 110) #[] #[]] w fun e w' => e = .returned (.bool (atBAll s)) ∧ w = w' := by
  go_enter Try.func108, Try.ntmps108
  go_wp2
  go_loop [8] (fun i => ∃ k : Nat, i = .int .i64 k ∧ k ≤ s.size ∧ ((L s).take k).all atB = true) (fun i => s.size - (intOf i).toNat)
  case atStart => exact ⟨0, rfl, Nat.zero_le _, by simp⟩
  case round =>
    obtain ⟨k, rfl, hks, hn⟩ := hrel
    by_cases hp : k < s.size
    · have hsn := all_snoc atB s k hp
      rw [hn] at hsn
      cases hb : atB s[k] with
      | true =>
        rw [hb] at hsn
        have HB := Lib.hid hb; have HS := Lib.hid hsn; clear hb hsn hn
        go_wp2_with (go_at_call 110; refine (inAttr_any s[k] _).mono ?_; rw [HB.out]; rintro e w' ⟨rfl, rfl⟩)
        go_round
        case rel => exact ⟨k + 1, by go_num, by omega, HS.out⟩
        case measure => simp [intOf]; omega
      | false =>
        have hno : atBAll s = false := all_no atB s k hp hb
        have HB := Lib.hid hb; have HN := Lib.hid hno; clear hb hsn hn hno
        go_wp2_with (go_at_call 110; refine (inAttr_any s[k] _).mono ?_; rw [HB.out]; rintro e w' ⟨rfl, rfl⟩)
        go_ret
        exact ⟨ret_bool HN.out.symm, rfl⟩
    · rw [List.take_of_length_le (by rw [size_L]; omega)] at hn
      have hn : atBAll s = true := hn
      have HN := Lib.hid hn; clear hn
      go_wp2
      go_ret
      exact ⟨ret_bool HN.out.symm, rfl⟩

theorem nil_size {s : ByteArray} (h : s.toList = []) : s.size = 0 := by
  rw [toList_L] at h
  rw [← size_L, h]; rfl
theorem not_nil {s : ByteArray} (h : ¬ s.size = 0) : ¬ s.toList = [] := fun e => h (nil_size e)
theorem nil_of {s : ByteArray} (h : s.size = 0) : s.toList = [] := by
  rw [toList_L]
  exact List.eq_nil_of_length_eq_zero (by rw [size_L]; exact h)
theorem attrB_nil {s : ByteArray} (h : s.size = 0) : attrB s = false := by
  unfold attrB
  rw [← toList_L, nil_of h]; rfl
theorem rightB_nil {s : ByteArray} (h : s.size = 0) : rightB s = false := by
  unfold rightB
  rw [← toList_L, nil_of h]; rfl
theorem attrB_cons {s : ByteArray} (h : ¬ s.size = 0) : attrB s = atBAll s := by
  unfold attrB atBAll
  have := drop_cons s 0 (by omega)
  rw [List.drop_zero] at this
  rw [this]; rfl
theorem rightB_cons {s : ByteArray} (h : 0 < s.size) : rightB s = (small s[0] && elBAll s) := by
  unfold rightB elBAll
  have := drop_cons s 0 h
  rw [List.drop_zero] at this
  rw [this]; rfl

set_option maxHeartbeats 1000000 in
theorem attr_any (s : ByteArray) (w : World) (hs : s.size ≤ 140737488355328) :
    Calls Try.prog 83 #[.string s] w fun e w' => e = .returned (.bool (attrB s)) ∧ w = w' := by
  by_cases h0 : s.size = 0
  · rw [attrB_nil h0]
    have hn := nil_of h0
    clear h0
    go_enter Try.func83, Try.ntmps83
    go_wp2
    go_ret
    exact ⟨rfl, rfl⟩
  · rw [attrB_cons h0]
    have hn := not_nil h0
    clear h0
    go_enter Try.func83, Try.ntmps83
    go_wp2_with fail
    refine (every_at s w hs).mono ?_
    rintro e w' ⟨rfl, rfl⟩
    go_wp2
    go_ret
    exact ⟨ret_bool (by simp [hn]), rfl⟩
set_option maxHeartbeats 1000000 in
theorem right_any (s : ByteArray) (w : World) (hs : s.size ≤ 140737488355328) :
    Calls Try.prog 82 #[.string s] w fun e w' => e = .returned (.bool (rightB s)) ∧ w = w' := by
  by_cases h0 : s.size = 0
  · rw [rightB_nil h0]
    have hn := nil_of h0
    clear h0
    go_enter Try.func82, Try.ntmps82
    go_wp2
    go_ret
    exact ⟨rfl, rfl⟩
  · have hp : 0 < s.size := by omega
    have he := rightB_cons hp
    rw [u8_small] at he
    obtain ⟨q, hq⟩ : ∃ q, rightB s = q := ⟨_, rfl⟩
    rw [hq] at he ⊢
    have hn := not_nil h0
    clear h0 hq
    have HE := Lib.hid he
    clear he
    by_cases h1 : (97 : Int) ≤ s[0].toNat <;> by_cases h2 : (s[0].toNat : Int) ≤ 122
    all_goals
      go_enter Try.func82, Try.ntmps82
      go_wp2_with (go_at_call 108; refine (every_el s _ hs).mono ?_; rintro e w' ⟨rfl, rfl⟩)
      go_ret
      refine ⟨ret_bool ?_, rfl⟩
      rw [HE.out]
      by_cases g1 : (97 : Int) ≤ s[0].toNat
      · by_cases g2 : (s[0].toNat : Int) ≤ 122
        · rw [decide_eq_true g1, decide_eq_true g2]
          first | rfl | (simp [hn]; done) | (exfalso; omega)
        · rw [decide_eq_false g2, decide_eq_true g1]
          first | rfl | (exfalso; omega)
      · rw [decide_eq_false g1]
        first | rfl | (exfalso; omega)

end Go.Proofs.Ytgjlfcamgkeibaa.Na

namespace Go.Proofs.Ytgjlfcamgkeibaa.Fo
set_option maxRecDepth 100000
set_option linter.unusedSimpArgs false
set_option linter.unusedVariables false
open Go.RowKit Ba Fm
theorem refSpace_any (c : UInt8) (w : World) :
    Calls Try.prog 120 #[.int .u8 c.toNat] w fun e w' => e = .returned (.bool (sp c)) ∧ w = w' := by
  have e9 : ((c.toNat : Int) == 9) = (c == 9) := u8_eq (b := 9)
  have e10 : ((c.toNat : Int) == 10) = (c == 10) := u8_eq (b := 10)
  have e12 : ((c.toNat : Int) == 12) = (c == 12) := u8_eq (b := 12)
  have e13 : ((c.toNat : Int) == 13) = (c == 13) := u8_eq (b := 13)
  have e32 : ((c.toNat : Int) == 32) = (c == 32) := u8_eq (b := 32)
  cases h9 : (c == 9) <;> cases h10 : (c == 10) <;> cases h12 : (c == 12) <;> cases h13 : (c == 13) <;> cases h32 : (c == 32)
  all_goals
    rw [h9] at e9
    rw [h10] at e10
    rw [h12] at e12
    rw [h13] at e13
    rw [h32] at e32
    have H9 := Lib.hid h9; have H10 := Lib.hid h10; have H12 := Lib.hid h12; have H13 := Lib.hid h13; have H32 := Lib.hid h32
    clear h9 h10 h12 h13 h32
    go_enter Try.func120, Try.ntmps120
    go_wp2
    go_ret
    exact ⟨ret_bool (by unfold sp; rw [H9.out, H10.out, H12.out, H13.out, H32.out]; rfl), rfl⟩

end Go.Proofs.Ytgjlfcamgkeibaa.Fo

namespace Go.Proofs.Ytgjlfcamgkeibaa.Na
set_option maxRecDepth 100000
set_option linter.unusedSimpArgs false
set_option linter.unusedVariables false
open Go.RowKit Ba Fm Fo Nm
theorem bad_eq (c : UInt8) (at_ : Bool) : (if at_ = true then atB c else elB c) = !(sp c || (decide ((65 : Int) ≤ c.toNat) && decide ((c.toNat : Int) ≤ 90)) || c == 0 || c == 47 || c == 62 || (at_ && (c == 34 || c == 39 || c == 60 || c == 61))) := by
  unfold atB elB
  rw [← u8_range]
  cases at_ <;> cases sp c <;> cases (decide ((65 : UInt8) ≤ c) && decide (c ≤ 90)) <;> cases (c == 0) <;> cases (c == 47) <;> cases (c == 62) <;> cases (c == 34) <;> cases (c == 39) <;> cases (c == 60) <;> cases (c == 61) <;> rfl

def badB (c : UInt8) (a : Bool) : Bool := !(if a = true then atB c else elB c)

set_option maxHeartbeats 4000000 in
theorem bad_any (c : UInt8) (a : Bool) (w : World) :
    Calls Try.prog 112 #[.int .u8 c.toNat, .bool a] w fun e w' => e = .returned (.bool (badB c a)) ∧ w = w' := by
  have e0 : ((c.toNat : Int) == 0) = (c == 0) := u8_eq (b := 0)
  have e47 : ((c.toNat : Int) == 47) = (c == 47) := u8_eq (b := 47)
  have e62 : ((c.toNat : Int) == 62) = (c == 62) := u8_eq (b := 62)
  have e34 : ((c.toNat : Int) == 34) = (c == 34) := u8_eq (b := 34)
  have e39 : ((c.toNat : Int) == 39) = (c == 39) := u8_eq (b := 39)
  have e60 : ((c.toNat : Int) == 60) = (c == 60) := u8_eq (b := 60)
  have e61 : ((c.toNat : Int) == 61) = (c == 61) := u8_eq (b := 61)
  have he : badB c a = (sp c || (decide ((65 : Int) ≤ c.toNat) && decide ((c.toNat : Int) ≤ 90)) || c == 0 || c == 47 || c == 62 || (a && (c == 34 || c == 39 || c == 60 || c == 61))) := by unfold badB; rw [bad_eq, Bool.not_not]
  obtain ⟨q, hq⟩ : ∃ q, badB c a = q := ⟨_, rfl⟩
  rw [hq] at he ⊢
  clear hq
  obtain ⟨b0, h0⟩ : ∃ b, (c == 0) = b := ⟨_, rfl⟩
  obtain ⟨b47, h47⟩ : ∃ b, (c == 47) = b := ⟨_, rfl⟩
  obtain ⟨b62, h62⟩ : ∃ b, (c == 62) = b := ⟨_, rfl⟩
  obtain ⟨b34, h34⟩ : ∃ b, (c == 34) = b := ⟨_, rfl⟩
  obtain ⟨b39, h39⟩ : ∃ b, (c == 39) = b := ⟨_, rfl⟩
  obtain ⟨b60, h60⟩ : ∃ b, (c == 60) = b := ⟨_, rfl⟩
  obtain ⟨b61, h61⟩ : ∃ b, (c == 61) = b := ⟨_, rfl⟩
  rw [h0] at e0
  rw [h47] at e47
  rw [h62] at e62
  rw [h34] at e34
  rw [h39] at e39
  rw [h60] at e60
  rw [h61] at e61
  rw [h0, h47, h62, h34, h39, h60, h61] at he
  clear h0 h47 h62 h34 h39 h60 h61
  obtain ⟨g, hg⟩ : ∃ g, sp c = g := ⟨_, rfl⟩
  obtain ⟨r1, hr1⟩ : ∃ r, decide ((65 : Int) ≤ c.toNat) = r := ⟨_, rfl⟩
  obtain ⟨r2, hr2⟩ : ∃ r, decide ((c.toNat : Int) ≤ 90) = r := ⟨_, rfl⟩
  rw [hg, hr1, hr2] at he
  have HG := Lib.hid hg; have HE := Lib.hid he
  clear hg he
  cases g with
  | true =>
    go_enter Try.func112, Try.ntmps112
    go_wp2_with (go_at_call 120; refine (refSpace_any c _).mono ?_; rw [HG.out]; rintro e w' ⟨rfl, rfl⟩)
    go_ret
    exact ⟨ret_bool (by rw [HE.out]; simp), rfl⟩
  | false =>
    go_enter Try.func112, Try.ntmps112
    go_wp2_with (go_at_call 120; refine (refSpace_any c _).mono ?_; rw [HG.out]; rintro e w' ⟨rfl, rfl⟩)
    all_goals
      go_ret
      exact ⟨ret_bool (by rw [HE.out]; simp [*]), rfl⟩

def noBad (s : ByteArray) (a : Bool) : Bool := (L s).all fun c => !badB c a
def mayB (s : ByteArray) (a : Bool) : Bool := if a = true then attrB s else rightB s
theorem noBad_eq (s : ByteArray) (a : Bool) : noBad s a = if a = true then atBAll s else elBAll s := by
  unfold noBad badB atBAll elBAll
  cases a <;> simp
theorem may_nil {s : ByteArray} (a : Bool) (h : s.size = 0) : mayB s a = false := by
  unfold mayB
  rw [attrB_nil h, rightB_nil h]
  cases a <;> rfl
theorem may_cons {s : ByteArray} (a : Bool) (h : 0 < s.size) : mayB s a = (noBad s a && (a || (decide ((97 : Int) ≤ s[0].toNat) && decide ((s[0].toNat : Int) ≤ 122)))) := by
  rw [noBad_eq, ← u8_small]
  unfold mayB
  rw [attrB_cons (by omega), rightB_cons h]
  cases a
  · simp [Bool.and_comm]
  · simp

set_option maxHeartbeats 2000000 in
theorem may_any (s : ByteArray) (a : Bool) (w : World) (hs : s.size ≤ 140737488355328) :
    Calls Try.prog 92 #[.string s, .bool a] w fun e w' => e = .returned (.bool (mayB s a)) ∧ w = w' := by
  go_enter Try.func92, Try.ntmps92
  go_wp2
  go_loop [5] (fun i => ∃ k : Nat, i = .int .i64 k ∧ k ≤ s.size ∧ ((L s).take k).all (fun c => !badB c a) = true) (fun i => s.size - (intOf i).toNat)
  case atStart => exact ⟨0, rfl, Nat.zero_le _, by simp⟩
  case round =>
    obtain ⟨k, rfl, hks, hn⟩ := hrel
    by_cases hp : k < s.size
    · have hsn := all_snoc (fun c => !badB c a) s k hp
      rw [hn] at hsn
      cases hb : badB s[k] a with
      | false =>
        rw [hb] at hsn
        have HB := Lib.hid hb; have HS := Lib.hid hsn; clear hb hsn hn
        go_wp2_with (go_at_call 112; refine (bad_any s[k] a _).mono ?_; rw [HB.out]; rintro e w' ⟨rfl, rfl⟩)
        go_round
        case rel => exact ⟨k + 1, by go_num, by omega, HS.out⟩
        case measure => simp [intOf]; omega
      | true =>
        have hno : noBad s a = false := all_no (fun c => !badB c a) s k hp (by rw [hb]; rfl)
        have hm : mayB s a = false := by rw [may_cons a (by omega), hno]; rfl
        have HB := Lib.hid hb; have HN := Lib.hid hm; clear hb hsn hn hno hm
        go_wp2_with (go_at_call 112; refine (bad_any s[k] a _).mono ?_; rw [HB.out]; rintro e w' ⟨rfl, rfl⟩)
        go_ret
        exact ⟨ret_bool HN.out.symm, rfl⟩
    · rw [List.take_of_length_le (by rw [size_L]; omega)] at hn
      by_cases h0 : s.size = 0
      · have hm := may_nil a h0
        have HN := Lib.hid hm; clear hn hm
        have hd : decide ((0 : Int) < (s.size : Int)) = false := decide_eq_false (by omega)
        go_wp2
        go_ret
        exact ⟨ret_bool HN.out.symm, rfl⟩
      · have h1 : 0 < s.size := by omega
        have hm := may_cons a h1
        rw [show noBad s a = true from hn, Bool.true_and] at hm
        obtain ⟨r1, hr1⟩ : ∃ r, decide ((97 : Int) ≤ s[0].toNat) = r := ⟨_, rfl⟩
        obtain ⟨r2, hr2⟩ : ∃ r, decide ((s[0].toNat : Int) ≤ 122) = r := ⟨_, rfl⟩
        rw [hr1, hr2] at hm
        have HM := Lib.hid hm
        clear hm hn h0
        go_wp2
        all_goals
          go_ret
          exact ⟨ret_bool (by have hm := HM.out; clear hr1 hr2; simp_all), rfl⟩

end Go.Proofs.Ytgjlfcamgkeibaa.Na

namespace Go.Proofs.Ytgjlfcamgkeibaa.Co
set_option maxRecDepth 100000
set_option linter.unusedVariables false
set_option linter.unusedSimpArgs false
open Go.RowKit Ba Fm Fo Nm Rk
theorem all_snocL (p : ByteArray → Bool) (l : List ByteArray) (k : Nat) (h : k < l.length) : (l.take (k + 1)).all p = ((l.take k).all p && p l[k]) := by
  rw [List.take_succ_eq_append_getElem h, List.all_append]
  simp
theorem all_noL {p : ByteArray → Bool} {l : List ByteArray} {k : Nat} (h : k < l.length) (hp : p l[k] = false) : l.all p = false := by
  rw [List.all_eq_false]
  exact ⟨l[k], List.getElem_mem h, by simp [hp]⟩
set_option maxHeartbeats 1000000 in
theorem refMay1 (v : Value) (l : List ByteArray) (a : Bool) (N : Nat) (w : World) (q : Bool) (h : Sv w N v l) (hl : l.length ≤ 1000000) (hsz : ∀ s ∈ l, s.size ≤ 140737488355328) (hq : l.all (fun s => Na.mayB s a) = q) :
    Calls Try.prog 52 #[v, .bool a] w fun e w' => e = .returned (.bool q) ∧ w = w' := by
  obtain ⟨A, c, rfl, hc, hna, hr⟩ := h
  have HSZ := Lib.hid hsz; have HQ := Lib.hid hq; clear hsz hq
  go_enter Try.func52, Try.ntmps52
  go_wp2
  go_loopw [5] (fun i wr => ∃ k : Nat, i = .int .i64 k ∧ k ≤ l.length ∧ (l.take k).all (fun s => Na.mayB s a) = true ∧ w = wr) (fun i _ => l.length - (intOf i).toNat)
  case atStart => exact ⟨0, rfl, Nat.zero_le _, rfl, rfl⟩
  case round =>
    obtain ⟨k, rfl, hks, hn, rfl⟩ := hrel
    by_cases hk : k < l.length
    · obtain ⟨b, off, rfl, _, hcc⟩ := hr (by omega)
      have hcell := hcc k hk
      have hxs := HSZ.out _ (List.getElem_mem hk)
      have hsn := all_snocL (fun s => Na.mayB s a) l k hk
      rw [hn, Bool.true_and] at hsn
      have hno := fun h => all_noL (p := fun s => Na.mayB s a) hk h
      generalize l[k] = x at *
      clear hcc hr hn
      cases hm : Na.mayB x a with
      | true =>
        have HM := Lib.hid hm; have HS := Lib.hid (hsn.trans hm); clear hm hsn hno
        go_wp2_with (go_at_call 92; refine (Na.may_any x a _ hxs).mono ?_; rw [HM.out]; rintro e w' ⟨rfl, rfl⟩)
        go_roundw
        case rel => exact ⟨k + 1, by go_num, by omega, HS.out, by trivial⟩
        case measure => simp [intOf]; omega
      | false =>
        have HM := Lib.hid hm; have HN := Lib.hid (hno hm); clear hm hsn hno
        go_wp2_with (go_at_call 92; refine (Na.may_any x a _ hxs).mono ?_; rw [HM.out]; rintro e w' ⟨rfl, rfl⟩)
        go_ret
        exact ⟨ret_bool (by rw [← HQ.out, HN.out]), rfl⟩
    · rw [List.take_of_length_le (by omega), HQ.out] at hn
      subst hn
      go_wp2
      go_ret
      exact ⟨rfl, rfl⟩
set_option maxHeartbeats 2000000 in
theorem refOnce1 (v : Value) (l : List ByteArray) (w : World) (q : Bool) (h : Sv w w.heap.size v l) (hl : l.length ≤ 1000000) (hq : onceB l = q) :
    Calls Try.prog 53 #[v] w fun e w' => e = .returned (.bool q) ∧ Below w.heap.size w w' := by
  obtain ⟨A, c, rfl, hlc, hna, hr⟩ := h
  have HQ := Lib.hid hq; clear hq
  go_enter Try.func53, Try.ntmps53
  go_wp2
  go_loopw [3] (fun i wr => ∃ k : Nat, i = .int .i64 k ∧ k ≤ l.length ∧ (l.take k).Nodup ∧ Below w.heap.size w wr) (fun i _ => l.length - (intOf i).toNat)
  case atStart => exact ⟨0, rfl, Nat.zero_le _, by simp, Below.refl _ _⟩
  case round =>
    obtain ⟨k, rfl, hks, hn, hbel⟩ := hrel
    by_cases hk : k < l.length
    · obtain ⟨b0, off, rfl, hb0, hcc⟩ := hr (by omega)
      have hcell : wr.cell? ⟨b0, off + k, none⟩ = some (.string l[k]) := (hbel.cell (p := ⟨b0, off + k, none⟩) hb0).trans (hcc k hk)
      have hr1 := hr.below hbel (Nat.le_refl _)
      have h1 : Sv wr w.heap.size (.slice (some ⟨b0, off, none⟩) k c) (l.take k) := ⟨_, c, by rw [List.length_take, Nat.min_eq_left hks], by rw [List.length_take]; omega, hna, hr1.take k⟩
      obtain ⟨m, hm⟩ : ∃ m, isIn l[k] (l.take k) = m := ⟨_, rfl⟩
      have HM := Lib.hid (has_q _ _ (l.take k) l[k] wr m h1 (by rw [List.length_take]; omega) hm)
      have HI := Lib.hid hm; have HN := Lib.hid hn
      have hk0 : (0 : Int) ≤ (k : Int) := by omega
      have hk1 : (k : Int) ≤ (c : Int) := by omega
      have hk2 : (k : Int) < (l.length : Int) := by omega
      have hck : ¬ c = k := by omega
      cases m with
      | true =>
        have HF := Lib.hid (show onceB l = false from decide_eq_false (once_no hk (isIn_of HI.out)))
        clear h1 hm hn hcc hr hr1
        go_wp2
        go_quiet ((go_at_call 61; exact HM.out _))
        go_wp2
        go_ret
        exact ⟨ret_bool (by rw [← HQ.out, HF.out]), below_dN hbel _⟩
      | false =>
        have HN1 := Lib.hid (once_snoc hk HN.out (notIn_of HI.out))
        clear h1 hm hn hcc hr hr1
        go_wp2
        go_quiet ((go_at_call 61; exact HM.out _))
        go_wp2
        go_roundw
        case rel => exact ⟨k + 1, by go_num, by omega, HN1.out, below_dN hbel _⟩
        case measure => simp [intOf]; omega
    · rw [List.take_of_length_le (by omega)] at hn
      have hq : true = q := by rw [← HQ.out]; exact (decide_eq_true hn).symm
      subst hq
      go_wp2
      go_ret
      exact ⟨rfl, hbel⟩
set_option maxHeartbeats 1000000 in
theorem refMeet1 (va vb : Value) (N M : Nat) (a b : List ByteArray) (w : World) (q : Bool) (ha : Sv w N va a) (hb : Sv w M vb b) (hla : a.length ≤ 1000000) (hlb : b.length ≤ 1000000) (hq : meetB a b = q) :
    Calls Try.prog 54 #[va, vb] w fun e w' => e = .returned (.bool q) ∧ w = w' := by
  obtain ⟨A, c, rfl, _, _, hr⟩ := ha
  have HB := Lib.hid hb; have HQ := Lib.hid hq; clear hb hq
  go_enter Try.func54, Try.ntmps54
  go_wp2
  go_loopw [5] (fun i wr => ∃ k : Nat, i = .int .i64 k ∧ k ≤ a.length ∧ meetB (a.take k) b = false ∧ w = wr) (fun i _ => a.length - (intOf i).toNat)
  case atStart => exact ⟨0, rfl, Nat.zero_le _, rfl, rfl⟩
  case round =>
    obtain ⟨k, rfl, hks, hn, rfl⟩ := hrel
    by_cases hk : k < a.length
    · obtain ⟨b0, off, rfl, _, hcc⟩ := hr (by omega)
      have hcell := hcc k hk
      have hsn := any_snoc' (fun x => isIn x b) a k hk
      have hn' : (a.take k).any (fun x => isIn x b) = false := hn
      rw [hn', Bool.false_or] at hsn
      have hxm := List.getElem_mem hk
      generalize a[k] = x at *
      clear hcc hr hn hn'
      cases hm : isIn x b with
      | true =>
        have HM := Lib.hid hm; have HF := Lib.hid (show meetB a b = true from meet_iff.2 ⟨x, hxm, isIn_of hm⟩); clear hm hsn
        go_wp2_with (go_at_call 61; refine (has1 vb M b x _ true HB.out (by omega) HM.out).mono ?_; rintro e w' ⟨rfl, rfl⟩)
        go_ret
        exact ⟨ret_bool (by rw [← HQ.out, HF.out]), rfl⟩
      | false =>
        have HM := Lib.hid hm; have HS := Lib.hid (show meetB (a.take (k + 1)) b = false from hsn.trans hm); clear hm hsn
        go_wp2_with (go_at_call 61; refine (has1 vb M b x _ false HB.out (by omega) HM.out).mono ?_; rintro e w' ⟨rfl, rfl⟩)
        go_roundw
        case rel => exact ⟨k + 1, by go_num, by omega, HS.out, by trivial⟩
        case measure => simp [intOf]; omega
    · rw [List.take_of_length_le (by omega), HQ.out] at hn
      subst hn
      go_wp2
      go_ret
      exact ⟨rfl, rfl⟩
theorem els_snoc {l : List Pw} {k : Nat} {x : Pw} (h : l[k]? = some x) : (pes (l.take (k + 1))).map Pe.el = (pes (l.take k)).map Pe.el ++ [x.pe.el] := by
  have hk : k < l.length := (List.getElem?_eq_some_iff.1 h).1
  have hx : l[k] = x := (List.getElem?_eq_some_iff.1 h).2
  rw [List.take_succ_eq_append_getElem hk, pes_append, hx, List.map_append]
  rfl
set_option maxHeartbeats 2000000 in
theorem refOf1 (v : Value) (c : Cf) (w : World) (h : Cv w w.heap.size v c) (hs : Sm c) :
    Calls Try.prog 37 #[v] w fun r w' => ∃ v', r = .returned v' ∧ Sown w.heap.size w' v' (c.per.map Pe.el) ∧ Below w.heap.size w w' := by
  obtain ⟨vE, vR, vA, vP, l, rfl, h⟩ := h
  obtain ⟨w0, hw0⟩ : ∃ w0, (w.alloc (confO c vE vR vA vP)).alloc (.cells #[] 9) = w0 := ⟨_, rfl⟩
  have hba := below_new12 w (confO c vE vR vA vP)
  have hb1 : Below w.heap.size w w0 := hw0 ▸ hba.trans ((below_new12 _ _).mono hba.size)
  have hbx : Bx w0 w.heap.size c vE vR vA vP := hw0 ▸ (Bx.new w c vE vR vA vP).below (below_new12 _ _) (by simp)
  have hz : w0.heap.size = w.heap.size + 2 := by rw [← hw0]; simp
  have hm0 : Sown (w.heap.size + 1) w0 (.slice (some ⟨w.heap.size + 1, 0, none⟩) 0 0) [] := by
    have := Sown.made (w.alloc (confO c vE vR vA vP))
    rw [World.size_alloc] at this
    exact hw0 ▸ this
  obtain ⟨A, cp, rfl, hcp, hna, hr⟩ := h.p
  have hpl : c.per.length = l.length := by rw [← h.m, len_pes]
  have hl : l.length ≤ 1000 := by have := hs.p; omega
  have HM := Lib.hid h.m; have HR := Lib.hid hr; have HB1 := Lib.hid hb1; have HBX := Lib.hid hbx; have HW := Lib.hid hw0
  clear h hs hr hb1 hbx hw0 hba hpl
  go_enter Try.func37, Try.ntmps37
  go_upto_region 2 with (fail)
  rw [HW.out]
  go_wp2
  go_loopw [3, 4] (fun v i wr => ∃ k : Nat, i = .int .i64 k ∧ k ≤ l.length ∧ Sown (w.heap.size + 1) wr v ((pes (l.take k)).map Pe.el) ∧ Below (w.heap.size + 1) w0 wr) (fun _ i _ => l.length - (intOf i).toNat)
  case atStart => exact ⟨0, rfl, Nat.zero_le _, hm0, Below.refl _ _⟩
  case round =>
    clear hm0
    obtain ⟨k, rfl, hks, hown, hbel⟩ := hrel
    have g5 := (HBX.out.below hbel (by omega)).at_.2.2.2.2.2.1
    have hbw : Below w.heap.size w wr := HB1.out.trans (hbel.mono (Nat.le_succ _))
    by_cases hk : k < l.length
    · obtain ⟨b, off, x, rfl, hb, hx, hcs, hsx, hxm⟩ := (HR.out.below hbw).at_ k hk
      obtain ⟨k0, k1⟩ := range2p hcs
      have hbd : (((pes (l.take k)).map Pe.el).length + 1) * 16 ≤ 140737488355328 := by
        rw [List.length_map, len_pes, List.length_take]
        omega
      have hsz : w.heap.size + 1 ≤ wr.heap.size := Nat.le_trans (by omega) hbel.size
      have HE := Lib.hid (els_snoc hx); have HO := Lib.hid hown; have HBL := Lib.hid hbel
      clear hcs hsx hown hbel hbw hx
      go_wp2_with (at_builtin; refine app_one wr rfl (.tmp 13) (.tmp 20) rfl (w.heap.size + 1) _ _ x.pe.el rfl HO.out rfl hbd hsz ?_; intro v3 w3 hown3 hk3 _)
      go_roundw
      case rel => exact ⟨k + 1, by go_num, by omega, by rw [HE.out]; exact hown3, hk3 _ HBL.out⟩
      case measure => simp [intOf]; omega
    · rw [List.take_of_length_le (by omega), HM.out] at hown
      have HO := Lib.hid (hown.mono (Nat.le_succ _)); have HBW := Lib.hid hbw
      clear hown hbel hbw
      go_wp2
      go_ret
      exact ⟨_, rfl, HO.out, HBW.out⟩

end Go.Proofs.Ytgjlfcamgkeibaa.Co

namespace Go.Proofs.Ytgjlfcamgkeibaa.Fo
set_option maxRecDepth 100000
set_option linter.unusedSimpArgs false
set_option linter.unusedVariables false
open Go.RowKit Ba Fm
end Go.Proofs.Ytgjlfcamgkeibaa.Fo
