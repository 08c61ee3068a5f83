/-
  Stage 4, plain: texts joined: right rows stay right, the same text, joined again they stay.
  Stage 4, plain: a node's tree alone, and the rows without it.
  Stage 4, plain: kids, one behind the other; each row is the kid of its parent alone.
  Plain mathematics of stage 13: rows of which some go with all they have, some are replaced by what they have, some stay with some of their attributes. It speaks of no program.
  Plain mathematics of stage 13: texts joined, from behind; joined ahead of filtering, or not, all comes to the same. It speaks of no program.
  Slices of strings in memory: what a slice reads as, and a slice of the call's own. For every stage.
  Plain mathematics for stage 2: lists that rise in a strict order, merging, inserting, counting; spaces, words and small letters of bytes. Nothing of the program stands here.
  Slices of strings as values: reading (Sv), of the call's own (Sown), literals, stores; the order of strings. For every stage from 5 on.
  The elements that are never safe. It speaks of no program.
  Plain mathematics for stage 5: the lists of elements, what each closes and what ends the search, texts that may be names. Nothing of the program stands here.
  Plain mathematics of stage 12 (configurations): which may be, what is in order, what is never safe taken out, what is kept. It speaks of no program.
  What is plain: the configuration, and what it keeps. It speaks of no program.
  Plain mathematics of stage 9 (addresses): what is ignored of an address, its scheme, bytes for their marks; what follows for the laws. It speaks of no program.
  Plain mathematics of stage 10 (what can execute scripts): handlers, pairs of an element and an attribute, sinks, safe nodes and trees; what follows for the laws. It speaks of no program.
  Plain mathematics of stage 13: what a configuration keeps of rows, safely or not; what follows of it for the laws. It speaks of no program.
  Configurations in memory: what a slice of api.Per reads as, a configuration as a value, and in a box.
-/
import Derived.Test.YtdjkeakagmgfgaaCk02
import Derived.Test.YtdjkeakagmgfgaaCk01
import Derived.Deep.QuietTactic
import Derived.BigQuiet
import Derived.Deep.MidRow
namespace Go.Proofs.Ytdjkeakagmgfgaa.Ro
set_option linter.unusedVariables false
set_option linter.unusedSimpArgs false
open Go.RowKit Ba
theorem right_mono {m k : Int} (h : m ≤ k) : ∀ {l : List Ro}, rightFrom m l = true → rightFrom k l = true
  | [], _ => rfl
  | x :: r, hr => by
    rw [rightFrom] at hr ⊢
    simp only [Bool.and_eq_true, decide_eq_true_eq] at hr ⊢
    exact ⟨⟨⟨hr.1.1.1, by omega⟩, hr.1.2⟩, hr.2⟩

theorem ok_text (d : Int) (t : List UInt8) : okRow ⟨d, 1, .empty, B t, []⟩ = true := by
  have e : ByteArray.empty.toList.isEmpty = true := by kernel_rfl
  show (if ((1 : Int) == 0) = true then _ else ((1 : Int) == 1 || (1 : Int) == 2) && ByteArray.empty.toList.isEmpty && ((0 : Nat) : Int) == 0) = true
  rw [if_neg (by decide), e]
  rfl

/-- What group follows a text. -/
theorem group {x : Ro} {r : List Ro} {m : Int} (h : rightFrom m (x :: r) = true) (hk : x.kind = 1) :
    0 ≤ x.depth ∧ x.depth ≤ m ∧ okRow x = true ∧ rightFrom x.depth (r.drop (nexts x.depth r)) = true ∧ (∀ z, (r.drop (nexts x.depth r)).head? = some z → z.kind = 1 → z.depth < x.depth) ∧ (∀ y ∈ r.take (nexts x.depth r), y.kind = 1 ∧ y.depth = x.depth) := by
  rw [rightFrom] at h
  simp only [Bool.and_eq_true, decide_eq_true_eq] at h
  have h2 := h.2
  rw [if_neg (by rw [hk]; decide)] at h2
  obtain ⟨k, hkk⟩ : ∃ k, nexts x.depth r = k := ⟨_, rfl⟩
  rw [hkk]
  have htk : ∀ y ∈ r.take k, y.kind = 1 ∧ y.depth = x.depth := fun y hy => by
    rw [← hkk] at hy
    have := takes _ r y hy
    simpa using this
  have hst : ∀ z, (r.drop k).head? = some z → z.kind = 1 → z.depth ≠ x.depth := fun z hz e1 e2 => by
    rw [← hkk] at hz
    have := stops _ r z hz
    simp [e1, e2] at this
  have hrd := right_same x.depth k r h2 htk
  refine ⟨h.1.1.1, h.1.1.2, h.1.2, hrd, fun z hz e => ?_, htk⟩
  have h1 := hst z hz e
  have h3 : z.depth ≤ x.depth := by
    cases hdk : r.drop k with
    | nil => rw [hdk] at hz; simp at hz
    | cons a t =>
      rw [hdk] at hz hrd
      obtain rfl : a = z := by simpa using hz
      rw [rightFrom] at hrd
      simp only [Bool.and_eq_true, decide_eq_true_eq] at hrd
      exact hrd.1.1.2
  omega

theorem right_normal : ∀ (n : Nat) (l : List Ro) (m : Int), l.length ≤ n → rightFrom m l = true → rightFrom m (normal l) = true
  | _, [], _, _, _ => by rw [normal_nil]; rfl
  | 0, _ :: _, _, h, _ => absurd h (by simp)
  | n + 1, x :: r, m, hn, hr => by
    rw [List.length_cons] at hn
    by_cases hk : x.kind = 1
    · obtain ⟨h0, h1, h2, h3, _, _⟩ := group hr hk
      have ih := right_normal n (r.drop (nexts x.depth r)) x.depth (by rw [List.length_drop]; omega) h3
      rw [normal_text hk]
      split
      · rw [List.nil_append]; exact right_mono h1 ih
      · rw [List.singleton_append, rightFrom]
        simp only [Bool.and_eq_true, decide_eq_true_eq]
        exact ⟨⟨⟨h0, h1⟩, ok_text _ _⟩, by rw [if_neg (by decide)]; exact ih⟩
    · rw [normal_other hk]
      rw [rightFrom] at hr ⊢
      simp only [Bool.and_eq_true] at hr ⊢
      exact ⟨hr.1, right_normal n r _ (by omega) hr.2⟩

theorem txt_normal : ∀ (n : Nat) (l : List Ro), l.length ≤ n → txt (normal l) = txt l
  | _, [], _ => by rw [normal_nil]
  | 0, _ :: _, h => absurd h (by simp)
  | n + 1, x :: r, hn => by
    rw [List.length_cons] at hn
    by_cases hk : x.kind = 1
    · rw [normal_text hk, txt_append, txt_normal n (r.drop (nexts x.depth r)) (by rw [List.length_drop]; omega)]
      have e : x :: r = (x :: r.take (nexts x.depth r)) ++ r.drop (nexts x.depth r) := by rw [List.cons_append, List.take_append_drop]
      rw [e, txt_append]
      congr 1
      split
      · rename_i h; rw [← e] at *; rw [h]; rfl
      · rw [txt_text rfl, L_B]
    · rw [normal_other hk, txt, txt, txt_normal n r (by omega)]

/-- Texts are not empty, and no two stand side by side at one depth. -/
def Nrm : List Ro → Prop
  | [] => True
  | x :: r => (x.kind = 1 → x.data.toList ≠ [] ∧ ∀ z, r.head? = some z → z.kind = 1 → z.depth ≠ x.depth) ∧ Nrm r
theorem head_text : ∀ (n : Nat) (l : List Ro) (m : Int), l.length ≤ n → rightFrom m l = true → (∀ z, l.head? = some z → z.kind = 1 → z.depth < m) → ∀ z, (normal l).head? = some z → z.kind = 1 → z.depth < m
  | _, [], _, _, _, _, z, hz, _ => by rw [normal_nil] at hz; simp at hz
  | 0, _ :: _, _, h, _, _, _, _, _ => absurd h (by simp)
  | n + 1, x :: r, m, hn, hr, hh, z, hz, hzk => by
    rw [List.length_cons] at hn
    by_cases hk : x.kind = 1
    · have hx := hh x rfl hk
      obtain ⟨h0, h1, h2, h3, h4, _⟩ := group hr hk
      rw [normal_text hk] at hz
      split at hz
      · rw [List.nil_append] at hz
        have := head_text n (r.drop (nexts x.depth r)) x.depth (by rw [List.length_drop]; omega) h3 h4 z hz hzk
        omega
      · rw [List.singleton_append] at hz
        obtain rfl := Option.some.inj hz
        exact hx
    · rw [normal_other hk] at hz
      obtain rfl : x = z := by simpa using hz
      exact absurd hzk hk
theorem nrm_normal : ∀ (n : Nat) (l : List Ro) (m : Int), l.length ≤ n → rightFrom m l = true → Nrm (normal l)
  | _, [], _, _, _ => by rw [normal_nil]; trivial
  | 0, _ :: _, _, h, _ => absurd h (by simp)
  | n + 1, x :: r, m, hn, hr => by
    rw [List.length_cons] at hn
    by_cases hk : x.kind = 1
    · obtain ⟨h0, h1, h2, h3, h4, _⟩ := group hr hk
      have hl : (r.drop (nexts x.depth r)).length ≤ n := by rw [List.length_drop]; omega
      have ih := nrm_normal n (r.drop (nexts x.depth r)) x.depth hl h3
      rw [normal_text hk]
      split
      · rw [List.nil_append]; exact ih
      · rename_i ht
        rw [List.singleton_append]
        refine ⟨fun _ => ⟨?_, fun z hz hzk => ?_⟩, ih⟩
        · rw [toList_B]; exact ht
        · have := head_text n (r.drop (nexts x.depth r)) x.depth hl h3 h4 z hz hzk
          exact fun e => by rw [e] at this; exact absurd this (Int.lt_irrefl _)
    · rw [normal_other hk]
      rw [rightFrom] at hr
      simp only [Bool.and_eq_true] at hr
      exact ⟨fun e => absurd e hk, nrm_normal n r _ (by omega) hr.2⟩
theorem normal_nrm : ∀ (l : List Ro) (m : Int), rightFrom m l = true → Nrm l → normal l = l
  | [], _, _, _ => normal_nil
  | x :: r, m, hr, h => by
    have hr' := hr
    rw [rightFrom] at hr'
    simp only [Bool.and_eq_true] at hr'
    by_cases hk : x.kind = 1
    · obtain ⟨h1, h2⟩ := h.1 hk
      have hn : nexts x.depth r = 0 := by
        cases r with
        | nil => rfl
        | cons y t =>
          unfold nexts
          rw [List.takeWhile_cons, if_neg]
          · rfl
          · intro e
            simp only [Bool.and_eq_true, beq_iff_eq] at e
            exact h2 y rfl e.1 e.2
      have hx := text_form hr'.1.2 hk
      rw [normal_text hk, hn, List.take_zero, List.drop_zero, normal_nrm r _ hr'.2 h.2, txt_text hk, if_neg (by rw [← toList_L]; exact h1), List.singleton_append, B_L, ← hx]
    · rw [normal_other hk, normal_nrm r _ hr'.2 h.2]
theorem check_parts {l : List Ro} (h : check l = 0) : exceeds l 4096 60 = false ∧ right l = true := by
  unfold check at h
  split at h
  · cases h
  · rename_i h1
    split at h
    · rename_i h2; exact ⟨by simpa using h1, h2⟩
    · cases h
theorem check_of {l : List Ro} (h1 : exceeds l 4096 60 = false) (h2 : right l = true) : check l = 0 := by
  unfold check; rw [h1, h2]; rfl
theorem exceeds_less {l m : List Ro} (h : exceeds l 4096 60 = false) (h1 : m.length ≤ l.length) (h2 : ∀ y ∈ m, ∃ x ∈ l, y.depth ≤ x.depth) : exceeds m 4096 60 = false := by
  cases he : exceeds m 4096 60 with
  | false => rfl
  | true =>
    have hn : ¬ (exceeds l 4096 60 = true) := by rw [h]; decide
    rw [exceeds_iff] at he hn
    exfalso
    apply hn
    rcases he with he | ⟨y, hy, hd⟩
    · exact .inl (by omega)
    · obtain ⟨x, hx, hxy⟩ := h2 y hy
      exact .inr ⟨x, hx, by omega⟩
theorem few_from : ∀ (n : Nat) (l : List Ro), l.length ≤ n → ∀ y ∈ normal l, y.attrs = [] ∨ y ∈ l
  | _, [], _, y, h => by rw [normal_nil] at h; cases h
  | 0, _ :: _, h, _, _ => absurd h (by simp)
  | n + 1, x :: r, hn, y, hy => by
    rw [List.length_cons] at hn
    by_cases hk : x.kind = 1
    · rw [normal_text hk] at hy
      rcases List.mem_append.1 hy with hy | hy
      · split at hy
        · cases hy
        · obtain rfl := List.mem_singleton.1 hy
          exact .inl rfl
      · rcases few_from n (r.drop (nexts x.depth r)) (by rw [List.length_drop]; omega) y hy with h | h
        · exact .inl h
        · exact .inr (List.mem_cons_of_mem _ (List.mem_of_mem_drop h))
    · rw [normal_other hk] at hy
      rcases List.mem_cons.1 hy with rfl | hy
      · exact .inr List.mem_cons_self
      · rcases few_from n r (by omega) y hy with h | h
        · exact .inl h
        · exact .inr (List.mem_cons_of_mem _ h)
theorem few_normal {l : List Ro} (hf : Few l) {y : Ro} (hy : y ∈ normal l) : y.attrs.length ≤ 1000000 := by
  rcases few_from l.length l (Nat.le_refl _) y hy with h | h
  · rw [h]; simp
  · exact hf y h

end Go.Proofs.Ytdjkeakagmgfgaa.Ro

namespace Go.Proofs.Ytdjkeakagmgfgaa.Ro
set_option linter.unusedVariables false
set_option linter.unusedSimpArgs false
open Go.RowKit Ba
/-- How deep a row may stand behind these. -/
def after (m : Int) : List Ro → Int
  | [] => m
  | x :: r => after (if x.kind = 0 then x.depth + 1 else x.depth) r
theorem right_append : ∀ (a b : List Ro) (m : Int), rightFrom m (a ++ b) = (rightFrom m a && rightFrom (after m a) b)
  | [], b, m => by rw [List.nil_append, rightFrom, after, Bool.true_and]
  | x :: r, b, m => by rw [List.cons_append, rightFrom, rightFrom, after, right_append r b]; simp only [Bool.and_assoc]
theorem right_head {m k : Int} {b : List Ro} (h : rightFrom m b = true) (hk : ∀ y, b.head? = some y → y.depth ≤ k) : rightFrom k b = true := by
  cases b with
  | nil => rfl
  | cons y t =>
    have := hk y rfl
    rw [rightFrom] at h ⊢
    simp only [Bool.and_eq_true, decide_eq_true_eq] at h ⊢
    exact ⟨⟨⟨h.1.1.1, this⟩, h.1.2⟩, h.2⟩
theorem takeWhile_split {α : Type} (p : α → Bool) : ∀ l : List α, l = l.takeWhile p ++ l.drop (l.takeWhile p).length
  | [] => rfl
  | x :: r => by
    by_cases hp : p x = true
    · rw [List.takeWhile_cons_of_pos hp, List.length_cons, List.drop_succ_cons, List.cons_append, ← takeWhile_split p r]
    · rw [List.takeWhile_cons_of_neg hp]; rfl
theorem mem_takeWhile {α : Type} (p : α → Bool) : ∀ (l : List α), ∀ x ∈ l.takeWhile p, p x = true
  | [], x, h => by cases h
  | y :: r, x, h => by
    by_cases hp : p y = true
    · rw [List.takeWhile_cons_of_pos hp] at h
      rcases List.mem_cons.1 h with rfl | h
      · exact hp
      · exact mem_takeWhile p r x h
    · rw [List.takeWhile_cons_of_neg hp] at h; cases h

/-- A row, what is below it, and the rest. -/
theorem tree_split {l : List Ro} {k : Nat} (hk : k < l.length) :
    l.drop k = (l[k] :: below l k) ++ l.drop (endOf l k) ∧ (∀ y ∈ below l k, l[k].depth < y.depth) ∧ (∀ y, (l.drop (endOf l k)).head? = some y → y.depth ≤ l[k].depth) ∧ dep l k = l[k].depth ∧ endOf l k = k + 1 + (below l k).length := by
  have hd : dep l k = l[k].depth := dep_at (List.getElem?_eq_getElem hk)
  have he : endOf l k = k + 1 + (below l k).length := by
    unfold endOf; rw [show ((k : Int) + 1).toNat = k + 1 by omega]
  have hb : below l k = (l.drop (k + 1)).takeWhile fun x => decide (l[k].depth < x.depth) := by
    unfold below; rw [hd, show ((k : Int) + 1).toNat = k + 1 by omega]
  have hsp := takeWhile_split (fun x : Ro => decide (l[k].depth < x.depth)) (l.drop (k + 1))
  rw [← hb] at hsp
  have hdd : (l.drop (k + 1)).drop (below l k).length = l.drop (endOf l k) := by rw [List.drop_drop, he]
  rw [hdd] at hsp
  refine ⟨?_, fun y hy => ?_, fun y hy => ?_, hd, he⟩
  · rw [List.drop_eq_getElem_cons hk, List.cons_append]
    rw [← hsp]
  · rw [hb] at hy
    have := mem_takeWhile _ _ y hy
    simpa using this
  · have := stops (fun x : Ro => decide (l[k].depth < x.depth)) (l.drop (k + 1)) y (by rw [← hb, hdd]; exact hy)
    simp at this
    exact this
theorem end_le {l : List Ro} {k : Nat} (hk : k < l.length) : k < endOf l k ∧ endOf l k ≤ l.length := by
  obtain ⟨h1, _, _, _, h5⟩ := tree_split hk
  have := congrArg List.length h1
  rw [List.length_drop, List.length_append, List.length_cons, List.length_drop] at this
  omega
theorem endAt_of {l : List Ro} {k : Nat} (hk : k < l.length) : endAt l k = endOf l k := by
  have h1 : hasRow l k = true := by unfold hasRow; exact decide_eq_true ⟨by omega, by omega⟩
  unfold endAt
  rw [h1, if_pos rfl]

end Go.Proofs.Ytdjkeakagmgfgaa.Ro

namespace Go.Proofs.Ytdjkeakagmgfgaa.Ro
set_option linter.unusedVariables false
set_option linter.unusedSimpArgs false
open Go.RowKit Ba
/-- How many rows the first tree has besides its root. -/
def more (d : Int) (r : List Ro) : Nat := (r.takeWhile fun y => decide (d < y.depth)).length
theorem takeWhile_append_stop {p : Ro → Bool} : ∀ (a b : List Ro), (∀ y, b.head? = some y → p y = false) → (a ++ b).takeWhile p = a.takeWhile p
  | [], b, h => by
    cases b with
    | nil => rfl
    | cons y t => rw [List.nil_append, List.takeWhile_cons_of_neg (by rw [h y rfl]; decide)]; rfl
  | x :: r, b, h => by
    rw [List.cons_append, List.takeWhile_cons, List.takeWhile_cons, takeWhile_append_stop r b h]

end Go.Proofs.Ytdjkeakagmgfgaa.Ro

namespace Go.Proofs.Ytdjkeakagmgfgaa.Cn
set_option linter.unusedSimpArgs false
set_option linter.unusedVariables false
open Ba Ro
/-- The depth to which another one comes, with one place changed. -/
def put_ (D : Int → Int) (k v : Int) : Int → Int := fun j => if j = k then v else D j
/-- Does a row stand below one that went? -/
def under (sk : Option Int) (d : Int) : Bool := match sk with | some k => decide (k < d) | none => false
/-- What stays: D tells for each depth where what stands there comes; sk the depth of what went last. -/
def flt (g : Ro → Nat) (f : Ro → List At) : (Int → Int) → Option Int → List Ro → List Ro
  | _, _, [] => []
  | D, sk, x :: r =>
    if under sk x.depth = true then flt g f D sk r
    else if g x = 1 then flt g f D (some x.depth) r
    else if g x = 0 then ⟨D x.depth, x.kind, x.name, x.data, f x⟩ :: flt g f (put_ D (x.depth + 1) (D x.depth + 1)) none r
    else flt g f (put_ D (x.depth + 1) (D x.depth)) none r
/-- What stays of a forest whose roots come to depth e. -/
def K (g : Ro → Nat) (f : Ro → List At) (e : Int) (r : List Ro) : List Ro := flt g f (fun _ => e) none r

variable {g : Ro → Nat} {f : Ro → List At}

/-- A forest at depth d. -/
def Wd (d : Int) (r : List Ro) : Prop := (∀ y ∈ r, d ≤ y.depth) ∧ rightFrom d r = true
theorem Wd.nil (d : Int) : Wd d [] := ⟨fun y h => (by cases h), rfl⟩
theorem fo_right {l : List Ro} (h : right l = true) : Wd 0 l := by
  refine ⟨?_, h⟩
  have : ∀ (l : List Ro) (m : Int), rightFrom m l = true → ∀ y ∈ l, 0 ≤ y.depth := by
    intro l
    induction l with
    | nil => intro m _ y hy; cases hy
    | cons x r ih =>
      intro m h y hy
      rw [rightFrom] at h
      simp only [Bool.and_eq_true, decide_eq_true_eq] at h
      rcases List.mem_cons.1 hy with rfl | hy
      · exact h.1.1.1
      · exact ih _ h.2 y hy
  exact this l 0 h
theorem more_split (d : Int) (r : List Ro) : r = r.take (more d r) ++ r.drop (more d r) := (List.take_append_drop _ _).symm
theorem take_more (d : Int) (r : List Ro) : ∀ y ∈ r.take (more d r), d < y.depth := fun y hy => by
  have := takes (fun y : Ro => decide (d < y.depth)) r y hy
  simpa using this
theorem drop_more (d : Int) (r : List Ro) : ∀ y, (r.drop (more d r)).head? = some y → y.depth ≤ d := fun y hy => by
  have := stops (fun y : Ro => decide (d < y.depth)) r y hy
  simpa using this
/-- A forest that is not empty: a row, what it has, and the rest. -/
theorem Wd.parts {d : Int} {x : Ro} {r : List Ro} (h : Wd d (x :: r)) :
    x.depth = d ∧ 0 ≤ d ∧ okRow x = true ∧ Wd (d + 1) (r.take (more d r)) ∧ Wd d (r.drop (more d r)) ∧ (x.kind ≠ 0 → r.take (more d r) = []) := by
  obtain ⟨h1, h2⟩ := h
  have hd := h1 x List.mem_cons_self
  rw [rightFrom] at h2
  simp only [Bool.and_eq_true, decide_eq_true_eq] at h2
  obtain ⟨⟨⟨h3, h4⟩, h5⟩, h6⟩ := h2
  have hx : x.depth = d := by omega
  have h7 := h6
  rw [more_split d r, right_append, Bool.and_eq_true] at h7
  refine ⟨hx, by omega, h5, ⟨fun y hy => by have := take_more d r y hy; omega, ?_⟩, ⟨fun y hy => h1 y (List.mem_cons_of_mem _ (List.mem_of_mem_drop hy)), right_head h7.2 (drop_more d r)⟩, fun hk => ?_⟩
  · refine right_mono ?_ h7.1
    split <;> omega
  · rw [if_neg hk] at h6
    cases ht : r.take (more d r) with
    | nil => rfl
    | cons y t =>
      exfalso
      have hy := take_more d r y (by rw [ht]; exact List.mem_cons_self)
      have e : r = y :: (t ++ r.drop (more d r)) := by rw [← List.cons_append, ← ht]; exact more_split d r
      rw [e, rightFrom] at h6
      simp only [Bool.and_eq_true, decide_eq_true_eq] at h6
      omega
/-- Put together: a row, what it has, and the rest, are a forest. -/
theorem Wd.make {d : Int} {x : Ro} {b r : List Ro} (hx : x.depth = d) (h0 : 0 ≤ d) (ho : okRow x = true) (hb : Wd (d + 1) b) (hr : Wd d r) (hk : x.kind ≠ 0 → b = []) : Wd d (x :: (b ++ r)) := by
  refine ⟨fun y hy => ?_, ?_⟩
  · rcases List.mem_cons.1 hy with rfl | hy
    · omega
    · rcases List.mem_append.1 hy with hy | hy
      · have := hb.1 y hy; omega
      · exact hr.1 y hy
  · rw [rightFrom]
    simp only [Bool.and_eq_true, decide_eq_true_eq]
    refine ⟨⟨⟨by omega, by omega⟩, ho⟩, ?_⟩
    rw [right_append, Bool.and_eq_true]
    by_cases hk0 : x.kind = 0
    · rw [if_pos hk0, hx]
      exact ⟨hb.2, right_mono (Int.le_trans (by omega) (after_ge' b (d + 1) (Int.le_refl _) hb.1)) hr.2⟩
    · rw [if_neg hk0, hk hk0, hx]
      exact ⟨rfl, hr.2⟩
where
  after_ge' {D : Int} : ∀ (a : List Ro) (m : Int), D ≤ m → (∀ y ∈ a, D ≤ y.depth) → D ≤ after m a
    | [], m, h, _ => h
    | x :: r, m, h, ha => by
      rw [after]
      have := ha x List.mem_cons_self
      exact after_ge' r _ (by split <;> omega) fun y hy => ha y (List.mem_cons_of_mem _ hy)
theorem tw_all {p : Ro → Bool} : ∀ l : List Ro, (∀ y ∈ l, p y = true) → l.takeWhile p = l
  | [], _ => rfl
  | x :: r, h => by rw [List.takeWhile_cons_of_pos (h x List.mem_cons_self), tw_all r fun y hy => h y (List.mem_cons_of_mem _ hy)]
theorem more_app {d : Int} {b r : List Ro} (hb : ∀ y ∈ b, d < y.depth) (hr : ∀ y, r.head? = some y → y.depth ≤ d) : (b ++ r).take (more d (b ++ r)) = b ∧ (b ++ r).drop (more d (b ++ r)) = r := by
  have e : more d (b ++ r) = b.length := by
    unfold more
    rw [takeWhile_append_stop b r fun y hy => by have := hr y hy; simpa using this]
    congr 1
    exact tw_all b fun y hy => by simpa using hb y hy
  rw [e]
  exact ⟨List.take_left, List.drop_left⟩
theorem Wd.head {d : Int} {r : List Ro} (h : Wd d r) : ∀ y, r.head? = some y → y.depth = d := fun y hy => by
  cases r with
  | nil => cases hy
  | cons x t => obtain rfl := Option.some.inj hy; exact h.parts.1
/-- Over all forests: none, or a row, what it has, and the rest. -/
theorem fo_ind {P : Int → List Ro → Prop} (nil : ∀ d, P d []) (cons : ∀ (d : Int) (x : Ro) (b r : List Ro), x.depth = d → 0 ≤ d → okRow x = true → Wd (d + 1) b → Wd d r → (x.kind ≠ 0 → b = []) → P (d + 1) b → P d r → P d (x :: (b ++ r))) :
    ∀ (d : Int) (r : List Ro), Wd d r → P d r := by
  have : ∀ (n : Nat) (d : Int) (r : List Ro), r.length ≤ n → Wd d r → P d r := by
    intro n
    induction n with
    | zero => intro d r hn h; obtain rfl := List.length_eq_zero_iff.1 (Nat.le_zero.1 hn); exact nil d
    | succ n ih =>
      intro d r hn h
      cases r with
      | nil => exact nil d
      | cons x t =>
        obtain ⟨h1, h0, h2, h3, h4, h5⟩ := h.parts
        rw [List.length_cons] at hn
        have := cons d x _ _ h1 h0 h2 h3 h4 h5 (ih _ _ (by rw [List.length_take]; omega) h3) (ih _ _ (by rw [List.length_drop]; omega) h4)
        rwa [← more_split] at this
  exact fun d r h => this r.length d r (Nat.le_refl _) h

/-! ### What is told of D matters where rows come to stand alone -/
theorem under_none (d : Int) : under none d = false := rfl
theorem flt_cons (D : Int → Int) (sk : Option Int) (x : Ro) (r : List Ro) : flt g f D sk (x :: r) = if under sk x.depth = true then flt g f D sk r else if g x = 1 then flt g f D (some x.depth) r else if g x = 0 then ⟨D x.depth, x.kind, x.name, x.data, f x⟩ :: flt g f (put_ D (x.depth + 1) (D x.depth + 1)) none r else flt g f (put_ D (x.depth + 1) (D x.depth)) none r := by rw [flt]
theorem flt_skip (D : Int → Int) (d : Int) : ∀ r : List Ro, flt g f D (some d) r = flt g f D none (r.drop (more d r))
  | [] => rfl
  | x :: r => by
    by_cases h : d < x.depth
    · have e : more d (x :: r) = more d r + 1 := by unfold more; rw [List.takeWhile_cons_of_pos (by simpa using h), List.length_cons]
      rw [e, List.drop_succ_cons, ← flt_skip D d r, flt_cons, if_pos (show under (some d) x.depth = true by simpa [under] using h)]
    · have e : more d (x :: r) = 0 := by unfold more; rw [List.takeWhile_cons_of_neg (by simpa using h)]; rfl
      rw [e, List.drop_zero, flt_cons D (some d), flt_cons D none, if_neg (show ¬ under (some d) x.depth = true by simpa [under] using h), if_neg (show ¬ under none x.depth = true by rw [under_none]; decide)]
theorem flt_congr (lo : Int) : ∀ (r : List Ro) (m : Int) (D D' : Int → Int) (sk : Option Int), rightFrom m r = true → (∀ y ∈ r, lo ≤ y.depth) → (sk = none → ∀ j, lo ≤ j → j ≤ m → D j = D' j) → (∀ k, sk = some k → ∀ j, lo ≤ j → j ≤ k → D j = D' j) → flt g f D sk r = flt g f D' sk r
  | [], _, _, _, _, _, _, _, _ => rfl
  | x :: r, m, D, D', sk, hr, hl, h1, h2 => by
    rw [rightFrom] at hr
    simp only [Bool.and_eq_true, decide_eq_true_eq] at hr
    obtain ⟨⟨⟨h3, h4⟩, _⟩, h6⟩ := hr
    have hx := hl x List.mem_cons_self
    have hl' := fun y hy => hl y (List.mem_cons_of_mem x hy)
    rw [flt_cons, flt_cons]
    by_cases hu : under sk x.depth = true
    · rw [if_pos hu, if_pos hu]
      refine flt_congr lo r _ D D' sk h6 hl' (fun e => ?_) h2
      rw [e] at hu; cases hu
    · rw [if_neg hu, if_neg hu]
      have hj : ∀ j, lo ≤ j → j ≤ x.depth → D j = D' j := fun j hj hj' => by
        cases sk with
        | none => exact h1 rfl j hj (by omega)
        | some k =>
          have : x.depth ≤ k := by simpa [under] using hu
          exact h2 k rfl j hj (by omega)
      have e0 := hj x.depth hx (Int.le_refl _)
      have hm : (if x.kind = 0 then x.depth + 1 else x.depth) ≤ x.depth + 1 := by split <;> omega
      by_cases hg1 : g x = 1
      · rw [if_pos hg1, if_pos hg1]
        exact flt_congr lo r _ D D' _ h6 hl' (fun e => by cases e) (fun k hk j hj1 hj2 => by obtain rfl := Option.some.inj hk; exact hj j hj1 hj2)
      · rw [if_neg hg1, if_neg hg1]
        have hp : ∀ v, ∀ j, lo ≤ j → j ≤ (if x.kind = 0 then x.depth + 1 else x.depth) → put_ D (x.depth + 1) v j = put_ D' (x.depth + 1) v j := fun v j hj1 hj2 => by
          unfold put_
          split
          · rfl
          · exact hj j hj1 (by omega)
        by_cases hg0 : g x = 0
        · rw [if_pos hg0, if_pos hg0, e0]
          congr 1
          exact flt_congr lo r _ _ _ none h6 hl' (fun _ => hp _) (fun k hk => by cases hk)
        · rw [if_neg hg0, if_neg hg0, e0]
          exact flt_congr lo r _ _ _ none h6 hl' (fun _ => hp _) (fun k hk => by cases hk)
/-- Of a forest D matters at its roots' depth alone. -/
theorem flt_K {d : Int} {r : List Ro} (h : Wd d r) (D : Int → Int) : flt g f D none r = K g f (D d) r :=
  flt_congr d r d D _ none h.2 h.1 (fun _ j h1 h2 => by rw [show j = d by omega]) (fun k hk => by cases hk)
theorem flt_append {d : Int} : ∀ (a b : List Ro) (D : Int → Int) (sk : Option Int), (∀ y ∈ a, d ≤ y.depth) → Wd d b → (∀ k, sk = some k → d ≤ k) → flt g f D sk (a ++ b) = flt g f D sk a ++ K g f (D d) b
  | [], b, D, sk, _, hb, hs => by
    rw [List.nil_append]
    show _ = [] ++ _
    rw [List.nil_append]
    cases sk with
    | none => exact flt_K hb D
    | some k =>
      rw [flt_skip]
      have : more k b = 0 := by
        cases b with
        | nil => rfl
        | cons y t =>
          have h1 := hb.head y rfl
          have h2 := hs k rfl
          unfold more
          rw [List.takeWhile_cons_of_neg (by simp; omega)]
          rfl
      rw [this, List.drop_zero]
      exact flt_K hb D
  | x :: a, b, D, sk, ha, hb, hs => by
    have hx := ha x List.mem_cons_self
    have ha' := fun y hy => ha y (List.mem_cons_of_mem x hy)
    have hp : ∀ v, put_ D (x.depth + 1) v d = D d := fun v => by unfold put_; rw [if_neg (by omega)]
    rw [List.cons_append, flt_cons, flt_cons]
    by_cases hu : under sk x.depth = true
    · rw [if_pos hu, if_pos hu]; exact flt_append a b D sk ha' hb hs
    · rw [if_neg hu, if_neg hu]
      by_cases hg1 : g x = 1
      · rw [if_pos hg1, if_pos hg1]
        exact flt_append a b D _ ha' hb (fun k hk => by obtain rfl := Option.some.inj hk; exact hx)
      · rw [if_neg hg1, if_neg hg1]
        by_cases hg0 : g x = 0
        · rw [if_pos hg0, if_pos hg0, List.cons_append, flt_append a b _ none ha' hb (fun k hk => by cases hk), hp]
        · rw [if_neg hg0, if_neg hg0, flt_append a b _ none ha' hb (fun k hk => by cases hk), hp]

/-! ### Forests -/
/-- What becomes of one tree. -/
def one (g : Ro → Nat) (f : Ro → List At) (e : Int) (x : Ro) (b : List Ro) : List Ro := if g x = 1 then [] else if g x = 0 then ⟨e, x.kind, x.name, x.data, f x⟩ :: K g f (e + 1) b else K g f e b
theorem K_tree {d : Int} {x : Ro} {b r : List Ro} (e : Int) (hx : x.depth = d) (hb : Wd (d + 1) b) (hr : Wd d r) : K g f e (x :: (b ++ r)) = one g f e x b ++ K g f e r := by
  unfold K
  rw [flt_cons, if_neg (show ¬ under none x.depth = true by rw [under_none]; decide)]
  unfold one
  have hb1 : ∀ y ∈ b, d ≤ y.depth := fun y hy => by have := hb.1 y hy; omega
  by_cases hg1 : g x = 1
  · rw [if_pos hg1, if_pos hg1, hx, flt_skip, (more_app (fun y hy => by have := hb.1 y hy; omega) (fun y hy => by rw [hr.head y hy]; exact Int.le_refl _)).2]
    rfl
  · rw [if_neg hg1, if_neg hg1]
    have hp : ∀ v, put_ (fun _ => e) (x.depth + 1) v d = e := fun v => by unfold put_; rw [if_neg (by omega)]
    have hq : ∀ v, put_ (fun _ => e) (x.depth + 1) v (d + 1) = v := fun v => by unfold put_; rw [if_pos (by omega)]
    by_cases hg0 : g x = 0
    · rw [if_pos hg0, if_pos hg0, flt_append b r _ none hb1 hr (fun k hk => by cases hk), hp, flt_K hb, hq]
      rfl
    · rw [if_neg hg0, if_neg hg0, flt_append b r _ none hb1 hr (fun k hk => by cases hk), hp, flt_K hb, hq]
      rfl
theorem Wd.append {d : Int} : ∀ {a : List Ro} {b : List Ro}, Wd d a → Wd d b → Wd d (a ++ b) := by
  intro a b ha hb
  revert hb
  refine fo_ind (P := fun d a => Wd d b → Wd d (a ++ b)) (fun d hb => by rw [List.nil_append]; exact hb) ?_ d a ha
  intro d x c r h1 h0 h2 h3 h4 h5 _ ih hb
  rw [List.cons_append, List.append_assoc]
  exact Wd.make h1 h0 h2 h3 (ih hb) h5
/-- What stays is a forest. -/
theorem K_fo (hok : ∀ x : Ro, okRow x = true → ∀ e, okRow ⟨e, x.kind, x.name, x.data, f x⟩ = true) {d : Int} {r : List Ro} (h : Wd d r) : ∀ e : Int, 0 ≤ e → Wd e (K g f e r) := by
  refine fo_ind (P := fun d r => ∀ e : Int, 0 ≤ e → Wd e (K g f e r)) (fun d e _ => Wd.nil e) ?_ d r h
  intro d x b r h1 h0 h2 h3 h4 h5 ihb ihr e he
  rw [K_tree e h1 h3 h4]
  unfold one
  split
  · exact ihr e he
  · split
    · rw [List.cons_append]
      refine Wd.make rfl he (hok x h2 e) (ihb (e + 1) (by omega)) (ihr e he) fun hk => ?_
      rw [h5 hk]; rfl
    · exact (ihb e he).append (ihr e he)
theorem K_len {d : Int} {r : List Ro} (h : Wd d r) : ∀ e : Int, (K g f e r).length ≤ r.length := by
  refine fo_ind (P := fun d r => ∀ e : Int, (K g f e r).length ≤ r.length) (fun d e => Nat.le_refl _) ?_ d r h
  intro d x b r h1 h0 h2 h3 h4 h5 ihb ihr e
  rw [K_tree e h1 h3 h4, List.length_append, List.length_cons, List.length_append]
  have h6 := ihr e
  have h7 := ihb e
  have h8 := ihb (e + 1)
  unfold one
  split
  · rw [List.length_nil]; omega
  · split
    · rw [List.length_cons]; omega
    · omega
theorem K_mem {d : Int} {r : List Ro} (h : Wd d r) : ∀ e : Int, e ≤ d → ∀ y ∈ K g f e r, ∃ x ∈ r, g x = 0 ∧ y.depth ≤ x.depth ∧ y = ⟨y.depth, x.kind, x.name, x.data, f x⟩ := by
  refine fo_ind (P := fun d r => ∀ e : Int, e ≤ d → ∀ y ∈ K g f e r, ∃ x ∈ r, g x = 0 ∧ y.depth ≤ x.depth ∧ y = ⟨y.depth, x.kind, x.name, x.data, f x⟩) (fun d e _ y hy => by cases hy) ?_ d r h
  intro d x b r h1 h0 h2 h3 h4 h5 ihb ihr e he y hy
  rw [K_tree e h1 h3 h4] at hy
  have lift : ∀ {c : List Ro}, (∃ z ∈ c, g z = 0 ∧ y.depth ≤ z.depth ∧ y = ⟨y.depth, z.kind, z.name, z.data, f z⟩) → (∀ z ∈ c, z ∈ x :: (b ++ r)) → ∃ z ∈ x :: (b ++ r), g z = 0 ∧ y.depth ≤ z.depth ∧ y = ⟨y.depth, z.kind, z.name, z.data, f z⟩ := fun ⟨z, hz, hh⟩ hc => ⟨z, hc z hz, hh⟩
  rcases List.mem_append.1 hy with hy | hy
  · unfold one at hy
    split at hy
    · cases hy
    · split at hy
      · rename_i hg
        rcases List.mem_cons.1 hy with rfl | hy
        · exact ⟨x, List.mem_cons_self, hg, by show e ≤ x.depth; omega, rfl⟩
        · exact lift (ihb (e + 1) (by omega) y hy) fun z hz => by simp [hz]
      · exact lift (ihb e (by omega) y hy) fun z hz => by simp [hz]
  · exact lift (ihr e he y hy) fun z hz => by simp [hz]
/-- What stays wholly is as it was. -/
theorem K_id {d : Int} {r : List Ro} (h : Wd d r) : (∀ x ∈ r, g x = 0 ∧ f x = x.attrs) → K g f d r = r := by
  refine fo_ind (P := fun d r => (∀ x ∈ r, g x = 0 ∧ f x = x.attrs) → K g f d r = r) (fun d _ => rfl) ?_ d r h
  intro d x b r h1 h0 h2 h3 h4 h5 ihb ihr hx
  obtain ⟨hg, hf⟩ := hx x List.mem_cons_self
  rw [K_tree d h1 h3 h4, ihr fun z hz => hx z (by simp [hz])]
  unfold one
  rw [if_neg (by omega), if_pos hg, ihb fun z hz => hx z (by simp [hz]), hf, ← h1]
  rfl
/-! ### Text -/
theorem txt_K {d : Int} {r : List Ro} (h : Wd d r) : ∀ e : Int, (txt (K g f e r)).length ≤ (txt r).length := by
  refine fo_ind (P := fun d r => ∀ e : Int, (txt (K g f e r)).length ≤ (txt r).length) (fun d e => Nat.le_refl _) ?_ d r h
  intro d x b r h1 h0 h2 h3 h4 h5 ihb ihr e
  rw [K_tree e h1 h3 h4, txt_append, List.length_append, txt, txt_append, List.length_append, List.length_append]
  have h6 := ihr e
  have h7 := ihb e
  have h8 := ihb (e + 1)
  unfold one
  split
  · simp only [txt, List.length_nil]; omega
  · split
    · rw [txt, List.length_append]; simp only; omega
    · omega
end Go.Proofs.Ytdjkeakagmgfgaa.Cn

namespace Go.Proofs.Ytdjkeakagmgfgaa.Cn
set_option linter.unusedSimpArgs false
set_option linter.unusedVariables false
open Ba Ro
/-- A text, ahead of rows that are joined. -/
def jt (d : Int) (a : List UInt8) (m : List Ro) : List Ro :=
  if a = [] then m else match m with
    | [] => [⟨d, 1, .empty, B a, []⟩]
    | y :: t => if y.kind = 1 ∧ y.depth = d then ⟨d, 1, .empty, B (a ++ L y.data), []⟩ :: t else ⟨d, 1, .empty, B a, []⟩ :: y :: t
def jn (x : Ro) (m : List Ro) : List Ro := if x.kind = 1 then jt x.depth (L x.data) m else x :: m
def nr (l : List Ro) : List Ro := l.foldr jn []

theorem jt_nil (d : Int) (m : List Ro) : jt d [] m = m := by unfold jt; rw [if_pos rfl]
theorem jt_none {a : List UInt8} (d : Int) (h : a ≠ []) : jt d a [] = [⟨d, 1, .empty, B a, []⟩] := by unfold jt; rw [if_neg h]
theorem jt_hit {a : List UInt8} {d : Int} {y : Ro} (t : List Ro) (h : a ≠ []) (hy : y.kind = 1 ∧ y.depth = d) : jt d a (y :: t) = ⟨d, 1, .empty, B (a ++ L y.data), []⟩ :: t := by unfold jt; rw [if_neg h]; show (if _ then _ else _) = _; rw [if_pos hy]
theorem jt_miss {a : List UInt8} {d : Int} {y : Ro} (t : List Ro) (h : a ≠ []) (hy : ¬ (y.kind = 1 ∧ y.depth = d)) : jt d a (y :: t) = ⟨d, 1, .empty, B a, []⟩ :: y :: t := by unfold jt; rw [if_neg h]; show (if _ then _ else _) = _; rw [if_neg hy]
theorem jt_own {a : List UInt8} {d : Int} (z : ByteArray) (t : List Ro) (h : a ≠ []) : jt d a (⟨d, 1, .empty, z, []⟩ :: t) = ⟨d, 1, .empty, B (a ++ L z), []⟩ :: t := jt_hit t h ⟨rfl, rfl⟩
theorem jt_away {a : List UInt8} {d : Int} {m : List Ro} (h : a ≠ []) (hm : ∀ z, m.head? = some z → z.kind = 1 → z.depth ≠ d) : jt d a m = ⟨d, 1, .empty, B a, []⟩ :: m := by
  cases m with
  | nil => exact jt_none d h
  | cons y t => exact jt_miss t h fun e => hm y rfl e.1 e.2
theorem jt_assoc (d : Int) (a b : List UInt8) (m : List Ro) : jt d (a ++ b) m = jt d a (jt d b m) := by
  by_cases ha : a = []
  · rw [ha, List.nil_append, jt_nil]
  by_cases hb : b = []
  · rw [hb, List.append_nil, jt_nil]
  have hab : a ++ b ≠ [] := by simp [ha]
  cases m with
  | nil => rw [jt_none d hab, jt_none d hb, jt_own _ _ ha, L_B]
  | cons y t =>
    by_cases hy : y.kind = 1 ∧ y.depth = d
    · rw [jt_hit t hab hy, jt_hit t hb hy, jt_own _ _ ha, L_B, List.append_assoc]
    · rw [jt_miss t hab hy, jt_miss t hb hy, jt_own _ _ ha, L_B]
theorem jn_text {x : Ro} (h : x.kind = 1) (m : List Ro) : jn x m = jt x.depth (L x.data) m := by unfold jn; rw [if_pos h]
theorem jn_other {x : Ro} (h : ¬ x.kind = 1) (m : List Ro) : jn x m = x :: m := by unfold jn; rw [if_neg h]
theorem nr_cons (x : Ro) (l : List Ro) : nr (x :: l) = jn x (nr l) := rfl
theorem nr_append (a b : List Ro) : nr (a ++ b) = a.foldr jn (nr b) := by unfold nr; rw [List.foldr_append]
theorem nr_group (d : Int) {m : List Ro} (hm : ∀ z, m.head? = some z → z.kind = 1 → z.depth ≠ d) : ∀ p : List Ro, (∀ y ∈ p, y.kind = 1 ∧ y.depth = d) → p.foldr jn m = (if txt p = [] then [] else [⟨d, 1, .empty, B (txt p), []⟩]) ++ m
  | [], _ => rfl
  | x :: p, h => by
    obtain ⟨hk, hd⟩ := h x List.mem_cons_self
    rw [List.foldr_cons, nr_group d hm p fun y hy => h y (List.mem_cons_of_mem _ hy), jn_text hk, hd, txt, if_pos hk]
    by_cases ha : L x.data = []
    · rw [ha, jt_nil, List.nil_append]
    have hne : L x.data ++ txt p ≠ [] := by simp [ha]
    rw [if_neg hne]
    by_cases ht : txt p = []
    · rw [if_pos ht, ht, List.nil_append, List.append_nil, jt_away ha hm]; rfl
    · rw [if_neg ht, List.singleton_append, jt_own _ _ ha, L_B]; rfl
/-- Joined from behind: the same. -/
theorem normal_nr : ∀ (n : Nat) (l : List Ro) (m : Int), l.length ≤ n → rightFrom m l = true → normal l = nr l
  | _, [], _, _, _ => by rw [normal_nil]; rfl
  | 0, _ :: _, _, h, _ => absurd h (by simp)
  | n + 1, x :: r, m, hn, hr => by
    rw [List.length_cons] at hn
    by_cases hk : x.kind = 1
    · obtain ⟨h0, h1, h2, h3, h4, h5⟩ := group hr hk
      have ih := normal_nr n (r.drop (nexts x.depth r)) x.depth (by rw [List.length_drop]; omega) h3
      have hh := head_text n (r.drop (nexts x.depth r)) x.depth (by rw [List.length_drop]; omega) h3 h4
      rw [normal_text hk, ih]
      rw [ih] at hh
      have e : x :: r = (x :: r.take (nexts x.depth r)) ++ r.drop (nexts x.depth r) := by rw [List.cons_append, List.take_append_drop]
      rw [show nr (x :: r) = nr ((x :: r.take (nexts x.depth r)) ++ r.drop (nexts x.depth r)) from congrArg nr e, nr_append]
      rw [nr_group x.depth (fun z hz hzk => by have := hh z hz hzk; omega) _ fun y hy => by
        rcases List.mem_cons.1 hy with rfl | hy
        · exact ⟨hk, rfl⟩
        · exact h5 y hy]
    · rw [normal_other hk, nr_cons, jn_other hk]
      rw [rightFrom] at hr
      simp only [Bool.and_eq_true] at hr
      rw [normal_nr n r _ (by omega) hr.2]
theorem normal_fo {d : Int} {l : List Ro} (h : Wd d l) : normal l = nr l := normal_nr l.length l d (Nat.le_refl _) h.2
theorem nr_fo {d : Int} {l : List Ro} (h : Wd d l) : Wd d (nr l) := by
  rw [← normal_fo h]
  refine ⟨fun y hy => ?_, right_normal l.length l d (Nat.le_refl _) h.2⟩
  obtain ⟨x, hx, e, _⟩ := (normal_from l.length l (Nat.le_refl _)).2 y hy
  have := h.1 x hx
  omega

variable {g : Ro → Nat} {f : Ro → List At}
theorem one_text {x : Ro} (b : List Ro) (e : Int) (hk : x.kind = 1) (hg : g x = 0) (hf : f x = []) (ho : okRow x = true) (hb : b = []) : one g f e x b = [⟨e, 1, .empty, x.data, []⟩] := by
  have hn := congrArg Ro.name (text_form ho hk)
  unfold one
  rw [if_neg (by omega), if_pos hg, hf, hk, hb, hn]
  rfl
/-- Where all elements are replaced, and nothing but texts stays: the text. -/
theorem K_texts {d : Int} {r : List Ro} (h : Wd d r) : (∀ x ∈ r, okRow x = true → (x.kind = 1 → g x = 0 ∧ f x = []) ∧ (x.kind ≠ 0 → x.kind ≠ 1 → g x = 1) ∧ (x.kind = 0 → g x ≠ 0 ∧ g x ≠ 1)) → ∀ (e : Int) (m : List Ro), (K g f e r).foldr jn m = jt e (txt r) m := by
  refine fo_ind (P := fun d r => (∀ x ∈ r, okRow x = true → (x.kind = 1 → g x = 0 ∧ f x = []) ∧ (x.kind ≠ 0 → x.kind ≠ 1 → g x = 1) ∧ (x.kind = 0 → g x ≠ 0 ∧ g x ≠ 1)) → ∀ (e : Int) (m : List Ro), (K g f e r).foldr jn m = jt e (txt r) m) (fun d _ e m => (jt_nil e m).symm) ?_ d r h
  intro d x b r h1 h0 h2 h3 h4 h5 ihb ihr hx e m
  obtain ⟨q1, q2, q0⟩ := hx x List.mem_cons_self h2
  rw [K_tree e h1 h3 h4, List.foldr_append, ihr fun z hz => hx z (by simp [hz]), txt, txt_append]
  by_cases hk : x.kind = 1
  · obtain ⟨q3, q4⟩ := q1 hk
    have hb := h5 (by rw [hk]; decide)
    rw [one_text b e hk q3 q4 h2 hb, List.foldr_cons, List.foldr_nil, jn_text rfl, ← jt_assoc, if_pos hk, hb]
    rfl
  · rw [if_neg hk, List.nil_append]
    by_cases hk0 : x.kind = 0
    · obtain ⟨q3, q4⟩ := q0 hk0
      unfold one
      rw [if_neg q4, if_neg q3, ihb fun z hz => hx z (by simp [hz]), ← jt_assoc]
    · unfold one
      rw [if_pos (q2 hk0 hk), h5 hk0]
      rfl

end Go.Proofs.Ytdjkeakagmgfgaa.Cn

namespace Go.Proofs.Ytdjkeakagmgfgaa.Ba
set_option maxRecDepth 100000
set_option linter.unusedSimpArgs false
set_option linter.unusedVariables false
open Go.RowKit
/-- A slice at A reads as these strings, below block B. -/
def Rd (w : World) (N : Nat) (A : Option Addr) (l : List ByteArray) : Prop :=
  0 < l.length → ∃ b off, A = some ⟨b, off, none⟩ ∧ b < N ∧ ∀ j (h : j < l.length), w.cell? ⟨b, off + j, none⟩ = some (.string l[j])

theorem Rd.nil (w : World) (N : Nat) (A : Option Addr) : Rd w N A [] := fun h => absurd h (by simp)
theorem Rd.keep {w w' : World} {N : Nat} {A : Option Addr} {l : List ByteArray} (h : Rd w N A l) (hk : ∀ p : Addr, p.block < N → w'.cell? p = w.cell? p) : Rd w' N A l := fun h0 => by
  obtain ⟨b, off, e, hb, hc⟩ := h h0
  exact ⟨b, off, e, hb, fun j hj => (hk _ hb).trans (hc j hj)⟩
theorem Rd.more {w : World} {N N' : Nat} {A : Option Addr} {l : List ByteArray} (h : Rd w N A l) (hN : N ≤ N') : Rd w N' A l := fun h0 => by
  obtain ⟨b, off, e, hb, hc⟩ := h h0
  exact ⟨b, off, e, by omega, hc⟩
theorem Rd.below {w w' : World} {N M : Nat} {A : Option Addr} {l : List ByteArray} (h : Rd w N A l) (hb : Below M w w') (hN : N ≤ M) : Rd w' N A l := h.keep fun p hp => hb.cell (p := p) (by omega)
theorem Rd.alloc {w : World} {N : Nat} {A : Option Addr} {l : List ByteArray} (h : Rd w N A l) (hN : N ≤ w.heap.size) (o : Obj) : Rd (w.alloc o) N A l := h.keep fun p hp => World.cell?_alloc_lt w o p (by omega)
theorem Rd.take {w : World} {N : Nat} {A : Option Addr} {l : List ByteArray} (h : Rd w N A l) (m : Nat) : Rd w N A (l.take m) := fun h0 => by
  rw [List.length_take] at h0
  obtain ⟨b, off, e, hb, hc⟩ := h (by omega)
  refine ⟨b, off, e, hb, fun j hj => ?_⟩
  rw [List.length_take] at hj
  rw [List.getElem_take]
  exact hc j (by omega)
/-- Cut: what the model makes of s[m:]. -/
theorem Rd.drop {w : World} {N : Nat} {A : Option Addr} {l : List ByteArray} (h : Rd w N A l) (m cap : Nat) (hc : l.length ≤ cap) : Rd w N (if cap = m then A else A.map (·.add m)) (l.drop m) := fun h0 => by
  rw [List.length_drop] at h0
  obtain ⟨b, off, e, hb, hcc⟩ := h (by omega)
  rw [if_neg (by omega), e]
  refine ⟨b, off + m, by simp [WideShapes.add_plain], hb, fun j hj => ?_⟩
  rw [List.length_drop] at hj
  rw [List.getElem_drop, Nat.add_assoc]
  exact hcc (m + j) (by omega)

def sc (s : ByteArray) : Value := .string s
/-- v is a slice of strings of the call's own that holds l. -/
def Sown (N : Nat) (w : World) (v : Value) (l : List ByteArray) : Prop := w.ownsRow N 9 1 v l.length (l.map sc)

theorem info_str : (Try.prog.info? 9).map (fun i => (i.zero, i.size, i.bytes)) = some (some (.string .empty), 1, 16) := by kernel_rfl

theorem Sown.nil (N : Nat) (w : World) : Sown N w (.slice none 0 0) [] := World.ownsRow_nil w N _ 1
theorem Sown.made (w : World) : Sown w.heap.size (w.alloc (.cells #[] 9)) (.slice (some ⟨w.heap.size, 0, none⟩) 0 0) [] :=
  World.ownsRow_made w #[] 0 (Nat.le_refl _) (Nat.zero_le _) rfl
theorem Sown.alloc {N : Nat} {w : World} {v : Value} {l : List ByteArray} (h : Sown N w v l) (o : Obj) : Sown N (w.alloc o) v l := World.ownsRow.alloc h o
theorem Sown.mono {N N' : Nat} {w : World} {v : Value} {l : List ByteArray} (h : Sown N w v l) (hN : N' ≤ N) : Sown N' w v l := World.ownsRow.mono h hN
theorem Sown.below {N M : Nat} {w w' : World} {v : Value} {l : List ByteArray} (h : Sown N w v l) (hb : Below M w w') (hM : w.heap.size ≤ M) : Sown N w' v l := by
  refine ⟨h.1, ?_⟩
  rcases h.2 with hn | ⟨g, cap, cur, hv, hg, hh, rest⟩
  · exact .inl hn
  · refine .inr ⟨g, cap, cur, hv, hg, ?_, rest⟩
    have hlt : g < w.heap.size := (Array.getElem?_eq_some_iff.1 hh).1
    rw [hb.block g (by omega)]
    exact hh
theorem Sown.kept {N : Nat} {w0 w w' : World} {v : Value} {l : List ByteArray} (h : Sown N w v l) (hg : w.grownBy w' v.ownBlock) (hb : Below N w0 w) (hN : N ≤ w.heap.size) : Below N w0 w' :=
  hb.grown hg hN fun k hk => (h.lt k hk).1
/-- Its form, and what it reads as. -/
theorem Sown.form {N : Nat} {w : World} {v : Value} {l : List ByteArray} (h : Sown N w v l) : ∃ A c, v = .slice A l.length c ∧ l.length ≤ c ∧ c ≤ maxLen ∧ Rd w w.heap.size A l := by
  rcases h.2 with ⟨hv, hl⟩ | ⟨g, cap, cur, hv, hg, hh, hn, hm, hs, ht⟩
  · have : l = [] := List.eq_nil_of_length_eq_zero hl
    subst this
    exact ⟨none, 0, hv, Nat.le_refl _, Nat.zero_le _, Rd.nil _ _ _⟩
  · refine ⟨some ⟨g, 0, none⟩, cap, hv, hn, hm, fun _ => ⟨g, 0, rfl, (Array.getElem?_eq_some_iff.1 hh).1, fun j hj => ?_⟩⟩
    subst hv
    have := World.ownsRow.cells h rfl j (sc l[j]) (by simp [hj])
    rw [WideShapes.add_plain] at this
    exact this
theorem Sown.appended {N : Nat} {w : World} {v : Value} {l m : List ByteArray} {n : Nat} (h : w.ownsRow N 9 1 v n (l.map sc ++ m.map sc)) (hn : n = l.length + m.length) : Sown N w v (l ++ m) := by
  unfold Sown
  rw [List.map_append, List.length_append, ← hn]
  exact h

set_option maxRecDepth 100000 in
/-- append of one string, in a block of its own, onto a slice of the call's own. -/
theorem app_one {ops : Array Oper} {rest : List Oper} {o : Oper} {a : Act} {Q : Exit → Act → World → Prop} (w : World) (hgd : o.guard = none) (s x : Operand)
    (ho : o.op = .call { callee := .builtin .append, args := #[s, x], argTypes := #[23, 23] })
    (N : Nat) (v : Value) (l : List ByteArray) (y : ByteArray) (hs : a.eval s = v) (hown : Sown N w v l) (hx : a.eval x = .slice (some ⟨w.heap.size, 0, none⟩) 1 1)
    (hl : (l.length + 1) * 16 ≤ 140737488355328) (hN : N ≤ w.heap.size)
    (h : ∀ v' w', Sown N w' v' (l ++ [y]) → (∀ w0, Below N w0 w → Below N w0 w') → (∀ A m, Rd w N A m → Rd w' N A m) → wpList Try.prog ops Q rest (a.put o.dst v') w') :
    wpList Try.prog ops Q (o :: rest) a (w.alloc (.cells #[.string y] 9)) := by
  obtain ⟨i0, hi, hz0, hz1, hz2⟩ := info_parts info_str
  have hown' : Sown N (w.alloc (.cells #[.string y] 9)) v l := hown.alloc _
  have hsz : (w.alloc (.cells #[.string y] 9)).heap.size = w.heap.size + 1 := by simp
  refine wpList_append_own _ hgd s x 23 ho N 9 i0 (.string .empty) 1 16 Try.underlying23 hi hz0 hz1 hz2 rfl (by decide) v l.length (l.map sc) hs hown' ⟨w.heap.size, 0, none⟩ 1 1 [.string y] hx rfl (cell_one_new _ _ _) (by intro u hu; simp at hu; subst hu; rfl) (by unfold maxLen; omega) hl (by omega) ?_
  intro v' w' ho2 hg2 _
  have hk : ∀ w0, Below N w0 w → Below N w0 w' := fun w0 hb => hown'.kept hg2 (hb.alloc hN _) (by omega)
  exact h v' w' (Sown.appended (m := [y]) ho2 rfl) hk fun A m hr => hr.below (hk w (Below.refl _ _)) (Nat.le_refl _)

set_option maxRecDepth 100000 in
/-- append of another slice's strings, nil or not. -/
theorem app_all {ops : Array Oper} {rest : List Oper} {o : Oper} {a : Act} {Q : Exit → Act → World → Prop} (w : World) (hgd : o.guard = none) (s x : Operand)
    (ho : o.op = .call { callee := .builtin .append, args := #[s, x], argTypes := #[23, 23] })
    (N : Nat) (v : Value) (l m : List ByteArray) (A : Option Addr) (c M : Nat) (hs : a.eval s = v) (hown : Sown N w v l) (hx : a.eval x = .slice A m.length c) (hc : A = none → c = 0) (hr : Rd w M A m)
    (hl : (l.length + m.length) * 16 ≤ 140737488355328) (hN : N ≤ w.heap.size)
    (h : ∀ v' w', Sown N w' v' (l ++ m) → (∀ w0, Below N w0 w → Below N w0 w') → (∀ A m, Rd w N A m → Rd w' N A m) → wpList Try.prog ops Q rest (a.put o.dst v') w') :
    wpList Try.prog ops Q (o :: rest) a w := by
  obtain ⟨i0, hi, hz0, hz1, hz2⟩ := info_parts info_str
  cases A with
  | none =>
    have hm : m = [] := by
      rcases Nat.eq_zero_or_pos m.length with h0 | h0
      · exact List.eq_nil_of_length_eq_zero h0
      · obtain ⟨b, off, e, _⟩ := hr h0
        cases e
    subst hm
    have hc0 := hc rfl
    subst hc0
    refine wpList_append_own_none hgd s x 23 ho N 9 i0 1 Try.underlying23 hi v l.length (l.map sc) hs hown hx ?_
    exact h v w (by rw [List.append_nil]; exact hown) (fun _ hb => hb) (fun _ _ hr => hr)
  | some ad =>
    have hcells : ∀ j u, (m.map sc)[j]? = some u → w.cell? (ad.add j) = some u := by
      intro j u hu
      have hj : j < m.length := by
        have := (List.getElem?_eq_some_iff.1 hu).1
        rw [List.length_map] at this
        exact this
      obtain ⟨b, off, e, _, hcc⟩ := hr (by omega)
      injection e with e
      subst e
      rw [WideShapes.add_plain, hcc j hj]
      rw [List.getElem?_map, List.getElem?_eq_getElem hj] at hu
      exact hu
    refine wpList_append_own _ hgd s x 23 ho N 9 i0 (.string .empty) 1 16 Try.underlying23 hi hz0 hz1 hz2 rfl (by decide) v l.length (l.map sc) hs hown ad m.length c (m.map sc) hx (by simp) hcells (by intro u hu; obtain ⟨y, _, rfl⟩ := List.mem_map.1 hu; rfl) (by unfold maxLen; omega) hl hN ?_
    intro v' w' ho2 hg2 _
    have hk : ∀ w0, Below N w0 w → Below N w0 w' := fun w0 hb => hown.kept hg2 hb hN
    exact h v' w' (Sown.appended ho2 rfl) hk fun A m hr => hr.below (hk w (Below.refl _ _)) (Nat.le_refl _)

end Go.Proofs.Ytdjkeakagmgfgaa.Ba

namespace Go.Proofs.Ytdjkeakagmgfgaa.Fm
set_option linter.unusedSimpArgs false
set_option linter.unusedVariables false

section order
variable {α : Type}

/-- A strict order in which two that are not less than one another are the same. -/
structure Ord (lt : α → α → Bool) : Prop where
  irr : ∀ a, lt a a = false
  tr : ∀ a b c, lt a b = true → lt b c = true → lt a c = true
  tri : ∀ a b, lt a b = false → lt b a = false → a = b

theorem Ord.ne {lt : α → α → Bool} (h : Ord lt) {a b : α} (hl : lt a b = true) : a ≠ b := by
  rintro rfl
  rw [h.irr] at hl
  cases hl
theorem Ord.asym {lt : α → α → Bool} (h : Ord lt) {a b : α} (hl : lt a b = true) : lt b a = false := by
  cases hb : lt b a with
  | false => rfl
  | true =>
    have := h.tr _ _ _ hl hb
    rw [h.irr] at this
    cases this

/-- The list rises. -/
def Asc (lt : α → α → Bool) (l : List α) : Prop := l.Pairwise fun a b => lt a b = true

theorem asc_nil (lt : α → α → Bool) : Asc lt [] := List.Pairwise.nil
theorem asc_cons {lt : α → α → Bool} {a : α} {l : List α} : Asc lt (a :: l) ↔ (∀ b ∈ l, lt a b = true) ∧ Asc lt l := List.pairwise_cons

theorem uniq {lt : α → α → Bool} (h : Ord lt) : ∀ (l m : List α), Asc lt l → Asc lt m → (∀ x, x ∈ l ↔ x ∈ m) → l = m
  | [], [], _, _, _ => rfl
  | [], b :: m, _, _, hx => by have := (hx b).2 (by simp); simp at this
  | a :: l, [], _, _, hx => by have := (hx a).1 (by simp); simp at this
  | a :: l, b :: m, ha, hb, hx => by
    obtain ⟨ha1, ha2⟩ := asc_cons.1 ha
    obtain ⟨hb1, hb2⟩ := asc_cons.1 hb
    have hab : a = b := by
      rcases List.mem_cons.1 ((hx a).1 (by simp)) with e | e
      · exact e
      · rcases List.mem_cons.1 ((hx b).2 (by simp)) with e' | e'
        · exact e'.symm
        · have h1 := hb1 a e
          have h2 := ha1 b e'
          have := h.tr _ _ _ h1 h2
          rw [h.irr] at this
          cases this
    subst hab
    have : l = m := by
      refine uniq h l m ha2 hb2 fun x => ⟨fun hm => ?_, fun hm => ?_⟩
      · rcases List.mem_cons.1 ((hx x).1 (List.mem_cons_of_mem _ hm)) with e | e
        · subst e
          exact absurd rfl (h.ne (ha1 x hm))
        · exact e
      · rcases List.mem_cons.1 ((hx x).2 (List.mem_cons_of_mem _ hm)) with e | e
        · subst e
          exact absurd rfl (h.ne (hb1 x hm))
        · exact e
    rw [this]

/-- Two lists as one, as the program merges them. -/
def mrg (lt : α → α → Bool) (a b : List α) : List α :=
  match a, b with
  | [], b => b
  | x :: a, [] => x :: a
  | x :: a, y :: b => if lt x y = true then x :: mrg lt a (y :: b) else if lt y x = true then y :: mrg lt (x :: a) b else mrg lt a (y :: b)
termination_by a.length + b.length

theorem mrg_nil (lt : α → α → Bool) (b : List α) : mrg lt [] b = b := by rw [mrg]
theorem mrg_nil' (lt : α → α → Bool) (a : List α) : mrg lt a [] = a := by
  cases a with
  | nil => rw [mrg]
  | cons x a => rw [mrg]
theorem mrg_lt {lt : α → α → Bool} {x y : α} (a b : List α) (h : lt x y = true) : mrg lt (x :: a) (y :: b) = x :: mrg lt a (y :: b) := by rw [mrg, if_pos h]
theorem mrg_gt {lt : α → α → Bool} {x y : α} (a b : List α) (h : lt x y = false) (h' : lt y x = true) : mrg lt (x :: a) (y :: b) = y :: mrg lt (x :: a) b := by
  rw [mrg, if_neg (by simp [h]), if_pos h']
theorem mrg_eq {lt : α → α → Bool} {x y : α} (a b : List α) (h : lt x y = false) (h' : lt y x = false) : mrg lt (x :: a) (y :: b) = mrg lt a (y :: b) := by
  rw [mrg, if_neg (by simp [h]), if_neg (by simp [h'])]

theorem len_mrg (lt : α → α → Bool) (a b : List α) : (mrg lt a b).length ≤ a.length + b.length := by
  match a, b with
  | [], b => rw [mrg_nil]; simp
  | x :: a, [] => rw [mrg_nil']; simp
  | x :: a, y :: b =>
    cases h1 : lt x y with
    | true =>
      rw [mrg_lt _ _ h1]
      have := len_mrg lt a (y :: b)
      simp at this ⊢; omega
    | false =>
      cases h2 : lt y x with
      | true =>
        rw [mrg_gt _ _ h1 h2]
        have := len_mrg lt (x :: a) b
        simp at this ⊢; omega
      | false =>
        rw [mrg_eq _ _ h1 h2]
        have := len_mrg lt a (y :: b)
        simp at this ⊢; omega
termination_by a.length + b.length

theorem mem_mrg {lt : α → α → Bool} (h : Ord lt) (z : α) (a b : List α) : z ∈ mrg lt a b ↔ z ∈ a ∨ z ∈ b := by
  match a, b with
  | [], b => rw [mrg_nil]; simp
  | x :: a, [] => rw [mrg_nil']; simp
  | x :: a, y :: b =>
    cases h1 : lt x y with
    | true =>
      rw [mrg_lt _ _ h1, List.mem_cons, mem_mrg h z a (y :: b), List.mem_cons (l := a), or_assoc]
    | false =>
      cases h2 : lt y x with
      | true =>
        rw [mrg_gt _ _ h1 h2, List.mem_cons, mem_mrg h z (x :: a) b, List.mem_cons (l := b)]
        exact or_left_comm
      | false =>
        rw [mrg_eq _ _ h1 h2, mem_mrg h z a (y :: b)]
        have e := h.tri _ _ h1 h2
        subst e
        rw [List.mem_cons (l := a), List.mem_cons (l := b)]
        constructor
        · rintro (e | e)
          · exact .inl (.inr e)
          · exact .inr e
        · rintro ((e | e) | e)
          · exact .inr (.inl e)
          · exact .inl e
          · exact .inr e
termination_by a.length + b.length

theorem asc_mrg {lt : α → α → Bool} (h : Ord lt) (a b : List α) (ha : Asc lt a) (hb : Asc lt b) : Asc lt (mrg lt a b) := by
  match a, b with
  | [], b => rw [mrg_nil]; exact hb
  | x :: a, [] => rw [mrg_nil']; exact ha
  | x :: a, y :: b =>
    obtain ⟨ha1, ha2⟩ := asc_cons.1 ha
    obtain ⟨hb1, hb2⟩ := asc_cons.1 hb
    cases h1 : lt x y with
    | true =>
      rw [mrg_lt _ _ h1]
      refine asc_cons.2 ⟨fun z hz => ?_, asc_mrg h a (y :: b) ha2 hb⟩
      rcases (mem_mrg h z _ _).1 hz with e | e
      · exact ha1 z e
      · rcases List.mem_cons.1 e with e | e
        · rw [e]; exact h1
        · exact h.tr _ _ _ h1 (hb1 z e)
    | false =>
      cases h2 : lt y x with
      | true =>
        rw [mrg_gt _ _ h1 h2]
        refine asc_cons.2 ⟨fun z hz => ?_, asc_mrg h (x :: a) b ha hb2⟩
        rcases (mem_mrg h z _ _).1 hz with e | e
        · rcases List.mem_cons.1 e with e | e
          · rw [e]; exact h2
          · exact h.tr _ _ _ h2 (ha1 z e)
        · exact hb1 z e
      | false =>
        rw [mrg_eq _ _ h1 h2]
        exact asc_mrg h a (y :: b) ha2 hb
termination_by a.length + b.length

/-- A name put at its place; 'put': it is there already. -/
def insL (lt : α → α → Bool) (x : α) : Bool → List α → List α
  | true, l => l
  | false, [] => [x]
  | false, y :: l => if lt x y = true then x :: y :: l else y :: insL lt x false l

theorem insL_true (lt : α → α → Bool) (x : α) (l : List α) : insL lt x true l = l := by cases l <;> rfl
theorem len_insL (lt : α → α → Bool) (x : α) : ∀ (p : Bool) (l : List α), (insL lt x p l).length ≤ l.length + 1
  | true, l => by rw [insL_true]; omega
  | false, [] => by simp [insL]
  | false, y :: l => by
    have := len_insL lt x false l
    unfold insL
    split <;> simp <;> omega
theorem mem_insL (lt : α → α → Bool) (x z : α) : ∀ l : List α, z ∈ insL lt x false l ↔ z = x ∨ z ∈ l
  | [] => by simp [insL]
  | y :: l => by
    have := mem_insL lt x z l
    unfold insL
    split
    · simp
    · rw [List.mem_cons, this, List.mem_cons]
      exact or_left_comm
theorem asc_insL {lt : α → α → Bool} (h : Ord lt) (x : α) : ∀ l : List α, Asc lt l → x ∉ l → Asc lt (insL lt x false l)
  | [], _, _ => by simp [insL, Asc]
  | y :: l, ha, hx => by
    obtain ⟨ha1, ha2⟩ := asc_cons.1 ha
    unfold insL
    split
    · rename_i hl
      refine asc_cons.2 ⟨fun z hz => ?_, ha⟩
      rcases List.mem_cons.1 hz with e | e
      · rw [e]; exact hl
      · exact h.tr _ _ _ hl (ha1 z e)
    · rename_i hl
      have hyx : lt y x = true := by
        cases hq : lt y x with
        | true => rfl
        | false =>
          have := h.tri x y (by simpa using hl) hq
          subst this
          simp at hx
      refine asc_cons.2 ⟨fun z hz => ?_, asc_insL h x l ha2 fun hm => hx (List.mem_cons_of_mem _ hm)⟩
      rcases (mem_insL lt x z l).1 hz with e | e
      · rw [e]; exact hyx
      · exact ha1 z e

/-- How many names are smaller. -/
def below (lt : α → α → Bool) (l : List α) (s : α) : Nat := l.countP (lt · s)

theorem asc_get {lt : α → α → Bool} {l : List α} (h : Asc lt l) {i j : Nat} (hij : i < j) (hj : j < l.length) : lt (l[i]'(by omega)) l[j] = true :=
  List.pairwise_iff_getElem.1 h i j (by omega) hj hij
theorem low_of {lt : α → α → Bool} (h : Ord lt) {l : List α} (ha : Asc lt l) {s : α} {m : Nat} (hm : m < l.length) (hs : lt l[m] s = true) {i : Nat} (hi : i ≤ m) : lt (l[i]'(by omega)) s = true := by
  rcases Nat.lt_or_ge i m with h1 | h1
  · exact h.tr _ _ _ (asc_get ha h1 hm) hs
  · have : i = m := by omega
    subst this
    exact hs
theorem high_of {lt : α → α → Bool} (h : Ord lt) {l : List α} (ha : Asc lt l) {s : α} {m : Nat} (hm : m < l.length) (hs : lt l[m] s = false) {i : Nat} (hi : m ≤ i) (hl : i < l.length) : lt l[i] s = false := by
  cases hq : lt l[i] s with
  | false => rfl
  | true =>
    have := low_of h ha hl hq hi
    rw [hs] at this
    cases this
theorem below_of {lt : α → α → Bool} {l : List α} {s : α} {k : Nat} (hk : k ≤ l.length) (h1 : ∀ i (hi : i < k), lt (l[i]'(by omega)) s = true) (h2 : ∀ i, k ≤ i → (hi : i < l.length) → lt l[i] s = false) : below lt l s = k := by
  unfold below
  have e : l.countP (lt · s) = (l.take k).countP (lt · s) + (l.drop k).countP (lt · s) := by rw [← List.countP_append, List.take_append_drop]
  have e1 : (l.take k).countP (lt · s) = (l.take k).length := by
    rw [List.countP_eq_length]
    intro a ha
    obtain ⟨i, hi, rfl⟩ := List.getElem_of_mem ha
    rw [List.length_take] at hi
    rw [List.getElem_take]
    exact h1 i (by omega)
  have e2 : (l.drop k).countP (lt · s) = 0 := by
    rw [List.countP_eq_zero]
    intro a ha
    obtain ⟨i, hi, rfl⟩ := List.getElem_of_mem ha
    rw [List.length_drop] at hi
    rw [List.getElem_drop]
    simp [h2 (k + i) (by omega) (by omega)]
  rw [e, e1, e2, List.length_take]
  omega
theorem found_of {lt : α → α → Bool} (h : Ord lt) {l : List α} {s : α} {k : Nat} (h1 : ∀ i, (hi : i < l.length) → i < k → lt l[i] s = true) (ha : Asc lt l) (hkl : k < l.length) (hk : lt l[k] s = false) : (l[k] = s ↔ s ∈ l) := by
  constructor
  · rintro rfl
    exact List.getElem_mem _
  · intro hm
    obtain ⟨i, hi, rfl⟩ := List.getElem_of_mem hm
    rcases Nat.lt_trichotomy i k with hc | hc | hc
    · have := h1 i hi hc
      rw [h.irr] at this
      cases this
    · subst hc; rfl
    · have := asc_get ha hc hi
      rw [hk] at this
      cases this
theorem notfound_of {lt : α → α → Bool} (h : Ord lt) {l : List α} {s : α} (h1 : ∀ i, (hi : i < l.length) → lt l[i] s = true) : s ∉ l := by
  intro hm
  obtain ⟨i, hi, rfl⟩ := List.getElem_of_mem hm
  have := h1 i hi
  rw [h.irr] at this
  cases this
/-- In a list that rises each stands where as many are smaller as its place says. -/
theorem below_at {lt : α → α → Bool} (h : Ord lt) {l : List α} (ha : Asc lt l) {k : Nat} (hk : k < l.length) : below lt l l[k] = k := by
  refine below_of (Nat.le_of_lt hk) (fun i hi => asc_get ha hi hk) fun i hki hi => ?_
  rcases Nat.lt_or_ge k i with hc | hc
  · exact h.asym (asc_get ha hc hi)
  · have : i = k := by omega
    subst this
    exact h.irr _

variable [DecidableEq α]

/-- Does it stand there? -/
def isIn (x : α) (l : List α) : Bool := decide (x ∈ l)
theorem isIn_yes {x : α} {l : List α} (h : x ∈ l) : isIn x l = true := decide_eq_true h
theorem isIn_no {x : α} {l : List α} (h : ¬ x ∈ l) : isIn x l = false := decide_eq_false h
theorem isIn_of {x : α} {l : List α} (h : isIn x l = true) : x ∈ l := of_decide_eq_true h
theorem notIn_of {x : α} {l : List α} (h : isIn x l = false) : ¬ x ∈ l := of_decide_eq_false h
theorem isIn_congr {x : α} {l m : List α} (h : x ∈ l ↔ x ∈ m) : isIn x l = isIn x m := decide_eq_decide.2 h

def ins (lt : α → α → Bool) (x : α) (l : List α) : List α := insL lt x (isIn x l) l
/-- Each name once, in order. -/
def srt (lt : α → α → Bool) (l : List α) : List α := l.foldl (fun out x => ins lt x out) []

theorem mem_ins (lt : α → α → Bool) (x z : α) (l : List α) : z ∈ ins lt x l ↔ z = x ∨ z ∈ l := by
  unfold ins
  by_cases hx : x ∈ l
  · rw [isIn_yes hx, insL_true]
    exact ⟨.inr, fun h => h.elim (fun e => e ▸ hx) id⟩
  · rw [isIn_no hx, mem_insL]
theorem asc_ins {lt : α → α → Bool} (h : Ord lt) (x : α) (l : List α) (ha : Asc lt l) : Asc lt (ins lt x l) := by
  unfold ins
  by_cases hx : x ∈ l
  · rw [isIn_yes hx, insL_true]; exact ha
  · rw [isIn_no hx]; exact asc_insL h x l ha hx

theorem len_srt (lt : α → α → Bool) : ∀ l : List α, (srt lt l).length ≤ l.length := by
  have : ∀ (l out : List α), (l.foldl (fun out x => ins lt x out) out).length ≤ out.length + l.length := by
    intro l
    induction l with
    | nil => intro out; simp
    | cons x l ih =>
      intro out
      have h1 := ih (ins lt x out)
      have h2 := len_insL lt x (isIn x out) out
      simp only [List.foldl_cons, List.length_cons]
      unfold ins at h1 ⊢
      omega
  intro l
  have := this l []
  simpa [srt] using this
theorem srt_is {lt : α → α → Bool} (h : Ord lt) : ∀ l : List α, Asc lt (srt lt l) ∧ ∀ z, z ∈ srt lt l ↔ z ∈ l := by
  have : ∀ (l out : List α), Asc lt out → Asc lt (l.foldl (fun out x => ins lt x out) out) ∧ ∀ z, z ∈ l.foldl (fun out x => ins lt x out) out ↔ z ∈ out ∨ z ∈ l := by
    intro l
    induction l with
    | nil => intro out ho; exact ⟨ho, by simp⟩
    | cons x l ih =>
      intro out ho
      obtain ⟨h1, h2⟩ := ih (ins lt x out) (asc_ins h x out ho)
      refine ⟨h1, fun z => ?_⟩
      rw [List.foldl_cons, h2, mem_ins, List.mem_cons]
      constructor
      · rintro ((e | e) | e)
        · exact .inr (.inl e)
        · exact .inl e
        · exact .inr (.inr e)
      · rintro (e | e | e)
        · exact .inl (.inr e)
        · exact .inl (.inl e)
        · exact .inr e
  intro l
  obtain ⟨h1, h2⟩ := this l [] (asc_nil lt)
  exact ⟨h1, fun z => (h2 z).trans (by simp)⟩
theorem srt_of {lt : α → α → Bool} (h : Ord lt) {l r : List α} (ha : Asc lt r) (hm : ∀ z, z ∈ r ↔ z ∈ l) : r = srt lt l :=
  uniq h _ _ ha (srt_is h l).1 fun x => (hm x).trans ((srt_is h l).2 x).symm
theorem srt_small {lt : α → α → Bool} (h : Ord lt) {l : List α} (hl : l.length < 2) : l = srt lt l := by
  refine srt_of h ?_ fun z => Iff.rfl
  match l, hl with
  | [], _ => exact asc_nil lt
  | [x], _ => simp [Asc]
theorem srt_halves {lt : α → α → Bool} (h : Ord lt) (l : List α) (m : Nat) : mrg lt (srt lt (l.take m)) (srt lt (l.drop m)) = srt lt l := by
  refine srt_of h (asc_mrg h _ _ (srt_is h _).1 (srt_is h _).1) fun z => ?_
  rw [mem_mrg h, (srt_is h _).2, (srt_is h _).2]
  conv => rhs; rw [← List.take_append_drop m l, List.mem_append]
end order

section bytes

/-- A space. -/
def sp (c : UInt8) : Bool := c == 32 || c == 9 || c == 10 || c == 12 || c == 13
/-- A letter. -/
def lr (c : UInt8) : Bool := (decide (65 ≤ c) && decide (c ≤ 90)) || (decide (97 ≤ c) && decide (c ≤ 122))
/-- A small letter. -/
def low (c : UInt8) : UInt8 := if 65 ≤ c ∧ c ≤ 90 then c + 32 else c
def lowL (l : List UInt8) : List UInt8 := l.map low

theorem lowL_append (a b : List UInt8) : lowL (a ++ b) = lowL a ++ lowL b := List.map_append
theorem len_lowL (l : List UInt8) : (lowL l).length = l.length := List.length_map ..

end bytes
end Go.Proofs.Ytdjkeakagmgfgaa.Fm

namespace Go.Proofs.Ytdjkeakagmgfgaa.Fo
set_option linter.unusedSimpArgs false
set_option linter.unusedVariables false
open Go.RowKit Ba Fm
/-- Less, byte by byte. -/
def lt (a b : ByteArray) : Bool := Op.bytesLess a.toList b.toList

theorem bl_irr : ∀ a : List UInt8, Op.bytesLess a a = false
  | [] => rfl
  | a :: x => by simp [Op.bytesLess, bl_irr x]
theorem bl_tr : ∀ a b c : List UInt8, Op.bytesLess a b = true → Op.bytesLess b c = true → Op.bytesLess a c = true
  | _, [], _, h, _ => by simp [Op.bytesLess] at h
  | _, _ :: _, [], _, h => by simp [Op.bytesLess] at h
  | [], _ :: _, _ :: _, _, _ => rfl
  | a :: x, b :: y, c :: z, h1, h2 => by
    simp only [Op.bytesLess, Bool.or_eq_true, Bool.and_eq_true, decide_eq_true_eq, beq_iff_eq] at h1 h2 ⊢
    rcases h1 with h1 | ⟨rfl, h1⟩
    · rcases h2 with h2 | ⟨rfl, h2⟩
      · exact .inl (UInt8.lt_trans h1 h2)
      · exact .inl h1
    · rcases h2 with h2 | ⟨rfl, h2⟩
      · exact .inl h2
      · exact .inr ⟨rfl, bl_tr x y z h1 h2⟩
theorem bl_tri : ∀ a b : List UInt8, Op.bytesLess a b = false → Op.bytesLess b a = false → a = b
  | [], [], _, _ => rfl
  | [], _ :: _, h, _ => by simp [Op.bytesLess] at h
  | _ :: _, [], _, h => by simp [Op.bytesLess] at h
  | a :: x, b :: y, h1, h2 => by
    simp only [Op.bytesLess, Bool.or_eq_false_iff, decide_eq_false_iff_not, UInt8.not_lt] at h1 h2
    have hab : a = b := UInt8.le_antisymm h2.1 h1.1
    subst hab
    have e1 := h1.2
    have e2 := h2.2
    simp at e1 e2
    rw [bl_tri x y e1 e2]
theorem ord_lt : Ord lt where
  irr a := bl_irr _
  tr a b c := bl_tr _ _ _
  tri a b h1 h2 := by
    have := bl_tri _ _ h1 h2
    rw [toList_L, toList_L] at this
    exact L_inj this

theorem below_dN {N : Nat} {a w : World} (h : Below N a w) (n : Nat) : Below N a (w.drewN n) := ⟨h.os, h.tape, h.output, h.size, h.block⟩

def lenOf : Value → Nat | .slice _ n _ => n | _ => 0

/-- v reads as l, below block N. -/
def Sv (w : World) (N : Nat) (v : Value) (l : List ByteArray) : Prop := ∃ A c, v = .slice A l.length c ∧ l.length ≤ c ∧ (A = none → c = 0) ∧ Rd w N A l
theorem sv_own {N : Nat} {w : World} {v : Value} {l : List ByteArray} (h : Sown N w v l) : Sv w w.heap.size v l := by
  rcases h.2 with ⟨hv, hl⟩ | ⟨g, cap, cur, hv, hg, hh, hn, hm, hs, ht⟩
  · have : l = [] := List.eq_nil_of_length_eq_zero hl
    subst this
    exact ⟨none, 0, hv, Nat.le_refl _, fun _ => rfl, Rd.nil _ _ _⟩
  · obtain ⟨A, c, hv', h1, _, h3⟩ := h.form
    refine ⟨A, c, hv', h1, fun e => ?_, h3⟩
    rw [hv] at hv'
    injection hv' with e1
    rw [e] at e1
    cases e1
theorem Sv.below {w w' : World} {N M : Nat} {v : Value} {l : List ByteArray} (h : Sv w N v l) (hb : Below M w w') (hN : N ≤ M) : Sv w' N v l := by
  obtain ⟨A, c, h1, h2, h3, h4⟩ := h
  exact ⟨A, c, h1, h2, h3, h4.below hb hN⟩
theorem Sv.more {w : World} {N M : Nat} {v : Value} {l : List ByteArray} (h : Sv w N v l) (hN : N ≤ M) : Sv w M v l := by
  obtain ⟨A, c, h1, h2, h3, h4⟩ := h
  exact ⟨A, c, h1, h2, h3, h4.more hN⟩

theorem sv_tail {w : World} {N b o c : Nat} {p : ByteArray} {x : List ByteArray} (h : Rd w N (some ⟨b, o, none⟩) (p :: x)) (hc : x.length + 1 ≤ c) : Sv w N (.slice (if c = 1 then some ⟨b, o, none⟩ else some ⟨b, o + 1, none⟩) x.length (c - 1)) x := by
  refine ⟨_, c - 1, rfl, by omega, fun e => ?_, fun h0 => ?_⟩
  · split at e <;> cases e
  · obtain ⟨b', o', e, hb, hcc⟩ := h (by simp)
    injection e with e
    injection e with e1 e2
    subst e1 e2
    rw [if_neg (by omega)]
    refine ⟨b, o + 1, rfl, hb, fun j hj => ?_⟩
    have := hcc (j + 1) (by simp; omega)
    rw [show o + 1 + j = o + (j + 1) from by omega]
    exact this
theorem Sv.rd {w : World} {N n c : Nat} {A : Option Addr} {l : List ByteArray} (h : Sv w N (.slice A n c) l) : Rd w N A l := by
  obtain ⟨A', c', e, _, _, hr⟩ := h
  injection e with e
  rw [e]
  exact hr
theorem own_other {N : Nat} {w : World} {v : Value} {l : List ByteArray} (h : Sown N w v l) {p : Addr} (hp : p.block < N) (u : Value) : Sown N (w.setCell p u) v l := ownsRow_setCell_below h hp u
theorem sown_dN {N : Nat} {w : World} {v : Value} {l : List ByteArray} (h : Sown N w v l) (n : Nat) : Sown N (w.drewN n) v l := h

end Go.Proofs.Ytdjkeakagmgfgaa.Fo

namespace Go.Proofs.Ytdjkeakagmgfgaa.Rk
set_option linter.unusedSimpArgs false
set_option linter.unusedVariables false
open Fm Ba
/-- Elements that are never safe. -/
def unsafeL : List ByteArray := [⟨#[98, 97, 115, 101]⟩, ⟨#[101, 109, 98, 101, 100]⟩, ⟨#[102, 114, 97, 109, 101]⟩, ⟨#[105, 102, 114, 97, 109, 101]⟩, ⟨#[108, 105, 110, 107]⟩, ⟨#[109, 101, 116, 97]⟩, ⟨#[111, 98, 106, 101, 99, 116]⟩, ⟨#[115, 99, 114, 105, 112, 116]⟩]
def neverB (e : ByteArray) : Bool := isIn e unsafeL

end Go.Proofs.Ytdjkeakagmgfgaa.Rk

namespace Go.Proofs.Ytdjkeakagmgfgaa.Nm
set_option linter.unusedSimpArgs false
set_option linter.unusedVariables false
open Ba Fm
/-- May a byte stand in an element's name; in an attribute's. -/
def elB (c : UInt8) : Bool := !(sp c || (65 ≤ c && c ≤ 90) || c == 0 || c == 47 || c == 62)
def atB (c : UInt8) : Bool := elB c && !(c == 34 || c == 39 || c == 60 || c == 61)
def small (c : UInt8) : Bool := 97 ≤ c && c ≤ 122
def rightL : List UInt8 → Bool
  | [] => false
  | c :: r => small c && (c :: r).all elB
def attrL : List UInt8 → Bool
  | [] => false
  | c :: r => (c :: r).all atB
def rightB (s : ByteArray) : Bool := rightL (L s)
def attrB (s : ByteArray) : Bool := attrL (L s)

end Go.Proofs.Ytdjkeakagmgfgaa.Nm

namespace Go.Proofs.Ytdjkeakagmgfgaa.Co
set_option linter.unusedSimpArgs false
set_option linter.unusedVariables false
open Ba Fm Fo Nm Rk
/-- An element, and attributes that are kept of it besides. -/
structure Pe where
  el : ByteArray
  at_ : List ByteArray
/-- A configuration. -/
structure Cf where
  allow : Bool
  attrsAllow : Bool
  els : List ByteArray
  reps : List ByteArray
  ats : List ByteArray
  per : List Pe
  comments : Bool
  dataAttrs : Bool

def elementN (c : Cf) (s : ByteArray) : Nat := if isIn s c.reps = true then 2 else if isIn s c.els = c.allow then 0 else 1
def namedB (c : Cf) (e a : ByteArray) : Bool := (c.per.any fun p => decide (p.el = e) && isIn a p.at_) || isIn a c.ats
def dataL : List UInt8 := [100, 97, 116, 97, 45]
def dataB (a : ByteArray) : Bool := decide (5 < a.size) && decide ((L a).take 5 = dataL)
def attrB12 (c : Cf) (e a : ByteArray) : Bool := if c.attrsAllow = true then namedB c e a || (c.dataAttrs && dataB a) else !namedB c e a
def onceB (l : List ByteArray) : Bool := decide l.Nodup
def meetB (a b : List ByteArray) : Bool := a.any fun x => isIn x b
def bigB (c : Cf) : Bool := decide (64 < c.els.length) || decide (64 < c.reps.length) || decide (64 < c.ats.length) || decide (64 < c.per.length) || c.per.any fun p => decide (64 < p.at_.length)
def namesB (c : Cf) : Bool := c.els.all rightB && c.reps.all rightB && c.ats.all Nm.attrB && c.per.all fun p => rightB p.el && p.at_.all Nm.attrB
def singleB (c : Cf) : Bool := onceB c.els && onceB c.reps && onceB c.ats && onceB (c.per.map Pe.el) && c.per.all fun p => onceB p.at_
def bothB (c : Cf) : Bool := meetB c.els c.reps || (c.dataAttrs && !c.attrsAllow) || c.per.any fun p => meetB p.at_ c.ats
def checkN (c : Cf) : Nat := if bigB c = true then 2 else if namesB c = false then 121 else if singleB c = false then 122 else if bothB c = true then 120 else 0

/-- Of each of these elements those that have attributes. -/
def pickP (per : List Pe) (e : ByteArray) : List Pe := per.filter fun p => decide (p.el = e) && decide (p.at_ ≠ [])
def groupL (per : List Pe) (es : List ByteArray) : List Pe := es.flatMap (pickP per)
def sortP (p : Pe) : Pe := ⟨p.el, srt lt p.at_⟩
def canonPer (per : List Pe) : List Pe := groupL (per.map sortP) (srt lt (per.map Pe.el))
def canonC (c : Cf) : Cf := { c with els := srt lt c.els, reps := srt lt c.reps, ats := srt lt c.ats, per := canonPer c.per }
/-! ### Lists -/
theorem isIn_iff {x : ByteArray} {l : List ByteArray} : isIn x l = true ↔ x ∈ l := ⟨isIn_of, isIn_yes⟩
theorem isIn_srt (x : ByteArray) (l : List ByteArray) : isIn x (srt lt l) = isIn x l := isIn_congr ((srt_is ord_lt l).2 x)
theorem mem_srt {x : ByteArray} {l : List ByteArray} : x ∈ srt lt l ↔ x ∈ l := (srt_is ord_lt l).2 x
theorem srt_none {l : List ByteArray} : srt lt l = [] ↔ l = [] := by
  constructor
  · intro h
    cases l with
    | nil => rfl
    | cons a r =>
      have : a ∈ srt lt (a :: r) := mem_srt.2 List.mem_cons_self
      rw [h] at this
      cases this
  · rintro rfl; rfl
theorem asc_nodup {l : List ByteArray} (h : Asc lt l) : l.Nodup := List.Pairwise.imp (fun hab => ord_lt.ne hab) h
theorem meet_iff {a b : List ByteArray} : meetB a b = true ↔ ∃ x, x ∈ a ∧ x ∈ b := by
  unfold meetB
  rw [List.any_eq_true]
  exact ⟨fun ⟨x, h1, h2⟩ => ⟨x, h1, isIn_of h2⟩, fun ⟨x, h1, h2⟩ => ⟨x, h1, isIn_yes h2⟩⟩
/-! ### In order -/
theorem mem_pick {P : List Pe} {e : ByteArray} {p : Pe} : p ∈ pickP P e ↔ p ∈ P ∧ p.el = e ∧ p.at_ ≠ [] := by
  unfold pickP
  rw [List.mem_filter, Bool.and_eq_true, decide_eq_true_iff, decide_eq_true_iff]
theorem mem_group {P : List Pe} {es : List ByteArray} {p : Pe} : p ∈ groupL P es ↔ p ∈ P ∧ p.el ∈ es ∧ p.at_ ≠ [] := by
  unfold groupL
  rw [List.mem_flatMap]
  constructor
  · rintro ⟨e, he, hp⟩
    obtain ⟨h1, rfl, h2⟩ := mem_pick.1 hp
    exact ⟨h1, he, h2⟩
  · rintro ⟨h1, h2, h3⟩
    exact ⟨_, h2, mem_pick.2 ⟨h1, rfl, h3⟩⟩
theorem mem_canon {per : List Pe} {p : Pe} : p ∈ canonPer per ↔ ∃ q ∈ per, q.at_ ≠ [] ∧ p = sortP q := by
  unfold canonPer
  rw [mem_group]
  constructor
  · rintro ⟨h1, _, h2⟩
    obtain ⟨q, hq, rfl⟩ := List.mem_map.1 h1
    exact ⟨q, hq, fun h => h2 (srt_none.2 h), rfl⟩
  · rintro ⟨q, hq, h, rfl⟩
    exact ⟨List.mem_map.2 ⟨q, hq, rfl⟩, mem_srt.2 (List.mem_map.2 ⟨q, hq, rfl⟩), fun e => h (srt_none.1 e)⟩
theorem canon_el (c : Cf) (s : ByteArray) : elementN (canonC c) s = elementN c s := by
  unfold elementN
  show (if isIn s (srt lt c.reps) = true then 2 else if isIn s (srt lt c.els) = c.allow then 0 else 1) = _
  rw [isIn_srt, isIn_srt]
instance : DecidableEq Pe := fun a b => by
  cases a; cases b
  rw [Pe.mk.injEq]
  infer_instance
theorem map_el (per : List Pe) : (per.map sortP).map Pe.el = per.map Pe.el := by rw [List.map_map]; rfl

/-! ### May it be -/
/-! ### Without what is never safe -/
/-! ### Data, few, turned -/
end Go.Proofs.Ytdjkeakagmgfgaa.Co

namespace Go.Proofs.Ytdjkeakagmgfgaa.Co
set_option linter.unusedSimpArgs false
set_option linter.unusedVariables false
open Ba Fm Fo Nm Rk
def allC : Cf := ⟨false, false, [], [], [], [], true, false⟩

end Go.Proofs.Ytdjkeakagmgfgaa.Co

namespace Go.Proofs.Ytdjkeakagmgfgaa.Lk
set_option linter.unusedSimpArgs false
set_option linter.unusedVariables false
open Fm
/-- A byte that does not count at an end; one that counts nowhere. -/
def edge (c : UInt8) : Bool := decide (c ≤ 32)
def inn (c : UInt8) : Bool := c == 9 || c == 10 || c == 13
def kept (l : List UInt8) : List UInt8 := l.filter fun c => !inn c
def frontL (l : List UInt8) : List UInt8 := l.dropWhile edge
def backL (l : List UInt8) : List UInt8 := (l.reverse.dropWhile edge).reverse
def stripL (l : List UInt8) : List UInt8 := kept (backL (frontL l))

theorem front_yes {c : UInt8} (l : List UInt8) (h : edge c = true) : frontL (c :: l) = frontL l := by simp [frontL, List.dropWhile_cons, h]
theorem front_no {c : UInt8} (l : List UInt8) (h : edge c = false) : frontL (c :: l) = c :: l := by simp [frontL, List.dropWhile_cons, h]
theorem back_yes {c : UInt8} (l : List UInt8) (h : edge c = true) : backL (l ++ [c]) = backL l := by simp [backL, List.dropWhile_cons, h]
theorem back_no {c : UInt8} (l : List UInt8) (h : edge c = false) : backL (l ++ [c]) = l ++ [c] := by simp [backL, List.dropWhile_cons, h]
theorem kept_append (a b : List UInt8) : kept (a ++ b) = kept a ++ kept b := List.filter_append ..
theorem kept_yes {c : UInt8} (h : inn c = true) : kept [c] = [] := by simp [kept, h]
theorem kept_no {c : UInt8} (h : inn c = false) : kept [c] = [c] := by simp [kept, h]
theorem front_len : ∀ l : List UInt8, (frontL l).length ≤ l.length
  | [] => Nat.le_refl _
  | c :: l => by
    cases he : edge c with
    | true => rw [front_yes _ he]; have := front_len l; simp only [List.length_cons]; omega
    | false => rw [front_no _ he]; exact Nat.le_refl _
theorem back_len (l : List UInt8) : (backL l).length ≤ l.length := by
  show (frontL l.reverse).reverse.length ≤ _
  rw [List.length_reverse]
  have := front_len l.reverse
  rw [List.length_reverse] at this
  exact this
theorem kept_len (l : List UInt8) : (kept l).length ≤ l.length := List.length_filter_le _ _
theorem strip_len (l : List UInt8) : (stripL l).length ≤ l.length := Nat.le_trans (kept_len _) (Nat.le_trans (back_len _) (front_len l))

/-- Bytes that may stand in a scheme behind its first one, besides letters. -/
def oth (c : UInt8) : Bool := (decide (48 ≤ c) && decide (c ≤ 57)) || c == 43 || c == 45 || c == 46
def sch (p : Bool) (c : UInt8) : Bool := lr c || (p && oth c)
/-- The bytes of a scheme that a text begins with (p: behind the first one). -/
def st : Bool → List UInt8 → List UInt8
  | _, [] => []
  | p, c :: r => if sch p c = true then c :: st true r else []
theorem st_nil (p : Bool) : st p [] = [] := rfl
theorem st_yes {p : Bool} {c : UInt8} (r : List UInt8) (h : sch p c = true) : st p (c :: r) = c :: st true r := by rw [st, if_pos h]
theorem st_no {p : Bool} {c : UInt8} (r : List UInt8) (h : sch p c = false) : st p (c :: r) = [] := by rw [st, if_neg (by rw [h]; exact Bool.false_ne_true)]
/-- Where the : behind a stripped address's scheme stands. -/
def colonL (l : List UInt8) : Option Nat := if 0 < (st false l).length ∧ l[(st false l).length]? = some 58 then some (st false l).length else none
/-- What the bytes ahead of k are, when these are all a scheme's. -/
def upTo (l : List UInt8) (k : Nat) : Prop := st false l = l.take k ++ st (decide (0 < k)) (l.drop k)
theorem upTo_zero (l : List UInt8) : upTo l 0 := rfl
theorem upTo_next {l : List UInt8} {k : Nat} (h : upTo l k) (hk : k < l.length) (hs : sch (decide (0 < k)) l[k] = true) : upTo l (k + 1) := by
  unfold upTo at *
  rw [h, List.drop_eq_getElem_cons hk, st_yes _ hs, List.take_succ_eq_append_getElem hk, List.append_assoc]
  rfl
theorem upTo_stop {l : List UInt8} {k : Nat} (h : upTo l k) (hk : k < l.length) (hs : sch (decide (0 < k)) l[k] = false) : (st false l).length = k := by
  unfold upTo at h
  rw [h, List.drop_eq_getElem_cons hk, st_no _ hs, List.append_nil, List.length_take]
  omega
theorem upTo_end {l : List UInt8} {k : Nat} (h : upTo l k) (hk : k = l.length) : (st false l).length = k := by
  unfold upTo at h
  rw [h, List.drop_eq_nil_of_le (by omega), st_nil, List.append_nil, List.length_take]
  omega
theorem colon_stop {l : List UInt8} {k : Nat} (hs : (st false l).length = k) (h0 : 0 < k) (hk : k < l.length) (hc : l[k] = 58) : colonL l = some k := by
  unfold colonL
  rw [hs, if_pos ⟨h0, by rw [List.getElem?_eq_getElem hk, hc]⟩]
theorem colon_not {l : List UInt8} {k : Nat} (hs : (st false l).length = k) (h : k = 0 ∨ k = l.length ∨ ∃ hk : k < l.length, l[k] ≠ 58) : colonL l = none := by
  unfold colonL
  rw [hs, if_neg]
  rintro ⟨h1, h2⟩
  rcases h with h | h | ⟨hk, h⟩
  · omega
  · have := (List.getElem?_eq_some_iff.1 h2).1
    omega
  · rw [List.getElem?_eq_getElem hk] at h2
    injection h2 with h2
    exact h h2
/-- Great letters for small ones. -/
def up (c : UInt8) : UInt8 := if 97 ≤ c ∧ c ≤ 122 then c - 32 else c
def small (m : Nat) : UInt8 := UInt8.ofNat m
/-- The scheme of an address; the empty one: it has none. -/
def schemeO (s : List UInt8) : Option (List UInt8) := (colonL (stripL s)).map fun k => lowL ((stripL s).take k)
def schemeL (s : List UInt8) : List UInt8 := (schemeO s).getD []
def hasL (s : List UInt8) : Bool := (schemeO s).isSome
/-- A hexadecimal digit, and its number. -/
def hb (c : UInt8) : Bool := (decide (48 ≤ c) && decide (c ≤ 57)) || (decide (97 ≤ c) && decide (c ≤ 102)) || (decide (65 ≤ c) && decide (c ≤ 70))
def hv (c : UInt8) : Nat := if 48 ≤ c ∧ c ≤ 57 then c.toNat - 48 else if 97 ≤ c ∧ c ≤ 102 then c.toNat - 87 else if 65 ≤ c ∧ c ≤ 70 then c.toNat - 55 else 0
/-- The byte of a mark that a text begins with. -/
def mk : List UInt8 → Option UInt8
  | a :: b :: c :: _ => if a == 37 && (hb b && hb c) then some (UInt8.ofNat (16 * hv b + hv c)) else none
  | _ => none
/-- Bytes for their marks. -/
def pct : List UInt8 → List UInt8
  | [] => []
  | [a] => [a]
  | [a, b] => [a, b]
  | a :: b :: c :: r => if a == 37 && (hb b && hb c) then UInt8.ofNat (16 * hv b + hv c) :: pct r else a :: pct (b :: c :: r)
/-- What is run of an address. -/
def js : List UInt8 := [106, 97, 118, 97, 115, 99, 114, 105, 112, 116]
def scriptL (s : List UInt8) : Bool := decide (schemeL s = js)
def sourceL (s : List UInt8) : List UInt8 := if schemeL s = js then pct ((stripL s).drop ((colonL (stripL s)).getD 0 + 1)) else []
end Go.Proofs.Ytdjkeakagmgfgaa.Lk

namespace Go.Proofs.Ytdjkeakagmgfgaa.Rk
set_option linter.unusedSimpArgs false
set_option linter.unusedVariables false
open Fm Ba Lk
open Ro (At Ro)
/-- Is a name a handler's? -/
def hand : List UInt8 → Bool
  | a :: b :: _ :: _ => a == 111 && b == 110
  | _ => false
/-- Elements and attributes that lead somewhere; those that take an address of a script; elements that are never safe. -/
def leadsL : List (ByteArray × ByteArray) := [(⟨#[97]⟩, ⟨#[104, 114, 101, 102]⟩), (⟨#[97, 114, 101, 97]⟩, ⟨#[104, 114, 101, 102]⟩), (⟨#[98, 117, 116, 116, 111, 110]⟩, ⟨#[102, 111, 114, 109, 97, 99, 116, 105, 111, 110]⟩), (⟨#[101, 109, 98, 101, 100]⟩, ⟨#[115, 114, 99]⟩), (⟨#[102, 111, 114, 109]⟩, ⟨#[97, 99, 116, 105, 111, 110]⟩), (⟨#[102, 114, 97, 109, 101]⟩, ⟨#[115, 114, 99]⟩), (⟨#[105, 102, 114, 97, 109, 101]⟩, ⟨#[115, 114, 99]⟩), (⟨#[105, 110, 112, 117, 116]⟩, ⟨#[102, 111, 114, 109, 97, 99, 116, 105, 111, 110]⟩), (⟨#[111, 98, 106, 101, 99, 116]⟩, ⟨#[100, 97, 116, 97]⟩)]
def takesL : List (ByteArray × ByteArray) := [(⟨#[115, 99, 114, 105, 112, 116]⟩, ⟨#[115, 114, 99]⟩), (⟨#[101, 109, 98, 101, 100]⟩, ⟨#[115, 114, 99]⟩), (⟨#[111, 98, 106, 101, 99, 116]⟩, ⟨#[100, 97, 116, 97]⟩)]
def pairB (P : List (ByteArray × ByteArray)) (e a : ByteArray) : Bool := P.any fun p => decide (p.1 = e) && decide (p.2 = a)
theorem pair_mem {P : List (ByteArray × ByteArray)} {e a : ByteArray} : pairB P e a = true ↔ (e, a) ∈ P := by
  unfold pairB
  rw [List.any_eq_true]
  constructor
  · rintro ⟨p, hp, h⟩
    rw [Bool.and_eq_true, decide_eq_true_iff, decide_eq_true_iff] at h
    have : p = (e, a) := Prod.ext h.1 h.2
    rw [← this]
    exact hp
  · intro h
    exact ⟨_, h, by rw [Bool.and_eq_true]; exact ⟨decide_eq_true rfl, decide_eq_true rfl⟩⟩
def docB (e a : ByteArray) : Bool := decide (e = ⟨#[105, 102, 114, 97, 109, 101]⟩) && decide (a = ⟨#[115, 114, 99, 100, 111, 99]⟩)
def navB (e a : ByteArray) : Bool := pairB leadsL e a
def sinkN (e a : ByteArray) : Nat := if hand (L a) = true then 2 else if pairB takesL e a = true then 3 else if docB e a = true then 1 else 0
def attrB (e : ByteArray) (x : At) : Bool := decide (sinkN e x.name ≠ 0) || (navB e x.name && scriptL (L x.value))
def rowB (x : Ro) : Bool := if x.kind = 0 then (x.attrs.all fun a => !attrB x.name a) && !neverB x.name else true
def safeB (l : List Ro) : Bool := l.all rowB

theorem safe_append (a b : List Ro) : safeB (a ++ b) = (safeB a && safeB b) := List.all_append
theorem safe_one (x : Ro) : safeB [x] = rowB x := by simp [safeB]
theorem safe_of {l : List Ro} (h : safeB l = true) (x : Ro) (hx : x ∈ l) : rowB x = true := List.all_eq_true.1 h x hx
/-! ### The reference's pairs: an element and an attribute with a blank between them. -/
def joinP (p : ByteArray × ByteArray) : ByteArray := p.1 ++ ⟨#[32]⟩ ++ p.2
/-- Both names are there, and the element's has no blank. -/
def namesB (e a : ByteArray) : Bool := !isIn (⟨#[]⟩ : ByteArray) [e, a] && decide ((32 : UInt8) ∉ L e)
def goodP (P : List (ByteArray × ByteArray)) : Prop := ∀ p ∈ P, (32 : UInt8) ∉ L p.1 ∧ p.1 ≠ ⟨#[]⟩ ∧ p.2 ≠ ⟨#[]⟩
instance (P : List (ByteArray × ByteArray)) : Decidable (goodP P) := by unfold goodP; infer_instance
end Go.Proofs.Ytdjkeakagmgfgaa.Rk

namespace Go.Proofs.Ytdjkeakagmgfgaa.Cn
set_option linter.unusedSimpArgs false
set_option linter.unusedVariables false
open Ba Ro
open Co (Cf Pe elementN attrB12 checkN canonC allC)
open Rk (neverB rowB safeB)
/-- What becomes of a row: 0 it stays, 1 it goes with all that it has, 2 what it has stays in its place. -/
def fateN (c : Cf) (s : Bool) (x : Ro) : Nat := if x.kind = 1 then 0 else if x.kind = 2 then (if c.comments = true then 0 else 1) else if (s && neverB x.name) = true then 1 else elementN c x.name
/-- The attributes that stay. -/
def keepB (c : Cf) (s : Bool) (e : ByteArray) (a : At) : Bool := attrB12 c e a.name && !(s && Rk.attrB e a)
def attrsL (c : Cf) (s : Bool) (e : ByteArray) (l : List At) : List At := l.filter (keepB c s e)
def attrsF (c : Cf) (s : Bool) (x : Ro) : List At := attrsL c s x.name x.attrs
def keptL (c : Cf) (s : Bool) (l : List Ro) : List Ro := K (fateN c s) (attrsF c s) 0 l
def cleanL (c : Cf) (s : Bool) (l : List Ro) : List Ro := normal (keptL c s l)

theorem twice_filter (p : At → Bool) : ∀ l : List At, twice l = false → twice (l.filter p) = false
  | [], _ => rfl
  | a :: r, h => by
    rw [twice, Bool.or_eq_false_iff] at h
    rw [List.filter_cons]
    split
    · rw [twice, twice_filter p r h.2, Bool.or_false, List.any_eq_false]
      intro b hb
      exact List.any_eq_false.1 h.1 b (List.mem_filter.1 hb).1
    · exact twice_filter p r h.2
theorem ok_filter {x : Ro} (p : At → Bool) (h : okRow x = true) (e : Int) : okRow ⟨e, x.kind, x.name, x.data, x.attrs.filter p⟩ = true := by
  unfold okRow at h ⊢
  by_cases hk : (x.kind == 0) = true
  · rw [if_pos hk] at h ⊢
    rw [Bool.and_eq_true] at h ⊢
    refine ⟨h.1, ?_⟩
    have h2 := h.2
    rw [Bool.not_eq_true'] at h2 ⊢
    exact twice_filter p _ h2
  · rw [if_neg hk] at h ⊢
    rw [Bool.and_eq_true] at h ⊢
    refine ⟨h.1, ?_⟩
    have h2 := h.2
    rw [beq_iff_eq] at h2 ⊢
    have : x.attrs = [] := List.length_eq_zero_iff.1 (by omega)
    rw [this]
    rfl
theorem ok_kept (c : Cf) (s : Bool) : ∀ x : Ro, okRow x = true → ∀ e, okRow ⟨e, x.kind, x.name, x.data, attrsF c s x⟩ = true := fun x h e => ok_filter _ h e
theorem no_attrs {x : Ro} (h : okRow x = true) (hk : x.kind ≠ 0) : x.attrs = [] := by
  unfold okRow at h
  rw [if_neg (by simpa using hk), Bool.and_eq_true, beq_iff_eq] at h
  exact List.length_eq_zero_iff.1 (by omega)
theorem ok_kinds {x : Ro} (h : okRow x = true) : x.kind = 0 ∨ x.kind = 1 ∨ x.kind = 2 := by
  unfold okRow at h
  by_cases hk : (x.kind == 0) = true
  · exact .inl (by simpa using hk)
  · rw [if_neg hk, Bool.and_eq_true, Bool.and_eq_true, Bool.or_eq_true, beq_iff_eq, beq_iff_eq] at h
    exact .inr h.1.1
theorem text_kept (c : Cf) (s : Bool) : ∀ x : Ro, okRow x = true → x.kind = 1 → fateN c s x = 0 ∧ attrsF c s x = [] := fun x h hk => by
  refine ⟨by unfold fateN; rw [if_pos hk], ?_⟩
  unfold attrsF
  rw [no_attrs h (by rw [hk]; decide)]
  rfl
theorem fate_el (c : Cf) (s : Bool) {x : Ro} (hk : x.kind = 0) : fateN c s x = if (s && neverB x.name) = true then 1 else elementN c x.name := by
  unfold fateN; rw [if_neg (by rw [hk]; decide), if_neg (by rw [hk]; decide)]
theorem fate_note (c : Cf) (s : Bool) {x : Ro} (hk : x.kind = 2) : fateN c s x = if c.comments = true then 0 else 1 := by
  unfold fateN; rw [if_neg (by rw [hk]; decide), if_pos hk]
theorem kept_wd (c : Cf) (s : Bool) {l : List Ro} (h : right l = true) : Wd 0 (keptL c s l) := K_fo (ok_kept c s) (fo_right h) 0 (by omega)
theorem clean_nr (c : Cf) (s : Bool) {l : List Ro} (h : right l = true) : cleanL c s l = nr (keptL c s l) := normal_fo (kept_wd c s h)
theorem clean_wd (c : Cf) (s : Bool) {l : List Ro} (h : right l = true) : Wd 0 (cleanL c s l) := by rw [clean_nr c s h]; exact nr_fo (kept_wd c s h)
theorem clean_right (c : Cf) (s : Bool) {l : List Ro} (h : right l = true) : right (cleanL c s l) = true := (clean_wd c s h).2
theorem clean_len (c : Cf) (s : Bool) {l : List Ro} (h : right l = true) : (cleanL c s l).length ≤ l.length :=
  Nat.le_trans (normal_from _ _ (Nat.le_refl _)).1 (K_len (fo_right h) 0)
theorem clean_deep (c : Cf) (s : Bool) {l : List Ro} (h : right l = true) : ∀ y ∈ cleanL c s l, ∃ x ∈ l, y.depth ≤ x.depth := fun y hy => by
  obtain ⟨z, hz, e, _⟩ := (normal_from _ _ (Nat.le_refl _)).2 y hy
  obtain ⟨x, hx, _, hd, _⟩ := K_mem (fo_right h) 0 (by omega) z hz
  exact ⟨x, hx, by omega⟩
theorem clean_check (c : Cf) (s : Bool) {l : List Ro} (h : check l = 0) : check (cleanL c s l) = 0 := by
  obtain ⟨h1, h2⟩ := check_parts h
  exact check_of (exceeds_less h1 (clean_len c s h2) (clean_deep c s h2)) (clean_right c s h2)

theorem nr_mem : ∀ (l : List Ro), ∀ y ∈ nr l, (y.kind = 1 ∧ y.attrs = []) ∨ y ∈ l
  | [], y, h => by cases h
  | x :: l, y, h => by
    have up : y ∈ nr l → (y.kind = 1 ∧ y.attrs = []) ∨ y ∈ x :: l := fun h => (nr_mem l y h).imp id (List.mem_cons_of_mem _)
    rw [nr_cons] at h
    by_cases hk : x.kind = 1
    · rw [jn_text hk] at h
      by_cases ha : L x.data = []
      · rw [ha, jt_nil] at h; exact up h
      cases hm : nr l with
      | nil => rw [hm, jt_none _ ha, List.mem_singleton] at h; subst h; exact .inl ⟨rfl, rfl⟩
      | cons z t =>
        rw [hm] at h up
        by_cases hz : z.kind = 1 ∧ z.depth = x.depth
        · rw [jt_hit _ ha hz] at h
          rcases List.mem_cons.1 h with rfl | h
          · exact .inl ⟨rfl, rfl⟩
          · exact up (List.mem_cons_of_mem _ h)
        · rw [jt_miss _ ha hz] at h
          rcases List.mem_cons.1 h with rfl | h
          · exact .inl ⟨rfl, rfl⟩
          · exact up h
    · rw [jn_other hk] at h
      rcases List.mem_cons.1 h with rfl | h
      · exact .inr List.mem_cons_self
      · exact up h
/-- Where each row of what was kept comes from. -/
theorem clean_mem (c : Cf) (s : Bool) {l : List Ro} (h : right l = true) : ∀ y ∈ cleanL c s l, (y.kind = 1 ∧ y.attrs = []) ∨ ∃ x ∈ l, fateN c s x = 0 ∧ y = ⟨y.depth, x.kind, x.name, x.data, attrsF c s x⟩ := fun y hy => by
  rw [clean_nr c s h] at hy
  rcases nr_mem _ y hy with h1 | h1
  · exact .inl h1
  · obtain ⟨x, hx, h2, _, h3⟩ := K_mem (fo_right h) 0 (by omega) y h1
    exact .inr ⟨x, hx, h2, h3⟩
/-- Rows of which all stays as it is. -/
theorem clean_id {c : Cf} {s : Bool} {l : List Ro} (h : right l = true) (hn : Nrm l) (hx : ∀ x ∈ l, fateN c s x = 0 ∧ attrsF c s x = x.attrs) : cleanL c s l = l := by
  unfold cleanL keptL
  rw [K_id (fo_right h) hx, normal_nrm l 0 h hn]
theorem clean_nrm (c : Cf) (s : Bool) {l : List Ro} (h : right l = true) : Nrm (cleanL c s l) := nrm_normal _ _ 0 (Nat.le_refl _) (kept_wd c s h).2
/-- Filtered safely it is safe. -/
theorem clean_safe (c : Cf) {l : List Ro} (h : right l = true) : safeB (cleanL c true l) = true := by
  unfold safeB
  rw [List.all_eq_true]
  intro y hy
  unfold rowB
  split
  · rename_i hk
    rcases clean_mem c true h y hy with ⟨h1, h2⟩ | ⟨x, hx, h1, h2⟩
    · omega
    · have e1 : y.kind = x.kind := (congrArg Ro.kind h2).trans rfl
      have e2 : y.name = x.name := (congrArg Ro.name h2).trans rfl
      have e3 : y.attrs = attrsF c true x := (congrArg Ro.attrs h2).trans rfl
      rw [fate_el c true (by omega), Bool.true_and] at h1
      rw [e2, e3, Bool.and_eq_true]
      constructor
      · rw [List.all_eq_true]
        intro a ha
        have := (List.mem_filter.1 ha).2
        unfold keepB at this
        rw [Bool.and_eq_true, Bool.true_and] at this
        exact this.2
      · cases hn : neverB x.name with
        | false => rfl
        | true => rw [if_pos hn] at h1; cases h1
  · rfl

/-! ### By one configuration, then by another -/
theorem all_attr (e a : ByteArray) : attrB12 allC e a = true := rfl
/-! ### All stays; nothing stays -/
theorem all_stays {l : List Ro} (h : right l = true) (hn : Nrm l) : cleanL allC false l = l := by
  refine clean_id h hn fun x hx => ⟨?_, ?_⟩
  · unfold fateN
    split
    · rfl
    · split
      · rfl
      · rw [Bool.false_and, if_neg (by decide)]; rfl
  · unfold attrsF attrsL
    rw [List.filter_eq_self]
    intro a _
    unfold keepB
    rw [all_attr]
    rfl
theorem safe_stays {l : List Ro} (h : right l = true) (hn : Nrm l) : decide (cleanL allC true l = l) = safeB l := by
  cases hs : safeB l with
  | false =>
    refine decide_eq_false fun e => ?_
    have := clean_safe allC h
    rw [e, hs] at this
    cases this
  | true =>
    refine decide_eq_true (clean_id h hn fun x hx => ?_)
    have hrow := Rk.safe_of hs x hx
    have hrr : okRow x = true := right_ok l 0 h x hx
    rcases ok_kinds hrr with hk | hk | hk
    · unfold rowB at hrow
      rw [if_pos hk, Bool.and_eq_true, List.all_eq_true] at hrow
      have hne : neverB x.name = false := by simpa using hrow.2
      rw [fate_el allC true hk, hne]
      refine ⟨rfl, ?_⟩
      unfold attrsF attrsL
      rw [List.filter_eq_self]
      intro a ha
      unfold keepB
      rw [all_attr, Bool.true_and, Bool.true_and]
      exact hrow.1 a ha
    · exact ⟨by unfold fateN; rw [if_pos hk], by unfold attrsF; rw [no_attrs hrr (by omega)]; rfl⟩
    · exact ⟨by rw [fate_note allC true hk]; rfl, by unfold attrsF; rw [no_attrs hrr (by omega)]; rfl⟩
where
  right_ok : ∀ (l : List Ro) (m : Int), rightFrom m l = true → ∀ x ∈ l, okRow x = true
    | [], _, _, x, h => by cases h
    | y :: r, m, h, x, hx => by
      rw [rightFrom] at h
      simp only [Bool.and_eq_true, decide_eq_true_eq] at h
      rcases List.mem_cons.1 hx with rfl | hx
      · exact h.1.2
      · exact right_ok r _ h.2 x hx
/-- Where all elements are replaced, and comments go, the text is left. -/
theorem text_left {c : Cf} {l : List Ro} (h : right l = true) (hc : c.comments = false) (he : ∀ x ∈ l, x.kind = 0 → elementN c x.name = 2) : cleanL c false l = if txt l = [] then [] else [⟨0, 1, .empty, B (txt l), []⟩] := by
  rw [clean_nr c false h]
  show (K _ _ 0 l).foldr jn [] = _
  rw [K_texts (fo_right h) (fun x hx ho => ⟨text_kept c false x ho, fun h0 h1 => by
    rcases ok_kinds ho with hk | hk | hk
    · exact absurd hk h0
    · exact absurd hk h1
    · rw [fate_note c false hk, hc]; rfl, fun hk => by
    rw [fate_el c false hk, Bool.false_and, if_neg (by decide), he x hx hk]; decide⟩) 0 []]
  split
  · rename_i ht; rw [ht, jt_nil]
  · rename_i ht; rw [jt_none 0 ht]

/-! ### Text -/
theorem clean_txt (c : Cf) (s : Bool) {l : List Ro} (h : right l = true) : txt (cleanL c s l) = txt (keptL c s l) := txt_normal _ _ (Nat.le_refl _)
theorem clean_txt_le (c : Cf) (s : Bool) {l : List Ro} (h : right l = true) : (txt (cleanL c s l)).length ≤ (txt l).length := by
  rw [clean_txt c s h]; exact txt_K (fo_right h) 0
/-! ### What is replaced leaves what it has -/
end Go.Proofs.Ytdjkeakagmgfgaa.Cn

namespace Go.Proofs.Ytdjkeakagmgfgaa.Co
set_option maxRecDepth 100000
set_option linter.unusedVariables false
set_option linter.unusedSimpArgs false
open Go.RowKit Ba Fm Fo Nm Rk
/-- An element's attributes as they lie. -/
structure Pw where
  pe : Pe
  A : Option Addr
  c : Nat
def pcells (x : Pw) : List Value := [.string x.pe.el, .slice x.A x.pe.at_.length x.c]
theorem len_pcells (x : Pw) : (pcells x).length = 2 := rfl
abbrev perV (x : Pw) : Value := .agg #[.string x.pe.el, .slice x.A x.pe.at_.length x.c]
def pes (l : List Pw) : List Pe := l.map Pw.pe
theorem len_pes (l : List Pw) : (pes l).length = l.length := List.length_map _
theorem pes_append (a b : List Pw) : pes (a ++ b) = pes a ++ pes b := by simp [pes]
theorem pes_take (l : List Pw) (k : Nat) : (pes l).take k = pes (l.take k) := by simp [pes, List.map_take]
/-- Its attributes are there. -/
def Sx (w : World) (N : Nat) (x : Pw) : Prop := Sv w N (.slice x.A x.pe.at_.length x.c) x.pe.at_
/-- These lie at A, below block N. -/
def Pr (w : World) (N : Nat) (A : Option Addr) (l : List Pw) : Prop :=
  (0 < l.length → ∃ b off, A = some ⟨b, off, none⟩ ∧ b < N ∧ ∀ j (h : j < l.length), w.rangeAt b (off + j * 2) (pcells l[j])) ∧ ∀ x ∈ l, Sx w N x
def Pv (w : World) (N : Nat) (v : Value) (l : List Pw) : Prop := ∃ A c, v = .slice A l.length c ∧ l.length ≤ c ∧ (A = none → c = 0) ∧ Pr w N A l

theorem range_keep12 {w w' : World} {b o : Nat} {cs : List Value} (h : w.rangeAt b o cs) (hk : ∀ o, w'.cell? ⟨b, o, none⟩ = w.cell? ⟨b, o, none⟩) : w'.rangeAt b o cs := fun j v hv => (hk _).trans (h j v hv)
theorem Sx.below {w w' : World} {N M : Nat} {x : Pw} (h : Sx w N x) (hb : Below M w w') (hN : N ≤ M := by exact Nat.le_refl _) : Sx w' N x := Sv.below h hb hN
theorem Sx.more {w : World} {N M : Nat} {x : Pw} (h : Sx w N x) (hN : N ≤ M) : Sx w M x := Sv.more h hN
theorem Pr.below {w w' : World} {N M : Nat} {A : Option Addr} {l : List Pw} (h : Pr w N A l) (hb : Below M w w') (hN : N ≤ M := by exact Nat.le_refl _) : Pr w' N A l :=
  ⟨fun h0 => by
    obtain ⟨b, off, e, hbN, hc⟩ := h.1 h0
    exact ⟨b, off, e, hbN, fun j hj => range_keep12 (hc j hj) fun o => hb.cell (p := ⟨b, o, none⟩) (show b < M by omega)⟩, fun x hx => (h.2 x hx).below hb hN⟩
theorem Pr.more {w : World} {N M : Nat} {A : Option Addr} {l : List Pw} (h : Pr w N A l) (hN : N ≤ M) : Pr w M A l :=
  ⟨fun h0 => by
    obtain ⟨b, off, e, hb, hc⟩ := h.1 h0
    exact ⟨b, off, e, by omega, hc⟩, fun x hx => (h.2 x hx).more hN⟩
theorem Pr.nil (w : World) (N : Nat) (A : Option Addr) : Pr w N A [] := ⟨fun h => absurd h (by simp), fun _ h => by simp at h⟩
theorem Pv.below {w w' : World} {N M : Nat} {v : Value} {l : List Pw} (h : Pv w N v l) (hb : Below M w w') (hN : N ≤ M := by exact Nat.le_refl _) : Pv w' N v l := by
  obtain ⟨A, c, h1, h2, h3, h4⟩ := h
  exact ⟨A, c, h1, h2, h3, h4.below hb hN⟩
theorem Pv.more {w : World} {N M : Nat} {v : Value} {l : List Pw} (h : Pv w N v l) (hN : N ≤ M) : Pv w M v l := by
  obtain ⟨A, c, h1, h2, h3, h4⟩ := h
  exact ⟨A, c, h1, h2, h3, h4.more hN⟩
/-- The one at k. -/
theorem Pr.at_ {w : World} {N : Nat} {A : Option Addr} {l : List Pw} (h : Pr w N A l) (k : Nat) (hk : k < l.length) :
    ∃ b off x, A = some ⟨b, off, none⟩ ∧ b < N ∧ l[k]? = some x ∧ w.rangeAt b (off + k * 2) [.string x.pe.el, .slice x.A x.pe.at_.length x.c] ∧ Sx w N x ∧ x ∈ l := by
  obtain ⟨b, off, e, hb, hc⟩ := h.1 (by omega)
  exact ⟨b, off, l[k], e, hb, List.getElem?_eq_getElem hk, hc k hk, h.2 _ (List.getElem_mem _), List.getElem_mem _⟩
theorem info_per : (Try.prog.info? 52).map (fun i => (i.zero, i.size, i.bytes)) = some (some (.agg #[.string .empty, .slice none 0 0]), 2, 40) := by kernel_rfl
theorem range2p {w : World} {b o : Nat} {v0 v1 : Value} (h : w.rangeAt b o [v0, v1]) : w.cell? ⟨b, o, none⟩ = some v0 ∧ w.cell? ⟨b, o + 1, none⟩ = some v1 := ⟨h 0 _ rfl, h 1 _ rfl⟩

/-! ### A configuration -/
abbrev confV (c : Cf) (vE vR vA vP : Value) : Value := .agg #[.bool c.allow, .bool c.attrsAllow, vE, vR, vA, vP, .bool c.comments, .bool c.dataAttrs]
abbrev confO (c : Cf) (vE vR vA vP : Value) : Obj := .cells #[.bool c.allow, .bool c.attrsAllow, vE, vR, vA, vP, .bool c.comments, .bool c.dataAttrs] 26
theorem size_conf : (Try.prog.info? 26).map (·.size) = some 8 := by kernel_rfl
/-- Its parts. -/
structure Cp (w : World) (N : Nat) (c : Cf) (vE vR vA vP : Value) (l : List Pw) : Prop where
  e : Sv w N vE c.els
  r : Sv w N vR c.reps
  a : Sv w N vA c.ats
  p : Pv w N vP l
  m : pes l = c.per
def Cv (w : World) (N : Nat) (v : Value) (c : Cf) : Prop := ∃ vE vR vA vP l, v = confV c vE vR vA vP ∧ Cp w N c vE vR vA vP l
theorem Cp.below {w w' : World} {N M : Nat} {c : Cf} {vE vR vA vP : Value} {l : List Pw} (h : Cp w N c vE vR vA vP l) (hb : Below M w w') (hN : N ≤ M := by exact Nat.le_refl _) : Cp w' N c vE vR vA vP l := ⟨h.e.below hb hN, h.r.below hb hN, h.a.below hb hN, h.p.below hb hN, h.m⟩
theorem Cp.more {w : World} {N M : Nat} {c : Cf} {vE vR vA vP : Value} {l : List Pw} (h : Cp w N c vE vR vA vP l) (hN : N ≤ M) : Cp w M c vE vR vA vP l := ⟨h.e.more hN, h.r.more hN, h.a.more hN, h.p.more hN, h.m⟩
theorem Cp.on {w w' : World} {c : Cf} {vE vR vA vP : Value} {l : List Pw} (h : Cp w w.heap.size c vE vR vA vP l) (hb : Below w.heap.size w w') : Cp w' w'.heap.size c vE vR vA vP l := (h.below hb).more hb.size
theorem Cv.below {w w' : World} {N M : Nat} {v : Value} {c : Cf} (h : Cv w N v c) (hb : Below M w w') (hN : N ≤ M := by exact Nat.le_refl _) : Cv w' N v c := by
  obtain ⟨vE, vR, vA, vP, l, e, h⟩ := h
  exact ⟨vE, vR, vA, vP, l, e, h.below hb hN⟩
theorem Cv.more {w : World} {N M : Nat} {v : Value} {c : Cf} (h : Cv w N v c) (hN : N ≤ M) : Cv w M v c := by
  obtain ⟨vE, vR, vA, vP, l, e, h⟩ := h
  exact ⟨vE, vR, vA, vP, l, e, h.more hN⟩
theorem Cv.on {w w' : World} {v : Value} {c : Cf} (h : Cv w w.heap.size v c) (hb : Below w.heap.size w w') : Cv w' w'.heap.size v c := (h.below hb).more hb.size
theorem sv_on {w w' : World} {v : Value} {l : List ByteArray} (h : Sv w w.heap.size v l) (hb : Below w.heap.size w w') : Sv w' w'.heap.size v l := (Sv.below h hb (Nat.le_refl _)).more hb.size
theorem Pv.on {w w' : World} {v : Value} {l : List Pw} (h : Pv w w.heap.size v l) (hb : Below w.heap.size w w') : Pv w' w'.heap.size v l := (h.below hb).more hb.size
/-- A box that holds it. -/
def Bx (w : World) (b : Nat) (c : Cf) (vE vR vA vP : Value) : Prop := w.rangeAt b 0 [.bool c.allow, .bool c.attrsAllow, vE, vR, vA, vP, .bool c.comments, .bool c.dataAttrs]
theorem Bx.new (w : World) (c : Cf) (vE vR vA vP : Value) : Bx (w.alloc (confO c vE vR vA vP)) w.heap.size c vE vR vA vP := fun j v hv => by
  rw [Nat.zero_add, World.cell?_alloc_mark]
  match j, hv with
  | 0, hv | 1, hv | 2, hv | 3, hv | 4, hv | 5, hv | 6, hv | 7, hv => exact hv
  | j + 8, hv => simp at hv
theorem Bx.below {w w' : World} {b M : Nat} {c : Cf} {vE vR vA vP : Value} (h : Bx w b c vE vR vA vP) (hb : Below M w w') (hM : b < M) : Bx w' b c vE vR vA vP := range_keep12 h fun o => hb.cell (p := ⟨b, o, none⟩) hM
theorem Bx.at_ {w : World} {b : Nat} {c : Cf} {vE vR vA vP : Value} (h : Bx w b c vE vR vA vP) :
    w.cell? ⟨b, 0, none⟩ = some (.bool c.allow) ∧ w.cell? ⟨b, 1, none⟩ = some (.bool c.attrsAllow) ∧ w.cell? ⟨b, 2, none⟩ = some vE ∧ w.cell? ⟨b, 3, none⟩ = some vR ∧ w.cell? ⟨b, 4, none⟩ = some vA ∧ w.cell? ⟨b, 5, none⟩ = some vP ∧ w.cell? ⟨b, 6, none⟩ = some (.bool c.comments) ∧ w.cell? ⟨b, 7, none⟩ = some (.bool c.dataAttrs) :=
  ⟨h 0 _ rfl, h 1 _ rfl, h 2 _ rfl, h 3 _ rfl, h 4 _ rfl, h 5 _ rfl, h 6 _ rfl, h 7 _ rfl⟩
theorem below_new12 (w : World) (o : Obj) : Below w.heap.size w (w.alloc o) := (Below.refl _ _).alloc (Nat.le_refl _) _
theorem bel_eq12 {w w1 w2 : World} {n : Nat} (h : Below n w w1) (he : w2.heap = w1.heap) (ho : w2.os = w1.os) (ht : w2.tape = w1.tape) (hp : w2.output = w1.output) : Below n w w2 := ⟨ho.trans h.os, ht.trans h.tape, hp.trans h.output, by rw [he]; exact h.size, fun b hb => by rw [he]; exact h.block b hb⟩
/-- A block that holds a configuration. -/
def Hb (w : World) (g : Nat) (cs : Array Value) : Prop := w.heap[g]? = some (.cells cs 26)
theorem gcell12 (w : World) (b j : Nat) (u : Value) : w.grownBy (w.setCell ⟨b, j, none⟩ u) (some b) :=
  ⟨rfl, rfl, rfl, by simp [World.setCell], fun k _ hk => Below.heap_setCell _ _ _ _ (fun e => hk (by simp [e]))⟩
theorem gcells12 (b : Nat) : ∀ (vs : List Value) (o : Nat) (w : World), w.grownBy (w.setCells b o vs) (some b)
  | [], _, w => World.grownBy.refl w _
  | v :: r, o, w => (gcell12 w b o v).trans (gcells12 b r (o + 1) _)
theorem Hb.new (w : World) (cs : Array Value) : Hb (w.alloc (.cells cs 26)) w.heap.size cs := heap_alloc_new w _
theorem Hb.keep {w w' : World} {g : Nat} {cs : Array Value} (h : Hb w g cs) (hb : w'.heap[g]? = w.heap[g]?) : Hb w' g cs := hb.trans h
theorem Hb.lt {w : World} {g : Nat} {cs : Array Value} (h : Hb w g cs) : g < w.heap.size := (Array.getElem?_eq_some_iff.1 h).1
theorem Hb.below {w w' : World} {g M : Nat} {cs : Array Value} (h : Hb w g cs) (hb : Below M w w') (hM : g < M) : Hb w' g cs := h.keep (hb.block g hM)
theorem Hb.on {w w' : World} {g : Nat} {cs : Array Value} (h : Hb w g cs) (hb : Below w.heap.size w w') : Hb w' g cs := h.below hb h.lt
theorem Hb.set {w : World} {g : Nat} {cs : Array Value} (h : Hb w g cs) (j : Nat) (u : Value) (hj : j < cs.size := by simp) : Hb (w.setCell ⟨g, j, none⟩ u) g (cs.set j u hj) := by
  unfold Hb at h ⊢
  simp [World.setCell, Array.getElem?_modify, h, Array.setIfInBounds, hj]
theorem Hb.cell {w : World} {g : Nat} {cs : Array Value} (h : Hb w g cs) (j : Nat) (u : Value) (hu : cs[j]? = some u) : w.cell? ⟨g, j, none⟩ = some u := by
  rw [cell_of_row w g j _ _ _ h]
  exact hu
theorem Hb.f {w : World} {g : Nat} {cs : Array Value} (h : Hb w g cs) (j : Nat) : w.frozen? ⟨g, j, none⟩ = false := by
  unfold Hb at h
  simp [World.frozen?, h]
theorem Hb.there {w : World} {g : Nat} {cs : Array Value} (h : Hb w g cs) (n : Nat) (hn : n = cs.size) : w.there g 0 n := fun j hj => by
  rw [Nat.zero_add]
  exact ⟨by rw [h.cell j _ (Array.getElem?_eq_getElem (hn ▸ hj))]; rfl, h.f j⟩
theorem Hb.range {w : World} {g : Nat} {cs : Array Value} (h : Hb w g cs) : w.rangeAt g 0 cs.toList := fun j u hu => by
  rw [Nat.zero_add]
  exact h.cell j u (by rwa [Array.getElem?_toList] at hu)
/-- How much there may be. -/
structure Sm (c : Cf) : Prop where
  e : c.els.length ≤ 1000
  r : c.reps.length ≤ 1000
  a : c.ats.length ≤ 1000
  p : c.per.length ≤ 1000
  pa : ∀ p ∈ c.per, p.at_.length ≤ 1000
  es : ∀ s ∈ c.els, s.size ≤ 140737488355328
  rs : ∀ s ∈ c.reps, s.size ≤ 140737488355328
  as_ : ∀ s ∈ c.ats, s.size ≤ 140737488355328
  ps : ∀ p ∈ c.per, p.el.size ≤ 140737488355328 ∧ ∀ s ∈ p.at_, s.size ≤ 140737488355328

end Go.Proofs.Ytdjkeakagmgfgaa.Co
