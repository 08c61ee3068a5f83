/-
  Stage 4, plain: texts joined: right rows stay right, the same text, joined again they stay.
-/
import Derived.Test.YtblefklfgaohfaaRowLawsC
namespace Go.Proofs.Ytblefklfgaohfaa.Ro
set_option linter.unusedVariables false
set_option linter.unusedSimpArgs false
open Go.RowKit Ba

theorem right_mono {m k : Int} (h : m ≤ k) : ∀ {l : List Ro}, rightFrom m l = true → rightFrom k l = true
  | [], _ => rfl
  | x :: r, hr => by
    rw [rightFrom] at hr ⊢
    simp only [Bool.and_eq_true, decide_eq_true_eq] at hr ⊢
    exact ⟨⟨⟨hr.1.1.1, by omega⟩, hr.1.2⟩, hr.2⟩

theorem ok_text (d : Int) (t : List UInt8) : okRow ⟨d, 1, .empty, B t, []⟩ = true := by
  have e : ByteArray.empty.toList.isEmpty = true := by kernel_rfl
  show (if ((1 : Int) == 0) = true then _ else ((1 : Int) == 1 || (1 : Int) == 2) && ByteArray.empty.toList.isEmpty && ((0 : Nat) : Int) == 0) = true
  rw [if_neg (by decide), e]
  rfl

/-- What group follows a text. -/
theorem group {x : Ro} {r : List Ro} {m : Int} (h : rightFrom m (x :: r) = true) (hk : x.kind = 1) :
    0 ≤ x.depth ∧ x.depth ≤ m ∧ okRow x = true ∧ rightFrom x.depth (r.drop (nexts x.depth r)) = true ∧ (∀ z, (r.drop (nexts x.depth r)).head? = some z → z.kind = 1 → z.depth < x.depth) ∧ (∀ y ∈ r.take (nexts x.depth r), y.kind = 1 ∧ y.depth = x.depth) := by
  rw [rightFrom] at h
  simp only [Bool.and_eq_true, decide_eq_true_eq] at h
  have h2 := h.2
  rw [if_neg (by rw [hk]; decide)] at h2
  obtain ⟨k, hkk⟩ : ∃ k, nexts x.depth r = k := ⟨_, rfl⟩
  rw [hkk]
  have htk : ∀ y ∈ r.take k, y.kind = 1 ∧ y.depth = x.depth := fun y hy => by
    rw [← hkk] at hy
    have := takes _ r y hy
    simpa using this
  have hst : ∀ z, (r.drop k).head? = some z → z.kind = 1 → z.depth ≠ x.depth := fun z hz e1 e2 => by
    rw [← hkk] at hz
    have := stops _ r z hz
    simp [e1, e2] at this
  have hrd := right_same x.depth k r h2 htk
  refine ⟨h.1.1.1, h.1.1.2, h.1.2, hrd, fun z hz e => ?_, htk⟩
  have h1 := hst z hz e
  have h3 : z.depth ≤ x.depth := by
    cases hdk : r.drop k with
    | nil => rw [hdk] at hz; simp at hz
    | cons a t =>
      rw [hdk] at hz hrd
      obtain rfl : a = z := by simpa using hz
      rw [rightFrom] at hrd
      simp only [Bool.and_eq_true, decide_eq_true_eq] at hrd
      exact hrd.1.1.2
  omega

theorem right_normal : ∀ (n : Nat) (l : List Ro) (m : Int), l.length ≤ n → rightFrom m l = true → rightFrom m (normal l) = true
  | _, [], _, _, _ => by rw [normal_nil]; rfl
  | 0, _ :: _, _, h, _ => absurd h (by simp)
  | n + 1, x :: r, m, hn, hr => by
    rw [List.length_cons] at hn
    by_cases hk : x.kind = 1
    · obtain ⟨h0, h1, h2, h3, _, _⟩ := group hr hk
      have ih := right_normal n (r.drop (nexts x.depth r)) x.depth (by rw [List.length_drop]; omega) h3
      rw [normal_text hk]
      split
      · rw [List.nil_append]; exact right_mono h1 ih
      · rw [List.singleton_append, rightFrom]
        simp only [Bool.and_eq_true, decide_eq_true_eq]
        exact ⟨⟨⟨h0, h1⟩, ok_text _ _⟩, by rw [if_neg (by decide)]; exact ih⟩
    · rw [normal_other hk]
      rw [rightFrom] at hr ⊢
      simp only [Bool.and_eq_true] at hr ⊢
      exact ⟨hr.1, right_normal n r _ (by omega) hr.2⟩

theorem txt_normal : ∀ (n : Nat) (l : List Ro), l.length ≤ n → txt (normal l) = txt l
  | _, [], _ => by rw [normal_nil]
  | 0, _ :: _, h => absurd h (by simp)
  | n + 1, x :: r, hn => by
    rw [List.length_cons] at hn
    by_cases hk : x.kind = 1
    · rw [normal_text hk, txt_append, txt_normal n (r.drop (nexts x.depth r)) (by rw [List.length_drop]; omega)]
      have e : x :: r = (x :: r.take (nexts x.depth r)) ++ r.drop (nexts x.depth r) := by rw [List.cons_append, List.take_append_drop]
      rw [e, txt_append]
      congr 1
      split
      · rename_i h; rw [← e] at *; rw [h]; rfl
      · rw [txt_text rfl, L_B]
    · rw [normal_other hk, txt, txt, txt_normal n r (by omega)]

/-- Texts are not empty, and no two stand side by side at one depth. -/
def Nrm : List Ro → Prop
  | [] => True
  | x :: r => (x.kind = 1 → x.data.toList ≠ [] ∧ ∀ z, r.head? = some z → z.kind = 1 → z.depth ≠ x.depth) ∧ Nrm r
/-- The first row of the joined ones, if a text, is no deeper than the first text. -/
theorem head_normal : ∀ (n : Nat) (l : List Ro) (m : Int), l.length ≤ n → rightFrom m l = true → ∀ z, (normal l).head? = some z → z.depth ≤ m
  | _, l, m, hn, hr, z, hz => by
    have h := right_normal l.length l m (Nat.le_refl _) hr
    cases hl : normal l with
    | nil => rw [hl] at hz; simp at hz
    | cons y r =>
      rw [hl] at hz h
      obtain rfl : y = z := by simpa using hz
      rw [rightFrom] at h
      simp only [Bool.and_eq_true, decide_eq_true_eq] at h
      exact h.1.1.2
theorem head_text : ∀ (n : Nat) (l : List Ro) (m : Int), l.length ≤ n → rightFrom m l = true → (∀ z, l.head? = some z → z.kind = 1 → z.depth < m) → ∀ z, (normal l).head? = some z → z.kind = 1 → z.depth < m
  | _, [], _, _, _, _, z, hz, _ => by rw [normal_nil] at hz; simp at hz
  | 0, _ :: _, _, h, _, _, _, _, _ => absurd h (by simp)
  | n + 1, x :: r, m, hn, hr, hh, z, hz, hzk => by
    rw [List.length_cons] at hn
    by_cases hk : x.kind = 1
    · have hx := hh x rfl hk
      obtain ⟨h0, h1, h2, h3, h4, _⟩ := group hr hk
      rw [normal_text hk] at hz
      split at hz
      · rw [List.nil_append] at hz
        have := head_text n (r.drop (nexts x.depth r)) x.depth (by rw [List.length_drop]; omega) h3 h4 z hz hzk
        omega
      · rw [List.singleton_append] at hz
        obtain rfl := Option.some.inj hz
        exact hx
    · rw [normal_other hk] at hz
      obtain rfl : x = z := by simpa using hz
      exact absurd hzk hk
theorem nrm_normal : ∀ (n : Nat) (l : List Ro) (m : Int), l.length ≤ n → rightFrom m l = true → Nrm (normal l)
  | _, [], _, _, _ => by rw [normal_nil]; trivial
  | 0, _ :: _, _, h, _ => absurd h (by simp)
  | n + 1, x :: r, m, hn, hr => by
    rw [List.length_cons] at hn
    by_cases hk : x.kind = 1
    · obtain ⟨h0, h1, h2, h3, h4, _⟩ := group hr hk
      have hl : (r.drop (nexts x.depth r)).length ≤ n := by rw [List.length_drop]; omega
      have ih := nrm_normal n (r.drop (nexts x.depth r)) x.depth hl h3
      rw [normal_text hk]
      split
      · rw [List.nil_append]; exact ih
      · rename_i ht
        rw [List.singleton_append]
        refine ⟨fun _ => ⟨?_, fun z hz hzk => ?_⟩, ih⟩
        · rw [toList_B]; exact ht
        · have := head_text n (r.drop (nexts x.depth r)) x.depth hl h3 h4 z hz hzk
          exact fun e => by rw [e] at this; exact absurd this (Int.lt_irrefl _)
    · rw [normal_other hk]
      rw [rightFrom] at hr
      simp only [Bool.and_eq_true] at hr
      exact ⟨fun e => absurd e hk, nrm_normal n r _ (by omega) hr.2⟩
theorem normal_nrm : ∀ (l : List Ro) (m : Int), rightFrom m l = true → Nrm l → normal l = l
  | [], _, _, _ => normal_nil
  | x :: r, m, hr, h => by
    have hr' := hr
    rw [rightFrom] at hr'
    simp only [Bool.and_eq_true] at hr'
    by_cases hk : x.kind = 1
    · obtain ⟨h1, h2⟩ := h.1 hk
      have hn : nexts x.depth r = 0 := by
        cases r with
        | nil => rfl
        | cons y t =>
          unfold nexts
          rw [List.takeWhile_cons, if_neg]
          · rfl
          · intro e
            simp only [Bool.and_eq_true, beq_iff_eq] at e
            exact h2 y rfl e.1 e.2
      have hx := text_form hr'.1.2 hk
      rw [normal_text hk, hn, List.take_zero, List.drop_zero, normal_nrm r _ hr'.2 h.2, txt_text hk, if_neg (by rw [← toList_L]; exact h1), List.singleton_append, B_L, ← hx]
    · rw [normal_other hk, normal_nrm r _ hr'.2 h.2]
theorem nrm_at : ∀ {l : List Ro}, Nrm l → ∀ (k : Nat) (h : k < l.length), l[k].kind = 1 → l[k].data.toList ≠ [] ∧ ∀ (h2 : k + 1 < l.length), l[k + 1].kind = 1 → l[k + 1].depth ≠ l[k].depth
  | [], _, k, h, _ => absurd h (by simp)
  | x :: r, hn, 0, h, hk => by
    obtain ⟨h1, h2⟩ := hn.1 hk
    refine ⟨h1, fun h3 h4 => ?_⟩
    have h5 : 0 < r.length := by rw [List.length_cons] at h3; omega
    exact h2 r[0] (by rw [List.head?_eq_getElem?, List.getElem?_eq_getElem h5]) h4
  | x :: r, hn, k + 1, h, hk => by
    have := nrm_at hn.2 k (by rw [List.length_cons] at h; omega) hk
    exact ⟨this.1, fun h3 h4 => this.2 (by rw [List.length_cons] at h3; omega) h4⟩

theorem check_parts {l : List Ro} (h : check l = 0) : exceeds l 4096 60 = false ∧ right l = true := by
  unfold check at h
  split at h
  · cases h
  · rename_i h1
    split at h
    · rename_i h2; exact ⟨by simpa using h1, h2⟩
    · cases h
theorem check_of {l : List Ro} (h1 : exceeds l 4096 60 = false) (h2 : right l = true) : check l = 0 := by
  unfold check; rw [h1, h2]; rfl
theorem exceeds_less {l m : List Ro} (h : exceeds l 4096 60 = false) (h1 : m.length ≤ l.length) (h2 : ∀ y ∈ m, ∃ x ∈ l, y.depth ≤ x.depth) : exceeds m 4096 60 = false := by
  cases he : exceeds m 4096 60 with
  | false => rfl
  | true =>
    have hn : ¬ (exceeds l 4096 60 = true) := by rw [h]; decide
    rw [exceeds_iff] at he hn
    exfalso
    apply hn
    rcases he with he | ⟨y, hy, hd⟩
    · exact .inl (by omega)
    · obtain ⟨x, hx, hxy⟩ := h2 y hy
      exact .inr ⟨x, hx, by omega⟩
theorem check_normal {l : List Ro} (h : check l = 0) : check (normal l) = 0 := by
  obtain ⟨h1, h2⟩ := check_parts h
  obtain ⟨h3, h4⟩ := normal_from l.length l (Nat.le_refl _)
  exact check_of (exceeds_less h1 h3 fun y hy => by obtain ⟨x, hx, e, _⟩ := h4 y hy; exact ⟨x, hx, by omega⟩) (right_normal l.length l 0 (Nat.le_refl _) h2)

theorem few_from : ∀ (n : Nat) (l : List Ro), l.length ≤ n → ∀ y ∈ normal l, y.attrs = [] ∨ y ∈ l
  | _, [], _, y, h => by rw [normal_nil] at h; cases h
  | 0, _ :: _, h, _, _ => absurd h (by simp)
  | n + 1, x :: r, hn, y, hy => by
    rw [List.length_cons] at hn
    by_cases hk : x.kind = 1
    · rw [normal_text hk] at hy
      rcases List.mem_append.1 hy with hy | hy
      · split at hy
        · cases hy
        · obtain rfl := List.mem_singleton.1 hy
          exact .inl rfl
      · rcases few_from n (r.drop (nexts x.depth r)) (by rw [List.length_drop]; omega) y hy with h | h
        · exact .inl h
        · exact .inr (List.mem_cons_of_mem _ (List.mem_of_mem_drop h))
    · rw [normal_other hk] at hy
      rcases List.mem_cons.1 hy with rfl | hy
      · exact .inr List.mem_cons_self
      · rcases few_from n r (by omega) y hy with h | h
        · exact .inl h
        · exact .inr (List.mem_cons_of_mem _ h)
theorem few_normal {l : List Ro} (hf : Few l) {y : Ro} (hy : y ∈ normal l) : y.attrs.length ≤ 1000000 := by
  rcases few_from l.length l (Nat.le_refl _) y hy with h | h
  · rw [h]; simp
  · exact hf y h

end Go.Proofs.Ytblefklfgaohfaa.Ro
