/-
  Stage 5: facts about the lists: what stands in one is right, in one of four alone; what closes does not wall; great letters stand in none; names together and cut.
-/
import Derived.Test.YtjhhhlomkfnniaaDoorNamesOwn
import Derived.Test.YtjhhhlomkfnniaaDoorSv
namespace Go.Proofs.YtjhhhlomkfnniaaDoor.Nm
set_option linter.unusedSimpArgs false
set_option linter.unusedVariables false
open Go.RowKit Ba Fm Fo

theorem of_all {α : Type} {l : List α} {p : α → Bool} (h : l.all p = true) {x : α} (hx : x ∈ l) : p x = true := List.all_eq_true.1 h x hx
theorem void_all : (voidL.all fun x => !isIn x rawL && !isIn x softL && !isIn x goneL && rightB x) = true := by kernel_rfl
theorem raw_all : (rawL.all fun x => !isIn x voidL && !isIn x softL && !isIn x goneL && rightB x) = true := by kernel_rfl
theorem soft_all : (softL.all fun x => !isIn x voidL && !isIn x rawL && !isIn x goneL && rightB x) = true := by kernel_rfl
theorem gone_all : (goneL.all fun x => !isIn x voidL && !isIn x rawL && !isIn x softL && rightB x) = true := by kernel_rfl
theorem block_all : (blockL.all rightB) = true := by kernel_rfl

theorem not_of {b : Bool} (h : (!b) = true) : b = false := by cases b <;> simp_all
/-- A name is one of the four at most; then it is right. -/
theorem kinds (s : ByteArray) : (isIn s voidL = false ∧ isIn s rawL = false ∧ isIn s softL = false ∧ isIn s goneL = false) ∨
    (rightB s = true ∧ ((isIn s voidL = true ∧ isIn s rawL = false ∧ isIn s softL = false ∧ isIn s goneL = false) ∨ (isIn s voidL = false ∧ isIn s rawL = true ∧ isIn s softL = false ∧ isIn s goneL = false) ∨
      (isIn s voidL = false ∧ isIn s rawL = false ∧ isIn s softL = true ∧ isIn s goneL = false) ∨ (isIn s voidL = false ∧ isIn s rawL = false ∧ isIn s softL = false ∧ isIn s goneL = true))) := by
  cases h1 : isIn s voidL with
  | true =>
    have := of_all void_all (isIn_of h1)
    simp only [Bool.and_eq_true] at this
    obtain ⟨⟨⟨a, b⟩, c⟩, d⟩ := this
    exact .inr ⟨d, .inl ⟨rfl, not_of a, not_of b, not_of c⟩⟩
  | false =>
  cases h2 : isIn s rawL with
  | true =>
    have := of_all raw_all (isIn_of h2)
    simp only [Bool.and_eq_true] at this
    obtain ⟨⟨⟨a, b⟩, c⟩, d⟩ := this
    exact .inr ⟨d, .inr (.inl ⟨rfl, rfl, not_of b, not_of c⟩)⟩
  | false =>
  cases h3 : isIn s softL with
  | true =>
    have := of_all soft_all (isIn_of h3)
    simp only [Bool.and_eq_true] at this
    obtain ⟨⟨⟨a, b⟩, c⟩, d⟩ := this
    exact .inr ⟨d, .inr (.inr (.inl ⟨rfl, rfl, rfl, not_of c⟩))⟩
  | false =>
  cases h4 : isIn s goneL with
  | true =>
    have := of_all gone_all (isIn_of h4)
    simp only [Bool.and_eq_true] at this
    exact .inr ⟨this.2, .inr (.inr (.inr ⟨rfl, rfl, rfl, rfl⟩))⟩
  | false => exact .inl ⟨rfl, rfl, rfl, rfl⟩
theorem block_right {s : ByteArray} (h : isIn s blockL = true) : rightB s = true := of_all block_all (isIn_of h)

/-- All that Closes and Walls may be, together. -/
abbrev pairsL : List (List ByteArray × List ByteArray) :=
  [([n_li], [n_menu, n_ol, n_template, n_ul]), ([n_dd, n_dt], [n_dl, n_template]), ([n_option], [n_select, n_template]), ([n_optgroup, n_option], [n_select, n_template]), ([n_td, n_th, n_tr], [n_table, n_template]), ([n_td, n_th], [n_table, n_template]),
   (tableL, [n_table, n_template]), ([n_p], [n_button, n_caption, n_table, n_td, n_template, n_th]), ([], [n_button, n_caption, n_table, n_td, n_template, n_th])]
theorem pair_mem (s : ByteArray) : (closesL s, wallsL s) ∈ pairsL := by
  by_cases h0 : s = n_li
  · obtain ⟨_, e1, e2, _⟩ := own_li h0; rw [e1, e2]; simp
  by_cases h1 : s = n_dd
  · obtain ⟨_, e1, e2, _⟩ := own_dd h1; rw [e1, e2]; simp
  by_cases h2 : s = n_dt
  · obtain ⟨_, e1, e2, _⟩ := own_dt h2; rw [e1, e2]; simp
  by_cases h3 : s = n_option
  · obtain ⟨_, e1, e2, _⟩ := own_option h3; rw [e1, e2]; simp
  by_cases h4 : s = n_optgroup
  · obtain ⟨_, e1, e2, _⟩ := own_optgroup h4; rw [e1, e2]; simp
  by_cases h5 : s = n_tr
  · obtain ⟨_, e1, e2, _⟩ := own_tr h5; rw [e1, e2]; simp
  by_cases h6 : s = n_td
  · obtain ⟨_, e1, e2, _⟩ := own_td h6; rw [e1, e2]; simp
  by_cases h7 : s = n_th
  · obtain ⟨_, e1, e2, _⟩ := own_th h7; rw [e1, e2]; simp
  by_cases h8 : s = n_tbody
  · obtain ⟨_, e1, e2, _⟩ := own_tbody h8; rw [e1, e2]; simp
  by_cases h9 : s = n_tfoot
  · obtain ⟨_, e1, e2, _⟩ := own_tfoot h9; rw [e1, e2]; simp
  by_cases h10 : s = n_thead
  · obtain ⟨_, e1, e2, _⟩ := own_thead h10; rw [e1, e2]; simp
  obtain ⟨_, e1, e2, _⟩ := own_none h0 h1 h2 h3 h4 h5 h6 h7 h8 h9 h10
  rw [e1, e2]
  split <;> simp
theorem pairs_all : (pairsL.all fun p => (p.1 ++ p.2).all (fun x => rightB x && decide (x.size ≤ 100)) && p.1.all (fun x => !isIn x p.2) && isIn n_template p.2 && decide (p.1.length ≤ 6) && decide (p.2.length ≤ 6)) = true := by kernel_rfl
theorem pairs_asc : ∀ p ∈ pairsL, List.Pairwise (fun a b => lt a b = true) p.1 ∧ List.Pairwise (fun a b => lt a b = true) p.2 := by decide +kernel

theorem pair_facts (s : ByteArray) : (∀ x ∈ closesL s ++ wallsL s, rightB x = true ∧ x.size ≤ 100) ∧ (∀ x ∈ closesL s, isIn x (wallsL s) = false) ∧ isIn n_template (wallsL s) = true ∧ (closesL s).length ≤ 6 ∧ (wallsL s).length ≤ 6 := by
  have h := of_all pairs_all (pair_mem s)
  simp only [Bool.and_eq_true, List.all_eq_true, decide_eq_true_eq] at h
  obtain ⟨⟨⟨⟨h1, h2⟩, h3⟩, h4⟩, h5⟩ := h
  exact ⟨h1, fun x hx => not_of (h2 x hx), h3, h4, h5⟩
theorem pair_asc (s : ByteArray) : Asc lt (closesL s) ∧ Asc lt (wallsL s) := pairs_asc _ (pair_mem s)

theorem el_of_right {s : ByteArray} (h : rightB s = true) : ∀ c ∈ L s, elB c = true := by
  unfold rightB at h
  intro c hc
  cases hl : L s with
  | nil => rw [hl] at hc; simp at hc
  | cons d r =>
    rw [hl] at h hc
    have h2 : (small d && (d :: r).all elB) = true := h
    rw [Bool.and_eq_true] at h2
    exact of_all h2.2 hc
theorem at_of_attr {s : ByteArray} (h : attrB s = true) : ∀ c ∈ L s, atB c = true := by
  unfold attrB at h
  intro c hc
  cases hl : L s with
  | nil => rw [hl] at hc; simp at hc
  | cons d r =>
    rw [hl] at h hc
    exact of_all (show (d :: r).all atB = true from h) hc
theorem el_upper {c : UInt8} (h1 : 65 ≤ c) (h2 : c ≤ 90) : elB c = false := by
  unfold elB
  have e1 : decide ((65 : UInt8) ≤ c) = true := decide_eq_true h1
  have e2 : decide (c ≤ 90) = true := decide_eq_true h2
  rw [e1, e2]
  cases sp c <;> rfl
theorem el_of_at {c : UInt8} (h : atB c = true) : elB c = true := by
  unfold atB at h
  rw [Bool.and_eq_true] at h
  exact h.1
/-- A name with a great letter stands in no list. -/
theorem upper {s : ByteArray} {c : UInt8} (hc : c ∈ L s) (h1 : 65 ≤ c) (h2 : c ≤ 90) : isIn s voidL = false ∧ isIn s rawL = false ∧ isIn s softL = false ∧ isIn s blockL = false ∧ isIn s goneL = false ∧ rightB s = false ∧ attrB s = false := by
  have hr : ¬ rightB s = true := fun h => by
    have := el_of_right h c hc
    rw [el_upper h1 h2] at this
    cases this
  have ha : attrB s = false := by
    cases h : attrB s with
    | false => rfl
    | true =>
      have := el_of_at (at_of_attr h c hc)
      rw [el_upper h1 h2] at this
      cases this
  have hb : isIn s blockL = false := by
    cases h : isIn s blockL with
    | false => rfl
    | true => exact absurd (block_right h) hr
  rcases kinds s with ⟨a, b, c, d⟩ | ⟨h, _⟩
  · exact ⟨a, b, c, hb, d, by cases h : rightB s with | false => rfl | true => exact absurd h hr, ha⟩
  · exact absurd h hr

theorem attr_append {a b : ByteArray} (ha : attrB a = true) (hb : attrB b = true) : attrB (a ++ b) = true := by
  have h1 := at_of_attr ha
  have h2 := at_of_attr hb
  unfold attrB at ha ⊢
  rw [L_append]
  cases hl : L a with
  | nil => rw [hl] at ha; cases ha
  | cons d r =>
    show (d :: (r ++ L b)).all atB = true
    rw [← List.cons_append, ← hl]
    exact List.all_eq_true.2 fun x hx => by
      rcases List.mem_append.1 hx with h | h
      · exact h1 x h
      · exact h2 x h
theorem right_append {a b : ByteArray} (ha : rightB a = true) (hb : attrB b = true) : rightB (a ++ b) = true := by
  have h1 := el_of_right ha
  have h2 := at_of_attr hb
  unfold rightB at ha ⊢
  rw [L_append]
  cases hl : L a with
  | nil => rw [hl] at ha; cases ha
  | cons d r =>
    rw [hl] at ha
    have h3 : (small d && (d :: r).all elB) = true := ha
    rw [Bool.and_eq_true] at h3
    show (small d && (d :: (r ++ L b)).all elB) = true
    rw [h3.1, ← List.cons_append, ← hl, Bool.true_and]
    exact List.all_eq_true.2 fun x hx => by
      rcases List.mem_append.1 hx with h | h
      · exact h1 x h
      · exact el_of_at (h2 x h)
theorem attr_cut {a : ByteArray} (ha : attrB a = true) (k : Nat) (hk : 0 < k) : attrB (a.extract 0 k) = true := by
  have h1 := at_of_attr ha
  unfold attrB at ha ⊢
  rw [L_extract, List.drop_zero, Nat.sub_zero]
  cases hl : L a with
  | nil => rw [hl] at ha; cases ha
  | cons d r =>
    cases k with
    | zero => omega
    | succ k =>
      show (d :: r.take k).all atB = true
      exact List.all_eq_true.2 fun x hx => h1 x (by
        rw [hl]
        rcases List.mem_cons.1 hx with h | h
        · exact List.mem_cons.2 (.inl h)
        · exact List.mem_cons.2 (.inr (List.mem_of_mem_take h)))
theorem right_cut {a : ByteArray} (ha : rightB a = true) (k : Nat) (hk : 0 < k) : rightB (a.extract 0 k) = true := by
  have h1 := el_of_right ha
  unfold rightB at ha ⊢
  rw [L_extract, List.drop_zero, Nat.sub_zero]
  cases hl : L a with
  | nil => rw [hl] at ha; cases ha
  | cons d r =>
    rw [hl] at ha
    have h3 : (small d && (d :: r).all elB) = true := ha
    rw [Bool.and_eq_true] at h3
    cases k with
    | zero => omega
    | succ k =>
      show (small d && (d :: r.take k).all elB) = true
      rw [h3.1, Bool.true_and]
      exact List.all_eq_true.2 fun x hx => h1 x (by
        rw [hl]
        rcases List.mem_cons.1 hx with h | h
        · exact List.mem_cons.2 (.inl h)
        · exact List.mem_cons.2 (.inr (List.mem_of_mem_take h)))

end Go.Proofs.YtjhhhlomkfnniaaDoor.Nm
