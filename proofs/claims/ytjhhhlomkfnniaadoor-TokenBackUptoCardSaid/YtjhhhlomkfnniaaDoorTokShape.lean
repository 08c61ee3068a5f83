/-
  What each token has, in plain words.
-/
import Derived.Test.YtjhhhlomkfnniaaDoorTokFacts2
namespace Go.Proofs.YtjhhhlomkfnniaaDoor.Tm
set_option linter.unusedVariables false
set_option linter.unusedSimpArgs false
open Ba Fm Rm Nm
open Ro (At)

/-- No great letter, no space, no > . -/
def okB (c : UInt8) : Bool := !((decide (65 ≤ c) && decide (c ≤ 90)) || (c == 32 || c == 9 || c == 10 || c == 12 || c == 13) || c == 62)
def okN (n : List UInt8) : Bool := n.all okB
theorem u8_ext {a b : UInt8} (h : a.toNat = b.toNat) : a = b := UInt8.toNat.inj h
theorem okB_low (c : UInt8) (hs : sp c = false) (h : c ≠ 62) : okB (low c) = true := by
  have e65 : (65 : UInt8).toNat = 65 := rfl
  have e90 : (90 : UInt8).toNat = 90 := rfl
  by_cases hu : 65 ≤ c ∧ c ≤ 90
  · have h1 := UInt8.le_iff_toNat_le.1 hu.1
    have h2 := UInt8.le_iff_toNat_le.1 hu.2
    have hl : (low c).toNat = c.toNat + 32 := by
      unfold low
      rw [if_pos hu, UInt8.toNat_add]
      simp
      omega
    unfold okB
    have n1 : decide (low c ≤ 90) = false := decide_eq_false fun e => by have := UInt8.le_iff_toNat_le.1 e; omega
    have ne : ∀ k : UInt8, k.toNat < 97 → (low c == k) = false := fun k hk => by
      rw [beq_eq_false_iff_ne]
      intro e
      rw [e] at hl
      omega
    rw [n1, ne 32 (by decide), ne 9 (by decide), ne 10 (by decide), ne 12 (by decide), ne 13 (by decide), ne 62 (by decide)]
    simp
  · have hl : low c = c := by unfold low; rw [if_neg hu]
    rw [hl]
    unfold okB
    have hsp : (c == 32 || c == 9 || c == 10 || c == 12 || c == 13) = false := hs
    have hu' : (decide (65 ≤ c) && decide (c ≤ 90)) = false := by
      rw [Bool.and_eq_false_iff]
      by_cases h65 : 65 ≤ c
      · exact .inr (decide_eq_false fun e => hu ⟨h65, e⟩)
      · exact .inl (decide_eq_false h65)
    rw [hsp, hu']
    simp [h]
theorem en_no {c : UInt8} (h : en c = false) : c ≠ 47 ∧ c ≠ 62 ∧ sp c = false := by
  unfold en ev at h
  simp only [Bool.or_eq_false_iff, beq_eq_false_iff_ne] at h
  exact ⟨h.1, h.2.1, h.2.2⟩
theorem lead_mem {q : UInt8 → Bool} : ∀ {l : List UInt8} {c : UInt8}, c ∈ lead (by1 q) l → q c = false
  | [], c, h => by cases h
  | a :: r, c, h => by
    cases ha : by1 q (a :: r) with
    | true => rw [lead_yes ha] at h; cases h
    | false =>
      rw [lead_no ha] at h
      rcases List.mem_cons.1 h with e | e
      · rw [e]; exact ha
      · exact lead_mem e
theorem ok_name (l : List UInt8) : okN (lowL (upTo en l)) = true := by
  unfold okN lowL
  rw [List.all_map, List.all_eq_true]
  intro c hc
  obtain ⟨_, h2, h3⟩ := en_no (lead_mem hc)
  exact okB_low c h3 h2
theorem lr_no {c : UInt8} (h : lr c = true) : en c = false := by
  have e : ∀ k : UInt8, lr k = false → (c == k) = false := fun k hk => by
    rw [beq_eq_false_iff_ne]
    intro e
    rw [e, hk] at h
    cases h
  unfold en ev sp
  rw [e 47 (by decide), e 62 (by decide), e 32 (by decide), e 9 (by decide), e 10 (by decide), e 12 (by decide), e 13 (by decide)]
  rfl
theorem name_some {l : List UInt8} (h : by1 lr l = true) : lowL (upTo en l) ≠ [] := by
  cases l with
  | nil => cases h
  | cons c r =>
    show lowL (lead (by1 en) (c :: r)) ≠ []
    rw [lead_no (show by1 en (c :: r) = false from lr_no h)]
    exact List.cons_ne_nil _ _
theorem ea_no {c : UInt8} (h : ea c = false) : c ≠ 62 ∧ sp c = false := by
  unfold ea at h
  simp only [Bool.or_eq_false_iff] at h
  exact (en_no h.2).2
/-- What an attribute's name is. -/
def okA (a : At) : Prop := a.name ≠ B [] ∧ okN (L a.name) = true
theorem ok_attr {c : UInt8} (r : List UInt8) (h1 : c ≠ 62) (h2 : sp c = false) : okA (attr c r).1 := by
  refine ⟨fun e => ?_, ?_⟩
  · have := B_inj e
    exact absurd this (List.cons_ne_nil _ _)
  · show okN (L (B (lowL (c :: upTo ea r)))) = true
    rw [L_B]
    unfold okN lowL
    rw [List.all_map, List.all_eq_true]
    intro x hx
    rcases List.mem_cons.1 hx with e | e
    · rw [e]; exact okB_low c h2 h1
    · obtain ⟨h3, h4⟩ := ea_no (lead_mem e)
      exact okB_low x h4 h3
def okAs (l : List At) : Prop := (∀ a ∈ l, okA a) ∧ l.Pairwise fun a b => a.name ≠ b.name
theorem ok_put {l : List At} {a : At} (h : okAs l) (ha : okA a) : okAs (put l a) := by
  unfold put
  split
  · exact h
  · rename_i hk
    refine ⟨fun b hb => ?_, ?_⟩
    · rcases List.mem_append.1 hb with e | e
      · exact h.1 b e
      · rw [List.mem_singleton.1 e]; exact ha
    · rw [List.pairwise_append]
      refine ⟨h.2, List.pairwise_singleton _ _, fun b hb c hc e => ?_⟩
      rw [List.mem_singleton.1 hc] at e
      apply hk
      unfold known
      rw [List.any_eq_true]
      exact ⟨b, hb, decide_eq_true e⟩
theorem ok_attrs (l : List UInt8) : ∀ (self : Bool) (acc bs : List At) (sf : Bool) (r : List UInt8), okAs acc → attrs self acc l = some (bs, sf, r) → okAs bs := by
  induction hn : l.length using Nat.strongRecOn generalizing l with
  | ind n ih =>
    intro self acc bs sf r ha h
    subst hn
    cases l with
    | nil => rw [attrs_nil] at h; cases h
    | cons c q =>
      by_cases h1 : c = 62
      · subst h1
        rw [attrs_end] at h
        injection h with h
        injection h with h _
        rw [← h]; exact ha
      · by_cases h2 : c = 47 ∨ sp c = true
        · rw [attrs_skip _ _ _ h1 h2] at h
          exact ih q.length (by simp) q rfl _ _ _ _ _ ha h
        · rw [attrs_attr _ _ _ h1 h2] at h
          have hq := len_attr c q
          have hs : sp c = false := by
            cases e : sp c with
            | true => exact absurd (.inr e) h2
            | false => rfl
          exact ih (attr c q).2.length (by simp only [List.length_cons]; omega) _ rfl _ _ _ _ _ (ok_put ha (ok_attr q h1 hs)) h

/-- What a token of its kind has. -/
def Shape (t : Tk) : Prop :=
  (t.kind = 0 ∧ t.name = B [] ∧ t.data ≠ B [] ∧ t.attrs = [] ∧ t.self = false) ∨
  (t.kind = 1 ∧ t.name ≠ B [] ∧ t.data = B [] ∧ okN (L t.name) = true ∧ okAs t.attrs) ∨
  (t.kind = 2 ∧ t.name ≠ B [] ∧ t.data = B [] ∧ okN (L t.name) = true ∧ t.attrs = [] ∧ t.self = false) ∨
  (t.kind = 3 ∧ t.name = B [] ∧ t.attrs = [] ∧ t.self = false) ∨
  (t.kind = 4 ∧ t.name = B [] ∧ t.attrs = [] ∧ t.self = false)
def Shapes (l : List Tk) : Prop := ∀ t ∈ l, Shape t
theorem shapes_nil : Shapes [] := fun t h => by cases h
theorem shapes_append {a b : List Tk} (ha : Shapes a) (hb : Shapes b) : Shapes (a ++ b) := fun t h => (List.mem_append.1 h).elim (ha t) (hb t)
theorem shapes_one {t : Tk} (h : Shape t) : Shapes [t] := fun x hx => by rw [List.mem_singleton.1 hx]; exact h
theorem shapes_cons {t : Tk} {l : List Tk} (h : Shape t) (hl : Shapes l) : Shapes (t :: l) := shapes_append (a := [t]) (shapes_one h) hl
theorem shape_txt (d : List UInt8) : Shapes (txt d) := by
  unfold txt
  split
  · exact shapes_nil
  · rename_i h
    exact shapes_one (.inl ⟨rfl, rfl, fun e => h (B_inj e), rfl, rfl⟩)
theorem shape_cont (n l : List UInt8) : Shapes (cont n l).1 := by
  unfold cont
  split
  · exact shape_txt _
  · split
    · exact shape_txt _
    · exact shapes_nil
theorem B_ne {l : List UInt8} (h : l ≠ []) : B l ≠ B [] := fun e => h (B_inj e)
theorem shape_start {l : List UInt8} (h : by1 lr l = true) : Shapes (startTag l).1 ∧ Shapes (endTag l).1 := by
  cases ha : attrs false [] (from_ en l) with
  | none => rw [(To.start_no ha).1, (To.start_no ha).2]; exact ⟨shapes_nil, shapes_nil⟩
  | some x =>
    obtain ⟨bs, sf, r⟩ := x
    rw [(To.start_yes ha).1, (To.start_yes ha).2]
    have hn : okN (L (B (lowL (upTo en l)))) = true := by rw [L_B]; exact ok_name l
    have ho := ok_attrs _ _ _ _ _ _ (⟨fun a h => by simp at h, List.Pairwise.nil⟩ : okAs []) ha
    exact ⟨shapes_cons (.inr (.inl ⟨rfl, B_ne (name_some h), rfl, hn, ho⟩)) (shape_cont _ _), shapes_one (.inr (.inr (.inl ⟨rfl, B_ne (name_some h), rfl, hn, rfl, rfl⟩)))⟩
theorem slashed_2 {r : List UInt8} (h : slashed r = 2) : by1 lr r = true := by
  cases r with
  | nil => cases h
  | cons d q =>
    have h : (if lr d = true then 2 else if d = 62 then 3 else 6) = 2 := h
    show lr d = true
    by_cases hd : lr d = true
    · exact hd
    · rw [if_neg hd] at h
      split at h <;> cases h
theorem begun_letter {l : List UInt8} : (begun l = 1 → by1 lr (l.drop 1) = true) ∧ (begun l = 2 → by1 lr (l.drop 2) = true) := by
  match l with
  | [] => exact ⟨fun h => absurd h (by decide), fun h => absurd h (by decide)⟩
  | [a] =>
    have : begun [a] = 0 := by show (if a = 60 then 0 else 0) = 0; split <;> rfl
    rw [this]
    exact ⟨fun h => absurd h (by decide), fun h => absurd h (by decide)⟩
  | a :: c :: r =>
    rw [To.begun_two]
    have hm := (To.marked_ge r).1
    split
    · by_cases hc : lr c = true
      · rw [if_pos hc]
        exact ⟨fun _ => hc, fun h => absurd h (by decide)⟩
      · rw [if_neg hc]
        split
        · refine ⟨fun h => ?_, fun h => slashed_2 h⟩
          rcases To.slashed_cases r with e | ⟨_, e | e | e⟩ <;> omega
        · split
          · exact ⟨fun h => by omega, fun h => by omega⟩
          · split
            · exact ⟨fun h => absurd h (by decide), fun h => absurd h (by decide)⟩
            · exact ⟨fun h => absurd h (by decide), fun h => absurd h (by decide)⟩
    · exact ⟨fun h => absurd h (by decide), fun h => absurd h (by decide)⟩
theorem shape_mk (l : List UInt8) : Shapes (mk l).1 := by
  by_cases h1 : begun l = 1
  · rw [To.mk_1 h1]; exact (shape_start (begun_letter.1 h1)).1
  by_cases h2 : begun l = 2
  · rw [To.mk_2 h2]; exact (shape_start (begun_letter.2 h2)).2
  by_cases h3 : begun l = 3
  · rw [To.mk_3 h3]; exact shapes_nil
  by_cases h4 : begun l = 4
  · rw [To.mk_4 h4]; exact shapes_one (.inr (.inr (.inr (.inl ⟨rfl, rfl, rfl, rfl⟩))))
  by_cases h5 : begun l = 5
  · rw [To.mk_5 h5]; exact shapes_one (.inr (.inr (.inr (.inr ⟨rfl, rfl, rfl, rfl⟩))))
  by_cases h6 : begun l = 6
  · rw [To.mk_6 h6]; exact shapes_one (.inr (.inr (.inr (.inl ⟨rfl, rfl, rfl, rfl⟩))))
  · rw [To.mk_0 h1 h2 h3 h4 h5 h6]; exact shapes_nil
theorem shape_cut (l : List UInt8) : Shapes (cut l) := by
  induction hn : l.length using Nat.strongRecOn generalizing l with
  | ind n ih =>
    subst hn
    by_cases h : l = []
    · rw [h, To.cut_nil]; exact shapes_nil
    · rw [To.cut_step h]
      exact shapes_append (shapes_append (shape_txt _) (shape_mk _)) (ih _ (To.len_turn h) _ rfl)
theorem shape_within (n l : List UInt8) : Shapes (within n l) := shapes_append (shape_cont _ _) (shape_cut _)

end Go.Proofs.YtjhhhlomkfnniaaDoor.Tm
