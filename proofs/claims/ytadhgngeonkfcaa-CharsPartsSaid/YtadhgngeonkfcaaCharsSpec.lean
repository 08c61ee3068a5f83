/-
  Plain mathematics: a list of bytes divided from its beginning on, and what is told of that: decoded, right, how many, the first ones, one end of lines; and what holds of these for every list.
-/
import Derived.Test.YtadhgngeonkfcaaCharsMath
namespace Go.Proofs.Ytadhgngeonkfcaa.Ch

theorem ind {P : List UInt8 → Prop} (h0 : P []) (hg : ∀ c r t, Good c r → P t → P (c ++ t)) (hb : ∀ a t, dec (a :: t) = (0xFFFD, 1) → sz (a :: t) = 0 → P t → P (a :: t)) : ∀ l, P l := by
  have key : ∀ n l, l.length ≤ n → P l := by
    intro n
    induction n with
    | zero => intro l hl; have : l = [] := List.eq_nil_of_length_eq_zero (by omega); subst this; exact h0
    | succ n ih =>
      intro l hl
      by_cases hn : l = []
      · subst hn; exact h0
      · rcases step l hn with ⟨c, r, t, rfl, G⟩ | ⟨a, t, rfl, hd, hs⟩
        · have := G.pos; simp at hl; exact hg c r t G (ih t (by omega))
        · simp at hl; exact hb a t hd hs (ih t (by omega))
  exact fun l => key l.length l (Nat.le_refl _)

def F : List UInt8 := [0xEF, 0xBF, 0xBD]

/-- The division: of each part its rune and its bytes. -/
def pieces : Nat → List UInt8 → List (Nat × List UInt8)
  | 0, _ => []
  | _ + 1, [] => []
  | n + 1, a :: t => ((dec (a :: t)).1, (a :: t).take (dec (a :: t)).2) :: pieces n ((a :: t).drop (dec (a :: t)).2)

def pcs (l : List UInt8) : List (Nat × List UInt8) := pieces l.length l

theorem dec_pos (l : List UInt8) (h : l ≠ []) : 1 ≤ (dec l).2 := by
  rcases step l h with ⟨c, r, t, rfl, G⟩ | ⟨a, t, rfl, hd, hs⟩
  · rw [G.dec]; exact G.pos
  · rw [hd]; exact Nat.le_refl _

theorem pieces_more : ∀ n m l, l.length ≤ n → n ≤ m → pieces m l = pieces n l := by
  intro n
  induction n with
  | zero =>
    intro m l hl _
    have : l = [] := List.eq_nil_of_length_eq_zero (by omega)
    subst this
    cases m <;> rfl
  | succ n ih =>
    intro m l hl hm
    obtain ⟨m, rfl⟩ : ∃ k, m = k + 1 := ⟨m - 1, by omega⟩
    cases l with
    | nil => rfl
    | cons a t =>
      have := dec_pos (a :: t) (by simp)
      simp only [pieces]
      rw [ih m _ (by simp only [List.length_drop]; simp at hl ⊢; omega) (by omega)]

theorem pcs_nil : pcs [] = [] := rfl

theorem pcs_step (l : List UInt8) (h : l ≠ []) : pcs l = ((dec l).1, l.take (dec l).2) :: pcs (l.drop (dec l).2) := by
  obtain ⟨a, t, rfl⟩ := List.exists_cons_of_ne_nil h
  have := dec_pos (a :: t) (by simp)
  show pieces (t.length + 1) (a :: t) = _
  rw [pieces]
  congr 1
  exact pieces_more _ _ _ (Nat.le_refl _) (by simp only [List.length_drop, List.length_cons]; omega)

theorem pcs_good {c : List UInt8} {r : Nat} (G : Good c r) (t : List UInt8) : pcs (c ++ t) = (r, c) :: pcs t := by
  have hne : c ++ t ≠ [] := by have := G.pos; intro e; simp at e; simp [e.1] at this
  rw [pcs_step _ hne, G.dec]
  simp

theorem pcs_bad {a : UInt8} {t : List UInt8} (hd : dec (a :: t) = (0xFFFD, 1)) : pcs (a :: t) = (0xFFFD, [a]) :: pcs t := by
  rw [pcs_step _ (by simp), hd]
  simp

/-- Decoded. -/
def encR (r : Nat) : List UInt8 := if r = 0 then F else (Utf8.encode (r : Int)).data.toList
theorem encR_zero : encR 0 = F := if_pos rfl
theorem encR_pos {r : Nat} (h : r ≠ 0) : encR r = (Utf8.encode (r : Int)).data.toList := if_neg h
theorem encR_good {c : List UInt8} {r : Nat} (G : Good c r) : encR r = if r = 0 then F else c := by
  by_cases h : r = 0
  · rw [if_pos h, h, encR_zero]
  · rw [if_neg h, encR_pos h, G.enc]
theorem encR_bad : encR 0xFFFD = F := by
  rw [encR_pos (by decide), F_good.enc]; rfl
def encP (p : Nat × List UInt8) : List UInt8 := encR p.1
def dL (l : List UInt8) : List UInt8 := (pcs l).flatMap encP

theorem dL_nil : dL [] = [] := rfl
theorem dL_step (l : List UInt8) (h : l ≠ []) : dL l = encR (dec l).1 ++ dL (l.drop (dec l).2) := by
  unfold dL; rw [pcs_step l h, List.flatMap_cons]; rfl
theorem dL_good {c : List UInt8} {r : Nat} (G : Good c r) (t : List UInt8) : dL (c ++ t) = (if r = 0 then F else c) ++ dL t := by
  unfold dL
  rw [pcs_good G, List.flatMap_cons, encP, encR_good G]
theorem dL_bad {a : UInt8} {t : List UInt8} (hd : dec (a :: t) = (0xFFFD, 1)) : dL (a :: t) = F ++ dL t := by
  unfold dL
  rw [pcs_bad hd, List.flatMap_cons, encP, encR_bad]
theorem dL_F (t : List UInt8) : dL (F ++ t) = F ++ dL t := dL_good F_good t

/-- Right. -/
def okP (p : Nat × List UInt8) : Bool := !(p.1 == 0xFFFD) || p.2 == F
def rL (l : List UInt8) : Bool := (pcs l).all okP
theorem rL_nil : rL [] = true := rfl
theorem rL_step (l : List UInt8) (h : l ≠ []) : rL l = (okP ((dec l).1, l.take (dec l).2) && rL (l.drop (dec l).2)) := by
  unfold rL; rw [pcs_step l h]; rfl
theorem Good.fffd {c : List UInt8} (G : Good c 0xFFFD) : c = F := by rw [← G.enc]; exact F_good.enc
theorem okP_good {c : List UInt8} {r : Nat} (G : Good c r) : okP (r, c) = true := by
  unfold okP
  by_cases h : r = 0xFFFD
  · subst h; rw [G.fffd]; rfl
  · have : (r == 0xFFFD) = false := by simpa using h
    simp only [this]; rfl
theorem rL_good {c : List UInt8} {r : Nat} (G : Good c r) (t : List UInt8) : rL (c ++ t) = rL t := by
  unfold rL
  rw [pcs_good G, List.all_cons, okP_good G, Bool.true_and]
theorem rL_bad {a : UInt8} {t : List UInt8} (hd : dec (a :: t) = (0xFFFD, 1)) : rL (a :: t) = false := by
  unfold rL
  rw [pcs_bad hd, List.all_cons]
  simp [okP, F]

/-- How many. -/
def cL (l : List UInt8) : Nat := (pcs l).length
theorem cL_nil : cL [] = 0 := rfl
theorem cL_step (l : List UInt8) (h : l ≠ []) : cL l = 1 + cL (l.drop (dec l).2) := by
  unfold cL; rw [pcs_step l h, List.length_cons]; omega
theorem cL_good {c : List UInt8} {r : Nat} (G : Good c r) (t : List UInt8) : cL (c ++ t) = 1 + cL t := by
  unfold cL; rw [pcs_good G, List.length_cons]; omega
theorem cL_bad {a : UInt8} {t : List UInt8} (hd : dec (a :: t) = (0xFFFD, 1)) : cL (a :: t) = 1 + cL t := by
  unfold cL; rw [pcs_bad hd, List.length_cons]; omega

/-- The first ones: how many bytes they have. -/
def smp (l : List UInt8) (n : Nat) : List UInt8 := ((pcs l).take n).flatMap fun p => p.2
theorem smp_zero (l : List UInt8) : smp l 0 = [] := by simp [smp]
theorem smp_nil (n : Nat) : smp [] n = [] := by simp [smp, pcs_nil]
theorem smp_step (l : List UInt8) (h : l ≠ []) (n : Nat) : smp l (n + 1) = l.take (dec l).2 ++ smp (l.drop (dec l).2) n := by
  unfold smp; rw [pcs_step l h, List.take_succ_cons, List.flatMap_cons]
theorem smp_good {c : List UInt8} {r : Nat} (G : Good c r) (t : List UInt8) (n : Nat) : smp (c ++ t) (n + 1) = c ++ smp t n := by
  unfold smp; rw [pcs_good G, List.take_succ_cons, List.flatMap_cons]
theorem smp_bad {a : UInt8} {t : List UInt8} (hd : dec (a :: t) = (0xFFFD, 1)) (n : Nat) : smp (a :: t) (n + 1) = a :: smp t n := by
  unfold smp; rw [pcs_bad hd, List.take_succ_cons, List.flatMap_cons]; rfl

/-- One end of lines: p: the byte ahead was a 13. -/
def ln : Bool → List UInt8 → List UInt8
  | _, [] => []
  | p, c :: t => if c = 13 then 10 :: ln true t else if c = 10 ∧ p = true then ln false t else c :: ln false t

theorem ln_13 (p : Bool) (t : List UInt8) : ln p (13 :: t) = 10 :: ln true t := by simp [ln]
theorem ln_10 (t : List UInt8) : ln true (10 :: t) = ln false t := by simp [ln]
theorem ln_10' (t : List UInt8) : ln false (10 :: t) = 10 :: ln false t := by simp [ln]
theorem ln_other (p : Bool) (c : UInt8) (t : List UInt8) (h : c ≠ 13) (h' : ¬ (c = 10 ∧ p = true)) : ln p (c :: t) = c :: ln false t := by simp only [ln, h, h', if_false]
theorem ln_two (t : List UInt8) : ln false (13 :: 10 :: t) = 10 :: ln false t := by simp [ln]
theorem ln_one (t : List UInt8) (h : ∀ u, t ≠ 10 :: u) : ln true t = ln false t := by
  cases t with
  | nil => rfl
  | cons c t =>
    have : c ≠ 10 := fun e => h t (by rw [e])
    simp [ln, this]

theorem ln_high (c : List UInt8) (h : ∀ b ∈ c, 128 ≤ b.toNat) (p : Bool) (t : List UInt8) (hc : c ≠ []) : ln p (c ++ t) = c ++ ln false t := by
  induction c generalizing p with
  | nil => exact absurd rfl hc
  | cons b c ih =>
    have hb := h b (by simp)
    have h1 : b ≠ 13 := by intro e; subst e; simp at hb
    have h2 : b ≠ 10 := by intro e; subst e; simp at hb
    rw [List.cons_append, ln_other _ _ _ h1 (fun x => h2 x.1), List.cons_append]
    congr 1
    by_cases hc : c = []
    · subst hc; rfl
    · exact ih (fun x hx => h x (by simp [hx])) false hc

theorem good_ascii (a : UInt8) (h : a.toNat < 128) : Good [a] a.toNat := good1 a h

theorem ln_good {c : List UInt8} {r : Nat} (G : Good c r) (p : Bool) (t : List UInt8) :
    (c = [13] ∧ ln p (c ++ t) = 10 :: ln true t) ∨ (c = [10] ∧ p = true ∧ ln p (c ++ t) = ln false t) ∨ (c ≠ [13] ∧ ln p (c ++ t) = c ++ ln false t) := by
  rcases G.shape with ⟨a, rfl, ha⟩ | hh
  · by_cases h1 : a = 13
    · subst h1; exact .inl ⟨rfl, ln_13 _ _⟩
    · by_cases h2 : a = 10 ∧ p = true
      · obtain ⟨rfl, rfl⟩ := h2
        exact .inr (.inl ⟨rfl, rfl, ln_10 _⟩)
      · exact .inr (.inr ⟨by simpa using h1, ln_other _ _ _ h1 h2⟩)
  · refine .inr (.inr ⟨?_, ln_high c hh p t (by have := G.pos; intro e; simp [e] at this)⟩)
    intro e; subst e; have := hh 13 (by simp); simp at this

/-! ### What holds -/

theorem good10 : Good [10] 10 := good1 10 (by decide)

theorem right_dL (l : List UInt8) : rL (dL l) = true := by
  refine ind (P := fun l => rL (dL l) = true) rfl ?_ ?_ l
  · intro c r t G ih
    rw [dL_good G]
    by_cases h : r = 0
    · rw [if_pos h]; exact (rL_good F_good _).trans ih
    · rw [if_neg h]; exact (rL_good G _).trans ih
  · intro a t hd _ ih
    rw [dL_bad hd]; exact (rL_good F_good _).trans ih

theorem dL_dL (l : List UInt8) : dL (dL l) = dL l := by
  refine ind (P := fun l => dL (dL l) = dL l) rfl ?_ ?_ l
  · intro c r t G ih
    rw [dL_good G]
    by_cases h : r = 0
    · rw [if_pos h, dL_F, ih]
    · rw [if_neg h, dL_good G, if_neg h, ih]
  · intro a t hd _ ih
    rw [dL_bad hd, dL_F, ih]

theorem cL_dL (l : List UInt8) : cL (dL l) = cL l := by
  refine ind (P := fun l => cL (dL l) = cL l) rfl ?_ ?_ l
  · intro c r t G ih
    rw [dL_good G, cL_good G]
    by_cases h : r = 0
    · rw [if_pos h]; exact (cL_good F_good _).trans (by rw [ih])
    · rw [if_neg h, cL_good G, ih]
  · intro a t hd _ ih
    rw [dL_bad hd, cL_bad hd]; exact (cL_good F_good _).trans (by rw [ih])

theorem len_dL (l : List UInt8) : (dL l).length ≤ 3 * l.length := by
  refine ind (P := fun l => (dL l).length ≤ 3 * l.length) (by simp [dL_nil]) ?_ ?_ l
  · intro c r t G ih
    have := G.pos
    rw [dL_good G, List.length_append, List.length_append]
    by_cases h : r = 0
    · rw [if_pos h]; simp only [F, List.length_cons, List.length_nil]; omega
    · rw [if_neg h]; omega
  · intro a t hd _ ih
    rw [dL_bad hd, List.length_append]; simp only [F, List.length_cons, List.length_nil]; omega

theorem cL_le (l : List UInt8) : cL l ≤ l.length ∧ l.length ≤ 4 * cL l := by
  refine ind (P := fun l => cL l ≤ l.length ∧ l.length ≤ 4 * cL l) (by simp [cL_nil]) ?_ ?_ l
  · intro c r t G ih
    have := G.pos; have := G.le4
    rw [cL_good G, List.length_append]; omega
  · intro a t hd _ ih
    rw [cL_bad hd, List.length_cons]; omega

theorem ln_len (p : Bool) (l : List UInt8) : (ln p l).length ≤ l.length := by
  induction l generalizing p with
  | nil => simp [ln]
  | cons c t ih =>
    have h1 := ih true; have h2 := ih false
    simp only [ln]
    split
    · simp; omega
    · split
      · simp; omega
      · simp; omega

theorem rL_10 (t : List UInt8) : rL (10 :: t) = rL t := rL_good good10 t

theorem right_ln (l : List UInt8) : ∀ p, rL l = true → rL (ln p l) = true := by
  refine ind (P := fun l => ∀ p, rL l = true → rL (ln p l) = true) (fun _ _ => rfl) ?_ ?_ l
  · intro c r t G ih p h
    rw [rL_good G] at h
    rcases ln_good G p t with ⟨_, e⟩ | ⟨_, _, e⟩ | ⟨_, e⟩
    · rw [e, rL_10]; exact ih _ h
    · rw [e]; exact ih _ h
    · rw [e, rL_good G]; exact ih _ h
  · intro a t hd _ ih p h
    rw [rL_bad hd] at h; exact absurd h (by simp)

theorem no13 (l : List UInt8) : ∀ p, (13 : UInt8) ∉ ln p l := by
  induction l with
  | nil => intro p; simp [ln]
  | cons c t ih =>
    intro p
    simp only [ln]
    split
    · simp [ih]
    · rename_i h
      split
      · exact ih _
      · simp [ih, Ne.symm h]

theorem ln_id (l : List UInt8) (h : (13 : UInt8) ∉ l) : ln false l = l := by
  induction l with
  | nil => rfl
  | cons c t ih =>
    simp at h
    rw [ln_other _ _ _ (Ne.symm h.1) (by simp), ih h.2]

theorem ln_ln (l : List UInt8) : ln false (ln false l) = ln false l := ln_id _ (no13 l false)

theorem no0 (l : List UInt8) : (0 : UInt8) ∉ dL l := by
  refine ind (P := fun l => (0 : UInt8) ∉ dL l) (by simp [dL_nil]) ?_ ?_ l
  · intro c r t G ih
    rw [dL_good G, List.mem_append]
    rintro (h | h)
    · by_cases hr : r = 0
      · rw [if_pos hr] at h; exact absurd h (by decide)
      · rw [if_neg hr] at h
        rcases G.shape with ⟨a, rfl, _⟩ | hh
        · simp at h; exact hr (G.zero.2 (by rw [← h]))
        · have := hh 0 h; simp at this
    · exact ih h
  · intro a t hd _ ih
    rw [dL_bad hd, List.mem_append]
    rintro (h | h)
    · exact absurd h (by decide)
    · exact ih h

theorem ln_sub (l : List UInt8) : ∀ p x, x ∈ ln p l → x = 10 ∨ x ∈ l := by
  induction l with
  | nil => intro p x h; simp [ln] at h
  | cons c t ih =>
    intro p x h
    simp only [ln] at h
    split at h
    · simp at h; rcases h with h | h
      · exact .inl h
      · rcases ih _ _ h with h | h
        · exact .inl h
        · exact .inr (by simp [h])
    · split at h
      · rcases ih _ _ h with h | h
        · exact .inl h
        · exact .inr (by simp [h])
      · simp at h; rcases h with h | h
        · exact .inr (by simp [h])
        · rcases ih _ _ h with h | h
          · exact .inl h
          · exact .inr (by simp [h])

theorem no0_ready (l : List UInt8) : (0 : UInt8) ∉ ln false (dL l) := fun h => by
  rcases ln_sub _ _ _ h with h | h
  · exact absurd h (by decide)
  · exact no0 l h

theorem dL_id (l : List UInt8) : rL l = true → (0 : UInt8) ∉ l → dL l = l := by
  refine ind (P := fun l => rL l = true → (0 : UInt8) ∉ l → dL l = l) (fun _ _ => rfl) ?_ ?_ l
  · intro c r t G ih h hz
    rw [rL_good G] at h
    simp at hz
    rw [dL_good G, ih h hz.2, if_neg]
    intro e
    rw [G.zero.1 e] at hz
    simp at hz
  · intro a t hd _ ih h
    rw [rL_bad hd] at h; exact absurd h (by simp)

theorem ready_right (l : List UInt8) : rL (ln false (dL l)) = true := right_ln _ _ (right_dL l)
theorem ready_ready (l : List UInt8) : ln false (dL (ln false (dL l))) = ln false (dL l) := by
  rw [dL_id _ (ready_right l) (no0_ready l), ln_ln]

theorem joins (a b : List UInt8) : rL a = true → rL (a ++ b) = rL b ∧ dL (a ++ b) = dL a ++ dL b ∧ cL (a ++ b) = cL a + cL b := by
  refine ind (P := fun a => rL a = true → rL (a ++ b) = rL b ∧ dL (a ++ b) = dL a ++ dL b ∧ cL (a ++ b) = cL a + cL b) (fun _ => ⟨rfl, by simp [dL_nil], by simp [cL_nil]⟩) ?_ ?_ a
  · intro c r t G ih h
    rw [rL_good G] at h
    obtain ⟨h1, h2, h3⟩ := ih h
    rw [List.append_assoc]
    refine ⟨by rw [rL_good G, h1], by rw [dL_good G, dL_good G, h2, List.append_assoc], by rw [cL_good G, cL_good G, h3]; omega⟩
  · intro a t hd _ ih h
    rw [rL_bad hd] at h; exact absurd h (by simp)

theorem bad_short {a : UInt8} {t u v : List UInt8} (hs : sz (a :: t) = 0) (ht : t = u ++ v) : dec (a :: u) = (0xFFFD, 1) := by
  rcases step (a :: u) (by simp) with ⟨c, r, w, e, G⟩ | ⟨a', w, e, h, _⟩
  · have : a :: t = c ++ (w ++ v) := by rw [ht, ← List.append_assoc, ← e]; rfl
    rw [this, G.sz] at hs
    have := G.pos; omega
  · exact h

theorem smp_pre (l : List UInt8) : ∀ n, ∃ v, l = smp l n ++ v := by
  refine ind (P := fun l => ∀ n, ∃ v, l = smp l n ++ v) (fun n => ⟨[], by simp [smp_nil]⟩) ?_ ?_ l
  · intro c r t G ih n
    cases n with
    | zero => exact ⟨_, by rw [smp_zero]; rfl⟩
    | succ n => obtain ⟨v, hv⟩ := ih n; exact ⟨v, by rw [smp_good G, List.append_assoc, ← hv]⟩
  · intro a t hd _ ih n
    cases n with
    | zero => exact ⟨_, by rw [smp_zero]; rfl⟩
    | succ n => obtain ⟨v, hv⟩ := ih n; exact ⟨v, by rw [smp_bad hd, List.cons_append, ← hv]⟩

theorem cL_smp (l : List UInt8) : ∀ n, cL (smp l n) = min n (cL l) := by
  refine ind (P := fun l => ∀ n, cL (smp l n) = min n (cL l)) (fun n => by simp [smp_nil, cL_nil]) ?_ ?_ l
  · intro c r t G ih n
    cases n with
    | zero => simp [smp_zero, cL_nil]
    | succ n => rw [smp_good G, cL_good G, cL_good G, ih n]; omega
  · intro a t hd hs ih n
    cases n with
    | zero => simp [smp_zero, cL_nil]
    | succ n =>
      obtain ⟨v, hv⟩ := smp_pre t n
      rw [smp_bad hd, cL_bad (bad_short hs hv), cL_bad hd, ih n]; omega

theorem smp_all (l : List UInt8) : ∀ n, cL l ≤ n → smp l n = l := by
  refine ind (P := fun l => ∀ n, cL l ≤ n → smp l n = l) (fun n _ => smp_nil n) ?_ ?_ l
  · intro c r t G ih n hn
    rw [cL_good G] at hn
    obtain ⟨n, rfl⟩ : ∃ k, n = k + 1 := ⟨n - 1, by omega⟩
    rw [smp_good G, ih n (by omega)]
  · intro a t hd _ ih n hn
    rw [cL_bad hd] at hn
    obtain ⟨n, rfl⟩ : ∃ k, n = k + 1 := ⟨n - 1, by omega⟩
    rw [smp_bad hd, ih n (by omega)]

theorem dec_le (l : List UInt8) (h : l ≠ []) : (dec l).2 ≤ l.length := by
  rcases step l h with ⟨c, r, t, rfl, G⟩ | ⟨a, t, rfl, hd, hs⟩
  · rw [G.dec]; simp
  · rw [hd]; simp

theorem starts_eq (l : List UInt8) (h : l ≠ []) (hr : (dec l).1 = 0xFFFD) : decide (l.take 3 = F) = (l.take (dec l).2 == F) := by
  rcases step l h with ⟨c, r, t, rfl, G⟩ | ⟨a, t, rfl, hd, hs⟩
  · rw [G.dec] at hr ⊢
    have hr' : r = 0xFFFD := hr
    subst hr'
    have := G.fffd
    subst this
    rw [List.take_left]
    have : (F ++ t).take 3 = F := rfl
    rw [this]; simp
  · rw [hd]
    have h1 : ((a :: t).take 1 == F) = false := by simp [F]
    rw [h1, decide_eq_false_iff_not]
    intro e
    have e2 : a :: t = F ++ (a :: t).drop 3 := by rw [← e, List.take_append_drop]
    rw [e2, show dec (F ++ (a :: t).drop 3) = (0xFFFD, 3) from F_good.dec _] at hd
    simp at hd

theorem sz_bad (l : List UInt8) (h : l ≠ []) (hs : sz l = 0) : dec l = (0xFFFD, 1) ∧ ∃ a t, l = a :: t := by
  rcases step l h with ⟨c, r, t, rfl, G⟩ | ⟨a, t, rfl, hd, _⟩
  · rw [G.sz] at hs; have := G.pos; omega
  · exact ⟨hd, a, t, rfl⟩
theorem sz_good (l : List UInt8) (h : l ≠ []) (hs : sz l ≠ 0) : ∃ c r t, l = c ++ t ∧ Good c r ∧ sz l = c.length := by
  rcases step l h with ⟨c, r, t, rfl, G⟩ | ⟨a, t, rfl, _, hz⟩
  · exact ⟨c, r, t, rfl, G, G.sz t⟩
  · exact absurd hz hs
theorem sz_dec (l : List UInt8) (h : l ≠ []) : (dec l).2 = max 1 (sz l) := by
  by_cases hs : sz l = 0
  · rw [(sz_bad l h hs).1, hs]; rfl
  · obtain ⟨c, r, t, rfl, G, e⟩ := sz_good l h hs
    rw [G.dec, G.sz]; have := G.pos; simp only; omega
theorem sz_le (l : List UInt8) (h : l ≠ []) : max 1 (sz l) ≤ l.length := by rw [← sz_dec l h]; exact dec_le l h
theorem rL_sz (l : List UInt8) (h : l ≠ []) : rL l = (if sz l = 0 then false else rL (l.drop (sz l))) := by
  by_cases hs : sz l = 0
  · rw [if_pos hs]
    obtain ⟨hd, a, t, rfl⟩ := sz_bad l h hs
    exact rL_bad hd
  · rw [if_neg hs]
    obtain ⟨c, r, t, rfl, G, e⟩ := sz_good l h hs
    rw [G.sz, rL_good G, List.drop_left]
theorem dL_sz0 (l : List UInt8) (h : l ≠ []) (hs : sz l = 0) : dL l = F ++ dL (l.drop 1) := by
  obtain ⟨hd, a, t, rfl⟩ := sz_bad l h hs
  rw [dL_bad hd]; rfl
theorem dL_zero (l : List UInt8) (h : l ≠ []) (hz : at' l 0 = 0) : dL l = F ++ dL (l.drop 1) := by
  obtain ⟨a, t, rfl⟩ := List.exists_cons_of_ne_nil h
  have ha : a.toNat = 0 := hz
  have G := good1 a (by omega)
  have := dL_good G t
  rw [if_pos ha] at this
  exact this
theorem dL_szp (l : List UInt8) (h : l ≠ []) (hs : sz l ≠ 0) (hz : at' l 0 ≠ 0) : dL l = l.take (sz l) ++ dL (l.drop (sz l)) := by
  obtain ⟨c, r, t, rfl, G, e⟩ := sz_good l h hs
  rw [G.sz, List.take_left, List.drop_left, dL_good G, if_neg]
  intro e2
  apply hz
  rw [G.zero.1 e2]; rfl

/-- Bytes below 128, but 0 and 13. -/
def plain (l : List UInt8) : Prop := ∀ x ∈ l, x.toNat < 128 ∧ x ≠ 0 ∧ x ≠ 13

theorem plain_cL (l : List UInt8) (h : plain l) : cL l = l.length := by
  induction l with
  | nil => rfl
  | cons a t ih =>
    rw [show a :: t = [a] ++ t from rfl, cL_good (good1 a (h a (by simp)).1), ih (fun x hx => h x (by simp [hx]))]
    simp; omega
theorem plain_rL (l : List UInt8) (h : plain l) : rL l = true := by
  induction l with
  | nil => rfl
  | cons a t ih => rw [show a :: t = [a] ++ t from rfl, rL_good (good1 a (h a (by simp)).1), ih (fun x hx => h x (by simp [hx]))]
theorem plain_dL (l : List UInt8) (h : plain l) : dL l = l := dL_id l (plain_rL l h) (fun e => (h 0 e).2.1 rfl)
theorem plain_ln (l : List UInt8) (h : plain l) : ln false l = l := ln_id l (fun e => (h 13 e).2.2 rfl)

end Go.Proofs.Ytadhgngeonkfcaa.Ch
