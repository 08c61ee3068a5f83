/-
  What begins at a place, as the reference asks.
-/
import Derived.Test.YtjhhhlomkfnniaaDoorTokRefH
namespace Go.Proofs.YtjhhhlomkfnniaaDoor.To
set_option linter.unusedSimpArgs false
set_option linter.unusedVariables false
open Go.RowKit Ba Fm Fo Tm Nm Na
open Rm (dec dec_ne)
open Ro (below_new At acells len_acells Sh Ra range2)
open Re (Tab)

theorem marked_one (r : List UInt8) : marked r = 4 ∨ marked r = 5 ∨ marked r = 6 := by
  unfold marked
  split
  · exact .inl rfl
  · split
    · exact .inr (.inl rfl)
    · exact .inr (.inr rfl)
theorem lr_33 : lr 33 = false := by decide
theorem lr_47 : lr 47 = false := by decide
theorem lr_62 : lr 62 = false := by decide
theorem lr_63 : lr 63 = false := by decide

/-- What begins, by the texts that stand there. -/
theorem beg_facts (X : List UInt8) (n : Nat) (h : Tm.begun X = n) :
    n ≤ 6 ∧
    (n = 1 → pre [60] X = true ∧ by1 lr (X.drop 1) = true ∧ pre [60, 47] X = false) ∧
    (n = 2 → pre [60] X = true ∧ by1 lr (X.drop 1) = false ∧ pre [60, 47] X = true ∧ by1 lr (X.drop 2) = true) ∧
    (n = 3 → pre [60] X = true ∧ by1 lr (X.drop 1) = false ∧ pre [60, 47] X = true ∧ by1 lr (X.drop 2) = false ∧ pre [60, 47, 62] X = true) ∧
    (4 ≤ n → pre [60] X = true ∧ by1 lr (X.drop 1) = false ∧ (pre [60, 47] X = true → by1 lr (X.drop 2) = false) ∧ pre [60, 47, 62] X = false) ∧
    (n = 0 → (pre [60] X = true → by1 lr (X.drop 1) = false) ∧ (pre [60, 47] X = true → by1 lr (X.drop 2) = false) ∧ pre [60, 47, 62] X = false) := by
  match X with
  | [] =>
    obtain rfl : n = 0 := h.symm
    simp [pre_none, by1]
  | [a] =>
    obtain rfl : n = 0 := by
      rw [← h]
      show (if a = 60 then 0 else 0) = 0
      split <;> rfl
    simp [pre_cons, pre_none, by1]
  | a :: c :: r =>
    rw [To.begun_two] at h
    by_cases ha : a = 60
    · rw [if_pos ha] at h
      subst ha
      cases hl : lr c with
      | true =>
        rw [hl, if_pos rfl] at h
        subst h
        have h47 : c ≠ 47 := fun e => by rw [e, lr_47] at hl; cases hl
        simp [pre_cons, pre_nil, by1, hl, h47]
      | false =>
        rw [hl, if_neg (by simp)] at h
        by_cases h47 : c = 47
        · subst h47
          rw [if_pos rfl] at h
          cases r with
          | nil =>
            obtain rfl : n = 0 := h.symm
            simp [pre_cons, pre_nil, pre_none, by1, lr_47]
          | cons d q =>
            have h : (if lr d = true then 2 else if d = 62 then 3 else 6) = n := h
            cases hd : lr d with
            | true =>
              rw [hd, if_pos rfl] at h
              subst h
              have h62 : d ≠ 62 := fun e => by rw [e, lr_62] at hd; cases hd
              simp [pre_cons, pre_nil, by1, lr_47, hd]
            | false =>
              rw [hd, if_neg (by simp)] at h
              by_cases h62 : d = 62
              · subst h62
                rw [if_pos rfl] at h
                subst h
                simp [pre_cons, pre_nil, by1, lr_47, lr_62]
              · rw [if_neg h62] at h
                subst h
                simp [pre_cons, pre_nil, by1, lr_47, hd, h62]
        · rw [if_neg h47] at h
          by_cases h33 : c = 33
          · subst h33
            rw [if_pos rfl] at h
            rcases marked_one r with e | e | e <;> rw [e] at h <;> subst h <;> simp [pre_cons, pre_nil, by1, lr_33]
          · rw [if_neg h33] at h
            by_cases h63 : c = 63
            · subst h63
              rw [if_pos rfl] at h
              subst h
              simp [pre_cons, pre_nil, by1, lr_63]
            · rw [if_neg h63] at h
              subst h
              simp [pre_cons, pre_nil, by1, hl, h47]
    · rw [if_neg ha] at h
      subst h
      simp [pre_cons, pre_nil, by1, ha]

theorem low_33 {c : UInt8} (h : low c = 33) : c = 33 := by
  by_cases hu : 65 ≤ c ∧ c ≤ 90
  · have : (low c).toNat = c.toNat + 32 := by
      unfold low
      rw [if_pos hu, UInt8.toNat_add]
      have := UInt8.le_iff_toNat_le.1 hu.2
      have e90 : UInt8.toNat 90 = 90 := rfl
      simp
      omega
    rw [h] at this
    have e33 : UInt8.toNat 33 = 33 := rfl
    have := UInt8.le_iff_toNat_le.1 hu.1
    have e65 : UInt8.toNat 65 = 65 := rfl
    omega
  · unfold low at h
    rwa [if_neg hu] at h
/-- A doctype begins here. -/
theorem doc9_mark (s : ByteArray) (i : Nat) (r : List UInt8) (h : (L s).drop i = 60 :: 33 :: r) : doc9 s i = (decide (lowL (r.take 7) = [100, 111, 99, 116, 121, 112, 101]) && !by1 lr (r.drop 7)) := by
  have hlen := congrArg List.length h
  rw [List.length_drop, size_L] at hlen
  simp only [List.length_cons] at hlen
  unfold doc9
  rw [L_extract, show i + 9 - i = 9 from by omega, h]
  have e1 : lowL ((60 :: 33 :: r).take 9) = 60 :: 33 :: lowL (r.take 7) := rfl
  have e2 : (L s).drop (i + 9) = r.drop 7 := by
    rw [← List.drop_drop, h]; rfl
  rw [e1, e2]
  by_cases hd : lowL (r.take 7) = [100, 111, 99, 116, 121, 112, 101]
  · have hl := congrArg List.length hd
    rw [len_lowL, List.length_take] at hl
    simp only [List.length_cons, List.length_nil] at hl
    rw [hd, decide_eq_true (show i + 9 ≤ s.size by omega)]
    simp
  · rw [decide_eq_false hd, decide_eq_false (show ¬ (60 :: 33 :: lowL (r.take 7) = [60, 33, 100, 111, 99, 116, 121, 112, 101]) from fun e => hd (by injection e with _ e; injection e with _ e))]
    simp
theorem doc9_other (s : ByteArray) (i : Nat) (h : pre [60, 33] ((L s).drop i) = false) : doc9 s i = false := by
  unfold doc9
  by_cases h9 : i + 9 ≤ s.size
  · rw [decide_eq_true h9, Bool.true_and]
    rw [decide_eq_false]
    · rfl
    · intro e
      rw [L_extract, show i + 9 - i = 9 from by omega] at e
      match hx : (L s).drop i with
      | [] => rw [hx] at e; have := congrArg List.length e; rw [len_lowL] at this; simp at this
      | [a] => rw [hx] at e; have := congrArg List.length e; rw [len_lowL] at this; simp at this
      | a :: c :: r =>
        rw [hx] at e h
        have e : low a :: low c :: lowL (r.take 7) = _ := e
        have e1 := (List.cons.inj e).1
        have e2 := (List.cons.inj (List.cons.inj e).2).1
        have hc := low_33 e2
        have ha : a = 60 := by
          by_cases hu : 65 ≤ a ∧ a ≤ 90
          · have : (low a).toNat = a.toNat + 32 := by
              unfold low
              rw [if_pos hu, UInt8.toNat_add]
              have := UInt8.le_iff_toNat_le.1 hu.2
              have e90 : UInt8.toNat 90 = 90 := rfl
              simp
              omega
            rw [e1] at this
            have e60 : UInt8.toNat 60 = 60 := rfl
            have := UInt8.le_iff_toNat_le.1 hu.1
            have e65 : UInt8.toNat 65 = 65 := rfl
            omega
          · unfold low at e1
            rwa [if_neg hu] at e1
        rw [ha, hc] at h
        simp [pre_cons, pre_nil] at h
  · rw [decide_eq_false h9]; rfl

/-- What is noted is what begins. -/
theorem noted_mk (s : ByteArray) (i : Nat) (n : Nat) (h : Tm.begun ((L s).drop i) = n) :
    (4 ≤ n → ∃ k d r, noted s i = some (k, d, r) ∧ mk ((L s).drop i) = ([⟨k, B [], d, [], false⟩], r)) ∧ (n = 0 → pre [60] ((L s).drop i) = true → noted s i = none) := by
  obtain ⟨X, hX⟩ : ∃ X, (L s).drop i = X := ⟨_, rfl⟩
  have hd : ∀ j, (L s).drop (i + j) = X.drop j := fun j => by rw [← List.drop_drop, hX]
  have hlen := congrArg List.length hX
  rw [List.length_drop, size_L] at hlen
  have hdo := doc9_other s i
  have hdm := doc9_mark s i
  unfold noted
  rw [hd 4, hd 9, hd 2, hd 1]
  rw [hX] at h hdo hdm ⊢
  match X with
  | [] =>
    obtain rfl : n = 0 := h.symm
    refine ⟨fun h => absurd h (by omega), fun _ h => ?_⟩
    rw [pre_none] at h; cases h
  | [a] =>
    obtain rfl : n = 0 := by
      rw [← h]
      show (if a = 60 then 0 else 0) = 0
      split <;> rfl
    refine ⟨fun h => absurd h (by omega), fun _ _ => ?_⟩
    have hno : pre [60, 33] [a] = false := by simp [pre_cons, pre_none]
    rw [hdo hno]
    simp [pre_cons, pre_none]
  | a :: c :: r =>
    simp only [List.length_cons] at hlen
    have hb := h
    rw [To.begun_two] at h
    by_cases ha : a = 60
    · rw [if_pos ha] at h
      subst ha
      cases hl : lr c with
      | true =>
        rw [hl, if_pos rfl] at h
        subst h
        exact ⟨fun h => absurd h (by omega), fun h => absurd h (by omega)⟩
      | false =>
        rw [hl, if_neg (by simp)] at h
        by_cases h47 : c = 47
        · subst h47
          rw [if_pos rfl] at h
          have hno : pre [60, 33] (60 :: 47 :: r) = false := by simp [pre_cons]
          rw [hdo hno]
          cases r with
          | nil =>
            obtain rfl : n = 0 := h.symm
            refine ⟨fun h => absurd h (by omega), fun _ _ => ?_⟩
            have : ¬ i + 2 < s.size := by simp at hlen; omega
            simp [pre_cons, pre_nil, pre_none, this]
          | cons d q =>
            have h2 : i + 2 < s.size := by simp only [List.length_cons] at hlen; omega
            refine ⟨fun h4 => ?_, fun h0 => ?_⟩
            · have h6 : n = 6 := by
                have h : (if lr d = true then 2 else if d = 62 then 3 else 6) = n := h
                rw [← h] at h4 ⊢
                split at h4
                · omega
                · split at h4
                  · omega
                  · rename_i g1 g2
                    rw [if_neg g1, if_neg g2]
              refine ⟨3, B (closed (d :: q)).1, (closed (d :: q)).2, ?_, ?_⟩
              · simp [pre_cons, pre_nil, h2]
              · rw [To.mk_6 (by rw [hb, h6])]
                rfl
            · rw [h0] at h
              exfalso
              have h : (if lr d = true then 2 else if d = 62 then 3 else 6) = 0 := h
              split at h
              · cases h
              · split at h <;> cases h
        · rw [if_neg h47] at h
          by_cases h33 : c = 33
          · subst h33
            rw [if_pos rfl] at h
            have hd9 := hdm r rfl
            refine ⟨fun h4 => ?_, fun h0 => ?_⟩
            · cases h45 : pre [45, 45] r with
              | true =>
                have h4' : n = 4 := by rw [← h]; unfold marked; rw [if_pos h45]
                refine ⟨3, B (comm (r.drop 2)).1, (comm (r.drop 2)).2, ?_, ?_⟩
                · have : pre [60, 33, 45, 45] (60 :: 33 :: r) = true := by rw [pre_cons, pre_cons, h45]; rfl
                  rw [if_pos this]; rfl
                · rw [To.mk_4 (by rw [hb, h4'])]; rfl
              | false =>
                have h1 : pre [60, 33, 45, 45] (60 :: 33 :: r) = false := by rw [pre_cons, pre_cons, h45]; rfl
                rw [if_neg (by rw [h1]; simp)]
                by_cases hc : lowL (r.take 7) = [100, 111, 99, 116, 121, 112, 101] ∧ by1 lr (r.drop 7) = false
                · have h5 : n = 5 := by rw [← h]; unfold marked; rw [if_neg (by rw [h45]; simp), if_pos hc]
                  have hdt : doc9 s i = true := by rw [hd9, hc.2, decide_eq_true hc.1]; rfl
                  refine ⟨4, B (trimL (closed (r.drop 7)).1), (closed (r.drop 7)).2, ?_, ?_⟩
                  · rw [if_pos hdt]; rfl
                  · rw [To.mk_5 (by rw [hb, h5])]; rfl
                · have h6 : n = 6 := by rw [← h]; unfold marked; rw [if_neg (by rw [h45]; simp), if_neg hc]
                  have hdt : doc9 s i = false := by
                    rw [hd9]
                    by_cases e1 : lowL (r.take 7) = [100, 111, 99, 116, 121, 112, 101]
                    · have : by1 lr (r.drop 7) = true := by
                        cases hq : by1 lr (r.drop 7) with
                        | true => rfl
                        | false => exact absurd ⟨e1, hq⟩ hc
                      rw [this, Bool.not_true, Bool.and_false]
                    · rw [decide_eq_false e1]; rfl
                  refine ⟨3, B (closed r).1, (closed r).2, ?_, ?_⟩
                  · rw [if_neg (by rw [hdt]; simp), if_pos (.inl (by simp [pre_cons, pre_nil]))]; rfl
                  · rw [To.mk_6 (by rw [hb, h6])]; rfl
            · rw [h0] at h
              rcases marked_one r with e | e | e <;> rw [e] at h <;> cases h
          · rw [if_neg h33] at h
            have hno : pre [60, 33] (60 :: c :: r) = false := by simp [pre_cons, h33]
            have hno4 : pre [60, 33, 45, 45] (60 :: c :: r) = false := by simp [pre_cons, h33]
            have hno47 : pre [60, 47] (60 :: c :: r) = false := by simp [pre_cons, h47]
            rw [hdo hno, hno, hno4, hno47]
            by_cases h63 : c = 63
            · subst h63
              rw [if_pos rfl] at h
              subst h
              refine ⟨fun _ => ⟨3, B (closed (63 :: r)).1, (closed (63 :: r)).2, ?_, ?_⟩, fun h => absurd h (by omega)⟩
              · simp [pre_cons, pre_nil]
              · rw [To.mk_6 hb]; rfl
            · rw [if_neg h63] at h
              subst h
              refine ⟨fun h => absurd h (by omega), fun _ _ => ?_⟩
              simp [pre_cons, h63]
    · rw [if_neg ha] at h
      subst h
      refine ⟨fun h => absurd h (by omega), fun _ h => ?_⟩
      simp [pre_cons, pre_nil, ha] at h

end Go.Proofs.YtjhhhlomkfnniaaDoor.To
