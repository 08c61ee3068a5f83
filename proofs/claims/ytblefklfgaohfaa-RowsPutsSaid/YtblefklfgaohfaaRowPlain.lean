/-
  Stage 4, plain: what right rows are; the parent in two ways.
-/
import Derived.Test.YtblefklfgaohfaaRowWalkV
namespace Go.Proofs.Ytblefklfgaohfaa.Ro
set_option linter.unusedVariables false
set_option linter.unusedSimpArgs false
open Go.RowKit Ba

/-- From one row to the next it goes at most one deeper, and only below an element. -/
theorem right_step : ∀ (l : List Ro) (m : Int), rightFrom m l = true → ∀ k x y, l[k]? = some x → l[k + 1]? = some y → y.depth ≤ x.depth + 1 ∧ (x.kind ≠ 0 → y.depth ≤ x.depth)
  | [], _, _, k, x, y, h, _ => by simp at h
  | a :: r, m, h, k, x, y, hx, hy => by
    rw [rightFrom] at h
    simp only [Bool.and_eq_true, decide_eq_true_eq] at h
    cases k with
    | zero =>
      obtain rfl : a = x := by simpa using hx
      have hy : r[0]? = some y := by simpa using hy
      cases r with
      | nil => simp at hy
      | cons b r =>
        obtain rfl : b = y := by simpa using hy
        have h2 := h.2
        rw [rightFrom] at h2
        simp only [Bool.and_eq_true, decide_eq_true_eq] at h2
        have := h2.1.1.2
        by_cases hk : a.kind = 0
        · rw [if_pos hk] at this
          exact ⟨by omega, fun e => absurd hk e⟩
        · rw [if_neg hk] at this
          exact ⟨by omega, fun _ => this⟩
    | succ k => exact right_step r _ h.2 k x y (by simpa using hx) (by simpa using hy)

theorem right_dep {l : List Ro} (h : right l = true) (k : Nat) (hk : k + 1 < l.length) : dep l ((k + 1 : Nat) : Int) ≤ dep l (k : Nat) + 1 := by
  have e1 : l[k]? = some l[k] := List.getElem?_eq_getElem (by omega)
  have e2 : l[k + 1]? = some l[k + 1] := List.getElem?_eq_getElem hk
  rw [dep_at e1, dep_at e2]
  exact (right_step l 0 h k _ _ e1 e2).1

theorem lastAt_snoc (l : List Ro) (d : Int) : ∀ (n k : Nat) (p : Int), lastAt l d p k (n + 1) = if dep l ((k + n : Nat) : Int) = d then ((k + n : Nat) : Int) else lastAt l d p k n
  | 0, k, p => by simp [lastAt]
  | n + 1, k, p => by
    rw [lastAt, lastAt_snoc l d n (k + 1), lastAt, show k + 1 + n = k + (n + 1) by omega]

theorem up_last {l : List Ro} (h : right l = true) (d : Int) : ∀ n : Nat, n ≤ l.length → (∀ k, n = k + 1 → d ≤ dep l (k : Nat) + 1) → up l d n = lastAt l (d - 1) (-1) 0 n
  | 0, _, _ => rfl
  | n + 1, hn, hd => by
    have h1 := hd n rfl
    rw [up, lastAt_snoc, Nat.zero_add]
    by_cases hlt : dep l (n : Nat) < d
    · rw [if_pos hlt, if_pos (by omega)]
    · rw [if_neg hlt, if_neg (by omega)]
      refine up_last h d n (by omega) fun k e => ?_
      subst e
      have := right_dep h k (by omega)
      omega

theorem parent_ref {l : List Ro} (h : right l = true) (i : Int) : refParent l i = parent l i := by
  rw [refParent, parent]
  cases hr : hasRow l i with
  | false => rfl
  | true =>
    rw [if_pos rfl, if_pos rfl]
    rw [hasRow, decide_eq_true_eq] at hr
    obtain ⟨j, rfl⟩ := Int.eq_ofNat_of_zero_le hr.1
    rw [Int.toNat_natCast]
    refine (up_last h _ j (by omega) fun k e => ?_).symm
    subst e
    exact right_dep h k (by omega)

theorem empty_name {s : ByteArray} (h : s.toList.isEmpty = true) : s = .empty := by
  rw [List.isEmpty_iff, toList_L] at h
  rw [← B_L s, h]
  rfl
theorem text_form {x : Ro} (h : okRow x = true) (hk : x.kind = 1) : x = ⟨x.depth, 1, .empty, x.data, []⟩ := by
  rw [okRow, if_neg (by rw [hk]; decide)] at h
  simp only [Bool.and_eq_true] at h
  have h1 := empty_name h.1.2
  have h2 := h.2
  obtain ⟨d, k, n, t, a⟩ := x
  simp only at hk h1 h2 ⊢
  subst hk
  subst h1
  cases a with
  | nil => rfl
  | cons u r =>
    exfalso
    rw [beq_iff_eq, List.length_cons] at h2
    omega

theorem group_on (d : Int) : ∀ (g acc : List Ro) (s : ByteArray), (∀ x ∈ g, x = ⟨d, 1, .empty, x.data, []⟩) → g.foldl stepN (acc ++ [⟨d, 1, .empty, s, []⟩]) = acc ++ [⟨d, 1, .empty, B (L s ++ txt g), []⟩]
  | [], acc, s, _ => by rw [List.foldl_nil, txt, List.append_nil, B_L]
  | x :: r, acc, s, h => by
    have hx := h x List.mem_cons_self
    have hk : x.kind = 1 := by rw [hx]
    have hd : x.depth = d := by rw [hx]
    rw [List.foldl_cons, txt, if_pos hk]
    by_cases he : x.data.toList = []
    · rw [stepN_empty hk he, group_on d r acc s fun y hy => h y (List.mem_cons_of_mem _ hy)]
      rw [toList_L] at he
      rw [he, List.nil_append]
    · rw [stepN_join (fun e => he e.2) ⟨hk, rfl, hd.symm⟩, group_on d r acc (s ++ x.data) fun y hy => h y (List.mem_cons_of_mem _ hy)]
      rw [L_append, List.append_assoc]

/-- The last of them is no text at this depth. -/
def NoTx (d : Int) (acc : List Ro) : Prop := ∀ y, acc.getLast? = some y → ¬ (y.kind = 1 ∧ y.depth = d)
theorem step_apart {acc : List Ro} {x : Ro} (h : NoTx x.depth acc) (he : ¬ (x.kind = 1 ∧ x.data.toList = [])) : stepN acc x = acc ++ [x] := by
  rw [stepN, if_neg he]
  cases hl : acc.getLast? with
  | none => rfl
  | some y =>
    show (if x.kind = 1 ∧ y.kind = 1 ∧ y.depth = x.depth then _ else acc ++ [x]) = _
    rw [if_neg fun e => h y hl ⟨e.2.1, e.2.2⟩]
def joinedTx (d : Int) (t : List UInt8) : List Ro := if t = [] then [] else [⟨d, 1, .empty, B t, []⟩]
theorem group_new (d : Int) : ∀ (g acc : List Ro), (∀ x ∈ g, x = ⟨d, 1, .empty, x.data, []⟩) → NoTx d acc → g.foldl stepN acc = acc ++ joinedTx d (txt g)
  | [], acc, _, _ => by rw [List.foldl_nil, txt, joinedTx, if_pos rfl, List.append_nil]
  | x :: r, acc, h, hn => by
    have hx := h x List.mem_cons_self
    have hk : x.kind = 1 := by rw [hx]
    have hd : x.depth = d := by rw [hx]
    rw [List.foldl_cons, txt, if_pos hk]
    by_cases he : x.data.toList = []
    · rw [stepN_empty hk he, group_new d r acc (fun y hy => h y (List.mem_cons_of_mem _ hy)) hn]
      rw [toList_L] at he
      rw [he, List.nil_append]
    · rw [step_apart (by rw [hd]; exact hn) (fun e => he e.2), hx, group_on d r acc x.data fun y hy => h y (List.mem_cons_of_mem _ hy)]
      rw [toList_L] at he
      rw [joinedTx, if_neg (by simp [he])]

theorem right_same (d : Int) : ∀ (n : Nat) (r : List Ro), rightFrom d r = true → (∀ x ∈ r.take n, x.kind = 1 ∧ x.depth = d) → rightFrom d (r.drop n) = true
  | 0, r, h, _ => h
  | n + 1, [], h, _ => h
  | n + 1, x :: r, h, ht => by
    rw [rightFrom] at h
    simp only [Bool.and_eq_true, decide_eq_true_eq] at h
    have hx := ht x (by simp)
    have h2 := h.2
    rw [if_neg (by rw [hx.1]; decide), hx.2] at h2
    exact right_same d n r h2 fun y hy => ht y (by rw [List.take_succ_cons]; exact List.mem_cons_of_mem _ hy)
theorem stops (p : Ro → Bool) : ∀ (l : List Ro) (z : Ro), (l.drop (l.takeWhile p).length).head? = some z → p z = false
  | [], z, h => by simp at h
  | x :: r, z, h => by
    by_cases hp : p x = true
    · rw [List.takeWhile_cons_of_pos hp, List.length_cons, List.drop_succ_cons] at h
      exact stops p r z h
    · rw [List.takeWhile_cons_of_neg hp] at h
      obtain rfl : x = z := by simpa using h
      simpa using hp
theorem takes (p : Ro → Bool) : ∀ (l : List Ro), ∀ x ∈ l.take (l.takeWhile p).length, p x = true
  | [], x, h => by simp at h
  | y :: r, x, h => by
    by_cases hp : p y = true
    · rw [List.takeWhile_cons_of_pos hp, List.length_cons, List.take_succ_cons] at h
      rcases List.mem_cons.1 h with rfl | h
      · exact hp
      · exact takes p r x h
    · rw [List.takeWhile_cons_of_neg hp] at h
      simp at h
theorem right_ok : ∀ (l : List Ro) (m : Int), rightFrom m l = true → ∀ x ∈ l, okRow x = true
  | [], _, _, x, h => by cases h
  | y :: r, m, h, x, hx => by
    rw [rightFrom] at h
    simp only [Bool.and_eq_true, decide_eq_true_eq] at h
    rcases List.mem_cons.1 hx with rfl | hx
    · exact h.1.2
    · exact right_ok r _ h.2 x hx

theorem normal_fold : ∀ (n : Nat) (l acc : List Ro) (m : Int), l.length ≤ n → rightFrom m l = true → (∀ y, acc.getLast? = some y → y.kind = 1 → ∀ x, l.head? = some x → x.kind = 1 → x.depth < y.depth) → l.foldl stepN acc = acc ++ normal l
  | _, [], acc, m, _, _, _ => by rw [List.foldl_nil, normal, List.append_nil]
  | 0, _ :: _, _, _, hn, _, _ => absurd hn (by simp)
  | n + 1, x :: r, acc, m, hn, hr, ha => by
    rw [List.length_cons] at hn
    have hok := right_ok _ _ hr
    rw [rightFrom] at hr
    simp only [Bool.and_eq_true, decide_eq_true_eq] at hr
    have h2 := hr.2
    rw [normal]
    by_cases hk : x.kind = 1
    · rw [if_pos hk]
      rw [if_neg (by rw [hk]; decide)] at h2
      obtain ⟨k, hkk⟩ : ∃ k, nexts x.depth r = k := ⟨_, rfl⟩
      rw [hkk]
      have htk : ∀ y ∈ r.take k, y.kind = 1 ∧ y.depth = x.depth := fun y hy => by
        rw [← hkk] at hy
        have := takes _ r y hy
        simpa using this
      have hst : ∀ z, (r.drop k).head? = some z → z.kind = 1 → z.depth ≠ x.depth := fun z hz e1 e2 => by
        rw [← hkk] at hz
        have := stops _ r z hz
        simp [e1, e2] at this
      have hrd := right_same x.depth k r h2 htk
      have hg : ∀ y ∈ x :: r.take k, y = ⟨x.depth, 1, .empty, y.data, []⟩ := fun y hy => by
        rcases List.mem_cons.1 hy with rfl | hy
        · exact text_form (hok _ List.mem_cons_self) hk
        · have e := text_form (hok y (List.mem_cons_of_mem _ (List.mem_of_mem_take hy))) (htk y hy).1
          rwa [(htk y hy).2] at e
      have hnt : NoTx x.depth acc := fun y hy e => by
        have := ha y hy e.1 x rfl hk
        omega
      have hz : ∀ z, (r.drop k).head? = some z → z.kind = 1 → z.depth < x.depth := fun z hz e => by
        have h1 := hst z hz e
        have h3 : z.depth ≤ x.depth := by
          cases hdk : r.drop k with
          | nil => rw [hdk] at hz; simp at hz
          | cons a t =>
            rw [hdk] at hz hrd
            obtain rfl : a = z := by simpa using hz
            rw [rightFrom] at hrd
            simp only [Bool.and_eq_true, decide_eq_true_eq] at hrd
            exact hrd.1.1.2
        omega
      have hsplit : x :: r = (x :: r.take k) ++ r.drop k := by rw [List.cons_append, List.take_append_drop]
      rw [hsplit, List.foldl_append, group_new x.depth _ acc hg hnt]
      rw [normal_fold n (r.drop k) _ x.depth (by rw [List.length_drop]; omega) hrd, List.append_assoc]
      · rfl
      · intro y hy hyk z hz2 hzk
        have h3 := hz z hz2 hzk
        by_cases ht : txt (x :: r.take k) = []
        · rw [joinedTx, if_pos ht, List.append_nil] at hy
          have := ha y hy hyk x rfl hk
          omega
        · rw [joinedTx, if_neg ht, List.getLast?_concat] at hy
          obtain rfl := Option.some.inj hy
          exact h3
    · rw [if_neg hk, List.foldl_cons]
      have hstep : stepN acc x = acc ++ [x] := by
        rw [stepN, if_neg fun e => hk e.1]
        cases hl : acc.getLast? with
        | none => rfl
        | some y =>
          show (if x.kind = 1 ∧ y.kind = 1 ∧ y.depth = x.depth then _ else acc ++ [x]) = _
          rw [if_neg fun e => hk e.1]
      rw [hstep, normal_fold n r _ _ (by omega) h2, List.append_assoc]
      · rfl
      · intro y hy hyk
        rw [List.getLast?_concat] at hy
        obtain rfl := Option.some.inj hy
        exact absurd hyk hk

/-- The two ways to join texts are the same. -/
theorem normal_ref {l : List Ro} (h : right l = true) : refNormal l = normal l := by
  rw [refNormal, normal_fold l.length l [] 0 (Nat.le_refl _) h (fun y hy => by simp at hy)]
  rfl

theorem exceeds_iff (l : List Ro) (n d : Int) : exceeds l n d = true ↔ n < l.length ∨ ∃ x ∈ l, d ≤ x.depth := by
  rw [exceeds, Bool.or_eq_true, decide_eq_true_eq, List.any_eq_true]
  simp only [decide_eq_true_eq]
theorem exceeds_out {l s : List Ro} {D : Int} {P : Nat} (hl : exceeds l 4096 60 = false) (hP : P ≤ l.length) :
    exceeds (l.take P ++ deeper (D + 1) s ++ l.drop P) 4096 60 = exceeds s (4096 - l.length) (60 - (D + 1)) := by
  rw [Bool.eq_iff_iff, exceeds_iff, exceeds_iff]
  have hlen : (l.take P ++ deeper (D + 1) s ++ l.drop P).length = l.length + s.length := by
    rw [List.length_append, List.length_append, len_deeper, List.length_take, List.length_drop]
    omega
  have hno : ∀ x ∈ l, x.depth < 60 := fun x hx => by
    rw [exceeds, Bool.or_eq_false_iff, List.any_eq_false] at hl
    have := hl.2 x hx
    rw [decide_eq_true_eq] at this
    omega
  rw [hlen]
  constructor
  · rintro (h | ⟨x, hx, hd⟩)
    · exact .inl (by omega)
    · rcases List.mem_append.1 hx with hx | hx
      · rcases List.mem_append.1 hx with hx | hx
        · have := hno x (List.mem_of_mem_take hx); omega
        · obtain ⟨y, hy, rfl⟩ := List.mem_map.1 hx
          exact .inr ⟨y, hy, by have : (60 : Int) ≤ y.depth + (D + 1) := hd; omega⟩
      · have := hno x (List.mem_of_mem_drop hx); omega
  · rintro (h | ⟨y, hy, hd⟩)
    · exact .inl (by omega)
    · exact .inr ⟨_, List.mem_append_left _ (List.mem_append_right _ (List.mem_map.2 ⟨y, hy, rfl⟩)), by show (60 : Int) ≤ y.depth + (D + 1); omega⟩
theorem elem_in {l : List Ro} {p : Int} (h : ¬ elemAt l p = false) : -1 ≤ p ∧ p < l.length := by
  rw [elemAt] at h
  by_cases h1 : p = -1
  · omega
  · by_cases h2 : 0 ≤ p ∧ p < l.length
    · omega
    · rw [decide_eq_false h1, decide_eq_false h2] at h
      exact absurd rfl h
/-- What Put answers in two ways. -/
theorem put_ref {l : List Ro} (hl : exceeds l 4096 60 = false) (p at_ : Int) (s : List Ro) : refPut l p at_ s = put l p at_ s := by
  rw [refPut, put]
  by_cases hE : elemAt l p = false
  · rw [if_pos hE, if_pos hE]
  · rw [if_neg hE, if_neg hE]
    obtain ⟨h1, h2⟩ := elem_in hE
    obtain ⟨P, hP, hP1⟩ := place_in l p at_ h1 h2
    rw [putOut, hP, Int.toNat_natCast, exceeds_out hl hP1]

end Go.Proofs.Ytblefklfgaohfaa.Ro
