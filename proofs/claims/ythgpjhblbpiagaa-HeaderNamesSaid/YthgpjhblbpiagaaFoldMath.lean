/-
  Plain mathematics for stage 2: lists that rise in a strict order, merging, inserting, counting; spaces, words and small letters of bytes. Nothing of the program stands here.
-/
namespace Go.Proofs.Ythgpjhblbpiagaa.Fm
set_option linter.unusedSimpArgs false
set_option linter.unusedVariables false

section order
variable {α : Type}

/-- A strict order in which two that are not less than one another are the same. -/
structure Ord (lt : α → α → Bool) : Prop where
  irr : ∀ a, lt a a = false
  tr : ∀ a b c, lt a b = true → lt b c = true → lt a c = true
  tri : ∀ a b, lt a b = false → lt b a = false → a = b

theorem Ord.ne {lt : α → α → Bool} (h : Ord lt) {a b : α} (hl : lt a b = true) : a ≠ b := by
  rintro rfl
  rw [h.irr] at hl
  cases hl
theorem Ord.asym {lt : α → α → Bool} (h : Ord lt) {a b : α} (hl : lt a b = true) : lt b a = false := by
  cases hb : lt b a with
  | false => rfl
  | true =>
    have := h.tr _ _ _ hl hb
    rw [h.irr] at this
    cases this

/-- The list rises. -/
def Asc (lt : α → α → Bool) (l : List α) : Prop := l.Pairwise fun a b => lt a b = true

theorem asc_nil (lt : α → α → Bool) : Asc lt [] := List.Pairwise.nil
theorem asc_cons {lt : α → α → Bool} {a : α} {l : List α} : Asc lt (a :: l) ↔ (∀ b ∈ l, lt a b = true) ∧ Asc lt l := List.pairwise_cons

theorem uniq {lt : α → α → Bool} (h : Ord lt) : ∀ (l m : List α), Asc lt l → Asc lt m → (∀ x, x ∈ l ↔ x ∈ m) → l = m
  | [], [], _, _, _ => rfl
  | [], b :: m, _, _, hx => by have := (hx b).2 (by simp); simp at this
  | a :: l, [], _, _, hx => by have := (hx a).1 (by simp); simp at this
  | a :: l, b :: m, ha, hb, hx => by
    obtain ⟨ha1, ha2⟩ := asc_cons.1 ha
    obtain ⟨hb1, hb2⟩ := asc_cons.1 hb
    have hab : a = b := by
      rcases List.mem_cons.1 ((hx a).1 (by simp)) with e | e
      · exact e
      · rcases List.mem_cons.1 ((hx b).2 (by simp)) with e' | e'
        · exact e'.symm
        · have h1 := hb1 a e
          have h2 := ha1 b e'
          have := h.tr _ _ _ h1 h2
          rw [h.irr] at this
          cases this
    subst hab
    have : l = m := by
      refine uniq h l m ha2 hb2 fun x => ⟨fun hm => ?_, fun hm => ?_⟩
      · rcases List.mem_cons.1 ((hx x).1 (List.mem_cons_of_mem _ hm)) with e | e
        · subst e
          exact absurd rfl (h.ne (ha1 x hm))
        · exact e
      · rcases List.mem_cons.1 ((hx x).2 (List.mem_cons_of_mem _ hm)) with e | e
        · subst e
          exact absurd rfl (h.ne (hb1 x hm))
        · exact e
    rw [this]

/-- Two lists as one, as the program merges them. -/
def mrg (lt : α → α → Bool) (a b : List α) : List α :=
  match a, b with
  | [], b => b
  | x :: a, [] => x :: a
  | x :: a, y :: b => if lt x y = true then x :: mrg lt a (y :: b) else if lt y x = true then y :: mrg lt (x :: a) b else mrg lt a (y :: b)
termination_by a.length + b.length

theorem mrg_nil (lt : α → α → Bool) (b : List α) : mrg lt [] b = b := by rw [mrg]
theorem mrg_nil' (lt : α → α → Bool) (a : List α) : mrg lt a [] = a := by
  cases a with
  | nil => rw [mrg]
  | cons x a => rw [mrg]
theorem mrg_lt {lt : α → α → Bool} {x y : α} (a b : List α) (h : lt x y = true) : mrg lt (x :: a) (y :: b) = x :: mrg lt a (y :: b) := by rw [mrg, if_pos h]
theorem mrg_gt {lt : α → α → Bool} {x y : α} (a b : List α) (h : lt x y = false) (h' : lt y x = true) : mrg lt (x :: a) (y :: b) = y :: mrg lt (x :: a) b := by
  rw [mrg, if_neg (by simp [h]), if_pos h']
theorem mrg_eq {lt : α → α → Bool} {x y : α} (a b : List α) (h : lt x y = false) (h' : lt y x = false) : mrg lt (x :: a) (y :: b) = mrg lt a (y :: b) := by
  rw [mrg, if_neg (by simp [h]), if_neg (by simp [h'])]

theorem len_mrg (lt : α → α → Bool) (a b : List α) : (mrg lt a b).length ≤ a.length + b.length := by
  match a, b with
  | [], b => rw [mrg_nil]; simp
  | x :: a, [] => rw [mrg_nil']; simp
  | x :: a, y :: b =>
    cases h1 : lt x y with
    | true =>
      rw [mrg_lt _ _ h1]
      have := len_mrg lt a (y :: b)
      simp at this ⊢; omega
    | false =>
      cases h2 : lt y x with
      | true =>
        rw [mrg_gt _ _ h1 h2]
        have := len_mrg lt (x :: a) b
        simp at this ⊢; omega
      | false =>
        rw [mrg_eq _ _ h1 h2]
        have := len_mrg lt a (y :: b)
        simp at this ⊢; omega
termination_by a.length + b.length

theorem mem_mrg {lt : α → α → Bool} (h : Ord lt) (z : α) (a b : List α) : z ∈ mrg lt a b ↔ z ∈ a ∨ z ∈ b := by
  match a, b with
  | [], b => rw [mrg_nil]; simp
  | x :: a, [] => rw [mrg_nil']; simp
  | x :: a, y :: b =>
    cases h1 : lt x y with
    | true =>
      rw [mrg_lt _ _ h1, List.mem_cons, mem_mrg h z a (y :: b), List.mem_cons (l := a), or_assoc]
    | false =>
      cases h2 : lt y x with
      | true =>
        rw [mrg_gt _ _ h1 h2, List.mem_cons, mem_mrg h z (x :: a) b, List.mem_cons (l := b)]
        exact or_left_comm
      | false =>
        rw [mrg_eq _ _ h1 h2, mem_mrg h z a (y :: b)]
        have e := h.tri _ _ h1 h2
        subst e
        rw [List.mem_cons (l := a), List.mem_cons (l := b)]
        constructor
        · rintro (e | e)
          · exact .inl (.inr e)
          · exact .inr e
        · rintro ((e | e) | e)
          · exact .inr (.inl e)
          · exact .inl e
          · exact .inr e
termination_by a.length + b.length

theorem asc_mrg {lt : α → α → Bool} (h : Ord lt) (a b : List α) (ha : Asc lt a) (hb : Asc lt b) : Asc lt (mrg lt a b) := by
  match a, b with
  | [], b => rw [mrg_nil]; exact hb
  | x :: a, [] => rw [mrg_nil']; exact ha
  | x :: a, y :: b =>
    obtain ⟨ha1, ha2⟩ := asc_cons.1 ha
    obtain ⟨hb1, hb2⟩ := asc_cons.1 hb
    cases h1 : lt x y with
    | true =>
      rw [mrg_lt _ _ h1]
      refine asc_cons.2 ⟨fun z hz => ?_, asc_mrg h a (y :: b) ha2 hb⟩
      rcases (mem_mrg h z _ _).1 hz with e | e
      · exact ha1 z e
      · rcases List.mem_cons.1 e with e | e
        · rw [e]; exact h1
        · exact h.tr _ _ _ h1 (hb1 z e)
    | false =>
      cases h2 : lt y x with
      | true =>
        rw [mrg_gt _ _ h1 h2]
        refine asc_cons.2 ⟨fun z hz => ?_, asc_mrg h (x :: a) b ha hb2⟩
        rcases (mem_mrg h z _ _).1 hz with e | e
        · rcases List.mem_cons.1 e with e | e
          · rw [e]; exact h2
          · exact h.tr _ _ _ h2 (ha1 z e)
        · exact hb1 z e
      | false =>
        rw [mrg_eq _ _ h1 h2]
        exact asc_mrg h a (y :: b) ha2 hb
termination_by a.length + b.length

/-- A name put at its place; 'put': it is there already. -/
def insL (lt : α → α → Bool) (x : α) : Bool → List α → List α
  | true, l => l
  | false, [] => [x]
  | false, y :: l => if lt x y = true then x :: y :: l else y :: insL lt x false l

theorem insL_true (lt : α → α → Bool) (x : α) (l : List α) : insL lt x true l = l := by cases l <;> rfl
theorem len_insL (lt : α → α → Bool) (x : α) : ∀ (p : Bool) (l : List α), (insL lt x p l).length ≤ l.length + 1
  | true, l => by rw [insL_true]; omega
  | false, [] => by simp [insL]
  | false, y :: l => by
    have := len_insL lt x false l
    unfold insL
    split <;> simp <;> omega
theorem mem_insL (lt : α → α → Bool) (x z : α) : ∀ l : List α, z ∈ insL lt x false l ↔ z = x ∨ z ∈ l
  | [] => by simp [insL]
  | y :: l => by
    have := mem_insL lt x z l
    unfold insL
    split
    · simp
    · rw [List.mem_cons, this, List.mem_cons]
      exact or_left_comm
theorem asc_insL {lt : α → α → Bool} (h : Ord lt) (x : α) : ∀ l : List α, Asc lt l → x ∉ l → Asc lt (insL lt x false l)
  | [], _, _ => by simp [insL, Asc]
  | y :: l, ha, hx => by
    obtain ⟨ha1, ha2⟩ := asc_cons.1 ha
    unfold insL
    split
    · rename_i hl
      refine asc_cons.2 ⟨fun z hz => ?_, ha⟩
      rcases List.mem_cons.1 hz with e | e
      · rw [e]; exact hl
      · exact h.tr _ _ _ hl (ha1 z e)
    · rename_i hl
      have hyx : lt y x = true := by
        cases hq : lt y x with
        | true => rfl
        | false =>
          have := h.tri x y (by simpa using hl) hq
          subst this
          simp at hx
      refine asc_cons.2 ⟨fun z hz => ?_, asc_insL h x l ha2 fun hm => hx (List.mem_cons_of_mem _ hm)⟩
      rcases (mem_insL lt x z l).1 hz with e | e
      · rw [e]; exact hyx
      · exact ha1 z e

/-- How many names are smaller. -/
def below (lt : α → α → Bool) (l : List α) (s : α) : Nat := l.countP (lt · s)

theorem asc_get {lt : α → α → Bool} {l : List α} (h : Asc lt l) {i j : Nat} (hij : i < j) (hj : j < l.length) : lt (l[i]'(by omega)) l[j] = true :=
  List.pairwise_iff_getElem.1 h i j (by omega) hj hij
theorem low_of {lt : α → α → Bool} (h : Ord lt) {l : List α} (ha : Asc lt l) {s : α} {m : Nat} (hm : m < l.length) (hs : lt l[m] s = true) {i : Nat} (hi : i ≤ m) : lt (l[i]'(by omega)) s = true := by
  rcases Nat.lt_or_ge i m with h1 | h1
  · exact h.tr _ _ _ (asc_get ha h1 hm) hs
  · have : i = m := by omega
    subst this
    exact hs
theorem high_of {lt : α → α → Bool} (h : Ord lt) {l : List α} (ha : Asc lt l) {s : α} {m : Nat} (hm : m < l.length) (hs : lt l[m] s = false) {i : Nat} (hi : m ≤ i) (hl : i < l.length) : lt l[i] s = false := by
  cases hq : lt l[i] s with
  | false => rfl
  | true =>
    have := low_of h ha hl hq hi
    rw [hs] at this
    cases this
theorem below_of {lt : α → α → Bool} {l : List α} {s : α} {k : Nat} (hk : k ≤ l.length) (h1 : ∀ i (hi : i < k), lt (l[i]'(by omega)) s = true) (h2 : ∀ i, k ≤ i → (hi : i < l.length) → lt l[i] s = false) : below lt l s = k := by
  unfold below
  have e : l.countP (lt · s) = (l.take k).countP (lt · s) + (l.drop k).countP (lt · s) := by rw [← List.countP_append, List.take_append_drop]
  have e1 : (l.take k).countP (lt · s) = (l.take k).length := by
    rw [List.countP_eq_length]
    intro a ha
    obtain ⟨i, hi, rfl⟩ := List.getElem_of_mem ha
    rw [List.length_take] at hi
    rw [List.getElem_take]
    exact h1 i (by omega)
  have e2 : (l.drop k).countP (lt · s) = 0 := by
    rw [List.countP_eq_zero]
    intro a ha
    obtain ⟨i, hi, rfl⟩ := List.getElem_of_mem ha
    rw [List.length_drop] at hi
    rw [List.getElem_drop]
    simp [h2 (k + i) (by omega) (by omega)]
  rw [e, e1, e2, List.length_take]
  omega
theorem found_of {lt : α → α → Bool} (h : Ord lt) {l : List α} {s : α} {k : Nat} (h1 : ∀ i, (hi : i < l.length) → i < k → lt l[i] s = true) (ha : Asc lt l) (hkl : k < l.length) (hk : lt l[k] s = false) : (l[k] = s ↔ s ∈ l) := by
  constructor
  · rintro rfl
    exact List.getElem_mem _
  · intro hm
    obtain ⟨i, hi, rfl⟩ := List.getElem_of_mem hm
    rcases Nat.lt_trichotomy i k with hc | hc | hc
    · have := h1 i hi hc
      rw [h.irr] at this
      cases this
    · subst hc; rfl
    · have := asc_get ha hc hi
      rw [hk] at this
      cases this
theorem notfound_of {lt : α → α → Bool} (h : Ord lt) {l : List α} {s : α} (h1 : ∀ i, (hi : i < l.length) → lt l[i] s = true) : s ∉ l := by
  intro hm
  obtain ⟨i, hi, rfl⟩ := List.getElem_of_mem hm
  have := h1 i hi
  rw [h.irr] at this
  cases this
/-- In a list that rises each stands where as many are smaller as its place says. -/
theorem below_at {lt : α → α → Bool} (h : Ord lt) {l : List α} (ha : Asc lt l) {k : Nat} (hk : k < l.length) : below lt l l[k] = k := by
  refine below_of (Nat.le_of_lt hk) (fun i hi => asc_get ha hi hk) fun i hki hi => ?_
  rcases Nat.lt_or_ge k i with hc | hc
  · exact h.asym (asc_get ha hc hi)
  · have : i = k := by omega
    subst this
    exact h.irr _

variable [DecidableEq α]

/-- Does it stand there? -/
def isIn (x : α) (l : List α) : Bool := decide (x ∈ l)
theorem isIn_yes {x : α} {l : List α} (h : x ∈ l) : isIn x l = true := decide_eq_true h
theorem isIn_no {x : α} {l : List α} (h : ¬ x ∈ l) : isIn x l = false := decide_eq_false h
theorem isIn_of {x : α} {l : List α} (h : isIn x l = true) : x ∈ l := of_decide_eq_true h
theorem notIn_of {x : α} {l : List α} (h : isIn x l = false) : ¬ x ∈ l := of_decide_eq_false h
theorem isIn_congr {x : α} {l m : List α} (h : x ∈ l ↔ x ∈ m) : isIn x l = isIn x m := decide_eq_decide.2 h

def ins (lt : α → α → Bool) (x : α) (l : List α) : List α := insL lt x (isIn x l) l
/-- Each name once, in order. -/
def srt (lt : α → α → Bool) (l : List α) : List α := l.foldl (fun out x => ins lt x out) []

theorem mem_ins (lt : α → α → Bool) (x z : α) (l : List α) : z ∈ ins lt x l ↔ z = x ∨ z ∈ l := by
  unfold ins
  by_cases hx : x ∈ l
  · rw [isIn_yes hx, insL_true]
    exact ⟨.inr, fun h => h.elim (fun e => e ▸ hx) id⟩
  · rw [isIn_no hx, mem_insL]
theorem asc_ins {lt : α → α → Bool} (h : Ord lt) (x : α) (l : List α) (ha : Asc lt l) : Asc lt (ins lt x l) := by
  unfold ins
  by_cases hx : x ∈ l
  · rw [isIn_yes hx, insL_true]; exact ha
  · rw [isIn_no hx]; exact asc_insL h x l ha hx

theorem srt_snoc (lt : α → α → Bool) (l : List α) (x : α) : srt lt (l ++ [x]) = ins lt x (srt lt l) := by
  unfold srt
  rw [List.foldl_append]
  rfl
theorem srt_nil (lt : α → α → Bool) : srt lt ([] : List α) = [] := rfl
theorem len_srt (lt : α → α → Bool) : ∀ l : List α, (srt lt l).length ≤ l.length := by
  have : ∀ (l out : List α), (l.foldl (fun out x => ins lt x out) out).length ≤ out.length + l.length := by
    intro l
    induction l with
    | nil => intro out; simp
    | cons x l ih =>
      intro out
      have h1 := ih (ins lt x out)
      have h2 := len_insL lt x (isIn x out) out
      simp only [List.foldl_cons, List.length_cons]
      unfold ins at h1 ⊢
      omega
  intro l
  have := this l []
  simpa [srt] using this
theorem srt_is {lt : α → α → Bool} (h : Ord lt) : ∀ l : List α, Asc lt (srt lt l) ∧ ∀ z, z ∈ srt lt l ↔ z ∈ l := by
  have : ∀ (l out : List α), Asc lt out → Asc lt (l.foldl (fun out x => ins lt x out) out) ∧ ∀ z, z ∈ l.foldl (fun out x => ins lt x out) out ↔ z ∈ out ∨ z ∈ l := by
    intro l
    induction l with
    | nil => intro out ho; exact ⟨ho, by simp⟩
    | cons x l ih =>
      intro out ho
      obtain ⟨h1, h2⟩ := ih (ins lt x out) (asc_ins h x out ho)
      refine ⟨h1, fun z => ?_⟩
      rw [List.foldl_cons, h2, mem_ins, List.mem_cons]
      constructor
      · rintro ((e | e) | e)
        · exact .inr (.inl e)
        · exact .inl e
        · exact .inr (.inr e)
      · rintro (e | e | e)
        · exact .inl (.inr e)
        · exact .inl (.inl e)
        · exact .inr e
  intro l
  obtain ⟨h1, h2⟩ := this l [] (asc_nil lt)
  exact ⟨h1, fun z => (h2 z).trans (by simp)⟩
theorem srt_of {lt : α → α → Bool} (h : Ord lt) {l r : List α} (ha : Asc lt r) (hm : ∀ z, z ∈ r ↔ z ∈ l) : r = srt lt l :=
  uniq h _ _ ha (srt_is h l).1 fun x => (hm x).trans ((srt_is h l).2 x).symm
theorem srt_small {lt : α → α → Bool} (h : Ord lt) {l : List α} (hl : l.length < 2) : l = srt lt l := by
  refine srt_of h ?_ fun z => Iff.rfl
  match l, hl with
  | [], _ => exact asc_nil lt
  | [x], _ => simp [Asc]
theorem srt_halves {lt : α → α → Bool} (h : Ord lt) (l : List α) (m : Nat) : mrg lt (srt lt (l.take m)) (srt lt (l.drop m)) = srt lt l := by
  refine srt_of h (asc_mrg h _ _ (srt_is h _).1 (srt_is h _).1) fun z => ?_
  rw [mem_mrg h, (srt_is h _).2, (srt_is h _).2]
  conv => rhs; rw [← List.take_append_drop m l, List.mem_append]
theorem srt_srt {lt : α → α → Bool} (h : Ord lt) (l : List α) : srt lt (srt lt l) = srt lt l := (srt_of h (srt_is h l).1 fun _ => Iff.rfl).symm

/-- What is not in another list. -/
def mns (a b : List α) : List α := a.filter fun x => !isIn x b
theorem mns_nil (a : List α) : mns a [] = a := by simp [mns, isIn]
theorem mns_self (a b : List α) (h : ∀ x ∈ a, x ∈ b) : mns a b = [] := by
  unfold mns
  rw [List.filter_eq_nil_iff]
  intro x hx
  simp [isIn_yes (h x hx)]
theorem mns_yes (a b : List α) (x : α) (h : isIn x b = true) : mns (a ++ [x]) b = mns a b := by
  unfold mns
  rw [List.filter_append]
  simp [h]
theorem mns_no (a b : List α) (x : α) (h : isIn x b = false) : mns (a ++ [x]) b = mns a b ++ [x] := by
  unfold mns
  rw [List.filter_append]
  simp [h]
theorem len_mns (a b : List α) : (mns a b).length ≤ a.length := List.length_filter_le _ _

end order

section bytes

/-- A space. -/
def sp (c : UInt8) : Bool := c == 32 || c == 9 || c == 10 || c == 12 || c == 13
/-- A letter. -/
def lr (c : UInt8) : Bool := (decide (65 ≤ c) && decide (c ≤ 90)) || (decide (97 ≤ c) && decide (c ≤ 122))
/-- A small letter. -/
def low (c : UInt8) : UInt8 := if 65 ≤ c ∧ c ≤ 90 then c + 32 else c
def lowL (l : List UInt8) : List UInt8 := l.map low

theorem low_low (c : UInt8) : low (low c) = low c := by
  unfold low
  by_cases h : 65 ≤ c ∧ c ≤ 90
  · rw [if_pos h, if_neg]
    intro h'
    have h1 := UInt8.le_iff_toNat_le.1 h.1
    have h2 := UInt8.le_iff_toNat_le.1 h.2
    have h3 := UInt8.le_iff_toNat_le.1 h'.2
    rw [UInt8.toNat_add] at h3
    simp at h1 h2 h3
    omega
  · rw [if_neg h, if_neg h]
theorem lowL_lowL (l : List UInt8) : lowL (lowL l) = lowL l := by
  unfold lowL
  rw [List.map_map]
  exact List.map_congr_left fun c _ => low_low c
theorem lowL_append (a b : List UInt8) : lowL (a ++ b) = lowL a ++ lowL b := List.map_append
theorem len_lowL (l : List UInt8) : (lowL l).length = l.length := List.length_map ..

/-- Without the spaces at the beginning. -/
def trimS (l : List UInt8) : List UInt8 := l.dropWhile sp
/-- Without the spaces at the end. -/
def trimE (l : List UInt8) : List UInt8 := (l.reverse.dropWhile sp).reverse
def trimL (l : List UInt8) : List UInt8 := trimE (trimS l)

theorem trimS_sp {c : UInt8} (l : List UInt8) (h : sp c = true) : trimS (c :: l) = trimS l := by simp [trimS, List.dropWhile_cons, h]
theorem trimS_no {c : UInt8} (l : List UInt8) (h : sp c = false) : trimS (c :: l) = c :: l := by simp [trimS, List.dropWhile_cons, h]
theorem trimS_nil : trimS [] = [] := rfl
theorem trimE_nil : trimE [] = [] := rfl
theorem trimE_sp {c : UInt8} (l : List UInt8) (h : sp c = true) : trimE (l ++ [c]) = trimE l := by simp [trimE, List.dropWhile_cons, h]
theorem trimE_no {c : UInt8} (l : List UInt8) (h : sp c = false) : trimE (l ++ [c]) = l ++ [c] := by simp [trimE, List.dropWhile_cons, h]

theorem snoc_cases (l : List UInt8) : l = [] ∨ ∃ m c, l = m ++ [c] := by
  rcases List.eq_nil_or_concat l with h | ⟨m, c, h⟩
  · exact .inl h
  · exact .inr ⟨m, c, by rw [h, List.concat_eq_append]⟩

theorem len_trimS : ∀ l : List UInt8, (trimS l).length ≤ l.length
  | [] => Nat.le_refl _
  | c :: l => by
    cases h : sp c with
    | true => rw [trimS_sp l h]; have := len_trimS l; simp; omega
    | false => rw [trimS_no l h]; exact Nat.le_refl _
theorem len_trimE (l : List UInt8) : (trimE l).length ≤ l.length := by
  have := len_trimS l.reverse
  unfold trimE
  rw [List.length_reverse]
  rw [List.length_reverse] at this
  exact this
theorem len_trimL (l : List UInt8) : (trimL l).length ≤ l.length := Nat.le_trans (len_trimE _) (len_trimS l)

theorem head_trimS : ∀ l : List UInt8, trimS l = [] ∨ ∃ c m, trimS l = c :: m ∧ sp c = false
  | [] => .inl rfl
  | c :: l => by
    cases h : sp c with
    | true => rw [trimS_sp l h]; exact head_trimS l
    | false => rw [trimS_no l h]; exact .inr ⟨c, l, rfl, h⟩
theorem last_trimE (l : List UInt8) : trimE l = [] ∨ ∃ m c, trimE l = m ++ [c] ∧ sp c = false := by
  rcases head_trimS l.reverse with h | ⟨c, m, h, hc⟩
  · left
    unfold trimE
    unfold trimS at h
    rw [h]; rfl
  · right
    refine ⟨m.reverse, c, ?_, hc⟩
    unfold trimE
    unfold trimS at h
    rw [h, List.reverse_cons]
/-- What begins with no space begins so without the spaces at its end. -/
theorem trimE_cons {c : UInt8} (l : List UInt8) (h : sp c = false) : ∃ m, trimE (c :: l) = c :: m := by
  have : ∀ n, ∀ l : List UInt8, l.length ≤ n → ∃ m, trimE (c :: l) = c :: m := by
    intro n
    induction n with
    | zero =>
      intro l hl
      obtain rfl : l = [] := List.eq_nil_of_length_eq_zero (by omega)
      exact ⟨[], trimE_no [] h⟩
    | succ n ih =>
      intro l hl
      rcases snoc_cases l with rfl | ⟨m, d, rfl⟩
      · exact ⟨[], trimE_no [] h⟩
      · cases hd : sp d with
        | true =>
          rw [← List.cons_append, trimE_sp _ hd]
          exact ih m (by simp at hl; omega)
        | false =>
          rw [← List.cons_append, trimE_no _ hd]
          exact ⟨m ++ [d], rfl⟩
  exact this l.length l (Nat.le_refl _)
theorem trimL_cases (l : List UInt8) : trimL l = [] ∨ ((∃ c m, trimL l = c :: m ∧ sp c = false) ∧ ∃ m c, trimL l = m ++ [c] ∧ sp c = false) := by
  rcases head_trimS l with h | ⟨c, m, h, hc⟩
  · left; unfold trimL; rw [h]; rfl
  · rcases last_trimE (trimS l) with h' | h'
    · exact .inl h'
    · right
      refine ⟨?_, h'⟩
      obtain ⟨m', hm'⟩ := trimE_cons m hc
      exact ⟨c, m', by unfold trimL; rw [h]; exact hm', hc⟩
theorem trimL_trimL (l : List UInt8) : trimL (trimL l) = trimL l := by
  rcases trimL_cases l with h | ⟨⟨c, m, h, hc⟩, ⟨m', c', h', hc'⟩⟩
  · rw [h]; rfl
  · have e : trimS (trimL l) = trimL l := by rw [h]; exact trimS_no m hc
    have e' : trimE (trimL l) = trimL l := by rw [h']; exact trimE_no m' hc'
    show trimE (trimS (trimL l)) = trimL l
    rw [e, e']
/-- A space ahead and one behind make no difference. -/
theorem trimE_append (l : List UInt8) (c : UInt8) (h : sp c = true) : trimL (l ++ [c]) = trimL l := by
  have : ∀ l : List UInt8, trimS (l ++ [c]) = trimS l ++ [c] ∨ (trimS (l ++ [c]) = [] ∧ trimS l = []) := by
    intro l
    induction l with
    | nil => right; exact ⟨by rw [List.nil_append, trimS_sp _ h]; rfl, rfl⟩
    | cons d l ih =>
      cases hd : sp d with
      | true => rw [List.cons_append, trimS_sp _ hd, trimS_sp _ hd]; exact ih
      | false => left; rw [List.cons_append, trimS_no _ hd, trimS_no _ hd]; rfl
  unfold trimL
  rcases this l with e | ⟨e, e'⟩
  · rw [e, trimE_sp _ h]
  · rw [e, e']

/-- What stands between spaces; 'cur': the word so far. -/
def wL : List UInt8 → List UInt8 → List (List UInt8)
  | cur, [] => if cur = [] then [] else [cur]
  | cur, c :: l => if sp c = true then (if cur = [] then wL [] l else cur :: wL [] l) else wL (cur ++ [c]) l

theorem wL_end (cur : List UInt8) : wL cur [] = if cur = [] then [] else [cur] := rfl
theorem wL_end0 : wL [] [] = [] := rfl
theorem wL_endp {cur : List UInt8} (h : cur ≠ []) : wL cur [] = [cur] := by rw [wL_end, if_neg h]
theorem wL_no {c : UInt8} (cur l : List UInt8) (h : sp c = false) : wL cur (c :: l) = wL (cur ++ [c]) l := by rw [wL, if_neg (by simp [h])]
theorem wL_sp0 {c : UInt8} (l : List UInt8) (h : sp c = true) : wL [] (c :: l) = wL [] l := by rw [wL, if_pos h, if_pos rfl]
theorem wL_sp {c : UInt8} {cur : List UInt8} (l : List UInt8) (h : sp c = true) (hc : cur ≠ []) : wL cur (c :: l) = cur :: wL [] l := by rw [wL, if_pos h, if_neg hc]

theorem wL_behind {c : UInt8} (h : sp c = true) : ∀ (l cur : List UInt8), wL cur (l ++ [c]) = wL cur l
  | [], cur => by
    by_cases hc : cur = []
    · subst hc; rw [List.nil_append, wL_sp0 _ h]
    · rw [List.nil_append, wL_sp _ h hc, wL_endp hc]; rfl
  | d :: l, cur => by
    cases hd : sp d with
    | false => rw [List.cons_append, wL_no _ _ hd, wL_no _ _ hd]; exact wL_behind h l _
    | true =>
      by_cases hc : cur = []
      · subst hc; rw [List.cons_append, wL_sp0 _ hd, wL_sp0 _ hd]; exact wL_behind h l _
      · rw [List.cons_append, wL_sp _ hd hc, wL_sp _ hd hc, wL_behind h l _]
theorem wL_trimS : ∀ l : List UInt8, wL [] (trimS l) = wL [] l
  | [] => rfl
  | c :: l => by
    cases h : sp c with
    | true => rw [trimS_sp l h, wL_sp0 l h]; exact wL_trimS l
    | false => rw [trimS_no l h]
theorem wL_trimE (l : List UInt8) : wL [] (trimE l) = wL [] l := by
  have : ∀ n, ∀ l : List UInt8, l.length ≤ n → wL [] (trimE l) = wL [] l := by
    intro n
    induction n with
    | zero =>
      intro l hl
      obtain rfl : l = [] := List.eq_nil_of_length_eq_zero (by omega)
      rfl
    | succ n ih =>
      intro l hl
      rcases snoc_cases l with rfl | ⟨m, d, rfl⟩
      · rfl
      · cases hd : sp d with
        | true => rw [trimE_sp _ hd, wL_behind hd, ih m (by simp at hl; omega)]
        | false => rw [trimE_no _ hd]
  exact this l.length l (Nat.le_refl _)
theorem wL_trimL (l : List UInt8) : wL [] (trimL l) = wL [] l := by unfold trimL; rw [wL_trimE, wL_trimS]
theorem wL_cur : ∀ (l cur : List UInt8), cur ≠ [] → wL cur l ≠ []
  | [], cur, h => by rw [wL_endp h]; simp
  | c :: l, cur, h => by
    cases hc : sp c with
    | true => rw [wL_sp l hc h]; simp
    | false => rw [wL_no _ _ hc]; exact wL_cur l _ (by simp)
theorem wL_none (l : List UInt8) : wL [] l = [] ↔ trimL l = [] := by
  rw [← wL_trimL]
  rcases trimL_cases l with h | ⟨⟨c, m, h, hc⟩, _⟩
  · rw [h]; simp [wL_end0]
  · rw [h, wL_no _ _ hc]
    constructor
    · intro e; exact absurd e (wL_cur m _ (by simp))
    · intro e; cases e
theorem wL_joins {c : UInt8} (h : sp c = true) (b : List UInt8) : ∀ (a cur : List UInt8), wL cur (a ++ c :: b) = wL cur a ++ wL [] b
  | [], cur => by
    by_cases hc : cur = []
    · subst hc; rw [List.nil_append, wL_sp0 _ h]; rfl
    · rw [List.nil_append, wL_sp _ h hc, wL_endp hc]; rfl
  | d :: a, cur => by
    cases hd : sp d with
    | false => rw [List.cons_append, wL_no _ _ hd, wL_no _ _ hd]; exact wL_joins h b a _
    | true =>
      by_cases hc : cur = []
      · subst hc; rw [List.cons_append, wL_sp0 _ hd, wL_sp0 _ hd]; exact wL_joins h b a _
      · rw [List.cons_append, wL_sp _ hd hc, wL_sp _ hd hc, wL_joins h b a _]; rfl
theorem len_wL : ∀ (l cur : List UInt8), (wL cur l).length ≤ l.length + 1 ∧ (cur = [] → (wL cur l).length ≤ l.length)
  | [], cur => by
    by_cases hc : cur = []
    · subst hc; simp [wL_end0]
    · rw [wL_endp hc]; simp [hc]
  | d :: l, cur => by
    cases hd : sp d with
    | false =>
      rw [wL_no _ _ hd]
      have := len_wL l (cur ++ [d])
      simp
      omega
    | true =>
      by_cases hc : cur = []
      · subst hc
        rw [wL_sp0 _ hd]
        have := (len_wL l []).2 rfl
        simp
        omega
      · rw [wL_sp _ hd hc]
        have := (len_wL l []).2 rfl
        simp [hc]
        omega

end bytes
end Go.Proofs.Ythgpjhblbpiagaa.Fm
