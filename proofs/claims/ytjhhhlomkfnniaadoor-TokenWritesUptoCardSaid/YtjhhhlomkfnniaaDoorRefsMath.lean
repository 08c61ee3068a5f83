/-
  Plain mathematics of stage 3 (character references): what a number, a name and a reference stand for; a text decoded; a text written out; what follows for the laws. It speaks of no program.
-/
import Derived.Test.YtjhhhlomkfnniaaDoorBase
namespace Go.Proofs.YtjhhhlomkfnniaaDoor.Rm
set_option linter.unusedSimpArgs false
set_option linter.unusedVariables false

/-- A character's bytes. -/
def enc (n : Nat) : List UInt8 :=
  if n < 128 then [UInt8.ofNat n]
  else if n < 2048 then [UInt8.ofNat (192 + n / 64), UInt8.ofNat (128 + n % 64)]
  else if n < 65536 then [UInt8.ofNat (224 + n / 4096), UInt8.ofNat (128 + n / 64 % 64), UInt8.ofNat (128 + n % 64)]
  else [UInt8.ofNat (240 + n / 262144), UInt8.ofNat (128 + n / 4096 % 64), UInt8.ofNat (128 + n / 64 % 64), UInt8.ofNat (128 + n % 64)]
theorem len_enc (n : Nat) : (enc n).length ≤ 4 := by
  unfold enc
  repeat' split
  all_goals simp
/-- No character has this number. -/
def bad (n : Int) : Bool := decide (n < 1) || decide (1114111 < n) || (decide (55296 ≤ n) && decide (n ≤ 57343))
def code (n : Int) : List UInt8 := if bad n then [239, 191, 189] else if n = 13 then [10] else enc n.toNat
theorem len_code (n : Int) : (code n).length ≤ 4 := by
  unfold code
  split
  · simp
  · split
    · simp
    · exact len_enc _
theorem code_big (n : Int) (h : 1114111 < n) : code n = [239, 191, 189] := by
  unfold code bad
  simp [h]
theorem code_min (n : Int) : code (min n 1114112) = code n := by
  by_cases h : n ≤ 1114112
  · rw [show min n 1114112 = n from by omega]
  · rw [code_big n (by omega), code_big _ (by omega)]

/-- The names, and the numbers of their characters. -/
def tab : List (List UInt8 × Nat) := [([97, 109, 112], 38), ([108, 116], 60), ([103, 116], 62), ([113, 117, 111, 116], 34), ([97, 112, 111, 115], 39), ([110, 98, 115, 112], 160), ([99, 111, 112, 121], 169), ([114, 101, 103], 174), ([112, 97, 114, 97], 182), ([109, 105, 100, 100, 111, 116], 183), ([101, 97, 99, 117, 116, 101], 233), ([97, 117, 109, 108], 228), ([111, 117, 109, 108], 246), ([117, 117, 109, 108], 252), ([115, 122, 108, 105, 103], 223), ([101, 117, 114, 111], 8364), ([104, 101, 108, 108, 105, 112], 8230), ([110, 100, 97, 115, 104], 8211), ([109, 100, 97, 115, 104], 8212), ([98, 117, 108, 108], 8226), ([84, 97, 98], 9), ([78, 101, 119, 76, 105, 110, 101], 10), ([99, 111, 108, 111, 110], 58), ([108, 112, 97, 114], 40)]
def look : List (List UInt8 × Nat) → List UInt8 → Option (List UInt8)
  | [], _ => none
  | p :: r, s => if p.1 = s then some (code p.2) else look r s
theorem look_some {t : List (List UInt8 × Nat)} {s x : List UInt8} (h : look t s = some x) : ∃ n, (s, n) ∈ t ∧ x = code n := by
  induction t with
  | nil => cases h
  | cons p r ih =>
    unfold look at h
    split at h
    · rename_i e
      injection h with h
      exact ⟨p.2, by rw [← e]; exact List.mem_cons_self, h.symm⟩
    · obtain ⟨n, h1, h2⟩ := ih h
      exact ⟨n, List.mem_cons_of_mem _ h1, h2⟩
theorem tab_long : ∀ p ∈ tab, 2 ≤ p.1.length ∧ (38 : UInt8) ∉ p.1 := by decide

def dig (c : UInt8) : Int := if 48 ≤ c.toNat ∧ c.toNat ≤ 57 then c.toNat - 48 else if 97 ≤ c.toNat ∧ c.toNat ≤ 102 then c.toNat - 87 else if 65 ≤ c.toNat ∧ c.toNat ≤ 70 then c.toNat - 55 else -1
theorem dig_le (c : UInt8) : -1 ≤ dig c ∧ dig c ≤ 15 := by
  unfold dig
  split
  · omega
  split
  · omega
  split
  · omega
  · omega
/-- What digits of a base come to, kept just above all characters. -/
def val (base : Int) : Int → List UInt8 → Option Int
  | n, [] => some n
  | n, c :: r => if dig c < 0 ∨ base ≤ dig c then none else val base (min (n * base + dig c) 1114112) r
def numL (base : Int) (l : List UInt8) : Option (List UInt8) := if l = [] then none else (val base 0 l).map code
theorem val_no {base : Int} {l : List UInt8} {c : UInt8} (hc : c ∈ l) (hd : dig c < 0) (n : Int) : val base n l = none := by
  induction l generalizing n with
  | nil => cases hc
  | cons x r ih =>
    unfold val
    split
    · rfl
    · rename_i h
      rcases List.mem_cons.1 hc with e | hr
      · rw [← e] at h; exact absurd (Or.inl hd) h
      · exact ih hr _
/-- What a reference's body stands for. -/
def meant (s : List UInt8) : Option (List UInt8) :=
  if s.head? = some 35 then (if s[1]? = some 120 ∨ s[1]? = some 88 then numL 16 (s.drop 2) else numL 10 (s.drop 1)) else look tab s
theorem numL_some {base : Int} {l x : List UInt8} (h : numL base l = some x) : l ≠ [] ∧ ∃ n, x = code n := by
  unfold numL at h
  split at h
  · cases h
  · rename_i hl
    cases hv : val base 0 l with
    | none => rw [hv] at h; cases h
    | some n =>
      rw [hv] at h
      injection h with h
      exact ⟨hl, n, h.symm⟩
theorem meant_len {s t : List UInt8} (h : meant s = some t) : 2 ≤ s.length ∧ t.length ≤ 4 := by
  unfold meant at h
  split at h
  · split at h
    · obtain ⟨h1, n, rfl⟩ := numL_some h
      refine ⟨?_, len_code n⟩
      have : 0 < (s.drop 2).length := List.length_pos_iff.2 h1
      rw [List.length_drop] at this
      omega
    · obtain ⟨h1, n, rfl⟩ := numL_some h
      refine ⟨?_, len_code n⟩
      have : 0 < (s.drop 1).length := List.length_pos_iff.2 h1
      rw [List.length_drop] at this
      omega
  · obtain ⟨n, h1, rfl⟩ := look_some h
    exact ⟨(tab_long _ h1).1, len_code _⟩
theorem numL_no {base : Int} {l : List UInt8} {c : UInt8} (hc : c ∈ l) (hd : dig c < 0) : numL base l = none := by
  unfold numL
  split
  · rfl
  · rw [val_no hc hd]; rfl
theorem meant_amp {s : List UInt8} (h : (38 : UInt8) ∈ s) : meant s = none := by
  unfold meant
  have hd : dig 38 < 0 := by decide
  split
  · rename_i h1
    cases s with
    | nil => cases h
    | cons a r =>
      simp only [List.head?_cons, Option.some.injEq] at h1
      subst h1
      have hr : (38 : UInt8) ∈ r := by
        rcases List.mem_cons.1 h with e | e
        · exact absurd e (by decide)
        · exact e
      split
      · rename_i h2
        cases r with
        | nil => cases hr
        | cons b q =>
          simp only [List.getElem?_cons_succ, List.getElem?_cons_zero, Option.some.injEq] at h2
          have hq : (38 : UInt8) ∈ q := by
            rcases List.mem_cons.1 hr with e | e
            · subst e; exact absurd h2 (by decide)
            · exact e
          exact numL_no hq hd
      · exact numL_no hr hd
  · cases hl : look tab s with
    | none => rfl
    | some x =>
      obtain ⟨n, h1, _⟩ := look_some hl
      exact absurd h (tab_long _ h1).2

/-- What stands ahead of the first ; . -/
def cutAt : List UInt8 → Option (List UInt8)
  | [] => none
  | c :: r => if c = 59 then some [] else (cutAt r).map (c :: ·)
/-- The same, if no & comes earlier. -/
def bod : List UInt8 → Option (List UInt8)
  | [] => none
  | c :: r => if c = 59 then some [] else if c = 38 then none else (bod r).map (c :: ·)
theorem bod_cut (l : List UInt8) : (∀ b, bod l = some b → cutAt l = some b) ∧ (bod l = none → ∀ b, cutAt l = some b → (38 : UInt8) ∈ b) := by
  induction l with
  | nil => exact ⟨fun b h => (nomatch h), fun _ b h => (nomatch h)⟩
  | cons c r ih =>
    unfold bod cutAt
    by_cases h1 : c = 59
    · simp [h1]
    · by_cases h2 : c = 38
      · simp only [h2, if_true]
        refine ⟨fun b h => by simp at h, fun _ b h => ?_⟩
        cases hc : cutAt r with
        | none => simp [hc] at h
        | some x => simp [hc] at h; rw [← h]; exact List.mem_cons_self
      · simp only [h1, h2, if_false]
        refine ⟨fun b h => ?_, fun h b hb => ?_⟩
        · cases hb : bod r with
          | none => simp [hb] at h
          | some x => rw [ih.1 x hb]; rw [hb] at h; exact h
        · cases hq : bod r with
          | some x => simp [hq] at h
          | none =>
            cases hc : cutAt r with
            | none => simp [hc] at hb
            | some x =>
              simp [hc] at hb
              rw [← hb]
              exact List.mem_cons_of_mem _ (ih.2 hq x hc)
/-- What a reference stands for whose & is passed, and how many bytes its body has. -/
def refAt (r : List UInt8) : Option (List UInt8 × Nat) := match cutAt r with
  | some b => (meant b).map (·, b.length)
  | none => none
theorem refAt_bod (r : List UInt8) : refAt r = (match bod r with | some b => (meant b).map (·, b.length) | none => none) := by
  unfold refAt
  cases hb : bod r with
  | some b => rw [(bod_cut r).1 b hb]
  | none =>
    cases hc : cutAt r with
    | none => rfl
    | some b =>
      show (meant b).map _ = none
      rw [meant_amp ((bod_cut r).2 hb b hc)]
      rfl
theorem len_cut {r b : List UInt8} (h : cutAt r = some b) : b.length + 1 ≤ r.length := by
  induction r generalizing b with
  | nil => cases h
  | cons c r ih =>
    unfold cutAt at h
    split at h
    · injection h with h; rw [← h]; simp
    · cases hc : cutAt r with
      | none => simp [hc] at h
      | some x =>
        simp [hc] at h
        have := ih hc
        rw [← h]; simp; omega
theorem cut_mem {r b : List UInt8} (h : cutAt r = some b) : (59 : UInt8) ∈ r := by
  induction r generalizing b with
  | nil => cases h
  | cons c r ih =>
    unfold cutAt at h
    split at h
    · rename_i e; rw [e]; exact List.mem_cons_self
    · cases hc : cutAt r with
      | none => simp [hc] at h
      | some x => exact List.mem_cons_of_mem _ (ih hc)
theorem cutAt_stop (b r : List UInt8) (h : (59 : UInt8) ∉ b) : cutAt (b ++ 59 :: r) = some b := by
  induction b with
  | nil => simp [cutAt]
  | cons c q ih =>
    have h1 : ¬ c = 59 := fun e => h (by rw [e]; exact List.mem_cons_self)
    rw [List.cons_append, cutAt, if_neg h1, ih (fun e => h (List.mem_cons_of_mem _ e))]
    rfl

/-- The start of a text, and how many bytes it has: a reference, or one byte. -/
def fst : List UInt8 → List UInt8 × Nat
  | [] => ([], 1)
  | c :: r => if c = 38 then (match refAt r with | some (t, k) => (t, k + 2) | none => ([c], 1)) else ([c], 1)
theorem fst_cons (c : UInt8) (r : List UInt8) : fst (c :: r) = if c = 38 then (match refAt r with | some (t, k) => (t, k + 2) | none => ([c], 1)) else ([c], 1) := rfl
theorem fst_ok (l : List UInt8) (h : l ≠ []) : 1 ≤ (fst l).2 ∧ (fst l).2 ≤ l.length ∧ (fst l).1.length ≤ (fst l).2 := by
  cases l with
  | nil => exact absurd rfl h
  | cons c r =>
    rw [fst_cons]
    split
    · cases hr : refAt r with
      | none => simp
      | some p =>
        obtain ⟨t, k⟩ := p
        unfold refAt at hr
        cases hc : cutAt r with
        | none => rw [hc] at hr; cases hr
        | some b =>
          rw [hc] at hr
          simp only at hr
          cases hm : meant b with
          | none => rw [hm] at hr; cases hr
          | some x =>
            rw [hm] at hr
            simp only [Option.map_some, Option.some.injEq, Prod.mk.injEq] at hr
            obtain ⟨rfl, rfl⟩ := hr
            have h1 := meant_len hm
            have h2 := len_cut hc
            simp only [List.length_cons]
            omega
    · simp
theorem fst_byte {c : UInt8} (r : List UInt8) (h : c ≠ 38) : fst (c :: r) = ([c], 1) := by simp [fst, h]

/-- Step by step through a text. -/
def run (f : List UInt8 → List UInt8 × Nat) (l : List UInt8) : List UInt8 :=
  if _h : l = [] then [] else (f l).1 ++ run f (l.drop ((f l).2 - 1 + 1))
  termination_by l.length
  decreasing_by
    have : 0 < l.length := List.length_pos_iff.2 _h
    rw [List.length_drop]
    omega
theorem run_nil (f : List UInt8 → List UInt8 × Nat) : run f [] = [] := by rw [run]; simp
theorem run_step (f : List UInt8 → List UInt8 × Nat) {l : List UInt8} (h : l ≠ []) (hk : 1 ≤ (f l).2) : run f l = (f l).1 ++ run f (l.drop (f l).2) := by
  rw [run, dif_neg h, Nat.sub_add_cancel hk]
/-- Induction by steps. -/
theorem steps {f : List UInt8 → List UInt8 × Nat} (hf : ∀ l, l ≠ [] → 1 ≤ (f l).2) {Q : List UInt8 → Prop} (h0 : Q []) (h1 : ∀ l, l ≠ [] → Q (l.drop (f l).2) → Q l) : ∀ l, Q l := by
  intro l
  induction hn : l.length using Nat.strongRecOn generalizing l with
  | ind n ih =>
    by_cases h : l = []
    · rw [h]; exact h0
    · refine h1 l h (ih _ ?_ _ rfl)
      have := hf l h
      have : 0 < l.length := List.length_pos_iff.2 h
      rw [List.length_drop]
      omega

/-- A text with characters in the place of their references. -/
def dec (l : List UInt8) : List UInt8 := run fst l
theorem dec_nil : dec [] = [] := run_nil fst
theorem dec_step {l : List UInt8} (h : l ≠ []) : dec l = (fst l).1 ++ dec (l.drop (fst l).2) := run_step fst h (fst_ok l h).1
theorem dec_byte {c : UInt8} (r : List UInt8) (h : c ≠ 38) : dec (c :: r) = c :: dec r := by
  rw [dec_step (List.cons_ne_nil _ _), fst_byte r h]; rfl
theorem len_dec (l : List UInt8) : (dec l).length ≤ l.length := by
  refine steps (f := fst) (fun l h => (fst_ok l h).1) (Q := fun l => (dec l).length ≤ l.length) (by rw [dec_nil]; exact Nat.le_refl _) (fun l h ih => ?_) l
  rw [dec_step h, List.length_append]
  have := fst_ok l h
  rw [List.length_drop] at ih
  omega
theorem dec_plain (a b : List UInt8) (h : (38 : UInt8) ∉ a) : dec (a ++ b) = a ++ dec b := by
  induction a with
  | nil => rfl
  | cons c r ih =>
    rw [List.cons_append, dec_byte _ (fun e => h (by rw [e]; exact List.mem_cons_self)), ih (fun e => h (List.mem_cons_of_mem _ e))]
    rfl
theorem dec_noamp (l : List UInt8) (h : (38 : UInt8) ∉ l) : dec l = l := by
  have := dec_plain l [] h
  rw [List.append_nil, dec_nil, List.append_nil] at this
  exact this
theorem dec_noend (l : List UInt8) (h : (59 : UInt8) ∉ l) : dec l = l := by
  induction l with
  | nil => exact dec_nil
  | cons c r ih =>
    have hr : (59 : UInt8) ∉ r := fun e => h (List.mem_cons_of_mem _ e)
    have hc : refAt r = none := by
      unfold refAt
      cases hc : cutAt r with
      | none => rfl
      | some b => exact absurd (cut_mem hc) hr
    have hf : fst (c :: r) = ([c], 1) := by
      rw [fst_cons]
      split
      · rw [hc]
      · rfl
    rw [dec_step (List.cons_ne_nil _ _), hf]
    show c :: dec r = c :: r
    rw [ih hr]

/-- A character of its own, written out. -/
def e1 (q : Bool) (c : UInt8) : List UInt8 :=
  if c = 38 then [38, 97, 109, 112, 59] else if c = 60 then [38, 108, 116, 59] else if c = 62 then [38, 103, 116, 59] else if c = 34 ∧ q = true then [38, 113, 117, 111, 116, 59] else [c]
def est (q : Bool) : List UInt8 → List UInt8 × Nat
  | [] => ([], 1)
  | c :: r => if c = 194 ∧ r.head? = some 160 then ([38, 110, 98, 115, 112, 59], 2) else (e1 q c, 1)
/-- A text written out. -/
def esc (q : Bool) (l : List UInt8) : List UInt8 := run (est q) l
theorem est_pos (q : Bool) (l : List UInt8) : 1 ≤ (est q l).2 := by
  cases l with
  | nil => exact Nat.le_refl _
  | cons c r =>
    show 1 ≤ (if c = 194 ∧ r.head? = some 160 then _ else _ : List UInt8 × Nat).2
    split
    · exact Nat.le_succ _
    · exact Nat.le_refl _
theorem esc_nil (q : Bool) : esc q [] = [] := run_nil _
theorem esc_step (q : Bool) {l : List UInt8} (h : l ≠ []) : esc q l = (est q l).1 ++ esc q (l.drop (est q l).2) := run_step _ h (est_pos q l)
theorem est_cases (q : Bool) (l : List UInt8) (h : l ≠ []) : (∃ r, l = 194 :: 160 :: r ∧ est q l = ([38, 110, 98, 115, 112, 59], 2)) ∨ (∃ c r, l = c :: r ∧ ¬ (c = 194 ∧ r.head? = some 160) ∧ est q l = (e1 q c, 1)) := by
  cases l with
  | nil => exact absurd rfl h
  | cons c r =>
    by_cases hc : c = 194 ∧ r.head? = some 160
    · left
      obtain ⟨rfl, h2⟩ := hc
      cases r with
      | nil => cases h2
      | cons d r =>
        simp only [List.head?_cons, Option.some.injEq] at h2
        subst h2
        exact ⟨r, rfl, by simp [est]⟩
    · right
      exact ⟨c, r, rfl, hc, by simp only [est, if_neg hc]⟩
theorem esc_nbsp (q : Bool) (r : List UInt8) : esc q (194 :: 160 :: r) = [38, 110, 98, 115, 112, 59] ++ esc q r := by
  rw [esc_step q (List.cons_ne_nil _ _)]; simp [est]
theorem esc_byte (q : Bool) {c : UInt8} {r : List UInt8} (h : ¬ (c = 194 ∧ r.head? = some 160)) : esc q (c :: r) = e1 q c ++ esc q r := by
  rw [esc_step q (List.cons_ne_nil _ _)]; simp only [est, if_neg h, List.drop_succ_cons, List.drop_zero]
/-- Induction by characters written. -/
theorem writes (q : Bool) {Q : List UInt8 → Prop} (h0 : Q []) (h1 : ∀ r, Q r → Q (194 :: 160 :: r)) (h2 : ∀ c r, ¬ (c = 194 ∧ r.head? = some 160) → Q r → Q (c :: r)) (l : List UInt8) : Q l := by
  refine steps (f := est q) (fun l _ => est_pos q l) h0 (fun l h ih => ?_) l
  rcases est_cases q l h with ⟨r, rfl, he⟩ | ⟨c, r, rfl, hc, he⟩
  · rw [he] at ih; exact h1 r ih
  · rw [he] at ih; exact h2 c r hc ih
theorem e1_cases (q : Bool) (c : UInt8) : (38 : UInt8) ∈ e1 q c ∧ 4 ≤ (e1 q c).length ∨ e1 q c = [c] ∧ c ≠ 38 := by
  unfold e1
  split
  · exact .inl ⟨by decide, by decide⟩
  split
  · exact .inl ⟨by decide, by decide⟩
  split
  · exact .inl ⟨by decide, by decide⟩
  split
  · exact .inl ⟨by decide, by decide⟩
  · rename_i h _ _ _
    exact .inr ⟨rfl, h⟩
theorem fst_ref {b t : List UInt8} (r : List UInt8) (hb : (59 : UInt8) ∉ b) (hm : meant b = some t) : fst (38 :: (b ++ 59 :: r)) = (t, b.length + 2) := by
  rw [fst_cons, if_pos rfl]
  unfold refAt
  rw [cutAt_stop b r hb]
  simp only [hm, Option.map_some]
theorem dec_ref {b t : List UInt8} (r : List UInt8) (hb : (59 : UInt8) ∉ b) (hm : meant b = some t) : dec (38 :: (b ++ 59 :: r)) = t ++ dec r := by
  rw [dec_step (List.cons_ne_nil _ _), fst_ref r hb hm]
  simp only
  congr 2
  rw [show b.length + 2 = (b.length + 1) + 1 from rfl, List.drop_succ_cons, List.drop_append]
  simp
/-- Decoded, what was written out is the text that was. -/
theorem dec_esc (q : Bool) (l : List UInt8) : dec (esc q l) = l := by
  refine writes q (Q := fun l => dec (esc q l) = l) (by rw [esc_nil, dec_nil]) (fun r ih => ?_) (fun c r hc ih => ?_) l
  · rw [esc_nbsp]
    refine (dec_ref (b := [110, 98, 115, 112]) (t := [194, 160]) (esc q r) (by decide) (by decide)).trans ?_
    rw [ih]; rfl
  · rw [esc_byte q hc]
    unfold e1
    split
    · rename_i e; subst e
      refine (dec_ref (b := [97, 109, 112]) (t := [38]) (esc q r) (by decide) (by decide)).trans ?_
      rw [ih]; rfl
    split
    · rename_i e; subst e
      refine (dec_ref (b := [108, 116]) (t := [60]) (esc q r) (by decide) (by decide)).trans ?_
      rw [ih]; rfl
    split
    · rename_i e; subst e
      refine (dec_ref (b := [103, 116]) (t := [62]) (esc q r) (by decide) (by decide)).trans ?_
      rw [ih]; rfl
    split
    · rename_i e; obtain ⟨rfl, _⟩ := e
      refine (dec_ref (b := [113, 117, 111, 116]) (t := [34]) (esc q r) (by decide) (by decide)).trans ?_
      rw [ih]; rfl
    · rename_i h _ _ _
      refine (dec_byte (esc q r) h).trans ?_
      rw [ih]
/-- Nothing of it opens or closes a tag; nothing of a value closes it. -/
theorem esc_free (q : Bool) (l : List UInt8) : (60 : UInt8) ∉ esc q l ∧ (62 : UInt8) ∉ esc q l ∧ (q = true → (34 : UInt8) ∉ esc q l) := by
  refine writes q (Q := fun l => (60 : UInt8) ∉ esc q l ∧ (62 : UInt8) ∉ esc q l ∧ (q = true → (34 : UInt8) ∉ esc q l)) (by rw [esc_nil]; simp) (fun r ih => ?_) (fun c r hc ih => ?_) l
  · rw [esc_nbsp]
    obtain ⟨i1, i2, i3⟩ := ih
    refine ⟨?_, ?_, fun hq => ?_⟩
    · simpa using i1
    · simpa using i2
    · simpa using i3 hq
  · rw [esc_byte q hc]
    obtain ⟨i1, i2, i3⟩ := ih
    have k : (60 : UInt8) ∉ e1 q c ∧ (62 : UInt8) ∉ e1 q c ∧ (q = true → (34 : UInt8) ∉ e1 q c) := by
      unfold e1
      split
      · refine ⟨by decide, by decide, fun _ => by decide⟩
      split
      · refine ⟨by decide, by decide, fun _ => by decide⟩
      split
      · refine ⟨by decide, by decide, fun _ => by decide⟩
      split
      · refine ⟨by decide, by decide, fun _ => by decide⟩
      · rename_i _ h1 h2 h3
        refine ⟨fun e => ?_, fun e => ?_, fun hq e => ?_⟩
        · rw [List.mem_singleton] at e; exact h1 e.symm
        · rw [List.mem_singleton] at e; exact h2 e.symm
        · rw [List.mem_singleton] at e; exact h3 ⟨e.symm, hq⟩
    obtain ⟨k1, k2, k3⟩ := k
    refine ⟨?_, ?_, fun hq => ?_⟩
    · rw [List.mem_append]; exact fun e => e.elim k1 i1
    · rw [List.mem_append]; exact fun e => e.elim k2 i2
    · rw [List.mem_append]; exact fun e => e.elim (k3 hq) (i3 hq)
theorem esc_append (q : Bool) (a b : List UInt8) (h : (194 : UInt8) ∉ a) : esc q (a ++ b) = esc q a ++ esc q b := by
  induction a with
  | nil => rw [esc_nil]; rfl
  | cons c r ih =>
    have hc : c ≠ 194 := fun e => h (by rw [e]; exact List.mem_cons_self)
    rw [List.cons_append, esc_byte q (fun e => hc e.1), esc_byte q (fun e => hc e.1), ih (fun e => h (List.mem_cons_of_mem _ e)), List.append_assoc]
theorem len_esc (q : Bool) (l : List UInt8) : l.length ≤ (esc q l).length ∧ (esc q l).length ≤ 6 * l.length ∧ ((38 : UInt8) ∈ l → l.length < (esc q l).length) := by
  refine writes q (Q := fun l => l.length ≤ (esc q l).length ∧ (esc q l).length ≤ 6 * l.length ∧ ((38 : UInt8) ∈ l → l.length < (esc q l).length)) (by rw [esc_nil]; simp) (fun r ih => ?_) (fun c r hc ih => ?_) l
  · rw [esc_nbsp]
    simp only [List.length_cons, List.length_append, List.length_nil]
    obtain ⟨i1, i2, i3⟩ := ih
    exact ⟨by omega, by omega, fun _ => by omega⟩
  · rw [esc_byte q hc]
    obtain ⟨i1, i2, i3⟩ := ih
    simp only [List.length_cons, List.length_append]
    have h6 : (e1 q c).length ≤ 6 := by
      unfold e1
      repeat' split
      all_goals simp
    rcases e1_cases q c with ⟨_, h4⟩ | ⟨he, hn⟩
    · exact ⟨by omega, by omega, fun _ => by omega⟩
    · rw [he]
      simp only [List.length_cons, List.length_nil]
      refine ⟨by omega, by omega, fun hm => ?_⟩
      rcases List.mem_cons.1 hm with e | e
      · exact absurd e.symm hn
      · have := i3 e; omega
theorem esc_same (q : Bool) (l : List UInt8) (h : (38 : UInt8) ∉ esc q l) : esc q l = l := by
  refine writes q (Q := fun l => (38 : UInt8) ∉ esc q l → esc q l = l) (fun _ => esc_nil q) (fun r ih => ?_) (fun c r hc ih => ?_) l h
  · rw [esc_nbsp]; intro h; exact absurd (by simp) h
  · rw [esc_byte q hc]
    intro h
    rcases e1_cases q c with ⟨hm, _⟩ | ⟨he, _⟩
    · exact absurd (List.mem_append_left _ hm) h
    · rw [he, ih (fun e => h (List.mem_append_right _ e))]
      rfl
theorem esc_again (q : Bool) (l : List UInt8) : (esc q (esc q l) = esc q l) ↔ esc q l = l := by
  constructor
  · intro h
    refine esc_same q l fun hm => ?_
    have := (len_esc q (esc q l)).2.2 hm
    rw [h] at this
    omega
  · intro h
    rw [h, h]
theorem esc_quote (l : List UInt8) (h : (34 : UInt8) ∉ l) : esc true l = esc false l := by
  refine writes true (Q := fun l => (34 : UInt8) ∉ l → esc true l = esc false l) (fun _ => by rw [esc_nil, esc_nil]) (fun r ih => ?_) (fun c r hc ih => ?_) l h
  · intro h
    rw [esc_nbsp, esc_nbsp, ih (fun e => h (List.mem_cons_of_mem _ (List.mem_cons_of_mem _ e)))]
  · intro h
    have hn : c ≠ 34 := fun e => h (by rw [e]; exact List.mem_cons_self)
    rw [esc_byte _ hc, esc_byte _ hc, ih (fun e => h (List.mem_cons_of_mem _ e))]
    congr 1
    simp [e1, hn]
theorem len_tv (l : List UInt8) : (esc false l).length ≤ (esc true l).length := by
  refine writes true (Q := fun l => (esc false l).length ≤ (esc true l).length) (by rw [esc_nil, esc_nil]; exact Nat.le_refl _) (fun r ih => ?_) (fun c r hc ih => ?_) l
  · rw [esc_nbsp, esc_nbsp, List.length_append, List.length_append]; omega
  · rw [esc_byte _ hc, esc_byte _ hc, List.length_append, List.length_append]
    have : (e1 false c).length ≤ (e1 true c).length := by
      unfold e1
      repeat' split
      all_goals simp_all
    omega

end Go.Proofs.YtjhhhlomkfnniaaDoor.Rm
