/-
  What follows for tokens, in plain words: plain text ahead, tags without an end.
-/
import Derived.Test.YtjhhhlomkfnniaaDoorTokTag
import Derived.Test.YtjhhhlomkfnniaaDoorTokPut
namespace Go.Proofs.YtjhhhlomkfnniaaDoor.Tm
set_option linter.unusedVariables false
set_option linter.unusedSimpArgs false
open Ba Fm Rm Nm
open Ro (At)

theorem bg_no {c : UInt8} (r : List UInt8) (h : c ≠ 60) : bg (c :: r) = false := by
  unfold bg
  have e : begun (c :: r) = 0 := by
    cases r with
    | nil => show (if c = 60 then 0 else 0) = 0; split <;> rfl
    | cons a q => rw [To.begun_two, if_neg h]
  rw [e]
  rfl
theorem lead_plain {s : List UInt8} (h : (60 : UInt8) ∉ s) (r : List UInt8) : lead bg (s ++ r) = s ++ lead bg r ∧ trail bg (s ++ r) = trail bg r := by
  induction s with
  | nil => exact ⟨rfl, rfl⟩
  | cons c q ih =>
    have hc : c ≠ 60 := fun e => h (by rw [e]; exact List.mem_cons_self)
    have hq := ih (fun e => h (List.mem_cons_of_mem _ e))
    rw [List.cons_append, lead_no (bg_no _ hc), trail_no (bg_no _ hc), hq.1, hq.2]
    exact ⟨rfl, rfl⟩
theorem mk_nil : mk [] = ([], []) := To.mk_0 (by decide) (by decide) (by decide) (by decide) (by decide) (by decide)
theorem within_nil (l : List UInt8) : within [] l = cut l := by
  unfold within
  rw [show cont [] l = ([], l) from by unfold cont; rw [if_neg (by decide), if_neg (by decide)]]
  rfl
theorem cut_turn (l : List UInt8) : cut l = (turn l).1 ++ cut (turn l).2 := by
  by_cases h : l = []
  · rw [h]
    show cut [] = (txt (dec []) ++ (mk []).1) ++ cut (mk []).2
    rw [dec_nil, mk_nil]
    show cut [] = [] ++ cut []
    rfl
  · exact To.cut_step h
/-- A text, and what begins behind it. -/
theorem cut_at {s r : List UInt8} (h : (60 : UInt8) ∉ s) (hr : lead bg r = []) : cut (s ++ r) = txt (dec s) ++ ((mk (trail bg r)).1 ++ cut (mk (trail bg r)).2) := by
  rw [cut_turn]
  obtain ⟨h1, h2⟩ := lead_plain h r
  show (txt (dec (lead bg (s ++ r))) ++ (mk (trail bg (s ++ r))).1) ++ cut (mk (trail bg (s ++ r))).2 = _
  rw [h1, h2, hr, List.append_nil, List.append_assoc]
theorem cut_text {s : List UInt8} (h : (60 : UInt8) ∉ s) : cut s = txt (dec s) := by
  have := cut_at h (r := []) rfl
  rw [List.append_nil] at this
  rw [this]
  show txt (dec s) ++ ((mk []).1 ++ cut (mk []).2) = _
  rw [mk_nil]
  show txt (dec s) ++ ([] ++ cut []) = _
  rw [To.cut_nil, List.append_nil, List.append_nil]
theorem begins {r : List UInt8} (h : begun r ≠ 0) : lead bg r = [] ∧ trail bg r = r := by
  have hb : bg r = true := decide_eq_true h
  cases r with
  | nil => exact ⟨rfl, rfl⟩
  | cons c q => exact ⟨lead_yes hb, trail_yes hb⟩

theorem mem_trail {p : List UInt8 → Bool} {l : List UInt8} {c : UInt8} (h : c ∈ trail p l) : c ∈ l := by
  rw [← lead_trail p l]
  exact List.mem_append_right _ h
theorem mem_trimS {l : List UInt8} {c : UInt8} (h : c ∈ trimS l) : c ∈ l := (List.dropWhile_sublist _).subset h
theorem mem_drop {l : List UInt8} {c : UInt8} {n : Nat} (h : c ∈ l.drop n) : c ∈ l := List.mem_of_mem_drop h
theorem mem_value {l : List UInt8} {c : UInt8} (h : c ∈ (value l).2) : c ∈ l := by
  unfold value at h
  split at h
  · exact mem_drop (mem_trail (mem_drop h))
  · split at h
    · exact mem_drop (mem_trail (mem_drop h))
    · exact mem_trail h
theorem mem_valued {l : List UInt8} {c : UInt8} (h : c ∈ (valued l).2) : c ∈ l := by
  unfold valued at h
  split at h
  · exact mem_drop (mem_trimS (mem_value h))
  · exact h
theorem mem_attr {a c : UInt8} {l : List UInt8} (h : c ∈ (attr a l).2) : c ∈ l := mem_trail (mem_trimS (mem_valued h))
/-- A tag without a > has no end. -/
theorem attrs_open (l : List UInt8) (h : (62 : UInt8) ∉ l) : ∀ (self : Bool) (acc : List At), attrs self acc l = none := by
  induction hn : l.length using Nat.strongRecOn generalizing l with
  | ind n ih =>
    intro self acc
    subst hn
    cases l with
    | nil => exact attrs_nil _ _
    | cons c q =>
      have hc : c ≠ 62 := fun e => h (by rw [e]; exact List.mem_cons_self)
      have hq : (62 : UInt8) ∉ q := fun e => h (List.mem_cons_of_mem _ e)
      by_cases h2 : c = 47 ∨ sp c = true
      · rw [attrs_skip _ _ _ hc h2]
        exact ih q.length (by simp) q hq rfl _ _
      · rw [attrs_attr _ _ _ hc h2]
        have := len_attr c q
        exact ih (attr c q).2.length (by simp only [List.length_cons]; omega) _ (fun e => hq (mem_attr e)) rfl _ _
theorem tag_a (o : List UInt8) : upTo en (97 :: 32 :: o) = [97] ∧ from_ en (97 :: 32 :: o) = 32 :: o := by
  have h1 : by1 en (97 :: 32 :: o) = false := by show en 97 = false; decide
  have h2 : by1 en (32 :: o) = true := by show en 32 = true; decide
  refine ⟨?_, ?_⟩
  · show lead (by1 en) _ = _
    rw [lead_no h1, lead_yes h2]
  · show trail (by1 en) _ = _
    rw [trail_no h1, trail_yes h2]
/-- What ends within a tag. -/
theorem ends_in (s o : List UInt8) (hs : (60 : UInt8) ∉ s) (ho : (62 : UInt8) ∉ o) :
    within [] (s ++ (60 :: 97 :: 32 :: o)) = within [] s ∧ within [] (s ++ (60 :: 47 :: 97 :: 32 :: o)) = within [] s := by
  have h32 : (62 : UInt8) ∉ (32 :: o) := fun e => by
    rcases List.mem_cons.1 e with e | e
    · exact absurd e (by decide)
    · exact ho e
  have hatt := attrs_open (32 :: o) h32 false []
  have hst : attrs false [] (from_ en (97 :: 32 :: o)) = none := by rw [(tag_a o).2]; exact hatt
  have b1 : begun (60 :: 97 :: 32 :: o) = 1 := rfl
  have b2 : begun (60 :: 47 :: 97 :: 32 :: o) = 2 := rfl
  simp only [within_nil]
  rw [cut_text hs]
  constructor
  · obtain ⟨h1, h2⟩ := begins (r := 60 :: 97 :: 32 :: o) (by rw [b1]; decide)
    rw [cut_at hs h1, h2, To.mk_1 b1]
    show txt (dec s) ++ ((startTag (97 :: 32 :: o)).1 ++ cut (startTag (97 :: 32 :: o)).2) = _
    rw [(To.start_no hst).1]
    show txt (dec s) ++ ([] ++ cut []) = _
    rw [To.cut_nil, List.append_nil, List.append_nil]
  · obtain ⟨h1, h2⟩ := begins (r := 60 :: 47 :: 97 :: 32 :: o) (by rw [b2]; decide)
    rw [cut_at hs h1, h2, To.mk_2 b2]
    show txt (dec s) ++ ((endTag (97 :: 32 :: o)).1 ++ cut (endTag (97 :: 32 :: o)).2) = _
    rw [(To.start_no hst).2]
    show txt (dec s) ++ ([] ++ cut []) = _
    rw [To.cut_nil, List.append_nil, List.append_nil]
/-- There are no more tokens than bytes, and two. -/
theorem cut_len (l : List UInt8) : (cut l).length ≤ 3 * l.length := by
  induction hn : l.length using Nat.strongRecOn generalizing l with
  | ind n ih =>
    subst hn
    by_cases h : l = []
    · rw [h, To.cut_nil]; exact Nat.zero_le _
    · have h1 := To.len_turn h
      have h2 := To.turn_len l
      have h3 := ih _ h1 _ rfl
      rw [To.cut_step h, List.length_append]
      omega
theorem within_len (n l : List UInt8) : (within n l).length ≤ 3 * l.length + 1 := by
  unfold within
  rw [List.length_append]
  have h1 := cut_len (cont n l).2
  have h2 := To.len_cont n l
  have h3 : (cont n l).1.length ≤ 1 := by
    unfold cont
    split
    · exact To.len_txt _
    · split
      · exact To.len_txt _
      · simp
  omega

end Go.Proofs.YtjhhhlomkfnniaaDoor.Tm
