/-
  Tokens have no more than twice what the document has.
-/
import Derived.Test.YtjhhhlomkfnniaaDoorTokFacts2
import Derived.Test.YtjhhhlomkfnniaaDoorTokPut
namespace Go.Proofs.YtjhhhlomkfnniaaDoor.Tm
set_option linter.unusedVariables false
set_option linter.unusedSimpArgs false
open Ba Fm Rm Nm
open Ro (At)

theorem sum_trail (p : List UInt8 → Bool) (l : List UInt8) : (lead p l).length + (trail p l).length = l.length := by
  have := congrArg List.length (lead_trail p l)
  rwa [List.length_append] at this
theorem sum_quo (q : UInt8) (r : List UInt8) : (quo q r).1.length + (quo q r).2.length ≤ r.length := by
  have := sum_trail (by1 (is q)) r
  show (lead _ r).length + ((trail _ r).drop 1).length ≤ _
  rw [List.length_drop]
  omega
theorem sum_value (l : List UInt8) : (value l).1.length + (value l).2.length ≤ l.length := by
  have h1 := sum_quo 34 (l.drop 1)
  have h2 := sum_quo 39 (l.drop 1)
  have h3 := sum_trail (by1 ev) l
  rw [List.length_drop] at h1 h2
  unfold value
  split
  · omega
  · split
    · omega
    · show (lead (by1 ev) l).length + (trail (by1 ev) l).length ≤ _
      omega
theorem sum_valued (l : List UInt8) : (valued l).1.length + (valued l).2.length ≤ l.length := by
  have h1 := sum_value (trimS (l.drop 1))
  have h2 := len_trimS (l.drop 1)
  have h3 := len_dec (value (trimS (l.drop 1))).1
  rw [List.length_drop] at h2
  unfold valued
  split
  · show (dec _).length + (value _).2.length ≤ _
    omega
  · show 0 + l.length ≤ _
    omega
theorem sum_attr (c : UInt8) (r : List UInt8) : (attr c r).1.name.size + (attr c r).1.value.size + (attr c r).2.length ≤ r.length + 1 := by
  have h1 := sum_valued (trimS (from_ ea r))
  have h2 := len_trimS (from_ ea r)
  have h3 := sum_trail (by1 ea) r
  show (B (lowL (c :: upTo ea r))).size + (B (valued (trimS (from_ ea r))).1).size + (valued (trimS (from_ ea r))).2.length ≤ _
  rw [size_B, size_B, len_lowL, List.length_cons]
  have h4 : (from_ ea r).length = (trail (by1 ea) r).length := rfl
  have h5 : (upTo ea r).length = (lead (by1 ea) r).length := rfl
  omega
theorem bulkA_append (l : List At) (a : At) : bulkA (l ++ [a]) = bulkA l + (a.name.size + a.value.size) := by
  unfold bulkA
  rw [List.map_append, List.sum_append]
  simp
theorem sum_put (l : List At) (a : At) : bulkA (put l a) + (put l a).length ≤ bulkA l + l.length + (a.name.size + a.value.size + 1) := by
  unfold put
  split
  · omega
  · rw [bulkA_append, List.length_append]
    show _ + (_ + 1) ≤ _
    omega
theorem sum_attrs (l : List UInt8) : ∀ (self : Bool) (acc bs : List At) (sf : Bool) (r : List UInt8), attrs self acc l = some (bs, sf, r) → bulkA bs + bs.length + 2 * r.length ≤ bulkA acc + acc.length + 2 * l.length := by
  induction hn : l.length using Nat.strongRecOn generalizing l with
  | ind n ih =>
    intro self acc bs sf r h
    subst hn
    cases l with
    | nil => rw [attrs_nil] at h; cases h
    | cons c q =>
      by_cases h1 : c = 62
      · subst h1
        rw [attrs_end] at h
        injection h with h
        injection h with h h'
        injection h' with _ h'
        rw [← h, ← h', List.length_cons]
        omega
      · by_cases h2 : c = 47 ∨ sp c = true
        · rw [attrs_skip _ _ _ h1 h2] at h
          have := ih q.length (by simp) q rfl _ _ _ _ _ h
          rw [List.length_cons]
          omega
        · rw [attrs_attr _ _ _ h1 h2] at h
          have hq := sum_attr c q
          have hl := len_attr c q
          have hp := sum_put acc (attr c q).1
          have := ih (attr c q).2.length (by simp only [List.length_cons]; omega) _ rfl _ _ _ _ _ h
          rw [List.length_cons]
          omega
theorem bulk_append (a b : List Tk) : bulk (a ++ b) = bulk a + bulk b := by
  unfold bulk
  rw [List.map_append, List.sum_append]
theorem bulk_one (t : Tk) : bulk [t] = bulkT t := by simp [bulk]
theorem bulk_txt (d : List UInt8) : bulk (txt d) ≤ d.length := by
  unfold txt
  split
  · exact Nat.zero_le _
  · rw [bulk_one]
    show 0 + (B d).size + 0 + 0 ≤ _
    rw [size_B]
    omega
theorem sum_cont (n l : List UInt8) : bulk (cont n l).1 + (cont n l).2.length ≤ l.length := by
  have h1 := sum_trail (isEnd n) l
  unfold cont
  split
  · have := bulk_txt (lead (isEnd n) l)
    show bulk (txt _) + (trail _ l).length ≤ _
    omega
  · split
    · have := bulk_txt (dec (lead (isEnd n) l))
      have := len_dec (lead (isEnd n) l)
      show bulk (txt _) + (trail _ l).length ≤ _
      omega
    · show 0 + l.length ≤ _
      omega
theorem sum_start (l : List UInt8) : bulk (startTag l).1 + 2 * (startTag l).2.length ≤ 2 * l.length ∧ bulk (endTag l).1 + 2 * (endTag l).2.length ≤ 2 * l.length := by
  have h0 := sum_trail (by1 en) l
  cases ha : attrs false [] (from_ en l) with
  | none =>
    rw [(To.start_no ha).1, (To.start_no ha).2]
    exact ⟨Nat.zero_le _, Nat.zero_le _⟩
  | some x =>
    obtain ⟨bs, sf, r⟩ := x
    rw [(To.start_yes ha).1, (To.start_yes ha).2]
    have h1 := sum_attrs _ _ _ _ _ _ ha
    have h2 := sum_cont (lowL (upTo en l)) r
    have h3 : (B (lowL (upTo en l))).size = (lead (by1 en) l).length := by rw [size_B, len_lowL]
    have h4 : (from_ en l).length = (trail (by1 en) l).length := rfl
    have h5 : bulkA ([] : List At) + ([] : List At).length = 0 := rfl
    have e1 : bulkT ⟨1, B (lowL (upTo en l)), B [], bs, sf⟩ = (B (lowL (upTo en l))).size + 0 + bulkA bs + bs.length := rfl
    have e2 : bulkT ⟨2, B (lowL (upTo en l)), B [], [], false⟩ = (B (lowL (upTo en l))).size + 0 + 0 + 0 := rfl
    refine ⟨?_, ?_⟩
    · show bulk (_ :: (cont _ r).1) + 2 * (cont _ r).2.length ≤ _
      rw [To.bulk_cons]
      omega
    · show bulk [_] + 2 * r.length ≤ _
      rw [bulk_one]
      omega
theorem sum_comm (l : List UInt8) : (comm l).1.length + (comm l).2.length ≤ l.length := by
  have h := sum_trail cend l
  unfold comm
  split
  · show 0 + (l.drop 1).length ≤ _
    rw [List.length_drop]; omega
  · split
    · show 0 + (l.drop 2).length ≤ _
      rw [List.length_drop]; omega
    · show (lead cend l).length + ((trail cend l).drop _).length ≤ _
      rw [List.length_drop]; omega
theorem sum_closed (l : List UInt8) : (closed l).1.length + (closed l).2.length ≤ l.length := by
  have h := sum_trail (by1 gt) l
  show (lead (by1 gt) l).length + ((trail (by1 gt) l).drop 1).length ≤ _
  rw [List.length_drop]; omega
theorem sum_mk (l : List UInt8) : bulk (mk l).1 + 2 * (mk l).2.length ≤ 2 * l.length := by
  have d1 : (l.drop 1).length ≤ l.length := by rw [List.length_drop]; omega
  have d2 : (l.drop 2).length ≤ l.length := by rw [List.length_drop]; omega
  have d3 : (l.drop 3).length ≤ l.length := by rw [List.length_drop]; omega
  have d4 : (l.drop 4).length ≤ l.length := by rw [List.length_drop]; omega
  have d9 : (l.drop 9).length ≤ l.length := by rw [List.length_drop]; omega
  by_cases h1 : begun l = 1
  · rw [To.mk_1 h1]; have := (sum_start (l.drop 1)).1; omega
  by_cases h2 : begun l = 2
  · rw [To.mk_2 h2]; have := (sum_start (l.drop 2)).2; omega
  by_cases h3 : begun l = 3
  · rw [To.mk_3 h3]; show 0 + 2 * (l.drop 3).length ≤ _; omega
  by_cases h4 : begun l = 4
  · rw [To.mk_4 h4]
    have := sum_comm (l.drop 4)
    show bulk [_] + 2 * (comm (l.drop 4)).2.length ≤ _
    rw [bulk_one]
    show 0 + (B (comm (l.drop 4)).1).size + 0 + 0 + _ ≤ _
    rw [size_B]
    omega
  by_cases h5 : begun l = 5
  · rw [To.mk_5 h5]
    have := sum_closed (l.drop 9)
    have := len_trimL (closed (l.drop 9)).1
    show bulk [_] + 2 * (closed (l.drop 9)).2.length ≤ _
    rw [bulk_one]
    show 0 + (B (trimL (closed (l.drop 9)).1)).size + 0 + 0 + _ ≤ _
    rw [size_B]
    omega
  by_cases h6 : begun l = 6
  · rw [To.mk_6 h6]
    have := sum_closed (marks (l.drop 1))
    have := To.len_marks (l.drop 1)
    show bulk [_] + 2 * (closed (marks (l.drop 1))).2.length ≤ _
    rw [bulk_one]
    show 0 + (B (closed (marks (l.drop 1))).1).size + 0 + 0 + _ ≤ _
    rw [size_B]
    omega
  · rw [To.mk_0 h1 h2 h3 h4 h5 h6]; show 0 + 2 * l.length ≤ _; omega
theorem sum_turn (l : List UInt8) : bulk (turn l).1 + 2 * (turn l).2.length ≤ 2 * l.length := by
  show bulk (txt (dec (lead bg l)) ++ (mk (trail bg l)).1) + 2 * (mk (trail bg l)).2.length ≤ _
  rw [bulk_append]
  have h1 := sum_trail bg l
  have h2 := sum_mk (trail bg l)
  have h3 := bulk_txt (dec (lead bg l))
  have h4 := len_dec (lead bg l)
  omega
theorem bulk_cut (l : List UInt8) : bulk (cut l) ≤ 2 * l.length := by
  induction hn : l.length using Nat.strongRecOn generalizing l with
  | ind n ih =>
    subst hn
    by_cases h : l = []
    · rw [h, To.cut_nil]; exact Nat.zero_le _
    · have h1 := To.len_turn h
      have h2 := sum_turn l
      have h3 := ih _ h1 _ rfl
      rw [To.cut_step h, bulk_append]
      omega
theorem bulk_within (n l : List UInt8) : bulk (within n l) ≤ 2 * l.length := by
  unfold within
  rw [bulk_append]
  have h1 := bulk_cut (cont n l).2
  have h2 := sum_cont n l
  omega
theorem bulk_mem {l : List Tk} {t : Tk} (h : t ∈ l) : bulkT t ≤ bulk l := by
  induction l with
  | nil => cases h
  | cons a r ih =>
    rw [To.bulk_cons]
    rcases List.mem_cons.1 h with e | e
    · rw [e]; omega
    · have := ih e; omega

end Go.Proofs.YtjhhhlomkfnniaaDoor.Tm
