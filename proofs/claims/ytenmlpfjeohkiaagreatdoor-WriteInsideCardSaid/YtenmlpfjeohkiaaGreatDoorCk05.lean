/-
  Tokens have no more than twice what the document has.
  Tokens that are written, and cut again: lists of tokens as a document can have them (Good), what they come back as (fin).
  What each token has, in plain words.
  What a list of tokens, written, is cut as; the tokens of any document are such a list.
  Stage 7, in plain words: bytes of tags that close nothing, as tokens and as trees; nothing of the program.
  The tokens of any document are a good list; written, cut and written again they stay.
  Stage 8, in plain words: trees written, as bytes and as tokens; what is written is cut and built as it was. Nothing of the program.
  Rows in memory: what a slice of rows reads as, their attributes, a row loaded, a row in a box.
  Walks of stage 4: has, depthOf, exceeds, Big.
  Walks of stage 4: where a tree ends, its parent (rows.endOf, End, Parent; boltingref04.End, Parent).
  Walks of stage 4: the kids of a node, by a range over a function (kidsOf).
  Walks of stage 4: Kids, placeOf; boltingref04.Kids.
  A set of names tells whether two attributes have the same name.
  Walks of stage 4: repeated, validRow, valid, Check.
  Walks of stage 4: validRow, valid, Check.
  Walks of stage 4: boltingref04.Row, Right, Check.
-/
import Derived.Test.YtenmlpfjeohkiaaGreatDoorCk04
import Derived.Test.YtenmlpfjeohkiaaGreatDoorCk02
import Derived.Test.YtenmlpfjeohkiaaGreatDoorCk01
import Derived.Deep.MidRow
import Derived.BigQuiet
import Derived.Deep.QuietTactic
import Derived.RangeFuncBox
import Derived.RangeFuncLeaves
import Derived.Shelf.Abstract
import Derived.OwnWalkIn
import Derived.TacticsInMore
import Derived.LoopNIn
import Derived.LoopIn
import Derived.Sort.BigQuietIn
import Derived.Maps.AppendAt
import Derived.Maps.OwnSet
namespace Go.Proofs.YtenmlpfjeohkiaaGreatDoor.Tm
set_option linter.unusedVariables false
set_option linter.unusedSimpArgs false
open Ba Fm Rm Nm
open Ro (At)
theorem sum_trail (p : List UInt8 → Bool) (l : List UInt8) : (lead p l).length + (trail p l).length = l.length := by
  have := congrArg List.length (lead_trail p l)
  rwa [List.length_append] at this
theorem sum_quo (q : UInt8) (r : List UInt8) : (quo q r).1.length + (quo q r).2.length ≤ r.length := by
  have := sum_trail (by1 (is q)) r
  show (lead _ r).length + ((trail _ r).drop 1).length ≤ _
  rw [List.length_drop]
  omega
theorem sum_value (l : List UInt8) : (value l).1.length + (value l).2.length ≤ l.length := by
  have h1 := sum_quo 34 (l.drop 1)
  have h2 := sum_quo 39 (l.drop 1)
  have h3 := sum_trail (by1 ev) l
  rw [List.length_drop] at h1 h2
  unfold value
  split
  · omega
  · split
    · omega
    · show (lead (by1 ev) l).length + (trail (by1 ev) l).length ≤ _
      omega
theorem sum_valued (l : List UInt8) : (valued l).1.length + (valued l).2.length ≤ l.length := by
  have h1 := sum_value (trimS (l.drop 1))
  have h2 := len_trimS (l.drop 1)
  have h3 := len_dec (value (trimS (l.drop 1))).1
  rw [List.length_drop] at h2
  unfold valued
  split
  · show (dec _).length + (value _).2.length ≤ _
    omega
  · show 0 + l.length ≤ _
    omega
theorem sum_attr (c : UInt8) (r : List UInt8) : (attr c r).1.name.size + (attr c r).1.value.size + (attr c r).2.length ≤ r.length + 1 := by
  have h1 := sum_valued (trimS (from_ ea r))
  have h2 := len_trimS (from_ ea r)
  have h3 := sum_trail (by1 ea) r
  show (B (lowL (c :: upTo ea r))).size + (B (valued (trimS (from_ ea r))).1).size + (valued (trimS (from_ ea r))).2.length ≤ _
  rw [size_B, size_B, len_lowL, List.length_cons]
  have h4 : (from_ ea r).length = (trail (by1 ea) r).length := rfl
  have h5 : (upTo ea r).length = (lead (by1 ea) r).length := rfl
  omega
theorem bulkA_append (l : List At) (a : At) : bulkA (l ++ [a]) = bulkA l + (a.name.size + a.value.size) := by
  unfold bulkA
  rw [List.map_append, List.sum_append]
  simp
theorem sum_put (l : List At) (a : At) : bulkA (put l a) + (put l a).length ≤ bulkA l + l.length + (a.name.size + a.value.size + 1) := by
  unfold put
  split
  · omega
  · rw [bulkA_append, List.length_append]
    show _ + (_ + 1) ≤ _
    omega
theorem sum_attrs (l : List UInt8) : ∀ (self : Bool) (acc bs : List At) (sf : Bool) (r : List UInt8), attrs self acc l = some (bs, sf, r) → bulkA bs + bs.length + 2 * r.length ≤ bulkA acc + acc.length + 2 * l.length := by
  induction hn : l.length using Nat.strongRecOn generalizing l with
  | ind n ih =>
    intro self acc bs sf r h
    subst hn
    cases l with
    | nil => rw [attrs_nil] at h; cases h
    | cons c q =>
      by_cases h1 : c = 62
      · subst h1
        rw [attrs_end] at h
        injection h with h
        injection h with h h'
        injection h' with _ h'
        rw [← h, ← h', List.length_cons]
        omega
      · by_cases h2 : c = 47 ∨ sp c = true
        · rw [attrs_skip _ _ _ h1 h2] at h
          have := ih q.length (by simp) q rfl _ _ _ _ _ h
          rw [List.length_cons]
          omega
        · rw [attrs_attr _ _ _ h1 h2] at h
          have hq := sum_attr c q
          have hl := len_attr c q
          have hp := sum_put acc (attr c q).1
          have := ih (attr c q).2.length (by simp only [List.length_cons]; omega) _ rfl _ _ _ _ _ h
          rw [List.length_cons]
          omega
theorem bulk_append (a b : List Tk) : bulk (a ++ b) = bulk a + bulk b := by
  unfold bulk
  rw [List.map_append, List.sum_append]
theorem bulk_one (t : Tk) : bulk [t] = bulkT t := by simp [bulk]
theorem bulk_txt (d : List UInt8) : bulk (txt d) ≤ d.length := by
  unfold txt
  split
  · exact Nat.zero_le _
  · rw [bulk_one]
    show 0 + (B d).size + 0 + 0 ≤ _
    rw [size_B]
    omega
theorem sum_cont (n l : List UInt8) : bulk (cont n l).1 + (cont n l).2.length ≤ l.length := by
  have h1 := sum_trail (isEnd n) l
  unfold cont
  split
  · have := bulk_txt (lead (isEnd n) l)
    show bulk (txt _) + (trail _ l).length ≤ _
    omega
  · split
    · have := bulk_txt (dec (lead (isEnd n) l))
      have := len_dec (lead (isEnd n) l)
      show bulk (txt _) + (trail _ l).length ≤ _
      omega
    · show 0 + l.length ≤ _
      omega
theorem sum_start (l : List UInt8) : bulk (startTag l).1 + 2 * (startTag l).2.length ≤ 2 * l.length ∧ bulk (endTag l).1 + 2 * (endTag l).2.length ≤ 2 * l.length := by
  have h0 := sum_trail (by1 en) l
  cases ha : attrs false [] (from_ en l) with
  | none =>
    rw [(To.start_no ha).1, (To.start_no ha).2]
    exact ⟨Nat.zero_le _, Nat.zero_le _⟩
  | some x =>
    obtain ⟨bs, sf, r⟩ := x
    rw [(To.start_yes ha).1, (To.start_yes ha).2]
    have h1 := sum_attrs _ _ _ _ _ _ ha
    have h2 := sum_cont (lowL (upTo en l)) r
    have h3 : (B (lowL (upTo en l))).size = (lead (by1 en) l).length := by rw [size_B, len_lowL]
    have h4 : (from_ en l).length = (trail (by1 en) l).length := rfl
    have h5 : bulkA ([] : List At) + ([] : List At).length = 0 := rfl
    have e1 : bulkT ⟨1, B (lowL (upTo en l)), B [], bs, sf⟩ = (B (lowL (upTo en l))).size + 0 + bulkA bs + bs.length := rfl
    have e2 : bulkT ⟨2, B (lowL (upTo en l)), B [], [], false⟩ = (B (lowL (upTo en l))).size + 0 + 0 + 0 := rfl
    refine ⟨?_, ?_⟩
    · show bulk (_ :: (cont _ r).1) + 2 * (cont _ r).2.length ≤ _
      rw [To.bulk_cons]
      omega
    · show bulk [_] + 2 * r.length ≤ _
      rw [bulk_one]
      omega
theorem sum_comm (l : List UInt8) : (comm l).1.length + (comm l).2.length ≤ l.length := by
  have h := sum_trail cend l
  unfold comm
  split
  · show 0 + (l.drop 1).length ≤ _
    rw [List.length_drop]; omega
  · split
    · show 0 + (l.drop 2).length ≤ _
      rw [List.length_drop]; omega
    · show (lead cend l).length + ((trail cend l).drop _).length ≤ _
      rw [List.length_drop]; omega
theorem sum_closed (l : List UInt8) : (closed l).1.length + (closed l).2.length ≤ l.length := by
  have h := sum_trail (by1 gt) l
  show (lead (by1 gt) l).length + ((trail (by1 gt) l).drop 1).length ≤ _
  rw [List.length_drop]; omega
theorem sum_mk (l : List UInt8) : bulk (mk l).1 + 2 * (mk l).2.length ≤ 2 * l.length := by
  have d1 : (l.drop 1).length ≤ l.length := by rw [List.length_drop]; omega
  have d2 : (l.drop 2).length ≤ l.length := by rw [List.length_drop]; omega
  have d3 : (l.drop 3).length ≤ l.length := by rw [List.length_drop]; omega
  have d4 : (l.drop 4).length ≤ l.length := by rw [List.length_drop]; omega
  have d9 : (l.drop 9).length ≤ l.length := by rw [List.length_drop]; omega
  by_cases h1 : begun l = 1
  · rw [To.mk_1 h1]; have := (sum_start (l.drop 1)).1; omega
  by_cases h2 : begun l = 2
  · rw [To.mk_2 h2]; have := (sum_start (l.drop 2)).2; omega
  by_cases h3 : begun l = 3
  · rw [To.mk_3 h3]; show 0 + 2 * (l.drop 3).length ≤ _; omega
  by_cases h4 : begun l = 4
  · rw [To.mk_4 h4]
    have := sum_comm (l.drop 4)
    show bulk [_] + 2 * (comm (l.drop 4)).2.length ≤ _
    rw [bulk_one]
    show 0 + (B (comm (l.drop 4)).1).size + 0 + 0 + _ ≤ _
    rw [size_B]
    omega
  by_cases h5 : begun l = 5
  · rw [To.mk_5 h5]
    have := sum_closed (l.drop 9)
    have := len_trimL (closed (l.drop 9)).1
    show bulk [_] + 2 * (closed (l.drop 9)).2.length ≤ _
    rw [bulk_one]
    show 0 + (B (trimL (closed (l.drop 9)).1)).size + 0 + 0 + _ ≤ _
    rw [size_B]
    omega
  by_cases h6 : begun l = 6
  · rw [To.mk_6 h6]
    have := sum_closed (marks (l.drop 1))
    have := To.len_marks (l.drop 1)
    show bulk [_] + 2 * (closed (marks (l.drop 1))).2.length ≤ _
    rw [bulk_one]
    show 0 + (B (closed (marks (l.drop 1))).1).size + 0 + 0 + _ ≤ _
    rw [size_B]
    omega
  · rw [To.mk_0 h1 h2 h3 h4 h5 h6]; show 0 + 2 * l.length ≤ _; omega
theorem sum_turn (l : List UInt8) : bulk (turn l).1 + 2 * (turn l).2.length ≤ 2 * l.length := by
  show bulk (txt (dec (lead bg l)) ++ (mk (trail bg l)).1) + 2 * (mk (trail bg l)).2.length ≤ _
  rw [bulk_append]
  have h1 := sum_trail bg l
  have h2 := sum_mk (trail bg l)
  have h3 := bulk_txt (dec (lead bg l))
  have h4 := len_dec (lead bg l)
  omega
theorem bulk_cut (l : List UInt8) : bulk (cut l) ≤ 2 * l.length := by
  induction hn : l.length using Nat.strongRecOn generalizing l with
  | ind n ih =>
    subst hn
    by_cases h : l = []
    · rw [h, To.cut_nil]; exact Nat.zero_le _
    · have h1 := To.len_turn h
      have h2 := sum_turn l
      have h3 := ih _ h1 _ rfl
      rw [To.cut_step h, bulk_append]
      omega
theorem bulk_within (n l : List UInt8) : bulk (within n l) ≤ 2 * l.length := by
  unfold within
  rw [bulk_append]
  have h1 := bulk_cut (cont n l).2
  have h2 := sum_cont n l
  omega
theorem bulk_mem {l : List Tk} {t : Tk} (h : t ∈ l) : bulkT t ≤ bulk l := by
  induction l with
  | nil => cases h
  | cons a r ih =>
    rw [To.bulk_cons]
    rcases List.mem_cons.1 h with e | e
    · rw [e]; omega
    · have := ih e; omega

end Go.Proofs.YtenmlpfjeohkiaaGreatDoor.Tm

namespace Go.Proofs.YtenmlpfjeohkiaaGreatDoor.Tm
set_option linter.unusedVariables false
set_option linter.unusedSimpArgs false
open Ba Fm Rm Nm
open Ro (At)
theorem dec_esc_app (q : Bool) (l x : List UInt8) : dec (esc q l ++ x) = l ++ dec x := by
  refine writes q (Q := fun l => dec (esc q l ++ x) = l ++ dec x) (by rw [esc_nil]; rfl) (fun r ih => ?_) (fun c r hc ih => ?_) l
  · rw [esc_nbsp, List.append_assoc]
    refine (dec_ref (b := [110, 98, 115, 112]) (t := [194, 160]) (esc q r ++ x) (by decide) (by decide)).trans ?_
    rw [ih]; rfl
  · rw [esc_byte q hc, List.append_assoc]
    unfold e1
    split
    · rename_i e; subst e
      refine (dec_ref (b := [97, 109, 112]) (t := [38]) (esc q r ++ x) (by decide) (by decide)).trans ?_
      rw [ih]; rfl
    split
    · rename_i e; subst e
      refine (dec_ref (b := [108, 116]) (t := [60]) (esc q r ++ x) (by decide) (by decide)).trans ?_
      rw [ih]; rfl
    split
    · rename_i e; subst e
      refine (dec_ref (b := [103, 116]) (t := [62]) (esc q r ++ x) (by decide) (by decide)).trans ?_
      rw [ih]; rfl
    split
    · rename_i e; obtain ⟨rfl, _⟩ := e
      refine (dec_ref (b := [113, 117, 111, 116]) (t := [34]) (esc q r ++ x) (by decide) (by decide)).trans ?_
      rw [ih]; rfl
    · rename_i h _ _ _
      refine (dec_byte (esc q r ++ x) h).trans ?_
      rw [ih]; rfl

/-- A tag's name, as it is cut. -/
def nmOk (n : List UInt8) : Prop := by1 lr n = true ∧ ∀ c ∈ n, en c = false ∧ low c = c
theorem nm_low {n : List UInt8} (h : ∀ c ∈ n, low c = c) : lowL n = n := by
  unfold lowL
  exact (List.map_congr_left h).trans (List.map_id _)
/-- An attribute's name, as it is cut. -/
def aOk (a : At) : Prop := ∃ c t, L a.name = c :: t ∧ c ≠ 62 ∧ c ≠ 47 ∧ sp c = false ∧ low c = c ∧ ∀ x ∈ t, ea x = false ∧ low x = x
def asOk (l : List At) : Prop := (∀ a ∈ l, aOk a) ∧ l.Pairwise fun a b => a.name ≠ b.name
theorem at_back {a : At} {c : UInt8} {t r : List UInt8} (hn : L a.name = c :: t) (hc : low c = c) (ht : ∀ x ∈ t, ea x = false ∧ low x = x) :
    attr c (t ++ 61 :: 34 :: (esc true (L a.value) ++ 34 :: r)) = (a, r) := by
  obtain ⟨u1, u2⟩ := upTo_stop (q := ea) (s := t) (c := 61) (r := 34 :: (esc true (L a.value) ++ 34 :: r)) (fun x hx => (ht x hx).1) (by decide)
  have hv : valued (61 :: 34 :: (esc true (L a.value) ++ 34 :: r)) = (L a.value, r) := by
    obtain ⟨v1, v2⟩ := upTo_stop (q := is 34) (s := esc true (L a.value)) (c := 34) (r := r) (fun x hx => by
      unfold is
      rw [beq_eq_false_iff_ne]
      intro e
      rw [e] at hx
      exact (esc_free true (L a.value)).2.2 rfl hx) (by decide)
    unfold valued
    rw [if_pos (by rfl)]
    have hval : value (trimS (34 :: (esc true (L a.value) ++ 34 :: r))) = (esc true (L a.value), r) := by
      rw [trimS_no _ (by decide)]
      unfold value
      rw [if_pos (by rfl)]
      show quo 34 (esc true (L a.value) ++ 34 :: r) = _
      unfold quo
      rw [v1, v2]
      rfl
    show (dec (value (trimS (34 :: (esc true (L a.value) ++ 34 :: r)))).1, (value (trimS (34 :: (esc true (L a.value) ++ 34 :: r)))).2) = _
    rw [hval]
    show (dec (esc true (L a.value)), r) = _
    rw [dec_esc]
  rw [To.attr_eq, u1, u2, trimS_no _ (by decide), hv]
  have hl : lowL (c :: t) = c :: t := nm_low (fun x hx => by
    rcases List.mem_cons.1 hx with e | e
    · rw [e]; exact hc
    · exact (ht x e).2)
  rw [hl, ← hn, B_L, B_L]
theorem put_new {acc : List At} {a : At} (h : ∀ b ∈ acc, b.name ≠ a.name) : put acc a = acc ++ [a] := by
  unfold put
  rw [if_neg]
  unfold known
  rw [List.any_eq_true]
  rintro ⟨b, hb, e⟩
  exact h b hb (of_decide_eq_true e)
theorem attrs_back : ∀ (l acc : List At) (sf : Bool) (r : List UInt8), (∀ a ∈ l, aOk a) → (acc ++ l).Pairwise (fun a b => a.name ≠ b.name) →
    attrs false acc (l.flatMap wAttr ++ ((if sf = true then [32, 47] else []) ++ 62 :: r)) = some (acc ++ l, sf, r)
  | [], acc, sf, r, _, _ => by
    rw [List.append_nil]
    cases sf with
    | false => exact attrs_end _ _ _
    | true =>
      show attrs false acc (32 :: 47 :: 62 :: r) = _
      rw [attrs_skip _ _ _ (by decide) (.inr (by decide)), attrs_skip _ _ _ (by decide) (.inl rfl)]
      exact attrs_end _ _ _
  | a :: l, acc, sf, r, h, hp => by
    obtain ⟨c, t, hn, c1, c2, c3, c4, ht⟩ := h a List.mem_cons_self
    have e : (a :: l).flatMap wAttr ++ ((if sf = true then [32, 47] else []) ++ 62 :: r) = 32 :: c :: (t ++ 61 :: 34 :: (esc true (L a.value) ++ 34 :: (l.flatMap wAttr ++ ((if sf = true then [32, 47] else []) ++ 62 :: r)))) := by
      rw [List.flatMap_cons]
      unfold wAttr
      rw [hn]
      simp only [List.append_assoc, List.cons_append, List.nil_append]
    rw [e, attrs_skip _ _ _ (by decide) (.inr (by decide)), attrs_attr _ _ _ c1 (by rw [c3]; simpa using c2), at_back hn c4 ht]
    have hp' : ∀ b ∈ acc, b.name ≠ a.name := fun b hb => (List.pairwise_append.1 hp).2.2 b hb a List.mem_cons_self
    rw [put_new hp']
    have := attrs_back l (acc ++ [a]) sf r (fun b hb => h b (List.mem_cons_of_mem _ hb)) (by rw [List.append_assoc]; exact hp)
    rw [this, List.append_assoc]
    rfl

/-- What a start tag written is cut as. -/
theorem start_back {n : List UInt8} (hn : nmOk n) {l : List At} (ha : asOk l) (sf : Bool) (r : List UInt8) :
    startTag (n ++ (l.flatMap wAttr ++ ((if sf = true then [32, 47] else []) ++ 62 :: r))) = (⟨1, B n, B [], l, sf⟩ :: (cont n r).1, (cont n r).2) := by
  have hu : ∀ X : List UInt8, by1 en X = true → upTo en (n ++ X) = n ∧ from_ en (n ++ X) = X := fun X hX => by
    cases X with
    | nil => cases hX
    | cons c q => exact upTo_stop (fun x hx => (hn.2 x hx).1) hX
  have hX : by1 en (l.flatMap wAttr ++ ((if sf = true then [32, 47] else []) ++ 62 :: r)) = true := by
    cases l with
    | nil => cases sf <;> rfl
    | cons a q => rfl
  obtain ⟨u1, u2⟩ := hu _ hX
  have hat : attrs false [] (from_ en (n ++ (l.flatMap wAttr ++ ((if sf = true then [32, 47] else []) ++ 62 :: r)))) = some (l, sf, r) := by
    rw [u2]
    have := attrs_back l [] sf r ha.1 (by rw [List.nil_append]; exact ha.2)
    rwa [List.nil_append] at this
  have := (To.start_yes hat).1
  rw [u1, nm_low (fun c hc => (hn.2 c hc).2)] at this
  exact this
theorem end_back {n : List UInt8} (hn : nmOk n) (r : List UInt8) : endTag (n ++ 62 :: r) = ([⟨2, B n, B [], [], false⟩], r) := by
  obtain ⟨u1, u2⟩ := upTo_stop (q := en) (s := n) (c := 62) (r := r) (fun x hx => (hn.2 x hx).1) (by decide)
  have hat : attrs false [] (from_ en (n ++ 62 :: r)) = some ([], false, r) := by rw [u2]; exact attrs_end _ _ _
  have := (To.start_yes hat).2
  rw [u1, nm_low (fun c hc => (hn.2 c hc).2)] at this
  exact this
theorem begun_name {n r : List UInt8} (hn : nmOk n) : begun (60 :: (n ++ r)) = 1 ∧ begun (60 :: 47 :: (n ++ r)) = 2 := by
  cases n with
  | nil => exact absurd hn.1 (by decide)
  | cons c q =>
    have hc : lr c = true := hn.1
    refine ⟨?_, ?_⟩
    · show begun (60 :: c :: (q ++ r)) = 1
      rw [To.begun_two, if_pos rfl, if_pos hc]
    · show begun (60 :: 47 :: c :: (q ++ r)) = 2
      rw [To.begun_two, if_pos rfl, if_neg (by decide), if_pos rfl]
      show (if lr c = true then 2 else if c = 62 then 3 else 6) = 2
      rw [if_pos hc]

/-- A written text: decoded it is this, whatever stands behind it; it begins nothing. -/
def Clo (e p : List UInt8) : Prop := (60 : UInt8) ∉ e ∧ ∀ x, dec (e ++ x) = p ++ dec x
theorem clo_nil : Clo [] [] := ⟨by simp, fun x => rfl⟩
theorem Clo.esc {e p : List UInt8} (h : Clo e p) (d : List UInt8) : Clo (e ++ esc false d) (p ++ d) :=
  ⟨fun c => (List.mem_append.1 c).elim h.1 (esc_free false d).1, fun x => by rw [List.append_assoc, h.2, dec_esc_app, List.append_assoc]⟩
theorem Clo.dec {e p : List UInt8} (h : Clo e p) : dec e = p := by
  have := h.2 []
  rwa [List.append_nil, Rm.dec_nil, List.append_nil] at this
theorem cut_clo {e p r : List UInt8} (h : Clo e p) (hb : begun r ≠ 0) : cut (e ++ r) = txt p ++ ((mk r).1 ++ cut (mk r).2) := by
  obtain ⟨h1, h2⟩ := begins hb
  have := cut_at h.1 h1
  rwa [h2, h.dec] at this

/-- An element of this name has text alone. -/
def softOr (n : List UInt8) : Bool := rawB n || softB n
/-- Lists of tokens as a document has them. -/
inductive Good : List Tk → Prop
  | nil : Good []
  | text (d : List UInt8) (r : List Tk) : d ≠ [] → Good r → Good (tx d :: r)
  | comment (d : List UInt8) (r : List Tk) : (∀ x, comm (d ++ ([45, 45, 62] ++ x)) = (d, x)) → Good r → Good (⟨3, B [], B d, [], false⟩ :: r)
  | doctype (d : List UInt8) (r : List Tk) : (62 : UInt8) ∉ d → trimL d = d → Good r → Good (⟨4, B [], B d, [], false⟩ :: r)
  | end_ (n : List UInt8) (r : List Tk) : nmOk n → Good r → Good (⟨2, B n, B [], [], false⟩ :: r)
  | start (n : List UInt8) (l : List At) (sf : Bool) (r : List Tk) : nmOk n → asOk l → softOr n = false → Good r → Good (⟨1, B n, B [], l, sf⟩ :: r)
  | raw (n : List UInt8) (l : List At) (sf : Bool) (d : List UInt8) (r : List Tk) : nmOk n → asOk l → rawB n = true → d ≠ [] → lead (isEnd n) (d ++ wAll false r) = d → trail (isEnd n) (d ++ wAll false r) = wAll false r → Good r → Good (⟨1, B n, B [], l, sf⟩ :: tx d :: r)
  | soft (n : List UInt8) (l : List At) (sf : Bool) (d : List UInt8) (r : List Tk) : nmOk n → asOk l → rawB n = false → softB n = true → d ≠ [] → lead (isEnd n) (esc false d ++ wAll false r) = esc false d → trail (isEnd n) (esc false d ++ wAll false r) = wAll false r → Good r → Good (⟨1, B n, B [], l, sf⟩ :: tx d :: r)
  | none_ (n : List UInt8) (l : List At) (sf : Bool) (r : List Tk) : nmOk n → asOk l → softOr n = true → (∀ d q, r ≠ tx d :: q) → wAll true r = wAll false r → lead (isEnd n) (wAll false r) = [] → trail (isEnd n) (wAll false r) = wAll false r → Good r → Good (⟨1, B n, B [], l, sf⟩ :: r)

end Go.Proofs.YtenmlpfjeohkiaaGreatDoor.Tm

namespace Go.Proofs.YtenmlpfjeohkiaaGreatDoor.Tm
set_option linter.unusedVariables false
set_option linter.unusedSimpArgs false
open Ba Fm Rm Nm
open Ro (At)
theorem u8_ext {a b : UInt8} (h : a.toNat = b.toNat) : a = b := UInt8.toNat.inj h
theorem en_no {c : UInt8} (h : en c = false) : c ≠ 47 ∧ c ≠ 62 ∧ sp c = false := by
  unfold en ev at h
  simp only [Bool.or_eq_false_iff, beq_eq_false_iff_ne] at h
  exact ⟨h.1, h.2.1, h.2.2⟩
theorem lead_mem {q : UInt8 → Bool} : ∀ {l : List UInt8} {c : UInt8}, c ∈ lead (by1 q) l → q c = false
  | [], c, h => by cases h
  | a :: r, c, h => by
    cases ha : by1 q (a :: r) with
    | true => rw [lead_yes ha] at h; cases h
    | false =>
      rw [lead_no ha] at h
      rcases List.mem_cons.1 h with e | e
      · rw [e]; exact ha
      · exact lead_mem e
theorem lr_no {c : UInt8} (h : lr c = true) : en c = false := by
  have e : ∀ k : UInt8, lr k = false → (c == k) = false := fun k hk => by
    rw [beq_eq_false_iff_ne]
    intro e
    rw [e, hk] at h
    cases h
  unfold en ev sp
  rw [e 47 (by decide), e 62 (by decide), e 32 (by decide), e 9 (by decide), e 10 (by decide), e 12 (by decide), e 13 (by decide)]
  rfl
theorem slashed_2 {r : List UInt8} (h : slashed r = 2) : by1 lr r = true := by
  cases r with
  | nil => cases h
  | cons d q =>
    have h : (if lr d = true then 2 else if d = 62 then 3 else 6) = 2 := h
    show lr d = true
    by_cases hd : lr d = true
    · exact hd
    · rw [if_neg hd] at h
      split at h <;> cases h
theorem begun_letter {l : List UInt8} : (begun l = 1 → by1 lr (l.drop 1) = true) ∧ (begun l = 2 → by1 lr (l.drop 2) = true) := by
  match l with
  | [] => exact ⟨fun h => absurd h (by decide), fun h => absurd h (by decide)⟩
  | [a] =>
    have : begun [a] = 0 := by show (if a = 60 then 0 else 0) = 0; split <;> rfl
    rw [this]
    exact ⟨fun h => absurd h (by decide), fun h => absurd h (by decide)⟩
  | a :: c :: r =>
    rw [To.begun_two]
    have hm := (To.marked_ge r).1
    split
    · by_cases hc : lr c = true
      · rw [if_pos hc]
        exact ⟨fun _ => hc, fun h => absurd h (by decide)⟩
      · rw [if_neg hc]
        split
        · refine ⟨fun h => ?_, fun h => slashed_2 h⟩
          rcases To.slashed_cases r with e | ⟨_, e | e | e⟩ <;> omega
        · split
          · exact ⟨fun h => by omega, fun h => by omega⟩
          · split
            · exact ⟨fun h => absurd h (by decide), fun h => absurd h (by decide)⟩
            · exact ⟨fun h => absurd h (by decide), fun h => absurd h (by decide)⟩
    · exact ⟨fun h => absurd h (by decide), fun h => absurd h (by decide)⟩
end Go.Proofs.YtenmlpfjeohkiaaGreatDoor.Tm

namespace Go.Proofs.YtenmlpfjeohkiaaGreatDoor.Tm
set_option linter.unusedVariables false
set_option linter.unusedSimpArgs false
open Ba Fm Rm Nm
open Ro (At)
/-- The token of an element that has text alone. -/
def holds (t : Tk) : Bool := t.kind == 1 && softOr (L t.name)
/-- Adjacent texts as one, but for the text of an element that has text alone. -/
def fin : Bool → List UInt8 → List Tk → List Tk
  | _, p, [] => txt p
  | h, p, t :: r => if t.kind = 0 then (if h = true then t :: fin false [] r else fin false (p ++ L t.data) r) else txt p ++ (t :: fin (holds t) [] r)
theorem fin_other {h : Bool} {p : List UInt8} {t : Tk} {r : List Tk} (hk : t.kind ≠ 0) : fin h p (t :: r) = txt p ++ (t :: fin (holds t) [] r) := by
  show (if t.kind = 0 then _ else _) = _
  rw [if_neg hk]
theorem fin_text {p : List UInt8} {t : Tk} {r : List Tk} (hk : t.kind = 0) : fin false p (t :: r) = fin false (p ++ L t.data) r := by
  show (if t.kind = 0 then (if false = true then _ else _) else _) = _
  rw [if_pos hk, if_neg (by simp)]
theorem fin_held {p : List UInt8} {t : Tk} {r : List Tk} (hk : t.kind = 0) : fin true p (t :: r) = t :: fin false [] r := by
  show (if t.kind = 0 then (if true = true then _ else _) else _) = _
  rw [if_pos hk, if_pos rfl]
theorem good_head {r : List Tk} (h : Good r) (hn : ∀ d q, r ≠ tx d :: q) : fin true [] r = fin false [] r := by
  cases h with
  | nil => rfl
  | text d q _ _ => exact absurd rfl (hn d q)
  | comment d q _ _ => rw [fin_other (h := true) (by decide : (3 : Int) ≠ 0), fin_other (h := false) (by decide : (3 : Int) ≠ 0)]
  | doctype d q _ _ _ => rw [fin_other (h := true) (by decide : (4 : Int) ≠ 0), fin_other (h := false) (by decide : (4 : Int) ≠ 0)]
  | end_ n q _ _ => rw [fin_other (h := true) (by decide : (2 : Int) ≠ 0), fin_other (h := false) (by decide : (2 : Int) ≠ 0)]
  | start n l sf q _ _ _ _ => rw [fin_other (h := true) (by decide : (1 : Int) ≠ 0), fin_other (h := false) (by decide : (1 : Int) ≠ 0)]
  | raw n l sf d q _ _ _ _ _ _ _ => rw [fin_other (h := true) (by decide : (1 : Int) ≠ 0), fin_other (h := false) (by decide : (1 : Int) ≠ 0)]
  | soft n l sf d q _ _ _ _ _ _ _ _ => rw [fin_other (h := true) (by decide : (1 : Int) ≠ 0), fin_other (h := false) (by decide : (1 : Int) ≠ 0)]
  | none_ n l sf q _ _ _ _ _ _ _ _ => rw [fin_other (h := true) (by decide : (1 : Int) ≠ 0), fin_other (h := false) (by decide : (1 : Int) ≠ 0)]
theorem wAll_cons (raw : Bool) (t : Tk) (r : List Tk) : wAll raw (t :: r) = w1 raw t ++ wAll (rawT t) r := rfl
theorem w1_text (d : List UInt8) : w1 false (tx d) = esc false d ∧ w1 true (tx d) = d := by
  refine ⟨?_, ?_⟩
  · show (if (0 : Int) = 0 then (if false = true then _ else esc false (L (B d))) else _) = _
    rw [if_pos rfl, if_neg (by simp), L_B]
  · show (if (0 : Int) = 0 then (if true = true then L (B d) else _) else _) = _
    rw [if_pos rfl, if_pos rfl, L_B]
theorem w1_start (raw : Bool) (n : List UInt8) (l : List At) (sf : Bool) (x : List UInt8) : w1 raw ⟨1, B n, B [], l, sf⟩ ++ x = 60 :: (n ++ (l.flatMap wAttr ++ ((if sf = true then [32, 47] else []) ++ 62 :: x))) := by
  unfold w1
  rw [if_neg (show (1 : Int) ≠ 0 by decide), if_pos rfl]
  unfold wStart
  show ([60] ++ L (B n) ++ l.flatMap wAttr ++ (if sf = true then [32, 47] else []) ++ [62]) ++ x = _
  rw [L_B]
  simp only [List.append_assoc, List.cons_append, List.nil_append]
theorem w1_end (raw : Bool) (n x : List UInt8) : w1 raw ⟨2, B n, B [], [], false⟩ ++ x = 60 :: 47 :: (n ++ 62 :: x) := by
  unfold w1
  rw [if_neg (show (2 : Int) ≠ 0 by decide), if_neg (show (2 : Int) ≠ 1 by decide), if_pos rfl]
  show ([60, 47] ++ L (B n) ++ [62]) ++ x = _
  rw [L_B]
  simp only [List.append_assoc, List.cons_append, List.nil_append]
theorem w1_comment (raw : Bool) (d x : List UInt8) : w1 raw ⟨3, B [], B d, [], false⟩ ++ x = 60 :: 33 :: 45 :: 45 :: (d ++ ([45, 45, 62] ++ x)) := by
  unfold w1
  rw [if_neg (show (3 : Int) ≠ 0 by decide), if_neg (show (3 : Int) ≠ 1 by decide), if_neg (show (3 : Int) ≠ 2 by decide), if_pos rfl]
  show ([60, 33, 45, 45] ++ L (B d) ++ [45, 45, 62]) ++ x = _
  rw [L_B]
  simp only [List.append_assoc, List.cons_append, List.nil_append]
theorem w1_doctype (raw : Bool) (d x : List UInt8) : w1 raw ⟨4, B [], B d, [], false⟩ ++ x = 60 :: 33 :: 100 :: 111 :: 99 :: 116 :: 121 :: 112 :: 101 :: 32 :: (d ++ 62 :: x) := by
  unfold w1
  rw [if_neg (show (4 : Int) ≠ 0 by decide), if_neg (show (4 : Int) ≠ 1 by decide), if_neg (show (4 : Int) ≠ 2 by decide), if_neg (show (4 : Int) ≠ 3 by decide), if_pos rfl]
  show ([60, 33, 100, 111, 99, 116, 121, 112, 101, 32] ++ L (B d) ++ [62]) ++ x = _
  rw [L_B]
  simp only [List.append_assoc, List.cons_append, List.nil_append]
theorem rawT_start (n : List UInt8) (l : List At) (sf : Bool) : rawT ⟨1, B n, B [], l, sf⟩ = rawB n := rfl
theorem holds_start (n : List UInt8) (l : List At) (sf : Bool) : holds ⟨1, B n, B [], l, sf⟩ = softOr n := by
  show ((1 : Int) == 1 && softOr (L (B n))) = _
  rw [L_B]; rfl
theorem cont_r {n l : List UInt8} (h : rawB n = true) : cont n l = (txt (lead (isEnd n) l), trail (isEnd n) l) := by unfold cont; rw [if_pos h]
theorem cont_s {n l : List UInt8} (h : rawB n = false) (h' : softB n = true) : cont n l = (txt (dec (lead (isEnd n) l)), trail (isEnd n) l) := by unfold cont; rw [if_neg (by rw [h]; simp), if_pos h']
theorem cont_n {n l : List UInt8} (h : softOr n = false) : cont n l = ([], l) := by
  unfold softOr at h
  rw [Bool.or_eq_false_iff] at h
  unfold cont
  rw [if_neg (by rw [h.1]; simp), if_neg (by rw [h.2]; simp)]
theorem txt_some {d : List UInt8} (h : d ≠ []) : txt d = [tx d] := by unfold txt; rw [if_neg h]

/-- What a good list, written, is cut as. -/
theorem good_cut {T : List Tk} (h : Good T) : ∀ e p, Clo e p → cut (e ++ wAll false T) = fin false p T := by
  induction h with
  | nil =>
    intro e p hc
    show cut (e ++ []) = txt p
    rw [List.append_nil, cut_text hc.1, hc.dec]
  | text d r hd _ ih =>
    intro e p hc
    rw [wAll_cons, (w1_text d).1, ← List.append_assoc]
    have := ih _ _ (hc.esc d)
    rw [fin_text (t := tx d) rfl]
    show _ = fin false (p ++ L (B d)) r
    rw [L_B]
    exact this
  | comment d r hcm _ ih =>
    intro e p hc
    rw [wAll_cons, w1_comment]
    have b4 : begun (60 :: 33 :: 45 :: 45 :: (d ++ ([45, 45, 62] ++ wAll (rawT ⟨3, B [], B d, [], false⟩) r))) = 4 := by
      rw [To.begun_two, if_pos rfl, if_neg (by decide), if_neg (by decide), if_pos rfl]
      exact To.marked_4 (by simp [pre_cons, pre_nil])
    rw [cut_clo hc (by rw [b4]; decide), To.mk_4 b4, fin_other (by decide : (3 : Int) ≠ 0)]
    show txt p ++ ([⟨3, B [], B (comm (d ++ ([45, 45, 62] ++ wAll false r))).1, [], false⟩] ++ cut (comm (d ++ ([45, 45, 62] ++ wAll false r))).2) = _
    rw [hcm]
    have := ih [] [] clo_nil
    rw [List.nil_append] at this
    show txt p ++ ([_] ++ cut (wAll false r)) = _
    rw [this]
    rfl
  | doctype d r h62 htr _ ih =>
    intro e p hc
    rw [wAll_cons, w1_doctype]
    have b5 : begun (60 :: 33 :: 100 :: 111 :: 99 :: 116 :: 121 :: 112 :: 101 :: 32 :: (d ++ 62 :: wAll (rawT ⟨4, B [], B d, [], false⟩) r)) = 5 := by
      rw [To.begun_two, if_pos rfl, if_neg (by decide), if_neg (by decide), if_pos rfl]
      exact To.marked_5 (by simp [pre_cons]) (show lowL [100, 111, 99, 116, 121, 112, 101] = _ from by decide) (show lr 32 = false from by decide)
    rw [cut_clo hc (by rw [b5]; decide), To.mk_5 b5, fin_other (by decide : (4 : Int) ≠ 0)]
    show txt p ++ ([⟨4, B [], B (trimL (closed (32 :: (d ++ 62 :: wAll false r))).1), [], false⟩] ++ cut (closed (32 :: (d ++ 62 :: wAll false r))).2) = _
    have hcl := closed_at (s := 32 :: d) (r := wAll false r) (fun e => by
      rcases List.mem_cons.1 e with e | e
      · exact absurd e (by decide)
      · exact h62 e)
    rw [List.cons_append] at hcl
    rw [hcl]
    have := ih [] [] clo_nil
    rw [List.nil_append] at this
    show txt p ++ ([⟨4, B [], B (trimL (32 :: d)), [], false⟩] ++ cut (wAll false r)) = _
    rw [this, show trimL (32 :: d) = trimL d from by unfold trimL; rw [trimS_sp _ (by decide)], htr]
    rfl
  | end_ n r hn _ ih =>
    intro e p hc
    rw [wAll_cons, w1_end]
    have b2 := (begun_name (r := 62 :: wAll (rawT ⟨2, B n, B [], [], false⟩) r) hn).2
    rw [cut_clo hc (by rw [b2]; decide), To.mk_2 b2, fin_other (by decide : (2 : Int) ≠ 0)]
    show txt p ++ ((endTag (n ++ 62 :: wAll false r)).1 ++ cut (endTag (n ++ 62 :: wAll false r)).2) = _
    rw [end_back hn]
    have := ih [] [] clo_nil
    rw [List.nil_append] at this
    show txt p ++ ([_] ++ cut (wAll false r)) = _
    rw [this]
    rfl
  | start n l sf r hn ha hso _ ih =>
    intro e p hc
    have hraw : rawB n = false := by
      unfold softOr at hso
      exact (Bool.or_eq_false_iff.1 hso).1
    rw [wAll_cons, w1_start, rawT_start, hraw]
    have b1 := (begun_name (r := l.flatMap wAttr ++ ((if sf = true then [32, 47] else []) ++ 62 :: wAll false r)) hn).1
    rw [cut_clo hc (by rw [b1]; decide), To.mk_1 b1, fin_other (by decide : (1 : Int) ≠ 0), holds_start, hso]
    show txt p ++ ((startTag (n ++ (l.flatMap wAttr ++ ((if sf = true then [32, 47] else []) ++ 62 :: wAll false r)))).1 ++ cut (startTag (n ++ (l.flatMap wAttr ++ ((if sf = true then [32, 47] else []) ++ 62 :: wAll false r)))).2) = _
    rw [start_back hn ha, cont_n hso]
    have := ih [] [] clo_nil
    rw [List.nil_append] at this
    show txt p ++ ([_] ++ cut (wAll false r)) = _
    rw [this]
    rfl
  | raw n l sf d r hn ha hraw hd hl ht _ ih =>
    intro e p hc
    have hso : softOr n = true := by unfold softOr; rw [hraw]; rfl
    rw [wAll_cons, w1_start, rawT_start, hraw, wAll_cons, (w1_text d).2]
    have b1 := (begun_name (r := l.flatMap wAttr ++ ((if sf = true then [32, 47] else []) ++ 62 :: (d ++ wAll (rawT (tx d)) r))) hn).1
    rw [cut_clo hc (by rw [b1]; decide), To.mk_1 b1, fin_other (by decide : (1 : Int) ≠ 0), holds_start, hso, fin_held (t := tx d) rfl]
    show txt p ++ ((startTag (n ++ (l.flatMap wAttr ++ ((if sf = true then [32, 47] else []) ++ 62 :: (d ++ wAll false r))))).1 ++ cut (startTag (n ++ (l.flatMap wAttr ++ ((if sf = true then [32, 47] else []) ++ 62 :: (d ++ wAll false r))))).2) = _
    rw [start_back hn ha, cont_r hraw, hl, ht, txt_some hd]
    have := ih [] [] clo_nil
    rw [List.nil_append] at this
    show txt p ++ ([_, _] ++ cut (wAll false r)) = _
    rw [this]
    rfl
  | soft n l sf d r hn ha hraw hsoft hd hl ht _ ih =>
    intro e p hc
    have hso : softOr n = true := by unfold softOr; rw [hsoft, Bool.or_true]
    rw [wAll_cons, w1_start, rawT_start, hraw, wAll_cons, (w1_text d).1]
    have b1 := (begun_name (r := l.flatMap wAttr ++ ((if sf = true then [32, 47] else []) ++ 62 :: (esc false d ++ wAll (rawT (tx d)) r))) hn).1
    rw [cut_clo hc (by rw [b1]; decide), To.mk_1 b1, fin_other (by decide : (1 : Int) ≠ 0), holds_start, hso, fin_held (t := tx d) rfl]
    show txt p ++ ((startTag (n ++ (l.flatMap wAttr ++ ((if sf = true then [32, 47] else []) ++ 62 :: (esc false d ++ wAll false r))))).1 ++ cut (startTag (n ++ (l.flatMap wAttr ++ ((if sf = true then [32, 47] else []) ++ 62 :: (esc false d ++ wAll false r))))).2) = _
    rw [start_back hn ha, cont_s hraw hsoft, hl, ht, dec_esc, txt_some hd]
    have := ih [] [] clo_nil
    rw [List.nil_append] at this
    show txt p ++ ([_, _] ++ cut (wAll false r)) = _
    rw [this]
    rfl
  | none_ n l sf r hn ha hso hnt hw hl ht hr ih =>
    intro e p hc
    have hw' : wAll (rawB n) r = wAll false r := by
      cases hb : rawB n with
      | true => exact hw
      | false => rfl
    rw [wAll_cons, w1_start, rawT_start, hw']
    have b1 := (begun_name (r := l.flatMap wAttr ++ ((if sf = true then [32, 47] else []) ++ 62 :: wAll false r)) hn).1
    rw [cut_clo hc (by rw [b1]; decide), To.mk_1 b1, fin_other (by decide : (1 : Int) ≠ 0), holds_start, hso, good_head hr hnt]
    show txt p ++ ((startTag (n ++ (l.flatMap wAttr ++ ((if sf = true then [32, 47] else []) ++ 62 :: wAll false r)))).1 ++ cut (startTag (n ++ (l.flatMap wAttr ++ ((if sf = true then [32, 47] else []) ++ 62 :: wAll false r)))).2) = _
    have hcont : cont n (wAll false r) = ([], wAll false r) := by
      cases hb : rawB n with
      | true => rw [cont_r hb, hl, ht]; rfl
      | false =>
        have hs : softB n = true := by
          unfold softOr at hso
          rw [hb, Bool.false_or] at hso
          exact hso
        rw [cont_s hb hs, hl, ht, dec_nil]; rfl
    rw [start_back hn ha, hcont]
    have := ih [] [] clo_nil
    rw [List.nil_append] at this
    show txt p ++ ([_] ++ cut (wAll false r)) = _
    rw [this]
    rfl

end Go.Proofs.YtenmlpfjeohkiaaGreatDoor.Tm

namespace Go.Proofs.YtenmlpfjeohkiaaGreatDoor.Bm
set_option linter.unusedVariables false
set_option linter.unusedSimpArgs false
open Ba Fm Rm Nm
open Ro (At Ro)
open Tm (Tk put cut txt tx nmOk softOr Clo begun mk startTag endTag begun_name start_back end_back cont_n cut_clo)
/-- A tag that begins, one that ends. -/
abbrev tagB (n : List UInt8) : Tk := ⟨1, B n, B [], [], false⟩
/-- A name that closes nothing, and is no name without elements, void, or nothing. -/
structure Free (n : List UInt8) : Prop where
  some : noName (B n) = false
  open_ : isIn (B n) voidL = false
  free : closesL (B n) = []
theorem step_k0 {st : St} {t : Tk} (h : t.kind = 0) : stepB st t = if t.data = ⟨#[]⟩ then st else ⟨st.stk, addText st.out st.stk.length t.data⟩ := by unfold stepB; rw [if_pos h]
theorem step_k1 {st : St} {t : Tk} (h : t.kind = 1) (hn : noName t.name = false) : stepB st t = ⟨if isIn t.name voidL = true then openedS t.name st.stk else t.name :: openedS t.name st.stk, st.out ++ [⟨(openedS t.name st.stk).length, 0, t.name, ⟨#[]⟩, once t.attrs⟩]⟩ := by
  unfold stepB
  rw [if_neg (by rw [h]; decide), if_neg (by rw [h]; decide), if_pos h, if_neg (by rw [hn]; simp)]
theorem step_k2 {st : St} {t : Tk} {r : List ByteArray} (h : t.kind = 2) (hn : noName t.name = false) (hv : isIn t.name voidL = false) (hf : findS [t.name] (endWalls t.name) st.stk = some r) : stepB st t = ⟨r, st.out⟩ := by
  unfold stepB
  rw [if_neg (by rw [h]; decide), if_neg (by rw [h]; decide), if_neg (by rw [h]; decide), if_pos h, if_neg (by rw [hn, hv]; simp), hf]
theorem step_begin {n : List UInt8} (h : Free n) (s : List ByteArray) (o : List Ro) : stepB ⟨s, o⟩ (tagB n) = ⟨B n :: s, o ++ [⟨s.length, 0, B n, ⟨#[]⟩, []⟩]⟩ := by
  rw [step_k1 (t := tagB n) rfl h.some]
  show (⟨if isIn (B n) voidL = true then openedS (B n) s else B n :: openedS (B n) s, o ++ [⟨(openedS (B n) s).length, 0, B n, ⟨#[]⟩, once []⟩]⟩ : St) = _
  rw [opened_free h.free, if_neg (by rw [h.open_]; simp)]
  rfl
theorem step_text {d : List UInt8} (hd : d ≠ []) (s : List ByteArray) (o : List Ro) (ho : ∀ y, o.getLast? = some y → y.kind ≠ 1 ∨ y.depth ≠ s.length) : stepB ⟨s, o⟩ (tx d) = ⟨s, o ++ [⟨s.length, 1, ⟨#[]⟩, B d, []⟩]⟩ := by
  rw [step_k0 (t := tx d) rfl]
  show (if B d = ⟨#[]⟩ then _ else (⟨s, addText o s.length (B d)⟩ : St)) = _
  rw [if_neg (fun e => hd (by have := congrArg L e; rwa [L_B] at this))]
  unfold addText
  cases hy : o.getLast? with
  | none => rfl
  | some y =>
    show (⟨s, if y.kind = 1 ∧ y.depth = (s.length : Int) then _ else _⟩ : St) = _
    rw [if_neg (fun hc => (ho y hy).elim (fun e => e hc.1) (fun e => e hc.2))]

/-- Elements within one another: sixty may be, one more is refused. -/
theorem deep {n : List UInt8} (h : Free n) : ∀ (m k : Nat) (o : List Ro), o.length = k → k ≤ 60 →
    (k + m ≤ 60 → ∃ o', treeB ⟨List.replicate k (B n), o⟩ (List.replicate m (tagB n)) = some o' ∧ o'.length = k + m) ∧
    (60 < k + m → treeB ⟨List.replicate k (B n), o⟩ (List.replicate m (tagB n)) = none)
  | 0, k, o, ho, hk => ⟨fun _ => ⟨o, rfl, by omega⟩, fun c => by omega⟩
  | m + 1, k, o, ho, hk => by
    have hs := step_begin h (List.replicate k (B n)) o
    have hb : tooBig (o ++ [⟨k, 0, B n, ⟨#[]⟩, []⟩]) = decide (60 ≤ k) := by
      unfold tooBig
      rw [List.getLast?_append, List.length_append, ho]
      show (decide (4096 < k + 1) || decide ((60 : Int) ≤ k)) = _
      rw [decide_eq_false (by omega), Bool.false_or]
      by_cases h6 : 60 ≤ k
      · rw [decide_eq_true h6, decide_eq_true (by omega)]
      · rw [decide_eq_false h6, decide_eq_false (by omega)]
    rw [List.length_replicate] at hs
    rw [List.replicate_succ, treeB, hs]
    show _ ∧ (_ → (if tooBig (o ++ [⟨k, 0, B n, ⟨#[]⟩, []⟩]) = true then none else _) = none)
    rw [hb]
    by_cases h6 : 60 ≤ k
    · refine ⟨fun c => by omega, fun _ => by rw [if_pos (decide_eq_true h6)]⟩
    · obtain ⟨a, b⟩ := deep h m (k + 1) (o ++ [⟨k, 0, B n, ⟨#[]⟩, []⟩]) (by rw [List.length_append, ho]; rfl) (by omega)
      rw [if_neg (by rw [decide_eq_false h6]; simp)]
      refine ⟨fun c => ?_, fun c => b (by omega)⟩
      obtain ⟨o', e, l⟩ := a (by omega)
      exact ⟨o', e, by omega⟩
end Go.Proofs.YtenmlpfjeohkiaaGreatDoor.Bm

namespace Go.Proofs.YtenmlpfjeohkiaaGreatDoor.Tm
set_option linter.unusedVariables false
set_option linter.unusedSimpArgs false
open Ba Fm Rm Nm
open Ro (At)
theorem low_en {c : UInt8} (h : en c = false) : en (low c) = false := by
  obtain ⟨h1, h2, h3⟩ := en_no h
  by_cases hu : 65 ≤ c ∧ c ≤ 90
  · have e1 := UInt8.le_iff_toNat_le.1 hu.1
    have e2 := UInt8.le_iff_toNat_le.1 hu.2
    have e65 : (65 : UInt8).toNat = 65 := rfl
    have e90 : (90 : UInt8).toNat = 90 := rfl
    have hl : (low c).toNat = c.toNat + 32 := by
      unfold low
      rw [if_pos hu, UInt8.toNat_add]
      simp
      omega
    have ne : ∀ k : UInt8, k.toNat < 97 → (low c == k) = false := fun k hk => by
      rw [beq_eq_false_iff_ne]
      intro e
      rw [e] at hl
      omega
    unfold en ev sp
    rw [ne 32 (by decide), ne 9 (by decide), ne 10 (by decide), ne 12 (by decide), ne 13 (by decide), ne 62 (by decide), ne 47 (by decide)]
    rfl
  · have hl : low c = c := by unfold low; rw [if_neg hu]
    rw [hl]; exact h
theorem low_ea {c : UInt8} (h : ea c = false) : ea (low c) = false := by
  unfold ea at h ⊢
  rw [Bool.or_eq_false_iff] at h ⊢
  refine ⟨?_, low_en h.2⟩
  by_cases hu : 65 ≤ c ∧ c ≤ 90
  · have e1 := UInt8.le_iff_toNat_le.1 hu.1
    have e2 := UInt8.le_iff_toNat_le.1 hu.2
    have e65 : (65 : UInt8).toNat = 65 := rfl
    have e90 : (90 : UInt8).toNat = 90 := rfl
    have hl : (low c).toNat = c.toNat + 32 := by
      unfold low
      rw [if_pos hu, UInt8.toNat_add]
      simp
      omega
    rw [beq_eq_false_iff_ne]
    intro e
    have : (low c).toNat = 61 := by rw [e]; rfl
    omega
  · have hl : low c = c := by unfold low; rw [if_neg hu]
    rw [hl]; exact h.1
theorem lr_low {c : UInt8} (h : lr c = true) : lr (low c) = true := by
  unfold lr at h ⊢
  have e65 : (65 : UInt8).toNat = 65 := rfl
  have e90 : (90 : UInt8).toNat = 90 := rfl
  have e97 : (97 : UInt8).toNat = 97 := rfl
  have e122 : (122 : UInt8).toNat = 122 := rfl
  by_cases hu : 65 ≤ c ∧ c ≤ 90
  · have e1 := UInt8.le_iff_toNat_le.1 hu.1
    have e2 := UInt8.le_iff_toNat_le.1 hu.2
    have hl : (low c).toNat = c.toNat + 32 := by
      unfold low
      rw [if_pos hu, UInt8.toNat_add]
      simp
      omega
    have a1 : decide (97 ≤ low c) = true := decide_eq_true (UInt8.le_iff_toNat_le.2 (by omega))
    have a2 : decide (low c ≤ 122) = true := decide_eq_true (UInt8.le_iff_toNat_le.2 (by omega))
    simp [a1, a2]
  · have hl : low c = c := by unfold low; rw [if_neg hu]
    rw [hl]; exact h
theorem nmOk_cut {l : List UInt8} (h : by1 lr l = true) : nmOk (lowL (upTo en l)) := by
  refine ⟨?_, fun c hc => ?_⟩
  · cases l with
    | nil => cases h
    | cons c r =>
      show by1 lr (lowL (lead (by1 en) (c :: r))) = true
      rw [lead_no (show by1 en (c :: r) = false from lr_no h)]
      exact lr_low h
  · unfold lowL at hc
    obtain ⟨x, hx, rfl⟩ := List.mem_map.1 hc
    exact ⟨low_en (lead_mem hx), low_low x⟩
theorem aOk_cut {c : UInt8} (r : List UInt8) (h1 : c ≠ 62) (h2 : c ≠ 47) (h3 : sp c = false) : aOk (attr c r).1 := by
  have hen : en c = false := by
    unfold en ev
    rw [beq_eq_false_iff_ne.2 h2, beq_eq_false_iff_ne.2 h1, h3]
    rfl
  obtain ⟨k1, k2, k3⟩ := en_no (low_en hen)
  refine ⟨low c, lowL (upTo ea r), ?_, k2, k1, k3, low_low c, fun x hx => ?_⟩
  · show L (B (lowL (c :: upTo ea r))) = _
    rw [L_B]; rfl
  · unfold lowL at hx
    obtain ⟨y, hy, rfl⟩ := List.mem_map.1 hx
    exact ⟨low_ea (lead_mem hy), low_low y⟩
theorem asOk_put {l : List At} {a : At} (h : asOk l) (ha : aOk a) : asOk (put l a) := by
  unfold put
  split
  · exact h
  · rename_i hk
    refine ⟨fun b hb => ?_, ?_⟩
    · rcases List.mem_append.1 hb with e | e
      · exact h.1 b e
      · rw [List.mem_singleton.1 e]; exact ha
    · rw [List.pairwise_append]
      refine ⟨h.2, List.pairwise_singleton _ _, fun b hb c hc e => ?_⟩
      rw [List.mem_singleton.1 hc] at e
      apply hk
      unfold known
      rw [List.any_eq_true]
      exact ⟨b, hb, decide_eq_true e⟩
theorem asOk_cut (l : List UInt8) : ∀ (self : Bool) (acc bs : List At) (sf : Bool) (r : List UInt8), asOk acc → attrs self acc l = some (bs, sf, r) → asOk bs := by
  induction hn : l.length using Nat.strongRecOn generalizing l with
  | ind n ih =>
    intro self acc bs sf r ha h
    subst hn
    cases l with
    | nil => rw [attrs_nil] at h; cases h
    | cons c q =>
      by_cases h1 : c = 62
      · subst h1
        rw [attrs_end] at h
        injection h with h
        injection h with h _
        rw [← h]; exact ha
      · by_cases h2 : c = 47 ∨ sp c = true
        · rw [attrs_skip _ _ _ h1 h2] at h
          exact ih q.length (by simp) q rfl _ _ _ _ _ ha h
        · rw [attrs_attr _ _ _ h1 h2] at h
          have hq := len_attr c q
          have hs : sp c = false := by
            cases e : sp c with
            | true => exact absurd (.inr e) h2
            | false => rfl
          exact ih (attr c q).2.length (by simp only [List.length_cons]; omega) _ rfl _ _ _ _ _ (asOk_put ha (aOk_cut q h1 (fun e => h2 (.inl e)) hs)) h
theorem asOk_nil : asOk [] := ⟨(fun a h => by cases h), List.Pairwise.nil⟩

/-- No rest of what a search has passed fits. -/
theorem lead_not {p : List UInt8 → Bool} : ∀ {l q : List UInt8}, q ≠ [] → q <:+ lead p l → p (q ++ trail p l) = false
  | [], q, hq, hs => absurd (List.suffix_nil.1 hs) hq
  | c :: r, q, hq, hs => by
    cases hp : p (c :: r) with
    | true => rw [lead_yes hp] at hs; exact absurd (List.suffix_nil.1 hs) hq
    | false =>
      rw [lead_no hp] at hs
      rw [trail_no hp]
      rcases List.suffix_cons_iff.1 hs with e | e
      · rw [e, List.cons_append, lead_trail]; exact hp
      · exact lead_not hq e
/-- An end tag's beginning within a name is none. -/
theorem isEnd_over {n q X : List UInt8} (hn : (60 : UInt8) ∉ lowL n) (hq : q ≠ []) (hl : q.length ≤ 2 + n.length) : isEnd n (q ++ 60 :: X) = false := by
  match q, hq with
  | [a], _ =>
    unfold isEnd
    rw [show pre [60, 47] ([a] ++ 60 :: X) = false from by
      show pre [60, 47] (a :: 60 :: X) = false
      rw [pre_cons, pre_cons]
      simp]
    rfl
  | a :: b :: t, _ =>
    simp only [List.length_cons] at hl
    unfold isEnd
    by_cases ht : t.length = n.length
    · have hd : ((a :: b :: t) ++ 60 :: X).drop (2 + n.length) = 60 :: X := by
        rw [← ht, show 2 + t.length = (a :: b :: t).length from by simp only [List.length_cons]; omega, List.drop_left]
      rw [hd, show by1 en (60 :: X) = false from by show en 60 = false; decide, Bool.and_false]
    · have hlt : t.length < n.length := by omega
      have hne : decide (lowL ((((a :: b :: t) ++ 60 :: X).drop 2).take n.length) = lowL n) = false := by
        refine decide_eq_false fun e => hn ?_
        rw [← e]
        show (60 : UInt8) ∈ lowL ((t ++ 60 :: X).take n.length)
        rw [List.take_append]
        unfold lowL
        rw [List.mem_map]
        refine ⟨60, ?_, by decide⟩
        obtain ⟨m, hm⟩ : ∃ m, n.length - t.length = m + 1 := ⟨n.length - t.length - 1, by omega⟩
        rw [hm, List.take_succ_cons]
        exact List.mem_append_right _ List.mem_cons_self
      rw [hne, Bool.and_false, Bool.false_and]

theorem pre_far {t q X : List UInt8} (h : t.length ≤ q.length) : pre t (q ++ X) = pre t q := by
  unfold pre
  rw [List.take_append, show t.length - q.length = 0 from by omega, List.take_zero, List.append_nil]
theorem isEnd_far {n q X : List UInt8} (h : 2 + n.length < q.length) : isEnd n (q ++ X) = isEnd n q := by
  unfold isEnd
  rw [pre_far (t := [60, 47]) (by show 2 ≤ _; omega), List.drop_append, List.drop_append, show 2 - q.length = 0 from by omega, show 2 + n.length - q.length = 0 from by omega, List.drop_zero]
  rw [List.take_append, show n.length - (q.drop 2).length = 0 from by rw [List.length_drop]; omega, List.take_zero, List.append_nil]
  congr 1
  cases hq : q.drop (2 + n.length) with
  | nil =>
    have := congrArg List.length hq
    rw [List.length_drop] at this
    simp at this
    omega
  | cons a r => rfl
theorem isEnd_near {n q : List UInt8} (h : q.length ≤ 2 + n.length) : isEnd n q = false := by
  unfold isEnd
  rw [List.drop_eq_nil_of_le h]
  simp [by1]
theorem isEnd_own {n X : List UInt8} : isEnd n (60 :: 47 :: (n ++ 62 :: X)) = true := by
  unfold isEnd
  rw [pre_cons, pre_cons, pre_nil]
  have h1 : ((60 :: 47 :: (n ++ 62 :: X)).drop 2).take n.length = n := by
    show (n ++ 62 :: X).take n.length = n
    exact List.take_left
  have h2 : (60 :: 47 :: (n ++ 62 :: X)).drop (2 + n.length) = 62 :: X := by
    rw [Nat.add_comm]
    show (n ++ 62 :: X).drop n.length = _
    exact List.drop_left
  rw [h1, h2]
  simp [by1, en, ev]
/-- What an end of an element of text alone is cut as. -/
def EndOf (n : List UInt8) (R : List Tk) : Prop := R = [] ∨ ∃ r, R = ⟨2, B n, B [], [], false⟩ :: r
theorem lr_of_low {c : UInt8} (h : lr (low c) = true) : lr c = true := by
  by_cases hu : 65 ≤ c ∧ c ≤ 90
  · unfold lr
    rw [decide_eq_true hu.1, decide_eq_true hu.2]; rfl
  · have hl : low c = c := by unfold low; rw [if_neg hu]
    rwa [hl] at h
theorem en_of_low {c : UInt8} (h : en (low c) = false) : en c = false := by
  by_cases hu : 65 ≤ c ∧ c ≤ 90
  · exact lr_no (by unfold lr; rw [decide_eq_true hu.1, decide_eq_true hu.2]; rfl)
  · have hl : low c = c := by unfold low; rw [if_neg hu]
    rwa [hl] at h
theorem end_cut {n Y : List UInt8} (hn : nmOk n) (h : isEnd n Y = true) : EndOf n (cut Y) := by
  have hnl := nm_low (fun c hc => (hn.2 c hc).2)
  unfold isEnd at h
  rw [Bool.and_eq_true, Bool.and_eq_true] at h
  obtain ⟨⟨h1, h2⟩, h3⟩ := h
  have h2 := of_decide_eq_true h2
  rw [hnl] at h2
  match Y, h1, h2, h3 with
  | [], h1, _, _ => rw [pre_none] at h1; cases h1
  | [a], h1, _, _ => rw [pre_cons, pre_none, Bool.and_false] at h1; cases h1
  | a :: b :: t, h1, h2, h3 =>
    rw [pre_cons, pre_cons, pre_nil, Bool.and_true, Bool.and_eq_true, decide_eq_true_iff, decide_eq_true_iff] at h1
    obtain ⟨rfl, rfl⟩ := h1
    have h2 : lowL (t.take n.length) = n := h2
    have h3 : by1 en (t.drop n.length) = true := by
      rw [Nat.add_comm] at h3
      exact h3
    have hall : ∀ c ∈ t.take n.length, en c = false := fun c hc => by
      apply en_of_low
      have : low c ∈ n := by rw [← h2]; exact List.mem_map_of_mem hc
      exact (hn.2 _ this).1
    have hut : upTo en t = t.take n.length ∧ from_ en t = t.drop n.length := by
      have e := List.take_append_drop n.length t
      cases hd : t.drop n.length with
      | nil => rw [hd] at h3; cases h3
      | cons c q =>
        rw [hd] at h3 e
        have := upTo_stop (q := en) (s := t.take n.length) (c := c) (r := q) hall h3
        rw [e] at this
        exact this
    have hb : begun (60 :: 47 :: t) = 2 := by
      rw [To.begun_two, if_pos rfl, if_neg (by decide), if_pos rfl]
      cases t with
      | nil =>
        rw [List.take_nil] at h2
        rw [← h2] at hn
        exact absurd hn.1 (by decide)
      | cons c q =>
        have hc : lr c = true := by
          cases n with
          | nil => exact absurd hn.1 (by decide)
          | cons a m =>
            rw [List.length_cons, List.take_succ_cons] at h2
            injection h2 with h2 _
            apply lr_of_low
            rw [h2]
            exact hn.1
        show (if lr c = true then 2 else if c = 62 then 3 else 6) = 2
        rw [if_pos hc]
    have hcut := cut_clo (e := []) (p := []) (r := 60 :: 47 :: t) clo_nil (by rw [hb]; decide)
    rw [List.nil_append, To.mk_2 hb] at hcut
    rw [hcut]
    show EndOf n ([] ++ ((endTag t).1 ++ cut (endTag t).2))
    cases ha : attrs false [] (from_ en t) with
    | none =>
      rw [(To.start_no ha).2]
      left
      show [] ++ ([] ++ cut []) = []
      rw [To.cut_nil]; rfl
    | some x =>
      obtain ⟨bs, sf, r⟩ := x
      rw [(To.start_yes ha).2, hut.1, h2]
      right
      exact ⟨cut r, rfl⟩
theorem EndOf.w {n : List UInt8} {R : List Tk} (h : EndOf n R) : (∀ raw, wAll raw R = wAll false R) ∧ (∀ d q, R ≠ tx d :: q) ∧ (wAll false R = [] ∨ ∃ X, wAll false R = 60 :: 47 :: (n ++ 62 :: X)) := by
  rcases h with rfl | ⟨r, rfl⟩
  · exact ⟨fun _ => rfl, fun d q e => (nomatch e), .inl rfl⟩
  · refine ⟨fun raw => by rw [wAll_cons, wAll_cons, w1_end, w1_end], fun d q e => ?_, .inr ⟨_, by rw [wAll_cons, w1_end]⟩⟩
    injection e with e _
    have := congrArg Tk.kind e
    exact absurd (show (2 : Int) = 0 from this) (by decide)
theorem raw_name {n : List UInt8} (h : softOr n = true) : (60 : UInt8) ∉ lowL n := by
  have hall : ∀ x ∈ rawL ++ softL, (60 : UInt8) ∉ lowL (L x) := by decide
  unfold softOr rawB softB at h
  rw [Bool.or_eq_true] at h
  have hm : B n ∈ rawL ++ softL := by
    rcases h with h | h
    · exact List.mem_append_left _ (isIn_of h)
    · exact List.mem_append_right _ (isIn_of h)
  have := hall _ hm
  rwa [L_B] at this
/-- The text ahead of an end tag, raw. -/
theorem raw_lead {n l : List UInt8} {R : List Tk} (hs : softOr n = true) (hR : EndOf n R) :
    lead (isEnd n) (lead (isEnd n) l ++ wAll false R) = lead (isEnd n) l ∧ trail (isEnd n) (lead (isEnd n) l ++ wAll false R) = wAll false R := by
  refine lead_to (fun q hq hsf => ?_) ?_
  · by_cases hl : 2 + n.length < q.length
    · have := lead_not (p := isEnd n) hq hsf
      rw [isEnd_far hl] at this ⊢
      exact this
    · rcases hR.w.2.2 with e | ⟨X, e⟩
      · rw [e, List.append_nil]; exact isEnd_near (by omega)
      · rw [e]; exact isEnd_over (raw_name hs) hq (by omega)
  · rcases hR.w.2.2 with e | ⟨X, e⟩
    · exact .inl e
    · exact .inr (by rw [e]; exact isEnd_own)
theorem soft_lead {n e : List UInt8} {R : List Tk} (he : (60 : UInt8) ∉ e) (hR : EndOf n R) :
    lead (isEnd n) (e ++ wAll false R) = e ∧ trail (isEnd n) (e ++ wAll false R) = wAll false R := by
  refine lead_to (fun q hq hsf => ?_) ?_
  · cases q with
    | nil => exact absurd rfl hq
    | cons c t =>
      have hc : c ≠ 60 := fun x => he (by rw [← x]; exact hsf.subset List.mem_cons_self)
      unfold isEnd
      rw [List.cons_append, pre_cons, decide_eq_false hc]
      rfl
  · rcases hR.w.2.2 with e' | ⟨X, e'⟩
    · exact .inl e'
    · exact .inr (by rw [e']; exact isEnd_own)

theorem cend_mem {l : List UInt8} (h : (62 : UInt8) ∉ l) : cend l = false := by
  have hp : ∀ t : List UInt8, (62 : UInt8) ∈ t → pre t l = false := fun t ht => by
    unfold pre
    refine decide_eq_false fun e => h ?_
    rw [← e] at ht
    exact List.mem_of_mem_take ht
  unfold cend
  rw [hp _ (by decide), hp _ (by decide)]
  rfl
theorem cend_app {q Y x : List UInt8} (hq : q ≠ []) (h : cend (q ++ Y) = false) : cend (q ++ ([45, 45, 62] ++ x)) = false := by
  obtain ⟨h1, h2⟩ := To.cend_no h
  unfold cend
  match q, hq, h1, h2 with
  | [a], _, _, _ => simp [pre_cons, pre_nil]
  | [a, b], _, _, _ => simp [pre_cons, pre_nil]
  | [a, b, c], _, h1, _ =>
    simp only [List.cons_append, List.nil_append, pre_cons, pre_nil, Bool.and_true] at h1 ⊢
    rw [h1]
    simp
  | a :: b :: c :: d :: r, _, h1, h2 =>
    simp only [List.cons_append, pre_cons, pre_nil, Bool.and_true] at h1 h2 ⊢
    rw [h1, h2]
    rfl
theorem comm_same {s : List UInt8} (h1 : ∀ x, pre [62] (s ++ ([45, 45, 62] ++ x)) = false) (h2 : ∀ x, pre [45, 62] (s ++ ([45, 45, 62] ++ x)) = false) (h3 : ∀ q, q ≠ [] → q <:+ s → ∃ Y, cend (q ++ Y) = false) (x : List UInt8) :
    comm (s ++ ([45, 45, 62] ++ x)) = (s, x) := by
  obtain ⟨l1, l2⟩ := lead_to (p := cend) (s := s) (r := [45, 45, 62] ++ x) (fun q hq hs => by
    obtain ⟨Y, hY⟩ := h3 q hq hs
    exact cend_app hq hY) (.inr (by
    show cend (45 :: 45 :: 62 :: x) = true
    unfold cend
    simp [pre_cons, pre_nil]))
  rw [To.comm_on (h1 x) (h2 x), l1, l2]
  have : pre [45, 45, 62] ([45, 45, 62] ++ x) = true := by
    show pre [45, 45, 62] (45 :: 45 :: 62 :: x) = true
    simp [pre_cons, pre_nil]
  rw [if_pos this]
  rfl
theorem comm_free {s : List UInt8} (h : (62 : UInt8) ∉ s) (x : List UInt8) : comm (s ++ ([45, 45, 62] ++ x)) = (s, x) := by
  refine comm_same (fun x => ?_) (fun x => ?_) (fun q _ hs => ⟨[], by rw [List.append_nil]; exact cend_mem fun e => h (hs.subset e)⟩) x
  · cases s with
    | nil => simp [pre_cons, pre_nil]
    | cons c q =>
      have hc : c ≠ 62 := fun e => h (by simp [e])
      simp [pre_cons, pre_nil, hc]
  · match s, h with
    | [], _ => simp [pre_cons, pre_nil]
    | [c], _ => simp [pre_cons, pre_nil]
    | c :: d :: q, h =>
      have hd : d ≠ 62 := fun e => h (by simp [e])
      simp [pre_cons, pre_nil, hd]
theorem comm_again (l x : List UInt8) : comm ((comm l).1 ++ ([45, 45, 62] ++ x)) = ((comm l).1, x) := by
  cases h1 : pre [62] l with
  | true => rw [To.comm_gt h1]; exact comm_free (s := []) (by simp) x
  | false =>
    cases h2 : pre [45, 62] l with
    | true => rw [To.comm_dash h1 h2]; exact comm_free (s := []) (by simp) x
    | false =>
      rw [To.comm_on h1 h2]
      have hl := lead_trail cend l
      show comm (lead cend l ++ ([45, 45, 62] ++ x)) = (lead cend l, x)
      refine comm_same (fun x => ?_) (fun x => ?_) (fun q hq hs => ⟨_, lead_not hq hs⟩) x
      · cases hd : lead cend l with
        | nil => simp [pre_cons, pre_nil]
        | cons c q =>
          rw [hd] at hl
          rw [← hl, List.cons_append, pre_cons, pre_nil, Bool.and_true] at h1
          rw [List.cons_append, pre_cons, pre_nil, Bool.and_true]
          exact h1
      · cases hd : lead cend l with
        | nil => simp [pre_cons, pre_nil]
        | cons c q =>
          cases q with
          | nil => simp [pre_cons, pre_nil]
          | cons d t =>
            rw [hd] at hl
            rw [← hl, List.cons_append, List.cons_append, pre_cons, pre_cons, pre_nil, Bool.and_true] at h2
            rw [List.cons_append, List.cons_append, pre_cons, pre_cons, pre_nil, Bool.and_true]
            exact h2

theorem not_gt (l : List UInt8) : (62 : UInt8) ∉ upTo gt l := fun h => by
  have := lead_mem (q := gt) h
  exact absurd this (by decide)
end Go.Proofs.YtenmlpfjeohkiaaGreatDoor.Tm

namespace Go.Proofs.YtenmlpfjeohkiaaGreatDoor.Wm
set_option linter.unusedVariables false
set_option linter.unusedSimpArgs false
open Ba Fm Rm Nm Bm
open Ro (At Ro)
open Tm (Tk tx txt fin wAll EndOf nmOk asOk softOr rawB softB isEnd lead trail comm)
theorem wA_eq : wA = Tm.wAttr := rfl
def tk (x : Ro) : Tk := if x.kind = 1 then ⟨0, ⟨#[]⟩, x.data, [], false⟩ else if x.kind = 2 then ⟨3, ⟨#[]⟩, x.data, [], false⟩ else ⟨1, x.name, ⟨#[]⟩, x.attrs, false⟩
def endT (x : Ro) : Tk := ⟨2, x.name, ⟨#[]⟩, [], false⟩
/-- The tokens of trees. -/
def toks : List Ro → List Tk
  | [] => []
  | x :: r => tk x :: ((if holds x = true then toks (inn x r) ++ [endT x] else []) ++ toks (beh x r))
  termination_by l => l.length
  decreasing_by
    · have := len_parts x r
      simp only [List.length_cons]; omega
    · have := len_parts x r
      simp only [List.length_cons]; omega
theorem toks_nil : toks [] = [] := by rw [toks]
theorem toks_cons (x : Ro) (r : List Ro) : toks (x :: r) = tk x :: ((if holds x = true then toks (inn x r) ++ [endT x] else []) ++ toks (beh x r)) := by rw [toks]

/-- What is asked of a row that stands within these elements (the last one first). -/
structure Fit (s : List ByteArray) (x : Ro) : Prop where
  at_ : x.depth = (s.length : Int)
  ok : Ro.okRow x = true
  el : x.kind = 0 → quiet x.name s ∧ isIn x.name goneL = false ∧ nmOk (L x.name) ∧ asOk x.attrs
  note : x.kind = 2 → ∀ t, comm (L x.data ++ ([45, 45, 62] ++ t)) = (L x.data, t)
  text : x.kind = 1 → x.data ≠ ⟨#[]⟩
/-- What an element has that has text alone. -/
def Alone (x : Ro) (k : List Ro) : Prop := k = [] ∨ ∃ y, k = [y] ∧ y.kind = 1 ∧ (rawB (L x.name) = true → lead (isEnd (L x.name)) (L y.data) = L y.data)
/-- Trees that come back, within these elements. -/
inductive Tr : List ByteArray → List Ro → Prop
  | nil (s : List ByteArray) : Tr s []
  | one (s : List ByteArray) (x : Ro) (r : List Ro) : Fit s x → (holds x = false → inn x r = []) → (holds x = true → Tr (x.name :: s) (inn x r)) → (holds x = true → softOr (L x.name) = true → Alone x (inn x r)) →
      (x.kind = 1 → ∀ y, (beh x r).head? = some y → y.kind ≠ 1) → Tr s (beh x r) → Tr s (x :: r)

theorem kinds {x : Ro} (h : Ro.okRow x = true) : x.kind = 0 ∨ x.kind = 1 ∨ x.kind = 2 := by
  unfold Ro.okRow at h
  by_cases h0 : x.kind = 0
  · exact .inl h0
  · rw [if_neg (by simpa using h0)] at h
    simp only [Bool.and_eq_true, Bool.or_eq_true, beq_iff_eq] at h
    exact .inr h.1.1
theorem void_plain {n : ByteArray} (h : isIn n voidL = true) : softOr (L n) = false ∧ isIn n rawL = false := by
  have hall : ∀ x ∈ voidL, softOr (L x) = false ∧ isIn x rawL = false := by decide
  exact hall n (isIn_of h)
theorem tk0 {x : Ro} (h : x.kind = 0) : tk x = ⟨1, x.name, ⟨#[]⟩, x.attrs, false⟩ := by unfold tk; rw [if_neg (by rw [h]; decide), if_neg (by rw [h]; decide)]
theorem tk1 {x : Ro} (h : x.kind = 1) : tk x = ⟨0, ⟨#[]⟩, x.data, [], false⟩ := by unfold tk; rw [if_pos h]
theorem tk2 {x : Ro} (h : x.kind = 2) : tk x = ⟨3, ⟨#[]⟩, x.data, [], false⟩ := by unfold tk; rw [if_neg (by rw [h]; decide), if_pos h]
theorem tk1' {x : Ro} (h : x.kind = 1) : tk x = tx (L x.data) := by rw [tk1 h]; unfold tx; rw [B_L]; rfl
theorem holds_kind {x : Ro} (h : holds x = true) : x.kind = 0 ∧ isIn x.name voidL = false := by
  unfold holds at h
  rw [Bool.and_eq_true, beq_iff_eq, Bool.not_eq_true'] at h
  exact h
theorem holds_no {x : Ro} (h : x.kind ≠ 0) : holds x = false := by
  unfold holds
  rw [beq_eq_false_iff_ne.2 h, Bool.false_and]
theorem holds_void {x : Ro} (h : x.kind = 0) (hh : holds x = false) : isIn x.name voidL = true := by
  unfold holds at hh
  rw [beq_iff_eq.2 h, Bool.true_and] at hh
  simpa using hh
theorem rawB_eq (n : ByteArray) : rawB (L n) = isIn n rawL := by unfold rawB; rw [B_L]

/-- The tokens, written, are the trees, written. -/
theorem wAll_toks {s : List ByteArray} {l : List Ro} (h : Tr s l) : ∀ (raw : Bool) (R : List Tk), (raw = true → l = [] ∨ ∃ y, l = [y] ∧ y.kind = 1) → wAll raw (toks l ++ R) = wr raw l ++ wAll (raw && l.isEmpty) R := by
  induction h with
  | nil s =>
    intro raw R _
    rw [toks_nil, wr_nil]
    simp
  | one s x r hf hn hk ha ht ho ihk iho =>
    intro raw R hraw
    rw [toks_cons, wr_cons, List.cons_append, Tm.wAll_cons]
    show _ = _ ++ wAll (raw && false) R
    rw [Bool.and_false]
    have hbeh : wAll false (toks (beh x r) ++ R) = wr raw (beh x r) ++ wAll false R := by
      cases raw with
      | false =>
        have := iho false R (fun e => by cases e)
        rwa [Bool.false_and] at this
      | true =>
        rcases hraw rfl with e | ⟨y, e, hy⟩
        · cases e
        · injection e with e1 e2
          subst e2
          have : beh x [] = [] := rfl
          rw [this, toks_nil, wr_nil]; rfl
    rcases kinds hf.ok with h0 | h1 | h2
    · have hnode : Tm.w1 raw (tk x) = node raw x := by
        rw [tk0 h0]
        unfold Tm.w1 node
        rw [if_neg (show (1 : Int) ≠ 0 by decide), if_pos rfl, if_pos h0]
        unfold Tm.wStart tagW
        rw [wA_eq]
        simp
      rw [hnode]
      have hrt : Tm.rawT (tk x) = isIn x.name rawL := by rw [tk0 h0]; rfl
      rw [hrt]
      cases hh : holds x with
      | true =>
        rw [if_pos rfl, if_pos rfl]
        have hal : isIn x.name rawL = true → inn x r = [] ∨ ∃ y, inn x r = [y] ∧ y.kind = 1 := fun e => by
          rcases ha hh (by unfold softOr; rw [rawB_eq, e]; rfl) with e | ⟨y, e, hy, _⟩
          · exact .inl e
          · exact .inr ⟨y, e, hy⟩
        have hk' := ihk hh (isIn x.name rawL) ((endT x) :: (toks (beh x r) ++ R)) hal
        have he : wAll (isIn x.name rawL && (inn x r).isEmpty) (endT x :: (toks (beh x r) ++ R)) = endW x ++ wAll false (toks (beh x r) ++ R) := rfl
        rw [he] at hk'
        simp only [List.append_assoc, List.cons_append, List.nil_append]
        rw [hk', hbeh]
      | false =>
        rw [if_neg (by simp), if_neg (by simp), (void_plain (holds_void h0 hh)).2, List.nil_append, List.nil_append, hbeh, List.append_assoc]
    · have hnode : Tm.w1 raw (tk x) = node raw x := by
        rw [tk1 h1]
        unfold Tm.w1 node
        rw [if_pos (show (0 : Int) = 0 from rfl), if_neg (show ¬ x.kind = 0 by rw [h1]; decide), if_pos h1]
      have hrt : Tm.rawT (tk x) = false := by rw [tk1 h1]; rfl
      rw [hnode, hrt, holds_no (by rw [h1]; decide), if_neg (by simp), if_neg (by simp), List.nil_append, List.nil_append, hbeh, List.append_assoc]
    · have hnode : Tm.w1 raw (tk x) = node raw x := by
        rw [tk2 h2]
        unfold Tm.w1 node
        rw [if_neg (show (3 : Int) ≠ 0 by decide), if_neg (show (3 : Int) ≠ 1 by decide), if_neg (show (3 : Int) ≠ 2 by decide), if_pos rfl, if_neg (by rw [h2]; decide), if_neg (by rw [h2]; decide), if_pos h2]
      have hrt : Tm.rawT (tk x) = false := by rw [tk2 h2]; rfl
      rw [hnode, hrt, holds_no (by rw [h2]; decide), if_neg (by simp), if_neg (by simp), List.nil_append, List.nil_append, hbeh, List.append_assoc]

theorem data_ne {x : Ro} (h : x.data ≠ ⟨#[]⟩) : L x.data ≠ [] := fun e => h (by rw [← B_L x.data, e]; rfl)
/-- The tokens of trees are such as a document has. -/
theorem good_toks {s : List ByteArray} {l : List Ro} (h : Tr s l) : ∀ R, Tm.Good R → Tm.Good (toks l ++ R) := by
  induction h with
  | nil s => intro R hR; rw [toks_nil]; exact hR
  | one s x r hf hn hk ha ht ho ihk iho =>
    intro R hR
    rw [toks_cons, List.cons_append]
    have hbeh := iho R hR
    rcases kinds hf.ok with h0 | h1 | h2
    · obtain ⟨hq, hg, hnm, has⟩ := hf.el h0
      rw [tk0 h0]
      have et : (⟨1, x.name, ⟨#[]⟩, x.attrs, false⟩ : Tk) = ⟨1, B (L x.name), B [], x.attrs, false⟩ := by rw [B_L]; rfl
      rw [et]
      cases hh : holds x with
      | false =>
        rw [if_neg (by simp), List.nil_append]
        exact .start _ _ _ _ hnm has (void_plain (holds_void h0 hh)).1 hbeh
      | true =>
        rw [if_pos rfl]
        have hend : Tm.Good (endT x :: (toks (beh x r) ++ R)) := by
          have : endT x = ⟨2, B (L x.name), B [], [], false⟩ := by unfold endT; rw [B_L]; rfl
          rw [this]
          exact .end_ _ _ hnm hbeh
        have hEO : EndOf (L x.name) (endT x :: (toks (beh x r) ++ R)) := .inr ⟨_, by unfold endT; rw [B_L]; rfl⟩
        simp only [List.append_assoc, List.cons_append, List.nil_append]
        cases hso : softOr (L x.name) with
        | false => exact .start _ _ _ _ hnm has hso (ihk hh _ hend)
        | true =>
          rcases ha hh hso with e | ⟨y, e, hy, hl⟩
          · rw [e, toks_nil, List.nil_append]
            obtain ⟨s1, s2⟩ := Tm.soft_lead (e := []) (by simp) hEO
            rw [List.nil_append] at s1 s2
            exact .none_ _ _ _ _ hnm has hso hEO.w.2.1 (hEO.w.1 true) s1 s2 hend
          · have hky := hk hh
            rw [e] at hky
            have hfy : Fit (x.name :: s) y := by
              cases hky with
              | one _ _ _ hf _ _ _ _ _ => exact hf
            have hdy := data_ne (hfy.text hy)
            have ety : toks [y] = [tx (L y.data)] := by
              rw [toks_cons, holds_no (by rw [hy]; decide), if_neg (by simp), show beh y [] = [] from rfl, toks_nil, tk1' hy]; rfl
            rw [e, ety, List.cons_append, List.nil_append]
            cases hrb : rawB (L x.name) with
            | true =>
              obtain ⟨s1, s2⟩ := Tm.raw_lead (l := L y.data) hso hEO
              rw [hl hrb] at s1 s2
              exact .raw _ _ _ _ _ hnm has hrb hdy s1 s2 hend
            | false =>
              have hsb : softB (L x.name) = true := by
                unfold softOr at hso
                rwa [hrb, Bool.false_or] at hso
              obtain ⟨s1, s2⟩ := Tm.soft_lead (e := esc false (L y.data)) (esc_free false _).1 hEO
              exact .soft _ _ _ _ _ hnm has hrb hsb hdy s1 s2 hend
    · rw [tk1' h1, holds_no (by rw [h1]; decide), if_neg (by simp), List.nil_append]
      exact .text _ _ (data_ne (hf.text h1)) hbeh
    · have et : tk x = ⟨3, B [], B (L x.data), [], false⟩ := by rw [tk2 h2, B_L]; rfl
      rw [et, holds_no (by rw [h2]; decide), if_neg (by simp), List.nil_append]
      exact .comment _ _ (hf.note h2) hbeh

/-- No two texts side by side, none empty. -/
def sep : List Tk → Prop
  | [] => True
  | t :: r => (t.kind = 0 → t = tx (L t.data) ∧ L t.data ≠ [] ∧ ∀ u, r.head? = some u → u.kind ≠ 0) ∧ sep r
theorem fin_sep : ∀ {T : List Tk}, sep T → (∀ b, fin b [] T = T) ∧ ∀ p, (∀ u, T.head? = some u → u.kind ≠ 0) → fin false p T = txt p ++ T
  | [], _ => ⟨fun b => rfl, fun p _ => by rw [List.append_nil]; rfl⟩
  | t :: r, h => by
    obtain ⟨i1, i2⟩ := fin_sep h.2
    by_cases hk : t.kind = 0
    · obtain ⟨e, hd, hr⟩ := h.1 hk
      refine ⟨fun b => ?_, fun p hp => absurd hk (hp t rfl)⟩
      cases b with
      | true => rw [Tm.fin_held hk, i1]
      | false => rw [Tm.fin_text hk, List.nil_append, i2 _ hr, Tm.txt_some hd, List.cons_append, List.nil_append, ← e]
    · refine ⟨fun b => ?_, fun p _ => ?_⟩
      · rw [Tm.fin_other hk, i1]; rfl
      · rw [Tm.fin_other hk, i1]
theorem sep_toks {s : List ByteArray} {l : List Ro} (h : Tr s l) : ∀ R, sep R → (∀ u, R.head? = some u → u.kind ≠ 0) → sep (toks l ++ R) := by
  induction h with
  | nil s => intro R hR _; rw [toks_nil]; exact hR
  | one s x r hf hn hk ha ht ho ihk iho =>
    intro R hR hR0
    rw [toks_cons, List.cons_append]
    have hbeh := iho R hR hR0
    by_cases h1 : x.kind = 1
    · rw [tk1' h1, holds_no (by rw [h1]; decide), if_neg (by simp), List.nil_append]
      refine ⟨fun _ => ⟨?_, ?_, fun u hu => ?_⟩, hbeh⟩
      · show tx (L x.data) = tx (L (B (L x.data))); rw [L_B]
      · show L (B (L x.data)) ≠ []; rw [L_B]; exact data_ne (hf.text h1)
      · cases hb : beh x r with
        | nil =>
          rw [hb, toks_nil, List.nil_append] at hu
          exact hR0 u hu
        | cons y q =>
          rw [hb, toks_cons, List.cons_append] at hu
          have hy := ht h1 y (by rw [hb]; rfl)
          have hu : some (tk y) = some u := hu
          injection hu with hu
          rw [← hu]
          unfold tk
          rw [if_neg hy]
          split
          · exact (by decide : (3 : Int) ≠ 0)
          · exact (by decide : (1 : Int) ≠ 0)
    · refine ⟨fun e => ?_, ?_⟩
      · exfalso
        unfold tk at e
        rw [if_neg h1] at e
        split at e
        · exact absurd e (by decide : (3 : Int) ≠ 0)
        · exact absurd e (by decide : (1 : Int) ≠ 0)
      · cases hh : holds x with
        | false => rw [if_neg (by simp), List.nil_append]; exact hbeh
        | true =>
          rw [if_pos rfl]
          simp only [List.append_assoc, List.cons_append, List.nil_append]
          refine ihk hh _ ⟨fun e => absurd e (by decide : (2 : Int) ≠ 0), hbeh⟩ (fun u hu => ?_)
          have hu : some (endT x) = some u := hu
          injection hu with hu
          rw [← hu]
          exact (by decide : (2 : Int) ≠ 0)

/-- What is written is cut as its tokens. -/
theorem cut_wr {s : List ByteArray} {l : List Ro} (h : Tr s l) : Tm.cut (wr false l) = toks l := by
  have h1 := Tm.good_cut (good_toks h [] .nil) [] [] Tm.clo_nil
  have h2 := wAll_toks h false [] (fun e => by cases e)
  rw [List.append_nil] at h1 h2
  rw [h2, List.nil_append] at h1
  have h3 := sep_toks h [] trivial (fun u hu => by cases hu)
  rw [List.append_nil] at h3
  rw [(fin_sep h3).1] at h1
  have : wAll (false && l.isEmpty) [] = [] := rfl
  rw [this, List.append_nil] at h1
  exact h1

theorem not_tooBig {o : List Ro} (h : small o) : ¬ tooBig o = true := not_big h.1 fun y hy => by have := h.2 y hy; omega
theorem small_left {a b : List Ro} (h : small (a ++ b)) : small a := ⟨by have := h.1; rw [List.length_append] at this; omega, fun y hy => h.2 y (List.mem_append_left _ hy)⟩
theorem raw_row {x : Ro} (h : Ro.okRow x = true) (hk : x.kind = 0) : x = ⟨x.depth, 0, x.name, ⟨#[]⟩, x.attrs⟩ ∧ x.name ≠ ⟨#[]⟩ := by
  unfold Ro.okRow at h
  rw [if_pos (by rw [hk]; rfl)] at h
  simp only [Bool.and_eq_true, Bool.not_eq_true'] at h
  obtain ⟨⟨h1, h2⟩, h3⟩ := h
  have hd := empty_name h2
  refine ⟨?_, fun e => ?_⟩
  · rcases x with ⟨d, k, n, t, a⟩
    simp only at hk hd
    subst hk hd
    rfl
  · rw [e] at h1
    exact absurd (show (⟨#[]⟩ : ByteArray).toList.isEmpty = true from nil_empty) (by rw [h1]; simp)
theorem note_row {x : Ro} (h : Ro.okRow x = true) (hk : x.kind = 2) : x = ⟨x.depth, 2, ⟨#[]⟩, x.data, []⟩ := by
  unfold Ro.okRow at h
  rw [if_neg (by rw [hk]; decide)] at h
  simp only [Bool.and_eq_true] at h
  obtain ⟨⟨_, h1⟩, h2⟩ := h
  have hn := empty_name h1
  have hl : x.attrs.length = 0 := by have := beq_iff_eq.1 h2; omega
  have ha := List.eq_nil_of_length_eq_zero hl
  rcases x with ⟨d, k, n, t, a⟩
  simp only at hk hn ha
  subst hk hn ha
  rfl
theorem once_same {l : List At} (h : asOk l) : once l = l := by
  have : ∀ (l acc : List At), (acc ++ l).Pairwise (fun a b => a.name ≠ b.name) → l.foldl Tm.put acc = acc ++ l := fun l => by
    induction l with
    | nil => intro acc _; rw [List.append_nil]; rfl
    | cons a r ih =>
      intro acc hp
      have hn : ∀ b ∈ acc, b.name ≠ a.name := fun b hb => (List.pairwise_append.1 hp).2.2 b hb a List.mem_cons_self
      show r.foldl Tm.put (Tm.put acc a) = _
      rw [Tm.put_new hn, ih (acc ++ [a]) (by rw [List.append_assoc]; exact hp), List.append_assoc]
      rfl
  have := this l [] h.2
  rwa [List.nil_append] at this

theorem tree_cons' (st : St) (t : Tk) (r : List Tk) : treeB st (t :: r) = if tooBig (stepB st t).out = true then none else treeB (stepB st t) r := rfl
theorem mem_tw {α : Type} (p : α → Bool) : ∀ (l : List α), ∀ x ∈ l.takeWhile p, p x = true
  | [], x, h => by cases h
  | a :: l, x, h => by
    rw [List.takeWhile_cons] at h
    split at h
    · rename_i ha
      rcases List.mem_cons.1 h with e | e
      · rw [e]; exact ha
      · exact mem_tw p l x e
    · cases h
/-- The tokens of trees are built as these trees. -/
theorem tree_toks {s : List ByteArray} {l : List Ro} (h : Tr s l) : ∀ (o : List Ro) (R : List Tk), small (o ++ l) →
    (∀ y z, o.getLast? = some y → l.head? = some z → z.kind = 1 → y.kind ≠ 1 ∨ y.depth ≠ s.length) → treeB ⟨s, o⟩ (toks l ++ R) = treeB ⟨s, o ++ l⟩ R := by
  induction h with
  | nil s => intro o R _ _; rw [toks_nil, List.append_nil]; rfl
  | one s x r hf hn hk ha ht ho ihk iho =>
    intro o R hsm hlast
    rw [toks_cons, List.cons_append]
    have hr := inn_beh x r
    have hsm' : small ((o ++ [x]) ++ (inn x r ++ beh x r)) := by rw [hr, List.append_assoc]; exact hsm
    have hsx : small (o ++ [x]) := small_left hsm'
    have hbx : tooBig (o ++ [x]) ≠ true := not_tooBig hsx
    have hdeep : ∀ y ∈ inn x r, y.depth ≠ (s.length : Int) := fun y hy => by
      have h1 := mem_tw _ _ y hy
      unfold deep at h1
      rw [decide_eq_true_iff, hf.at_] at h1
      omega
    have hfin : (o ++ [x]) ++ inn x r ++ beh x r = o ++ x :: r := by rw [List.append_assoc, hr, List.append_assoc]; rfl
    have hnext : ∀ (hx1 : x.kind = 1 → inn x r = []), ∀ y z, ((o ++ [x]) ++ inn x r).getLast? = some y → (beh x r).head? = some z → z.kind = 1 → y.kind ≠ 1 ∨ y.depth ≠ s.length := fun hx1 y z hy hz hzk => by
      cases hi : (inn x r).getLast? with
      | none =>
        rw [List.getLast?_eq_none_iff] at hi
        rw [hi, List.append_nil, List.getLast?_append] at hy
        have hy : some x = some y := by simpa using hy
        injection hy with hy
        subst hy
        by_cases h1 : x.kind = 1
        · exact absurd hzk (ht h1 z hz)
        · exact .inl h1
      | some w =>
        rw [List.getLast?_append, hi] at hy
        have hy : some w = some y := by simpa using hy
        injection hy with hy
        subst hy
        exact .inr (hdeep w (List.mem_of_getLast? hi))
    rcases kinds hf.ok with h0 | h1 | h2
    · obtain ⟨hq, hg, hnm, has⟩ := hf.el h0
      obtain ⟨hrow, hne⟩ := raw_row hf.ok h0
      have hnn : noName x.name = false := by
        unfold noName
        rw [decide_eq_false hne, hg]; rfl
      have hstep : stepB ⟨s, o⟩ (tk x) = ⟨if isIn x.name voidL = true then s else x.name :: s, o ++ [x]⟩ := by
        rw [tk0 h0, step_k1 rfl hnn, quiet_same hq]
        show (⟨_, o ++ [⟨(s.length : Int), 0, x.name, ⟨#[]⟩, once x.attrs⟩]⟩ : St) = _
        rw [once_same has, ← hf.at_, ← hrow]
      rw [tree_cons', hstep, if_neg hbx]
      cases hh : holds x with
      | false =>
        rw [if_pos (holds_void h0 hh), if_neg (by simp), List.nil_append]
        have hi := hn hh
        have := iho (o ++ [x]) R (by rw [hi] at hsm'; exact hsm') (by have := hnext (fun _ => hi); rwa [hi, List.append_nil] at this)
        rw [this]
        rw [hi, List.append_nil] at hfin
        rw [hfin]
      | true =>
        obtain ⟨_, hv⟩ := holds_kind hh
        rw [if_neg (by rw [hv]; simp), if_pos rfl]
        simp only [List.append_assoc, List.cons_append, List.nil_append]
        have hx1 : x.kind = 1 → inn x r = [] := fun e => by rw [h0] at e; cases e
        have hin := ihk hh (o ++ [x]) (endT x :: (toks (beh x r) ++ R)) (by rw [← List.append_assoc] at hsm'; exact small_left hsm') (fun y z hy _ _ => by
          rw [List.getLast?_append] at hy
          have hy : some x = some y := by simpa using hy
          injection hy with hy
          subst hy
          exact .inl (by rw [h0]; decide))
        rw [show o ++ [x] = o ++ x :: [] from rfl] at hin
        rw [hin, tree_cons']
        have hend : stepB ⟨x.name :: s, o ++ [x] ++ inn x r⟩ (endT x) = ⟨s, o ++ [x] ++ inn x r⟩ := step_k2 rfl hnn hv (findS_hit s (isIn_yes List.mem_cons_self))
        rw [hend]
        have hbi : tooBig (o ++ [x] ++ inn x r) ≠ true := not_tooBig (by rw [← List.append_assoc] at hsm'; exact small_left hsm')
        rw [if_neg hbi]
        have := iho (o ++ [x] ++ inn x r) R (by rw [← List.append_assoc] at hsm'; exact hsm') (hnext hx1)
        rw [this, hfin]
    · have hh := holds_no (show x.kind ≠ 0 by rw [h1]; decide)
      have hi := hn hh
      rw [hh, if_neg (by simp), List.nil_append]
      have hstep : stepB ⟨s, o⟩ (tk x) = ⟨s, o ++ [x]⟩ := by
        rw [tk1' h1, step_text (data_ne (hf.text h1)) s o (fun y hy => hlast y x hy rfl h1)]
        have := text_row hf.ok h1
        rw [B_L, ← hf.at_]
        exact congrArg (fun z => (⟨s, o ++ [z]⟩ : St)) this.symm
      rw [tree_cons', hstep, if_neg hbx]
      have := iho (o ++ [x]) R (by rw [hi] at hsm'; exact hsm') (by have := hnext (fun _ => hi); rwa [hi, List.append_nil] at this)
      rw [this]
      rw [hi, List.append_nil] at hfin
      rw [hfin]
    · have hh := holds_no (show x.kind ≠ 0 by rw [h2]; decide)
      have hi := hn hh
      rw [hh, if_neg (by simp), List.nil_append]
      have hstep : stepB ⟨s, o⟩ (tk x) = ⟨s, o ++ [x]⟩ := by
        rw [tk2 h2]
        unfold stepB
        rw [if_neg (show (3 : Int) ≠ 0 by decide), if_pos rfl]
        have := note_row hf.ok h2
        rw [← hf.at_]
        exact congrArg (fun z => (⟨s, o ++ [z]⟩ : St)) this.symm
      rw [tree_cons', hstep, if_neg hbx]
      have := iho (o ++ [x]) R (by rw [hi] at hsm'; exact hsm') (by have := hnext (fun _ => hi); rwa [hi, List.append_nil] at this)
      rw [this]
      rw [hi, List.append_nil] at hfin
      rw [hfin]

/-- Trees that come back: written, cut and built they are as they were. -/
theorem back {l : List Ro} (h : Tr [] l) (hs : small l) : treeB ⟨[], []⟩ (Tm.cut (wr false l)) = some l := by
  rw [cut_wr h]
  have := tree_toks h [] [] hs (fun y z hy _ _ => by cases hy)
  rw [List.append_nil, List.nil_append] at this
  rw [this]; rfl

end Go.Proofs.YtenmlpfjeohkiaaGreatDoor.Wm

namespace Go.Proofs.YtenmlpfjeohkiaaGreatDoor.Ro
set_option maxRecDepth 100000
set_option linter.unusedVariables false
set_option linter.unusedSimpArgs false
open Go.RowKit Ba
/-- A row as it lies: where its attributes are, and how much room is there. -/
structure Cw where
  ro : Ro
  A : Option Addr
  c : Nat

def cells (x : Cw) : List Value := [.int .i64 x.ro.depth, .int .i64 x.ro.kind, .string x.ro.name, .string x.ro.data, .slice x.A x.ro.attrs.length x.c]
theorem len_cells (x : Cw) : (cells x).length = 5 := rfl
def Att (w : World) (N : Nat) (x : Cw) : Prop := x.ro.attrs.length ≤ x.c ∧ (x.A = none → x.c = 0) ∧ x.c ≤ maxLen ∧ Ra w N x.A x.ro.attrs ∧ Sh x.ro.attrs
/-- These rows lie at A, below block N, and their attributes. -/
def Rr (w : World) (N : Nat) (A : Option Addr) (l : List Cw) : Prop :=
  (0 < l.length → ∃ b off, A = some ⟨b, off, none⟩ ∧ b < N ∧ ∀ j (h : j < l.length), w.rangeAt b (off + j * 5) (cells l[j])) ∧ ∀ x ∈ l, Att w N x
/-- A row as a value. -/
abbrev rowV (x : Cw) : Value := .agg #[.int .i64 x.ro.depth, .int .i64 x.ro.kind, .string x.ro.name, .string x.ro.data, .slice x.A x.ro.attrs.length x.c]
def ros (l : List Cw) : List Ro := l.map Cw.ro
theorem len_ros (l : List Cw) : (ros l).length = l.length := List.length_map _
theorem ros_drop (l : List Cw) (k : Nat) : (ros l).drop k = ros (l.drop k) := by simp [ros, List.map_drop]
theorem ros_take (l : List Cw) (k : Nat) : (ros l).take k = ros (l.take k) := by simp [ros, List.map_take]
theorem ros_append (a b : List Cw) : ros (a ++ b) = ros a ++ ros b := by simp [ros]
theorem ros_cons (a : Cw) (b : List Cw) : ros (a :: b) = a.ro :: ros b := rfl

theorem Att.keep {w w' : World} {N : Nat} {x : Cw} (h : Att w N x) (hk : ∀ b o, b < N → w'.cell? ⟨b, o, none⟩ = w.cell? ⟨b, o, none⟩) : Att w' N x := ⟨h.1, h.2.1, h.2.2.1, h.2.2.2.1.keep hk, h.2.2.2.2⟩
theorem Att.more {w : World} {N M : Nat} {x : Cw} (h : Att w N x) (hN : N ≤ M) : Att w M x := ⟨h.1, h.2.1, h.2.2.1, h.2.2.2.1.more hN, h.2.2.2.2⟩
theorem Att.below {w w' : World} {N M : Nat} {x : Cw} (h : Att w N x) (hb : Below M w w') (hN : N ≤ M := by exact Nat.le_refl _) : Att w' N x := h.keep fun b o hbN => hb.cell (p := ⟨b, o, none⟩) (show b < M by omega)
theorem Rr.keep {w w' : World} {N : Nat} {A : Option Addr} {l : List Cw} (h : Rr w N A l) (hk : ∀ b o, b < N → w'.cell? ⟨b, o, none⟩ = w.cell? ⟨b, o, none⟩) : Rr w' N A l :=
  ⟨fun h0 => by
    obtain ⟨b, off, e, hb, hc⟩ := h.1 h0
    exact ⟨b, off, e, hb, fun j hj => range_keep (hc j hj) fun o => hk b o hb⟩, fun x hx => (h.2 x hx).keep hk⟩
theorem Rr.more {w : World} {N M : Nat} {A : Option Addr} {l : List Cw} (h : Rr w N A l) (hN : N ≤ M) : Rr w M A l :=
  ⟨fun h0 => by
    obtain ⟨b, off, e, hb, hc⟩ := h.1 h0
    exact ⟨b, off, e, by omega, hc⟩, fun x hx => (h.2 x hx).more hN⟩
theorem Rr.below {w w' : World} {N M : Nat} {A : Option Addr} {l : List Cw} (h : Rr w N A l) (hb : Below M w w') (hN : N ≤ M := by exact Nat.le_refl _) : Rr w' N A l := h.keep fun b o hbN => hb.cell (p := ⟨b, o, none⟩) (show b < M by omega)
theorem Rr.nil (w : World) (N : Nat) (A : Option Addr) : Rr w N A [] := ⟨fun h => absurd h (by simp), fun _ h => by simp at h⟩
/-- A part of it: what the model makes of l[i:j]. -/
theorem Rr.part {w : World} {N : Nat} {A : Option Addr} {l : List Cw} (h : Rr w N A l) (i j cap : Nat) (hij : i ≤ j) (hj : j ≤ l.length) (hc : l.length ≤ cap) :
    Rr w N (if cap = i then A else A.map (·.add (i * 5))) ((l.take j).drop i) := by
  refine ⟨fun h0 => ?_, fun x hx => h.2 x (List.mem_of_mem_take (List.mem_of_mem_drop hx))⟩
  rw [List.length_drop, List.length_take] at h0
  obtain ⟨b, off, e, hb, hcc⟩ := h.1 (by omega)
  rw [if_neg (by omega), e]
  refine ⟨b, off + i * 5, by simp [WideShapes.add_plain], hb, fun k hk => ?_⟩
  rw [List.length_drop, List.length_take] at hk
  have := hcc (i + k) (by omega)
  rw [show off + i * 5 + k * 5 = off + (i + k) * 5 from by omega]
  simpa using this

theorem info_row : (Tryz.prog.info? 34).map (fun i => (i.zero, i.size, i.bytes)) = some (some (.agg #[.int .i64 0, .int .i64 0, .string .empty, .string .empty, .slice none 0 0]), 5, 72) := by kernel_rfl
theorem size_row : (Tryz.prog.info? 34).map (·.size) = some 5 := by kernel_rfl
/-- The row at k. -/
theorem Rr.at_ {w : World} {N : Nat} {A : Option Addr} {l : List Cw} (h : Rr w N A l) (k : Nat) (hk : k < l.length) :
    ∃ b off x, A = some ⟨b, off, none⟩ ∧ b < N ∧ l.drop k = x :: l.drop (k + 1) ∧ w.rangeAt b (off + k * 5) [.int .i64 x.ro.depth, .int .i64 x.ro.kind, .string x.ro.name, .string x.ro.data, .slice x.A x.ro.attrs.length x.c] ∧ Att w N x ∧ x ∈ l := by
  obtain ⟨b, off, e, hb, hc⟩ := h.1 (by omega)
  exact ⟨b, off, l[k], e, hb, List.drop_eq_getElem_cons hk, hc k hk, h.2 _ (List.getElem_mem _), List.getElem_mem _⟩
/-- A row in a box of its own. -/
abbrev rowO (x : Cw) : Obj := .cells #[.int .i64 x.ro.depth, .int .i64 x.ro.kind, .string x.ro.name, .string x.ro.data, .slice x.A x.ro.attrs.length x.c] 34
theorem box_at (w : World) (x : Cw) (j : Nat) : (w.alloc (rowO x)).cell? ⟨w.heap.size, j, none⟩ = (cells x)[j]? := by
  rw [World.cell?_alloc_mark]
  match j with
  | 0 | 1 | 2 | 3 | 4 => rfl
  | j + 5 => simp [cells]
theorem box_kept {w w3 : World} {x : Cw} (hb : Below (w.alloc (rowO x)).heap.size (w.alloc (rowO x)) w3) (j : Nat) : w3.cell? ⟨w.heap.size, j, none⟩ = (cells x)[j]? :=
  (hb.cell (p := ⟨w.heap.size, j, none⟩) (by simp)).trans (box_at w x j)
theorem Att.boxed {w w0 : World} {x : Cw} (h : Att w w0.heap.size x) (hb : Below w0.heap.size w0 w) (o : Obj) : Att (w.alloc o) (w.alloc o).heap.size x :=
  ((h.more hb.size).below (below_new w o)).more (by simp)
/-- l[i:j] where i is ahead of the room's end. -/
theorem Rr.mid {w : World} {N : Nat} {A : Option Addr} {l : List Cw} (h : Rr w N A l) (i j cap : Nat) (hij : i ≤ j) (hj : j ≤ l.length) (hc : l.length ≤ cap) (hne : i < cap) :
    Rr w N (Option.map (fun x => x.add (i * 5)) A) ((l.take j).drop i) := by
  have := h.part i j cap hij hj hc
  rwa [if_neg (by omega)] at this
theorem ros_part (l : List Cw) (i j : Nat) : ros ((l.take j).drop i) = ((ros l).take j).drop i := by rw [← ros_drop, ← ros_take]

end Go.Proofs.YtenmlpfjeohkiaaGreatDoor.Ro

namespace Go.Proofs.YtenmlpfjeohkiaaGreatDoor.Ro
set_option maxRecDepth 100000
set_option linter.unusedVariables false
set_option linter.unusedSimpArgs false
open Go.RowKit Ba
theorem has_any (A : Option Addr) (n c : Nat) (i : Int) (w : World) (h : n ≤ c) :
    Calls Tryz.prog 49 #[.slice A n c, .int .i64 i] w fun e w' => e = .returned (.bool (decide (0 ≤ i ∧ i < n))) ∧ w = w' := by
  by_cases h1 : 0 ≤ i
  · by_cases h2 : i < n
    · have e : decide (0 ≤ i ∧ i < n) = true := decide_eq_true ⟨h1, h2⟩
      rw [e]
      clear e
      go_enter Tryz.func49, Tryz.ntmps49
      go_wp2
      go_ret
      exact ⟨rfl, rfl⟩
    · have e : decide (0 ≤ i ∧ i < n) = false := decide_eq_false fun e => h2 e.2
      have h2' : decide (i < n) = false := decide_eq_false h2
      rw [e]
      clear e
      go_enter Tryz.func49, Tryz.ntmps49
      go_wp2
      go_ret
      exact ⟨rfl, rfl⟩
  · have h1' : decide (0 ≤ i) = false := decide_eq_false h1
    have e : decide (0 ≤ i ∧ i < n) = false := decide_eq_false fun e => h1 e.1
    rw [e]
    clear e
    go_enter Tryz.func49, Tryz.ntmps49
    go_wp2
    go_ret
    exact ⟨rfl, rfl⟩

theorem depthTop_any (A : Option Addr) (n c : Nat) (w : World) :
    Calls Tryz.prog 71 #[.slice A n c, .int .i64 (-1)] w fun e w' => e = .returned (.int .i64 (-1)) ∧ w = w' := by
  go_enter Tryz.func71, Tryz.ntmps71
  go_wp2
  go_ret
  exact ⟨rfl, rfl⟩
theorem depthAt_any (A : Option Addr) (c : Nat) (l : List Cw) (k : Nat) (w : World) (hr : Rr w w.heap.size A l) (hc : l.length ≤ c) (hm : l.length ≤ 1000000) (hk : k < l.length) :
    Calls Tryz.prog 71 #[.slice A l.length c, .int .i64 k] w fun e w' => e = .returned (.int .i64 (dep (ros l) k)) ∧ w = w' := by
  obtain ⟨b, off, x, rfl, hb, hd, hx, _, _⟩ := hr.at_ k hk
  have hg := (range5 hx).1
  have e : dep (ros l) k = x.ro.depth := dep_at (by rw [ros, List.getElem?_map, getElem_of_drop hd]; rfl)
  rw [e]
  clear hd hx hr e
  have hk1 : ((k : Int) == -1) = false := by rw [beq_eq_false_iff_ne]; omega
  go_enter Tryz.func71, Tryz.ntmps71
  go_wp2
  go_ret
  exact ⟨rfl, rfl⟩
theorem depthOf_any (A : Option Addr) (c : Nat) (l : List Cw) (i : Int) (w : World) (hr : Rr w w.heap.size A l) (hc : l.length ≤ c) (hm : l.length ≤ 1000000) (h1 : -1 ≤ i) (h2 : i < l.length) :
    Calls Tryz.prog 71 #[.slice A l.length c, .int .i64 i] w fun e w' => e = .returned (.int .i64 (dep (ros l) i)) ∧ w = w' := by
  by_cases h : i = -1
  · subst h
    exact depthTop_any A _ c w
  · obtain ⟨k, rfl⟩ := Int.eq_ofNat_of_zero_le (show 0 ≤ i by omega)
    exact depthAt_any A c l k w hr hc hm (by omega)

theorem exceeds_any (A : Option Addr) (c : Nat) (l : List Cw) (n d : Int) (w : World) (hr : Rr w w.heap.size A l) (hc : l.length ≤ c) (hm : l.length ≤ 1000000) :
    Calls Tryz.prog 32 #[.slice A l.length c, .int .i64 n, .int .i64 d] w fun e w' => e = .returned (.bool (exceeds (ros l) n d)) ∧ Below w.heap.size w w' := by
  by_cases h1 : n < l.length
  · go_enter Tryz.func32, Tryz.ntmps32
    go_wp2
    go_ret
    exact ⟨ret_bool (by simp [exceeds, len_ros, h1]), Below.refl _ _⟩
  · have h1' : decide (n < l.length) = false := decide_eq_false h1
    go_enter Tryz.func32, Tryz.ntmps32
    go_wp2
    go_loopw [15] (fun i wr => ∃ k : Nat, i = .int .i64 k ∧ k ≤ l.length ∧ (ros (l.drop k)).any (fun x => decide (d ≤ x.depth)) = exceeds (ros l) n d ∧ Below w.heap.size w wr) (fun i _ => l.length - (intOf i).toNat)
    case atStart => exact ⟨0, rfl, by omega, by rw [List.drop_zero, exceeds, len_ros, decide_eq_false (by omega), Bool.false_or], Below.refl _ _⟩
    case round =>
      obtain ⟨k, rfl, hk, hv, hbel⟩ := hrel
      have hsz := hbel.size
      by_cases hp : k < l.length
      · obtain ⟨b, off, x, rfl, hb, hd, hx, _, _⟩ := (hr.below hbel).at_ k hp
        rw [hd, ros_cons, List.any_cons] at hv
        clear hd
        by_cases h2 : d ≤ x.ro.depth
        · rw [decide_eq_true h2, Bool.true_or] at hv
          have HV := Lib.hid hv
          clear hv
          go_wp2_with (refine wpList_load_mid rfl 34 (.tmp 17) rfl b (off + k * 5) rfl _ _ hx Tryz.underlying34 rfl size_row ?_)
          go_ret
          exact ⟨ret_bool HV.out, hbel.alloc hsz _⟩
        · rw [decide_eq_false h2, Bool.false_or] at hv
          have HV := Lib.hid hv
          have h2' : decide (d ≤ x.ro.depth) = false := decide_eq_false h2
          clear hv
          go_wp2_with (refine wpList_load_mid rfl 34 (.tmp 17) rfl b (off + k * 5) rfl _ _ hx Tryz.underlying34 rfl size_row ?_)
          go_roundw
          case rel => exact ⟨k + 1, by go_num, by omega, HV.out, hbel.alloc hsz _⟩
          case measure => simp [intOf]; omega
      · rw [List.drop_eq_nil_of_le (by omega)] at hv
        have HV := Lib.hid hv
        clear hv
        go_wp2
        go_ret
        exact ⟨ret_bool HV.out, hbel⟩

end Go.Proofs.YtenmlpfjeohkiaaGreatDoor.Ro

namespace Go.Proofs.YtenmlpfjeohkiaaGreatDoor.Ro
set_option maxRecDepth 100000
set_option linter.unusedVariables false
set_option linter.unusedSimpArgs false
open Go.RowKit Ba
theorem same_quiet {P : Program} {f : FuncId} {args : Array Value} {w : World} {n : Nat} {v : Value}
    (h : Calls P f args (w.drewN n) fun e w' => e = .returned v ∧ w.drewN n = w') : Calls P f args (w.drewN n) fun e w'' => e = .returned v ∧ ∃ m, w'' = w.drewN m :=
  h.mono fun _ _ ⟨he, hm⟩ => ⟨he, n, hm.symm⟩
theorem Rr.drewN {w : World} {N : Nat} {A : Option Addr} {l : List Cw} (h : Rr w N A l) (k : Nat) : Rr (w.drewN k) N A l := h

theorem take_step {l : List Cw} {e : Nat} {x : Cw} {p : Ro → Bool} (hd : l.drop e = x :: l.drop (e + 1)) (h : p x.ro = true) : ((ros (l.drop e)).takeWhile p).length = ((ros (l.drop (e + 1))).takeWhile p).length + 1 := by
  rw [hd, ros_cons, List.takeWhile_cons, if_pos h, List.length_cons]
theorem take_stop {l : List Cw} {e : Nat} {x : Cw} {p : Ro → Bool} (hd : l.drop e = x :: l.drop (e + 1)) (h : p x.ro = false) : ((ros (l.drop e)).takeWhile p).length = 0 := by
  rw [hd, ros_cons, List.takeWhile_cons, if_neg (by rw [h]; decide)]
  rfl
set_option maxRecDepth 100000 in
theorem endOf_any (A : Option Addr) (c : Nat) (l : List Cw) (i : Int) (w : World) (hr : Rr w w.heap.size A l) (hc : l.length ≤ c) (hm : l.length ≤ 1000000) (h1 : -1 ≤ i) (h2 : i < l.length) :
    Calls Tryz.prog 50 #[.slice A l.length c, .int .i64 i] w fun e w' => e = .returned (.int .i64 (endOf (ros l) i)) ∧ w = w' := by
  obtain ⟨d, hd⟩ : ∃ d, dep (ros l) i = d := ⟨_, rfl⟩
  obtain ⟨E, hE⟩ : ∃ E, endOf (ros l) i = E := ⟨_, rfl⟩
  have hs : (i + 1).toNat + ((ros (l.drop (i + 1).toNat)).takeWhile fun x => decide (d < x.depth)).length = E := by rw [← hE, ← hd, ← ros_drop]; rfl
  obtain ⟨k0, hk0⟩ : ∃ k0 : Nat, (i + 1).toNat = k0 := ⟨_, rfl⟩
  have hk1 : i + 1 = (k0 : Int) := by omega
  have hk2 : k0 ≤ l.length := by omega
  rw [hk0] at hs
  rw [hE]
  have HD := Lib.hid hd; have HS := Lib.hid hs; have HK := Lib.hid hk1
  clear hd hs hE hk0 hk1
  go_enter Tryz.func50, Tryz.ntmps50
  go_wp2_with fail
  refine (depthOf_any A c l i w hr hc hm h1 h2).mono ?_
  rintro e w1 ⟨rfl, rfl⟩
  rw [HD.out]
  clear HD
  go_wp2
  rw [HK.out]
  clear HK
  go_loop [6] (fun v => ∃ k : Nat, v = .int .i64 k ∧ k ≤ l.length ∧ k + ((ros (l.drop k)).takeWhile fun x => decide (d < x.depth)).length = E) (fun v => l.length - (intOf v).toNat)
  case atStart => exact ⟨k0, rfl, hk2, HS.out⟩
  case round =>
    clear HS hk2
    obtain ⟨k, rfl, hk, hv⟩ := hrel
    by_cases hp : k < l.length
    · obtain ⟨b, off, x, rfl, hb, hd, hx, _, _⟩ := hr.at_ k hp
      have hg := (range5 hx).1
      clear hx
      by_cases h3 : d < x.ro.depth
      · rw [take_step hd (decide_eq_true h3)] at hv
        have HV := Lib.hid hv
        clear hv hd
        go_wp2
        go_round
        case rel => exact ⟨k + 1, by go_num, by omega, by have := HV.out; omega⟩
        case measure => simp [intOf]; omega
      · rw [take_stop hd (decide_eq_false h3)] at hv
        have HV := Lib.hid hv
        have h3' : decide (d < x.ro.depth) = false := decide_eq_false h3
        clear hv hd
        go_wp2
        go_ret
        exact ⟨ret_int (by rw [← HV.out]; rfl), rfl⟩
    · rw [List.drop_eq_nil_of_le (by omega)] at hv
      have HV := Lib.hid hv
      clear hv
      go_wp2
      go_ret
      exact ⟨ret_int (by rw [← HV.out]; rfl), rfl⟩

theorem hasRow_yes {l : List Cw} {i : Int} (h0 : 0 ≤ i) (h1 : i < l.length) : hasRow (ros l) i = true := decide_eq_true ⟨h0, by rw [len_ros]; exact h1⟩
theorem hasRow_no {l : List Cw} {i : Int} (h : ¬ (0 ≤ i ∧ i < l.length)) : hasRow (ros l) i = false := decide_eq_false fun e => h (by rw [len_ros] at e; exact e)
theorem endAt_yes {l : List Cw} {i : Int} (h0 : 0 ≤ i) (h1 : i < l.length) : endAt (ros l) i = endOf (ros l) i := by rw [endAt, hasRow_yes h0 h1]; rfl
theorem endAt_no {l : List Cw} {i : Int} (h : ¬ (0 ≤ i ∧ i < l.length)) : endAt (ros l) i = 0 := by rw [endAt, hasRow_no h]; rfl

theorem hasYes_any (A : Option Addr) (n c : Nat) (i : Int) (w : World) (h : n ≤ c) (h0 : 0 ≤ i) (h1 : i < n) : Calls Tryz.prog 49 #[.slice A n c, .int .i64 i] w fun e w' => e = .returned (.bool true) ∧ w = w' := by
  have := has_any A n c i w h
  rwa [decide_eq_true (⟨h0, h1⟩ : 0 ≤ i ∧ i < n)] at this
theorem hasNo_any (A : Option Addr) (n c : Nat) (i : Int) (w : World) (h : n ≤ c) (h0 : ¬ (0 ≤ i ∧ i < n)) : Calls Tryz.prog 49 #[.slice A n c, .int .i64 i] w fun e w' => e = .returned (.bool false) ∧ w = w' := by
  have := has_any A n c i w h
  rwa [decide_eq_false h0] at this

theorem End_any (A : Option Addr) (c : Nat) (l : List Cw) (i : Int) (w : World) (hr : Rr w w.heap.size A l) (hc : l.length ≤ c) (hm : l.length ≤ 1000000) :
    Calls Tryz.prog 27 #[.slice A l.length c, .int .i64 i] w fun e w' => e = .returned (.int .i64 (endAt (ros l) i)) ∧ w = w' := by
  by_cases h : 0 ≤ i ∧ i < l.length
  · rw [endAt_yes h.1 h.2]
    go_enter Tryz.func27, Tryz.ntmps27
    go_wp2_with fail
    refine (hasYes_any A _ c i w hc h.1 h.2).mono ?_
    rintro e w1 ⟨rfl, rfl⟩
    go_wp2_with fail
    refine (endOf_any A c l i w hr hc hm (by omega) h.2).mono ?_
    rintro e w1 ⟨rfl, rfl⟩
    go_wp2
    go_ret
    exact ⟨rfl, rfl⟩
  · rw [endAt_no h]
    go_enter Tryz.func27, Tryz.ntmps27
    go_wp2_with fail
    refine (hasNo_any A _ c i w hc h).mono ?_
    rintro e w1 ⟨rfl, rfl⟩
    go_wp2
    go_ret
    exact ⟨rfl, rfl⟩

set_option maxRecDepth 100000 in
theorem refEnd_any (A : Option Addr) (c : Nat) (l : List Cw) (i : Int) (w : World) (hr : Rr w w.heap.size A l) (hc : l.length ≤ c) (hm : l.length ≤ 1000000) :
    Calls Tryz.prog 15 #[.slice A l.length c, .int .i64 i] w fun e w' => e = .returned (.int .i64 (endAt (ros l) i)) ∧ ∃ n, w' = w.drewN n := by
  by_cases h : 0 ≤ i ∧ i < l.length
  · rw [endAt_yes h.1 h.2]
    obtain ⟨h1, h2⟩ := h
    obtain ⟨j, rfl⟩ := Int.eq_ofNat_of_zero_le h1
    obtain ⟨d, hd⟩ : ∃ d, dep (ros l) j = d := ⟨_, rfl⟩
    obtain ⟨E, hE⟩ : ∃ E, endOf (ros l) j = E := ⟨_, rfl⟩
    have hs : j + 1 + ((ros (l.drop (j + 1))).takeWhile fun x => decide (d < x.depth)).length = E := by
      rw [← hE, ← hd, ← ros_drop]
      have e : ((j : Int) + 1).toNat = j + 1 := by omega
      simp only [endOf, below, e]
    rw [hE]
    have hj : j < l.length := by omega
    obtain ⟨b, off, y, rfl, hb, hdy, hy, _, _⟩ := hr.at_ j hj
    have e : dep (ros l) j = y.ro.depth := dep_at (by rw [ros, List.getElem?_map, getElem_of_drop hdy]; rfl)
    have hgy := (range5 hy).1
    rw [← e, hd] at hgy
    have HS := Lib.hid hs
    clear hd hs hE hy hdy e
    have hj' : decide (l.length ≤ j) = false := decide_eq_false (by omega)
    go_enter Tryz.func15, Tryz.ntmps15
    go_wp2
    go_loopw [5] (fun v wr => ∃ k : Nat, v = .int .i64 k ∧ k ≤ l.length ∧ k + ((ros (l.drop k)).takeWhile fun x => decide (d < x.depth)).length = E ∧ ∃ n, wr = w.drewN n) (fun v _ => l.length - (intOf v).toNat)
    case atStart => exact ⟨j + 1, by go_num, by omega, HS.out, 0, rfl⟩
    case round =>
      clear HS
      obtain ⟨k, rfl, hk, hv, n, rfl⟩ := hrel
      by_cases hp : k < l.length
      · obtain ⟨b', off', x, e, hb, hd, hx, _, _⟩ := hr.at_ k hp
        injection e with e
        injection e with e1 e2
        subst e1 e2
        have hg := (range5 hx).1
        clear hx
        by_cases h3 : d < x.ro.depth
        · rw [take_step hd (decide_eq_true h3)] at hv
          have HV := Lib.hid hv
          clear hv hd
          go_wp2
          go_quiet (fail)
          go_wp2
          go_roundw
          case rel => exact ⟨k + 1, by go_num, by omega, by have := HV.out; omega, _, rfl⟩
          case measure => simp [intOf]; omega
        · rw [take_stop hd (decide_eq_false h3)] at hv
          have HV := Lib.hid hv
          clear hv hd
          go_wp2
          go_quiet (fail)
          go_wp2
          go_ret
          exact ⟨ret_int (by rw [← HV.out]; rfl), _, World.drewN_drewN _ _ _⟩
      · rw [List.drop_eq_nil_of_le (by omega)] at hv
        have HV := Lib.hid hv
        clear hv
        go_wp2
        go_ret
        exact ⟨ret_int (by rw [← HV.out]; simp [ros]; omega), _, rfl⟩
  · rw [endAt_no h]
    by_cases h1 : i < 0
    · go_enter Tryz.func15, Tryz.ntmps15
      go_wp2
      go_ret
      exact ⟨rfl, 0, rfl⟩
    · have h1' : decide (i < 0) = false := decide_eq_false h1
      have h2 : (l.length : Int) ≤ i := by omega
      clear h
      go_enter Tryz.func15, Tryz.ntmps15
      go_wp2
      go_ret
      exact ⟨rfl, 0, rfl⟩

/-- Depths that do not wrap. -/
def Deep (l : List Ro) : Prop := ∀ x ∈ l, 0 ≤ x.depth ∧ x.depth ≤ 1000000
theorem Deep.at_ {l : List Cw} (h : Deep (ros l)) {x : Cw} (hx : x ∈ l) : 0 ≤ x.ro.depth ∧ x.ro.depth ≤ 1000000 := h _ (List.mem_map.2 ⟨x, hx, rfl⟩)
end Go.Proofs.YtenmlpfjeohkiaaGreatDoor.Ro

namespace Go.Proofs.YtenmlpfjeohkiaaGreatDoor.Ro
set_option linter.unusedVariables false
set_option linter.unusedSimpArgs false
open Go.RowKit Ba Go.Shelf
attribute [local go_sem] Oper.semAt_some

/-- The places, from k on, of those that stand just at depth d. -/
def kidsFrom (d : Int) : Nat → List Ro → List Nat
  | _, [] => []
  | k, x :: r => if x.depth = d then k :: kidsFrom d (k + 1) r else kidsFrom d (k + 1) r
def kids (l : List Ro) (i : Int) : List Nat := kidsFrom (dep l i + 1) (i + 1).toNat (below l i)

/-- What a round leaves as it was: what lay below n₀, and the two boxes of the iterator. -/
def Kp (n₀ B1 B2 : Nat) (W W' : World) : Prop := Below n₀ W W' ∧ W'.heap[B1]? = W.heap[B1]? ∧ W'.heap[B2]? = W.heap[B2]?
theorem Kp.t {n₀ B1 B2 : Nat} {A B C : World} (h : Kp n₀ B1 B2 A B) (k : Kp n₀ B1 B2 B C) : Kp n₀ B1 B2 A C := ⟨h.1.trans k.1, k.2.1.trans h.2.1, k.2.2.trans h.2.2⟩
theorem Kp.b {n₀ B1 B2 : Nat} {w : World} (hn : n₀ ≤ w.heap.size) (h1 : B1 < w.heap.size) (h2 : B2 < w.heap.size) (W : World) (l : Nat) (o o' : Obj) (hl : w.heap.size ≤ l) (h : W.heap[l]? = some o) (hc : o.isCells = false) (hw : o.isWalk = false) : Kp n₀ B1 B2 W (W.putObj l o') :=
  ⟨belowK_b hn W l o o' hl h hc hw, World.putObj_heap_other (by omega), World.putObj_heap_other (by omega)⟩

theorem boxB {W : World} {B : Nat} {t : TypeId} {v : Value} {W' : World} (h : Boxed W B t v) (hk : W'.heap[B]? = W.heap[B]?) : Boxed W' B t v := hk.trans h

end Go.Proofs.YtenmlpfjeohkiaaGreatDoor.Ro

namespace Go.Proofs.YtenmlpfjeohkiaaGreatDoor.Ro
set_option maxRecDepth 100000
set_option linter.unusedVariables false
set_option linter.unusedSimpArgs false
open Go.RowKit Ba Go.Shelf
attribute [local go_sem] Oper.semAt_some

/-- A number as a value. -/
def nv (k : Nat) : Value := .int .i64 k
end Go.Proofs.YtenmlpfjeohkiaaGreatDoor.Ro

namespace Go.Proofs.YtenmlpfjeohkiaaGreatDoor.Ro
set_option linter.unusedVariables false
set_option linter.unusedSimpArgs false
open Go.RowKit Ba Go.Maps
def key (a : At) : Lit := .string a.name.data.toList
theorem key_is (a : At) : WideAt.IsKeyLit (key a) := trivial
theorem key_same (a b : At) : (key a).sameKey (key b) = decide (b.name = a.name) := by
  rw [Bool.eq_iff_iff, WideAt.sameKey_iff (key_is b), decide_eq_true_iff]
  constructor
  · intro h
    injection h with h
    exact (WideShapes.bytes_inj h).symm
  · intro h
    rw [key, key, h]

def fresh (acc : List Lit) : List At → Bool
  | [] => true
  | a :: r => !(acc.any fun y => y.sameKey (key a)) && fresh (acc ++ [key a]) r
theorem fold_len : ∀ (l : List At) (acc : List Lit), ((l.map key).foldl addKey acc).length ≤ acc.length + l.length ∧ (((l.map key).foldl addKey acc).length < acc.length + l.length ↔ fresh acc l = false)
  | [], acc => by simp [fresh]
  | a :: r, acc => by
    rw [List.map_cons, List.foldl_cons, addKey, fresh, List.length_cons]
    cases h : acc.any fun y => y.sameKey (key a) with
    | true =>
      rw [if_pos rfl]
      have := (fold_len r acc).1
      exact ⟨by omega, by simp; omega⟩
    | false =>
      rw [if_neg (by decide)]
      obtain ⟨h1, h2⟩ := fold_len r (acc ++ [key a])
      rw [List.length_append, List.length_cons, List.length_nil] at h1 h2
      exact ⟨by omega, by rw [Bool.not_false, Bool.true_and, ← h2]; omega⟩
theorem fresh_eq : ∀ (l : List At) (acc : List Lit), fresh acc l = (!twice l && l.all fun b => !acc.any fun y => y.sameKey (key b))
  | [], acc => rfl
  | a :: r, acc => by
    rw [fresh, fresh_eq r, twice, List.all_cons]
    have e : (r.all fun b => !(acc ++ [key a]).any fun y => y.sameKey (key b)) = ((r.all fun b => !acc.any fun y => y.sameKey (key b)) && !(r.any fun b => decide (b.name = a.name))) := by
      induction r with
      | nil => rfl
      | cons b r ih =>
        rw [List.all_cons, List.all_cons, List.any_cons, ih, List.any_append]
        simp only [List.any_cons, List.any_nil, Bool.or_false, key_same]
        cases acc.any (fun y => y.sameKey (key b)) <;> cases decide (b.name = a.name) <;> simp
    rw [e]
    cases acc.any (fun y => y.sameKey (key a)) <;> cases twice r <;> cases (r.any fun b => decide (b.name = a.name)) <;> simp
def names {H : Type} (l : List At) : DataW H := setOf (.agg []) (l.map key)
theorem names_snoc {H : Type} (l : List At) (a : At) : names (H := H) (l ++ [a]) = (names l).put (key a) (.agg []) := by rw [names, List.map_append, List.map_cons, List.map_nil, setOf_snoc]; rfl
theorem names_less {H : Type} (l : List At) : decide (Maps.size (names (H := H) l) < l.length) = twice l := by
  rw [names, size_setOf _ _ (by intro x hx; obtain ⟨a, _, rfl⟩ := List.mem_map.1 hx; exact key_is a)]
  have := (fold_len l []).2
  rw [fresh_eq, List.length_nil, Nat.zero_add] at this
  have e : (l.all fun b => !([] : List Lit).any fun y => y.sameKey (key b)) = true := by simp
  rw [e, Bool.and_true] at this
  rw [Bool.eq_iff_iff, decide_eq_true_iff, this]
  simp

end Go.Proofs.YtenmlpfjeohkiaaGreatDoor.Ro

namespace Go.Proofs.YtenmlpfjeohkiaaGreatDoor.Ro
set_option maxRecDepth 100000
set_option linter.unusedVariables false
set_option linter.unusedSimpArgs false
open Go.RowKit Ba Go.Maps Go.WideMaps
theorem lawK : Keyed Tryz.prog 9 := string_keyed Tryz.underlying9

theorem run_makeMap_hint {P : Program} {t k e : TypeId} (ht : P.underlying t = some (.map k e)) (q : IntKind) (n : Int) (w : World) : (Instr.makeMap t (some (.int q n))).run P w = .ok (.map (some w.heap.size)) (w.alloc (.map #[] 0)) := by
  simp [Instr.makeMap, run_underlying ht, asInt, asIntOf]

set_option maxRecDepth 100000 in
theorem repeated_any (A : Option Addr) (c : Nat) (l : List At) (w : World) (hr : Ra w w.heap.size A l) (hc : l.length ≤ c) (hs : Sh l) (hm : c ≤ maxLen) :
    Calls Tryz.prog 86 #[.slice A l.length c] w fun e w' => e = .returned (.bool (twice l)) ∧ Below w.heap.size w w' := by
  unfold maxLen at hm
  by_cases h2 : l.length < 2
  · have e : twice l = false := by
      match l, h2 with
      | [], _ => rfl
      | [a], _ => rfl
    rw [e]
    clear e
    have h2' : (l.length : Int) < 2 := by omega
    go_enter Tryz.func86, Tryz.ntmps86
    go_wp2
    go_ret
    exact ⟨rfl, Below.refl _ _⟩
  · have h2' : decide ((l.length : Int) < 2) = false := decide_eq_false (by omega)
    have hmm := fun q n w => run_makeMap_hint Tryz.underlying94 q n w
    have HL := Lib.hid (names_less (H := Unit) l)
    go_enter Tryz.func86, Tryz.ntmps86
    go_wp2
    go_loopw [14] (fun i wr => ∃ k : Nat, i = .int .i64 k ∧ k ≤ l.length ∧ wr.ownsMap Tryz.prog 9 (unitElem (H := Unit)) w.heap.size k (names (l.take k)) ∧ Below w.heap.size w wr) (fun i _ => l.length - (intOf i).toNat)
    case atStart => exact ⟨0, rfl, by omega, World.ownsMap_made _ _ _ _, (Below.refl _ _).alloc (Nat.le_refl _) _⟩
    case round =>
      clear hmm
      obtain ⟨k, rfl, hk, hown, hbel⟩ := hrel
      have hsz := hbel.size
      by_cases hp : k < l.length
      · obtain ⟨b, off, x, rfl, hb, hd, hx, hxm⟩ := (hr.below hbel).at_ k hp
        have hkey : keyOf Tryz.prog 9 (.string x.name) = some (key x) := keyOf_string_mk Tryz.underlying9 (hs x hxm)
        have htk : l.take (k + 1) = l.take k ++ [x] := by
          rw [List.take_add_one, getElem_of_drop hd]
          rfl
        have HT := Lib.hid htk
        clear hd htk
        go_wp2_with (first | (refine wpList_load_mid rfl 46 (.tmp 16) rfl b (off + k * 2) rfl _ _ hx Tryz.underlying46 rfl size_attr ?_) | (at_mapUpdate; refine wpList_mapUpdate_own _ rfl _ _ _ 94 rfl 9 95 lawK Tryz.underlying94 (unitElem (H := Unit)) w.heap.size k _ rfl (hown.alloc _) (by unfold maxLen; omega) _ _ _ rfl rfl hkey _ [] unitElem_mk ?_; intro w1 hown1 hgrow1))
        go_roundw
        case rel => exact ⟨k + 1, by go_num, by omega, by rw [HT.out, names_snoc]; exact hown1, (hbel.alloc hsz _).grown hgrow1 (by simp; omega) (fun j hj => by cases hj; exact Nat.le_refl _)⟩
        case measure => simp [intOf]; omega
      · rw [List.take_of_length_le (by omega)] at hown
        go_wp2_with (at_len; refine wpList_len_own _ rfl _ 94 rfl 9 95 Tryz.underlying94 (unitElem (H := Unit)) w.heap.size k (names l) rfl hown ?_)
        go_ret
        exact ⟨ret_bool (by rw [← HL.out]), hbel⟩

end Go.Proofs.YtenmlpfjeohkiaaGreatDoor.Ro

namespace Go.Proofs.YtenmlpfjeohkiaaGreatDoor.Ro
set_option maxRecDepth 100000
set_option linter.unusedVariables false
set_option linter.unusedSimpArgs false
open Go.RowKit Ba
set_option maxRecDepth 100000 in
theorem validRow_any (x : Cw) (w : World) (hx : Att w w.heap.size x) :
    Calls Tryz.prog 59 #[rowV x] w fun e w' => e = .returned (.bool (okRow x.ro)) ∧ Below w.heap.size w w' := by
  have hN := fun o => below_new w o
  have HN := Lib.hid hN
  clear hN
  go_enter Tryz.func59, Tryz.ntmps59
  go_wp2_with (go_at_call 86; refine (repeated_any x.A x.c x.ro.attrs _ ((hx.2.2.2.1.below (HN.out _)).more (by simp)) hx.1 hx.2.2.2.2 hx.2.2.1).mono ?_; rintro e w1 ⟨rfl, hb1⟩)
  all_goals (go_ret; refine ⟨ret_bool ?_, ?_⟩)
  all_goals first | exact HN.out _ | exact bt (HN.out _) hb1 | simp [okRow, *]

theorem right_cons (m : Int) (x : Ro) (r : List Ro) : rightFrom m (x :: r) = (decide (0 ≤ x.depth) && decide (x.depth ≤ m) && okRow x && rightFrom (if x.kind = 0 then x.depth + 1 else x.depth) r) := rfl

set_option maxRecDepth 100000 in
set_option maxHeartbeats 1000000 in
theorem valid_any (A : Option Addr) (c : Nat) (l : List Cw) (w : World) (hr : Rr w w.heap.size A l) (hc : l.length ≤ c) (hm : l.length ≤ 1000000) :
    Calls Tryz.prog 33 #[.slice A l.length c] w fun e w' => e = .returned (.bool (right (ros l))) ∧ Below w.heap.size w w' := by
  obtain ⟨V, hV⟩ : ∃ V, right (ros l) = V := ⟨_, rfl⟩
  rw [hV]
  have HV := Lib.hid hV
  clear hV
  go_enter Tryz.func33, Tryz.ntmps33
  go_wp2
  go_loopw [3, 8] (fun d i wr => ∃ (k : Nat) (m : Int), i = .int .i64 k ∧ d = .int .i64 m ∧ k ≤ l.length ∧ 0 ≤ m ∧ m ≤ k ∧ rightFrom m (ros (l.drop k)) = V ∧ Below w.heap.size w wr) (fun _ i _ => l.length - (intOf i).toNat)
  case atStart => exact ⟨0, 0, rfl, rfl, by omega, by omega, by omega, HV.out, Below.refl _ _⟩
  case round =>
    clear HV
    obtain ⟨k, m, rfl, rfl, hk, hm0, hm1, hv, hbel⟩ := hrel
    have hsz := hbel.size
    by_cases hp : k < l.length
    · obtain ⟨b, off, x, rfl, hb, hd, hx, hxa, _⟩ := (hr.below hbel).at_ k hp
      rw [hd, ros_cons, right_cons] at hv
      have HA := Lib.hid (hxa.boxed hbel (rowO x)); have HB := Lib.hid (hbel.alloc hsz (rowO x))
      clear hd
      by_cases h1 : 0 ≤ x.ro.depth
      · have h1' : decide (x.ro.depth < 0) = false := decide_eq_false (by omega)
        by_cases h2 : x.ro.depth ≤ m
        · have h2' : decide (m < x.ro.depth) = false := decide_eq_false (by omega)
          rw [decide_eq_true h1, decide_eq_true h2, Bool.true_and, Bool.true_and] at hv
          cases h3 : okRow x.ro with
          | false =>
            rw [h3, Bool.false_and] at hv
            subst hv
            have H3 := Lib.hid h3
            clear h3
            go_wp2_with (first | (refine wpList_load_mid rfl 34 (.tmp 10) rfl b (off + k * 5) rfl _ _ hx Tryz.underlying34 rfl size_row ?_) | (go_at_call 59; refine (validRow_any x _ HA.out).mono ?_; rintro e w3 ⟨rfl, hb3⟩; rw [H3.out]; have g0 := box_kept hb3 0; have g1 := box_kept hb3 1; simp only [cells, List.getElem?_cons_zero, List.getElem?_cons_succ] at g0 g1))
            go_ret
            exact ⟨rfl, HB.out.trans (hb3.mono HB.out.size)⟩
          | true =>
            rw [h3, Bool.true_and] at hv
            have H3 := Lib.hid h3
            clear h3
            cases h4 : x.ro.kind == 0 with
            | true =>
              rw [if_pos (beq_iff_eq.1 h4)] at hv
              have HV := Lib.hid hv
              clear hv
              go_wp2_with (first | (refine wpList_load_mid rfl 34 (.tmp 10) rfl b (off + k * 5) rfl _ _ hx Tryz.underlying34 rfl size_row ?_) | (go_at_call 59; refine (validRow_any x _ HA.out).mono ?_; rintro e w3 ⟨rfl, hb3⟩; rw [H3.out]; have g0 := box_kept hb3 0; have g1 := box_kept hb3 1; simp only [cells, List.getElem?_cons_zero, List.getElem?_cons_succ] at g0 g1))
              go_roundw
              case rel => exact ⟨k + 1, x.ro.depth + 1, by go_num, rfl, by omega, by omega, by omega, HV.out, HB.out.trans (hb3.mono HB.out.size)⟩
              case measure => simp [intOf]; omega
            | false =>
              rw [if_neg (beq_eq_false_iff_ne.1 h4)] at hv
              have HV := Lib.hid hv
              clear hv
              go_wp2_with (first | (refine wpList_load_mid rfl 34 (.tmp 10) rfl b (off + k * 5) rfl _ _ hx Tryz.underlying34 rfl size_row ?_) | (go_at_call 59; refine (validRow_any x _ HA.out).mono ?_; rintro e w3 ⟨rfl, hb3⟩; rw [H3.out]; have g0 := box_kept hb3 0; have g1 := box_kept hb3 1; simp only [cells, List.getElem?_cons_zero, List.getElem?_cons_succ] at g0 g1))
              go_roundw
              case rel => exact ⟨k + 1, x.ro.depth, by go_num, rfl, by omega, by omega, by omega, HV.out, HB.out.trans (hb3.mono HB.out.size)⟩
              case measure => simp [intOf]; omega
        · rw [decide_eq_false h2, Bool.and_false, Bool.false_and, Bool.false_and] at hv
          subst hv
          have h2' : m < x.ro.depth := by omega
          go_wp2_with (refine wpList_load_mid rfl 34 (.tmp 10) rfl b (off + k * 5) rfl _ _ hx Tryz.underlying34 rfl size_row ?_)
          go_ret
          exact ⟨rfl, HB.out⟩
      · rw [decide_eq_false h1, Bool.false_and, Bool.false_and, Bool.false_and] at hv
        subst hv
        have h1' : x.ro.depth < 0 := by omega
        go_wp2_with (refine wpList_load_mid rfl 34 (.tmp 10) rfl b (off + k * 5) rfl _ _ hx Tryz.underlying34 rfl size_row ?_)
        go_ret
        exact ⟨rfl, HB.out⟩
    · rw [List.drop_eq_nil_of_le (by omega)] at hv
      have HV := Lib.hid hv
      clear hv
      go_wp2
      go_ret
      exact ⟨ret_bool HV.out, hbel⟩

/-- Are rows trees, within the limits? -/
def check (l : List Ro) : Int := if exceeds l 4096 60 then 2 else if right l then 0 else 40
theorem Check_any (A : Option Addr) (c : Nat) (l : List Cw) (w : World) (hr : Rr w w.heap.size A l) (hc : l.length ≤ c) (hm : l.length ≤ 1000000) :
    Calls Tryz.prog 16 #[.slice A l.length c] w fun e w' => e = .returned (.int .i64 (check (ros l))) ∧ Below w.heap.size w w' := by
  cases h1 : exceeds (ros l) 4096 60 with
  | true =>
    rw [check, h1, if_pos rfl]
    have H1 := Lib.hid h1
    clear h1
    go_enter Tryz.func16, Tryz.ntmps16
    go_wp2_with fail
    refine (exceeds_any A c l 4096 60 w hr hc hm).mono ?_
    rintro e w1 ⟨rfl, hb1⟩
    rw [H1.out]
    go_wp2
    go_ret
    exact ⟨rfl, hb1⟩
  | false =>
    cases h2 : right (ros l) with
    | true =>
      rw [check, h1, h2, if_neg (by decide), if_pos rfl]
      have H1 := Lib.hid h1; have H2 := Lib.hid h2
      clear h1 h2
      go_enter Tryz.func16, Tryz.ntmps16
      go_wp2_with fail
      refine (exceeds_any A c l 4096 60 w hr hc hm).mono ?_
      rintro e w1 ⟨rfl, hb1⟩
      rw [H1.out]
      go_wp2_with fail
      refine (valid_any A c l w1 ((hr.below hb1).more hb1.size) hc hm).mono ?_
      rintro e w2 ⟨rfl, hb2⟩
      rw [H2.out]
      go_wp2
      go_ret
      exact ⟨rfl, bt hb1 hb2⟩
    | false =>
      rw [check, h1, h2, if_neg (by decide), if_neg (by decide)]
      have H1 := Lib.hid h1; have H2 := Lib.hid h2
      clear h1 h2
      go_enter Tryz.func16, Tryz.ntmps16
      go_wp2_with fail
      refine (exceeds_any A c l 4096 60 w hr hc hm).mono ?_
      rintro e w1 ⟨rfl, hb1⟩
      rw [H1.out]
      go_wp2_with fail
      refine (valid_any A c l w1 ((hr.below hb1).more hb1.size) hc hm).mono ?_
      rintro e w2 ⟨rfl, hb2⟩
      rw [H2.out]
      go_wp2
      go_ret
      exact ⟨rfl, bt hb1 hb2⟩

end Go.Proofs.YtenmlpfjeohkiaaGreatDoor.Ro

namespace Go.Proofs.YtenmlpfjeohkiaaGreatDoor.Ro
set_option linter.unusedVariables false
set_option linter.unusedSimpArgs false
open Go.RowKit Ba
theorem twice_snoc (a : List At) (x : At) : twice (a ++ [x]) = (twice a || a.any fun b => decide (b.name = x.name)) := by
  induction a with
  | nil => rfl
  | cons y r ih =>
    rw [List.cons_append, twice, ih, List.any_append, twice, List.any_cons]
    simp only [List.any_cons, List.any_nil, Bool.or_false]
    have e : decide (x.name = y.name) = decide (y.name = x.name) := by
      rw [Bool.eq_iff_iff, decide_eq_true_iff, decide_eq_true_iff]
      exact ⟨fun h => h.symm, fun h => h.symm⟩
    rw [e]
    cases r.any (fun b => decide (b.name = y.name)) <;> cases decide (y.name = x.name) <;> cases twice r <;> simp
theorem take_at {α : Type} {l : List α} {k : Nat} {x : α} {r : List α} (h : l.drop k = x :: r) : l.take (k + 1) = l.take k ++ [x] := by
  rw [List.take_add_one, getElem_of_drop h]
  rfl
theorem below_dN {B : Nat} {w w' : World} (h : Below B w w') (n : Nat) : Below B w (w'.drewN n) := ⟨h.1, h.2, h.3, h.4, h.5⟩

end Go.Proofs.YtenmlpfjeohkiaaGreatDoor.Ro
