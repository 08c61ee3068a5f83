/-
  What follows for tokens, in plain words: comments, doctypes, texts as they stand.
-/
import Derived.Test.YtjhhhlomkfnniaaDoorTokFacts
namespace Go.Proofs.YtjhhhlomkfnniaaDoor.Tm
set_option linter.unusedVariables false
set_option linter.unusedSimpArgs false
open Ba Fm Rm Nm
open Ro (At)

theorem pre_cons (a b : UInt8) (t l : List UInt8) : pre (a :: t) (b :: l) = (decide (b = a) && pre t l) := by
  unfold pre
  rw [Bool.eq_iff_iff, decide_eq_true_iff, Bool.and_eq_true, decide_eq_true_iff, decide_eq_true_iff]
  simp only [List.length_cons, List.take_succ_cons, List.cons.injEq]
theorem pre_nil (l : List UInt8) : pre [] l = true := by unfold pre; simp
theorem pre_none (a : UInt8) (t : List UInt8) : pre (a :: t) [] = false := by unfold pre; simp
/-- A search comes to its end behind a text of which no rest fits. -/
theorem lead_to {p : List UInt8 → Bool} {s r : List UInt8} (h : ∀ q, q ≠ [] → q <:+ s → p (q ++ r) = false) (hr : r = [] ∨ p r = true) : lead p (s ++ r) = s ∧ trail p (s ++ r) = r := by
  induction s with
  | nil =>
    rw [List.nil_append]
    rcases hr with rfl | hr
    · exact ⟨rfl, rfl⟩
    · cases r with
      | nil => exact ⟨rfl, rfl⟩
      | cons c q => exact ⟨lead_yes hr, trail_yes hr⟩
  | cons c q ih =>
    have h1 := h (c :: q) (List.cons_ne_nil _ _) (List.suffix_refl _)
    have h2 := ih (fun x hx hs => h x hx (hs.trans (List.suffix_cons c q)))
    rw [List.cons_append] at h1 ⊢
    rw [lead_no h1, trail_no h1, h2.1, h2.2]
    exact ⟨rfl, rfl⟩
theorem cend_not {q : List UInt8} (hq : q ≠ []) (h : (62 : UInt8) ∉ q) : cend (q ++ [45, 45, 62]) = false := by
  unfold cend
  match q, hq, h with
  | [a], _, h => simp [pre_cons, pre_nil]
  | [a, b], _, h => simp [pre_cons, pre_nil]
  | [a, b, c], _, h =>
    have hc : c ≠ 62 := fun e => h (by simp [e])
    simp [pre_cons, pre_nil, hc]
  | a :: b :: c :: d :: r, _, h =>
    have hc : c ≠ 62 := fun e => h (by simp [e])
    have hd : d ≠ 62 := fun e => h (by simp [e])
    simp [pre_cons, pre_nil, hc, hd]
/-- A comment written is cut as it was. -/
theorem comm_back {s : List UInt8} (h : (62 : UInt8) ∉ s) : comm (s ++ [45, 45, 62]) = (s, []) := by
  have h1 : pre [62] (s ++ [45, 45, 62]) = false := by
    cases s with
    | nil => simp [pre_cons, pre_nil]
    | cons c q =>
      have hc : c ≠ 62 := fun e => h (by simp [e])
      simp [pre_cons, pre_nil, hc]
  have h2 : pre [45, 62] (s ++ [45, 45, 62]) = false := by
    match s, h with
    | [], _ => simp [pre_cons, pre_nil]
    | [c], _ => simp [pre_cons, pre_nil]
    | c :: d :: q, h =>
      have hd : d ≠ 62 := fun e => h (by simp [e])
      simp [pre_cons, pre_nil, hd]
  obtain ⟨h3, h4⟩ := lead_to (p := cend) (s := s) (r := [45, 45, 62]) (fun q hq hs => cend_not hq fun e => h (hs.subset e)) (.inr (by decide))
  unfold comm
  rw [if_neg (by rw [h1]; simp), if_neg (by rw [h2]; simp), h3, h4]
  rfl
theorem cut_comment {s : List UInt8} (h : (62 : UInt8) ∉ s) : cut ([60, 33, 45, 45] ++ (s ++ [45, 45, 62])) = [⟨3, B [], B s, [], false⟩] := by
  have b4 : begun (60 :: 33 :: 45 :: 45 :: (s ++ [45, 45, 62])) = 4 := by
    rw [To.begun_two, if_pos rfl, if_neg (by decide), if_neg (by decide), if_pos rfl]
    exact To.marked_4 (by simp [pre_cons, pre_nil])
  obtain ⟨h1, h2⟩ := begins (r := 60 :: 33 :: 45 :: 45 :: (s ++ [45, 45, 62])) (by rw [b4]; decide)
  have := cut_at (s := []) (r := 60 :: 33 :: 45 :: 45 :: (s ++ [45, 45, 62])) (by simp) h1
  rw [List.nil_append] at this
  show cut (60 :: 33 :: 45 :: 45 :: (s ++ [45, 45, 62])) = _
  rw [this, h2, To.mk_4 b4]
  show txt (dec []) ++ ([⟨3, B [], B (comm (s ++ [45, 45, 62])).1, [], false⟩] ++ cut (comm (s ++ [45, 45, 62])).2) = _
  rw [comm_back h, dec_nil, To.cut_nil]
  rfl
theorem upTo_stop {q : UInt8 → Bool} {s : List UInt8} {c : UInt8} {r : List UInt8} (h : ∀ x ∈ s, q x = false) (hc : q c = true) : upTo q (s ++ c :: r) = s ∧ from_ q (s ++ c :: r) = c :: r := by
  refine lead_to (p := by1 q) (s := s) (r := c :: r) (fun x hx hs => ?_) (.inr hc)
  cases x with
  | nil => exact absurd rfl hx
  | cons a l => exact h a (hs.subset List.mem_cons_self)
theorem upTo_all {q : UInt8 → Bool} {s : List UInt8} (h : ∀ x ∈ s, q x = false) : upTo q s = s ∧ from_ q s = [] := by
  have := lead_to (p := by1 q) (s := s) (r := []) (fun x hx hs => ?_) (.inl rfl)
  · rwa [List.append_nil] at this
  · cases x with
    | nil => exact absurd rfl hx
    | cons a l => exact h a (hs.subset List.mem_cons_self)
theorem closed_at {s r : List UInt8} (h : (62 : UInt8) ∉ s) : closed (s ++ 62 :: r) = (s, r) := by
  obtain ⟨h1, h2⟩ := upTo_stop (q := gt) (s := s) (c := 62) (r := r) (fun x hx => by
    unfold gt
    simp only [beq_eq_false_iff_ne]
    exact fun e => h (by rw [← e]; exact hx)) rfl
  unfold closed
  rw [h1, h2]
  rfl
theorem cut_doctype {s : List UInt8} (h : (62 : UInt8) ∉ s) : cut ([60, 33, 100, 111, 99, 116, 121, 112, 101, 32] ++ (s ++ [62])) = [⟨4, B [], B (trimL s), [], false⟩] := by
  have b5 : begun (60 :: 33 :: 100 :: 111 :: 99 :: 116 :: 121 :: 112 :: 101 :: 32 :: (s ++ [62])) = 5 := by
    rw [To.begun_two, if_pos rfl, if_neg (by decide), if_neg (by decide), if_pos rfl]
    exact To.marked_5 (by simp [pre_cons]) (show lowL [100, 111, 99, 116, 121, 112, 101] = _ from by decide) (show lr 32 = false from by decide)
  obtain ⟨h1, h2⟩ := begins (r := 60 :: 33 :: 100 :: 111 :: 99 :: 116 :: 121 :: 112 :: 101 :: 32 :: (s ++ [62])) (by rw [b5]; decide)
  have := cut_at (s := []) (r := 60 :: 33 :: 100 :: 111 :: 99 :: 116 :: 121 :: 112 :: 101 :: 32 :: (s ++ [62])) (by simp) h1
  rw [List.nil_append] at this
  show cut (60 :: 33 :: 100 :: 111 :: 99 :: 116 :: 121 :: 112 :: 101 :: 32 :: (s ++ [62])) = _
  rw [this, h2, To.mk_5 b5]
  show txt (dec []) ++ ([⟨4, B [], B (trimL (closed (32 :: (s ++ [62]))).1), [], false⟩] ++ cut (closed (32 :: (s ++ [62]))).2) = _
  have hc := closed_at (s := 32 :: s) (r := []) (fun e => by
    rcases List.mem_cons.1 e with e | e
    · exact absurd e (by decide)
    · exact h e)
  rw [List.cons_append] at hc
  rw [hc, dec_nil, To.cut_nil]
  show [] ++ ([_] ++ []) = _
  rw [show trimL (32 :: s) = trimL s from by unfold trimL; rw [trimS_sp _ (by decide)]]
  rfl

/-- No end of an element stands in a text without </ . -/
theorem cut_style {s r : List UInt8} (hs : s ≠ []) (h : ∀ q, q <:+ s → pre [60, 47] q = false) :
    cut ([60, 115, 116, 121, 108, 101, 62] ++ (s ++ ([60, 47, 115, 116, 121, 108, 101, 62] ++ r))) = [⟨1, B [115, 116, 121, 108, 101], B [], [], false⟩, tx s, ⟨2, B [115, 116, 121, 108, 101], B [], [], false⟩] ++ cut r := by
  have b1 : begun (60 :: 115 :: ([116, 121, 108, 101, 62] ++ (s ++ ([60, 47, 115, 116, 121, 108, 101, 62] ++ r)))) = 1 := rfl
  obtain ⟨h1, h2⟩ := begins (r := 60 :: 115 :: ([116, 121, 108, 101, 62] ++ (s ++ ([60, 47, 115, 116, 121, 108, 101, 62] ++ r)))) (by rw [b1]; decide)
  have hc := cut_at (s := []) (r := 60 :: 115 :: ([116, 121, 108, 101, 62] ++ (s ++ ([60, 47, 115, 116, 121, 108, 101, 62] ++ r)))) (by simp) h1
  rw [List.nil_append] at hc
  show cut (60 :: 115 :: ([116, 121, 108, 101, 62] ++ (s ++ ([60, 47, 115, 116, 121, 108, 101, 62] ++ r)))) = _
  rw [hc, h2, To.mk_1 b1]
  obtain ⟨u1, u2⟩ := upTo_stop (q := en) (s := [115, 116, 121, 108, 101]) (c := 62) (r := s ++ ([60, 47, 115, 116, 121, 108, 101, 62] ++ r)) (by decide) (by decide)
  have hat : attrs false [] (from_ en ([115, 116, 121, 108, 101] ++ 62 :: (s ++ ([60, 47, 115, 116, 121, 108, 101, 62] ++ r)))) = some ([], false, s ++ ([60, 47, 115, 116, 121, 108, 101, 62] ++ r)) := by rw [u2]; exact attrs_end _ _ _
  have hst := (To.start_yes hat).1
  rw [u1] at hst
  show txt (dec []) ++ ((startTag ([115, 116, 121, 108, 101] ++ 62 :: (s ++ ([60, 47, 115, 116, 121, 108, 101, 62] ++ r)))).1 ++ cut (startTag ([115, 116, 121, 108, 101] ++ 62 :: (s ++ ([60, 47, 115, 116, 121, 108, 101, 62] ++ r)))).2) = _
  rw [hst, show lowL [115, 116, 121, 108, 101] = [115, 116, 121, 108, 101] from by decide]
  have hraw : isIn (B [115, 116, 121, 108, 101]) rawL = true := by decide
  have hct := To.cont_raw (n := B [115, 116, 121, 108, 101]) (l := s ++ ([60, 47, 115, 116, 121, 108, 101, 62] ++ r)) hraw
  rw [L_B] at hct
  obtain ⟨l1, l2⟩ := lead_to (p := isEnd [115, 116, 121, 108, 101]) (s := s) (r := [60, 47, 115, 116, 121, 108, 101, 62] ++ r) (fun q hq hsf => by
    have hp : pre [60, 47] (q ++ ([60, 47, 115, 116, 121, 108, 101, 62] ++ r)) = false := by
      match q, hq, hsf with
      | [a], _, _ =>
        show pre [60, 47] (a :: 60 :: _) = false
        rw [pre_cons, pre_cons]
        simp
      | a :: b :: t, _, hsf =>
        have := h _ hsf
        rw [pre_cons, pre_cons, pre_nil] at this
        show pre [60, 47] (a :: b :: _) = false
        rw [pre_cons, pre_cons, pre_nil]
        exact this
    unfold isEnd
    rw [hp]
    rfl) (.inr (by
    show isEnd [115, 116, 121, 108, 101] (60 :: 47 :: 115 :: 116 :: 121 :: 108 :: 101 :: 62 :: r) = true
    unfold isEnd
    rw [pre_cons, pre_cons, pre_nil]
    rfl))
  rw [hct, l1, l2]
  have b2 : begun (60 :: 47 :: 115 :: ([116, 121, 108, 101, 62] ++ r)) = 2 := rfl
  obtain ⟨h3, h4⟩ := begins (r := 60 :: 47 :: 115 :: ([116, 121, 108, 101, 62] ++ r)) (by rw [b2]; decide)
  have hc2 := cut_at (s := []) (r := 60 :: 47 :: 115 :: ([116, 121, 108, 101, 62] ++ r)) (by simp) h3
  rw [List.nil_append] at hc2
  obtain ⟨v1, v2⟩ := upTo_stop (q := en) (s := [115, 116, 121, 108, 101]) (c := 62) (r := r) (by decide) (by decide)
  have hae : attrs false [] (from_ en ([115, 116, 121, 108, 101] ++ 62 :: r)) = some ([], false, r) := by rw [v2]; exact attrs_end _ _ _
  have hend := (To.start_yes hae).2
  rw [v1, show lowL [115, 116, 121, 108, 101] = [115, 116, 121, 108, 101] from by decide] at hend
  show txt (dec []) ++ ((⟨1, B [115, 116, 121, 108, 101], B [], [], false⟩ :: txt s) ++ cut (60 :: 47 :: 115 :: ([116, 121, 108, 101, 62] ++ r))) = _
  rw [hc2, h4, To.mk_2 b2]
  show txt (dec []) ++ ((⟨1, B [115, 116, 121, 108, 101], B [], [], false⟩ :: txt s) ++ (txt (dec []) ++ ((endTag ([115, 116, 121, 108, 101] ++ 62 :: r)).1 ++ cut (endTag ([115, 116, 121, 108, 101] ++ 62 :: r)).2))) = _
  rw [hend, dec_nil]
  unfold txt
  rw [if_neg hs]
  rfl

end Go.Proofs.YtjhhhlomkfnniaaDoor.Tm
