/-
  What a list of tokens, written, is cut as; the tokens of any document are such a list.
-/
import Derived.Test.YtjhhhlomkfnniaaDoorTokGood
import Derived.Test.YtjhhhlomkfnniaaDoorTokShape
namespace Go.Proofs.YtjhhhlomkfnniaaDoor.Tm
set_option linter.unusedVariables false
set_option linter.unusedSimpArgs false
open Ba Fm Rm Nm
open Ro (At)

/-- The token of an element that has text alone. -/
def holds (t : Tk) : Bool := t.kind == 1 && softOr (L t.name)
/-- Adjacent texts as one, but for the text of an element that has text alone. -/
def fin : Bool → List UInt8 → List Tk → List Tk
  | _, p, [] => txt p
  | h, p, t :: r => if t.kind = 0 then (if h = true then t :: fin false [] r else fin false (p ++ L t.data) r) else txt p ++ (t :: fin (holds t) [] r)
theorem fin_txt (q p : List UInt8) (Y : List Tk) : fin false q (txt p ++ Y) = fin false (q ++ p) Y := by
  unfold txt
  split
  · rename_i h
    rw [h, List.append_nil]; rfl
  · show (if (0 : Int) = 0 then (if false = true then _ else fin false (q ++ L (B p)) Y) else _) = _
    rw [if_pos rfl, if_neg (by simp), L_B]
theorem fin_other {h : Bool} {p : List UInt8} {t : Tk} {r : List Tk} (hk : t.kind ≠ 0) : fin h p (t :: r) = txt p ++ (t :: fin (holds t) [] r) := by
  show (if t.kind = 0 then _ else _) = _
  rw [if_neg hk]
theorem fin_text {p : List UInt8} {t : Tk} {r : List Tk} (hk : t.kind = 0) : fin false p (t :: r) = fin false (p ++ L t.data) r := by
  show (if t.kind = 0 then (if false = true then _ else _) else _) = _
  rw [if_pos hk, if_neg (by simp)]
theorem fin_held {p : List UInt8} {t : Tk} {r : List Tk} (hk : t.kind = 0) : fin true p (t :: r) = t :: fin false [] r := by
  show (if t.kind = 0 then (if true = true then _ else _) else _) = _
  rw [if_pos hk, if_pos rfl]
theorem fin_fin : ∀ (T : List Tk), (∀ q p, fin false q (fin false p T) = fin false (q ++ p) T) ∧ fin true [] (fin true [] T) = fin true [] T
  | [] => by
    refine ⟨fun q p => ?_, rfl⟩
    have := fin_txt q p []
    rwa [List.append_nil] at this
  | t :: r => by
    obtain ⟨i1, i2⟩ := fin_fin r
    by_cases hk : t.kind = 0
    · refine ⟨fun q p => ?_, ?_⟩
      · rw [fin_text hk, i1, fin_text hk, List.append_assoc]
      · rw [fin_held hk, fin_held hk, i1]; rfl
    · have hh : fin (holds t) [] (fin (holds t) [] r) = fin (holds t) [] r := by
        cases hb : holds t with
        | true => exact i2
        | false => exact i1 [] []
      refine ⟨fun q p => ?_, ?_⟩
      · rw [fin_other hk, fin_txt, fin_other hk, hh, fin_other hk]
      · rw [fin_other hk]
        show fin true [] (t :: fin (holds t) [] r) = [] ++ (t :: fin (holds t) [] r)
        rw [fin_other hk, hh]
        rfl
theorem good_head {r : List Tk} (h : Good r) (hn : ∀ d q, r ≠ tx d :: q) : fin true [] r = fin false [] r := by
  cases h with
  | nil => rfl
  | text d q _ _ => exact absurd rfl (hn d q)
  | comment d q _ _ => rw [fin_other (h := true) (by decide : (3 : Int) ≠ 0), fin_other (h := false) (by decide : (3 : Int) ≠ 0)]
  | doctype d q _ _ _ => rw [fin_other (h := true) (by decide : (4 : Int) ≠ 0), fin_other (h := false) (by decide : (4 : Int) ≠ 0)]
  | end_ n q _ _ => rw [fin_other (h := true) (by decide : (2 : Int) ≠ 0), fin_other (h := false) (by decide : (2 : Int) ≠ 0)]
  | start n l sf q _ _ _ _ => rw [fin_other (h := true) (by decide : (1 : Int) ≠ 0), fin_other (h := false) (by decide : (1 : Int) ≠ 0)]
  | raw n l sf d q _ _ _ _ _ _ _ => rw [fin_other (h := true) (by decide : (1 : Int) ≠ 0), fin_other (h := false) (by decide : (1 : Int) ≠ 0)]
  | soft n l sf d q _ _ _ _ _ _ _ _ => rw [fin_other (h := true) (by decide : (1 : Int) ≠ 0), fin_other (h := false) (by decide : (1 : Int) ≠ 0)]
  | none_ n l sf q _ _ _ _ _ _ _ _ => rw [fin_other (h := true) (by decide : (1 : Int) ≠ 0), fin_other (h := false) (by decide : (1 : Int) ≠ 0)]
theorem wAll_cons (raw : Bool) (t : Tk) (r : List Tk) : wAll raw (t :: r) = w1 raw t ++ wAll (rawT t) r := rfl
theorem w1_text (d : List UInt8) : w1 false (tx d) = esc false d ∧ w1 true (tx d) = d := by
  refine ⟨?_, ?_⟩
  · show (if (0 : Int) = 0 then (if false = true then _ else esc false (L (B d))) else _) = _
    rw [if_pos rfl, if_neg (by simp), L_B]
  · show (if (0 : Int) = 0 then (if true = true then L (B d) else _) else _) = _
    rw [if_pos rfl, if_pos rfl, L_B]
theorem w1_start (raw : Bool) (n : List UInt8) (l : List At) (sf : Bool) (x : List UInt8) : w1 raw ⟨1, B n, B [], l, sf⟩ ++ x = 60 :: (n ++ (l.flatMap wAttr ++ ((if sf = true then [32, 47] else []) ++ 62 :: x))) := by
  unfold w1
  rw [if_neg (show (1 : Int) ≠ 0 by decide), if_pos rfl]
  unfold wStart
  show ([60] ++ L (B n) ++ l.flatMap wAttr ++ (if sf = true then [32, 47] else []) ++ [62]) ++ x = _
  rw [L_B]
  simp only [List.append_assoc, List.cons_append, List.nil_append]
theorem w1_end (raw : Bool) (n x : List UInt8) : w1 raw ⟨2, B n, B [], [], false⟩ ++ x = 60 :: 47 :: (n ++ 62 :: x) := by
  unfold w1
  rw [if_neg (show (2 : Int) ≠ 0 by decide), if_neg (show (2 : Int) ≠ 1 by decide), if_pos rfl]
  show ([60, 47] ++ L (B n) ++ [62]) ++ x = _
  rw [L_B]
  simp only [List.append_assoc, List.cons_append, List.nil_append]
theorem w1_comment (raw : Bool) (d x : List UInt8) : w1 raw ⟨3, B [], B d, [], false⟩ ++ x = 60 :: 33 :: 45 :: 45 :: (d ++ ([45, 45, 62] ++ x)) := by
  unfold w1
  rw [if_neg (show (3 : Int) ≠ 0 by decide), if_neg (show (3 : Int) ≠ 1 by decide), if_neg (show (3 : Int) ≠ 2 by decide), if_pos rfl]
  show ([60, 33, 45, 45] ++ L (B d) ++ [45, 45, 62]) ++ x = _
  rw [L_B]
  simp only [List.append_assoc, List.cons_append, List.nil_append]
theorem w1_doctype (raw : Bool) (d x : List UInt8) : w1 raw ⟨4, B [], B d, [], false⟩ ++ x = 60 :: 33 :: 100 :: 111 :: 99 :: 116 :: 121 :: 112 :: 101 :: 32 :: (d ++ 62 :: x) := by
  unfold w1
  rw [if_neg (show (4 : Int) ≠ 0 by decide), if_neg (show (4 : Int) ≠ 1 by decide), if_neg (show (4 : Int) ≠ 2 by decide), if_neg (show (4 : Int) ≠ 3 by decide), if_pos rfl]
  show ([60, 33, 100, 111, 99, 116, 121, 112, 101, 32] ++ L (B d) ++ [62]) ++ x = _
  rw [L_B]
  simp only [List.append_assoc, List.cons_append, List.nil_append]
theorem rawT_start (n : List UInt8) (l : List At) (sf : Bool) : rawT ⟨1, B n, B [], l, sf⟩ = rawB n := rfl
theorem holds_start (n : List UInt8) (l : List At) (sf : Bool) : holds ⟨1, B n, B [], l, sf⟩ = softOr n := by
  show ((1 : Int) == 1 && softOr (L (B n))) = _
  rw [L_B]; rfl
theorem cont_r {n l : List UInt8} (h : rawB n = true) : cont n l = (txt (lead (isEnd n) l), trail (isEnd n) l) := by unfold cont; rw [if_pos h]
theorem cont_s {n l : List UInt8} (h : rawB n = false) (h' : softB n = true) : cont n l = (txt (dec (lead (isEnd n) l)), trail (isEnd n) l) := by unfold cont; rw [if_neg (by rw [h]; simp), if_pos h']
theorem cont_n {n l : List UInt8} (h : softOr n = false) : cont n l = ([], l) := by
  unfold softOr at h
  rw [Bool.or_eq_false_iff] at h
  unfold cont
  rw [if_neg (by rw [h.1]; simp), if_neg (by rw [h.2]; simp)]
theorem txt_some {d : List UInt8} (h : d ≠ []) : txt d = [tx d] := by unfold txt; rw [if_neg h]

/-- What a good list, written, is cut as. -/
theorem good_cut {T : List Tk} (h : Good T) : ∀ e p, Clo e p → cut (e ++ wAll false T) = fin false p T := by
  induction h with
  | nil =>
    intro e p hc
    show cut (e ++ []) = txt p
    rw [List.append_nil, cut_text hc.1, hc.dec]
  | text d r hd _ ih =>
    intro e p hc
    rw [wAll_cons, (w1_text d).1, ← List.append_assoc]
    have := ih _ _ (hc.esc d)
    rw [fin_text (t := tx d) rfl]
    show _ = fin false (p ++ L (B d)) r
    rw [L_B]
    exact this
  | comment d r hcm _ ih =>
    intro e p hc
    rw [wAll_cons, w1_comment]
    have b4 : begun (60 :: 33 :: 45 :: 45 :: (d ++ ([45, 45, 62] ++ wAll (rawT ⟨3, B [], B d, [], false⟩) r))) = 4 := by
      rw [To.begun_two, if_pos rfl, if_neg (by decide), if_neg (by decide), if_pos rfl]
      exact To.marked_4 (by simp [pre_cons, pre_nil])
    rw [cut_clo hc (by rw [b4]; decide), To.mk_4 b4, fin_other (by decide : (3 : Int) ≠ 0)]
    show txt p ++ ([⟨3, B [], B (comm (d ++ ([45, 45, 62] ++ wAll false r))).1, [], false⟩] ++ cut (comm (d ++ ([45, 45, 62] ++ wAll false r))).2) = _
    rw [hcm]
    have := ih [] [] clo_nil
    rw [List.nil_append] at this
    show txt p ++ ([_] ++ cut (wAll false r)) = _
    rw [this]
    rfl
  | doctype d r h62 htr _ ih =>
    intro e p hc
    rw [wAll_cons, w1_doctype]
    have b5 : begun (60 :: 33 :: 100 :: 111 :: 99 :: 116 :: 121 :: 112 :: 101 :: 32 :: (d ++ 62 :: wAll (rawT ⟨4, B [], B d, [], false⟩) r)) = 5 := by
      rw [To.begun_two, if_pos rfl, if_neg (by decide), if_neg (by decide), if_pos rfl]
      exact To.marked_5 (by simp [pre_cons]) (show lowL [100, 111, 99, 116, 121, 112, 101] = _ from by decide) (show lr 32 = false from by decide)
    rw [cut_clo hc (by rw [b5]; decide), To.mk_5 b5, fin_other (by decide : (4 : Int) ≠ 0)]
    show txt p ++ ([⟨4, B [], B (trimL (closed (32 :: (d ++ 62 :: wAll false r))).1), [], false⟩] ++ cut (closed (32 :: (d ++ 62 :: wAll false r))).2) = _
    have hcl := closed_at (s := 32 :: d) (r := wAll false r) (fun e => by
      rcases List.mem_cons.1 e with e | e
      · exact absurd e (by decide)
      · exact h62 e)
    rw [List.cons_append] at hcl
    rw [hcl]
    have := ih [] [] clo_nil
    rw [List.nil_append] at this
    show txt p ++ ([⟨4, B [], B (trimL (32 :: d)), [], false⟩] ++ cut (wAll false r)) = _
    rw [this, show trimL (32 :: d) = trimL d from by unfold trimL; rw [trimS_sp _ (by decide)], htr]
    rfl
  | end_ n r hn _ ih =>
    intro e p hc
    rw [wAll_cons, w1_end]
    have b2 := (begun_name (r := 62 :: wAll (rawT ⟨2, B n, B [], [], false⟩) r) hn).2
    rw [cut_clo hc (by rw [b2]; decide), To.mk_2 b2, fin_other (by decide : (2 : Int) ≠ 0)]
    show txt p ++ ((endTag (n ++ 62 :: wAll false r)).1 ++ cut (endTag (n ++ 62 :: wAll false r)).2) = _
    rw [end_back hn]
    have := ih [] [] clo_nil
    rw [List.nil_append] at this
    show txt p ++ ([_] ++ cut (wAll false r)) = _
    rw [this]
    rfl
  | start n l sf r hn ha hso _ ih =>
    intro e p hc
    have hraw : rawB n = false := by
      unfold softOr at hso
      exact (Bool.or_eq_false_iff.1 hso).1
    rw [wAll_cons, w1_start, rawT_start, hraw]
    have b1 := (begun_name (r := l.flatMap wAttr ++ ((if sf = true then [32, 47] else []) ++ 62 :: wAll false r)) hn).1
    rw [cut_clo hc (by rw [b1]; decide), To.mk_1 b1, fin_other (by decide : (1 : Int) ≠ 0), holds_start, hso]
    show txt p ++ ((startTag (n ++ (l.flatMap wAttr ++ ((if sf = true then [32, 47] else []) ++ 62 :: wAll false r)))).1 ++ cut (startTag (n ++ (l.flatMap wAttr ++ ((if sf = true then [32, 47] else []) ++ 62 :: wAll false r)))).2) = _
    rw [start_back hn ha, cont_n hso]
    have := ih [] [] clo_nil
    rw [List.nil_append] at this
    show txt p ++ ([_] ++ cut (wAll false r)) = _
    rw [this]
    rfl
  | raw n l sf d r hn ha hraw hd hl ht _ ih =>
    intro e p hc
    have hso : softOr n = true := by unfold softOr; rw [hraw]; rfl
    rw [wAll_cons, w1_start, rawT_start, hraw, wAll_cons, (w1_text d).2]
    have b1 := (begun_name (r := l.flatMap wAttr ++ ((if sf = true then [32, 47] else []) ++ 62 :: (d ++ wAll (rawT (tx d)) r))) hn).1
    rw [cut_clo hc (by rw [b1]; decide), To.mk_1 b1, fin_other (by decide : (1 : Int) ≠ 0), holds_start, hso, fin_held (t := tx d) rfl]
    show txt p ++ ((startTag (n ++ (l.flatMap wAttr ++ ((if sf = true then [32, 47] else []) ++ 62 :: (d ++ wAll false r))))).1 ++ cut (startTag (n ++ (l.flatMap wAttr ++ ((if sf = true then [32, 47] else []) ++ 62 :: (d ++ wAll false r))))).2) = _
    rw [start_back hn ha, cont_r hraw, hl, ht, txt_some hd]
    have := ih [] [] clo_nil
    rw [List.nil_append] at this
    show txt p ++ ([_, _] ++ cut (wAll false r)) = _
    rw [this]
    rfl
  | soft n l sf d r hn ha hraw hsoft hd hl ht _ ih =>
    intro e p hc
    have hso : softOr n = true := by unfold softOr; rw [hsoft, Bool.or_true]
    rw [wAll_cons, w1_start, rawT_start, hraw, wAll_cons, (w1_text d).1]
    have b1 := (begun_name (r := l.flatMap wAttr ++ ((if sf = true then [32, 47] else []) ++ 62 :: (esc false d ++ wAll (rawT (tx d)) r))) hn).1
    rw [cut_clo hc (by rw [b1]; decide), To.mk_1 b1, fin_other (by decide : (1 : Int) ≠ 0), holds_start, hso, fin_held (t := tx d) rfl]
    show txt p ++ ((startTag (n ++ (l.flatMap wAttr ++ ((if sf = true then [32, 47] else []) ++ 62 :: (esc false d ++ wAll false r))))).1 ++ cut (startTag (n ++ (l.flatMap wAttr ++ ((if sf = true then [32, 47] else []) ++ 62 :: (esc false d ++ wAll false r))))).2) = _
    rw [start_back hn ha, cont_s hraw hsoft, hl, ht, dec_esc, txt_some hd]
    have := ih [] [] clo_nil
    rw [List.nil_append] at this
    show txt p ++ ([_, _] ++ cut (wAll false r)) = _
    rw [this]
    rfl
  | none_ n l sf r hn ha hso hnt hw hl ht hr ih =>
    intro e p hc
    have hw' : wAll (rawB n) r = wAll false r := by
      cases hb : rawB n with
      | true => exact hw
      | false => rfl
    rw [wAll_cons, w1_start, rawT_start, hw']
    have b1 := (begun_name (r := l.flatMap wAttr ++ ((if sf = true then [32, 47] else []) ++ 62 :: wAll false r)) hn).1
    rw [cut_clo hc (by rw [b1]; decide), To.mk_1 b1, fin_other (by decide : (1 : Int) ≠ 0), holds_start, hso, good_head hr hnt]
    show txt p ++ ((startTag (n ++ (l.flatMap wAttr ++ ((if sf = true then [32, 47] else []) ++ 62 :: wAll false r)))).1 ++ cut (startTag (n ++ (l.flatMap wAttr ++ ((if sf = true then [32, 47] else []) ++ 62 :: wAll false r)))).2) = _
    have hcont : cont n (wAll false r) = ([], wAll false r) := by
      cases hb : rawB n with
      | true => rw [cont_r hb, hl, ht]; rfl
      | false =>
        have hs : softB n = true := by
          unfold softOr at hso
          rw [hb, Bool.false_or] at hso
          exact hso
        rw [cont_s hb hs, hl, ht, dec_nil]; rfl
    rw [start_back hn ha, hcont]
    have := ih [] [] clo_nil
    rw [List.nil_append] at this
    show txt p ++ ([_] ++ cut (wAll false r)) = _
    rw [this]
    rfl

end Go.Proofs.YtjhhhlomkfnniaaDoor.Tm
