/-
  Tokens that are written, and cut again: lists of tokens as a document can have them (Good), what they come back as (fin).
  What each token has, in plain words.
  What a list of tokens, written, is cut as; the tokens of any document are such a list.
  Stage 7, in plain words: bytes of tags that close nothing, as tokens and as trees; nothing of the program.
  Stage 7, in plain words: text alone, within an element that has text alone, and behind one that is open; many elements; nothing of the program.
  Stage 7, in plain words: a tag that begins has three bytes at least, so few bytes are few elements; nothing of the program.
  Stage 7, in plain words: a tag that begins has three bytes below 128 at least, and no byte that is made right has any; nothing of the program.
  Walks of stage 5: names.inElement, inAttr, every, Attr, Right.
  Small laws for the statements' own texts: min of a length, a mask of an int, a cut's size. For every stage from 5 on.
  Stage 7: BuildParts: documents, one behind the other, are each as it is alone.
  Stage 7: BuildParts, its walk.
  An argument that is a slice of strings, as the row reads it: a list of strings, nil or not.
-/
import Derived.Test.YtoijeljjehjfjaaDoorCk08
import Derived.Test.YtoijeljjehjfjaaDoorCk07
import Derived.Test.YtoijeljjehjfjaaDoorCk02
import Derived.Test.YtoijeljjehjfjaaDoorCk04
import Derived.Test.YtoijeljjehjfjaaDoorCk01
import Derived.Test.YtoijeljjehjfjaaDoorCk03
import Derived.Deep.OwnRows
import Derived.SliceStrings
import Derived.ProofKit
import Derived.Carry
namespace Go.Proofs.YtoijeljjehjfjaaDoor.Tm
set_option linter.unusedVariables false
set_option linter.unusedSimpArgs false
open Ba Fm Rm Nm
open Ro (At)
theorem dec_esc_app (q : Bool) (l x : List UInt8) : dec (esc q l ++ x) = l ++ dec x := by
  refine writes q (Q := fun l => dec (esc q l ++ x) = l ++ dec x) (by rw [esc_nil]; rfl) (fun r ih => ?_) (fun c r hc ih => ?_) l
  · rw [esc_nbsp, List.append_assoc]
    refine (dec_ref (b := [110, 98, 115, 112]) (t := [194, 160]) (esc q r ++ x) (by decide) (by decide)).trans ?_
    rw [ih]; rfl
  · rw [esc_byte q hc, List.append_assoc]
    unfold e1
    split
    · rename_i e; subst e
      refine (dec_ref (b := [97, 109, 112]) (t := [38]) (esc q r ++ x) (by decide) (by decide)).trans ?_
      rw [ih]; rfl
    split
    · rename_i e; subst e
      refine (dec_ref (b := [108, 116]) (t := [60]) (esc q r ++ x) (by decide) (by decide)).trans ?_
      rw [ih]; rfl
    split
    · rename_i e; subst e
      refine (dec_ref (b := [103, 116]) (t := [62]) (esc q r ++ x) (by decide) (by decide)).trans ?_
      rw [ih]; rfl
    split
    · rename_i e; obtain ⟨rfl, _⟩ := e
      refine (dec_ref (b := [113, 117, 111, 116]) (t := [34]) (esc q r ++ x) (by decide) (by decide)).trans ?_
      rw [ih]; rfl
    · rename_i h _ _ _
      refine (dec_byte (esc q r ++ x) h).trans ?_
      rw [ih]; rfl

/-- A tag's name, as it is cut. -/
def nmOk (n : List UInt8) : Prop := by1 lr n = true ∧ ∀ c ∈ n, en c = false ∧ low c = c
theorem nm_low {n : List UInt8} (h : ∀ c ∈ n, low c = c) : lowL n = n := by
  unfold lowL
  exact (List.map_congr_left h).trans (List.map_id _)
/-- An attribute's name, as it is cut. -/
def aOk (a : At) : Prop := ∃ c t, L a.name = c :: t ∧ c ≠ 62 ∧ c ≠ 47 ∧ sp c = false ∧ low c = c ∧ ∀ x ∈ t, ea x = false ∧ low x = x
def asOk (l : List At) : Prop := (∀ a ∈ l, aOk a) ∧ l.Pairwise fun a b => a.name ≠ b.name
theorem at_back {a : At} {c : UInt8} {t r : List UInt8} (hn : L a.name = c :: t) (hc : low c = c) (ht : ∀ x ∈ t, ea x = false ∧ low x = x) :
    attr c (t ++ 61 :: 34 :: (esc true (L a.value) ++ 34 :: r)) = (a, r) := by
  obtain ⟨u1, u2⟩ := upTo_stop (q := ea) (s := t) (c := 61) (r := 34 :: (esc true (L a.value) ++ 34 :: r)) (fun x hx => (ht x hx).1) (by decide)
  have hv : valued (61 :: 34 :: (esc true (L a.value) ++ 34 :: r)) = (L a.value, r) := by
    obtain ⟨v1, v2⟩ := upTo_stop (q := is 34) (s := esc true (L a.value)) (c := 34) (r := r) (fun x hx => by
      unfold is
      rw [beq_eq_false_iff_ne]
      intro e
      rw [e] at hx
      exact (esc_free true (L a.value)).2.2 rfl hx) (by decide)
    unfold valued
    rw [if_pos (by rfl)]
    have hval : value (trimS (34 :: (esc true (L a.value) ++ 34 :: r))) = (esc true (L a.value), r) := by
      rw [trimS_no _ (by decide)]
      unfold value
      rw [if_pos (by rfl)]
      show quo 34 (esc true (L a.value) ++ 34 :: r) = _
      unfold quo
      rw [v1, v2]
      rfl
    show (dec (value (trimS (34 :: (esc true (L a.value) ++ 34 :: r)))).1, (value (trimS (34 :: (esc true (L a.value) ++ 34 :: r)))).2) = _
    rw [hval]
    show (dec (esc true (L a.value)), r) = _
    rw [dec_esc]
  rw [To.attr_eq, u1, u2, trimS_no _ (by decide), hv]
  have hl : lowL (c :: t) = c :: t := nm_low (fun x hx => by
    rcases List.mem_cons.1 hx with e | e
    · rw [e]; exact hc
    · exact (ht x e).2)
  rw [hl, ← hn, B_L, B_L]
theorem put_new {acc : List At} {a : At} (h : ∀ b ∈ acc, b.name ≠ a.name) : put acc a = acc ++ [a] := by
  unfold put
  rw [if_neg]
  unfold known
  rw [List.any_eq_true]
  rintro ⟨b, hb, e⟩
  exact h b hb (of_decide_eq_true e)
theorem attrs_back : ∀ (l acc : List At) (sf : Bool) (r : List UInt8), (∀ a ∈ l, aOk a) → (acc ++ l).Pairwise (fun a b => a.name ≠ b.name) →
    attrs false acc (l.flatMap wAttr ++ ((if sf = true then [32, 47] else []) ++ 62 :: r)) = some (acc ++ l, sf, r)
  | [], acc, sf, r, _, _ => by
    rw [List.append_nil]
    cases sf with
    | false => exact attrs_end _ _ _
    | true =>
      show attrs false acc (32 :: 47 :: 62 :: r) = _
      rw [attrs_skip _ _ _ (by decide) (.inr (by decide)), attrs_skip _ _ _ (by decide) (.inl rfl)]
      exact attrs_end _ _ _
  | a :: l, acc, sf, r, h, hp => by
    obtain ⟨c, t, hn, c1, c2, c3, c4, ht⟩ := h a List.mem_cons_self
    have e : (a :: l).flatMap wAttr ++ ((if sf = true then [32, 47] else []) ++ 62 :: r) = 32 :: c :: (t ++ 61 :: 34 :: (esc true (L a.value) ++ 34 :: (l.flatMap wAttr ++ ((if sf = true then [32, 47] else []) ++ 62 :: r)))) := by
      rw [List.flatMap_cons]
      unfold wAttr
      rw [hn]
      simp only [List.append_assoc, List.cons_append, List.nil_append]
    rw [e, attrs_skip _ _ _ (by decide) (.inr (by decide)), attrs_attr _ _ _ c1 (by rw [c3]; simpa using c2), at_back hn c4 ht]
    have hp' : ∀ b ∈ acc, b.name ≠ a.name := fun b hb => (List.pairwise_append.1 hp).2.2 b hb a List.mem_cons_self
    rw [put_new hp']
    have := attrs_back l (acc ++ [a]) sf r (fun b hb => h b (List.mem_cons_of_mem _ hb)) (by rw [List.append_assoc]; exact hp)
    rw [this, List.append_assoc]
    rfl

/-- What a start tag written is cut as. -/
theorem start_back {n : List UInt8} (hn : nmOk n) {l : List At} (ha : asOk l) (sf : Bool) (r : List UInt8) :
    startTag (n ++ (l.flatMap wAttr ++ ((if sf = true then [32, 47] else []) ++ 62 :: r))) = (⟨1, B n, B [], l, sf⟩ :: (cont n r).1, (cont n r).2) := by
  have hu : ∀ X : List UInt8, by1 en X = true → upTo en (n ++ X) = n ∧ from_ en (n ++ X) = X := fun X hX => by
    cases X with
    | nil => cases hX
    | cons c q => exact upTo_stop (fun x hx => (hn.2 x hx).1) hX
  have hX : by1 en (l.flatMap wAttr ++ ((if sf = true then [32, 47] else []) ++ 62 :: r)) = true := by
    cases l with
    | nil => cases sf <;> rfl
    | cons a q => rfl
  obtain ⟨u1, u2⟩ := hu _ hX
  have hat : attrs false [] (from_ en (n ++ (l.flatMap wAttr ++ ((if sf = true then [32, 47] else []) ++ 62 :: r)))) = some (l, sf, r) := by
    rw [u2]
    have := attrs_back l [] sf r ha.1 (by rw [List.nil_append]; exact ha.2)
    rwa [List.nil_append] at this
  have := (To.start_yes hat).1
  rw [u1, nm_low (fun c hc => (hn.2 c hc).2)] at this
  exact this
theorem end_back {n : List UInt8} (hn : nmOk n) (r : List UInt8) : endTag (n ++ 62 :: r) = ([⟨2, B n, B [], [], false⟩], r) := by
  obtain ⟨u1, u2⟩ := upTo_stop (q := en) (s := n) (c := 62) (r := r) (fun x hx => (hn.2 x hx).1) (by decide)
  have hat : attrs false [] (from_ en (n ++ 62 :: r)) = some ([], false, r) := by rw [u2]; exact attrs_end _ _ _
  have := (To.start_yes hat).2
  rw [u1, nm_low (fun c hc => (hn.2 c hc).2)] at this
  exact this
theorem begun_name {n r : List UInt8} (hn : nmOk n) : begun (60 :: (n ++ r)) = 1 ∧ begun (60 :: 47 :: (n ++ r)) = 2 := by
  cases n with
  | nil => exact absurd hn.1 (by decide)
  | cons c q =>
    have hc : lr c = true := hn.1
    refine ⟨?_, ?_⟩
    · show begun (60 :: c :: (q ++ r)) = 1
      rw [To.begun_two, if_pos rfl, if_pos hc]
    · show begun (60 :: 47 :: c :: (q ++ r)) = 2
      rw [To.begun_two, if_pos rfl, if_neg (by decide), if_pos rfl]
      show (if lr c = true then 2 else if c = 62 then 3 else 6) = 2
      rw [if_pos hc]

/-- A written text: decoded it is this, whatever stands behind it; it begins nothing. -/
def Clo (e p : List UInt8) : Prop := (60 : UInt8) ∉ e ∧ ∀ x, dec (e ++ x) = p ++ dec x
theorem Clo.esc {e p : List UInt8} (h : Clo e p) (d : List UInt8) : Clo (e ++ esc false d) (p ++ d) :=
  ⟨fun c => (List.mem_append.1 c).elim h.1 (esc_free false d).1, fun x => by rw [List.append_assoc, h.2, dec_esc_app, List.append_assoc]⟩
theorem Clo.dec {e p : List UInt8} (h : Clo e p) : dec e = p := by
  have := h.2 []
  rwa [List.append_nil, Rm.dec_nil, List.append_nil] at this
theorem cut_clo {e p r : List UInt8} (h : Clo e p) (hb : begun r ≠ 0) : cut (e ++ r) = txt p ++ ((mk r).1 ++ cut (mk r).2) := by
  obtain ⟨h1, h2⟩ := begins hb
  have := cut_at h.1 h1
  rwa [h2, h.dec] at this

/-- An element of this name has text alone. -/
def softOr (n : List UInt8) : Bool := rawB n || softB n
/-- Lists of tokens as a document has them. -/
inductive Good : List Tk → Prop
  | nil : Good []
  | text (d : List UInt8) (r : List Tk) : d ≠ [] → Good r → Good (tx d :: r)
  | comment (d : List UInt8) (r : List Tk) : (∀ x, comm (d ++ ([45, 45, 62] ++ x)) = (d, x)) → Good r → Good (⟨3, B [], B d, [], false⟩ :: r)
  | doctype (d : List UInt8) (r : List Tk) : (62 : UInt8) ∉ d → trimL d = d → Good r → Good (⟨4, B [], B d, [], false⟩ :: r)
  | end_ (n : List UInt8) (r : List Tk) : nmOk n → Good r → Good (⟨2, B n, B [], [], false⟩ :: r)
  | start (n : List UInt8) (l : List At) (sf : Bool) (r : List Tk) : nmOk n → asOk l → softOr n = false → Good r → Good (⟨1, B n, B [], l, sf⟩ :: r)
  | raw (n : List UInt8) (l : List At) (sf : Bool) (d : List UInt8) (r : List Tk) : nmOk n → asOk l → rawB n = true → d ≠ [] → lead (isEnd n) (d ++ wAll false r) = d → trail (isEnd n) (d ++ wAll false r) = wAll false r → Good r → Good (⟨1, B n, B [], l, sf⟩ :: tx d :: r)
  | soft (n : List UInt8) (l : List At) (sf : Bool) (d : List UInt8) (r : List Tk) : nmOk n → asOk l → rawB n = false → softB n = true → d ≠ [] → lead (isEnd n) (esc false d ++ wAll false r) = esc false d → trail (isEnd n) (esc false d ++ wAll false r) = wAll false r → Good r → Good (⟨1, B n, B [], l, sf⟩ :: tx d :: r)
  | none_ (n : List UInt8) (l : List At) (sf : Bool) (r : List Tk) : nmOk n → asOk l → softOr n = true → (∀ d q, r ≠ tx d :: q) → wAll true r = wAll false r → lead (isEnd n) (wAll false r) = [] → trail (isEnd n) (wAll false r) = wAll false r → Good r → Good (⟨1, B n, B [], l, sf⟩ :: r)

end Go.Proofs.YtoijeljjehjfjaaDoor.Tm

namespace Go.Proofs.YtoijeljjehjfjaaDoor.Tm
set_option linter.unusedVariables false
set_option linter.unusedSimpArgs false
open Ba Fm Rm Nm
open Ro (At)
theorem u8_ext {a b : UInt8} (h : a.toNat = b.toNat) : a = b := UInt8.toNat.inj h
theorem lr_no {c : UInt8} (h : lr c = true) : en c = false := by
  have e : ∀ k : UInt8, lr k = false → (c == k) = false := fun k hk => by
    rw [beq_eq_false_iff_ne]
    intro e
    rw [e, hk] at h
    cases h
  unfold en ev sp
  rw [e 47 (by decide), e 62 (by decide), e 32 (by decide), e 9 (by decide), e 10 (by decide), e 12 (by decide), e 13 (by decide)]
  rfl
end Go.Proofs.YtoijeljjehjfjaaDoor.Tm

namespace Go.Proofs.YtoijeljjehjfjaaDoor.Tm
set_option linter.unusedVariables false
set_option linter.unusedSimpArgs false
open Ba Fm Rm Nm
open Ro (At)
theorem cont_n {n l : List UInt8} (h : softOr n = false) : cont n l = ([], l) := by
  unfold softOr at h
  rw [Bool.or_eq_false_iff] at h
  unfold cont
  rw [if_neg (by rw [h.1]; simp), if_neg (by rw [h.2]; simp)]
theorem txt_some {d : List UInt8} (h : d ≠ []) : txt d = [tx d] := by unfold txt; rw [if_neg h]

end Go.Proofs.YtoijeljjehjfjaaDoor.Tm

namespace Go.Proofs.YtoijeljjehjfjaaDoor.Bm
set_option linter.unusedVariables false
set_option linter.unusedSimpArgs false
open Ba Fm Rm Nm
open Ro (At Ro)
open Tm (Tk put cut txt tx nmOk softOr Clo begun mk startTag endTag begun_name start_back end_back cont_n cut_clo)
/-- A tag that begins, one that ends. -/
abbrev tagB (n : List UInt8) : Tk := ⟨1, B n, B [], [], false⟩
abbrev tagE (n : List UInt8) : Tk := ⟨2, B n, B [], [], false⟩
theorem clo_plain {e : List UInt8} (h : (60 : UInt8) ∉ e) (h' : (38 : UInt8) ∉ e) : Clo e e := ⟨h, fun x => dec_plain e x h'⟩
theorem cut_start {e n : List UInt8} (h : (60 : UInt8) ∉ e) (h' : (38 : UInt8) ∉ e) (hn : nmOk n) (hs : softOr n = false) (r : List UInt8) :
    cut (e ++ 60 :: (n ++ 62 :: r)) = txt e ++ (tagB n :: cut r) := by
  have hb := (begun_name (n := n) (r := 62 :: r) hn).1
  rw [cut_clo (clo_plain h h') (by rw [hb]; decide)]
  have hm : mk (60 :: (n ++ 62 :: r)) = ([tagB n], r) := by
    have e2 : mk (60 :: (n ++ 62 :: r)) = startTag (n ++ 62 :: r) := by unfold mk; rw [if_pos hb]; rfl
    have := start_back hn (l := []) ⟨(fun a h => by cases h), List.Pairwise.nil⟩ false r
    rw [cont_n hs] at this
    exact e2.trans this
  rw [hm]
  rfl
theorem cut_stop {e n : List UInt8} (h : (60 : UInt8) ∉ e) (h' : (38 : UInt8) ∉ e) (hn : nmOk n) (r : List UInt8) :
    cut (e ++ 60 :: 47 :: (n ++ 62 :: r)) = txt e ++ (tagE n :: cut r) := by
  have hb := (begun_name (n := n) (r := 62 :: r) hn).2
  rw [cut_clo (clo_plain h h') (by rw [hb]; decide)]
  have hm : mk (60 :: 47 :: (n ++ 62 :: r)) = ([tagE n], r) := by
    have e2 : mk (60 :: 47 :: (n ++ 62 :: r)) = endTag (n ++ 62 :: r) := by unfold mk; rw [if_neg (by rw [hb]; decide), if_pos hb]; rfl
    exact e2.trans (end_back hn r)
  rw [hm]
  rfl

/-- A name that closes nothing, and is no name without elements, void, or nothing. -/
structure Free (n : List UInt8) : Prop where
  some : noName (B n) = false
  open_ : isIn (B n) voidL = false
  free : closesL (B n) = []
theorem step_k0 {st : St} {t : Tk} (h : t.kind = 0) : stepB st t = if t.data = ⟨#[]⟩ then st else ⟨st.stk, addText st.out st.stk.length t.data⟩ := by unfold stepB; rw [if_pos h]
theorem step_k1 {st : St} {t : Tk} (h : t.kind = 1) (hn : noName t.name = false) : stepB st t = ⟨if isIn t.name voidL = true then openedS t.name st.stk else t.name :: openedS t.name st.stk, st.out ++ [⟨(openedS t.name st.stk).length, 0, t.name, ⟨#[]⟩, once t.attrs⟩]⟩ := by
  unfold stepB
  rw [if_neg (by rw [h]; decide), if_neg (by rw [h]; decide), if_pos h, if_neg (by rw [hn]; simp)]
theorem step_k2 {st : St} {t : Tk} {r : List ByteArray} (h : t.kind = 2) (hn : noName t.name = false) (hv : isIn t.name voidL = false) (hf : findS [t.name] (endWalls t.name) st.stk = some r) : stepB st t = ⟨r, st.out⟩ := by
  unfold stepB
  rw [if_neg (by rw [h]; decide), if_neg (by rw [h]; decide), if_neg (by rw [h]; decide), if_pos h, if_neg (by rw [hn, hv]; simp), hf]
theorem step_begin {n : List UInt8} (h : Free n) (s : List ByteArray) (o : List Ro) : stepB ⟨s, o⟩ (tagB n) = ⟨B n :: s, o ++ [⟨s.length, 0, B n, ⟨#[]⟩, []⟩]⟩ := by
  rw [step_k1 (t := tagB n) rfl h.some]
  show (⟨if isIn (B n) voidL = true then openedS (B n) s else B n :: openedS (B n) s, o ++ [⟨(openedS (B n) s).length, 0, B n, ⟨#[]⟩, once []⟩]⟩ : St) = _
  rw [opened_free h.free, if_neg (by rw [h.open_]; simp)]
  rfl
theorem step_end {n : List UInt8} (h : Free n) (s : List ByteArray) (o : List Ro) : stepB ⟨B n :: s, o⟩ (tagE n) = ⟨s, o⟩ :=
  step_k2 (t := tagE n) rfl h.some h.open_ (findS_hit s (isIn_yes (List.mem_singleton.2 rfl)))
theorem step_text {d : List UInt8} (hd : d ≠ []) (s : List ByteArray) (o : List Ro) (ho : ∀ y, o.getLast? = some y → y.kind ≠ 1 ∨ y.depth ≠ s.length) : stepB ⟨s, o⟩ (tx d) = ⟨s, o ++ [⟨s.length, 1, ⟨#[]⟩, B d, []⟩]⟩ := by
  rw [step_k0 (t := tx d) rfl]
  show (if B d = ⟨#[]⟩ then _ else (⟨s, addText o s.length (B d)⟩ : St)) = _
  rw [if_neg (fun e => hd (by have := congrArg L e; rwa [L_B] at this))]
  unfold addText
  cases hy : o.getLast? with
  | none => rfl
  | some y =>
    show (⟨s, if y.kind = 1 ∧ y.depth = (s.length : Int) then _ else _⟩ : St) = _
    rw [if_neg (fun hc => (ho y hy).elim (fun e => e hc.1) (fun e => e hc.2))]

/-- A closed element with a text. -/
theorem run_part {n d : List UInt8} (h : Free n) (hd : d ≠ []) (o : List Ro) :
    runB ⟨[], o⟩ [tagB n, tx d, tagE n] = ⟨[], o ++ [⟨0, 0, B n, ⟨#[]⟩, []⟩, ⟨1, 1, ⟨#[]⟩, B d, []⟩]⟩ := by
  rw [runB_cons, runB_cons, runB_cons, step_begin h, step_text hd _ _ (fun y hy => Or.inl ?_), step_end h]
  · show (⟨[], _⟩ : St) = _
    rw [List.append_assoc]
    rfl
  · rw [List.getLast?_append] at hy
    injection hy with hy
    rw [← hy]
    show (0 : Int) ≠ 1
    decide

end Go.Proofs.YtoijeljjehjfjaaDoor.Bm

namespace Go.Proofs.YtoijeljjehjfjaaDoor.Bm
set_option linter.unusedVariables false
set_option linter.unusedSimpArgs false
open Ba Fm Rm Nm
open Ro (At Ro)
open Tm (Tk put cut txt tx nmOk softOr within cont rawB isEnd lead trail lead_to txt_some)
/-- A text as a row. -/
abbrev rowT (d : Int) (s : List UInt8) : Ro := ⟨d, 1, ⟨#[]⟩, B s, []⟩
abbrev rowE (d : Int) (n : List UInt8) : Ro := ⟨d, 0, B n, ⟨#[]⟩, []⟩
theorem few_nil {l : List Tk} (h1 : l.length ≤ 4096) (h2 : starts l ≤ 59) : treeB ⟨[], []⟩ l = some (runB ⟨[], []⟩ l).out :=
  few (by show ([] : List Ro).length + _ ≤ _; rw [List.length_nil]; omega) (fun y hy => by cases hy) (by show ([] : List ByteArray).length + _ ≤ _; rw [List.length_nil]; omega)
/-- Elements with a text each, one behind the other. -/
def parts (x : List UInt8) : List (List UInt8) → List UInt8
  | [] => []
  | n :: r => 60 :: (n ++ 62 :: (x ++ 60 :: 47 :: (n ++ 62 :: parts x r)))
def partsK (x : List UInt8) (l : List (List UInt8)) : List Tk := l.flatMap fun n => [tagB n, tx x, tagE n]
def partsR (x : List UInt8) (l : List (List UInt8)) : List Ro := l.flatMap fun n => [rowE 0 n, rowT 1 x]
theorem cut_parts {x : List UInt8} (hx : x ≠ []) (h : (60 : UInt8) ∉ x) (h' : (38 : UInt8) ∉ x) (t : List UInt8) : ∀ l : List (List UInt8), (∀ n ∈ l, nmOk n ∧ softOr n = false) → cut (parts x l ++ t) = partsK x l ++ cut t
  | [], _ => rfl
  | n :: l, hl => by
    obtain ⟨hn, hs⟩ := hl n List.mem_cons_self
    have h1 := cut_start (e := []) (by simp) (by simp) hn hs (x ++ 60 :: 47 :: (n ++ 62 :: (parts x l ++ t)))
    have h2 := cut_stop h h' hn (parts x l ++ t)
    rw [cut_parts hx h h' t l (fun m hm => hl m (List.mem_cons_of_mem _ hm)), txt_some hx] at h2
    rw [h2] at h1
    have e : parts x (n :: l) ++ t = 60 :: (n ++ 62 :: (x ++ 60 :: 47 :: (n ++ 62 :: (parts x l ++ t)))) := by
      show (60 :: (n ++ 62 :: (x ++ 60 :: 47 :: (n ++ 62 :: parts x l)))) ++ t = _
      simp
    rw [e]
    exact h1
theorem run_parts {x : List UInt8} (hx : x ≠ []) : ∀ (l : List (List UInt8)) (o : List Ro), (∀ n ∈ l, Free n) → runB ⟨[], o⟩ (partsK x l) = ⟨[], o ++ partsR x l⟩
  | [], o, _ => by show (⟨[], o⟩ : St) = ⟨[], o ++ []⟩; rw [List.append_nil]
  | n :: l, o, h => by
    have e : partsK x (n :: l) = [tagB n, tx x, tagE n] ++ partsK x l := rfl
    have e2 : partsR x (n :: l) = [rowE 0 n, rowT 1 x] ++ partsR x l := rfl
    rw [e, runB_append, run_part (h n List.mem_cons_self) hx, run_parts hx l _ (fun m hm => h m (List.mem_cons_of_mem _ hm)), e2, List.append_assoc]
/-- Documents, one behind the other: the first one's elements are closed, its last row is one. -/
theorem tree_behind {a b : List Tk} {o : List Ro} (ha : runB ⟨[], []⟩ a = ⟨[], o⟩) (ho : ∀ y, o.getLast? = some y → y.kind ≠ 1) (hl : a.length + b.length ≤ 4096) (hs : starts (a ++ b) ≤ 59) :
    treeB ⟨[], []⟩ (a ++ b) = some (o ++ (runB ⟨[], []⟩ b).out) := by
  rw [few_nil (by rw [List.length_append]; exact hl) hs, runB_append, ha]
  have := run_behind ho b [] []
  rw [List.append_nil] at this
  rw [this]

end Go.Proofs.YtoijeljjehjfjaaDoor.Bm

namespace Go.Proofs.YtoijeljjehjfjaaDoor.Bm
set_option linter.unusedVariables false
set_option linter.unusedSimpArgs false
open Ba Fm Rm Nm
open Ro (At Ro)
open Tm (Tk put cut txt tx within cont mk turn startTag endTag trail lead attrs from_ by1 en bg upTo)
theorem starts_append (a b : List Tk) : starts (a ++ b) = starts a + starts b := by
  induction a with
  | nil => show starts b = 0 + starts b; omega
  | cons t r ih =>
    show (if t.kind = 1 then 1 else 0) + starts (r ++ b) = (if t.kind = 1 then 1 else 0) + starts r + starts b
    omega
theorem starts_txt (d : List UInt8) : starts (txt d) = 0 := by
  unfold txt
  split <;> rfl
theorem starts_cont (n l : List UInt8) : starts (cont n l).1 = 0 := by
  unfold cont
  split
  · exact starts_txt _
  · split
    · exact starts_txt _
    · rfl
theorem begun_lr {l : List UInt8} (h : Tm.begun l = 1) : ∃ c r, l = 60 :: c :: r ∧ lr c = true := by
  match l with
  | [] => cases h
  | [a] =>
    have : Tm.begun [a] = 0 := by show (if a = 60 then 0 else 0) = 0; split <;> rfl
    rw [this] at h; cases h
  | a :: c :: r =>
    rw [To.begun_two] at h
    by_cases ha : a = 60
    · rw [if_pos ha] at h
      by_cases hc : lr c = true
      · exact ⟨c, r, by rw [ha], hc⟩
      · rw [if_neg hc] at h
        by_cases h47 : c = 47
        · rw [if_pos h47] at h
          rcases To.slashed_cases r with e | ⟨_, e | e | e⟩ <;> (rw [e] at h; cases h)
        · rw [if_neg h47] at h
          by_cases h33 : c = 33
          · rw [if_pos h33] at h
            unfold Tm.marked at h
            split at h
            · cases h
            · split at h <;> cases h
          · rw [if_neg h33] at h
            split at h <;> cases h
    · rw [if_neg ha] at h; cases h
end Go.Proofs.YtoijeljjehjfjaaDoor.Bm

namespace Go.Proofs.YtoijeljjehjfjaaDoor.Bm
set_option linter.unusedVariables false
set_option linter.unusedSimpArgs false
open Ba Fm Rm Nm
open Ro (At Ro)
open Tm (Tk put cut txt tx within cont mk turn startTag endTag trail lead attrs from_ by1 en bg upTo attr valued value quo ea)
/-- How many bytes are below 128. -/
def asc (l : List UInt8) : Nat := (l.filter fun c => decide (c.toNat < 128)).length
theorem asc_append (a b : List UInt8) : asc (a ++ b) = asc a + asc b := by unfold asc; rw [List.filter_append, List.length_append]
theorem asc_low {c : UInt8} (h : c.toNat < 128) (r : List UInt8) : asc (c :: r) = asc r + 1 := by
  unfold asc; rw [List.filter_cons_of_pos (by simpa using h), List.length_cons]
theorem asc_suf {a b : List UInt8} (h : a <:+ b) : asc a ≤ asc b := (h.sublist.filter _).length_le
theorem asc_len (l : List UInt8) : asc l ≤ l.length := List.length_filter_le _ _
theorem asc_cons (c : UInt8) (r : List UInt8) : asc r ≤ asc (c :: r) := asc_suf (List.suffix_cons c r)
theorem suf_trail (p : List UInt8 → Bool) (l : List UInt8) : trail p l <:+ l := ⟨lead p l, Tm.lead_trail p l⟩
theorem suf_quo (q : UInt8) (r : List UInt8) : (quo q r).2 <:+ r := (List.drop_suffix _ _).trans (suf_trail _ _)
theorem suf_trim (l : List UInt8) : trimS l <:+ l := List.dropWhile_suffix _
theorem suf_value (l : List UInt8) : (value l).2 <:+ l := by
  unfold value
  split
  · exact (suf_quo _ _).trans (List.drop_suffix _ _)
  · split
    · exact (suf_quo _ _).trans (List.drop_suffix _ _)
    · exact suf_trail _ _
theorem suf_valued (l : List UInt8) : (valued l).2 <:+ l := by
  unfold valued
  split
  · exact (suf_value _).trans ((suf_trim _).trans (List.drop_suffix _ _))
  · exact List.suffix_refl _
theorem suf_attr (c : UInt8) (r : List UInt8) : (attr c r).2 <:+ r := (suf_valued _).trans ((suf_trim _).trans (suf_trail _ _))
theorem asc_attrs (l : List UInt8) : ∀ (self : Bool) (acc : List At) (bs : List At) (sf : Bool) (r : List UInt8), attrs self acc l = some (bs, sf, r) → asc r + 1 ≤ asc l ∧ r <:+ l := by
  induction hn : l.length using Nat.strongRecOn generalizing l with
  | ind n ih =>
    intro self acc bs sf r h
    subst hn
    cases l with
    | nil => rw [Tm.attrs_nil] at h; cases h
    | cons c q =>
      by_cases h1 : c = 62
      · subst h1
        rw [Tm.attrs_end] at h
        injection h with h
        injection h with _ h
        injection h with _ h
        rw [h, asc_low (by decide)]
        exact ⟨Nat.le_refl _, List.suffix_cons _ _⟩
      · by_cases h2 : c = 47 ∨ sp c = true
        · rw [Tm.attrs_skip _ _ _ h1 h2] at h
          obtain ⟨e1, e2⟩ := ih q.length (by simp) q rfl _ _ _ _ _ h
          have := asc_cons c q
          exact ⟨by omega, e2.trans (List.suffix_cons _ _)⟩
        · rw [Tm.attrs_attr _ _ _ h1 h2] at h
          have hq := Tm.len_attr c q
          have hs := (suf_attr c q).trans (List.suffix_cons c q)
          obtain ⟨e1, e2⟩ := ih (attr c q).2.length (by simp only [List.length_cons]; omega) _ rfl _ _ _ _ _ h
          have := asc_suf hs
          exact ⟨by omega, e2.trans hs⟩
theorem suf_cont (n l : List UInt8) : (cont n l).2 <:+ l := by
  unfold cont
  split
  · exact suf_trail _ _
  · split
    · exact suf_trail _ _
    · exact List.suffix_refl _
theorem suf_end (l : List UInt8) : (endTag l).2 <:+ l := by
  cases h : attrs false [] (from_ en l) with
  | none => rw [(To.start_no h).2]; exact List.nil_suffix
  | some x =>
    obtain ⟨bs, sf, r⟩ := x
    rw [(To.start_yes h).2]
    exact (asc_attrs _ _ _ _ _ _ h).2.trans (suf_trail _ _)
theorem suf_closed (l : List UInt8) : (Tm.closed l).2 <:+ l := (List.drop_suffix _ _).trans (suf_trail _ _)
theorem suf_comm (l : List UInt8) : (Tm.comm l).2 <:+ l := by
  unfold Tm.comm
  split
  · exact List.drop_suffix _ _
  · split
    · exact List.drop_suffix _ _
    · exact (List.drop_suffix _ _).trans (suf_trail _ _)
theorem suf_marks (l : List UInt8) : Tm.marks l <:+ l := by
  unfold Tm.marks
  split
  · exact List.drop_suffix _ _
  · split
    · exact List.drop_suffix _ _
    · exact List.suffix_refl _
theorem lr_less {c : UInt8} (h : lr c = true) : c.toNat < 128 := by
  unfold lr at h
  have e90 : (90 : UInt8).toNat = 90 := rfl
  have e122 : (122 : UInt8).toNat = 122 := rfl
  rw [Bool.or_eq_true, Bool.and_eq_true, Bool.and_eq_true, decide_eq_true_iff, decide_eq_true_iff, decide_eq_true_iff, decide_eq_true_iff, UInt8.le_iff_toNat_le, UInt8.le_iff_toNat_le, UInt8.le_iff_toNat_le, UInt8.le_iff_toNat_le] at h
  omega
theorem asc_mk (l : List UInt8) : 3 * starts (mk l).1 + asc (mk l).2 ≤ asc l := by
  by_cases h1 : Tm.begun l = 1
  · obtain ⟨c, r, e, hc⟩ := begun_lr h1
    rw [To.mk_1 h1, e]
    show 3 * starts (startTag (c :: r)).1 + asc (startTag (c :: r)).2 ≤ _
    rw [asc_low (by decide), asc_low (lr_less hc)]
    cases h : attrs false [] (from_ en (c :: r)) with
    | none =>
      rw [(To.start_no h).1]
      show 3 * 0 + 0 ≤ _
      omega
    | some x =>
      obtain ⟨bs, sf, q⟩ := x
      have a1 := (asc_attrs _ _ _ _ _ _ h).1
      rw [(To.start_yes h).1]
      have a2 := asc_suf (suf_cont (lowL (upTo en (c :: r))) q)
      have a3 : from_ en (c :: r) = from_ en r := Tm.trail_no (p := by1 en) (show en c = false from Tm.lr_no hc)
      have a4 := asc_suf (suf_trail (by1 en) r)
      have a5 : asc (from_ en r) ≤ asc r := a4
      rw [a3] at a1
      show 3 * (1 + starts (cont _ q).1) + asc (cont _ q).2 ≤ _
      rw [starts_cont]
      omega
  have hs : (mk l).2 <:+ l := by
    by_cases h2 : Tm.begun l = 2
    · rw [To.mk_2 h2]; exact (suf_end _).trans (List.drop_suffix _ _)
    by_cases h3 : Tm.begun l = 3
    · rw [To.mk_3 h3]; exact List.drop_suffix _ _
    by_cases h4 : Tm.begun l = 4
    · rw [To.mk_4 h4]; exact (suf_comm _).trans (List.drop_suffix _ _)
    by_cases h5 : Tm.begun l = 5
    · rw [To.mk_5 h5]; exact (suf_closed _).trans (List.drop_suffix _ _)
    by_cases h6 : Tm.begun l = 6
    · rw [To.mk_6 h6]; exact (suf_closed _).trans ((suf_marks _).trans (List.drop_suffix _ _))
    rw [To.mk_0 h1 h2 h3 h4 h5 h6]
    exact List.suffix_refl _
  have key : starts (mk l).1 = 0 := by
    by_cases h2 : Tm.begun l = 2
    · rw [To.mk_2 h2]
      cases h : attrs false [] (from_ en (l.drop 2)) with
      | none => rw [(To.start_no h).2]; rfl
      | some x =>
        obtain ⟨bs, sf, q⟩ := x
        rw [(To.start_yes h).2]; rfl
    by_cases h3 : Tm.begun l = 3
    · rw [To.mk_3 h3]; rfl
    by_cases h4 : Tm.begun l = 4
    · rw [To.mk_4 h4]; rfl
    by_cases h5 : Tm.begun l = 5
    · rw [To.mk_5 h5]; rfl
    by_cases h6 : Tm.begun l = 6
    · rw [To.mk_6 h6]; rfl
    rw [To.mk_0 h1 h2 h3 h4 h5 h6]; rfl
  have := asc_suf hs
  omega
theorem asc_turn (l : List UInt8) : 3 * starts (turn l).1 + asc (turn l).2 ≤ asc l := by
  have h1 := asc_mk (trail bg l)
  have h2 := asc_suf (suf_trail bg l)
  show 3 * starts (txt _ ++ (mk (trail bg l)).1) + asc (mk (trail bg l)).2 ≤ _
  rw [starts_append, starts_txt]
  omega
/-- Three bytes below 128 an element. -/
theorem asc_cut (l : List UInt8) : 3 * starts (cut l) ≤ asc l := by
  induction hn : l.length using Nat.strongRecOn generalizing l with
  | ind n ih =>
    subst hn
    by_cases h : l = []
    · rw [h, To.cut_nil]; exact Nat.zero_le _
    · have h1 := To.len_turn h
      have h2 := asc_turn l
      have h3 := ih _ h1 _ rfl
      rw [To.cut_step h, starts_append]
      omega

/-- Made ready no byte below 128 is more. -/
theorem asc_F : asc Ch.F = 0 := by decide
theorem asc_dL (l : List UInt8) : asc (Ch.dL l) ≤ asc l := by
  refine Ch.ind (P := fun l => asc (Ch.dL l) ≤ asc l) (Nat.le_refl _) ?_ ?_ l
  · intro c r t G ih
    rw [Ch.dL_good G, asc_append, asc_append]
    split
    · rw [asc_F]; omega
    · omega
  · intro a t hd _ ih
    rw [Ch.dL_bad hd, asc_append, asc_F]
    have := asc_cons a t
    omega
theorem asc_ln (l : List UInt8) : ∀ p, asc (Ch.ln p l) ≤ asc l := by
  induction l with
  | nil => intro p; exact Nat.le_refl _
  | cons c t ih =>
    intro p
    by_cases h : c = 13
    · subst h
      rw [Ch.ln_13, asc_low (by decide), asc_low (by decide)]
      have := ih true
      omega
    · by_cases h2 : c = 10 ∧ p = true
      · obtain ⟨rfl, rfl⟩ := h2
        rw [Ch.ln_10]
        exact Nat.le_trans (ih false) (asc_cons _ _)
      · rw [Ch.ln_other _ _ _ h h2]
        have e1 : asc (c :: Ch.ln false t) = asc [c] + asc (Ch.ln false t) := asc_append [c] _
        have e2 : asc (c :: t) = asc [c] + asc t := asc_append [c] _
        have := ih false
        omega
theorem asc_ready (l : List UInt8) : asc (Ch.ln false (Ch.dL l)) ≤ l.length := Nat.le_trans (asc_ln _ _) (Nat.le_trans (asc_dL _) (asc_len _))
theorem ready_behind {p : List UInt8} (h : Ch.plain p) (t : List UInt8) : Ch.ln false (Ch.dL (p ++ t)) = p ++ Ch.ln false (Ch.dL t) := by
  induction p with
  | nil => rfl
  | cons c r ih =>
    obtain ⟨h1, h2, h3⟩ := h c List.mem_cons_self
    have ih := ih (fun x hx => h x (List.mem_cons_of_mem _ hx))
    have hz : c.toNat ≠ 0 := fun e => h2 (UInt8.toNat_inj.1 e)
    rw [List.cons_append, show c :: (r ++ t) = [c] ++ (r ++ t) from rfl, Ch.dL_good (Ch.good1 c h1), if_neg hz]
    show Ch.ln false (c :: Ch.dL (r ++ t)) = _
    rw [Ch.ln_other _ _ _ h3 (by simp), ih]
    rfl

end Go.Proofs.YtoijeljjehjfjaaDoor.Bm

namespace Go.Proofs.YtoijeljjehjfjaaDoor.Na
set_option maxRecDepth 100000
set_option linter.unusedSimpArgs false
set_option linter.unusedVariables false
open Go.RowKit Ba Fm Fo Nm
theorem u8_range {c : UInt8} : (decide ((65 : UInt8) ≤ c) && decide (c ≤ 90)) = (decide ((65 : Int) ≤ c.toNat) && decide ((c.toNat : Int) ≤ 90)) := by
  rw [Bool.eq_iff_iff]
  simp only [Bool.and_eq_true, decide_eq_true_eq, UInt8.le_iff_toNat_le]
  have e65 : (65 : UInt8).toNat = 65 := rfl
  have e90 : (90 : UInt8).toNat = 90 := rfl
  rw [e65, e90]
  omega
theorem u8_small {c : UInt8} : small c = (decide ((97 : Int) ≤ c.toNat) && decide ((c.toNat : Int) ≤ 122)) := by
  unfold small
  rw [Bool.eq_iff_iff]
  simp only [Bool.and_eq_true, decide_eq_true_eq, UInt8.le_iff_toNat_le]
  have e65 : (97 : UInt8).toNat = 97 := rfl
  have e90 : (122 : UInt8).toNat = 122 := rfl
  rw [e65, e90]
  omega

def elBAll (s : ByteArray) : Bool := (L s).all elB
theorem all_snoc (p : UInt8 → Bool) (s : ByteArray) (k : Nat) (h : k < s.size) : ((L s).take (k + 1)).all p = (((L s).take k).all p && p s[k]) := by
  rw [take_snoc s k h, List.all_append]; simp
theorem all_no (p : UInt8 → Bool) (s : ByteArray) (k : Nat) (h : k < s.size) (hb : p s[k] = false) : (L s).all p = false := by
  rw [List.all_eq_false]
  exact ⟨s[k], List.getElem_mem (by rw [size_L]; exact h), by simp [hb]⟩

set_option maxHeartbeats 1000000 in
theorem inElement_any (c : UInt8) (w : World) :
    Calls Tryd.prog 52 #[.int .u8 c.toNat] w fun e w' => e = .returned (.bool (elB c)) ∧ w = w' := by
  have e0 : ((c.toNat : Int) == 0) = (c == 0) := u8_eq (b := 0)
  have e47 : ((c.toNat : Int) == 47) = (c == 47) := u8_eq (b := 47)
  have e62 : ((c.toNat : Int) == 62) = (c == 62) := u8_eq (b := 62)
  have hr := u8_range (c := c)
  have he : elB c = !(sp c || (decide ((65 : UInt8) ≤ c) && decide (c ≤ 90)) || c == 0 || c == 47 || c == 62) := rfl
  rw [hr] at he
  obtain ⟨q, hq⟩ : ∃ q, elB c = q := ⟨_, rfl⟩
  rw [hq] at he ⊢
  clear hr hq
  cases h0 : (c == 0) <;> cases h47 : (c == 47) <;> cases h62 : (c == 62)
  all_goals
    rw [h0] at e0
    rw [h47] at e47
    rw [h62] at e62
    rw [h0, h47, h62] at he
    clear h0 h47 h62
  case false.false.false =>
    cases hs : sp c <;> by_cases h1 : (65 : Int) ≤ c.toNat <;> by_cases h2 : (c.toNat : Int) ≤ 90
    all_goals
      have HE := Lib.hid he; have HS := Lib.hid hs
      clear he hs
      first
      | omega
      | (go_enter Tryd.func52, Tryd.ntmps52
         go_wp2_with (go_at_call 75; refine (space_any c _).mono ?_; rw [HS.out]; rintro e w' ⟨rfl, rfl⟩)
         go_ret
         exact ⟨ret_bool (by rw [HE.out, HS.out]; simp [h1, h2]), rfl⟩)
  all_goals
    have HE := Lib.hid he
    clear he
    go_enter Tryd.func52, Tryd.ntmps52
    go_wp2
    go_ret
    exact ⟨ret_bool (by rw [HE.out]; simp), rfl⟩

set_option maxHeartbeats 1000000 in
theorem every_el (s : ByteArray) (w : World) (hs : s.size ≤ 140737488355328) :
    Calls Tryd.prog 51 #[.string s, .func (.func 52) #[] #[]] w fun e w' => e = .returned (.bool (elBAll s)) ∧ w = w' := by
  go_enter Tryd.func51, Tryd.ntmps51
  go_wp2
  go_loop [8] (fun i => ∃ k : Nat, i = .int .i64 k ∧ k ≤ s.size ∧ ((L s).take k).all elB = true) (fun i => s.size - (intOf i).toNat)
  case atStart => exact ⟨0, rfl, Nat.zero_le _, by simp⟩
  case round =>
    obtain ⟨k, rfl, hks, hn⟩ := hrel
    by_cases hp : k < s.size
    · have hsn := all_snoc elB s k hp
      rw [hn] at hsn
      cases hb : elB s[k] with
      | true =>
        rw [hb] at hsn
        have HB := Lib.hid hb; have HS := Lib.hid hsn; clear hb hsn hn
        go_wp2_with (go_at_call 52; refine (inElement_any s[k] _).mono ?_; rw [HB.out]; rintro e w' ⟨rfl, rfl⟩)
        go_round
        case rel => exact ⟨k + 1, by go_num, by omega, HS.out⟩
        case measure => simp [intOf]; omega
      | false =>
        have hno : elBAll s = false := all_no elB s k hp hb
        have HB := Lib.hid hb; have HN := Lib.hid hno; clear hb hsn hn hno
        go_wp2_with (go_at_call 52; refine (inElement_any s[k] _).mono ?_; rw [HB.out]; rintro e w' ⟨rfl, rfl⟩)
        go_ret
        exact ⟨ret_bool HN.out.symm, rfl⟩
    · rw [List.take_of_length_le (by rw [size_L]; omega)] at hn
      have hn : elBAll s = true := hn
      have HN := Lib.hid hn; clear hn
      go_wp2
      go_ret
      exact ⟨ret_bool HN.out.symm, rfl⟩
theorem nil_size {s : ByteArray} (h : s.toList = []) : s.size = 0 := by
  rw [toList_L] at h
  rw [← size_L, h]; rfl
theorem not_nil {s : ByteArray} (h : ¬ s.size = 0) : ¬ s.toList = [] := fun e => h (nil_size e)
theorem nil_of {s : ByteArray} (h : s.size = 0) : s.toList = [] := by
  rw [toList_L]
  exact List.eq_nil_of_length_eq_zero (by rw [size_L]; exact h)
theorem rightB_nil {s : ByteArray} (h : s.size = 0) : rightB s = false := by
  unfold rightB
  rw [← toList_L, nil_of h]; rfl
theorem rightB_cons {s : ByteArray} (h : 0 < s.size) : rightB s = (small s[0] && elBAll s) := by
  unfold rightB elBAll
  have := drop_cons s 0 h
  rw [List.drop_zero] at this
  rw [this]; rfl

set_option maxHeartbeats 1000000 in
theorem right_any (s : ByteArray) (w : World) (hs : s.size ≤ 140737488355328) :
    Calls Tryd.prog 24 #[.string s] w fun e w' => e = .returned (.bool (rightB s)) ∧ w = w' := by
  by_cases h0 : s.size = 0
  · rw [rightB_nil h0]
    have hn := nil_of h0
    clear h0
    go_enter Tryd.func24, Tryd.ntmps24
    go_wp2
    go_ret
    exact ⟨rfl, rfl⟩
  · have hp : 0 < s.size := by omega
    have he := rightB_cons hp
    rw [u8_small] at he
    obtain ⟨q, hq⟩ : ∃ q, rightB s = q := ⟨_, rfl⟩
    rw [hq] at he ⊢
    have hn := not_nil h0
    clear h0 hq
    have HE := Lib.hid he
    clear he
    by_cases h1 : (97 : Int) ≤ s[0].toNat <;> by_cases h2 : (s[0].toNat : Int) ≤ 122
    all_goals
      go_enter Tryd.func24, Tryd.ntmps24
      go_wp2_with (go_at_call 51; refine (every_el s _ hs).mono ?_; rintro e w' ⟨rfl, rfl⟩)
      go_ret
      refine ⟨ret_bool ?_, rfl⟩
      rw [HE.out]
      by_cases g1 : (97 : Int) ≤ s[0].toNat
      · by_cases g2 : (s[0].toNat : Int) ≤ 122
        · rw [decide_eq_true g1, decide_eq_true g2]
          first | rfl | (simp [hn]; done) | (exfalso; omega)
        · rw [decide_eq_false g2, decide_eq_true g1]
          first | rfl | (exfalso; omega)
      · rw [decide_eq_false g1]
        first | rfl | (exfalso; omega)

end Go.Proofs.YtoijeljjehjfjaaDoor.Na

namespace Go.Proofs.YtoijeljjehjfjaaDoor.Sm
set_option maxRecDepth 100000
set_option linter.unusedSimpArgs false
set_option linter.unusedVariables false
open Go.RowKit Ba
theorem min_any (x : Nat) (m : Nat) (M : Int) (hM : M = m) (w : World) : ∃ k : Nat, k ≤ x ∧ k ≤ m ∧ k = min x m ∧ ∀ ts t, (Builtin.min_ ts t #[.int .i64 x, .int .i64 M]).run Tryd.prog w = .ok (.int .i64 k) w := by
  refine ⟨min x m, by omega, by omega, rfl, fun ts t => ?_⟩
  rw [run_min_int2]
  congr 2
  split <;> omega
theorem size_take (s : ByteArray) (k : Nat) (h : k ≤ s.size) : (s.extract 0 k).size = k := by
  rw [← size_L, L_extract, List.length_take, List.drop_zero, size_L]; omega

end Go.Proofs.YtoijeljjehjfjaaDoor.Sm

namespace Go.Proofs.YtoijeljjehjfjaaDoor.Bu
set_option maxRecDepth 100000
set_option linter.unusedVariables false
set_option linter.unusedSimpArgs false
open Go.RowKit Ba Fm Fo Nm Bm Sm
open Ro (At Ro Cw ros Fr Ow Rv Rr bare rows_new cells Few Held)
open Tm (Tk within tx txt cut cont nmOk softOr rawB softB)
open Re (Tab)
/-! Mathematics. -/
/-- A name of letters. -/
def lettersB (n : ByteArray) : Prop := ∀ c ∈ L n, 97 ≤ c.toNat ∧ c.toNat ≤ 122
theorem letter_lr {c : UInt8} (h : 97 ≤ c.toNat ∧ c.toNat ≤ 122) : lr c = true := by
  unfold lr
  have e97 : (97 : UInt8).toNat = 97 := rfl
  have e122 : (122 : UInt8).toNat = 122 := rfl
  rw [Bool.or_eq_true]
  right
  rw [Bool.and_eq_true, decide_eq_true_iff, decide_eq_true_iff, UInt8.le_iff_toNat_le, UInt8.le_iff_toNat_le]
  omega
theorem letter_low {c : UInt8} (h : 97 ≤ c.toNat ∧ c.toNat ≤ 122) : low c = c := by
  unfold low
  rw [if_neg]
  rw [UInt8.le_iff_toNat_le, UInt8.le_iff_toNat_le]
  have e90 : (90 : UInt8).toNat = 90 := rfl
  omega
theorem nm_letters {n : List UInt8} (hn : n ≠ []) (h : ∀ c ∈ n, 97 ≤ c.toNat ∧ c.toNat ≤ 122) : nmOk n := by
  refine ⟨?_, fun c hc => ⟨Tm.lr_no (letter_lr (h c hc)), letter_low (h c hc)⟩⟩
  cases n with
  | nil => exact absurd rfl hn
  | cons c r => exact letter_lr (h c List.mem_cons_self)
/-- A name that the law takes. -/
structure Takes (n : ByteArray) : Prop where
  size : n.size ≤ 40
  some : n ≠ ⟨#[]⟩
  open_ : isIn n voidL = false
  raw : isIn n rawL = false
  soft : isIn n softL = false
  here : isIn n goneL = false
  free : closesL n = []
  letters : lettersB n
theorem Takes.name {n : ByteArray} (h : Takes n) : nmOk (L n) ∧ softOr (L n) = false := by
  refine ⟨nm_letters (fun e => h.some (L_inj e)) h.letters, ?_⟩
  unfold softOr rawB softB
  rw [B_L, h.raw, h.soft]
  rfl
theorem Takes.bm {n : ByteArray} (h : Takes n) : Free (L n) := by
  refine ⟨?_, by rw [B_L]; exact h.open_, by rw [B_L]; exact h.free⟩
  unfold noName
  rw [B_L, decide_eq_false h.some, h.here]
  rfl
abbrev X1 : List UInt8 := [120]
theorem parts_snoc (x n : List UInt8) : ∀ l, parts x (l ++ [n]) = parts x l ++ (60 :: (n ++ 62 :: (x ++ 60 :: 47 :: (n ++ [62]))))
  | [] => rfl
  | m :: l => by
    show 60 :: (m ++ 62 :: (x ++ 60 :: 47 :: (m ++ 62 :: parts x (l ++ [n])))) = 60 :: (m ++ 62 :: (x ++ 60 :: 47 :: (m ++ 62 :: parts x l))) ++ _
    rw [parts_snoc x n l]
    simp
theorem partsR_snoc (x n : List UInt8) (l : List (List UInt8)) : partsR x (l ++ [n]) = partsR x l ++ [rowE 0 n, rowT 1 x] := by
  unfold partsR
  rw [List.flatMap_append]
  rfl
theorem len_parts (l : List (List UInt8)) (h : ∀ n ∈ l, n.length ≤ 40) : (parts X1 l).length ≤ 90 * l.length := by
  induction l with
  | nil => exact Nat.le_refl _
  | cons n r ih =>
    have h1 := h n List.mem_cons_self
    have h2 := ih (fun m hm => h m (List.mem_cons_of_mem _ hm))
    show (60 :: (n ++ 62 :: (X1 ++ 60 :: 47 :: (n ++ 62 :: parts X1 r)))).length ≤ _
    simp only [List.length_cons, List.length_append, List.length_nil]
    omega
theorem plain_parts (l : List (List UInt8)) (h : ∀ n ∈ l, ∀ c ∈ n, 97 ≤ c.toNat ∧ c.toNat ≤ 122) : Ch.plain (parts X1 l) := by
  have hlow : ∀ c : UInt8, (c = 60 ∨ c = 62 ∨ c = 120 ∨ c = 47 ∨ (97 ≤ c.toNat ∧ c.toNat ≤ 122)) → c.toNat < 128 ∧ c ≠ 0 ∧ c ≠ 13 := fun c hc => by
    rcases hc with rfl | rfl | rfl | rfl | ⟨h1, h2⟩
    · decide
    · decide
    · decide
    · decide
    · exact ⟨by omega, fun e => by rw [e] at h1; exact absurd h1 (by decide), fun e => by rw [e] at h1; exact absurd h1 (by decide)⟩
  induction l with
  | nil => intro x hx; cases hx
  | cons n r ih =>
    have h1 := h n List.mem_cons_self
    have h2 := ih (fun m hm => h m (List.mem_cons_of_mem _ hm))
    intro c hc
    have hc : c ∈ 60 :: (n ++ 62 :: (X1 ++ 60 :: 47 :: (n ++ 62 :: parts X1 r))) := hc
    simp only [List.mem_cons, List.mem_append, List.not_mem_nil, or_false] at hc
    rcases hc with e | e | e | e | e | e | e | e | e
    · exact hlow c (.inl e)
    · exact hlow c (.inr (.inr (.inr (.inr (h1 c e)))))
    · exact hlow c (.inr (.inl e))
    · exact hlow c (.inr (.inr (.inl e)))
    · exact hlow c (.inl e)
    · exact hlow c (.inr (.inr (.inr (.inl e))))
    · exact hlow c (.inr (.inr (.inr (.inr (h1 c e)))))
    · exact hlow c (.inr (.inl e))
    · exact h2 c e
theorem len_partsK (x : List UInt8) (l : List (List UInt8)) : (partsK x l).length = 3 * l.length := by
  induction l with
  | nil => rfl
  | cons n r ih =>
    show ([tagB n, tx x, tagE n] ++ partsK x r).length = _
    rw [List.length_append, ih]
    simp only [List.length_cons, List.length_nil]
    omega
theorem starts_partsK (x : List UInt8) (l : List (List UInt8)) : starts (partsK x l) = l.length := by
  induction l with
  | nil => rfl
  | cons n r ih =>
    show starts ([tagB n, tx x, tagE n] ++ partsK x r) = _
    rw [starts_append, ih]
    show 1 + 0 + _ = _
    rw [List.length_cons]
    omega
abbrev iL : List UInt8 := [105]
theorem free_i : Free iL := ⟨by decide, by decide, by decide⟩
theorem nm_i : nmOk iL := by
  refine ⟨?_, ?_⟩ <;> decide
theorem soft_i : softOr iL = false := by decide
theorem len_partsR (x : List UInt8) (l : List (List UInt8)) : (partsR x l).length = 2 * l.length := by
  induction l with
  | nil => rfl
  | cons n r ih =>
    show ([rowE 0 n, rowT 1 x] ++ partsR x r).length = _
    rw [List.length_append, ih]
    simp only [List.length_cons, List.length_nil]
    omega
/-- The rows that are wanted. -/
abbrev wantR (l : List (List UInt8)) : List Ro := partsR X1 l ++ [rowE 0 iL]
theorem want_bare (l : List (List UInt8)) : ∀ r ∈ wantR l, r.attrs = [] ∧ (r.depth = 0 ∨ r.depth = 1) := by
  have hp : ∀ r ∈ partsR X1 l, r.attrs = [] ∧ (r.depth = 0 ∨ r.depth = 1) := by
    intro r hr
    obtain ⟨n, _, h⟩ := List.mem_flatMap.1 hr
    rcases List.mem_cons.1 h with rfl | h
    · exact ⟨rfl, .inl rfl⟩
    · rw [List.mem_singleton.1 h]; exact ⟨rfl, .inr rfl⟩
  intro r hr
  rcases List.mem_append.1 hr with h | h
  · exact hp r h
  · rw [List.mem_singleton.1 h]; exact ⟨rfl, .inl rfl⟩
theorem alone_tree (u : List UInt8) (hu : u.length ≤ 100) : treeB ⟨[], []⟩ (within [] (rdy u)) = some (runB ⟨[], []⟩ (cut (rdy u))).out := by
  have h0 : within [] (rdy u) = cut (rdy u) := by
    show (cont [] (rdy u)).1 ++ cut (cont [] (rdy u)).2 = _
    rw [Tm.cont_n (by decide)]
    rfl
  have h1 := asc_cut (rdy u)
  have h2 : asc (rdy u) ≤ u.length := asc_ready u
  have h3 := Tm.within_len [] (rdy u)
  have h4 := len_rdy u
  rw [h0] at h3 ⊢
  exact few_nil (by omega) (by omega)
theorem behind_tree (l : List (List UInt8)) (u : List UInt8) (hu : u.length ≤ 100) (hl : l.length ≤ 20) (h : ∀ n ∈ l, nmOk n ∧ softOr n = false) (hf : ∀ n ∈ l, Free n) (hc : ∀ n ∈ l, ∀ c ∈ n, 97 ≤ c.toNat ∧ c.toNat ≤ 122) :
    treeB ⟨[], []⟩ (within [] (rdy (parts X1 l ++ ([60, 105, 62, 60, 47, 105, 62] ++ u)))) = some (wantR l ++ (runB ⟨[], []⟩ (cut (rdy u))).out) := by
  have hi : Ch.plain [60, 105, 62, 60, 47, 105, 62] := by unfold Ch.plain; decide
  have hr : rdy (parts X1 l ++ ([60, 105, 62, 60, 47, 105, 62] ++ u)) = parts X1 l ++ ([60, 105, 62, 60, 47, 105, 62] ++ rdy u) := by
    unfold rdy
    rw [ready_behind (plain_parts l hc), ready_behind hi]
  have h0 : within [] (parts X1 l ++ ([60, 105, 62, 60, 47, 105, 62] ++ rdy u)) = (partsK X1 l ++ [tagB iL, tagE iL]) ++ cut (rdy u) := by
    show (cont [] _).1 ++ cut (cont [] _).2 = _
    rw [Tm.cont_n (by decide)]
    show cut _ = _
    rw [cut_parts (by simp) (by decide) (by decide) _ l h, List.append_assoc]
    congr 1
    have h1 := cut_start (e := []) (by simp) (by simp) nm_i soft_i (60 :: 47 :: (iL ++ 62 :: rdy u))
    have h2 := cut_stop (e := []) (by simp) (by simp) nm_i (rdy u)
    have h2' : cut (60 :: 47 :: (iL ++ 62 :: rdy u)) = tagE iL :: cut (rdy u) := h2
    rw [h2'] at h1
    exact h1
  have g1 := asc_cut (rdy u)
  have g2 : asc (rdy u) ≤ u.length := asc_ready u
  have g3 := Tm.cut_len (rdy u)
  have g4 := len_rdy u
  rw [hr, h0]
  have hrun : runB ⟨[], []⟩ (partsK X1 l ++ [tagB iL, tagE iL]) = ⟨[], wantR l⟩ := by
    rw [runB_append, run_parts (by simp) l [] hf, runB_cons, Bm.step_begin free_i, runB_cons, Bm.step_end free_i]
    rfl
  refine tree_behind hrun (fun y hy => ?_) ?_ ?_
  · rw [List.getLast?_append] at hy
    have hy : some (rowE 0 iL) = some y := hy
    injection hy with hy
    rw [← hy]
    decide
  · rw [List.length_append, len_partsK]
    show 3 * l.length + 2 + _ ≤ _
    omega
  · rw [starts_append, starts_append, starts_partsK]
    show l.length + (1 + 0) + _ ≤ _
    omega

/-! Walks. -/
set_option maxRecDepth 100000 in
theorem letters_any (s : ByteArray) (w : World) (hs : s.size ≤ 140737488351232) :
    Calls Tryd.prog 28 #[.string s] w fun e w' => ∃ q, e = .returned (.bool q) ∧ (q = true → lettersB s) ∧ w = w' := by
  go_enter Tryd.func28, Tryd.ntmps28
  go_wp2
  go_loop [3] (fun i => ∃ k : Nat, i = .int .i64 k ∧ k ≤ s.size ∧ ∀ c ∈ (L s).take k, 97 ≤ c.toNat ∧ c.toNat ≤ 122) (fun i => s.size - (intOf i).toNat)
  case atStart => exact ⟨0, rfl, Nat.zero_le _, fun c h => by simp at h⟩
  case round =>
    obtain ⟨k, rfl, hk, hn⟩ := hrel
    by_cases hp : k < s.size
    · have hlt : decide ((k : Int) < s.size) = true := decide_eq_true (by omega)
      cases e97 : decide ((s[k].toNat : Int) < 97) with
      | true =>
        clear hn
        go_wp2
        go_ret
        exact .inl ⟨rfl, rfl⟩
      | false =>
      cases e122 : decide ((122 : Int) < (s[k].toNat : Int)) with
      | true =>
        clear hn
        go_wp2
        go_ret
        exact .inl ⟨rfl, rfl⟩
      | false =>
        have hok : ∀ c ∈ (L s).take (k + 1), 97 ≤ c.toNat ∧ c.toNat ≤ 122 := fun c hc => by
          rw [take_snoc s k hp] at hc
          rcases List.mem_append.1 hc with e | e
          · exact hn c e
          · rw [List.mem_singleton.1 e]
            have := of_decide_eq_false e97
            have := of_decide_eq_false e122
            omega
        have HN := Lib.hid hok
        clear hn hok
        go_wp2
        go_round
        case rel => exact ⟨k + 1, by go_num, by omega, HN.out⟩
        case measure => simp [intOf]; omega
    · have hlt : decide ((k : Int) < s.size) = false := decide_eq_false (by omega)
      have HN := Lib.hid (show lettersB s from by rwa [List.take_of_length_le (by rw [size_L]; omega)] at hn)
      clear hn
      go_wp2
      go_ret
      exact .inr ⟨rfl, HN.out, rfl⟩

theorem ap_any {N K : Nat} {w : World} {x : Cw} (h : Fr N w x) : Ro.Ap w K x := fun h0 => by
  obtain ⟨⟨_, h⟩, _⟩ := h
  rcases h with ⟨hv, hn⟩ | ⟨g, cap, cur, hv, hg, hh, _⟩
  · omega
  · injection hv with e1
    exact ⟨g, 0, e1, .inr ⟨_, _, hh⟩⟩
theorem fr_mono {N K : Nat} {w : World} {x : Cw} (h : Fr N w x) (hK : K ≤ N) : Fr K w x := ⟨World.ownsRow.mono h.1 hK, h.2⟩
theorem ow_mono {N K : Nat} {w : World} {v : Value} {l : List Cw} (h : Ow N w v l) (hf : ∀ z ∈ l, Fr N w z) (hK : K ≤ N) : Ow K w v l := h.mono hK fun x hx => ap_any (hf x hx)
/-- What In and Parse come to: rows of the call's own. -/
def SaysO (w : World) (o : List Ro) (e : Ending) (w' : World) : Prop := ∃ v y, e = .returned (.tuple #[v, .int .i64 0]) ∧ Ow w.heap.size w' v y ∧ (∀ z ∈ y, Fr w.heap.size w' z) ∧ ros y = o ∧ Few o ∧ Held o ∧ Below w.heap.size w w'
set_option maxRecDepth 100000 in
set_option maxHeartbeats 1000000 in
theorem InO (s nm : ByteArray) (w : World) (o : List Ro) (hs : s.size ≤ 5000) (hn : nm.size ≤ 140737488351232) (hT : Tab w) (hq : treeB ⟨[], []⟩ (within (L nm) (rdy (L s))) = some o) :
    Calls Tryd.prog 17 #[.string s, .string nm] w fun e w' => SaysO w o e w' := by
  have h : decide ((65536 : Int) < (s.size : Int)) = false := decide_eq_false (by omega)
  have hsz := size_L s
  have hdl := Ch.len_dL (L s)
  have hrl := len_rdy (L s)
  have HT := Lib.hid hT; have HQ := Lib.hid hq
  clear hT hq
  go_enter Tryd.func17, Tryd.ntmps17
  go_wp2_with fail
  refine (ready1 s w hs).mono ?_
  rintro e w1 ⟨rfl, b1⟩
  have hT1 := HT.out.below b1
  have HB1 := Lib.hid b1
  clear b1
  go_wp2_with fail
  refine (To.In_any (B (rdy (L s))) nm w1 (by rw [size_B]; omega) hn hT1).mono ?_
  rintro e w2 ⟨V, l, rfl, ho, hl, b2⟩
  rw [L_B] at hl
  obtain ⟨A, c, rfl, hc, _, _, hr⟩ := ho.form
  have hwl := Tm.within_len (L nm) (rdy (L s))
  have hwb := Tm.bulk_within (L nm) (rdy (L s))
  have hl' : To.tks l = within (L nm) (rdy (L s)) := hl
  have hll : l.length ≤ 200000 := by rw [← To.len_tks, hl']; omega
  have hds : dsum (To.tks l) ≤ 1000000000 := by
    have := dsum_bulk (To.tks l)
    rw [hl'] at this ⊢
    omega
  have hat : ∀ x ∈ l, x.tk.attrs.length ≤ 1000000 := fun x hx => by
    have h1 := Tm.bulk_mem (l := To.tks l) (t := x.tk) (List.mem_map.2 ⟨x, hx, rfl⟩)
    rw [hl'] at h1
    unfold Tm.bulkT at h1
    omega
  have HL := Lib.hid hl'; have HR := Lib.hid hr; have HB2 := Lib.hid (bt HB1.out b2)
  clear hl hl' hr ho b2 hwl hwb hT1 hdl hrl hsz
  go_wp2_with fail
  refine (Tree_any A c l w2 HR.out hc hll hds hat).mono ?_
  intro e w3 h3
  rw [HL.out] at h3
  rcases h3.cases with ⟨ht, rfl, b3⟩ | ⟨o', v, y, ht, rfl, how, hfr, hros, hmi, b3⟩
  · rw [HQ.out] at ht; cases ht
  · have HTR := Lib.hid ht; have HO := Lib.hid how; have HFR := Lib.hid hfr; have HRO := Lib.hid hros; have HB3 := Lib.hid (bt HB2.out b3); have HMI := Lib.hid hmi
    clear ht h3 how hfr hros b3 hmi
    go_wp2
    go_ret2
    have e1 : o' = o := Option.some.inj (HTR.out.symm.trans HQ.out)
    subst e1
    exact ⟨v, y, rfl, ow_mono HO.out HFR.out HB2.out.size, fun z hz => fr_mono (HFR.out z hz) HB2.out.size, HRO.out, HMI.out.1, tree_held HTR.out, HB3.out⟩
theorem ParseO (s : ByteArray) (w : World) (o : List Ro) (hs : s.size ≤ 5000) (hT : Tab w) (hr : treeB ⟨[], []⟩ (within [] (rdy (L s))) = some o) :
    Calls Tryd.prog 23 #[.string s] w fun e w' => SaysO w o e w' := by
  go_enter Tryd.func23, Tryd.ntmps23
  go_wp2_with fail
  refine (InO s _ w o hs (by decide) hT hr).mono ?_
  rintro e w1 ⟨v, y, rfl, h1, h2, h3, h4, h5, h6⟩
  have H := Lib.hid (show SaysO w o _ w1 from ⟨v, y, rfl, h1, h2, h3, h4, h5, h6⟩)
  clear hr h1 h2 h3 h4 h5 h6
  go_wp2
  go_ret2
  exact H.out
theorem fr_grown {N M n : Nat} {w w' : World} {v : Value} {xs : List Value} {y : Cw} (h : w.ownsRow N 31 5 v n xs) (hg : w.grownBy w' v.ownBlock) (hy : Fr M w y) : Fr M w' y := by
  refine ⟨⟨hy.1.1, ?_⟩, hy.2⟩
  rcases hy.1.2 with hn | ⟨g, cap, cur, hv, hg', hh, rest⟩
  · exact .inl hn
  · exact .inr ⟨g, cap, cur, hv, hg', (hg.block g (Array.getElem?_eq_some_iff.1 hh).1 (Ro.block_ne h hh)).trans hh, rest⟩
/-- Rows of another's own stay as they are when some are put behind older ones. -/
theorem aside {N M n : Nat} {w w' : World} {v u : Value} {xs : List Value} {y : List Cw} (h : w.ownsRow N 31 5 v n xs) (hlt : ∀ k, v.ownBlock = some k → k < M) (hg : w.grownBy w' v.ownBlock) (hu : Ow M w u y) (hf : ∀ z ∈ y, Fr M w z) : Ow M w' u y ∧ ∀ z ∈ y, Fr M w' z := by
  refine ⟨⟨⟨hu.1.1, ?_⟩, fun z hz => ⟨(hf z hz).att.grown h hg (ap_any (hf z hz)), ap_any (fr_grown h hg (hf z hz))⟩⟩, fun z hz => fr_grown h hg (hf z hz)⟩
  rcases hu.1.2 with hn | ⟨g, cap, cur, hv, hgM, hh, rest⟩
  · exact .inl hn
  · refine .inr ⟨g, cap, cur, hv, hgM, ?_, rest⟩
    rw [hg.block g (Array.getElem?_eq_some_iff.1 hh).1 (fun e => by have := hlt g e.symm; omega)]
    exact hh
theorem right1 (n : ByteArray) (w : World) (q : Bool) (hs : n.size ≤ 140737488355328) (h : rightB n = q) : Calls Tryd.prog 24 #[.string n] w fun e w' => e = .returned (.bool q) ∧ w = w' := by
  subst h
  exact Na.right_any n w hs
theorem join1 (a b : Value) (x y : List Cw) (w : World) (o : List Ro) (ha : Rv w a x) (hb : Rv w b y) (hx : x.length ≤ 1000000) (hy : y.length ≤ 1000000) (hfx : Few (ros x)) (hfy : Few (ros y)) (ho : ros x ++ ros y = o) (hm : Held o) :
    Calls Tryd.prog 31 #[a, b] w fun e w' => ∃ v z, e = .returned v ∧ Rv w' v z ∧ ros z = o ∧ z.length = x.length + y.length ∧ Below w.heap.size w w' := by
  obtain ⟨A, c, rfl, hc, _, hr, hh⟩ := ha
  obtain ⟨A2, c2, rfl, hc2, _, hr2, hh2⟩ := hb
  refine (Ro.Join_any A A2 c c2 x y w hr hr2 hc hc2 hx hy hfx hfy hh hh2).mono ?_
  rintro e w1 ⟨v, z, rfl, how, _, hz, hb⟩
  refine ⟨v, z, rfl, how.rv (by rw [hz, ho]; exact hm), by rw [hz, ho], ?_, hb⟩
  rw [← Ro.len_ros, hz, List.length_append, Ro.len_ros, Ro.len_ros]

theorem rr_new (w : World) (m : List Ro) (cs : Array Value) (n : Nat) (hn : m.length = n) (hm : n ≤ 1000) (hcs : cs.toList = (m.map bare).flatMap cells) (ha : ∀ r ∈ m, r.attrs = []) :
    Rr (w.alloc (.cells cs 31)) (w.alloc (.cells cs 31)).heap.size (some ⟨w.heap.size, 0, none⟩) (m.map bare) := by
  have ho := rows_new w (m.map bare) cs n (by rw [List.length_map]; exact hn) (by unfold maxLen; omega) hcs (fun y hy => by
    obtain ⟨r, hr, rfl⟩ := List.mem_map.1 hy
    exact ⟨r, rfl, ha r hr⟩)
  obtain ⟨A, c, e, _, _, _, hr⟩ := ho.form
  injection e with e1 e2 e3
  rw [e1]
  exact hr
/-- Rows written down are put behind one's own. -/
theorem app_new {ops : Array Oper} {rest : List Oper} {o : Oper} {a : Act} {Q : Exit → Act → World → Prop} (w : World) (hgd : o.guard = none) (s x : Operand)
    (ho : o.op = .call { callee := .builtin .append, args := #[s, x], argTypes := #[24, 24] })
    (N : Nat) (v : Value) (l : List Cw) (m : List Ro) (cs : Array Value) (n : Nat) (hs : a.eval s = v) (hown : Ow N w v l) (hx : a.eval x = .slice (some ⟨w.heap.size, 0, none⟩) n n) (hn : m.length = n) (hm : n ≤ 1000) (hcs : cs.toList = (m.map bare).flatMap cells) (ha : ∀ r ∈ m, r.attrs = [])
    (hl : l.length ≤ 1000000) (hN : N ≤ w.heap.size)
    (h : ∀ v' w', Ow N w' v' (l ++ m.map bare) → (∀ w0, Below N w0 w → Below N w0 w') → wpList Tryd.prog ops Q rest (a.put o.dst v') w') :
    wpList Tryd.prog ops Q (o :: rest) a (w.alloc (.cells cs 31)) := by
  refine Ro.app_rows (w.alloc (.cells cs 31)) hgd s x ho N v l (m.map bare) (some ⟨w.heap.size, 0, none⟩) n hs (hown.alloc _) (by rw [hx, List.length_map, hn]) (fun e => by cases e) (rr_new w m cs n hn hm hcs ha) (fun y hy => ?_) (by rw [List.length_map, hn]; omega) (by simp; omega) (fun v' w' h1 h2 _ => h v' w' h1 (fun w0 hb => h2 w0 (hb.trans ((Ro.below_new w _).mono hN))))
  obtain ⟨r, hr, rfl⟩ := List.mem_map.1 hy
  exact Ro.bare_ap _ _ (ha r hr)

/-- What the loop keeps. -/
structure Kept (N : Nat) (l : List ByteArray) (k : Nat) (w0 wr : World) (t : ByteArray) (v : Value) (ns : List ByteArray) (y : List Cw) : Prop where
  len : k ≤ l.length
  few : k ≤ 20
  takes : ∀ n ∈ ns, Takes n
  cnt : ns.length ≤ k
  text : L t = parts X1 (ns.map L)
  own : Ow N wr v y
  rows : ros y = partsR X1 (ns.map L)
  below : Below N w0 wr
theorem Kept.next {N : Nat} {l : List ByteArray} {k : Nat} {w0 wr w1 : World} {t : ByteArray} {v : Value} {ns : List ByteArray} {y : List Cw} (h : Kept N l k w0 wr t v ns y) (hN : N = w0.heap.size) (h1 : k < l.length) (h2 : k < 20) (hb : Below wr.heap.size wr w1) : Kept N l (k + 1) w0 w1 t v ns y :=
  ⟨h1, h2, h.takes, Nat.le_succ_of_le h.cnt, h.text, h.own.below hb, h.rows, by subst hN; exact bt h.below hb⟩
theorem Kept.more {N : Nat} {l : List ByteArray} {k : Nat} {w0 wr w1 : World} {t n : ByteArray} {v v1 : Value} {ns : List ByteArray} {y : List Cw} (h : Kept N l k w0 wr t v ns y) (h1 : k < l.length) (h2 : k < 20) (hn : Takes n) (ho : Ow N w1 v1 (y ++ [(rowE 0 (L n)), (rowT 1 X1)].map bare)) (hb : Below N w0 w1) :
    Kept N l (k + 1) w0 w1 (t ++ (⟨#[60]⟩ ++ n ++ ⟨#[62, 120, 60, 47]⟩ ++ n ++ ⟨#[62]⟩)) v1 (ns ++ [n]) (y ++ [(rowE 0 (L n)), (rowT 1 X1)].map bare) := by
  refine ⟨h1, h2, fun m hm => ?_, by rw [List.length_append]; have := h.cnt; simp; omega, ?_, ho, ?_, hb⟩
  · rcases List.mem_append.1 hm with e | e
    · exact h.takes m e
    · rw [List.mem_singleton.1 e]; exact hn
  · rw [List.map_append, List.map_cons, List.map_nil, parts_snoc, ← h.text]
    simp only [L_append]
    show L t ++ ([60] ++ L n ++ [62, 120, 60, 47] ++ L n ++ [62]) = _
    simp
  · rw [show (ns ++ [n]).map L = ns.map L ++ [L n] from by simp, partsR_snoc, ← h.rows]
    unfold ros
    rw [List.map_append]
    rfl

/-- A row written down is put behind one's own: nothing else changes. -/
theorem app_keep {ops : Array Oper} {rest : List Oper} {o : Oper} {a : Act} {Q : Exit → Act → World → Prop} (w : World) (hgd : o.guard = none) (s x : Operand)
    (ho : o.op = .call { callee := .builtin .append, args := #[s, x], argTypes := #[24, 24] })
    (N : Nat) (v : Value) (l : List Cw) (y : Ro) (hs : a.eval s = v) (hown : Ow N w v l) (hy : y.attrs = []) (hx : a.eval x = .slice (some ⟨w.heap.size, 0, none⟩) 1 1)
    (hl : l.length ≤ 1000000) (hN : N ≤ w.heap.size)
    (h : ∀ v' w', Ow N w' v' (l ++ [bare y]) → (∀ w0, Below N w0 w → Below N w0 w') → (w.alloc (Ro.rowO (bare y))).grownBy w' v.ownBlock → wpList Tryd.prog ops Q rest (a.put o.dst v') w') :
    wpList Tryd.prog ops Q (o :: rest) a (w.alloc (Ro.rowO (bare y))) := by
  obtain ⟨i0, hi, hz0, hz1, hz2⟩ := info_parts Ro.info_row
  have hown' : Ow N (w.alloc (Ro.rowO (bare y))) v l := hown.alloc _
  have hsz : (w.alloc (Ro.rowO (bare y))).heap.size = w.heap.size + 1 := by simp
  refine wpList_append_own _ hgd s x 24 ho N 31 i0 _ 5 72 Tryd.underlying24 hi hz0 hz1 hz2 rfl (by decide) v l.length (l.flatMap cells) hs hown'.1 ⟨w.heap.size, 0, none⟩ 1 1 (cells (bare y)) hx rfl (Ro.row_cells_new w (bare y)) (Ro.cells_one (bare y)) (by unfold maxLen; omega) (by omega) (by omega) ?_
  intro v' w' ho2 hg2 _
  have hk : ∀ w0, Below N w0 w → Below N w0 w' := fun w0 hb => (hb.alloc hN _).grown hg2 (by omega) fun k hk => (World.ownsRow.lt hown'.1 k hk).1
  refine h v' w' ⟨?_, ?_⟩ hk hg2
  · rw [List.length_append, List.flatMap_append]
    simpa using ho2
  · intro z hz
    rcases List.mem_append.1 hz with hz | hz
    · exact ⟨(hown'.2 z hz).1.grown hown'.1 hg2 (hown'.2 z hz).2, (hown'.2 z hz).2.grown hown'.1 hg2⟩
    · obtain rfl := List.mem_singleton.1 hz
      have h1 : Ro.Att (w.alloc (Ro.rowO (bare y))) (w.alloc (Ro.rowO (bare y))).heap.size (bare y) := Ro.bare_att _ _ hy
      have h2 : Ro.Ap (w.alloc (Ro.rowO (bare y))) N (bare y) := Ro.bare_ap _ _ hy
      exact ⟨h1.grown hown'.1 hg2 h2, h2.grown hown'.1 hg2⟩

end Go.Proofs.YtoijeljjehjfjaaDoor.Bu

namespace Go.Proofs.YtoijeljjehjfjaaDoor.Bu
set_option maxRecDepth 100000
set_option linter.unusedVariables false
set_option linter.unusedSimpArgs false
open Go.RowKit Ba Fm Fo Nm Bm Sm
open Ro (At Ro Cw ros Fr Ow Rv Rr bare rows_new cells Few Held)
open Tm (Tk within tx txt cut cont nmOk softOr rawB softB)
open Re (Tab)
abbrev litI : ByteArray := ⟨#[60, 105, 62, 60, 47, 105, 62]⟩
theorem el_eq (n : ByteArray) : (⟨0, 0, n, ⟨#[]⟩, []⟩ : Ro) = rowE 0 (L n) := by
  show _ = (⟨0, 0, B (L n), ⟨#[]⟩, []⟩ : Ro)
  rw [B_L]
theorem Kept.facts {N : Nat} {l : List ByteArray} {k : Nat} {w0 wr : World} {t u : ByteArray} {v : Value} {ns : List ByteArray} {y : List Cw} (h : Kept N l k w0 wr t v ns y) (hu : u.size ≤ 100) :
    ∃ oa, treeB ⟨[], []⟩ (within [] (rdy (L u))) = some oa ∧ treeB ⟨[], []⟩ (within [] (rdy (L (t ++ litI ++ u)))) = some (wantR (ns.map L) ++ oa) ∧ (t ++ litI ++ u).size ≤ 5000 ∧ oa.length ≤ 4096 ∧ ((wantR (ns.map L)).length ≤ 100) ∧ Held (wantR (ns.map L) ++ oa) := by
  have hul : (L u).length ≤ 100 := by rw [size_L]; exact hu
  have hn : (ns.map L).length ≤ 20 := by rw [List.length_map]; have := h.cnt; have := h.few; omega
  have h1 := alone_tree (L u) hul
  have h2 := behind_tree (ns.map L) (L u) hul hn (fun n hn => by
    obtain ⟨m, hm, rfl⟩ := List.mem_map.1 hn
    exact (h.takes m hm).name) (fun n hn => by
    obtain ⟨m, hm, rfl⟩ := List.mem_map.1 hn
    exact (h.takes m hm).bm) (fun n hn => by
    obtain ⟨m, hm, rfl⟩ := List.mem_map.1 hn
    exact (h.takes m hm).letters)
  have hL : L (t ++ litI ++ u) = parts X1 (ns.map L) ++ ([60, 105, 62, 60, 47, 105, 62] ++ L u) := by
    rw [L_append, L_append, h.text, List.append_assoc]
  rw [← hL] at h2
  refine ⟨_, h1, h2, ?_, (tree_all h1).2.2.2.1, ?_, tree_held h2⟩
  · have h3 := len_parts (ns.map L) (fun n hn => by
      obtain ⟨m, hm, rfl⟩ := List.mem_map.1 hn
      rw [size_L]
      exact (h.takes m hm).size)
    rw [← size_L, hL, List.length_append, List.length_append]
    show _ + (7 + _) ≤ _
    omega
  · show (partsR X1 (ns.map L) ++ [rowE 0 iL]).length ≤ _
    rw [List.length_append, len_partsR]
    show 2 * (ns.map L).length + 1 ≤ _
    omega
theorem two_bare (n : ByteArray) : ∀ r ∈ [(⟨0, 0, n, ⟨#[]⟩, []⟩ : Ro), rowT 1 X1], r.attrs = [] := fun r hr => by
  rcases List.mem_cons.1 hr with e | hr
  · rw [e]
  · rw [List.mem_singleton.1 hr]
theorem want_few (l : List (List UInt8)) : Few (wantR l) := fun x hx => by rw [(want_bare l x hx).1]; exact Nat.zero_le _

theorem Kept.before {N : Nat} {l : List ByteArray} {k : Nat} {w0 wr : World} {t : ByteArray} {v : Value} {ns : List ByteArray} {y : List Cw} (h : Kept N l k w0 wr t v ns y) : ∀ j, v.ownBlock = some j → j < wr.heap.size := fun j hj => (World.ownsRow.lt h.own.1 j hj).2
theorem Kept.tsize {N : Nat} {l : List ByteArray} {k : Nat} {w0 wr : World} {t : ByteArray} {v : Value} {ns : List ByteArray} {y : List Cw} (h : Kept N l k w0 wr t v ns y) : t.size ≤ 2000 := by
  have h3 := len_parts (ns.map L) (fun n hn => by
    obtain ⟨m, hm, rfl⟩ := List.mem_map.1 hn
    rw [size_L]
    exact (h.takes m hm).size)
  rw [← h.text, size_L, List.length_map] at h3
  have := h.cnt
  have := h.few
  omega
theorem Kept.ylen {N : Nat} {l : List ByteArray} {k : Nat} {w0 wr : World} {t : ByteArray} {v : Value} {ns : List ByteArray} {y : List Cw} (h : Kept N l k w0 wr t v ns y) : y.length ≤ 1000000 := by
  rw [← Ro.len_ros, h.rows, len_partsR, List.length_map]
  have := h.cnt
  have := h.few
  omega
set_option maxRecDepth 100000 in
set_option maxHeartbeats 8000000 in
theorem law_parts (V : Value) (l : List ByteArray) (s : ByteArray) (w : World) (h : Sv w w.heap.size V l) (hml : l.length ≤ maxLen) (hs : s.size ≤ 140737488351232) (hT : Tab w) :
    Calls Tryd.prog 7 #[V, .string s] w fun e w' => e = .returned (.bool true) ∧ Below w.heap.size w w' := by
  obtain ⟨A, c, rfl, hc, hA, hr⟩ := h
  unfold maxLen at hml
  have HT := Lib.hid hT; have HRR := Lib.hid hr
  clear hT hr hA
  go_enter Tryd.func7, Tryd.ntmps7
  go_wp2
  go_loopw [5, 6, 7] (fun ts v i wr => ∃ (k : Nat) (t : ByteArray) (ns : List ByteArray) (y : List Cw), ts = .string t ∧ i = .int .i64 k ∧ Kept w.heap.size l k w wr t v ns y) (fun _ _ i _ => min l.length 20 - (intOf i).toNat)
  case atStart => exact ⟨0, ⟨#[]⟩, [], [], rfl, rfl, ⟨Nat.zero_le _, Nat.zero_le _, (fun n hn => by cases hn), Nat.le_refl _, rfl, Ro.Ow.made w, rfl, below_one w _⟩⟩
  case round =>
    obtain ⟨k, t, ns, y, rfl, rfl, hkept⟩ := hrel
    have hkl := hkept.len
    have hk20 := hkept.few
    have HK := Lib.hid hkept; have HBE := Lib.hid hkept.below
    clear hkept
    by_cases hp : k < l.length
    · by_cases hp2 : k < 20
      · obtain ⟨b, off, rfl, hb, hcell⟩ := (HRR.out.below HBE.out (Nat.le_refl _)) (by omega)
        obtain ⟨n, hn⟩ : ∃ n, l[k] = n := ⟨_, rfl⟩
        have hck : wr.cell? ⟨b, off + k, none⟩ = some (.string n) := by rw [← hn]; exact hcell k hp
        clear hcell hn hb
        have hlt : decide ((k : Int) < (l.length : Int)) = true := decide_eq_true (by omega)
        have hlt2 : decide ((k : Int) < 20) = true := decide_eq_true (by omega)
        have hlt3 : decide (k < l.length) = true := decide_eq_true hp
        cases g40 : decide ((40 : Int) < (n.size : Int)) with
        | true =>
          go_wp2
          go_roundw
          case rel => exact ⟨k + 1, t, ns, y, rfl, by go_num, HK.out.next rfl hp hp2 (Below.refl _ _)⟩
          case measure => simp [intOf]; omega
        | false =>
        have zn : n.size ≤ 40 := by have := of_decide_eq_false g40; omega
        obtain ⟨q1, hq1⟩ : ∃ q, rightB n = q := ⟨_, rfl⟩
        go_wp2_with fail
        refine (right1 n wr q1 (by omega) hq1).mono ?_
        rintro e w1 ⟨rfl, rfl⟩
        cases q1 with
        | false =>
          go_wp2
          go_roundw
          case rel => exact ⟨k + 1, t, ns, y, rfl, by go_num, HK.out.next rfl hp hp2 (Below.refl _ _)⟩
          case measure => simp [intOf]; omega
        | true =>
        have HQ1 := Lib.hid (show n ≠ ⟨#[]⟩ from fun e => by rw [e, Na.rightB_nil rfl] at hq1; cases hq1)
        clear hq1
        have HBB := Lib.hid (Below.refl wr.heap.size wr)
        obtain ⟨q2, hq2⟩ : ∃ q, isIn n voidL = q := ⟨_, rfl⟩
        go_wp2_with fail
        refine (void1 n _ q2 hq2).mono ?_
        rintro e x1 ⟨rfl, b⟩
        replace HBB := Lib.hid (bt HBB.out b)
        clear b
        cases q2 with
        | true =>
          go_wp2
          go_roundw
          case rel => exact ⟨k + 1, t, ns, y, rfl, by go_num, HK.out.next rfl hp hp2 HBB.out⟩
          case measure => simp [intOf]; omega
        | false =>
        have HF0 := Lib.hid hq2
        clear hq2
        obtain ⟨q3, hq3⟩ : ∃ q, isIn n rawL = q := ⟨_, rfl⟩
        go_wp2_with fail
        refine (To.raw1 n _ q3 hq3).mono ?_
        rintro e x2 ⟨rfl, b⟩
        replace HBB := Lib.hid (bt HBB.out b)
        clear b
        cases q3 with
        | true =>
          go_wp2
          go_roundw
          case rel => exact ⟨k + 1, t, ns, y, rfl, by go_num, HK.out.next rfl hp hp2 HBB.out⟩
          case measure => simp [intOf]; omega
        | false =>
        have HF1 := Lib.hid hq3
        clear hq3
        obtain ⟨q4, hq4⟩ : ∃ q, isIn n softL = q := ⟨_, rfl⟩
        go_wp2_with fail
        refine (To.soft1 n _ q4 hq4).mono ?_
        rintro e x3 ⟨rfl, b⟩
        replace HBB := Lib.hid (bt HBB.out b)
        clear b
        cases q4 with
        | true =>
          go_wp2
          go_roundw
          case rel => exact ⟨k + 1, t, ns, y, rfl, by go_num, HK.out.next rfl hp hp2 HBB.out⟩
          case measure => simp [intOf]; omega
        | false =>
        have HF2 := Lib.hid hq4
        clear hq4
        obtain ⟨q5, hq5⟩ : ∃ q, isIn n goneL = q := ⟨_, rfl⟩
        go_wp2_with fail
        refine (gone1 n _ q5 hq5).mono ?_
        rintro e x4 ⟨rfl, b⟩
        replace HBB := Lib.hid (bt HBB.out b)
        clear b
        cases q5 with
        | true =>
          go_wp2
          go_roundw
          case rel => exact ⟨k + 1, t, ns, y, rfl, by go_num, HK.out.next rfl hp hp2 HBB.out⟩
          case measure => simp [intOf]; omega
        | false =>
        have HF3 := Lib.hid hq5
        clear hq5
        go_wp2_with fail
        refine (Na.closes_any n x4).mono ?_
        rintro e x5 ⟨vc, rfl, hvc, b⟩
        replace HBB := Lib.hid (bt HBB.out b)
        obtain ⟨Ac, cc, rfl, _, _, _⟩ := Sown.form hvc
        obtain ⟨lc, hlc⟩ : ∃ lc, (closesL n).length = lc := ⟨_, rfl⟩
        rw [hlc]
        clear b hvc
        cases gc : decide ((0 : Int) < (lc : Int)) with
        | true =>
          have gc2 : decide (0 < lc) = true := decide_eq_true (by have := of_decide_eq_true gc; omega)
          go_wp2
          go_roundw
          case rel => exact ⟨k + 1, t, ns, y, rfl, by go_num, HK.out.next rfl hp hp2 HBB.out⟩
          case measure => simp [intOf]; omega
        | false =>
        have gc2 : decide (0 < lc) = false := decide_eq_false (by have := of_decide_eq_false gc; omega)
        have HFC := Lib.hid (show closesL n = [] from List.eq_nil_of_length_eq_zero (by have := of_decide_eq_false gc; omega))
        clear hlc
        go_wp2_with fail
        refine (letters_any n x5 (by omega)).mono ?_
        rintro e x6 ⟨q, rfl, hq, rfl⟩
        clear gc gc2
        cases q with
        | false =>
          clear hq
          go_wp2
          go_roundw
          case rel => exact ⟨k + 1, t, ns, y, rfl, by go_num, HK.out.next rfl hp hp2 HBB.out⟩
          case measure => simp [intOf]; omega
        | true =>
        have HTK := Lib.hid (show Takes n from ⟨zn, HQ1.out, HF0.out, HF1.out, HF2.out, HF3.out, HFC.out, hq rfl⟩)
        clear hq
        have zt : t.size ≤ 2000 := HK.out.tsize
        go_wp2_with fail
        refine (el_any _ _ x5).mono ?_
        rintro e x7 ⟨rfl, b⟩
        replace HBB := Lib.hid (bt HBB.out b)
        clear b
        go_wp2_with fail
        refine (text_any _ _ x7).mono ?_
        rintro e x8 ⟨rfl, b⟩
        replace HBB := Lib.hid (bt HBB.out b)
        clear b
        have HOW8 := Lib.hid (HK.out.own.below HBB.out)
        have HBW := Lib.hid (bt HK.out.below HBB.out)
        have HYL := Lib.hid (show y.length ≤ 1000000 from HK.out.ylen)
        go_wp2_with (at_builtin; refine app_new x8 rfl (.tmp 71) (.tmp 75) rfl w.heap.size _ y [⟨0, 0, n, ⟨#[]⟩, []⟩, rowT 1 X1] _ 2 rfl HOW8.out rfl rfl (by decide) rfl (two_bare n) HYL.out HBW.out.size ?_; intro v9 w9 hown9 hk9)
        rw [el_eq n] at hown9
        have HNX := Lib.hid (HK.out.more hp hp2 HTK.out hown9 (hk9 w HBW.out))
        clear hown9 hk9
        go_wp2
        go_roundw
        case rel => exact ⟨k + 1, _, ns ++ [n], _, rfl, by go_num, HNX.out⟩
        case measure => simp [intOf]; omega
      · have hlt : decide ((k : Int) < (l.length : Int)) = true := decide_eq_true (by omega)
        have hlt3 : decide (k < l.length) = true := decide_eq_true hp
        have hlt2 : decide ((k : Int) < 20) = false := decide_eq_false (by omega)
        have hlt4 : decide (k < 20) = false := decide_eq_false (by omega)
        have hwr := HK.out.below
        obtain ⟨k1, hk1, hk2, -, hmin⟩ := min_any s.size 100 100 rfl wr
        obtain ⟨u, hu⟩ : ∃ u, s.extract 0 k1 = u := ⟨_, rfl⟩
        have hus : u.size ≤ 100 := by rw [← hu, size_take s k1 hk1]; exact hk2
        obtain ⟨oa, pa, pb, ps, pl, pw, ph⟩ := HK.out.facts hus
        have HU := Lib.hid hu; have HUS := Lib.hid hus; have HPA := Lib.hid pa; have HPB := Lib.hid pb; have HPS := Lib.hid ps; have HPL := Lib.hid pl; have HPW := Lib.hid pw; have HPH := Lib.hid ph; have HWR := Lib.hid hwr
        clear hu hus pa pb ps pl pw ph hwr
        go_wp2_with fail
        rw [HU.out]
        clear hmin HU hk1 hk2
        refine (ParseO u wr oa (by have := HUS.out; omega) (HT.out.below HWR.out) HPA.out).mono ?_
        rintro e w1 ⟨va, ya, rfl, hva, hfa, hya, hea, -, b1⟩
        have HVA := Lib.hid hva; have HFA := Lib.hid hfa; have HYA := Lib.hid hya; have HEA := Lib.hid hea; have HB1 := Lib.hid b1
        clear hva hfa hya hea b1
        have zt : t.size ≤ 2000 := HK.out.tsize
        have zu : u.size ≤ 100 := HUS.out
        go_wp2_with fail
        refine (ParseO _ w1 _ HPS.out (HT.out.below (bt HWR.out HB1.out)) HPB.out).mono ?_
        rintro e w2 ⟨vb, yb, rfl, hvb, hfb, hyb, -, -, b2⟩
        have HVB := Lib.hid (ow_mono hvb hfb HB1.out.size); have HFB := Lib.hid (fun z hz => fr_mono (hfb z hz) HB1.out.size); have HYB := Lib.hid hyb; have HB2 := Lib.hid (bt HB1.out b2)
        have HVA2 := Lib.hid (HVA.out.below b2); have HFA2 := Lib.hid (fun z hz => (HFA.out z hz).below b2)
        clear hvb hfb hyb b2 HVA HFA HB1
        go_wp2_with fail
        refine (el_any _ _ w2).mono ?_
        rintro e w3 ⟨rfl, b3⟩
        have HB3 := Lib.hid (bt HB2.out b3)
        have HVA3 := Lib.hid ((HVA2.out.below b3).alloc (Ro.rowO (bare (rowE 0 iL)))); have HFA3 := Lib.hid (fun z hz => ((HFA2.out z hz).below b3).below (Ro.below_new w3 (Ro.rowO (bare (rowE 0 iL)))))
        have HVB3 := Lib.hid ((HVB.out.below b3).alloc (Ro.rowO (bare (rowE 0 iL)))); have HFB3 := Lib.hid (fun z hz => ((HFB.out z hz).below b3).below (Ro.below_new w3 (Ro.rowO (bare (rowE 0 iL)))))
        have HOW3 := Lib.hid (HK.out.own.below HB3.out)
        have HYL := Lib.hid (show y.length ≤ 1000000 from by
          have h1 := HPW.out
          have h2 := Ro.len_ros y
          rw [HK.out.rows] at h2
          have h3 : (wantR (ns.map L)).length = (partsR X1 (ns.map L)).length + 1 := by show (partsR X1 (ns.map L) ++ [rowE 0 iL]).length = _; rw [List.length_append]; rfl
          omega)
        clear b3 HVA2 HFA2 HVB HFB HB2
        go_wp2_with (at_builtin; refine app_keep w3 rfl (.tmp 95) (.tmp 97) rfl w.heap.size _ y (rowE 0 iL) rfl HOW3.out rfl rfl HYL.out (bt HWR.out HB3.out).size ?_; intro v4 w4 hown4 hk4 hg4)
        have hlt4 := HK.out.before
        obtain ⟨hA4, hFA4⟩ := aside (HOW3.out.alloc (Ro.rowO (bare (rowE 0 iL)))).1 hlt4 hg4 HVA3.out HFA3.out
        obtain ⟨hB4, hFB4⟩ := aside (HOW3.out.alloc (Ro.rowO (bare (rowE 0 iL)))).1 hlt4 hg4 HVB3.out HFB3.out
        have hHA : Held (ros ya) := by rw [HYA.out]; exact fun x hx => HPH.out x (List.mem_append_right _ hx)
        have hHB : Held (ros yb) := by rw [HYB.out]; exact HPH.out
        have hwe : ros (y ++ [bare (rowE 0 iL)]) = wantR (ns.map L) := by
          unfold ros
          rw [List.map_append]
          show ros y ++ [rowE 0 iL] = _
          rw [HK.out.rows]
        have hHW : Held (ros (y ++ [bare (rowE 0 iL)])) := by rw [hwe]; exact fun x hx => HPH.out x (List.mem_append_left _ hx)
        have HRA := Lib.hid (hA4.rv hHA); have HRB := Lib.hid (hB4.rv hHB); have HRW := Lib.hid (hown4.rv hHW); have HWE := Lib.hid hwe
        have HB4 := Lib.hid (hk4 w (bt HWR.out HB3.out))
        have HLA := Lib.hid (show ya.length ≤ 4096 from by rw [← Ro.len_ros, HYA.out]; exact HPL.out)
        have HLW := Lib.hid (show (y ++ [bare (rowE 0 iL)]).length ≤ 100 from by rw [← Ro.len_ros, HWE.out]; exact HPW.out)
        have HLB := Lib.hid (show yb.length ≤ 5000 from by rw [← Ro.len_ros, HYB.out, List.length_append]; have := HPL.out; have := HPW.out; omega)
        clear hlt4 hA4 hFA4 hB4 hFB4 hHA hHB hwe hHW hown4 hk4 hg4 HVA3 HFA3 HVB3 HFB3 HOW3
        go_wp2_with fail
        refine (join1 _ _ (y ++ [bare (rowE 0 iL)]) ya w4 (wantR (ns.map L) ++ oa) HRW.out HRA.out (by have := HLW.out; omega) (by have := HLA.out; omega) (by rw [HWE.out]; exact want_few _) (by rw [HYA.out]; exact HEA.out) (by rw [HWE.out, HYA.out]) HPH.out).mono ?_
        rintro e w5 ⟨vj, z, rfl, hvj, hz, hzl, b5⟩
        have HVJ := Lib.hid hvj; have HZ := Lib.hid hz; have HZL := Lib.hid hzl; have HB5 := Lib.hid (HB4.out.trans (b5.mono HB4.out.size)); have HRB5 := Lib.hid (HRB.out.below b5)
        clear hvj hz hzl b5
        go_wp2_with fail
        refine (Ro.refSame1 vb vj yb z w5 true HRB5.out HVJ.out (by have := HLB.out; omega) (by have := HZL.out; have := HLW.out; have := HLA.out; omega) (by rw [HYB.out, HZ.out]; simp)).mono ?_
        rintro e w6 ⟨rfl, b6⟩
        have HB6 := Lib.hid (bt HB5.out b6)
        clear b6
        go_wp2_with fail
        refine (fixed_any w6 (HT.out.below HB6.out)).mono ?_
        rintro e w7 ⟨rfl, b7⟩
        have HB7 := Lib.hid (bt HB6.out b7)
        clear b7
        go_wp2
        go_ret
        exact ⟨rfl, HB7.out⟩
    · have hlt : decide ((k : Int) < (l.length : Int)) = false := decide_eq_false (by omega)
      have hlt3 : decide (k < l.length) = false := decide_eq_false hp
      have hwr := HK.out.below
      obtain ⟨k1, hk1, hk2, -, hmin⟩ := min_any s.size 100 100 rfl wr
      obtain ⟨u, hu⟩ : ∃ u, s.extract 0 k1 = u := ⟨_, rfl⟩
      have hus : u.size ≤ 100 := by rw [← hu, size_take s k1 hk1]; exact hk2
      obtain ⟨oa, pa, pb, ps, pl, pw, ph⟩ := HK.out.facts hus
      have HU := Lib.hid hu; have HUS := Lib.hid hus; have HPA := Lib.hid pa; have HPB := Lib.hid pb; have HPS := Lib.hid ps; have HPL := Lib.hid pl; have HPW := Lib.hid pw; have HPH := Lib.hid ph; have HWR := Lib.hid hwr
      clear hu hus pa pb ps pl pw ph hwr
      go_wp2_with fail
      rw [HU.out]
      clear hmin HU hk1 hk2
      refine (ParseO u wr oa (by have := HUS.out; omega) (HT.out.below HWR.out) HPA.out).mono ?_
      rintro e w1 ⟨va, ya, rfl, hva, hfa, hya, hea, -, b1⟩
      have HVA := Lib.hid hva; have HFA := Lib.hid hfa; have HYA := Lib.hid hya; have HEA := Lib.hid hea; have HB1 := Lib.hid b1
      clear hva hfa hya hea b1
      have zt : t.size ≤ 2000 := HK.out.tsize
      have zu : u.size ≤ 100 := HUS.out
      go_wp2_with fail
      refine (ParseO _ w1 _ HPS.out (HT.out.below (bt HWR.out HB1.out)) HPB.out).mono ?_
      rintro e w2 ⟨vb, yb, rfl, hvb, hfb, hyb, -, -, b2⟩
      have HVB := Lib.hid (ow_mono hvb hfb HB1.out.size); have HFB := Lib.hid (fun z hz => fr_mono (hfb z hz) HB1.out.size); have HYB := Lib.hid hyb; have HB2 := Lib.hid (bt HB1.out b2)
      have HVA2 := Lib.hid (HVA.out.below b2); have HFA2 := Lib.hid (fun z hz => (HFA.out z hz).below b2)
      clear hvb hfb hyb b2 HVA HFA HB1
      go_wp2_with fail
      refine (el_any _ _ w2).mono ?_
      rintro e w3 ⟨rfl, b3⟩
      have HB3 := Lib.hid (bt HB2.out b3)
      have HVA3 := Lib.hid ((HVA2.out.below b3).alloc (Ro.rowO (bare (rowE 0 iL)))); have HFA3 := Lib.hid (fun z hz => ((HFA2.out z hz).below b3).below (Ro.below_new w3 (Ro.rowO (bare (rowE 0 iL)))))
      have HVB3 := Lib.hid ((HVB.out.below b3).alloc (Ro.rowO (bare (rowE 0 iL)))); have HFB3 := Lib.hid (fun z hz => ((HFB.out z hz).below b3).below (Ro.below_new w3 (Ro.rowO (bare (rowE 0 iL)))))
      have HOW3 := Lib.hid (HK.out.own.below HB3.out)
      have HYL := Lib.hid (show y.length ≤ 1000000 from by
        have h1 := HPW.out
        have h2 := Ro.len_ros y
        rw [HK.out.rows] at h2
        have h3 : (wantR (ns.map L)).length = (partsR X1 (ns.map L)).length + 1 := by show (partsR X1 (ns.map L) ++ [rowE 0 iL]).length = _; rw [List.length_append]; rfl
        omega)
      clear b3 HVA2 HFA2 HVB HFB HB2
      go_wp2_with (at_builtin; refine app_keep w3 rfl (.tmp 95) (.tmp 97) rfl w.heap.size _ y (rowE 0 iL) rfl HOW3.out rfl rfl HYL.out (bt HWR.out HB3.out).size ?_; intro v4 w4 hown4 hk4 hg4)
      have hlt4 := HK.out.before
      obtain ⟨hA4, hFA4⟩ := aside (HOW3.out.alloc (Ro.rowO (bare (rowE 0 iL)))).1 hlt4 hg4 HVA3.out HFA3.out
      obtain ⟨hB4, hFB4⟩ := aside (HOW3.out.alloc (Ro.rowO (bare (rowE 0 iL)))).1 hlt4 hg4 HVB3.out HFB3.out
      have hHA : Held (ros ya) := by rw [HYA.out]; exact fun x hx => HPH.out x (List.mem_append_right _ hx)
      have hHB : Held (ros yb) := by rw [HYB.out]; exact HPH.out
      have hwe : ros (y ++ [bare (rowE 0 iL)]) = wantR (ns.map L) := by
        unfold ros
        rw [List.map_append]
        show ros y ++ [rowE 0 iL] = _
        rw [HK.out.rows]
      have hHW : Held (ros (y ++ [bare (rowE 0 iL)])) := by rw [hwe]; exact fun x hx => HPH.out x (List.mem_append_left _ hx)
      have HRA := Lib.hid (hA4.rv hHA); have HRB := Lib.hid (hB4.rv hHB); have HRW := Lib.hid (hown4.rv hHW); have HWE := Lib.hid hwe
      have HB4 := Lib.hid (hk4 w (bt HWR.out HB3.out))
      have HLA := Lib.hid (show ya.length ≤ 4096 from by rw [← Ro.len_ros, HYA.out]; exact HPL.out)
      have HLW := Lib.hid (show (y ++ [bare (rowE 0 iL)]).length ≤ 100 from by rw [← Ro.len_ros, HWE.out]; exact HPW.out)
      have HLB := Lib.hid (show yb.length ≤ 5000 from by rw [← Ro.len_ros, HYB.out, List.length_append]; have := HPL.out; have := HPW.out; omega)
      clear hlt4 hA4 hFA4 hB4 hFB4 hHA hHB hwe hHW hown4 hk4 hg4 HVA3 HFA3 HVB3 HFB3 HOW3
      go_wp2_with fail
      refine (join1 _ _ (y ++ [bare (rowE 0 iL)]) ya w4 (wantR (ns.map L) ++ oa) HRW.out HRA.out (by have := HLW.out; omega) (by have := HLA.out; omega) (by rw [HWE.out]; exact want_few _) (by rw [HYA.out]; exact HEA.out) (by rw [HWE.out, HYA.out]) HPH.out).mono ?_
      rintro e w5 ⟨vj, z, rfl, hvj, hz, hzl, b5⟩
      have HVJ := Lib.hid hvj; have HZ := Lib.hid hz; have HZL := Lib.hid hzl; have HB5 := Lib.hid (HB4.out.trans (b5.mono HB4.out.size)); have HRB5 := Lib.hid (HRB.out.below b5)
      clear hvj hz hzl b5
      go_wp2_with fail
      refine (Ro.refSame1 vb vj yb z w5 true HRB5.out HVJ.out (by have := HLB.out; omega) (by have := HZL.out; have := HLW.out; have := HLA.out; omega) (by rw [HYB.out, HZ.out]; simp)).mono ?_
      rintro e w6 ⟨rfl, b6⟩
      have HB6 := Lib.hid (bt HB5.out b6)
      clear b6
      go_wp2_with fail
      refine (fixed_any w6 (HT.out.below HB6.out)).mono ?_
      rintro e w7 ⟨rfl, b7⟩
      have HB7 := Lib.hid (bt HB6.out b7)
      clear b7
      go_wp2
      go_ret
      exact ⟨rfl, HB7.out⟩

end Go.Proofs.YtoijeljjehjfjaaDoor.Bu

namespace Go.Proofs.YtoijeljjehjfjaaDoor.Fo
set_option maxRecDepth 100000
set_option linter.unusedSimpArgs false
set_option linter.unusedVariables false
open Go.RowKit Ba Go.ChangeShapes Go.WideShapes Go.ChangeAt
theorem cells_str : Tryd.prog.cellsOf 9 = 1 := by kernel_rfl
theorem laidOut : laidOutB Tryd.prog = true := by kernel_rfl

theorem open_sv {H : Type} {enc : TypeId × Value → H} {W : World} {base : Nat} {v : Value} {d : DataW H} {p : List MemPlace} (hv : Value.okWide Tryd.prog W .any base 36 v)
    (h : ∃ fuel, DataW.trod enc Tryd.prog W 0 (fun _ => true) true fuel 36 v.cells.toList = some (d, p)) (hlt : ∀ x ∈ p, x.block < W.heap.size) : ∃ l, Sv W W.heap.size v l ∧ l.length ≤ maxLen := by
  obtain ⟨a0, len, cap, rfl⟩ := okWide_slice Tryd.underlying36 hv
  obtain ⟨fuel, hf⟩ := h
  rcases open_strings Tryd.underlying36 Tryd.underlying9 cells_str hf with ⟨hcs, hx⟩ | ⟨a, len', cap', ss, hcs, _, hl, hm, hz, hx, hcell, hws⟩
  · simp [Value.cells] at hcs
    obtain ⟨rfl, rfl, rfl⟩ := hcs
    exact ⟨[], ⟨none, 0, rfl, Nat.le_refl _, fun _ => rfl, Rd.nil _ _ _⟩, Nat.zero_le _⟩
  · simp [Value.cells] at hcs
    obtain ⟨rfl, rfl, rfl⟩ := hcs
    simp only [Prod.mk.injEq] at hx
    obtain ⟨rfl, rfl⟩ := hx
    simp only [if_true] at hz
    have hlen : (ss.take len).length = len := by rw [List.length_take]; omega
    refine ⟨ss.take len, ⟨some a, cap, by rw [hlen], by rw [hlen]; exact hl, (fun e => by cases e), fun h0 => ?_⟩, by rw [hlen]; omega⟩
    rw [hlen] at h0
    obtain ⟨b, off, spot⟩ := a
    have hspot : spot = none := by simpa [Addr.add] using World.cell?_spot (hcell 0 (by omega))
    subst hspot
    have hbW : b < W.heap.size := hlt (.cell b off) (MemPlace.mem_row.2 ⟨0, by omega, by simp⟩)
    refine ⟨b, off, rfl, hbW, fun j hj => ?_⟩
    rw [hlen] at hj
    have := hcell j (by omega)
    rw [add_plain] at this
    rw [this, List.getElem_take]
    congr 2
    rw [List.getD_eq_getElem?_getD, List.getElem?_eq_getElem (by omega)]
    rfl

end Go.Proofs.YtoijeljjehjfjaaDoor.Fo
