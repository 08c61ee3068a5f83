/-
  Stage 7: BuildNested: whether an element may stand within others is as the document says.
  Tokens that are written, and cut again: lists of tokens as a document can have them (Good), what they come back as (fin).
  What each token has, in plain words.
  What a list of tokens, written, is cut as; the tokens of any document are such a list.
  Stage 7, in plain words: bytes of tags that close nothing, as tokens and as trees; nothing of the program.
  Stage 7, in plain words: text alone, within an element that has text alone, and behind one that is open; many elements; nothing of the program.
  Stage 7, in plain words: a tag that begins has three bytes at least, so few bytes are few elements; nothing of the program.
  Small laws for the statements' own texts: min of a length, a mask of an int, a cut's size. For every stage from 5 on.
  Stage 7: BuildIn: within an element that has text alone what does not end it is one text. BuildBig: what is too much is refused.
  Stage 7: BuildRight: whatever bytes: right, normal, nested trees.
-/
import Derived.Test.YtoijeljjehjfjaaDoorCk09
import Derived.Test.YtoijeljjehjfjaaDoorCk08
import Derived.Test.YtoijeljjehjfjaaDoorCk02
import Derived.Test.YtoijeljjehjfjaaDoorCk01
import Derived.Deep.OwnRows
namespace Go.Proofs.YtoijeljjehjfjaaDoor.Bu
set_option maxRecDepth 100000
set_option linter.unusedVariables false
set_option linter.unusedSimpArgs false
open Go.RowKit Ba Fm Fo Nm Bm
open Re (Tab)
set_option maxRecDepth 100000 in
set_option maxHeartbeats 2000000 in
theorem law_nested (n : ByteArray) (V : Value) (l : List ByteArray) (w : World) (h : Sv w w.heap.size V l) (hml : l.length ≤ maxLen) (hT : Tab w) :
    Calls Tryd.prog 4 #[.string n, V] w fun e w' => e = .returned (.bool true) ∧ Below w.heap.size w w' := by
  obtain ⟨A, c, rfl, hc, hA, hr⟩ := h
  unfold maxLen at hml
  obtain ⟨m, hm⟩ : ∃ m, min l.length 40 = m := ⟨_, rfl⟩
  have hm1 : m ≤ l.length := by omega
  have hm30 : m ≤ 40 := by omega
  have hs := sv_take hc hA hr hm1
  obtain ⟨o, ho⟩ : ∃ o, l.take m = o := ⟨_, rfl⟩
  have hol : o.length = m := by rw [← ho, List.length_take]; omega
  rw [ho] at hs
  have hmc : (m : Int) ≤ (c : Int) := by omega
  have hm0 : (0 : Int) ≤ (m : Int) := by omega
  obtain ⟨q, hq⟩ : ∃ q, nestedB n o = q := ⟨_, rfl⟩
  have HT := Lib.hid hT; have HS := Lib.hid hs; have HQ := Lib.hid hq; have HOL := Lib.hid hol; have HM := Lib.hid hm
  clear hT hs hr ho hol hq hm
  go_enter Tryd.func4, Tryd.ntmps4
  go_upto_region 1 with (fail)
  go_cut [1] from 5 to 9 (fun s1 wx => s1 = .slice A m c ∧ wx = w)
  case first =>
    go_wp2
    all_goals go_meet
    all_goals exact ⟨by rw [← HM.out]; congr 1; omega, rfl⟩
  case rest =>
  obtain ⟨rfl, rfl⟩ := hcut
  rename World => w0
  have hm100 : o.length ≤ 1000000 := by rw [HOL.out]; omega
  go_wp2_with fail
  refine (fixed_any w0 HT.out).mono ?_
  rintro e w1 ⟨rfl, b1⟩
  have HB1 := Lib.hid b1
  clear b1
  go_wp2_with fail
  refine (nested_any n _ o w1 hm100 (Sv.up HS.out HB1.out) q HQ.out).mono ?_
  rintro e w2 ⟨rfl, b2⟩
  have HB2 := Lib.hid (bt HB1.out b2)
  clear b2
  go_wp2_with fail
  refine (refNested_any n _ o w2 hm100 (Sv.up HS.out HB2.out) q HQ.out).mono ?_
  rintro e w3 ⟨rfl, b3⟩
  have HB3 := Lib.hid (bt HB2.out b3)
  clear b3
  cases q with
  | true =>
    go_wp2
    go_ret
    exact ⟨rfl, HB3.out⟩
  | false =>
    go_wp2
    go_ret
    exact ⟨rfl, HB3.out⟩

end Go.Proofs.YtoijeljjehjfjaaDoor.Bu

namespace Go.Proofs.YtoijeljjehjfjaaDoor.Tm
set_option linter.unusedVariables false
set_option linter.unusedSimpArgs false
open Ba Fm Rm Nm
open Ro (At)
theorem dec_esc_app (q : Bool) (l x : List UInt8) : dec (esc q l ++ x) = l ++ dec x := by
  refine writes q (Q := fun l => dec (esc q l ++ x) = l ++ dec x) (by rw [esc_nil]; rfl) (fun r ih => ?_) (fun c r hc ih => ?_) l
  · rw [esc_nbsp, List.append_assoc]
    refine (dec_ref (b := [110, 98, 115, 112]) (t := [194, 160]) (esc q r ++ x) (by decide) (by decide)).trans ?_
    rw [ih]; rfl
  · rw [esc_byte q hc, List.append_assoc]
    unfold e1
    split
    · rename_i e; subst e
      refine (dec_ref (b := [97, 109, 112]) (t := [38]) (esc q r ++ x) (by decide) (by decide)).trans ?_
      rw [ih]; rfl
    split
    · rename_i e; subst e
      refine (dec_ref (b := [108, 116]) (t := [60]) (esc q r ++ x) (by decide) (by decide)).trans ?_
      rw [ih]; rfl
    split
    · rename_i e; subst e
      refine (dec_ref (b := [103, 116]) (t := [62]) (esc q r ++ x) (by decide) (by decide)).trans ?_
      rw [ih]; rfl
    split
    · rename_i e; obtain ⟨rfl, _⟩ := e
      refine (dec_ref (b := [113, 117, 111, 116]) (t := [34]) (esc q r ++ x) (by decide) (by decide)).trans ?_
      rw [ih]; rfl
    · rename_i h _ _ _
      refine (dec_byte (esc q r ++ x) h).trans ?_
      rw [ih]; rfl

/-- A tag's name, as it is cut. -/
def nmOk (n : List UInt8) : Prop := by1 lr n = true ∧ ∀ c ∈ n, en c = false ∧ low c = c
theorem nm_low {n : List UInt8} (h : ∀ c ∈ n, low c = c) : lowL n = n := by
  unfold lowL
  exact (List.map_congr_left h).trans (List.map_id _)
/-- An attribute's name, as it is cut. -/
def aOk (a : At) : Prop := ∃ c t, L a.name = c :: t ∧ c ≠ 62 ∧ c ≠ 47 ∧ sp c = false ∧ low c = c ∧ ∀ x ∈ t, ea x = false ∧ low x = x
def asOk (l : List At) : Prop := (∀ a ∈ l, aOk a) ∧ l.Pairwise fun a b => a.name ≠ b.name
theorem at_back {a : At} {c : UInt8} {t r : List UInt8} (hn : L a.name = c :: t) (hc : low c = c) (ht : ∀ x ∈ t, ea x = false ∧ low x = x) :
    attr c (t ++ 61 :: 34 :: (esc true (L a.value) ++ 34 :: r)) = (a, r) := by
  obtain ⟨u1, u2⟩ := upTo_stop (q := ea) (s := t) (c := 61) (r := 34 :: (esc true (L a.value) ++ 34 :: r)) (fun x hx => (ht x hx).1) (by decide)
  have hv : valued (61 :: 34 :: (esc true (L a.value) ++ 34 :: r)) = (L a.value, r) := by
    obtain ⟨v1, v2⟩ := upTo_stop (q := is 34) (s := esc true (L a.value)) (c := 34) (r := r) (fun x hx => by
      unfold is
      rw [beq_eq_false_iff_ne]
      intro e
      rw [e] at hx
      exact (esc_free true (L a.value)).2.2 rfl hx) (by decide)
    unfold valued
    rw [if_pos (by rfl)]
    have hval : value (trimS (34 :: (esc true (L a.value) ++ 34 :: r))) = (esc true (L a.value), r) := by
      rw [trimS_no _ (by decide)]
      unfold value
      rw [if_pos (by rfl)]
      show quo 34 (esc true (L a.value) ++ 34 :: r) = _
      unfold quo
      rw [v1, v2]
      rfl
    show (dec (value (trimS (34 :: (esc true (L a.value) ++ 34 :: r)))).1, (value (trimS (34 :: (esc true (L a.value) ++ 34 :: r)))).2) = _
    rw [hval]
    show (dec (esc true (L a.value)), r) = _
    rw [dec_esc]
  rw [To.attr_eq, u1, u2, trimS_no _ (by decide), hv]
  have hl : lowL (c :: t) = c :: t := nm_low (fun x hx => by
    rcases List.mem_cons.1 hx with e | e
    · rw [e]; exact hc
    · exact (ht x e).2)
  rw [hl, ← hn, B_L, B_L]
theorem put_new {acc : List At} {a : At} (h : ∀ b ∈ acc, b.name ≠ a.name) : put acc a = acc ++ [a] := by
  unfold put
  rw [if_neg]
  unfold known
  rw [List.any_eq_true]
  rintro ⟨b, hb, e⟩
  exact h b hb (of_decide_eq_true e)
theorem attrs_back : ∀ (l acc : List At) (sf : Bool) (r : List UInt8), (∀ a ∈ l, aOk a) → (acc ++ l).Pairwise (fun a b => a.name ≠ b.name) →
    attrs false acc (l.flatMap wAttr ++ ((if sf = true then [32, 47] else []) ++ 62 :: r)) = some (acc ++ l, sf, r)
  | [], acc, sf, r, _, _ => by
    rw [List.append_nil]
    cases sf with
    | false => exact attrs_end _ _ _
    | true =>
      show attrs false acc (32 :: 47 :: 62 :: r) = _
      rw [attrs_skip _ _ _ (by decide) (.inr (by decide)), attrs_skip _ _ _ (by decide) (.inl rfl)]
      exact attrs_end _ _ _
  | a :: l, acc, sf, r, h, hp => by
    obtain ⟨c, t, hn, c1, c2, c3, c4, ht⟩ := h a List.mem_cons_self
    have e : (a :: l).flatMap wAttr ++ ((if sf = true then [32, 47] else []) ++ 62 :: r) = 32 :: c :: (t ++ 61 :: 34 :: (esc true (L a.value) ++ 34 :: (l.flatMap wAttr ++ ((if sf = true then [32, 47] else []) ++ 62 :: r)))) := by
      rw [List.flatMap_cons]
      unfold wAttr
      rw [hn]
      simp only [List.append_assoc, List.cons_append, List.nil_append]
    rw [e, attrs_skip _ _ _ (by decide) (.inr (by decide)), attrs_attr _ _ _ c1 (by rw [c3]; simpa using c2), at_back hn c4 ht]
    have hp' : ∀ b ∈ acc, b.name ≠ a.name := fun b hb => (List.pairwise_append.1 hp).2.2 b hb a List.mem_cons_self
    rw [put_new hp']
    have := attrs_back l (acc ++ [a]) sf r (fun b hb => h b (List.mem_cons_of_mem _ hb)) (by rw [List.append_assoc]; exact hp)
    rw [this, List.append_assoc]
    rfl

/-- What a start tag written is cut as. -/
theorem start_back {n : List UInt8} (hn : nmOk n) {l : List At} (ha : asOk l) (sf : Bool) (r : List UInt8) :
    startTag (n ++ (l.flatMap wAttr ++ ((if sf = true then [32, 47] else []) ++ 62 :: r))) = (⟨1, B n, B [], l, sf⟩ :: (cont n r).1, (cont n r).2) := by
  have hu : ∀ X : List UInt8, by1 en X = true → upTo en (n ++ X) = n ∧ from_ en (n ++ X) = X := fun X hX => by
    cases X with
    | nil => cases hX
    | cons c q => exact upTo_stop (fun x hx => (hn.2 x hx).1) hX
  have hX : by1 en (l.flatMap wAttr ++ ((if sf = true then [32, 47] else []) ++ 62 :: r)) = true := by
    cases l with
    | nil => cases sf <;> rfl
    | cons a q => rfl
  obtain ⟨u1, u2⟩ := hu _ hX
  have hat : attrs false [] (from_ en (n ++ (l.flatMap wAttr ++ ((if sf = true then [32, 47] else []) ++ 62 :: r)))) = some (l, sf, r) := by
    rw [u2]
    have := attrs_back l [] sf r ha.1 (by rw [List.nil_append]; exact ha.2)
    rwa [List.nil_append] at this
  have := (To.start_yes hat).1
  rw [u1, nm_low (fun c hc => (hn.2 c hc).2)] at this
  exact this
theorem begun_name {n r : List UInt8} (hn : nmOk n) : begun (60 :: (n ++ r)) = 1 ∧ begun (60 :: 47 :: (n ++ r)) = 2 := by
  cases n with
  | nil => exact absurd hn.1 (by decide)
  | cons c q =>
    have hc : lr c = true := hn.1
    refine ⟨?_, ?_⟩
    · show begun (60 :: c :: (q ++ r)) = 1
      rw [To.begun_two, if_pos rfl, if_pos hc]
    · show begun (60 :: 47 :: c :: (q ++ r)) = 2
      rw [To.begun_two, if_pos rfl, if_neg (by decide), if_pos rfl]
      show (if lr c = true then 2 else if c = 62 then 3 else 6) = 2
      rw [if_pos hc]

/-- A written text: decoded it is this, whatever stands behind it; it begins nothing. -/
def Clo (e p : List UInt8) : Prop := (60 : UInt8) ∉ e ∧ ∀ x, dec (e ++ x) = p ++ dec x
theorem Clo.esc {e p : List UInt8} (h : Clo e p) (d : List UInt8) : Clo (e ++ esc false d) (p ++ d) :=
  ⟨fun c => (List.mem_append.1 c).elim h.1 (esc_free false d).1, fun x => by rw [List.append_assoc, h.2, dec_esc_app, List.append_assoc]⟩
theorem Clo.dec {e p : List UInt8} (h : Clo e p) : dec e = p := by
  have := h.2 []
  rwa [List.append_nil, Rm.dec_nil, List.append_nil] at this
theorem cut_clo {e p r : List UInt8} (h : Clo e p) (hb : begun r ≠ 0) : cut (e ++ r) = txt p ++ ((mk r).1 ++ cut (mk r).2) := by
  obtain ⟨h1, h2⟩ := begins hb
  have := cut_at h.1 h1
  rwa [h2, h.dec] at this

/-- An element of this name has text alone. -/
def softOr (n : List UInt8) : Bool := rawB n || softB n
/-- Lists of tokens as a document has them. -/
inductive Good : List Tk → Prop
  | nil : Good []
  | text (d : List UInt8) (r : List Tk) : d ≠ [] → Good r → Good (tx d :: r)
  | comment (d : List UInt8) (r : List Tk) : (∀ x, comm (d ++ ([45, 45, 62] ++ x)) = (d, x)) → Good r → Good (⟨3, B [], B d, [], false⟩ :: r)
  | doctype (d : List UInt8) (r : List Tk) : (62 : UInt8) ∉ d → trimL d = d → Good r → Good (⟨4, B [], B d, [], false⟩ :: r)
  | end_ (n : List UInt8) (r : List Tk) : nmOk n → Good r → Good (⟨2, B n, B [], [], false⟩ :: r)
  | start (n : List UInt8) (l : List At) (sf : Bool) (r : List Tk) : nmOk n → asOk l → softOr n = false → Good r → Good (⟨1, B n, B [], l, sf⟩ :: r)
  | raw (n : List UInt8) (l : List At) (sf : Bool) (d : List UInt8) (r : List Tk) : nmOk n → asOk l → rawB n = true → d ≠ [] → lead (isEnd n) (d ++ wAll false r) = d → trail (isEnd n) (d ++ wAll false r) = wAll false r → Good r → Good (⟨1, B n, B [], l, sf⟩ :: tx d :: r)
  | soft (n : List UInt8) (l : List At) (sf : Bool) (d : List UInt8) (r : List Tk) : nmOk n → asOk l → rawB n = false → softB n = true → d ≠ [] → lead (isEnd n) (esc false d ++ wAll false r) = esc false d → trail (isEnd n) (esc false d ++ wAll false r) = wAll false r → Good r → Good (⟨1, B n, B [], l, sf⟩ :: tx d :: r)
  | none_ (n : List UInt8) (l : List At) (sf : Bool) (r : List Tk) : nmOk n → asOk l → softOr n = true → (∀ d q, r ≠ tx d :: q) → wAll true r = wAll false r → lead (isEnd n) (wAll false r) = [] → trail (isEnd n) (wAll false r) = wAll false r → Good r → Good (⟨1, B n, B [], l, sf⟩ :: r)

end Go.Proofs.YtoijeljjehjfjaaDoor.Tm

namespace Go.Proofs.YtoijeljjehjfjaaDoor.Tm
set_option linter.unusedVariables false
set_option linter.unusedSimpArgs false
open Ba Fm Rm Nm
open Ro (At)
theorem u8_ext {a b : UInt8} (h : a.toNat = b.toNat) : a = b := UInt8.toNat.inj h
end Go.Proofs.YtoijeljjehjfjaaDoor.Tm

namespace Go.Proofs.YtoijeljjehjfjaaDoor.Tm
set_option linter.unusedVariables false
set_option linter.unusedSimpArgs false
open Ba Fm Rm Nm
open Ro (At)
theorem cont_r {n l : List UInt8} (h : rawB n = true) : cont n l = (txt (lead (isEnd n) l), trail (isEnd n) l) := by unfold cont; rw [if_pos h]
theorem cont_n {n l : List UInt8} (h : softOr n = false) : cont n l = ([], l) := by
  unfold softOr at h
  rw [Bool.or_eq_false_iff] at h
  unfold cont
  rw [if_neg (by rw [h.1]; simp), if_neg (by rw [h.2]; simp)]
theorem txt_some {d : List UInt8} (h : d ≠ []) : txt d = [tx d] := by unfold txt; rw [if_neg h]

end Go.Proofs.YtoijeljjehjfjaaDoor.Tm

namespace Go.Proofs.YtoijeljjehjfjaaDoor.Bm
set_option linter.unusedVariables false
set_option linter.unusedSimpArgs false
open Ba Fm Rm Nm
open Ro (At Ro)
open Tm (Tk put cut txt tx nmOk softOr Clo begun mk startTag endTag begun_name start_back cont_n cut_clo)
/-- A tag that begins, one that ends. -/
abbrev tagB (n : List UInt8) : Tk := ⟨1, B n, B [], [], false⟩
theorem clo_plain {e : List UInt8} (h : (60 : UInt8) ∉ e) (h' : (38 : UInt8) ∉ e) : Clo e e := ⟨h, fun x => dec_plain e x h'⟩
theorem cut_start {e n : List UInt8} (h : (60 : UInt8) ∉ e) (h' : (38 : UInt8) ∉ e) (hn : nmOk n) (hs : softOr n = false) (r : List UInt8) :
    cut (e ++ 60 :: (n ++ 62 :: r)) = txt e ++ (tagB n :: cut r) := by
  have hb := (begun_name (n := n) (r := 62 :: r) hn).1
  rw [cut_clo (clo_plain h h') (by rw [hb]; decide)]
  have hm : mk (60 :: (n ++ 62 :: r)) = ([tagB n], r) := by
    have e2 : mk (60 :: (n ++ 62 :: r)) = startTag (n ++ 62 :: r) := by unfold mk; rw [if_pos hb]; rfl
    have := start_back hn (l := []) ⟨(fun a h => by cases h), List.Pairwise.nil⟩ false r
    rw [cont_n hs] at this
    exact e2.trans this
  rw [hm]
  rfl
/-- A name that closes nothing, and is no name without elements, void, or nothing. -/
structure Free (n : List UInt8) : Prop where
  some : noName (B n) = false
  open_ : isIn (B n) voidL = false
  free : closesL (B n) = []
theorem step_k0 {st : St} {t : Tk} (h : t.kind = 0) : stepB st t = if t.data = ⟨#[]⟩ then st else ⟨st.stk, addText st.out st.stk.length t.data⟩ := by unfold stepB; rw [if_pos h]
theorem step_k1 {st : St} {t : Tk} (h : t.kind = 1) (hn : noName t.name = false) : stepB st t = ⟨if isIn t.name voidL = true then openedS t.name st.stk else t.name :: openedS t.name st.stk, st.out ++ [⟨(openedS t.name st.stk).length, 0, t.name, ⟨#[]⟩, once t.attrs⟩]⟩ := by
  unfold stepB
  rw [if_neg (by rw [h]; decide), if_neg (by rw [h]; decide), if_pos h, if_neg (by rw [hn]; simp)]
theorem step_begin {n : List UInt8} (h : Free n) (s : List ByteArray) (o : List Ro) : stepB ⟨s, o⟩ (tagB n) = ⟨B n :: s, o ++ [⟨s.length, 0, B n, ⟨#[]⟩, []⟩]⟩ := by
  rw [step_k1 (t := tagB n) rfl h.some]
  show (⟨if isIn (B n) voidL = true then openedS (B n) s else B n :: openedS (B n) s, o ++ [⟨(openedS (B n) s).length, 0, B n, ⟨#[]⟩, once []⟩]⟩ : St) = _
  rw [opened_free h.free, if_neg (by rw [h.open_]; simp)]
  rfl
theorem step_text {d : List UInt8} (hd : d ≠ []) (s : List ByteArray) (o : List Ro) (ho : ∀ y, o.getLast? = some y → y.kind ≠ 1 ∨ y.depth ≠ s.length) : stepB ⟨s, o⟩ (tx d) = ⟨s, o ++ [⟨s.length, 1, ⟨#[]⟩, B d, []⟩]⟩ := by
  rw [step_k0 (t := tx d) rfl]
  show (if B d = ⟨#[]⟩ then _ else (⟨s, addText o s.length (B d)⟩ : St)) = _
  rw [if_neg (fun e => hd (by have := congrArg L e; rwa [L_B] at this))]
  unfold addText
  cases hy : o.getLast? with
  | none => rfl
  | some y =>
    show (⟨s, if y.kind = 1 ∧ y.depth = (s.length : Int) then _ else _⟩ : St) = _
    rw [if_neg (fun hc => (ho y hy).elim (fun e => e hc.1) (fun e => e hc.2))]

/-- Elements within one another: sixty may be, one more is refused. -/
theorem deep {n : List UInt8} (h : Free n) : ∀ (m k : Nat) (o : List Ro), o.length = k → k ≤ 60 →
    (k + m ≤ 60 → ∃ o', treeB ⟨List.replicate k (B n), o⟩ (List.replicate m (tagB n)) = some o' ∧ o'.length = k + m) ∧
    (60 < k + m → treeB ⟨List.replicate k (B n), o⟩ (List.replicate m (tagB n)) = none)
  | 0, k, o, ho, hk => ⟨fun _ => ⟨o, rfl, by omega⟩, fun c => by omega⟩
  | m + 1, k, o, ho, hk => by
    have hs := step_begin h (List.replicate k (B n)) o
    have hb : tooBig (o ++ [⟨k, 0, B n, ⟨#[]⟩, []⟩]) = decide (60 ≤ k) := by
      unfold tooBig
      rw [List.getLast?_append, List.length_append, ho]
      show (decide (4096 < k + 1) || decide ((60 : Int) ≤ k)) = _
      rw [decide_eq_false (by omega), Bool.false_or]
      by_cases h6 : 60 ≤ k
      · rw [decide_eq_true h6, decide_eq_true (by omega)]
      · rw [decide_eq_false h6, decide_eq_false (by omega)]
    rw [List.length_replicate] at hs
    rw [List.replicate_succ, treeB, hs]
    show _ ∧ (_ → (if tooBig (o ++ [⟨k, 0, B n, ⟨#[]⟩, []⟩]) = true then none else _) = none)
    rw [hb]
    by_cases h6 : 60 ≤ k
    · refine ⟨fun c => by omega, fun _ => by rw [if_pos (decide_eq_true h6)]⟩
    · obtain ⟨a, b⟩ := deep h m (k + 1) (o ++ [⟨k, 0, B n, ⟨#[]⟩, []⟩]) (by rw [List.length_append, ho]; rfl) (by omega)
      rw [if_neg (by rw [decide_eq_false h6]; simp)]
      refine ⟨fun c => ?_, fun c => b (by omega)⟩
      obtain ⟨o', e, l⟩ := a (by omega)
      exact ⟨o', e, by omega⟩
end Go.Proofs.YtoijeljjehjfjaaDoor.Bm

namespace Go.Proofs.YtoijeljjehjfjaaDoor.Bm
set_option linter.unusedVariables false
set_option linter.unusedSimpArgs false
open Ba Fm Rm Nm
open Ro (At Ro)
open Tm (Tk put cut txt tx nmOk softOr within cont rawB isEnd lead trail lead_to cut_text cont_r txt_some)
/-- A text as a row. -/
abbrev rowT (d : Int) (s : List UInt8) : Ro := ⟨d, 1, ⟨#[]⟩, B s, []⟩
theorem few_nil {l : List Tk} (h1 : l.length ≤ 4096) (h2 : starts l ≤ 59) : treeB ⟨[], []⟩ l = some (runB ⟨[], []⟩ l).out :=
  few (by show ([] : List Ro).length + _ ≤ _; rw [List.length_nil]; omega) (fun y hy => by cases hy) (by show ([] : List ByteArray).length + _ ≤ _; rw [List.length_nil]; omega)
theorem tree_text {s : List UInt8} (h : s ≠ []) : treeB ⟨[], []⟩ (txt s) = some [rowT 0 s] := by
  rw [txt_some h, few_nil (by simp) (by simp [starts, tx])]
  rw [runB_cons, step_text h _ _ (fun y hy => by cases hy)]
  rfl
theorem tree_none : treeB ⟨[], []⟩ (txt []) = some [] := rfl
/-- Without a slash nothing ends. -/
theorem within_one {n s : List UInt8} (hn : rawB n = true) (h : (47 : UInt8) ∉ s) : within n s = txt s := by
  have hl : lead (isEnd n) s = s ∧ trail (isEnd n) s = [] := by
    have := lead_to (p := isEnd n) (s := s) (r := []) (fun q hq hs => ?_) (.inl rfl)
    · rwa [List.append_nil] at this
    · rw [List.append_nil]
      have hf : Tm.pre [60, 47] q = false := by
        unfold Tm.pre
        refine decide_eq_false fun e => h ?_
        have hm : (47 : UInt8) ∈ q.take 2 := by rw [show q.take 2 = [60, 47] from e]; decide
        exact hs.subset (List.mem_of_mem_take hm)
      unfold isEnd
      rw [hf]; rfl
  have : within n s = (cont n s).1 ++ cut (cont n s).2 := rfl
  rw [this, cont_r hn, hl.1, hl.2, cut_text (by simp), dec_nil]
  show txt s ++ [] = _
  rw [List.append_nil]
/-- Many elements, each within the one ahead. -/
def nest (n : List UInt8) : Nat → List UInt8
  | 0 => []
  | k + 1 => 60 :: (n ++ 62 :: nest n k)
theorem cut_nest {n : List UInt8} (hn : nmOk n) (hs : softOr n = false) : ∀ k, cut (nest n k) = List.replicate k (tagB n)
  | 0 => by show cut [] = []; rw [cut_text (by simp), dec_nil]; rfl
  | k + 1 => by
    have := cut_start (e := []) (by simp) (by simp) hn hs (nest n k)
    rw [cut_nest hn hs k] at this
    exact this
theorem nest_snoc {n : List UInt8} : ∀ k, nest n (k + 1) = nest n k ++ (60 :: (n ++ [62]))
  | 0 => rfl
  | k + 1 => by
    show 60 :: (n ++ 62 :: nest n (k + 1)) = 60 :: (n ++ 62 :: nest n k) ++ _
    rw [nest_snoc k]
    simp
end Go.Proofs.YtoijeljjehjfjaaDoor.Bm

namespace Go.Proofs.YtoijeljjehjfjaaDoor.Bm
set_option linter.unusedVariables false
set_option linter.unusedSimpArgs false
open Ba Fm Rm Nm
open Ro (At Ro)
open Tm (Tk put cut txt tx within cont mk turn startTag endTag trail lead attrs from_ by1 en bg upTo)
end Go.Proofs.YtoijeljjehjfjaaDoor.Bm

namespace Go.Proofs.YtoijeljjehjfjaaDoor.Sm
set_option maxRecDepth 100000
set_option linter.unusedSimpArgs false
set_option linter.unusedVariables false
open Go.RowKit Ba
theorem min_any (x : Nat) (m : Nat) (M : Int) (hM : M = m) (w : World) : ∃ k : Nat, k ≤ x ∧ k ≤ m ∧ k = min x m ∧ ∀ ts t, (Builtin.min_ ts t #[.int .i64 x, .int .i64 M]).run Tryd.prog w = .ok (.int .i64 k) w := by
  refine ⟨min x m, by omega, by omega, rfl, fun ts t => ?_⟩
  rw [run_min_int2]
  congr 2
  split <;> omega
theorem and_small (n : Int) (m j : Nat) (hm : m < 2 ^ j) (hj : 2 ^ j ≤ 4611686018427387904) : ∃ x : Nat, x < 2 ^ j ∧ bits .and .i64 n (m : Int) = (x : Int) := by
  have hlt : (BitVec.ofInt IntKind.i64.bits n).toNat &&& m < 2 ^ j := Nat.and_lt_two_pow _ hm
  refine ⟨_, hlt, ?_⟩
  have hm' : m % 2 ^ IntKind.i64.bits = m := Nat.mod_eq_of_lt (Nat.lt_of_lt_of_le hm (Nat.le_trans hj (by decide)))
  simp only [bits, BitVec.ofInt_natCast, BitVec.toNat_and, BitVec.toNat_ofNat, hm']
  rw [IntKind.wrap_i64]
  omega
theorem size_take (s : ByteArray) (k : Nat) (h : k ≤ s.size) : (s.extract 0 k).size = k := by
  rw [← size_L, L_extract, List.length_take, List.drop_zero, size_L]; omega

end Go.Proofs.YtoijeljjehjfjaaDoor.Sm

namespace Go.Proofs.YtoijeljjehjfjaaDoor.Bu
set_option maxRecDepth 100000
set_option linter.unusedVariables false
set_option linter.unusedSimpArgs false
open Go.RowKit Ba Fm Fo Nm Bm Sm
open Ro (At Ro Cw ros Fr Ow Rv)
open Tm (Tk within tx txt cut nmOk softOr rawB)
open Re (Tab)
/-- A byte that a text alone may have. -/
def okIn (c : UInt8) : Prop := c ≠ 47 ∧ c ≠ 0 ∧ c ≠ 13 ∧ c.toNat ≤ 126
theorem u8_no {a b : UInt8} (h : (((a.toNat : Int)) == (b.toNat : Int)) = false) : a ≠ b := by
  rw [u8_eq] at h
  exact beq_eq_false_iff_ne.1 h
theorem okIn_next {u : ByteArray} {k : Nat} (hp : k < u.size) (hn : ∀ c ∈ (L u).take k, okIn c) (h : okIn u[k]) : ∀ c ∈ (L u).take (k + 1), okIn c := fun c hc => by
  rw [take_snoc u k hp] at hc
  rcases List.mem_append.1 hc with e | e
  · exact hn c e
  · rw [List.mem_singleton.1 e]; exact h
theorem script_tree {u : ByteArray} (h : ∀ c ∈ L u, okIn c) : treeB ⟨[], []⟩ (within (L ⟨#[115, 99, 114, 105, 112, 116]⟩) (rdy (L u))) = some (if u.toList.isEmpty = true then [] else [⟨0, 1, ⟨#[]⟩, u, []⟩]) := by
  have hp : Ch.plain (L u) := fun c hc => by
    have := h c hc
    exact ⟨by have := this.2.2.2; omega, this.2.1, this.2.2.1⟩
  rw [rdy_plain hp, within_one (by decide) (fun e => (h 47 e).1 rfl)]
  by_cases he : L u = []
  · have e2 : u.toList.isEmpty = true := by rw [toList_L, he]; rfl
    rw [he, e2, if_pos rfl]
    exact tree_none
  · have e2 : u.toList.isEmpty = false := by rw [toList_L]; simpa using he
    rw [tree_text he, e2, if_neg (by simp)]
    show some [(⟨0, 1, ⟨#[]⟩, B (L u), []⟩ : Ro)] = _
    rw [B_L]
theorem Rv.nil_form {w : World} {v : Value} {y : List Cw} (h : Rv w v y) : ∃ A c, v = .slice A y.length c := by
  obtain ⟨A, c, e, _⟩ := h
  exact ⟨A, c, e⟩

set_option maxRecDepth 100000 in
set_option maxHeartbeats 2000000 in
theorem law_in (s : ByteArray) (hs : s.size ≤ 140737488351232) (w : World) (hT : Tab w) :
    Calls Tryd.prog 8 #[.string s] w fun e w' => e = .returned (.bool true) ∧ Below w.heap.size w w' := by
  obtain ⟨k1, hk1, hk2, -, hmin⟩ := min_any s.size 200 200 rfl w
  obtain ⟨u, hu⟩ : ∃ u, s.extract 0 k1 = u := ⟨_, rfl⟩
  have hus : u.size = k1 := by rw [← hu]; exact size_take s k1 hk1
  have HU := Lib.hid hu; have HUS := Lib.hid hus; have HT := Lib.hid hT
  clear hu hus hT
  go_enter Tryd.func8, Tryd.ntmps8
  go_wp2_with fail
  rw [HU.out]
  have zu : u.size ≤ 200 := by have := HUS.out; omega
  clear hmin HU HUS hk1 hk2
  go_loop [3] (fun i => ∃ k : Nat, i = .int .i64 k ∧ k ≤ u.size ∧ ∀ c ∈ (L u).take k, okIn c) (fun i => u.size - (intOf i).toNat)
  case atStart => exact ⟨0, rfl, Nat.zero_le _, fun c h => by simp at h⟩
  case round =>
    obtain ⟨k, rfl, hk, hn⟩ := hrel
    by_cases hp : k < u.size
    · have hlt : decide ((k : Int) < u.size) = true := decide_eq_true (by omega)
      have HN := Lib.hid (okIn_next hp hn)
      clear hn
      cases e47 : ((u[k].toNat : Int) == 47) with
      | true =>
        go_wp2_with fail
        refine (fixed_any _ HT.out).mono ?_
        rintro e w1 ⟨rfl, hb1⟩
        go_wp2
        go_ret
        exact ⟨rfl, hb1⟩
      | false =>
      cases e0 : ((u[k].toNat : Int) == 0) with
      | true =>
        go_wp2_with fail
        refine (fixed_any _ HT.out).mono ?_
        rintro e w1 ⟨rfl, hb1⟩
        go_wp2
        go_ret
        exact ⟨rfl, hb1⟩
      | false =>
      cases e13 : ((u[k].toNat : Int) == 13) with
      | true =>
        go_wp2_with fail
        refine (fixed_any _ HT.out).mono ?_
        rintro e w1 ⟨rfl, hb1⟩
        go_wp2
        go_ret
        exact ⟨rfl, hb1⟩
      | false =>
      cases e126 : decide ((126 : Int) < (u[k].toNat : Int)) with
      | true =>
        go_wp2_with fail
        refine (fixed_any _ HT.out).mono ?_
        rintro e w1 ⟨rfl, hb1⟩
        go_wp2
        go_ret
        exact ⟨rfl, hb1⟩
      | false =>
        have hok : okIn u[k] := ⟨u8_no (b := 47) e47, u8_no (b := 0) e0, u8_no (b := 13) e13, by have := of_decide_eq_false e126; omega⟩
        have HN2 := Lib.hid (HN.out hok)
        clear hok
        go_wp2
        go_round
        case rel => exact ⟨k + 1, by go_num, by omega, HN2.out⟩
        case measure => simp [intOf]; omega
    · have hlt : decide ((k : Int) < u.size) = false := decide_eq_false (by omega)
      have hall : ∀ c ∈ L u, okIn c := by rwa [List.take_of_length_le (by rw [size_L]; omega)] at hn
      have HTR := Lib.hid (script_tree hall)
      clear hn hall
      cases he : u.toList.isEmpty with
      | true =>
        have htr := HTR.out
        rw [he, if_pos rfl] at htr
        go_wp2_with fail
        refine (In1 u _ w _ (by omega) (by decide) HT.out htr).mono ?_
        rintro e w1 ⟨⟨v, y, rfl, hv, hy⟩, b1⟩
        obtain ⟨A, c, rfl⟩ := Rv.nil_form hv
        have hy0 : y.length = 0 := by rw [← Ro.len_ros, hy]; rfl
        rw [hy0]
        have HB1 := Lib.hid b1
        clear hv hy hy0 b1 htr
        go_wp2_with fail
        refine (fixed_any w1 (HT.out.below HB1.out)).mono ?_
        rintro e w2 ⟨rfl, b2⟩
        go_wp2
        go_ret
        exact ⟨rfl, bt HB1.out b2⟩
      | false =>
        have htr := HTR.out
        rw [he, if_neg (by simp)] at htr
        go_wp2_with fail
        refine (In1 u _ w _ (by omega) (by decide) HT.out htr).mono ?_
        rintro e w1 ⟨⟨v, y, rfl, hv, hy⟩, b1⟩
        have HV := Lib.hid hv; have HY := Lib.hid hy; have HB1 := Lib.hid b1
        clear hv hy b1 htr
        go_wp2_with fail
        refine (text_any 0 u w1).mono ?_
        rintro e w2 ⟨rfl, b2⟩
        go_wp2_with fail
        refine (sameR w2 v y [⟨0, 1, ⟨#[]⟩, u, []⟩] _ 1 (HV.out.below b2) (len_of HY.out (by simp)) rfl (by decide) (fun r hr => by rw [List.mem_singleton.1 hr]) (fun r hr => by rw [List.mem_singleton.1 hr]; exact ⟨by show (-9223372036854775808 : Int) ≤ 0; decide, by show (0 : Int) ≤ 9223372036854775807; decide⟩) rfl true (by rw [HY.out]; simp)).mono ?_
        rintro e w3 ⟨rfl, b3⟩
        have HB3 := Lib.hid (bt (bt HB1.out b2) b3)
        clear b2 b3
        go_wp2_with fail
        refine (fixed_any w3 (HT.out.below HB3.out)).mono ?_
        rintro e w4 ⟨rfl, b4⟩
        go_wp2
        go_ret
        exact ⟨rfl, bt HB3.out b4⟩

/-- Elements within one another. -/
theorem free_b : Free [98] := ⟨by decide, by decide, by decide⟩
theorem nm_b : nmOk [98] := by
  refine ⟨?_, ?_⟩ <;> decide
theorem len_nest (k : Nat) : (nest [98] k).length = 3 * k := by
  induction k with
  | zero => rfl
  | succ k ih =>
    show (60 :: ([98] ++ 62 :: nest [98] k)).length = _
    simp only [List.length_cons, List.length_append, List.length_nil, ih]
    omega
theorem plain_nest (k : Nat) : Ch.plain (nest [98] k) := by
  induction k with
  | zero => intro x hx; cases hx
  | succ k ih =>
    intro x hx
    have hx : x ∈ 60 :: ([98] ++ 62 :: nest [98] k) := hx
    simp only [List.mem_cons, List.mem_append, List.not_mem_nil, or_false] at hx
    rcases hx with rfl | rfl | rfl | h
    · decide
    · decide
    · decide
    · exact ih x h
theorem nest_tree (k : Nat) (t : ByteArray) (h : L t = nest [98] k) : within [] (rdy (L t)) = List.replicate k (tagB [98]) := by
  rw [h, rdy_plain (plain_nest k)]
  show (Tm.cont [] (nest [98] k)).1 ++ cut (Tm.cont [] (nest [98] k)).2 = _
  rw [Tm.cont_n (by decide), cut_nest nm_b (by decide)]
  rfl
theorem nest_yes {k : Nat} (hk : k ≤ 60) : ∃ o, treeB ⟨[], []⟩ (List.replicate k (tagB [98])) = some o ∧ o.length = k := by
  obtain ⟨o, h1, h2⟩ := (deep free_b k 0 [] rfl (by omega)).1 (by omega)
  exact ⟨o, h1, by omega⟩
theorem nest_no {k : Nat} (hk : 60 < k) : treeB ⟨[], []⟩ (List.replicate k (tagB [98])) = none := (deep free_b k 0 [] rfl (by omega)).2 (by omega)

theorem info_u8 : (Tryd.prog.info? 5).map (fun i => (i.zero, i.size, i.bytes)) = some (some (.int .u8 0), 1, 1) := by kernel_rfl
theorem zeros_str (w : World) (n : Nat) : (convert 44 9 (.slice (some ⟨w.heap.size, 0, none⟩) n n)).run Tryd.prog (w.alloc (.cells (madeCells #[.int .u8 0] n) 5)) = .ok (.string ⟨(List.replicate n (0 : UInt8)).toArray⟩) (w.alloc (.cells (madeCells #[.int .u8 0] n) 5)) := by
  have h := run_convert_bytes_back (P := Tryd.prog) (w.alloc (.cells (madeCells #[.int .u8 0] n) 5)) 44 9 5 ⟨w.heap.size, 0, none⟩ n (List.replicate n (0 : UInt8)) Tryd.underlying44 Tryd.underlying5 Tryd.underlying9 (fun j hj => by
    rw [WideShapes.add_plain, World.cell?_alloc_mark]
    rw [List.length_replicate] at hj
    rw [List.getElem_replicate]
    simp [madeCells, hj, Nat.mod_one])
  rw [List.length_replicate] at h
  exact h
theorem size_zeros (n : Nat) : (⟨(List.replicate n (0 : UInt8)).toArray⟩ : ByteArray).size = n := by
  show (List.replicate n (0 : UInt8)).toArray.size = n
  simp

set_option maxRecDepth 100000 in
set_option maxHeartbeats 2000000 in
theorem law_big (d e0 : Int) (hd : (Lit.int .i64 d).wf = true) (he : (Lit.int .i64 e0).wf = true) (w : World) (hT : Tab w) :
    Calls Tryd.prog 6 #[.int .i64 d, .int .i64 e0] w fun e w' => e = .returned (.bool true) ∧ Below w.heap.size w w' := by
  obtain ⟨x, hx1, hx2⟩ := and_small d 127 7 (by decide) (by decide)
  obtain ⟨z, hz1, hz2⟩ := and_small e0 255 8 (by decide) (by decide)
  have hx3 : bits .and .i64 d 127 = (x : Int) := hx2
  have hz3 : bits .and .i64 e0 255 = (z : Int) := hz2
  have hx128 : x < 128 := hx1
  have hz256 : z < 256 := hz1
  have HT := Lib.hid hT; have HZ3 := Lib.hid hz3
  clear hT hd he hx1 hx2 hz1 hz2 hz3
  go_enter Tryd.func6, Tryd.ntmps6
  go_wp2
  clear hx3
  go_loop [6, 7] (fun s i => ∃ (k : Nat) (t : ByteArray), s = .string t ∧ i = .int .i64 k ∧ k ≤ x ∧ L t = nest [98] k) (fun _ i => x - (intOf i).toNat)
  case atStart => exact ⟨0, ⟨#[]⟩, rfl, rfl, Nat.zero_le _, rfl⟩
  case round =>
    obtain ⟨k, t, rfl, rfl, hk, ht⟩ := hrel
    have hts : t.size = 3 * k := by rw [← size_L, ht, len_nest]
    by_cases hp : k < x
    · have hlt : decide ((k : Int) < (x : Int)) = true := decide_eq_true (by omega)
      have ht2 : L (t ++ ⟨#[60, 98, 62]⟩) = nest [98] (k + 1) := by rw [L_append, ht, nest_snoc]; rfl
      have HT2 := Lib.hid ht2
      clear ht ht2
      go_wp2
      go_round
      case rel => exact ⟨k + 1, _, rfl, by go_num, by omega, HT2.out⟩
      case measure => simp [intOf]; omega
    · obtain rfl : k = x := by omega
      have hlt : decide ((k : Int) < (k : Int)) = false := decide_eq_false (by omega)
      have HTR := Lib.hid (nest_tree k t ht)
      clear ht hp hk
      obtain ⟨S, hS⟩ : ∃ S, (⟨(List.replicate (65537 + z) (0 : UInt8)).toArray⟩ : ByteArray) = S := ⟨_, rfl⟩
      have hSz : S.size = 65537 + z := by rw [← hS, size_zeros]
      have hmk : ∀ w : World, (Instr.makeSlice 44 (.int .i64 (65537 + (z : Int))) (.int .i64 (65537 + (z : Int)))).run Tryd.prog w = .ok (.slice (some ⟨w.heap.size, 0, none⟩) (65537 + z) (65537 + z)) (w.alloc (.cells (madeCells #[.int .u8 0] (65537 + z)) 5)) := fun w => by
        have := run_make_row' (P := Tryd.prog) 44 5 (.int .u8 0) 1 Tryd.underlying44 info_u8 rfl .i64 .i64 (65537 + z) (by omega) (by omega) w
        rwa [show ((65537 + z : Nat) : Int) = 65537 + (z : Int) from by omega] at this
      have hcv : ∀ w : World, (convert 44 9 (.slice (some ⟨w.heap.size, 0, none⟩) (65537 + z) (65537 + z))).run Tryd.prog (w.alloc (.cells (madeCells #[.int .u8 0] (65537 + z)) 5)) = .ok (.string S) (w.alloc (.cells (madeCells #[.int .u8 0] (65537 + z)) 5)) := fun w => by
        rw [← hS]
        exact zeros_str w (65537 + z)
      have HS := Lib.hid hSz; have HMK := Lib.hid hmk; have HCV := Lib.hid hcv
      clear hS hSz hmk hcv
      rcases Nat.lt_or_ge 60 k with h60 | h60
      · have hle : decide ((k : Int) ≤ 60) = false := decide_eq_false (by omega)
        have hno := nest_no h60
        go_wp2_with fail
        refine (Parse1 t w none (by omega) HT.out (by rw [HTR.out]; exact hno)).mono ?_
        rintro e w1 ⟨rfl, b1⟩
        have HB1 := Lib.hid b1
        clear b1 hno HTR
        have hcv := HCV.out; have hmk := HMK.out; have hz3 := HZ3.out
        go_wp2_with fail
        refine (Parse_big S _ (by rw [HS.out]; omega)).mono ?_
        rintro e w3 ⟨rfl, rfl⟩
        clear hcv hmk hz3
        go_wp2_with fail
        refine (fixed_any _ (HT.out.below (bt HB1.out (below_one w1 _)))).mono ?_
        rintro e w4 ⟨rfl, b4⟩
        have HB4 := Lib.hid (bt (bt HB1.out (below_one w1 _)) b4)
        clear b4
        go_wp2
        go_ret
        exact ⟨rfl, HB4.out⟩
      · have hle : decide ((k : Int) ≤ 60) = true := decide_eq_true (by omega)
        obtain ⟨o, ho, hol⟩ := nest_yes h60
        go_wp2_with fail
        refine (Parse1 t w (some o) (by omega) HT.out (by rw [HTR.out]; exact ho)).mono ?_
        rintro e w1 ⟨⟨v, y, rfl, hv, hy⟩, b1⟩
        obtain ⟨A, c, rfl⟩ := Rv.nil_form hv
        have hyl : y.length = k := by rw [← Ro.len_ros, hy, hol]
        rw [hyl]
        have HB1 := Lib.hid b1
        clear b1 ho hol hy hv hyl HTR
        cases g0 : ((k : Int) != 0) with
        | true =>
          have hcv := HCV.out; have hmk := HMK.out; have hz3 := HZ3.out
          go_wp2_with fail
          refine (Parse_big S _ (by rw [HS.out]; omega)).mono ?_
          rintro e w3 ⟨rfl, rfl⟩
          clear hcv hmk hz3
          go_wp2_with fail
          refine (fixed_any _ (HT.out.below (bt HB1.out (below_one w1 _)))).mono ?_
          rintro e w4 ⟨rfl, b4⟩
          have HB4 := Lib.hid (bt (bt HB1.out (below_one w1 _)) b4)
          clear b4
          go_wp2
          go_ret
          exact ⟨rfl, HB4.out⟩
        | false =>
          have hcv := HCV.out; have hmk := HMK.out; have hz3 := HZ3.out
          go_wp2_with fail
          refine (Parse_big S _ (by rw [HS.out]; omega)).mono ?_
          rintro e w3 ⟨rfl, rfl⟩
          clear hcv hmk hz3
          go_wp2_with fail
          refine (fixed_any _ (HT.out.below (bt HB1.out (below_one w1 _)))).mono ?_
          rintro e w4 ⟨rfl, b4⟩
          have HB4 := Lib.hid (bt (bt HB1.out (below_one w1 _)) b4)
          clear b4
          go_wp2
          go_ret
          exact ⟨rfl, HB4.out⟩

end Go.Proofs.YtoijeljjehjfjaaDoor.Bu

namespace Go.Proofs.YtoijeljjehjfjaaDoor.Bu
set_option maxRecDepth 100000
set_option linter.unusedVariables false
set_option linter.unusedSimpArgs false
open Go.RowKit Ba Fm Fo Nm Bm Sm
open Ro (At Ro Cw ros Fr Ow Rv rowO range5 below_new)
open Tm (Tk within)
open Re (Tab)
theorem check_small {o : List Ro} (h : small o) (hr : Ro.right o = true) : Ro.check o = 0 := by
  unfold Ro.check
  have : Ro.exceeds o 4096 60 = false := by
    unfold Ro.exceeds
    rw [Bool.or_eq_false_iff]
    refine ⟨decide_eq_false (by have := h.1; omega), ?_⟩
    rw [List.any_eq_false]
    intro x hx
    have := h.2 x hx
    simp
    omega
  rw [this, hr]
  rfl
theorem path_at {o : List Ro} {k : Nat} {x : Ro} (h : o[k]? = some x) : pathFrom [] (o.take (k + 1)) = pathStep (pathFrom [] (o.take k)) x := by
  rw [List.take_add_one, h, Option.toList_some, pathFrom_snoc]
theorem asks_parts {p : List ByteArray} {x : Ro} (h0 : 0 ≤ x.depth) (h : asks p x = true) :
    x.depth ≤ p.length ∧ (∀ (j : Nat) n, x.depth = j + 1 → p[j]? = some n → isIn n voidL = false) ∧ (x.kind = 0 → nestedB x.name (p.take x.depth.toNat) = true ∧ isIn x.name goneL = false) := by
  unfold asks at h
  rw [Bool.and_eq_true, Bool.and_eq_true] at h
  obtain ⟨⟨h1, h2⟩, h3⟩ := h
  refine ⟨of_decide_eq_true h1, fun j n hj hn => ?_, fun hk => ?_⟩
  · rw [decide_eq_false (by omega), Bool.false_or, show x.depth.toNat - 1 = j from by omega, hn, Option.any_some] at h2
    simpa using h2
  · rw [decide_eq_false (by simp [hk]), Bool.false_or, Bool.and_eq_true] at h3
    exact ⟨h3.1, by simpa using h3.2⟩

set_option maxRecDepth 100000 in
set_option maxHeartbeats 4000000 in
theorem law_right (s nm : ByteArray) (hs : s.size ≤ 140737488351232) (hn : nm.size ≤ 140737488351232) (w : World) (hT : Tab w) :
    Calls Tryd.prog 5 #[.string s, .string nm] w fun e w' => e = .returned (.bool true) ∧ Below w.heap.size w w' := by
  obtain ⟨k1, hk1, hk2, -, hmin⟩ := min_any s.size 500 500 rfl w
  obtain ⟨u, hu⟩ : ∃ u, s.extract 0 k1 = u := ⟨_, rfl⟩
  have hus : u.size = k1 := by rw [← hu]; exact size_take s k1 hk1
  have hu5 : u.size ≤ 5000 := by omega
  obtain ⟨r, hr⟩ : ∃ r, treeB ⟨[], []⟩ (within (L nm) (rdy (L u))) = r := ⟨_, rfl⟩
  have HU := Lib.hid hu; have HT := Lib.hid hT; have HR := Lib.hid hr
  clear hu hus hT hr
  go_enter Tryd.func5, Tryd.ntmps5
  go_wp2_with fail
  rw [HU.out]
  clear hmin HU hk1 hk2
  refine (InM u nm w r hu5 hn HT.out HR.out).mono ?_
  intro e w1 h1
  cases r with
  | none =>
    obtain ⟨rfl, b1⟩ := h1
    have HB1 := Lib.hid b1
    clear b1
    go_wp2_with fail
    refine (fixed_any w1 (HT.out.below HB1.out)).mono ?_
    rintro e w2 ⟨rfl, b2⟩
    go_wp2
    go_ret
    exact ⟨rfl, bt HB1.out b2⟩
  | some o =>
    obtain ⟨⟨v, y, rfl, hv, hy, hfew, htxt⟩, b1⟩ := h1
    obtain ⟨hgood, hright, hnorm, hsmall⟩ := tree_all HR.out
    have hheld := tree_held HR.out
    have hyl : y.length ≤ 4096 := by rw [← Ro.len_ros, hy]; exact hsmall.1
    have hch := check_small hsmall hright
    rw [← hy] at hch hnorm
    have HV := Lib.hid hv; have HY := Lib.hid hy; have HB1 := Lib.hid b1; have HG := Lib.hid hgood; have HN := Lib.hid hnorm; have HCH := Lib.hid hch; have HH := Lib.hid hheld; have HF := Lib.hid hfew; have HTX := Lib.hid htxt
    clear hv hy b1 hgood hnorm hch hheld hfew htxt hright hsmall
    go_wp2_with fail
    refine (Ro.check1 v y w1 0 HV.out (by omega) HCH.out).mono ?_
    rintro e w2 ⟨rfl, b2⟩
    go_wp2_with fail
    refine (Ro.normal1 v y w2 (ros y) (HV.out.below b2) (by omega) (by rw [HY.out]; exact HF.out) (by rw [HY.out]; exact HTX.out) HN.out (by rw [HY.out]; exact HH.out)).mono ?_
    rintro e w3 ⟨u3, y3, rfl, _, _, hy3, hv3, b3⟩
    have B3 := bt b2 b3
    have hl3 : y3.length ≤ 4096 := by rw [← Ro.len_ros, hy3, Ro.len_ros]; exact hyl
    go_wp2_with fail
    refine (Ro.same1 u3 v y3 y w3 true hv3 (HV.out.below B3) (by omega) (by omega) (by rw [hy3]; simp)).mono ?_
    rintro e w4 ⟨rfl, b4⟩
    have HB4 := Lib.hid (bt B3 b4)
    clear b2 b3 B3 hy3 hv3 b4 hl3
    obtain ⟨A, c, rfl, hc, hcm, hrr, _⟩ := HV.out.below HB4.out
    have HRR := Lib.hid hrr
    have hs4 := Sown.made w4
    have HS4 := Lib.hid hs4
    clear hrr hs4
    go_wp2
    go_loopw [7, 8] (fun vo i wr => ∃ k : Nat, i = .int .i64 k ∧ k ≤ y.length ∧ Sown w4.heap.size wr vo (pathFrom [] (o.take k)) ∧ (pathFrom [] (o.take k)).length ≤ k ∧ Below w4.heap.size w4 wr) (fun _ i _ => y.length - (intOf i).toNat)
    case atStart => exact ⟨0, rfl, Nat.zero_le _, HS4.out, Nat.le_refl _, below_one w4 _⟩
    case round =>
      obtain ⟨k, rfl, hk, hso, hpl, hbel⟩ := hrel
      by_cases hp : k < y.length
      · obtain ⟨b, off, x, rfl, hb, hdx, hx, _, _⟩ := (HRR.out.below hbel).at_ k hp
        have hox : o[k]? = some x.ro := by
          rw [← HY.out]
          have := Ro.getElem_of_drop hdx
          unfold ros
          rw [List.getElem?_map, this]
          rfl
        have hask := good_asks HG.out k x.ro hox
        have hz0 := good_zero HG.out x.ro (List.mem_of_getElem? hox)
        have hpa := path_at hox
        obtain ⟨x0, x1, x2, x3, x4⟩ := range5 hx
        obtain ⟨⟨dx, kx, nx, tx, ax⟩, Ax, cx⟩ := x
        obtain ⟨p, hpe⟩ : ∃ p, pathFrom [] (o.take k) = p := ⟨_, rfl⟩
        rw [hpe] at hso hpl hask hpa
        obtain ⟨d, rfl⟩ : ∃ d : Nat, dx = d := Int.eq_ofNat_of_zero_le hz0
        obtain ⟨ha1, ha2, ha3⟩ := asks_parts hz0 hask
        dsimp only at ha1 ha2 ha3 x0 x1 x2 x3 x4 hpa
        have hdp : d ≤ p.length := by omega
        obtain ⟨Ap, cp, rfl, hcp, _, hrp⟩ := hso.form
        have hAp : Ap = none → cp = 0 := by
          obtain ⟨A', c', e, _, h2, _⟩ := sv_own hso
          injection e with e1 _ e3
          subst e1 e3
          exact h2
        have hpd : (p.take d).length = d := by rw [List.length_take]; omega
        have hpt : pathStep p ⟨(d : Nat), kx, nx, tx, ax⟩ = p.take d ++ (if kx = 0 then [nx] else []) := by
          unfold pathStep
          rw [Int.toNat_natCast]
        rw [hpt] at hpa
        have hm0 : Sown (wr.heap.size + 1) ((wr.alloc (rowO ⟨⟨(d : Nat), kx, nx, tx, ax⟩, Ax, cx⟩)).alloc (.cells #[] 9)) (.slice (some ⟨wr.heap.size + 1, 0, none⟩) 0 0) [] := by
          have := Sown.made (wr.alloc (rowO ⟨⟨(d : Nat), kx, nx, tx, ax⟩, Ax, cx⟩))
          rwa [World.size_alloc] at this
        have hbl : Below (wr.heap.size + 1) (wr.alloc (rowO ⟨⟨(d : Nat), kx, nx, tx, ax⟩, Ax, cx⟩)) ((wr.alloc (rowO ⟨⟨(d : Nat), kx, nx, tx, ax⟩, Ax, cx⟩)).alloc (.cells #[] 9)) := by
          have := below_one (wr.alloc (rowO ⟨⟨(d : Nat), kx, nx, tx, ax⟩, Ax, cx⟩)) (.cells #[] 9)
          rwa [World.size_alloc] at this
        have HBL := Lib.hid hbl
        have hgt : decide ((p.length : Int) < (d : Int)) = false := decide_eq_false (by omega)
        have i0 : (0 : Int) ≤ (d : Int) := by omega
        have i1 : (d : Int) ≤ (cp : Int) := by omega
        have hrp2 := (hrp.take d).below (below_new wr (rowO ⟨⟨(d : Nat), kx, nx, tx, ax⟩, Ax, cx⟩)) (Nat.le_refl _)
        have hrp3 := hrp2.below (below_one (wr.alloc (rowO ⟨⟨(d : Nat), kx, nx, tx, ax⟩, Ax, cx⟩)) (.cells #[] 9)) (by simp)
        have HM0 := Lib.hid hm0; have HPD := Lib.hid hpd; have HRP := Lib.hid hrp3; have HBE := Lib.hid hbel; have HPE := Lib.hid hpe
        clear hbl hdx hx hox hask hz0 hso hm0 hpd hrp hrp2 hrp3 hbel hpt hpe
        by_cases hk0 : kx = 0
        · have gk : (kx != 0) = false := by rw [hk0]; rfl
          obtain ⟨hne, hgo⟩ := ha3 hk0
          rw [if_pos hk0] at hpa
          rw [Int.toNat_natCast] at hne
          have HNE := Lib.hid hne; have HGO := Lib.hid hgo; have HPA := Lib.hid hpa
          clear hne hgo hpa ha3 hk0
          rcases Nat.eq_zero_or_pos d with hd0 | hd0
          · have gd : decide ((0 : Int) < (d : Int)) = false := decide_eq_false (by omega)
            have gd2 : decide (0 < d) = false := decide_eq_false (by omega)
            clear hd0
            go_wp2_with (at_builtin; (refine app_all _ rfl (.tmp 54) (.tmp 58) rfl (wr.heap.size + 1) _ [] (p.take d) Ap cp wr.heap.size rfl HM0.out (by rw [HPD.out]; rfl) hAp HRP.out (by rw [HPD.out]; simp; omega) (by simp) ?_); intro v5 w5 hown5 hk5 _; have hb5 : Below (wr.alloc (rowO ⟨⟨(d : Nat), kx, nx, tx, ax⟩, Ax, cx⟩)).heap.size (wr.alloc (rowO ⟨⟨(d : Nat), kx, nx, tx, ax⟩, Ax, cx⟩)) w5 := (by rw [World.size_alloc]; exact hk5 _ HBL.out); have hbw5 := bt (below_new wr (rowO ⟨⟨(d : Nat), kx, nx, tx, ax⟩, Ax, cx⟩)) hb5; have e0 : w5.cell? ⟨wr.heap.size, 0, none⟩ = some (.int .i64 (d : Nat)) := Ro.box_kept hb5 0; have e1 : w5.cell? ⟨wr.heap.size, 1, none⟩ = some (.int .i64 kx) := Ro.box_kept hb5 1; have e2 : w5.cell? ⟨wr.heap.size, 2, none⟩ = some (.string nx) := Ro.box_kept hb5 2; obtain ⟨A5, c5, rfl, hc5, hm5, hr5⟩ := Sown.form hown5; have hown6 : Sown (wr.heap.size + 1) w5 (.slice A5 d c5) (p.take d) := (by have h6 := hown5; rw [List.nil_append, HPD.out] at h6; exact h6); have HOW := Lib.hid hown6; have SZ5 := hb5.size; have HB5 := Lib.hid hbw5; have HR5 := Lib.hid (show Rd w5 w5.heap.size A5 (p.take d) from hr5); have hl5 : ([] ++ p.take d).length = d := HPD.out; rw [hl5]; clear hown5 hown6 hk5 hb5 hbw5 hr5 hl5)
            have HWZ := Lib.hid (show wr.heap.size < w5.heap.size from Nat.lt_of_lt_of_le (by simp) (show (wr.alloc (rowO ⟨⟨(d : Nat), kx, nx, tx, ax⟩, Ax, cx⟩)).heap.size ≤ w5.heap.size from SZ5))
            go_wp2_with fail
            refine (nested_any nx _ (p.take d) w5 (by rw [HPD.out]; omega) ((sv_own HOW.out)) true HNE.out).mono ?_
            rintro e w7 ⟨rfl, b7⟩
            have HOW7 := Lib.hid (HOW.out.below b7 (Nat.le_refl _)); have HB7 := Lib.hid (bt HB5.out b7)
            have q2 : w7.cell? ⟨wr.heap.size, 2, none⟩ = some (.string nx) := (b7.cell (p := ⟨wr.heap.size, 2, none⟩) (HWZ.out)).trans e2
            have hz7 : wr.heap.size < w7.heap.size := Nat.lt_of_lt_of_le (HWZ.out) b7.size
            clear b7
            go_wp2_with fail
            refine (gone1 nx w7 false HGO.out).mono ?_
            rintro e w8 ⟨rfl, b8⟩
            have HOW8 := Lib.hid (HOW7.out.below b8 (Nat.le_refl _)); have HB8 := Lib.hid (bt HB7.out b8)
            have r2 : w8.cell? ⟨wr.heap.size, 2, none⟩ = some (.string nx) := (b8.cell (p := ⟨wr.heap.size, 2, none⟩) hz7).trans q2
            have hz8 : wr.heap.size < w8.heap.size := Nat.lt_of_lt_of_le hz7 b8.size
            have HZN := Lib.hid (show wr.heap.size + 1 ≤ w8.heap.size from hz8)
            clear b8
            go_wp2_with (at_builtin; refine app_one w8 rfl (.tmp 85) (.tmp 88) rfl (wr.heap.size + 1) _ (p.take d) nx rfl HOW8.out rfl (by rw [HPD.out]; omega) HZN.out ?_; intro v9 w9 hown9 hk9 _)
            have hb9 := hk9 _ ((show Below (wr.heap.size + 1) w8 w8 from Below.refl _ _))
            have HBF := Lib.hid (HB8.out.trans (hb9.mono (Nat.le_succ _)))
            go_roundw
            case rel => exact ⟨k + 1, by go_num, by omega, by rw [HPA.out]; exact hown9.mono (by have := HBE.out.size; simp; omega), by rw [HPA.out, List.length_append, HPD.out]; simp; omega, bt HBE.out HBF.out⟩
            case measure => simp [intOf]; omega
          · have gd : decide ((0 : Int) < (d : Int)) = true := decide_eq_true (by omega)
            have gd2 : decide (0 < d) = true := decide_eq_true (by omega)
            have hjp : d - 1 < p.length := by omega
            obtain ⟨nj, hnj⟩ : ∃ nj, p[d - 1]? = some nj := ⟨_, List.getElem?_eq_getElem hjp⟩
            have hvj := ha2 (d - 1) nj (by omega) hnj
            have hnj2 : (p.take d)[d - 1]? = some nj := by rw [List.getElem?_take, if_pos (by omega)]; exact hnj
            have HNJ := Lib.hid hnj2; have HVJ := Lib.hid hvj
            have HD0 := Lib.hid hd0
            have hl1 : d - 1 < d := by omega
            have i2 : (d : Int) - 1 = ((d - 1 : Nat) : Int) := by omega
            clear hnj hnj2 hvj hjp ha2 hd0
            go_wp2_with (at_builtin; (refine app_all _ rfl (.tmp 54) (.tmp 58) rfl (wr.heap.size + 1) _ [] (p.take d) Ap cp wr.heap.size rfl HM0.out (by rw [HPD.out]; rfl) hAp HRP.out (by rw [HPD.out]; simp; omega) (by simp) ?_); intro v5 w5 hown5 hk5 _; have hb5 : Below (wr.alloc (rowO ⟨⟨(d : Nat), kx, nx, tx, ax⟩, Ax, cx⟩)).heap.size (wr.alloc (rowO ⟨⟨(d : Nat), kx, nx, tx, ax⟩, Ax, cx⟩)) w5 := (by rw [World.size_alloc]; exact hk5 _ HBL.out); have hbw5 := bt (below_new wr (rowO ⟨⟨(d : Nat), kx, nx, tx, ax⟩, Ax, cx⟩)) hb5; have e0 : w5.cell? ⟨wr.heap.size, 0, none⟩ = some (.int .i64 (d : Nat)) := Ro.box_kept hb5 0; have e1 : w5.cell? ⟨wr.heap.size, 1, none⟩ = some (.int .i64 kx) := Ro.box_kept hb5 1; have e2 : w5.cell? ⟨wr.heap.size, 2, none⟩ = some (.string nx) := Ro.box_kept hb5 2; obtain ⟨A5, c5, rfl, hc5, hm5, hr5⟩ := Sown.form hown5; have hown6 : Sown (wr.heap.size + 1) w5 (.slice A5 d c5) (p.take d) := (by have h6 := hown5; rw [List.nil_append, HPD.out] at h6; exact h6); have HOW := Lib.hid hown6; have SZ5 := hb5.size; have HB5 := Lib.hid hbw5; have HR5 := Lib.hid (show Rd w5 w5.heap.size A5 (p.take d) from hr5); have hl5 : ([] ++ p.take d).length = d := HPD.out; rw [hl5]; obtain ⟨hlt5, hel5⟩ := List.getElem?_eq_some_iff.1 HNJ.out; obtain ⟨b5, o5, rfl, _, hc5'⟩ := HR5.out (by have := HD0.out; rw [HPD.out]; omega); have hcj : w5.cell? ⟨b5, o5 + (d - 1), none⟩ = some (.string nj) := (by have h7 := hc5' (d - 1) hlt5; rw [hel5] at h7; exact h7); clear hlt5 hel5 hc5'; clear hown5 hown6 hk5 hb5 hbw5 hr5 hl5)
            have HWZ := Lib.hid (show wr.heap.size < w5.heap.size from Nat.lt_of_lt_of_le (by simp) (show (wr.alloc (rowO ⟨⟨(d : Nat), kx, nx, tx, ax⟩, Ax, cx⟩)).heap.size ≤ w5.heap.size from SZ5))
            go_wp2_with fail
            refine (void1 nj w5 false HVJ.out).mono ?_
            rintro e w6 ⟨rfl, b6⟩
            have d1 : w6.cell? ⟨wr.heap.size, 1, none⟩ = some (.int .i64 kx) := (b6.cell (p := ⟨wr.heap.size, 1, none⟩) (Nat.lt_of_lt_of_le HWZ.out (Nat.le_refl _))).trans e1
            have d2 : w6.cell? ⟨wr.heap.size, 2, none⟩ = some (.string nx) := (b6.cell (p := ⟨wr.heap.size, 2, none⟩) (Nat.lt_of_lt_of_le HWZ.out (Nat.le_refl _))).trans e2
            go_wp2_with fail
            refine (nested_any nx _ (p.take d) w6 (by rw [HPD.out]; omega) ((sv_own (HOW.out.below b6 (Nat.le_refl _)))) true HNE.out).mono ?_
            rintro e w7 ⟨rfl, b7⟩
            have HOW7 := Lib.hid ((HOW.out.below b6 (Nat.le_refl _)).below b7 (Nat.le_refl _)); have HB7 := Lib.hid (bt (bt HB5.out b6) b7)
            have q2 : w7.cell? ⟨wr.heap.size, 2, none⟩ = some (.string nx) := (b7.cell (p := ⟨wr.heap.size, 2, none⟩) (Nat.lt_of_lt_of_le HWZ.out b6.size)).trans d2
            have hz7 : wr.heap.size < w7.heap.size := Nat.lt_of_lt_of_le (Nat.lt_of_lt_of_le HWZ.out b6.size) b7.size
            clear b7
            go_wp2_with fail
            refine (gone1 nx w7 false HGO.out).mono ?_
            rintro e w8 ⟨rfl, b8⟩
            have HOW8 := Lib.hid (HOW7.out.below b8 (Nat.le_refl _)); have HB8 := Lib.hid (bt HB7.out b8)
            have r2 : w8.cell? ⟨wr.heap.size, 2, none⟩ = some (.string nx) := (b8.cell (p := ⟨wr.heap.size, 2, none⟩) hz7).trans q2
            have hz8 : wr.heap.size < w8.heap.size := Nat.lt_of_lt_of_le hz7 b8.size
            have HZN := Lib.hid (show wr.heap.size + 1 ≤ w8.heap.size from hz8)
            clear b8
            go_wp2_with (at_builtin; refine app_one w8 rfl (.tmp 85) (.tmp 88) rfl (wr.heap.size + 1) _ (p.take d) nx rfl HOW8.out rfl (by rw [HPD.out]; omega) HZN.out ?_; intro v9 w9 hown9 hk9 _)
            have hb9 := hk9 _ ((show Below (wr.heap.size + 1) w8 w8 from Below.refl _ _))
            have HBF := Lib.hid (HB8.out.trans (hb9.mono (Nat.le_succ _)))
            go_roundw
            case rel => exact ⟨k + 1, by go_num, by omega, by rw [HPA.out]; exact hown9.mono (by have := HBE.out.size; simp; omega), by rw [HPA.out, List.length_append, HPD.out]; simp; omega, bt HBE.out HBF.out⟩
            case measure => simp [intOf]; omega
        · have gk : (kx != 0) = true := by rw [bne_iff_ne]; exact hk0
          rw [if_neg hk0, List.append_nil] at hpa
          have HPA := Lib.hid hpa
          clear hpa ha3 hk0
          rcases Nat.eq_zero_or_pos d with hd0 | hd0
          · have gd : decide ((0 : Int) < (d : Int)) = false := decide_eq_false (by omega)
            have gd2 : decide (0 < d) = false := decide_eq_false (by omega)
            clear hd0
            go_wp2_with (at_builtin; (refine app_all _ rfl (.tmp 54) (.tmp 58) rfl (wr.heap.size + 1) _ [] (p.take d) Ap cp wr.heap.size rfl HM0.out (by rw [HPD.out]; rfl) hAp HRP.out (by rw [HPD.out]; simp; omega) (by simp) ?_); intro v5 w5 hown5 hk5 _; have hb5 : Below (wr.alloc (rowO ⟨⟨(d : Nat), kx, nx, tx, ax⟩, Ax, cx⟩)).heap.size (wr.alloc (rowO ⟨⟨(d : Nat), kx, nx, tx, ax⟩, Ax, cx⟩)) w5 := (by rw [World.size_alloc]; exact hk5 _ HBL.out); have hbw5 := bt (below_new wr (rowO ⟨⟨(d : Nat), kx, nx, tx, ax⟩, Ax, cx⟩)) hb5; have e0 : w5.cell? ⟨wr.heap.size, 0, none⟩ = some (.int .i64 (d : Nat)) := Ro.box_kept hb5 0; have e1 : w5.cell? ⟨wr.heap.size, 1, none⟩ = some (.int .i64 kx) := Ro.box_kept hb5 1; have e2 : w5.cell? ⟨wr.heap.size, 2, none⟩ = some (.string nx) := Ro.box_kept hb5 2; obtain ⟨A5, c5, rfl, hc5, hm5, hr5⟩ := Sown.form hown5; have hown6 : Sown (wr.heap.size + 1) w5 (.slice A5 d c5) (p.take d) := (by have h6 := hown5; rw [List.nil_append, HPD.out] at h6; exact h6); have HOW := Lib.hid hown6; have SZ5 := hb5.size; have HB5 := Lib.hid hbw5; have HR5 := Lib.hid (show Rd w5 w5.heap.size A5 (p.take d) from hr5); have hl5 : ([] ++ p.take d).length = d := HPD.out; rw [hl5]; clear hown5 hown6 hk5 hb5 hbw5 hr5 hl5)
            have HWZ := Lib.hid (show wr.heap.size < w5.heap.size from Nat.lt_of_lt_of_le (by simp) (show (wr.alloc (rowO ⟨⟨(d : Nat), kx, nx, tx, ax⟩, Ax, cx⟩)).heap.size ≤ w5.heap.size from SZ5))
            go_wp2
            go_roundw
            case rel => exact ⟨k + 1, by go_num, by omega, by rw [HPA.out]; exact HOW.out.mono (by have := HBE.out.size; simp; omega), by rw [HPA.out, HPD.out]; omega, bt HBE.out HB5.out⟩
            case measure => simp [intOf]; omega
          · have gd : decide ((0 : Int) < (d : Int)) = true := decide_eq_true (by omega)
            have gd2 : decide (0 < d) = true := decide_eq_true (by omega)
            have hjp : d - 1 < p.length := by omega
            obtain ⟨nj, hnj⟩ : ∃ nj, p[d - 1]? = some nj := ⟨_, List.getElem?_eq_getElem hjp⟩
            have hvj := ha2 (d - 1) nj (by omega) hnj
            have hnj2 : (p.take d)[d - 1]? = some nj := by rw [List.getElem?_take, if_pos (by omega)]; exact hnj
            have HNJ := Lib.hid hnj2; have HVJ := Lib.hid hvj
            have HD0 := Lib.hid hd0
            have hl1 : d - 1 < d := by omega
            have i2 : (d : Int) - 1 = ((d - 1 : Nat) : Int) := by omega
            clear hnj hnj2 hvj hjp ha2 hd0
            go_wp2_with (at_builtin; (refine app_all _ rfl (.tmp 54) (.tmp 58) rfl (wr.heap.size + 1) _ [] (p.take d) Ap cp wr.heap.size rfl HM0.out (by rw [HPD.out]; rfl) hAp HRP.out (by rw [HPD.out]; simp; omega) (by simp) ?_); intro v5 w5 hown5 hk5 _; have hb5 : Below (wr.alloc (rowO ⟨⟨(d : Nat), kx, nx, tx, ax⟩, Ax, cx⟩)).heap.size (wr.alloc (rowO ⟨⟨(d : Nat), kx, nx, tx, ax⟩, Ax, cx⟩)) w5 := (by rw [World.size_alloc]; exact hk5 _ HBL.out); have hbw5 := bt (below_new wr (rowO ⟨⟨(d : Nat), kx, nx, tx, ax⟩, Ax, cx⟩)) hb5; have e0 : w5.cell? ⟨wr.heap.size, 0, none⟩ = some (.int .i64 (d : Nat)) := Ro.box_kept hb5 0; have e1 : w5.cell? ⟨wr.heap.size, 1, none⟩ = some (.int .i64 kx) := Ro.box_kept hb5 1; have e2 : w5.cell? ⟨wr.heap.size, 2, none⟩ = some (.string nx) := Ro.box_kept hb5 2; obtain ⟨A5, c5, rfl, hc5, hm5, hr5⟩ := Sown.form hown5; have hown6 : Sown (wr.heap.size + 1) w5 (.slice A5 d c5) (p.take d) := (by have h6 := hown5; rw [List.nil_append, HPD.out] at h6; exact h6); have HOW := Lib.hid hown6; have SZ5 := hb5.size; have HB5 := Lib.hid hbw5; have HR5 := Lib.hid (show Rd w5 w5.heap.size A5 (p.take d) from hr5); have hl5 : ([] ++ p.take d).length = d := HPD.out; rw [hl5]; obtain ⟨hlt5, hel5⟩ := List.getElem?_eq_some_iff.1 HNJ.out; obtain ⟨b5, o5, rfl, _, hc5'⟩ := HR5.out (by have := HD0.out; rw [HPD.out]; omega); have hcj : w5.cell? ⟨b5, o5 + (d - 1), none⟩ = some (.string nj) := (by have h7 := hc5' (d - 1) hlt5; rw [hel5] at h7; exact h7); clear hlt5 hel5 hc5'; clear hown5 hown6 hk5 hb5 hbw5 hr5 hl5)
            have HWZ := Lib.hid (show wr.heap.size < w5.heap.size from Nat.lt_of_lt_of_le (by simp) (show (wr.alloc (rowO ⟨⟨(d : Nat), kx, nx, tx, ax⟩, Ax, cx⟩)).heap.size ≤ w5.heap.size from SZ5))
            go_wp2_with fail
            refine (void1 nj w5 false HVJ.out).mono ?_
            rintro e w6 ⟨rfl, b6⟩
            have d1 : w6.cell? ⟨wr.heap.size, 1, none⟩ = some (.int .i64 kx) := (b6.cell (p := ⟨wr.heap.size, 1, none⟩) (Nat.lt_of_lt_of_le HWZ.out (Nat.le_refl _))).trans e1
            have d2 : w6.cell? ⟨wr.heap.size, 2, none⟩ = some (.string nx) := (b6.cell (p := ⟨wr.heap.size, 2, none⟩) (Nat.lt_of_lt_of_le HWZ.out (Nat.le_refl _))).trans e2
            go_wp2
            go_roundw
            case rel => exact ⟨k + 1, by go_num, by omega, by rw [HPA.out]; exact (HOW.out.below b6 (Nat.le_refl _)).mono (by have := HBE.out.size; simp; omega), by rw [HPA.out, HPD.out]; omega, bt HBE.out (bt HB5.out b6)⟩
            case measure => simp [intOf]; omega
      · have HBE := Lib.hid hbel
        clear hso hbel
        go_wp2_with fail
        refine (fixed_any wr (HT.out.below (bt (bt HB1.out HB4.out) HBE.out))).mono ?_
        rintro e w5 ⟨rfl, b5⟩
        have HB5 := Lib.hid (bt (bt (bt HB1.out HB4.out) HBE.out) b5)
        clear b5
        go_wp2
        go_ret
        exact ⟨rfl, HB5.out⟩

end Go.Proofs.YtoijeljjehjfjaaDoor.Bu
