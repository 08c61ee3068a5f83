/-
  Tokens that are written, and cut again: lists of tokens as a document can have them (Good), what they come back as (fin).
-/
import Derived.Test.YtjhhhlomkfnniaaDoorTokBulk
namespace Go.Proofs.YtjhhhlomkfnniaaDoor.Tm
set_option linter.unusedVariables false
set_option linter.unusedSimpArgs false
open Ba Fm Rm Nm
open Ro (At)

theorem dec_esc_app (q : Bool) (l x : List UInt8) : dec (esc q l ++ x) = l ++ dec x := by
  refine writes q (Q := fun l => dec (esc q l ++ x) = l ++ dec x) (by rw [esc_nil]; rfl) (fun r ih => ?_) (fun c r hc ih => ?_) l
  · rw [esc_nbsp, List.append_assoc]
    refine (dec_ref (b := [110, 98, 115, 112]) (t := [194, 160]) (esc q r ++ x) (by decide) (by decide)).trans ?_
    rw [ih]; rfl
  · rw [esc_byte q hc, List.append_assoc]
    unfold e1
    split
    · rename_i e; subst e
      refine (dec_ref (b := [97, 109, 112]) (t := [38]) (esc q r ++ x) (by decide) (by decide)).trans ?_
      rw [ih]; rfl
    split
    · rename_i e; subst e
      refine (dec_ref (b := [108, 116]) (t := [60]) (esc q r ++ x) (by decide) (by decide)).trans ?_
      rw [ih]; rfl
    split
    · rename_i e; subst e
      refine (dec_ref (b := [103, 116]) (t := [62]) (esc q r ++ x) (by decide) (by decide)).trans ?_
      rw [ih]; rfl
    split
    · rename_i e; obtain ⟨rfl, _⟩ := e
      refine (dec_ref (b := [113, 117, 111, 116]) (t := [34]) (esc q r ++ x) (by decide) (by decide)).trans ?_
      rw [ih]; rfl
    · rename_i h _ _ _
      refine (dec_byte (esc q r ++ x) h).trans ?_
      rw [ih]; rfl

/-- A tag's name, as it is cut. -/
def nmOk (n : List UInt8) : Prop := by1 lr n = true ∧ ∀ c ∈ n, en c = false ∧ low c = c
theorem nm_low {n : List UInt8} (h : ∀ c ∈ n, low c = c) : lowL n = n := by
  unfold lowL
  exact (List.map_congr_left h).trans (List.map_id _)
/-- An attribute's name, as it is cut. -/
def aOk (a : At) : Prop := ∃ c t, L a.name = c :: t ∧ c ≠ 62 ∧ c ≠ 47 ∧ sp c = false ∧ low c = c ∧ ∀ x ∈ t, ea x = false ∧ low x = x
def asOk (l : List At) : Prop := (∀ a ∈ l, aOk a) ∧ l.Pairwise fun a b => a.name ≠ b.name
theorem at_back {a : At} {c : UInt8} {t r : List UInt8} (hn : L a.name = c :: t) (hc : low c = c) (ht : ∀ x ∈ t, ea x = false ∧ low x = x) :
    attr c (t ++ 61 :: 34 :: (esc true (L a.value) ++ 34 :: r)) = (a, r) := by
  obtain ⟨u1, u2⟩ := upTo_stop (q := ea) (s := t) (c := 61) (r := 34 :: (esc true (L a.value) ++ 34 :: r)) (fun x hx => (ht x hx).1) (by decide)
  have hv : valued (61 :: 34 :: (esc true (L a.value) ++ 34 :: r)) = (L a.value, r) := by
    obtain ⟨v1, v2⟩ := upTo_stop (q := is 34) (s := esc true (L a.value)) (c := 34) (r := r) (fun x hx => by
      unfold is
      rw [beq_eq_false_iff_ne]
      intro e
      rw [e] at hx
      exact (esc_free true (L a.value)).2.2 rfl hx) (by decide)
    unfold valued
    rw [if_pos (by rfl)]
    have hval : value (trimS (34 :: (esc true (L a.value) ++ 34 :: r))) = (esc true (L a.value), r) := by
      rw [trimS_no _ (by decide)]
      unfold value
      rw [if_pos (by rfl)]
      show quo 34 (esc true (L a.value) ++ 34 :: r) = _
      unfold quo
      rw [v1, v2]
      rfl
    show (dec (value (trimS (34 :: (esc true (L a.value) ++ 34 :: r)))).1, (value (trimS (34 :: (esc true (L a.value) ++ 34 :: r)))).2) = _
    rw [hval]
    show (dec (esc true (L a.value)), r) = _
    rw [dec_esc]
  rw [To.attr_eq, u1, u2, trimS_no _ (by decide), hv]
  have hl : lowL (c :: t) = c :: t := nm_low (fun x hx => by
    rcases List.mem_cons.1 hx with e | e
    · rw [e]; exact hc
    · exact (ht x e).2)
  rw [hl, ← hn, B_L, B_L]
theorem put_new {acc : List At} {a : At} (h : ∀ b ∈ acc, b.name ≠ a.name) : put acc a = acc ++ [a] := by
  unfold put
  rw [if_neg]
  unfold known
  rw [List.any_eq_true]
  rintro ⟨b, hb, e⟩
  exact h b hb (of_decide_eq_true e)
theorem attrs_back : ∀ (l acc : List At) (sf : Bool) (r : List UInt8), (∀ a ∈ l, aOk a) → (acc ++ l).Pairwise (fun a b => a.name ≠ b.name) →
    attrs false acc (l.flatMap wAttr ++ ((if sf = true then [32, 47] else []) ++ 62 :: r)) = some (acc ++ l, sf, r)
  | [], acc, sf, r, _, _ => by
    rw [List.append_nil]
    cases sf with
    | false => exact attrs_end _ _ _
    | true =>
      show attrs false acc (32 :: 47 :: 62 :: r) = _
      rw [attrs_skip _ _ _ (by decide) (.inr (by decide)), attrs_skip _ _ _ (by decide) (.inl rfl)]
      exact attrs_end _ _ _
  | a :: l, acc, sf, r, h, hp => by
    obtain ⟨c, t, hn, c1, c2, c3, c4, ht⟩ := h a List.mem_cons_self
    have e : (a :: l).flatMap wAttr ++ ((if sf = true then [32, 47] else []) ++ 62 :: r) = 32 :: c :: (t ++ 61 :: 34 :: (esc true (L a.value) ++ 34 :: (l.flatMap wAttr ++ ((if sf = true then [32, 47] else []) ++ 62 :: r)))) := by
      rw [List.flatMap_cons]
      unfold wAttr
      rw [hn]
      simp only [List.append_assoc, List.cons_append, List.nil_append]
    rw [e, attrs_skip _ _ _ (by decide) (.inr (by decide)), attrs_attr _ _ _ c1 (by rw [c3]; simpa using c2), at_back hn c4 ht]
    have hp' : ∀ b ∈ acc, b.name ≠ a.name := fun b hb => (List.pairwise_append.1 hp).2.2 b hb a List.mem_cons_self
    rw [put_new hp']
    have := attrs_back l (acc ++ [a]) sf r (fun b hb => h b (List.mem_cons_of_mem _ hb)) (by rw [List.append_assoc]; exact hp)
    rw [this, List.append_assoc]
    rfl

/-- What a start tag written is cut as. -/
theorem start_back {n : List UInt8} (hn : nmOk n) {l : List At} (ha : asOk l) (sf : Bool) (r : List UInt8) :
    startTag (n ++ (l.flatMap wAttr ++ ((if sf = true then [32, 47] else []) ++ 62 :: r))) = (⟨1, B n, B [], l, sf⟩ :: (cont n r).1, (cont n r).2) := by
  have hu : ∀ X : List UInt8, by1 en X = true → upTo en (n ++ X) = n ∧ from_ en (n ++ X) = X := fun X hX => by
    cases X with
    | nil => cases hX
    | cons c q => exact upTo_stop (fun x hx => (hn.2 x hx).1) hX
  have hX : by1 en (l.flatMap wAttr ++ ((if sf = true then [32, 47] else []) ++ 62 :: r)) = true := by
    cases l with
    | nil => cases sf <;> rfl
    | cons a q => rfl
  obtain ⟨u1, u2⟩ := hu _ hX
  have hat : attrs false [] (from_ en (n ++ (l.flatMap wAttr ++ ((if sf = true then [32, 47] else []) ++ 62 :: r)))) = some (l, sf, r) := by
    rw [u2]
    have := attrs_back l [] sf r ha.1 (by rw [List.nil_append]; exact ha.2)
    rwa [List.nil_append] at this
  have := (To.start_yes hat).1
  rw [u1, nm_low (fun c hc => (hn.2 c hc).2)] at this
  exact this
theorem end_back {n : List UInt8} (hn : nmOk n) (r : List UInt8) : endTag (n ++ 62 :: r) = ([⟨2, B n, B [], [], false⟩], r) := by
  obtain ⟨u1, u2⟩ := upTo_stop (q := en) (s := n) (c := 62) (r := r) (fun x hx => (hn.2 x hx).1) (by decide)
  have hat : attrs false [] (from_ en (n ++ 62 :: r)) = some ([], false, r) := by rw [u2]; exact attrs_end _ _ _
  have := (To.start_yes hat).2
  rw [u1, nm_low (fun c hc => (hn.2 c hc).2)] at this
  exact this
theorem begun_name {n r : List UInt8} (hn : nmOk n) : begun (60 :: (n ++ r)) = 1 ∧ begun (60 :: 47 :: (n ++ r)) = 2 := by
  cases n with
  | nil => exact absurd hn.1 (by decide)
  | cons c q =>
    have hc : lr c = true := hn.1
    refine ⟨?_, ?_⟩
    · show begun (60 :: c :: (q ++ r)) = 1
      rw [To.begun_two, if_pos rfl, if_pos hc]
    · show begun (60 :: 47 :: c :: (q ++ r)) = 2
      rw [To.begun_two, if_pos rfl, if_neg (by decide), if_pos rfl]
      show (if lr c = true then 2 else if c = 62 then 3 else 6) = 2
      rw [if_pos hc]

/-- A written text: decoded it is this, whatever stands behind it; it begins nothing. -/
def Clo (e p : List UInt8) : Prop := (60 : UInt8) ∉ e ∧ ∀ x, dec (e ++ x) = p ++ dec x
theorem clo_nil : Clo [] [] := ⟨by simp, fun x => rfl⟩
theorem Clo.esc {e p : List UInt8} (h : Clo e p) (d : List UInt8) : Clo (e ++ esc false d) (p ++ d) :=
  ⟨fun c => (List.mem_append.1 c).elim h.1 (esc_free false d).1, fun x => by rw [List.append_assoc, h.2, dec_esc_app, List.append_assoc]⟩
theorem Clo.dec {e p : List UInt8} (h : Clo e p) : dec e = p := by
  have := h.2 []
  rwa [List.append_nil, Rm.dec_nil, List.append_nil] at this
theorem cut_clo {e p r : List UInt8} (h : Clo e p) (hb : begun r ≠ 0) : cut (e ++ r) = txt p ++ ((mk r).1 ++ cut (mk r).2) := by
  obtain ⟨h1, h2⟩ := begins hb
  have := cut_at h.1 h1
  rwa [h2, h.dec] at this

/-- An element of this name has text alone. -/
def softOr (n : List UInt8) : Bool := rawB n || softB n
/-- Lists of tokens as a document has them. -/
inductive Good : List Tk → Prop
  | nil : Good []
  | text (d : List UInt8) (r : List Tk) : d ≠ [] → Good r → Good (tx d :: r)
  | comment (d : List UInt8) (r : List Tk) : (∀ x, comm (d ++ ([45, 45, 62] ++ x)) = (d, x)) → Good r → Good (⟨3, B [], B d, [], false⟩ :: r)
  | doctype (d : List UInt8) (r : List Tk) : (62 : UInt8) ∉ d → trimL d = d → Good r → Good (⟨4, B [], B d, [], false⟩ :: r)
  | end_ (n : List UInt8) (r : List Tk) : nmOk n → Good r → Good (⟨2, B n, B [], [], false⟩ :: r)
  | start (n : List UInt8) (l : List At) (sf : Bool) (r : List Tk) : nmOk n → asOk l → softOr n = false → Good r → Good (⟨1, B n, B [], l, sf⟩ :: r)
  | raw (n : List UInt8) (l : List At) (sf : Bool) (d : List UInt8) (r : List Tk) : nmOk n → asOk l → rawB n = true → d ≠ [] → lead (isEnd n) (d ++ wAll false r) = d → trail (isEnd n) (d ++ wAll false r) = wAll false r → Good r → Good (⟨1, B n, B [], l, sf⟩ :: tx d :: r)
  | soft (n : List UInt8) (l : List At) (sf : Bool) (d : List UInt8) (r : List Tk) : nmOk n → asOk l → rawB n = false → softB n = true → d ≠ [] → lead (isEnd n) (esc false d ++ wAll false r) = esc false d → trail (isEnd n) (esc false d ++ wAll false r) = wAll false r → Good r → Good (⟨1, B n, B [], l, sf⟩ :: tx d :: r)
  | none_ (n : List UInt8) (l : List At) (sf : Bool) (r : List Tk) : nmOk n → asOk l → softOr n = true → (∀ d q, r ≠ tx d :: q) → wAll true r = wAll false r → lead (isEnd n) (wAll false r) = [] → trail (isEnd n) (wAll false r) = wAll false r → Good r → Good (⟨1, B n, B [], l, sf⟩ :: r)

end Go.Proofs.YtjhhhlomkfnniaaDoor.Tm
