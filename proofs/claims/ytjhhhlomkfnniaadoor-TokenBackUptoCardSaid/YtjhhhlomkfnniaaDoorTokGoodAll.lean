/-
  The tokens of any document are a good list; written, cut and written again they stay.
-/
import Derived.Test.YtjhhhlomkfnniaaDoorTokFin
namespace Go.Proofs.YtjhhhlomkfnniaaDoor.Tm
set_option linter.unusedVariables false
set_option linter.unusedSimpArgs false
open Ba Fm Rm Nm
open Ro (At)

theorem low_en {c : UInt8} (h : en c = false) : en (low c) = false := by
  obtain ⟨h1, h2, h3⟩ := en_no h
  by_cases hu : 65 ≤ c ∧ c ≤ 90
  · have e1 := UInt8.le_iff_toNat_le.1 hu.1
    have e2 := UInt8.le_iff_toNat_le.1 hu.2
    have e65 : (65 : UInt8).toNat = 65 := rfl
    have e90 : (90 : UInt8).toNat = 90 := rfl
    have hl : (low c).toNat = c.toNat + 32 := by
      unfold low
      rw [if_pos hu, UInt8.toNat_add]
      simp
      omega
    have ne : ∀ k : UInt8, k.toNat < 97 → (low c == k) = false := fun k hk => by
      rw [beq_eq_false_iff_ne]
      intro e
      rw [e] at hl
      omega
    unfold en ev sp
    rw [ne 32 (by decide), ne 9 (by decide), ne 10 (by decide), ne 12 (by decide), ne 13 (by decide), ne 62 (by decide), ne 47 (by decide)]
    rfl
  · have hl : low c = c := by unfold low; rw [if_neg hu]
    rw [hl]; exact h
theorem low_ea {c : UInt8} (h : ea c = false) : ea (low c) = false := by
  unfold ea at h ⊢
  rw [Bool.or_eq_false_iff] at h ⊢
  refine ⟨?_, low_en h.2⟩
  by_cases hu : 65 ≤ c ∧ c ≤ 90
  · have e1 := UInt8.le_iff_toNat_le.1 hu.1
    have e2 := UInt8.le_iff_toNat_le.1 hu.2
    have e65 : (65 : UInt8).toNat = 65 := rfl
    have e90 : (90 : UInt8).toNat = 90 := rfl
    have hl : (low c).toNat = c.toNat + 32 := by
      unfold low
      rw [if_pos hu, UInt8.toNat_add]
      simp
      omega
    rw [beq_eq_false_iff_ne]
    intro e
    have : (low c).toNat = 61 := by rw [e]; rfl
    omega
  · have hl : low c = c := by unfold low; rw [if_neg hu]
    rw [hl]; exact h.1
theorem lr_low {c : UInt8} (h : lr c = true) : lr (low c) = true := by
  unfold lr at h ⊢
  have e65 : (65 : UInt8).toNat = 65 := rfl
  have e90 : (90 : UInt8).toNat = 90 := rfl
  have e97 : (97 : UInt8).toNat = 97 := rfl
  have e122 : (122 : UInt8).toNat = 122 := rfl
  by_cases hu : 65 ≤ c ∧ c ≤ 90
  · have e1 := UInt8.le_iff_toNat_le.1 hu.1
    have e2 := UInt8.le_iff_toNat_le.1 hu.2
    have hl : (low c).toNat = c.toNat + 32 := by
      unfold low
      rw [if_pos hu, UInt8.toNat_add]
      simp
      omega
    have a1 : decide (97 ≤ low c) = true := decide_eq_true (UInt8.le_iff_toNat_le.2 (by omega))
    have a2 : decide (low c ≤ 122) = true := decide_eq_true (UInt8.le_iff_toNat_le.2 (by omega))
    simp [a1, a2]
  · have hl : low c = c := by unfold low; rw [if_neg hu]
    rw [hl]; exact h
theorem nmOk_cut {l : List UInt8} (h : by1 lr l = true) : nmOk (lowL (upTo en l)) := by
  refine ⟨?_, fun c hc => ?_⟩
  · cases l with
    | nil => cases h
    | cons c r =>
      show by1 lr (lowL (lead (by1 en) (c :: r))) = true
      rw [lead_no (show by1 en (c :: r) = false from lr_no h)]
      exact lr_low h
  · unfold lowL at hc
    obtain ⟨x, hx, rfl⟩ := List.mem_map.1 hc
    exact ⟨low_en (lead_mem hx), low_low x⟩
theorem aOk_cut {c : UInt8} (r : List UInt8) (h1 : c ≠ 62) (h2 : c ≠ 47) (h3 : sp c = false) : aOk (attr c r).1 := by
  have hen : en c = false := by
    unfold en ev
    rw [beq_eq_false_iff_ne.2 h2, beq_eq_false_iff_ne.2 h1, h3]
    rfl
  obtain ⟨k1, k2, k3⟩ := en_no (low_en hen)
  refine ⟨low c, lowL (upTo ea r), ?_, k2, k1, k3, low_low c, fun x hx => ?_⟩
  · show L (B (lowL (c :: upTo ea r))) = _
    rw [L_B]; rfl
  · unfold lowL at hx
    obtain ⟨y, hy, rfl⟩ := List.mem_map.1 hx
    exact ⟨low_ea (lead_mem hy), low_low y⟩
theorem asOk_put {l : List At} {a : At} (h : asOk l) (ha : aOk a) : asOk (put l a) := by
  unfold put
  split
  · exact h
  · rename_i hk
    refine ⟨fun b hb => ?_, ?_⟩
    · rcases List.mem_append.1 hb with e | e
      · exact h.1 b e
      · rw [List.mem_singleton.1 e]; exact ha
    · rw [List.pairwise_append]
      refine ⟨h.2, List.pairwise_singleton _ _, fun b hb c hc e => ?_⟩
      rw [List.mem_singleton.1 hc] at e
      apply hk
      unfold known
      rw [List.any_eq_true]
      exact ⟨b, hb, decide_eq_true e⟩
theorem asOk_cut (l : List UInt8) : ∀ (self : Bool) (acc bs : List At) (sf : Bool) (r : List UInt8), asOk acc → attrs self acc l = some (bs, sf, r) → asOk bs := by
  induction hn : l.length using Nat.strongRecOn generalizing l with
  | ind n ih =>
    intro self acc bs sf r ha h
    subst hn
    cases l with
    | nil => rw [attrs_nil] at h; cases h
    | cons c q =>
      by_cases h1 : c = 62
      · subst h1
        rw [attrs_end] at h
        injection h with h
        injection h with h _
        rw [← h]; exact ha
      · by_cases h2 : c = 47 ∨ sp c = true
        · rw [attrs_skip _ _ _ h1 h2] at h
          exact ih q.length (by simp) q rfl _ _ _ _ _ ha h
        · rw [attrs_attr _ _ _ h1 h2] at h
          have hq := len_attr c q
          have hs : sp c = false := by
            cases e : sp c with
            | true => exact absurd (.inr e) h2
            | false => rfl
          exact ih (attr c q).2.length (by simp only [List.length_cons]; omega) _ rfl _ _ _ _ _ (asOk_put ha (aOk_cut q h1 (fun e => h2 (.inl e)) hs)) h
theorem asOk_nil : asOk [] := ⟨(fun a h => by cases h), List.Pairwise.nil⟩

/-- No rest of what a search has passed fits. -/
theorem lead_not {p : List UInt8 → Bool} : ∀ {l q : List UInt8}, q ≠ [] → q <:+ lead p l → p (q ++ trail p l) = false
  | [], q, hq, hs => absurd (List.suffix_nil.1 hs) hq
  | c :: r, q, hq, hs => by
    cases hp : p (c :: r) with
    | true => rw [lead_yes hp] at hs; exact absurd (List.suffix_nil.1 hs) hq
    | false =>
      rw [lead_no hp] at hs
      rw [trail_no hp]
      rcases List.suffix_cons_iff.1 hs with e | e
      · rw [e, List.cons_append, lead_trail]; exact hp
      · exact lead_not hq e
/-- An end tag's beginning within a name is none. -/
theorem isEnd_over {n q X : List UInt8} (hn : (60 : UInt8) ∉ lowL n) (hq : q ≠ []) (hl : q.length ≤ 2 + n.length) : isEnd n (q ++ 60 :: X) = false := by
  match q, hq with
  | [a], _ =>
    unfold isEnd
    rw [show pre [60, 47] ([a] ++ 60 :: X) = false from by
      show pre [60, 47] (a :: 60 :: X) = false
      rw [pre_cons, pre_cons]
      simp]
    rfl
  | a :: b :: t, _ =>
    simp only [List.length_cons] at hl
    unfold isEnd
    by_cases ht : t.length = n.length
    · have hd : ((a :: b :: t) ++ 60 :: X).drop (2 + n.length) = 60 :: X := by
        rw [← ht, show 2 + t.length = (a :: b :: t).length from by simp only [List.length_cons]; omega, List.drop_left]
      rw [hd, show by1 en (60 :: X) = false from by show en 60 = false; decide, Bool.and_false]
    · have hlt : t.length < n.length := by omega
      have hne : decide (lowL ((((a :: b :: t) ++ 60 :: X).drop 2).take n.length) = lowL n) = false := by
        refine decide_eq_false fun e => hn ?_
        rw [← e]
        show (60 : UInt8) ∈ lowL ((t ++ 60 :: X).take n.length)
        rw [List.take_append]
        unfold lowL
        rw [List.mem_map]
        refine ⟨60, ?_, by decide⟩
        obtain ⟨m, hm⟩ : ∃ m, n.length - t.length = m + 1 := ⟨n.length - t.length - 1, by omega⟩
        rw [hm, List.take_succ_cons]
        exact List.mem_append_right _ List.mem_cons_self
      rw [hne, Bool.and_false, Bool.false_and]

theorem pre_far {t q X : List UInt8} (h : t.length ≤ q.length) : pre t (q ++ X) = pre t q := by
  unfold pre
  rw [List.take_append, show t.length - q.length = 0 from by omega, List.take_zero, List.append_nil]
theorem isEnd_far {n q X : List UInt8} (h : 2 + n.length < q.length) : isEnd n (q ++ X) = isEnd n q := by
  unfold isEnd
  rw [pre_far (t := [60, 47]) (by show 2 ≤ _; omega), List.drop_append, List.drop_append, show 2 - q.length = 0 from by omega, show 2 + n.length - q.length = 0 from by omega, List.drop_zero]
  rw [List.take_append, show n.length - (q.drop 2).length = 0 from by rw [List.length_drop]; omega, List.take_zero, List.append_nil]
  congr 1
  cases hq : q.drop (2 + n.length) with
  | nil =>
    have := congrArg List.length hq
    rw [List.length_drop] at this
    simp at this
    omega
  | cons a r => rfl
theorem isEnd_near {n q : List UInt8} (h : q.length ≤ 2 + n.length) : isEnd n q = false := by
  unfold isEnd
  rw [List.drop_eq_nil_of_le h]
  simp [by1]
theorem isEnd_own {n X : List UInt8} : isEnd n (60 :: 47 :: (n ++ 62 :: X)) = true := by
  unfold isEnd
  rw [pre_cons, pre_cons, pre_nil]
  have h1 : ((60 :: 47 :: (n ++ 62 :: X)).drop 2).take n.length = n := by
    show (n ++ 62 :: X).take n.length = n
    exact List.take_left
  have h2 : (60 :: 47 :: (n ++ 62 :: X)).drop (2 + n.length) = 62 :: X := by
    rw [Nat.add_comm]
    show (n ++ 62 :: X).drop n.length = _
    exact List.drop_left
  rw [h1, h2]
  simp [by1, en, ev]
/-- What an end of an element of text alone is cut as. -/
def EndOf (n : List UInt8) (R : List Tk) : Prop := R = [] ∨ ∃ r, R = ⟨2, B n, B [], [], false⟩ :: r
theorem lr_of_low {c : UInt8} (h : lr (low c) = true) : lr c = true := by
  by_cases hu : 65 ≤ c ∧ c ≤ 90
  · unfold lr
    rw [decide_eq_true hu.1, decide_eq_true hu.2]; rfl
  · have hl : low c = c := by unfold low; rw [if_neg hu]
    rwa [hl] at h
theorem en_of_low {c : UInt8} (h : en (low c) = false) : en c = false := by
  by_cases hu : 65 ≤ c ∧ c ≤ 90
  · exact lr_no (by unfold lr; rw [decide_eq_true hu.1, decide_eq_true hu.2]; rfl)
  · have hl : low c = c := by unfold low; rw [if_neg hu]
    rwa [hl] at h
theorem end_cut {n Y : List UInt8} (hn : nmOk n) (h : isEnd n Y = true) : EndOf n (cut Y) := by
  have hnl := nm_low (fun c hc => (hn.2 c hc).2)
  unfold isEnd at h
  rw [Bool.and_eq_true, Bool.and_eq_true] at h
  obtain ⟨⟨h1, h2⟩, h3⟩ := h
  have h2 := of_decide_eq_true h2
  rw [hnl] at h2
  match Y, h1, h2, h3 with
  | [], h1, _, _ => rw [pre_none] at h1; cases h1
  | [a], h1, _, _ => rw [pre_cons, pre_none, Bool.and_false] at h1; cases h1
  | a :: b :: t, h1, h2, h3 =>
    rw [pre_cons, pre_cons, pre_nil, Bool.and_true, Bool.and_eq_true, decide_eq_true_iff, decide_eq_true_iff] at h1
    obtain ⟨rfl, rfl⟩ := h1
    have h2 : lowL (t.take n.length) = n := h2
    have h3 : by1 en (t.drop n.length) = true := by
      rw [Nat.add_comm] at h3
      exact h3
    have hall : ∀ c ∈ t.take n.length, en c = false := fun c hc => by
      apply en_of_low
      have : low c ∈ n := by rw [← h2]; exact List.mem_map_of_mem hc
      exact (hn.2 _ this).1
    have hut : upTo en t = t.take n.length ∧ from_ en t = t.drop n.length := by
      have e := List.take_append_drop n.length t
      cases hd : t.drop n.length with
      | nil => rw [hd] at h3; cases h3
      | cons c q =>
        rw [hd] at h3 e
        have := upTo_stop (q := en) (s := t.take n.length) (c := c) (r := q) hall h3
        rw [e] at this
        exact this
    have hb : begun (60 :: 47 :: t) = 2 := by
      rw [To.begun_two, if_pos rfl, if_neg (by decide), if_pos rfl]
      cases t with
      | nil =>
        rw [List.take_nil] at h2
        rw [← h2] at hn
        exact absurd hn.1 (by decide)
      | cons c q =>
        have hc : lr c = true := by
          cases n with
          | nil => exact absurd hn.1 (by decide)
          | cons a m =>
            rw [List.length_cons, List.take_succ_cons] at h2
            injection h2 with h2 _
            apply lr_of_low
            rw [h2]
            exact hn.1
        show (if lr c = true then 2 else if c = 62 then 3 else 6) = 2
        rw [if_pos hc]
    have hcut := cut_clo (e := []) (p := []) (r := 60 :: 47 :: t) clo_nil (by rw [hb]; decide)
    rw [List.nil_append, To.mk_2 hb] at hcut
    rw [hcut]
    show EndOf n ([] ++ ((endTag t).1 ++ cut (endTag t).2))
    cases ha : attrs false [] (from_ en t) with
    | none =>
      rw [(To.start_no ha).2]
      left
      show [] ++ ([] ++ cut []) = []
      rw [To.cut_nil]; rfl
    | some x =>
      obtain ⟨bs, sf, r⟩ := x
      rw [(To.start_yes ha).2, hut.1, h2]
      right
      exact ⟨cut r, rfl⟩
theorem EndOf.w {n : List UInt8} {R : List Tk} (h : EndOf n R) : (∀ raw, wAll raw R = wAll false R) ∧ (∀ d q, R ≠ tx d :: q) ∧ (wAll false R = [] ∨ ∃ X, wAll false R = 60 :: 47 :: (n ++ 62 :: X)) := by
  rcases h with rfl | ⟨r, rfl⟩
  · exact ⟨fun _ => rfl, fun d q e => (nomatch e), .inl rfl⟩
  · refine ⟨fun raw => by rw [wAll_cons, wAll_cons, w1_end, w1_end], fun d q e => ?_, .inr ⟨_, by rw [wAll_cons, w1_end]⟩⟩
    injection e with e _
    have := congrArg Tk.kind e
    exact absurd (show (2 : Int) = 0 from this) (by decide)
theorem raw_name {n : List UInt8} (h : softOr n = true) : (60 : UInt8) ∉ lowL n := by
  have hall : ∀ x ∈ rawL ++ softL, (60 : UInt8) ∉ lowL (L x) := by decide
  unfold softOr rawB softB at h
  rw [Bool.or_eq_true] at h
  have hm : B n ∈ rawL ++ softL := by
    rcases h with h | h
    · exact List.mem_append_left _ (isIn_of h)
    · exact List.mem_append_right _ (isIn_of h)
  have := hall _ hm
  rwa [L_B] at this
/-- The text ahead of an end tag, raw. -/
theorem raw_lead {n l : List UInt8} {R : List Tk} (hs : softOr n = true) (hR : EndOf n R) :
    lead (isEnd n) (lead (isEnd n) l ++ wAll false R) = lead (isEnd n) l ∧ trail (isEnd n) (lead (isEnd n) l ++ wAll false R) = wAll false R := by
  refine lead_to (fun q hq hsf => ?_) ?_
  · by_cases hl : 2 + n.length < q.length
    · have := lead_not (p := isEnd n) hq hsf
      rw [isEnd_far hl] at this ⊢
      exact this
    · rcases hR.w.2.2 with e | ⟨X, e⟩
      · rw [e, List.append_nil]; exact isEnd_near (by omega)
      · rw [e]; exact isEnd_over (raw_name hs) hq (by omega)
  · rcases hR.w.2.2 with e | ⟨X, e⟩
    · exact .inl e
    · exact .inr (by rw [e]; exact isEnd_own)
theorem soft_lead {n e : List UInt8} {R : List Tk} (he : (60 : UInt8) ∉ e) (hR : EndOf n R) :
    lead (isEnd n) (e ++ wAll false R) = e ∧ trail (isEnd n) (e ++ wAll false R) = wAll false R := by
  refine lead_to (fun q hq hsf => ?_) ?_
  · cases q with
    | nil => exact absurd rfl hq
    | cons c t =>
      have hc : c ≠ 60 := fun x => he (by rw [← x]; exact hsf.subset List.mem_cons_self)
      unfold isEnd
      rw [List.cons_append, pre_cons, decide_eq_false hc]
      rfl
  · rcases hR.w.2.2 with e' | ⟨X, e'⟩
    · exact .inl e'
    · exact .inr (by rw [e']; exact isEnd_own)

theorem cend_mem {l : List UInt8} (h : (62 : UInt8) ∉ l) : cend l = false := by
  have hp : ∀ t : List UInt8, (62 : UInt8) ∈ t → pre t l = false := fun t ht => by
    unfold pre
    refine decide_eq_false fun e => h ?_
    rw [← e] at ht
    exact List.mem_of_mem_take ht
  unfold cend
  rw [hp _ (by decide), hp _ (by decide)]
  rfl
theorem cend_app {q Y x : List UInt8} (hq : q ≠ []) (h : cend (q ++ Y) = false) : cend (q ++ ([45, 45, 62] ++ x)) = false := by
  obtain ⟨h1, h2⟩ := To.cend_no h
  unfold cend
  match q, hq, h1, h2 with
  | [a], _, _, _ => simp [pre_cons, pre_nil]
  | [a, b], _, _, _ => simp [pre_cons, pre_nil]
  | [a, b, c], _, h1, _ =>
    simp only [List.cons_append, List.nil_append, pre_cons, pre_nil, Bool.and_true] at h1 ⊢
    rw [h1]
    simp
  | a :: b :: c :: d :: r, _, h1, h2 =>
    simp only [List.cons_append, pre_cons, pre_nil, Bool.and_true] at h1 h2 ⊢
    rw [h1, h2]
    rfl
theorem comm_same {s : List UInt8} (h1 : ∀ x, pre [62] (s ++ ([45, 45, 62] ++ x)) = false) (h2 : ∀ x, pre [45, 62] (s ++ ([45, 45, 62] ++ x)) = false) (h3 : ∀ q, q ≠ [] → q <:+ s → ∃ Y, cend (q ++ Y) = false) (x : List UInt8) :
    comm (s ++ ([45, 45, 62] ++ x)) = (s, x) := by
  obtain ⟨l1, l2⟩ := lead_to (p := cend) (s := s) (r := [45, 45, 62] ++ x) (fun q hq hs => by
    obtain ⟨Y, hY⟩ := h3 q hq hs
    exact cend_app hq hY) (.inr (by
    show cend (45 :: 45 :: 62 :: x) = true
    unfold cend
    simp [pre_cons, pre_nil]))
  rw [To.comm_on (h1 x) (h2 x), l1, l2]
  have : pre [45, 45, 62] ([45, 45, 62] ++ x) = true := by
    show pre [45, 45, 62] (45 :: 45 :: 62 :: x) = true
    simp [pre_cons, pre_nil]
  rw [if_pos this]
  rfl
theorem comm_free {s : List UInt8} (h : (62 : UInt8) ∉ s) (x : List UInt8) : comm (s ++ ([45, 45, 62] ++ x)) = (s, x) := by
  refine comm_same (fun x => ?_) (fun x => ?_) (fun q _ hs => ⟨[], by rw [List.append_nil]; exact cend_mem fun e => h (hs.subset e)⟩) x
  · cases s with
    | nil => simp [pre_cons, pre_nil]
    | cons c q =>
      have hc : c ≠ 62 := fun e => h (by simp [e])
      simp [pre_cons, pre_nil, hc]
  · match s, h with
    | [], _ => simp [pre_cons, pre_nil]
    | [c], _ => simp [pre_cons, pre_nil]
    | c :: d :: q, h =>
      have hd : d ≠ 62 := fun e => h (by simp [e])
      simp [pre_cons, pre_nil, hd]
theorem comm_again (l x : List UInt8) : comm ((comm l).1 ++ ([45, 45, 62] ++ x)) = ((comm l).1, x) := by
  cases h1 : pre [62] l with
  | true => rw [To.comm_gt h1]; exact comm_free (s := []) (by simp) x
  | false =>
    cases h2 : pre [45, 62] l with
    | true => rw [To.comm_dash h1 h2]; exact comm_free (s := []) (by simp) x
    | false =>
      rw [To.comm_on h1 h2]
      have hl := lead_trail cend l
      show comm (lead cend l ++ ([45, 45, 62] ++ x)) = (lead cend l, x)
      refine comm_same (fun x => ?_) (fun x => ?_) (fun q hq hs => ⟨_, lead_not hq hs⟩) x
      · cases hd : lead cend l with
        | nil => simp [pre_cons, pre_nil]
        | cons c q =>
          rw [hd] at hl
          rw [← hl, List.cons_append, pre_cons, pre_nil, Bool.and_true] at h1
          rw [List.cons_append, pre_cons, pre_nil, Bool.and_true]
          exact h1
      · cases hd : lead cend l with
        | nil => simp [pre_cons, pre_nil]
        | cons c q =>
          cases q with
          | nil => simp [pre_cons, pre_nil]
          | cons d t =>
            rw [hd] at hl
            rw [← hl, List.cons_append, List.cons_append, pre_cons, pre_cons, pre_nil, Bool.and_true] at h2
            rw [List.cons_append, List.cons_append, pre_cons, pre_cons, pre_nil, Bool.and_true]
            exact h2

theorem good_txt {d : List UInt8} {R : List Tk} (h : Good R) : Good (txt d ++ R) := by
  unfold txt
  split
  · exact h
  · rename_i hd
    exact .text d R hd h
theorem mem_trimL {l : List UInt8} {c : UInt8} (h : c ∈ trimL l) : c ∈ l := by
  have h2 : c ∈ trimS l := by
    unfold trimL trimE at h
    rw [List.mem_reverse] at h
    have := (List.dropWhile_sublist _).subset h
    rwa [List.mem_reverse] at this
  exact mem_trimS h2
theorem not_gt (l : List UInt8) : (62 : UInt8) ∉ upTo gt l := fun h => by
  have := lead_mem (q := gt) h
  exact absurd this (by decide)
theorem good_all (l : List UInt8) : Good (cut l) := by
  induction hn : l.length using Nat.strongRecOn generalizing l with
  | ind n ih =>
    subst hn
    by_cases hl : l = []
    · rw [hl, To.cut_nil]; exact .nil
    have hlt := To.len_turn hl
    rw [To.cut_step hl]
    show Good ((txt (dec (lead bg l)) ++ (mk (trail bg l)).1) ++ cut (mk (trail bg l)).2)
    rw [List.append_assoc]
    have hlt : (mk (trail bg l)).2.length < l.length := hlt
    have htl := len_trail bg l
    apply good_txt
    obtain ⟨b, hb⟩ : ∃ b, trail bg l = b := ⟨_, rfl⟩
    rw [hb] at hlt htl ⊢
    have IH := ih _ hlt _ rfl
    by_cases h1 : begun b = 1
    · rw [To.mk_1 h1] at hlt IH ⊢
      have hlet := begun_letter.1 h1
      cases ha : attrs false [] (from_ en (b.drop 1)) with
      | none =>
        rw [(To.start_no ha).1]
        show Good ([] ++ cut [])
        rw [To.cut_nil]; exact .nil
      | some x =>
        obtain ⟨bs, sf, r⟩ := x
        rw [(To.start_yes ha).1] at hlt IH ⊢
        have hnm := nmOk_cut hlet
        have has := asOk_cut _ _ _ _ _ _ asOk_nil ha
        obtain ⟨nm, hnme⟩ : ∃ nm, lowL (upTo en (b.drop 1)) = nm := ⟨_, rfl⟩
        rw [hnme] at hnm hlt IH ⊢
        show Good (⟨1, B nm, B [], bs, sf⟩ :: ((cont nm r).1 ++ cut (cont nm r).2))
        cases hso : softOr nm with
        | false =>
          rw [cont_n hso] at IH ⊢
          exact .start nm bs sf _ hnm has hso IH
        | true =>
          have hR : EndOf nm (cut (trail (isEnd nm) r)) := by
            rcases trail_cases (isEnd nm) r with e | e
            · rw [e, To.cut_nil]; exact .inl rfl
            · exact end_cut hnm e
          have hnone : Good (cut (trail (isEnd nm) r)) → Good (⟨1, B nm, B [], bs, sf⟩ :: cut (trail (isEnd nm) r)) := fun hg => by
            obtain ⟨s1, s2⟩ := soft_lead (e := []) (by simp) hR
            rw [List.nil_append] at s1 s2
            exact .none_ nm bs sf _ hnm has hso hR.w.2.1 (hR.w.1 true) s1 s2 hg
          cases hrb : rawB nm with
          | true =>
            rw [cont_r hrb] at IH ⊢
            show Good (⟨1, B nm, B [], bs, sf⟩ :: (txt (lead (isEnd nm) r) ++ cut (trail (isEnd nm) r)))
            by_cases hd : lead (isEnd nm) r = []
            · rw [hd]; exact hnone IH
            · rw [txt_some hd]
              obtain ⟨s1, s2⟩ := raw_lead (l := r) hso hR
              exact .raw nm bs sf _ _ hnm has hrb hd s1 s2 IH
          | false =>
            have hsb : softB nm = true := by
              unfold softOr at hso
              rwa [hrb, Bool.false_or] at hso
            rw [cont_s hrb hsb] at IH ⊢
            show Good (⟨1, B nm, B [], bs, sf⟩ :: (txt (dec (lead (isEnd nm) r)) ++ cut (trail (isEnd nm) r)))
            by_cases hd : dec (lead (isEnd nm) r) = []
            · rw [hd]; exact hnone IH
            · rw [txt_some hd]
              obtain ⟨s1, s2⟩ := soft_lead (e := esc false (dec (lead (isEnd nm) r))) (esc_free false _).1 hR
              exact .soft nm bs sf _ _ hnm has hrb hsb hd s1 s2 IH
    by_cases h2 : begun b = 2
    · rw [To.mk_2 h2] at hlt IH ⊢
      have hlet := begun_letter.2 h2
      cases ha : attrs false [] (from_ en (b.drop 2)) with
      | none =>
        rw [(To.start_no ha).2]
        show Good ([] ++ cut [])
        rw [To.cut_nil]; exact .nil
      | some x =>
        obtain ⟨bs, sf, r⟩ := x
        rw [(To.start_yes ha).2] at IH ⊢
        exact .end_ _ _ (nmOk_cut hlet) IH
    by_cases h3 : begun b = 3
    · rw [To.mk_3 h3] at IH ⊢; exact IH
    by_cases h4 : begun b = 4
    · rw [To.mk_4 h4] at IH ⊢
      exact .comment _ _ (fun x => comm_again _ x) IH
    by_cases h5 : begun b = 5
    · rw [To.mk_5 h5] at IH ⊢
      exact .doctype _ _ (fun e => not_gt _ (mem_trimL e)) (trimL_trimL _) IH
    by_cases h6 : begun b = 6
    · rw [To.mk_6 h6] at IH ⊢
      exact .comment _ _ (fun x => comm_free (not_gt _) x) IH
    · rw [To.mk_0 h1 h2 h3 h4 h5 h6] at hlt IH ⊢
      exact IH

/-- Written, cut and written once more: the tokens stay from the second time on. -/
theorem again (s : List UInt8) : cut (wAll false (cut (wAll false (cut s)))) = cut (wAll false (cut s)) := by
  have h1 := good_cut (good_all s) [] [] clo_nil
  have h2 := good_cut (good_all (wAll false (cut s))) [] [] clo_nil
  rw [List.nil_append] at h1 h2
  rw [h2, h1]
  exact (fin_fin (cut s)).1 [] []

end Go.Proofs.YtjhhhlomkfnniaaDoor.Tm
