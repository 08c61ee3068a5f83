/-
  Stage 8, in plain words: legal trees are such as come back.
  Walks of stage 7: joins, add of the builder.
  Walks of stage 7: firsts: of attributes with one name the first one, the names seen kept in a map.
  Walks of stage 7: passedOver, endWalls; text, end of the builder.
  Walks of stage 7: end of the builder.
  Walks of stage 7: start of the builder.
  Stage 7, in plain words: joined rows have no more attributes each, and the same text; nothing of the program.
  Walks of stage 7: take of the builder; Tree, In, Parse.
-/
import Derived.Test.YtenmlpfjeohkiaaGreatDoorCk07
import Derived.Test.YtenmlpfjeohkiaaGreatDoorCk05
import Derived.Test.YtenmlpfjeohkiaaGreatDoorCk08
import Derived.Test.YtenmlpfjeohkiaaGreatDoorCk03
import Derived.Test.YtenmlpfjeohkiaaGreatDoorCk01
namespace Go.Proofs.YtenmlpfjeohkiaaGreatDoor.Wm
set_option linter.unusedVariables false
set_option linter.unusedSimpArgs false
open Ba Fm Rm Nm Bm
open Ro (At Ro)
open Tm (pre comm cend lead trail isEnd nmOk asOk softOr rawB softB pre_cons pre_nil)
theorem sub_suffix {p : List UInt8} : ∀ {l q : List UInt8}, sub p l = false → q ≠ [] → q <:+ l → pre p q = false
  | [], q, _, hq, hs => absurd (List.suffix_nil.1 hs) hq
  | a :: l, q, h, hq, hs => by
    rw [sub, Bool.or_eq_false_iff] at h
    rcases List.suffix_cons_iff.1 hs with e | e
    · rw [e]; exact h.1
    · exact sub_suffix h.2 hq e
theorem note_back {d : List UInt8} (h : noteB d = true) (x : List UInt8) : comm (d ++ ([45, 45, 62] ++ x)) = (d, x) := by
  unfold noteB at h
  simp only [Bool.and_eq_true, Bool.not_eq_true'] at h
  obtain ⟨⟨⟨h1, h2⟩, h3⟩, h4⟩ := h
  refine Tm.comm_same (fun x => ?_) (fun x => ?_) (fun q hq hs => ⟨[], ?_⟩) x
  · cases d with
    | nil => simp [pre_cons, pre_nil]
    | cons c q =>
      rw [pre_cons, pre_nil, Bool.and_true] at h3
      rw [List.cons_append, pre_cons, pre_nil, Bool.and_true]
      exact h3
  · match d, h4 with
    | [], _ => simp [pre_cons, pre_nil]
    | [c], _ => simp [pre_cons, pre_nil]
    | c :: e :: q, h4 =>
      rw [pre_cons, pre_cons, pre_nil, Bool.and_true] at h4
      rw [List.cons_append, List.cons_append, pre_cons, pre_cons, pre_nil, Bool.and_true]
      exact h4
  · rw [List.append_nil]
    unfold cend
    rw [sub_suffix h1 hq hs, sub_suffix h2 hq hs]; rfl
theorem plain_lead {n d : List UInt8} (h : sub [60, 47] d = false) : lead (isEnd n) d = d := by
  induction d with
  | nil => rfl
  | cons a r ih =>
    have h0 := h
    rw [sub, Bool.or_eq_false_iff] at h0
    rw [Tm.lead_no (by unfold isEnd; rw [h0.1]; rfl), ih h0.2]
theorem twice_no {l : List At} (h : Ro.twice l = false) : l.Pairwise fun a b => a.name ≠ b.name := by
  induction l with
  | nil => exact List.Pairwise.nil
  | cons a r ih =>
    rw [Ro.twice, Bool.or_eq_false_iff] at h
    refine List.Pairwise.cons (fun b hb e => ?_) (ih h.2)
    have h1 := h.1
    rw [List.any_eq_false] at h1
    exact h1 b hb (by simpa using e.symm)
theorem rowB_attrs {x : Ro} (hk : x.kind = 0) (h : rowB x = true) (ho : Ro.okRow x = true) : nmOk (L x.name) ∧ asOk x.attrs ∧ isIn x.name goneL = false ∧ cleanB (L x.name) = true ∧ ∀ a ∈ x.attrs, cleanB (L a.name) = true ∧ cleanB (L a.value) = true := by
  unfold rowB at h
  rw [if_pos hk, Bool.and_eq_true] at h
  obtain ⟨h1, h2⟩ := h
  unfold nameB at h1
  simp only [Bool.and_eq_true, Bool.not_eq_true'] at h1
  obtain ⟨⟨h3, h4⟩, h5⟩ := h1
  have h6 := List.all_eq_true.1 h2
  have h7 : ∀ a ∈ x.attrs, attrB a.name = true ∧ cleanB (L a.name) = true ∧ cleanB (L a.value) = true := fun a ha => by
    have := h6 a ha
    unfold attB at this
    simp only [Bool.and_eq_true] at this
    exact ⟨this.1.1, this.1.2, this.2⟩
  unfold Ro.okRow at ho
  rw [if_pos (by rw [hk]; rfl)] at ho
  simp only [Bool.and_eq_true, Bool.not_eq_true'] at ho
  exact ⟨Tm.nm_right h3, ⟨fun a ha => Tm.a_attr (h7 a ha).1, twice_no ho.2⟩, h4, h5, fun a ha => (h7 a ha).2⟩

/-- The first names around stay. -/
theorem go_take : ∀ (l : List Ro) (t : List ByteArray) (d : Nat), (∀ y ∈ l, (d : Int) ≤ y.depth) → d ≤ t.length → (∀ (m : Int), m ≤ t.length → Ro.rightFrom m l = true → (goB t l).take d = t.take d ∧ d ≤ (goB t l).length)
  | [], t, d, _, ht, m, _, _ => ⟨rfl, ht⟩
  | x :: r, t, d, h, ht, m, hm, hr => by
    have hx := h x List.mem_cons_self
    rw [Ro.rightFrom] at hr
    simp only [Bool.and_eq_true, decide_eq_true_eq] at hr
    obtain ⟨⟨⟨r1, r2⟩, _⟩, r4⟩ := hr
    have hl : (t.take x.depth.toNat).length = x.depth.toNat := by rw [List.length_take]; omega
    rw [goB]
    by_cases hk : x.kind = 0
    · rw [if_pos hk] at r4 ⊢
      obtain ⟨i1, i2⟩ := go_take r (t.take x.depth.toNat ++ [x.name]) d (fun y hy => h y (List.mem_cons_of_mem _ hy)) (by rw [List.length_append, hl]; omega) (x.depth + 1) (by rw [List.length_append, hl]; simp only [List.length_cons, List.length_nil]; omega) r4
      refine ⟨?_, i2⟩
      rw [i1, List.take_append_of_le_length (by rw [hl]; omega), List.take_take, Nat.min_eq_left (by omega)]
    · rw [if_neg hk] at r4 ⊢
      obtain ⟨i1, i2⟩ := go_take r (t.take x.depth.toNat) d (fun y hy => h y (List.mem_cons_of_mem _ hy)) (by rw [hl]; omega) x.depth (by rw [hl]; omega) r4
      refine ⟨?_, i2⟩
      rw [i1, List.take_take, Nat.min_eq_left (by omega)]
theorem leg_take {b : List Ro} (t : List ByteArray) (d : Nat) (h : ∀ y, b.head? = some y → y.depth ≤ d) : legB t b = legB (t.take d) b := by
  cases b with
  | nil => rfl
  | cons y r =>
    have hy := h y rfl
    rw [legB, legB, List.take_take, Nat.min_eq_left (by omega)]

theorem last_snoc (s : List ByteArray) (n : ByteArray) : lastN (s ++ [n]) = n := by
  unfold lastN
  rw [List.getLastD_eq_getLast?, List.getLast?_append]; rfl
theorem with_void {x : Ro} {s : List ByteArray} (h : withB x s = true) : isIn (lastN s) voidL = false := by
  unfold withB at h
  cases hv : isIn (lastN s) voidL with
  | false => rfl
  | true => rw [hv, if_pos rfl] at h; cases h
theorem with_text {x : Ro} {s : List ByteArray} (h : withB x s = true) (hr : isIn (lastN s) rawL = true ∨ isIn (lastN s) softL = true) : x.kind = 1 ∧ (isIn (lastN s) rawL = true → plainB (L x.data) = true) := by
  have hv := with_void h
  unfold withB at h
  rw [hv, if_neg (by simp)] at h
  cases hw : isIn (lastN s) rawL with
  | true =>
    rw [hw, if_pos rfl, Bool.and_eq_true, beq_iff_eq] at h
    exact ⟨h.1, fun _ => h.2⟩
  | false =>
    rw [hw, if_neg (by simp)] at h
    rcases hr with e | e
    · rw [hw] at e; cases e
    · rw [e, if_pos rfl, beq_iff_eq] at h
      exact ⟨h, fun e => by cases e⟩
theorem with_nest {x : Ro} {s : List ByteArray} (h : withB x s = true) (hk : x.kind = 0) : nestedB x.name s = true ∧ isIn (lastN s) rawL = false ∧ isIn (lastN s) softL = false := by
  have hr : isIn (lastN s) rawL = false := by
    cases hw : isIn (lastN s) rawL with
    | false => rfl
    | true => have := (with_text h (.inl hw)).1; omega
  have hs : isIn (lastN s) softL = false := by
    cases hw : isIn (lastN s) softL with
    | false => rfl
    | true => have := (with_text h (.inr hw)).1; omega
  refine ⟨?_, hr, hs⟩
  have hv := with_void h
  unfold withB at h
  rw [hv, if_neg (by simp), hr, if_neg (by simp), hs, if_neg (by simp), hk] at h
  simpa using h

theorem nrm_tail {x : Ro} {r : List Ro} (h : Ro.Nrm (x :: r)) : (x.kind = 1 → x.data.toList ≠ [] ∧ ∀ z, r.head? = some z → z.kind = 1 → z.depth ≠ x.depth) ∧ Ro.Nrm r := h
theorem nrm_split : ∀ {a b : List Ro}, Ro.Nrm (a ++ b) → Ro.Nrm a ∧ Ro.Nrm b
  | [], b, h => ⟨trivial, h⟩
  | x :: r, b, h => by
    obtain ⟨h1, h2⟩ := nrm_tail h
    obtain ⟨i1, i2⟩ := nrm_split h2
    refine ⟨⟨fun hx => ⟨(h1 hx).1, fun z hz => (h1 hx).2 z ?_⟩, i1⟩, i2⟩
    cases r with
    | nil => cases hz
    | cons y t => exact hz
/-- Legal rows that stand within these elements (the last one first). -/
theorem tr_of (n : Nat) : ∀ (s : List ByteArray) (l : List Ro), l.length ≤ n → (∀ y ∈ l, (s.length : Int) ≤ y.depth) → Ro.rightFrom s.length l = true → Ro.Nrm l → legB s.reverse l = true → Tr s l := by
  induction n with
  | zero =>
    intro s l h _ _ _ _
    obtain rfl : l = [] := List.eq_nil_of_length_eq_zero (by omega)
    exact .nil s
  | succ n ih =>
    intro s l h hd hr hn hl
    cases l with
    | nil => exact .nil s
    | cons x r =>
      have hx := hd x List.mem_cons_self
      rw [Ro.rightFrom] at hr
      simp only [Bool.and_eq_true, decide_eq_true_eq] at hr
      obtain ⟨⟨⟨r1, r2⟩, r3⟩, r4⟩ := hr
      have hdep : x.depth = (s.length : Int) := by omega
      have hto : x.depth.toNat = s.length := by omega
      have htk : s.reverse.take x.depth.toNat = s.reverse := by rw [hto, List.take_of_length_le (by rw [List.length_reverse]; exact Nat.le_refl _)]
      rw [legB, htk] at hl
      simp only [Bool.and_eq_true] at hl
      obtain ⟨⟨l1, l2⟩, l3⟩ := hl
      obtain ⟨n1, n2⟩ := nrm_tail hn
      have hlen := len_parts x r
      rw [List.length_cons] at h
      have hib := inn_beh x r
      have hinn : ∀ y ∈ inn x r, x.depth < y.depth := fun y hy => by
        have := mem_tw _ _ y hy
        unfold deep at this
        simpa using this
      have hbd : ∀ y ∈ beh x r, (s.length : Int) ≤ y.depth := fun y hy => hd y (List.mem_cons_of_mem _ (by rw [← hib]; exact List.mem_append_right _ hy))
      have hbh : ∀ y, (beh x r).head? = some y → y.depth ≤ (s.length : Int) := fun y hy => by
        have : deep x.depth y = false := by
          have hs := Ro.stops (deep x.depth) r y (by rw [← Wr.dw_drop]; exact hy)
          exact hs
        unfold deep at this
        have := of_decide_eq_false this
        omega
      have hfit : Fit s x := by
        refine ⟨hdep, r3, fun hk => ?_, fun hk => ?_, fun hk => ?_⟩
        · obtain ⟨q1, q2, q3, _⟩ := rowB_attrs hk l1 r3
          have q4 := (with_nest l2 hk).1
          refine ⟨?_, q3, q1, q2⟩
          have := (nestedB_iff _ _).1 q4
          rwa [List.reverse_reverse] at this
        · unfold rowB at l1
          rw [if_neg (by omega), if_pos hk, Bool.and_eq_true] at l1
          intro t
          exact note_back l1.1 t
        · intro e
          have := (n1 hk).1
          rw [e, toList_L] at this
          exact this rfl
      by_cases hk : x.kind = 0
      · rw [if_pos hk] at r4 l3
        rw [← hib, leg_append, Bool.and_eq_true] at l3
        rw [← hib, Ro.right_append, Bool.and_eq_true] at r4
        obtain ⟨ni, nb⟩ := nrm_split (by rw [hib]; exact n2 : Ro.Nrm (inn x r ++ beh x r))
        have hsl : (s.reverse ++ [x.name]).length = s.length + 1 := by rw [List.length_append, List.length_reverse]; rfl
        have hrev : s.reverse ++ [x.name] = (x.name :: s).reverse := by rw [List.reverse_cons]
        have hgo := go_take (inn x r) (s.reverse ++ [x.name]) s.length (fun y hy => by have := hinn y hy; omega) (by omega) (x.depth + 1) (by omega) r4.1
        have hbl : legB s.reverse (beh x r) = true := by
          have e := l3.2
          rw [leg_take _ s.length hbh, hgo.1, List.take_append_of_le_length (by rw [List.length_reverse]; exact Nat.le_refl _), List.take_of_length_le (by rw [List.length_reverse]; exact Nat.le_refl _)] at e
          exact e
        have hbr : Ro.rightFrom s.length (beh x r) = true := Ro.right_head r4.2 hbh
        have hbeh := ih s (beh x r) (by omega) hbd hbr nb hbl
        have hinr : Ro.rightFrom ((x.name :: s).length : Nat) (inn x r) = true := by
          have e : (((x.name :: s).length : Nat) : Int) = x.depth + 1 := by rw [List.length_cons]; omega
          rw [e]; exact r4.1
        have hinl : legB (x.name :: s).reverse (inn x r) = true := by rw [← hrev]; exact l3.1
        have htr := ih (x.name :: s) (inn x r) (by omega) (fun y hy => by have := hinn y hy; rw [List.length_cons]; omega) hinr ni hinl
        have hfst : ∀ y t, inn x r = y :: t → withB y (s.reverse ++ [x.name]) = true ∧ y.depth = x.depth + 1 := fun y t e => by
          have e1 := l3.1
          have e2 := r4.1
          have e3 := hinn y (by rw [e]; exact List.mem_cons_self)
          rw [e, legB] at e1
          rw [e, Ro.rightFrom] at e2
          simp only [Bool.and_eq_true, decide_eq_true_eq] at e1 e2
          have hyd : y.depth = x.depth + 1 := by omega
          have ht : (s.reverse ++ [x.name]).take y.depth.toNat = s.reverse ++ [x.name] := List.take_of_length_le (by rw [hsl]; omega)
          rw [ht] at e1
          exact ⟨e1.1.2, hyd⟩
        refine .one s x r hfit (fun hh => ?_) (fun _ => htr) (fun hh hso => ?_) (fun h1 => by omega) hbeh
        · cases hi : inn x r with
          | nil => rfl
          | cons y t =>
            have := with_void (hfst y t hi).1
            rw [last_snoc, holds_void hk hh] at this
            cases this
        · cases hi : inn x r with
          | nil => exact .inl rfl
          | cons y t =>
            obtain ⟨w1, w2⟩ := hfst y t hi
            have hrs : isIn (lastN (s.reverse ++ [x.name])) rawL = true ∨ isIn (lastN (s.reverse ++ [x.name])) softL = true := by
              rw [last_snoc]
              unfold softOr at hso
              rw [Bool.or_eq_true] at hso
              rcases hso with e | e
              · left; rwa [rawB_eq] at e
              · right
                unfold softB at e
                rwa [B_L] at e
            obtain ⟨y1, y2⟩ := with_text w1 hrs
            have ht : t = [] := by
              cases t with
              | nil => rfl
              | cons z u =>
                exfalso
                have e1 := l3.1
                have e2 := r4.1
                have e3 := hinn z (by rw [hi]; exact List.mem_cons_of_mem _ List.mem_cons_self)
                have e4 := ni
                rw [hi] at e1 e2 e4
                rw [legB, legB, if_neg (by omega)] at e1
                rw [Ro.rightFrom, Ro.rightFrom, if_neg (by omega)] at e2
                simp only [Bool.and_eq_true, decide_eq_true_eq] at e1 e2
                have hzd : z.depth = x.depth + 1 := by omega
                have ht1 : (s.reverse ++ [x.name]).take y.depth.toNat = s.reverse ++ [x.name] := List.take_of_length_le (by rw [hsl]; omega)
                have ht2 : (s.reverse ++ [x.name]).take z.depth.toNat = s.reverse ++ [x.name] := List.take_of_length_le (by rw [hsl]; omega)
                rw [ht1, ht2] at e1
                have hz1 := (with_text e1.2.1.2 hrs).1
                exact ((nrm_tail e4).1 y1).2 z rfl hz1 (by omega)
            subst ht
            refine .inr ⟨y, rfl, y1, fun e => ?_⟩
            have := y2 (by rw [last_snoc]; rwa [rawB_eq] at e)
            unfold plainB at this
            rw [Bool.and_eq_true, Bool.not_eq_true'] at this
            exact plain_lead this.1
      · rw [if_neg hk] at r4 l3
        have hin : inn x r = [] := by
          cases hi : inn x r with
          | nil => rfl
          | cons y t =>
            exfalso
            have e3 := hinn y (by rw [hi]; exact List.mem_cons_self)
            have e2 := r4
            rw [← hib, hi, List.cons_append, Ro.rightFrom] at e2
            simp only [Bool.and_eq_true, decide_eq_true_eq] at e2
            omega
        have hb : beh x r = r := by rw [hin, List.nil_append] at hib; exact hib
        have hbeh := ih s (beh x r) (by omega) hbd (by rw [hb]; rw [hdep] at r4; exact r4) (by rw [hb]; exact n2) (by rw [hb]; exact l3)
        refine .one s x r hfit (fun _ => hin) (fun hh => absurd (holds_kind hh).1 hk) (fun hh => absurd (holds_kind hh).1 hk) (fun h1 y hy hy1 => ?_) hbeh
        have e1 := hbh y hy
        have e2 := hbd y (List.mem_of_mem_head? hy)
        rw [hb] at hy
        exact (n1 h1).2 y hy hy1 (by omega)
theorem legal_tr {l : List Ro} (h : legalB l = true) (hl : l.length ≤ 4096) : Tr [] l ∧ small l := by
  obtain ⟨h1, h2, h3, h4⟩ := legal_parts h
  have h0 := depth_right h2
  refine ⟨tr_of l.length [] l (Nat.le_refl _) (fun y hy => h0 y hy) h2 h3 h4, hl, fun y hy => ?_⟩
  apply Decidable.byContradiction
  intro hc
  have := (Ro.exceeds_iff l 4096 60).2 (.inr ⟨y, hy, by omega⟩)
  rw [h1] at this
  cases this

end Go.Proofs.YtenmlpfjeohkiaaGreatDoor.Wm

namespace Go.Proofs.YtenmlpfjeohkiaaGreatDoor.Bu
set_option maxRecDepth 100000
set_option linter.unusedVariables false
set_option linter.unusedSimpArgs false
open Go.RowKit Ba Fm Fo Nm Bm
open Ro (At Ro Cw ros Fr Ow Att Ap Rr Sh acells len_acells cells len_cells rowV rowO info_row info_attr below_new acells_one flat_at flat_len row_cells_new cells_one range2 range5 len_ros ros_append)
theorem meets_nil (y : Ro) : meets [] y = false := by
  unfold meets
  rw [show ending [] = none from rfl, decide_eq_false (p := none = some (true, y.depth)) (by simp), Bool.and_false]
theorem meets_other (l : List Ro) {y : Ro} (h : ¬ y.kind = 1) : meets l y = false := by
  unfold meets
  rw [decide_eq_false h, Bool.false_and]
theorem meets_text {l : List Ro} {x y : Ro} (h : y.kind = 1) (he : ending l = some (decide (x.kind = 1), x.depth)) : meets l y = ((x.kind == 1) && (x.depth == y.depth)) := by
  unfold meets
  rw [decide_eq_true h, Bool.true_and, he]
  by_cases h1 : x.kind = 1
  · by_cases h2 : x.depth = y.depth
    · rw [decide_eq_true (by rw [decide_eq_true h1, h2]), beq_iff_eq.2 h1, beq_iff_eq.2 h2]; rfl
    · rw [decide_eq_false (fun e => by injection e with e; injection e with _ e; exact h2 e), beq_eq_false_iff_ne.2 h2, Bool.and_false]
  · rw [decide_eq_false (fun e => by injection e with e; injection e with e _; exact h1 (of_decide_eq_true e)), beq_eq_false_iff_ne.2 h1, Bool.false_and]

set_option maxHeartbeats 2000000 in
theorem joins_any (N b : Nat) (vo vr : Value) (n : Int) (big : Bool) (l : List Cw) (y : Cw) (w : World) (h : Bc w b vo vr n big) (hr : Or N w vr l) (hl : l.length ≤ 1000000) :
    Calls Tryz.prog 92 #[bp b, rowV y] w fun e w' => e = .returned (.bool (meets (ros l) y.ro)) ∧ Below w.heap.size w w' := by
  have c1 := h.c1; have hz := h.lt
  by_cases h0 : l.length = 0
  · obtain rfl : l = [] := List.eq_nil_of_length_eq_zero h0
    rw [show ros [] = [] from rfl, meets_nil]
    obtain ⟨A, c, rfl, _⟩ := hr.form
    clear h hr
    go_enter Tryz.func92, Tryz.ntmps92
    go_wp2
    go_ret
    exact ⟨rfl, below_new w _⟩
  obtain ⟨k, hk⟩ : ∃ k, l.length = k + 1 := ⟨l.length - 1, by omega⟩
  obtain ⟨b2, off, c, x, rfl, hc, hb2, hx, he⟩ := last_row hr (by omega)
  have g0 : (((k + 1 : Nat) : Int) == 0) = false := by rw [beq_eq_false_iff_ne]; omega
  rw [hk] at c1 hx hc
  by_cases hy : y.ro.kind = 1
  · rw [meets_text hy he]
    have g1 : (y.ro.kind != 1) = false := by rw [hy]; rfl
    rw [Nat.add_sub_cancel] at hx
    obtain ⟨x0, x1, x2, x3, x4⟩ := range5 hx
    have hkl : k ≤ 1000000 := by omega
    clear h hr he hx hk hy hl h0
    have i1 : (0 : Int) ≤ (k : Int) := by omega
    have i2 : (k : Int) < (k : Int) + 1 := by omega
    have i0 : IntKind.i64.wrap (k : Int) = (k : Nat) := IntWalk.i64_in _ (by omega)
    go_enter Tryz.func92, Tryz.ntmps92
    go_wp2
    go_region
    all_goals go_wp2
    all_goals go_ret
    all_goals refine ⟨?_, below_dN ((below_new w _).alloc (by simp) _) 1⟩
    all_goals first
      | exact ret_bool (by rw [show (x.ro.kind == 1) = true from beq_iff_eq.2 (by assumption)]; rfl)
      | exact ret_bool (by rw [show (x.ro.kind == 1) = false from beq_eq_false_iff_ne.2 (by assumption)]; rfl)
  · rw [meets_other _ hy]
    have g1 : (y.ro.kind != 1) = true := by rw [bne_iff_ne]; exact hy
    clear h hr he hx hk hy
    go_enter Tryz.func92, Tryz.ntmps92
    go_wp2
    go_ret
    exact ⟨rfl, below_new w _⟩

/-- What the builder says of a row that is added: so many, too many. -/
def more (l : List Ro) (n : Int) (y : Ro) : Int := if meets l y = true then n else n + 1
theorem more_yes {l : List Ro} {n : Int} {y : Ro} (h : meets l y = true) : more l n y = n := if_pos h
theorem more_no {l : List Ro} {n : Int} {y : Ro} (h : meets l y = false) : more l n y = n + 1 := if_neg (by rw [h]; simp)

theorem joins1 (N b : Nat) (vo vr : Value) (n : Int) (big : Bool) (l : List Cw) (y : Cw) (w : World) (h : Bc w b vo vr n big) (hr : Or N w vr l) (hl : l.length ≤ 1000000) (q : Bool) (hq : meets (ros l) y.ro = q) :
    Calls Tryz.prog 92 #[bp b, rowV y] w fun e w' => e = .returned (.bool q) ∧ Below w.heap.size w w' := by
  subst hq
  exact joins_any N b vo vr n big l y w h hr hl

/-- A row behind the rows of a builder, and what stands behind the store. -/
theorem Bg.put {N : Nat} {w w1 : World} {b : Nat} {vo vr v' : Value} {o : List ByteArray} {l : List Cw} {y : Cw} {n : Int} {big : Bool} (hc : Bc w b vo vr n big) (ho : Sown N w vo o) (hr : Or N w vr l) (hN : N ≤ b) (hy : Fr N w y)
    (h1 : w1.ownsRow N 34 5 v' (l.length + 1) (l.flatMap cells ++ cells y)) (hg : w.grownBy w1 vr.ownBlock) :
    Bg N (w1.setCell ⟨b, 1, none⟩ v') b o (l ++ [y]) n big ∧ ∀ w0, Below N w0 w → Below N w0 (w1.setCell ⟨b, 1, none⟩ v') := by
  have hrc : Bc w1 b vo vr n big := (hg.block b hc.lt (fun e => own_ne hr.1 hc (by decide) e.symm)).trans hc
  have hs : Sown N w1 vo o := World.ownsRow.kept ho hg (own_apart ho hr.1 (by decide))
  have hfr : ∀ x, Fr N w x → Fr N w1 x := fun x hx => ⟨World.ownsRow.kept hx.1 hg (own_apart hx.1 hr.1 (by decide)), hx.2⟩
  have hor : Or N w1 v' (l ++ [y]) := ⟨by rw [List.length_append, List.flatMap_append]; simpa using h1, fun x hx => by
    rcases List.mem_append.1 hx with hx | hx
    · exact hfr x (hr.2 x hx)
    · rw [List.mem_singleton.1 hx]; exact hfr y hy⟩
  have hgs := g_set w1 b 1 v'
  refine ⟨⟨vo, v', hrc.set1 v', Sown.keptB hs hgs hrc (by decide), hor.kept hgs hrc (by decide) (by decide), hN⟩, fun w0 h0 => ?_⟩
  have hlt := hc.lt
  exact (h0.grown hg (by omega) fun k hk => (World.ownsRow.lt hr.1 k hk).1).setCell hN _

theorem Bc.over {N : Nat} {w w' : World} {b : Nat} {vo vr : Value} {n : Int} {big : Bool} {l : List Cw} (h : Bc w b vo vr n big) (hr : Or N w vr l) (hg : w.grownBy w' vr.ownBlock) : Bc w' b vo vr n big := (hg.block b h.lt (fun e => own_ne hr.1 h (by decide) e.symm)).trans h
/-- append of one row onto the rows of a builder, at a step of a region that draws. -/
theorem step_app_row {ops : Array Oper} {o : Oper} {a : Act} {K : Act → World → Prop} {Q : Exit → Act → World → Prop} {E : Prop} (W : World) (hgd : o.guard = none) (s x : Operand)
    (ho : o.op = .call { callee := .builtin .append, args := #[s, x], argTypes := #[22, 22] })
    (W0 : World) (N : Nat) (v : Value) (l : List Cw) (z : Cw) (hr : Or N W0 v l) (hg : W0.grownBy W none) (hN : N ≤ W0.heap.size) (hl : l.length ≤ 2000000)
    (hs : a.eval s = v) (g0 : Nat) (hx : a.eval x = .slice (some ⟨g0, 0, none⟩) 1 1) (hz : W.heap[g0]? = some (rowO z))
    (h : ∀ g cap w', w'.ownsRow N 34 5 (.slice (some ⟨g, 0, none⟩) (l.length + 1) cap) (l.length + 1) (l.flatMap cells ++ cells z) → W0.grownBy w' v.ownBlock → K (a.put o.dst (.slice (some ⟨g, 0, none⟩) (l.length + 1) cap)) w') :
    if Region.wanted o (yielded ops a.tmps) = true then Oper.wp Tryz.prog o a W K Q else E := by
  obtain ⟨i0, hi, hz0, hz1, hz2⟩ := info_parts info_row
  have hown : W.ownsRow N 34 5 v l.length (l.flatMap cells) := World.ownsRow.kept hr.1 hg (by cases hv : v.ownBlock with
    | none => exact .inl rfl
    | some k => right; simp)
  refine step_append_lies W hgd s x 22 ho N 34 i0 _ 5 72 Tryz.underlying22 hi hz0 hz1 hz2 rfl (by decide) v l.length (l.flatMap cells) hs hown ⟨g0, 0, none⟩ 1 1 (cells z) hx rfl (fun j u hu => World.news_of_block hz j u hu) (cells_one z) (by decide) (by unfold maxLen; omega) (by omega) (Nat.le_trans hN hg.size) _ rfl ?_
  intro g cap w1 h1 h2 _ _
  refine h g cap w1 h1 ?_
  have hlt : ∀ k, v.ownBlock = some k → N ≤ k := fun k hk => (World.ownsRow.lt hr.1 k hk).1
  exact ⟨h2.os.trans hg.os, h2.tape.trans hg.tape, h2.output.trans hg.output, Nat.le_trans hg.size h2.size, fun i hi hne => (h2.block i (Nat.lt_of_lt_of_le hi hg.size) hne).trans (hg.block i hi (by simp))⟩

set_option maxHeartbeats 4000000 in
theorem add_any (N b : Nat) (o : List ByteArray) (l : List Cw) (n : Int) (big : Bool) (y : Cw) (w : World) (h : Bg N w b o l n big) (hy : Fr N w y) (hl : l.length ≤ 1000000) (hol : o.length ≤ 1000000) (hn0 : 0 ≤ n) (hn : n ≤ 1000000) :
    Calls Tryz.prog 73 #[bp b, rowV y] w fun e w' => e = .returned (.tuple #[]) ∧ ∃ z : Cw, z.ro = ⟨(o.length : Nat), y.ro.kind, y.ro.name, y.ro.data, y.ro.attrs⟩ ∧
      Bg N w' b o (l ++ [z]) (more (ros l) n z.ro) (decide (4096 < more (ros l) n z.ro) || decide (60 ≤ (o.length : Int))) ∧ Below N w w' ∧ Kt w w' := by
  obtain ⟨vo, vr, hc, ho, hr, hN⟩ := h
  obtain ⟨Ao, co, rfl, _⟩ := ho.form
  obtain ⟨z, hzd⟩ : ∃ z : Cw, z = ⟨⟨(o.length : Nat), y.ro.kind, y.ro.name, y.ro.data, y.ro.attrs⟩, y.A, y.c⟩ := ⟨_, rfl⟩
  have hyz : Fr N w z := by rw [hzd]; exact hy
  have hzro : z.ro = ⟨(o.length : Nat), y.ro.kind, y.ro.name, y.ro.data, y.ro.attrs⟩ := by rw [hzd]
  have hrow : (Value.agg #[.int .i64 (o.length : Nat), .int .i64 y.ro.kind, .string y.ro.name, .string y.ro.data, .slice y.A y.ro.attrs.length y.c]) = rowV z := by rw [hzd]
  have hobj : (Obj.cells #[.int .i64 (o.length : Nat), .int .i64 y.ro.kind, .string y.ro.name, .string y.ro.data, .slice y.A y.ro.attrs.length y.c] 34) = rowO z := by rw [hzd]
  have hdep : z.ro.depth = (o.length : Nat) := by rw [hzd]
  have c0 := hc.c0; have f0 := hc.f 0
  have hz := hc.lt
  have HC := Lib.hid hc; have HO := Lib.hid ho; have HR := Lib.hid hr; have HY := Lib.hid hyz; have HROW := Lib.hid hrow; have HOBJ := Lib.hid hobj; have HZ := Lib.hid hzro; have HD := Lib.hid hdep
  clear hc ho hr hy hyz hrow hobj hzro hzd hdep
  cases hq : meets (ros l) z.ro with
  | false =>
    have HQ := Lib.hid hq
    clear hq
    go_enter Tryz.func73, Tryz.ntmps73
    go_wp2_with fail
    rw [HROW.out, HOBJ.out]
    have hb1 := below_new w (rowO z)
    refine (joins1 N b _ vr n big l z (w.alloc (rowO z)) (HC.out.below hb1) (HR.out.below hb1) hl false HQ.out).mono ?_
    rintro e w3 ⟨rfl, hb3⟩
    have B3 := bt hb1 hb3
    have hc3 := HC.out.below B3
    have d0 : w3.cell? ⟨w.heap.size, 0, none⟩ = some (.int .i64 z.ro.depth) := Ro.box_kept (x := z) hb3 0
    have d1 : w3.cell? ⟨w.heap.size, 1, none⟩ = some (.int .i64 z.ro.kind) := Ro.box_kept (x := z) hb3 1
    have d2 : w3.cell? ⟨w.heap.size, 2, none⟩ = some (.string z.ro.name) := Ro.box_kept (x := z) hb3 2
    have d3 : w3.cell? ⟨w.heap.size, 3, none⟩ = some (.string z.ro.data) := Ro.box_kept (x := z) hb3 3
    have d4 : w3.cell? ⟨w.heap.size, 4, none⟩ = some (.slice z.A z.ro.attrs.length z.c) := Ro.box_kept (x := z) hb3 4
    have c2 := hc3.c2; have f2 := hc3.f 2; have c3 := hc3.c3; have f3 := hc3.f 3
    have HC3 := Lib.hid hc3; have HB3 := Lib.hid B3
    have HSZ : w.heap.size < w3.heap.size := Nat.lt_of_lt_of_le (by simp) hb3.size
    clear c0 f0 hc3 B3 hb3 hb1
    cases hg : decide (4096 < n + 1) with
    | true =>
      go_upto_region 5 with (fail)
      obtain ⟨W4, hW4⟩ : ∃ W4, (w3.setCell ⟨b, 2, none⟩ (.int .i64 (n + 1))).setCell ⟨b, 3, none⟩ (.bool true) = W4 := ⟨_, rfl⟩
      rw [hW4]
      have hc4 : Bc W4 b _ vr (n + 1) true := hW4 ▸ (HC3.out.set2 (n + 1)).set3 true
      have hgs : w3.grownBy W4 (some b) := hW4 ▸ (g_set w3 b 2 (.int .i64 (n + 1))).trans (g_set _ b 3 (.bool true))
      have ho4 : Sown N W4 _ o := Sown.keptB (HO.out.below HB3.out (Nat.le_refl _)) hgs HC3.out (by decide)
      have hr4 : Or N W4 vr l := (HR.out.below HB3.out).kept hgs HC3.out (by decide) (by decide)
      have hy4 : Fr N W4 z := ⟨World.ownsRow.kept (HY.out.below HB3.out).1 hgs (.inr (own_ne (HY.out.below HB3.out).1 HC3.out (by decide))), HY.out.2⟩
      have hB4 : Below N w W4 := (HB3.out.mono (by omega)).grown hgs (Nat.le_trans (by omega) HB3.out.size) (fun k hk => by injection hk with hk; omega)
      have hkt : Kt w W4 := (Kt.below HB3.out).trans (Kt.grown hgs HC3.out (by decide))
      have HKT := Lib.hid hkt
      have hZ4 : N ≤ W4.heap.size := by have := hc4.lt; omega
      have hne : w.heap.size ≠ b := by omega
      have hk4 : ∀ j, W4.cell? ⟨w.heap.size, j, none⟩ = w3.cell? ⟨w.heap.size, j, none⟩ := fun j => World.cell?_of_block (a := ⟨w.heap.size, j, none⟩) (hgs.block _ HSZ (by simpa using hne))
      have e0 : W4.cell? ⟨w.heap.size, 0, none⟩ = some (.int .i64 z.ro.depth) := (hk4 0).trans d0; have e1 : W4.cell? ⟨w.heap.size, 1, none⟩ = some (.int .i64 z.ro.kind) := (hk4 1).trans d1; have e2 : W4.cell? ⟨w.heap.size, 2, none⟩ = some (.string z.ro.name) := (hk4 2).trans d2; have e3 : W4.cell? ⟨w.heap.size, 3, none⟩ = some (.string z.ro.data) := (hk4 3).trans d3; have e4 : W4.cell? ⟨w.heap.size, 4, none⟩ = some (.slice z.A z.ro.attrs.length z.c) := (hk4 4).trans d4
      have c1 := hc4.c1; have f1 := hc4.f 1; have hz4 := hc4.lt
      have HC4 := Lib.hid hc4; have HO4 := Lib.hid ho4; have HR4 := Lib.hid hr4; have HY4 := Lib.hid hy4; have HB4 := Lib.hid hB4
      clear c2 f2 c3 f3 d0 d1 d2 d3 d4 hk4 hgs hc4 ho4 hr4 hy4 hB4 hW4 hkt
      go_region_law (refine step_app_row _ (by rfl) (.tmp 38) (.tmp 40) (by rfl) W4 N vr l z HR4.out (by first | exact (World.grownBy_alloc W4 _ _).trans (g_dN _ 1 _) | exact (g_dN W4 1 _).trans (World.grownBy_alloc _ _ _)) hZ4 (by omega) (by simp [Act.eval, Act.put]) _ (by simp [Act.eval, Act.put]) (World.alloc_heap_new _ _) ?_; intro g cap w5 hown5 hg5; have hc5 := Bc.over HC4.out HR4.out hg5; have c5 := hc5.c1; have f5 := hc5.f 1; clear hc5)
      all_goals go_wp2
      all_goals go_end0
      all_goals
        obtain ⟨r1, r2⟩ := Bg.put HC4.out HO4.out HR4.out hN HY4.out hown5 hg5
        refine ⟨rfl, z, HZ.out, ?_, r2 _ HB4.out, (HKT.out.trans (Kt.own hg5 HR4.out.1 (by decide))).trans (Kt.grown (g_set w5 b 1 _) (Bc.over HC4.out HR4.out hg5) (by decide))⟩
        rw [more_no HQ.out]
        rw [hg, Bool.true_or]
        exact r1
    | false =>
    cases h6 : decide (60 ≤ z.ro.depth) with
    | true =>
      go_upto_region 5 with (fail)
      obtain ⟨W4, hW4⟩ : ∃ W4, (w3.setCell ⟨b, 2, none⟩ (.int .i64 (n + 1))).setCell ⟨b, 3, none⟩ (.bool true) = W4 := ⟨_, rfl⟩
      rw [hW4]
      have hc4 : Bc W4 b _ vr (n + 1) true := hW4 ▸ (HC3.out.set2 (n + 1)).set3 true
      have hgs : w3.grownBy W4 (some b) := hW4 ▸ (g_set w3 b 2 (.int .i64 (n + 1))).trans (g_set _ b 3 (.bool true))
      have ho4 : Sown N W4 _ o := Sown.keptB (HO.out.below HB3.out (Nat.le_refl _)) hgs HC3.out (by decide)
      have hr4 : Or N W4 vr l := (HR.out.below HB3.out).kept hgs HC3.out (by decide) (by decide)
      have hy4 : Fr N W4 z := ⟨World.ownsRow.kept (HY.out.below HB3.out).1 hgs (.inr (own_ne (HY.out.below HB3.out).1 HC3.out (by decide))), HY.out.2⟩
      have hB4 : Below N w W4 := (HB3.out.mono (by omega)).grown hgs (Nat.le_trans (by omega) HB3.out.size) (fun k hk => by injection hk with hk; omega)
      have hkt : Kt w W4 := (Kt.below HB3.out).trans (Kt.grown hgs HC3.out (by decide))
      have HKT := Lib.hid hkt
      have hZ4 : N ≤ W4.heap.size := by have := hc4.lt; omega
      have hne : w.heap.size ≠ b := by omega
      have hk4 : ∀ j, W4.cell? ⟨w.heap.size, j, none⟩ = w3.cell? ⟨w.heap.size, j, none⟩ := fun j => World.cell?_of_block (a := ⟨w.heap.size, j, none⟩) (hgs.block _ HSZ (by simpa using hne))
      have e0 : W4.cell? ⟨w.heap.size, 0, none⟩ = some (.int .i64 z.ro.depth) := (hk4 0).trans d0; have e1 : W4.cell? ⟨w.heap.size, 1, none⟩ = some (.int .i64 z.ro.kind) := (hk4 1).trans d1; have e2 : W4.cell? ⟨w.heap.size, 2, none⟩ = some (.string z.ro.name) := (hk4 2).trans d2; have e3 : W4.cell? ⟨w.heap.size, 3, none⟩ = some (.string z.ro.data) := (hk4 3).trans d3; have e4 : W4.cell? ⟨w.heap.size, 4, none⟩ = some (.slice z.A z.ro.attrs.length z.c) := (hk4 4).trans d4
      have c1 := hc4.c1; have f1 := hc4.f 1; have hz4 := hc4.lt
      have HC4 := Lib.hid hc4; have HO4 := Lib.hid ho4; have HR4 := Lib.hid hr4; have HY4 := Lib.hid hy4; have HB4 := Lib.hid hB4
      clear c2 f2 c3 f3 d0 d1 d2 d3 d4 hk4 hgs hc4 ho4 hr4 hy4 hB4 hW4 hkt
      go_region_law (refine step_app_row _ (by rfl) (.tmp 38) (.tmp 40) (by rfl) W4 N vr l z HR4.out (by first | exact (World.grownBy_alloc W4 _ _).trans (g_dN _ 1 _) | exact (g_dN W4 1 _).trans (World.grownBy_alloc _ _ _)) hZ4 (by omega) (by simp [Act.eval, Act.put]) _ (by simp [Act.eval, Act.put]) (World.alloc_heap_new _ _) ?_; intro g cap w5 hown5 hg5; have hc5 := Bc.over HC4.out HR4.out hg5; have c5 := hc5.c1; have f5 := hc5.f 1; clear hc5)
      all_goals go_wp2
      all_goals go_end0
      all_goals
        obtain ⟨r1, r2⟩ := Bg.put HC4.out HO4.out HR4.out hN HY4.out hown5 hg5
        refine ⟨rfl, z, HZ.out, ?_, r2 _ HB4.out, (HKT.out.trans (Kt.own hg5 HR4.out.1 (by decide))).trans (Kt.grown (g_set w5 b 1 _) (Bc.over HC4.out HR4.out hg5) (by decide))⟩
        rw [more_no HQ.out]
        rw [hg, Bool.false_or, ← HD.out, h6]
        exact r1
    | false =>
      go_upto_region 5 with (fail)
      obtain ⟨W4, hW4⟩ : ∃ W4, (w3.setCell ⟨b, 2, none⟩ (.int .i64 (n + 1))).setCell ⟨b, 3, none⟩ (.bool false) = W4 := ⟨_, rfl⟩
      rw [hW4]
      have hc4 : Bc W4 b _ vr (n + 1) false := hW4 ▸ (HC3.out.set2 (n + 1)).set3 false
      have hgs : w3.grownBy W4 (some b) := hW4 ▸ (g_set w3 b 2 (.int .i64 (n + 1))).trans (g_set _ b 3 (.bool false))
      have ho4 : Sown N W4 _ o := Sown.keptB (HO.out.below HB3.out (Nat.le_refl _)) hgs HC3.out (by decide)
      have hr4 : Or N W4 vr l := (HR.out.below HB3.out).kept hgs HC3.out (by decide) (by decide)
      have hy4 : Fr N W4 z := ⟨World.ownsRow.kept (HY.out.below HB3.out).1 hgs (.inr (own_ne (HY.out.below HB3.out).1 HC3.out (by decide))), HY.out.2⟩
      have hB4 : Below N w W4 := (HB3.out.mono (by omega)).grown hgs (Nat.le_trans (by omega) HB3.out.size) (fun k hk => by injection hk with hk; omega)
      have hkt : Kt w W4 := (Kt.below HB3.out).trans (Kt.grown hgs HC3.out (by decide))
      have HKT := Lib.hid hkt
      have hZ4 : N ≤ W4.heap.size := by have := hc4.lt; omega
      have hne : w.heap.size ≠ b := by omega
      have hk4 : ∀ j, W4.cell? ⟨w.heap.size, j, none⟩ = w3.cell? ⟨w.heap.size, j, none⟩ := fun j => World.cell?_of_block (a := ⟨w.heap.size, j, none⟩) (hgs.block _ HSZ (by simpa using hne))
      have e0 : W4.cell? ⟨w.heap.size, 0, none⟩ = some (.int .i64 z.ro.depth) := (hk4 0).trans d0; have e1 : W4.cell? ⟨w.heap.size, 1, none⟩ = some (.int .i64 z.ro.kind) := (hk4 1).trans d1; have e2 : W4.cell? ⟨w.heap.size, 2, none⟩ = some (.string z.ro.name) := (hk4 2).trans d2; have e3 : W4.cell? ⟨w.heap.size, 3, none⟩ = some (.string z.ro.data) := (hk4 3).trans d3; have e4 : W4.cell? ⟨w.heap.size, 4, none⟩ = some (.slice z.A z.ro.attrs.length z.c) := (hk4 4).trans d4
      have c1 := hc4.c1; have f1 := hc4.f 1; have hz4 := hc4.lt
      have HC4 := Lib.hid hc4; have HO4 := Lib.hid ho4; have HR4 := Lib.hid hr4; have HY4 := Lib.hid hy4; have HB4 := Lib.hid hB4
      clear c2 f2 c3 f3 d0 d1 d2 d3 d4 hk4 hgs hc4 ho4 hr4 hy4 hB4 hW4 hkt
      go_region_law (refine step_app_row _ (by rfl) (.tmp 38) (.tmp 40) (by rfl) W4 N vr l z HR4.out (by first | exact (World.grownBy_alloc W4 _ _).trans (g_dN _ 1 _) | exact (g_dN W4 1 _).trans (World.grownBy_alloc _ _ _)) hZ4 (by omega) (by simp [Act.eval, Act.put]) _ (by simp [Act.eval, Act.put]) (World.alloc_heap_new _ _) ?_; intro g cap w5 hown5 hg5; have hc5 := Bc.over HC4.out HR4.out hg5; have c5 := hc5.c1; have f5 := hc5.f 1; clear hc5)
      all_goals go_wp2
      all_goals go_end0
      all_goals
        obtain ⟨r1, r2⟩ := Bg.put HC4.out HO4.out HR4.out hN HY4.out hown5 hg5
        refine ⟨rfl, z, HZ.out, ?_, r2 _ HB4.out, (HKT.out.trans (Kt.own hg5 HR4.out.1 (by decide))).trans (Kt.grown (g_set w5 b 1 _) (Bc.over HC4.out HR4.out hg5) (by decide))⟩
        rw [more_no HQ.out]
        rw [hg, Bool.false_or, ← HD.out, h6]
        exact r1
  | true =>
    have HQ := Lib.hid hq
    clear hq
    go_enter Tryz.func73, Tryz.ntmps73
    go_wp2_with fail
    rw [HROW.out, HOBJ.out]
    have hb1 := below_new w (rowO z)
    refine (joins1 N b _ vr n big l z (w.alloc (rowO z)) (HC.out.below hb1) (HR.out.below hb1) hl true HQ.out).mono ?_
    rintro e w3 ⟨rfl, hb3⟩
    have B3 := bt hb1 hb3
    have hc3 := HC.out.below B3
    have d0 : w3.cell? ⟨w.heap.size, 0, none⟩ = some (.int .i64 z.ro.depth) := Ro.box_kept (x := z) hb3 0
    have d1 : w3.cell? ⟨w.heap.size, 1, none⟩ = some (.int .i64 z.ro.kind) := Ro.box_kept (x := z) hb3 1
    have d2 : w3.cell? ⟨w.heap.size, 2, none⟩ = some (.string z.ro.name) := Ro.box_kept (x := z) hb3 2
    have d3 : w3.cell? ⟨w.heap.size, 3, none⟩ = some (.string z.ro.data) := Ro.box_kept (x := z) hb3 3
    have d4 : w3.cell? ⟨w.heap.size, 4, none⟩ = some (.slice z.A z.ro.attrs.length z.c) := Ro.box_kept (x := z) hb3 4
    have c2 := hc3.c2; have c3 := hc3.c3; have f3 := hc3.f 3
    have HC3 := Lib.hid hc3; have HB3 := Lib.hid B3
    have HSZ : w.heap.size < w3.heap.size := Nat.lt_of_lt_of_le (by simp) hb3.size
    clear c0 f0 hc3 B3 hb3 hb1
    cases hg : decide (4096 < n) with
    | true =>
      go_upto_region 5 with (fail)
      obtain ⟨W4, hW4⟩ : ∃ W4, w3.setCell ⟨b, 3, none⟩ (.bool true) = W4 := ⟨_, rfl⟩
      rw [hW4]
      have hc4 : Bc W4 b _ vr n true := hW4 ▸ HC3.out.set3 true
      have hgs : w3.grownBy W4 (some b) := hW4 ▸ g_set w3 b 3 (.bool true)
      have ho4 : Sown N W4 _ o := Sown.keptB (HO.out.below HB3.out (Nat.le_refl _)) hgs HC3.out (by decide)
      have hr4 : Or N W4 vr l := (HR.out.below HB3.out).kept hgs HC3.out (by decide) (by decide)
      have hy4 : Fr N W4 z := ⟨World.ownsRow.kept (HY.out.below HB3.out).1 hgs (.inr (own_ne (HY.out.below HB3.out).1 HC3.out (by decide))), HY.out.2⟩
      have hB4 : Below N w W4 := (HB3.out.mono (by omega)).grown hgs (Nat.le_trans (by omega) HB3.out.size) (fun k hk => by injection hk with hk; omega)
      have hkt : Kt w W4 := (Kt.below HB3.out).trans (Kt.grown hgs HC3.out (by decide))
      have HKT := Lib.hid hkt
      have hZ4 : N ≤ W4.heap.size := by have := hc4.lt; omega
      have hne : w.heap.size ≠ b := by omega
      have hk4 : ∀ j, W4.cell? ⟨w.heap.size, j, none⟩ = w3.cell? ⟨w.heap.size, j, none⟩ := fun j => World.cell?_of_block (a := ⟨w.heap.size, j, none⟩) (hgs.block _ HSZ (by simpa using hne))
      have e0 : W4.cell? ⟨w.heap.size, 0, none⟩ = some (.int .i64 z.ro.depth) := (hk4 0).trans d0; have e1 : W4.cell? ⟨w.heap.size, 1, none⟩ = some (.int .i64 z.ro.kind) := (hk4 1).trans d1; have e2 : W4.cell? ⟨w.heap.size, 2, none⟩ = some (.string z.ro.name) := (hk4 2).trans d2; have e3 : W4.cell? ⟨w.heap.size, 3, none⟩ = some (.string z.ro.data) := (hk4 3).trans d3; have e4 : W4.cell? ⟨w.heap.size, 4, none⟩ = some (.slice z.A z.ro.attrs.length z.c) := (hk4 4).trans d4
      have c1 := hc4.c1; have f1 := hc4.f 1; have hz4 := hc4.lt
      have HC4 := Lib.hid hc4; have HO4 := Lib.hid ho4; have HR4 := Lib.hid hr4; have HY4 := Lib.hid hy4; have HB4 := Lib.hid hB4
      clear c2 c3 f3 d0 d1 d2 d3 d4 hk4 hgs hc4 ho4 hr4 hy4 hB4 hW4 hkt
      go_region_law (refine step_app_row _ (by rfl) (.tmp 38) (.tmp 40) (by rfl) W4 N vr l z HR4.out (by first | exact (World.grownBy_alloc W4 _ _).trans (g_dN _ 1 _) | exact (g_dN W4 1 _).trans (World.grownBy_alloc _ _ _)) hZ4 (by omega) (by simp [Act.eval, Act.put]) _ (by simp [Act.eval, Act.put]) (World.alloc_heap_new _ _) ?_; intro g cap w5 hown5 hg5; have hc5 := Bc.over HC4.out HR4.out hg5; have c5 := hc5.c1; have f5 := hc5.f 1; clear hc5)
      all_goals go_wp2
      all_goals go_end0
      all_goals
        obtain ⟨r1, r2⟩ := Bg.put HC4.out HO4.out HR4.out hN HY4.out hown5 hg5
        refine ⟨rfl, z, HZ.out, ?_, r2 _ HB4.out, (HKT.out.trans (Kt.own hg5 HR4.out.1 (by decide))).trans (Kt.grown (g_set w5 b 1 _) (Bc.over HC4.out HR4.out hg5) (by decide))⟩
        rw [more_yes HQ.out]
        rw [hg, Bool.true_or]
        exact r1
    | false =>
    cases h6 : decide (60 ≤ z.ro.depth) with
    | true =>
      go_upto_region 5 with (fail)
      obtain ⟨W4, hW4⟩ : ∃ W4, w3.setCell ⟨b, 3, none⟩ (.bool true) = W4 := ⟨_, rfl⟩
      rw [hW4]
      have hc4 : Bc W4 b _ vr n true := hW4 ▸ HC3.out.set3 true
      have hgs : w3.grownBy W4 (some b) := hW4 ▸ g_set w3 b 3 (.bool true)
      have ho4 : Sown N W4 _ o := Sown.keptB (HO.out.below HB3.out (Nat.le_refl _)) hgs HC3.out (by decide)
      have hr4 : Or N W4 vr l := (HR.out.below HB3.out).kept hgs HC3.out (by decide) (by decide)
      have hy4 : Fr N W4 z := ⟨World.ownsRow.kept (HY.out.below HB3.out).1 hgs (.inr (own_ne (HY.out.below HB3.out).1 HC3.out (by decide))), HY.out.2⟩
      have hB4 : Below N w W4 := (HB3.out.mono (by omega)).grown hgs (Nat.le_trans (by omega) HB3.out.size) (fun k hk => by injection hk with hk; omega)
      have hkt : Kt w W4 := (Kt.below HB3.out).trans (Kt.grown hgs HC3.out (by decide))
      have HKT := Lib.hid hkt
      have hZ4 : N ≤ W4.heap.size := by have := hc4.lt; omega
      have hne : w.heap.size ≠ b := by omega
      have hk4 : ∀ j, W4.cell? ⟨w.heap.size, j, none⟩ = w3.cell? ⟨w.heap.size, j, none⟩ := fun j => World.cell?_of_block (a := ⟨w.heap.size, j, none⟩) (hgs.block _ HSZ (by simpa using hne))
      have e0 : W4.cell? ⟨w.heap.size, 0, none⟩ = some (.int .i64 z.ro.depth) := (hk4 0).trans d0; have e1 : W4.cell? ⟨w.heap.size, 1, none⟩ = some (.int .i64 z.ro.kind) := (hk4 1).trans d1; have e2 : W4.cell? ⟨w.heap.size, 2, none⟩ = some (.string z.ro.name) := (hk4 2).trans d2; have e3 : W4.cell? ⟨w.heap.size, 3, none⟩ = some (.string z.ro.data) := (hk4 3).trans d3; have e4 : W4.cell? ⟨w.heap.size, 4, none⟩ = some (.slice z.A z.ro.attrs.length z.c) := (hk4 4).trans d4
      have c1 := hc4.c1; have f1 := hc4.f 1; have hz4 := hc4.lt
      have HC4 := Lib.hid hc4; have HO4 := Lib.hid ho4; have HR4 := Lib.hid hr4; have HY4 := Lib.hid hy4; have HB4 := Lib.hid hB4
      clear c2 c3 f3 d0 d1 d2 d3 d4 hk4 hgs hc4 ho4 hr4 hy4 hB4 hW4 hkt
      go_region_law (refine step_app_row _ (by rfl) (.tmp 38) (.tmp 40) (by rfl) W4 N vr l z HR4.out (by first | exact (World.grownBy_alloc W4 _ _).trans (g_dN _ 1 _) | exact (g_dN W4 1 _).trans (World.grownBy_alloc _ _ _)) hZ4 (by omega) (by simp [Act.eval, Act.put]) _ (by simp [Act.eval, Act.put]) (World.alloc_heap_new _ _) ?_; intro g cap w5 hown5 hg5; have hc5 := Bc.over HC4.out HR4.out hg5; have c5 := hc5.c1; have f5 := hc5.f 1; clear hc5)
      all_goals go_wp2
      all_goals go_end0
      all_goals
        obtain ⟨r1, r2⟩ := Bg.put HC4.out HO4.out HR4.out hN HY4.out hown5 hg5
        refine ⟨rfl, z, HZ.out, ?_, r2 _ HB4.out, (HKT.out.trans (Kt.own hg5 HR4.out.1 (by decide))).trans (Kt.grown (g_set w5 b 1 _) (Bc.over HC4.out HR4.out hg5) (by decide))⟩
        rw [more_yes HQ.out]
        rw [hg, Bool.false_or, ← HD.out, h6]
        exact r1
    | false =>
      go_upto_region 5 with (fail)
      obtain ⟨W4, hW4⟩ : ∃ W4, w3.setCell ⟨b, 3, none⟩ (.bool false) = W4 := ⟨_, rfl⟩
      rw [hW4]
      have hc4 : Bc W4 b _ vr n false := hW4 ▸ HC3.out.set3 false
      have hgs : w3.grownBy W4 (some b) := hW4 ▸ g_set w3 b 3 (.bool false)
      have ho4 : Sown N W4 _ o := Sown.keptB (HO.out.below HB3.out (Nat.le_refl _)) hgs HC3.out (by decide)
      have hr4 : Or N W4 vr l := (HR.out.below HB3.out).kept hgs HC3.out (by decide) (by decide)
      have hy4 : Fr N W4 z := ⟨World.ownsRow.kept (HY.out.below HB3.out).1 hgs (.inr (own_ne (HY.out.below HB3.out).1 HC3.out (by decide))), HY.out.2⟩
      have hB4 : Below N w W4 := (HB3.out.mono (by omega)).grown hgs (Nat.le_trans (by omega) HB3.out.size) (fun k hk => by injection hk with hk; omega)
      have hkt : Kt w W4 := (Kt.below HB3.out).trans (Kt.grown hgs HC3.out (by decide))
      have HKT := Lib.hid hkt
      have hZ4 : N ≤ W4.heap.size := by have := hc4.lt; omega
      have hne : w.heap.size ≠ b := by omega
      have hk4 : ∀ j, W4.cell? ⟨w.heap.size, j, none⟩ = w3.cell? ⟨w.heap.size, j, none⟩ := fun j => World.cell?_of_block (a := ⟨w.heap.size, j, none⟩) (hgs.block _ HSZ (by simpa using hne))
      have e0 : W4.cell? ⟨w.heap.size, 0, none⟩ = some (.int .i64 z.ro.depth) := (hk4 0).trans d0; have e1 : W4.cell? ⟨w.heap.size, 1, none⟩ = some (.int .i64 z.ro.kind) := (hk4 1).trans d1; have e2 : W4.cell? ⟨w.heap.size, 2, none⟩ = some (.string z.ro.name) := (hk4 2).trans d2; have e3 : W4.cell? ⟨w.heap.size, 3, none⟩ = some (.string z.ro.data) := (hk4 3).trans d3; have e4 : W4.cell? ⟨w.heap.size, 4, none⟩ = some (.slice z.A z.ro.attrs.length z.c) := (hk4 4).trans d4
      have c1 := hc4.c1; have f1 := hc4.f 1; have hz4 := hc4.lt
      have HC4 := Lib.hid hc4; have HO4 := Lib.hid ho4; have HR4 := Lib.hid hr4; have HY4 := Lib.hid hy4; have HB4 := Lib.hid hB4
      clear c2 c3 f3 d0 d1 d2 d3 d4 hk4 hgs hc4 ho4 hr4 hy4 hB4 hW4 hkt
      go_region_law (refine step_app_row _ (by rfl) (.tmp 38) (.tmp 40) (by rfl) W4 N vr l z HR4.out (by first | exact (World.grownBy_alloc W4 _ _).trans (g_dN _ 1 _) | exact (g_dN W4 1 _).trans (World.grownBy_alloc _ _ _)) hZ4 (by omega) (by simp [Act.eval, Act.put]) _ (by simp [Act.eval, Act.put]) (World.alloc_heap_new _ _) ?_; intro g cap w5 hown5 hg5; have hc5 := Bc.over HC4.out HR4.out hg5; have c5 := hc5.c1; have f5 := hc5.f 1; clear hc5)
      all_goals go_wp2
      all_goals go_end0
      all_goals
        obtain ⟨r1, r2⟩ := Bg.put HC4.out HO4.out HR4.out hN HY4.out hown5 hg5
        refine ⟨rfl, z, HZ.out, ?_, r2 _ HB4.out, (HKT.out.trans (Kt.own hg5 HR4.out.1 (by decide))).trans (Kt.grown (g_set w5 b 1 _) (Bc.over HC4.out HR4.out hg5) (by decide))⟩
        rw [more_yes HQ.out]
        rw [hg, Bool.false_or, ← HD.out, h6]
        exact r1

end Go.Proofs.YtenmlpfjeohkiaaGreatDoor.Bu

namespace Go.Proofs.YtenmlpfjeohkiaaGreatDoor.Bu
set_option maxRecDepth 100000
set_option linter.unusedVariables false
set_option linter.unusedSimpArgs false
open Go.RowKit Ba Fm Fo Nm Bm
open Ro (At Ra Sh acells len_acells below_new getElem_of_drop range2 run_makeMap_hint size_attr)
open Tm (put known)
open To (Aw app_attr Sn has_Sn Sn_snoc keyed_str zero_unit)
theorem once_take {l : List At} {k : Nat} {x : At} {r : List At} (h : l.drop k = x :: r) : once (l.take (k + 1)) = put (once (l.take k)) x := by
  have htk : l.take (k + 1) = l.take k ++ [x] := by
    rw [List.take_add_one, getElem_of_drop h]
    rfl
  rw [htk]
  unfold once
  rw [List.foldl_append]
  rfl

set_option maxRecDepth 100000 in
set_option maxHeartbeats 4000000 in
theorem firsts_any (A : Option Addr) (c : Nat) (l : List At) (w : World) (hr : Ra w w.heap.size A l) (hsh : Sh l) (hc : l.length ≤ c) (hl : l.length ≤ 1000000) :
    Calls Tryz.prog 94 #[.slice A l.length c] w fun e w' => ∃ v, e = .returned v ∧ Aw w.heap.size w' v (once l) ∧ Below w.heap.size w w' := by
  have hmm := fun q n w => run_makeMap_hint Tryz.underlying94 q n w
  go_enter Tryz.func94, Tryz.ntmps94
  go_wp2
  go_loopw [3, 14] (fun v i wr => ∃ k : Nat, i = .int .i64 k ∧ k ≤ l.length ∧ wr.ownsMap Tryz.prog 9 (unitElem (H := Unit)) w.heap.size (once (l.take k)).length (Sn (once (l.take k))) ∧ Aw (w.heap.size + 1) wr v (once (l.take k)) ∧ Below w.heap.size w wr ∧ w.heap.size + 1 ≤ wr.heap.size ∧ (once (l.take k)).length ≤ k) (fun _ i _ => l.length - (intOf i).toNat)
  case atStart => exact ⟨0, rfl, by omega, World.ownsMap_made _ _ _ _, Aw.nil _ _, (Below.refl _ _).alloc (Nat.le_refl _) _, by simp, Nat.le_refl _⟩
  case round =>
    clear hmm
    obtain ⟨k, rfl, hk, hown, haw, hbel, hwz, hkl⟩ := hrel
    have hsz := hbel.size
    by_cases hp : k < l.length
    · obtain ⟨b, off, a, rfl, hb, hd, hx, hxm⟩ := (hr.below hbel).at_ k hp
      obtain ⟨x0, x1⟩ := range2 hx
      have hot := once_take hd
      have hnm := hsh a hxm
      have hkey : keyOf Tryz.prog 9 (.string a.name) = some (.string (L a.name)) := WideMaps.keyOf_string_mk Tryz.underlying9 hnm
      obtain ⟨ac, hac⟩ : ∃ ac, once (l.take k) = ac := ⟨_, rfl⟩
      rw [hac] at hot hown haw hkl
      have hbw : b < wr.heap.size := by omega
      cases hq : known ac a.name with
      | true =>
        have hp2 : put ac a = ac := by unfold put; rw [if_pos hq]
        rw [hp2] at hot
        have hhas := has_Sn ac a.name
        rw [hq] at hhas
        have HT := Lib.hid hot; have HH := Lib.hid hhas; have HM := Lib.hid hown; have HW := Lib.hid haw; have HB := Lib.hid hbel
        clear hd hot hx hhas hq hp2 hac hown haw hbel
        go_wp2_with (at_lookup; refine wpList_lookup_own_unit _ rfl _ _ 94 rfl 9 95 keyed_str Tryz.underlying94 (zero_unit _) w.heap.size ac.length (Sn ac) rfl (HM.out.alloc _) _ _ rfl hkey ?_; rw [HH.out])
        go_roundw
        case rel => exact ⟨k + 1, by go_num, by omega, by rw [HT.out]; exact (HM.out.alloc _).alloc _, by rw [HT.out]; exact (HW.out.alloc _).alloc _, (HB.out.alloc hsz _).alloc (by simp; omega) _, by simp; omega, by rw [HT.out]; omega⟩
        case measure => simp [intOf]; omega
      | false =>
        have hp2 : put ac a = ac ++ [a] := by unfold put; rw [if_neg (by rw [hq]; simp)]
        rw [hp2] at hot
        have hhas := has_Sn ac a.name
        rw [hq] at hhas
        have hlen : ac.length < maxLen := by unfold maxLen; omega
        have hl4 : ac.length ≤ 4000000000 := by omega
        have HT := Lib.hid hot; have HH := Lib.hid hhas; have HM := Lib.hid hown; have HW := Lib.hid haw; have HB := Lib.hid hbel; have HBX := Lib.hid (To.Bx.new wr a.name a.value)
        clear hd hot hx hhas hq hp2 hac hown haw hbel
        have hne1 : w.heap.size ≠ wr.heap.size := by omega
        go_wp2_with (first
          | (at_lookup; refine wpList_lookup_own_unit _ rfl _ _ 94 rfl 9 95 keyed_str Tryz.underlying94 (zero_unit _) w.heap.size ac.length (Sn ac) rfl (HM.out.alloc _) _ _ rfl hkey ?_; rw [HH.out])
          | (at_mapUpdate; refine wpList_mapUpdate_own _ rfl _ _ _ 94 rfl 9 95 keyed_str Tryz.underlying94 (unitElem (H := Unit)) w.heap.size ac.length (Sn ac) rfl ((HM.out.alloc _).alloc _) hlen _ _ _ rfl rfl hkey _ [] unitElem_mk ?_; intro w5 hown5 hgrow5; have hx5 := ((HBX.out).below (below_new _ (.cells #[] 95))).kept hgrow5 hne1.symm; have y0 := hx5.c0; have y1 := hx5.c1; have hw5 := (((HW.out.alloc (.cells #[.string a.name, .string a.value] 46)).alloc (.cells #[] 95)).kept hgrow5 (.inr (HW.out.low (Nat.lt_succ_self _)))); have hz5 : w.heap.size + 1 ≤ w5.heap.size := Nat.le_trans (by simp; omega) hgrow5.size; have HO5 := Lib.hid hown5; have HG5 := Lib.hid hgrow5; have HW5 := Lib.hid hw5; have HZ5 := Lib.hid hz5; clear hx5 hw5 hz5 hown5 hgrow5)
          | (at_builtin; go_loud (refine app_attr w5 rfl (.tmp 30) (.tmp 32) rfl (w.heap.size + 1) _ ac a rfl HW5.out hnm w5.heap.size rfl rfl hl4 HZ5.out ?_); intro v7 w7 hw7 hg7))
        have hm7 := World.ownsMap.kept HO5.out hg7 (fun e => HW5.out.low (Nat.lt_succ_self _) e.symm)
        rw [← Sn_snoc] at hm7
        have hb5 : Below w.heap.size w w5 := ((HB.out.alloc hsz _).alloc (by simp; omega) _).grown HG5.out (by simp; omega) (fun j hj => by injection hj with hj; omega)
        have hb7 : Below w.heap.size w w7 := hb5.grown hg7 (by have := HZ5.out; omega) (fun j hj => by have := (World.ownsRow.lt HW5.out.1 j hj).1; omega)
        have hz7 : w.heap.size + 1 ≤ w7.heap.size := Nat.le_trans HZ5.out hg7.size
        go_roundw
        case rel => exact ⟨k + 1, by go_num, by omega, by rw [HT.out, List.length_append]; exact hm7, by rw [HT.out]; exact hw7, hb7, hz7, by rw [HT.out, List.length_append]; simp; omega⟩
        case measure => simp [intOf]; omega
    · rw [List.take_of_length_le (by omega)] at haw
      go_wp2
      go_ret
      exact ⟨_, rfl, ⟨World.ownsRow.mono haw.1 (by omega), haw.2⟩, hbel⟩

end Go.Proofs.YtenmlpfjeohkiaaGreatDoor.Bu

namespace Go.Proofs.YtenmlpfjeohkiaaGreatDoor.Bu
set_option maxRecDepth 100000
set_option linter.unusedVariables false
set_option linter.unusedSimpArgs false
open Go.RowKit Ba Fm Fo Nm Bm
open Ro (At Ro Cw ros Fr Ow Att Ap Rr Sh Ra acells len_acells cells len_cells rowV rowO info_row info_attr below_new len_ros ros_append)
theorem void1 (n : ByteArray) (w : World) (q : Bool) (h : isIn n voidL = q) : Calls Tryz.prog 42 #[.string n] w fun e w' => e = .returned (.bool q) ∧ Below w.heap.size w w' := by
  subst h
  exact Na.void_any n w
theorem gone1 (n : ByteArray) (w : World) (q : Bool) (h : isIn n goneL = q) : Calls Tryz.prog 62 #[.string n] w fun e w' => e = .returned (.bool q) ∧ Below w.heap.size w w' := by
  subst h
  exact Na.gone_any n w
theorem empty_eq (n : ByteArray) : n.toList.isEmpty = decide (n = ⟨#[]⟩) := by
  rw [Bool.eq_iff_iff, decide_eq_true_iff]
  constructor
  · intro h
    exact empty_name h
  · rintro rfl
    exact nil_empty
theorem passedOver_any (n : ByteArray) (w : World) (q : Bool) (h : noName n = q) : Calls Tryz.prog 93 #[.string n] w fun e w' => e = .returned (.bool q) ∧ Below w.heap.size w w' := by
  subst h
  unfold noName
  rw [← empty_eq]
  cases he : n.toList.isEmpty with
  | true =>
    go_enter Tryz.func93, Tryz.ntmps93
    go_wp2
    go_ret
    exact ⟨rfl, Below.refl _ _⟩
  | false =>
    obtain ⟨q, hq⟩ : ∃ q, isIn n goneL = q := ⟨_, rfl⟩
    rw [hq]
    have HQ := Lib.hid hq
    clear hq
    go_enter Tryz.func93, Tryz.ntmps93
    go_wp2_with fail
    refine (gone1 n w q HQ.out).mono ?_
    rintro e w1 ⟨rfl, hb⟩
    go_wp2
    go_ret
    exact ⟨rfl, hb⟩

theorem of_bytes {n m : ByteArray} {l : List UInt8} (h : (n.toList == l) = true) (hm : L m = l) : n = m := by
  rw [beq_iff_eq, toList_L] at h
  exact L_inj (h.trans hm.symm)
theorem not_bytes {n m : ByteArray} {l : List UInt8} (h : (n.toList == l) = false) (hm : L m = l) : n ≠ m := fun e => by
  rw [beq_eq_false_iff_ne, toList_L, e] at h
  exact h hm
theorem endWalls_yes {n : ByteArray} (h : n = n_table ∨ isIn n tableL = true) : endWalls n = [n_table, n_template] := by
  unfold endWalls
  rw [if_pos h]
  rfl
theorem endWalls_no {n : ByteArray} (h : n ≠ n_table) (h' : isIn n tableL = false) : endWalls n = wallsL n_p := by
  unfold endWalls
  rw [if_neg (fun e => e.elim h (fun e => by rw [h'] at e; cases e))]

set_option maxRecDepth 100000 in
set_option maxHeartbeats 1000000 in
theorem endWalls_any (n : ByteArray) (w : World) : Calls Tryz.prog 96 #[.string n] w fun e w' => ∃ v, e = .returned v ∧ Sown w.heap.size w' v (endWalls n) ∧ Below w.heap.size w w' := by
  have hs := Na.sown_lit w [n_table, n_template] (by decide)
  have hb := below_one w (.cells ([n_table, n_template].map sc).toArray 9)
  have HS := Lib.hid hs; have HB := Lib.hid hb
  clear hs hb
  cases h0 : (n.toList == [116, 97, 98, 108, 101]) with
  | true =>
    have he : endWalls n = [n_table, n_template] := endWalls_yes (by obtain rfl := of_bytes (m := n_table) h0 rfl; decide)
    rw [he]
    clear he
    go_enter Tryz.func96, Tryz.ntmps96
    go_wp2
    go_ret
    exact ⟨_, rfl, HS.out, HB.out⟩
  | false =>
  cases h1 : (n.toList == [116, 98, 111, 100, 121]) with
  | true =>
    have he : endWalls n = [n_table, n_template] := endWalls_yes (by obtain rfl := of_bytes (m := n_tbody) h1 rfl; decide)
    rw [he]
    clear he
    go_enter Tryz.func96, Tryz.ntmps96
    go_wp2
    go_ret
    exact ⟨_, rfl, HS.out, HB.out⟩
  | false =>
  cases h2 : (n.toList == [116, 100]) with
  | true =>
    have he : endWalls n = [n_table, n_template] := endWalls_yes (by obtain rfl := of_bytes (m := n_td) h2 rfl; decide)
    rw [he]
    clear he
    go_enter Tryz.func96, Tryz.ntmps96
    go_wp2
    go_ret
    exact ⟨_, rfl, HS.out, HB.out⟩
  | false =>
  cases h3 : (n.toList == [116, 102, 111, 111, 116]) with
  | true =>
    have he : endWalls n = [n_table, n_template] := endWalls_yes (by obtain rfl := of_bytes (m := n_tfoot) h3 rfl; decide)
    rw [he]
    clear he
    go_enter Tryz.func96, Tryz.ntmps96
    go_wp2
    go_ret
    exact ⟨_, rfl, HS.out, HB.out⟩
  | false =>
  cases h4 : (n.toList == [116, 104]) with
  | true =>
    have he : endWalls n = [n_table, n_template] := endWalls_yes (by obtain rfl := of_bytes (m := n_th) h4 rfl; decide)
    rw [he]
    clear he
    go_enter Tryz.func96, Tryz.ntmps96
    go_wp2
    go_ret
    exact ⟨_, rfl, HS.out, HB.out⟩
  | false =>
  cases h5 : (n.toList == [116, 104, 101, 97, 100]) with
  | true =>
    have he : endWalls n = [n_table, n_template] := endWalls_yes (by obtain rfl := of_bytes (m := n_thead) h5 rfl; decide)
    rw [he]
    clear he
    go_enter Tryz.func96, Tryz.ntmps96
    go_wp2
    go_ret
    exact ⟨_, rfl, HS.out, HB.out⟩
  | false =>
  cases h6 : (n.toList == [116, 114]) with
  | true =>
    have he : endWalls n = [n_table, n_template] := endWalls_yes (by obtain rfl := of_bytes (m := n_tr) h6 rfl; decide)
    rw [he]
    clear he
    go_enter Tryz.func96, Tryz.ntmps96
    go_wp2
    go_ret
    exact ⟨_, rfl, HS.out, HB.out⟩
  | false =>
  have hno : endWalls n = wallsL n_p := endWalls_no (not_bytes h0 rfl) (isIn_no fun hm => by
    unfold tableL at hm
    simp only [List.mem_cons, List.not_mem_nil, or_false] at hm
    rcases hm with e | e | e | e | e | e
    · exact not_bytes h1 rfl e
    · exact not_bytes h2 rfl e
    · exact not_bytes h3 rfl e
    · exact not_bytes h4 rfl e
    · exact not_bytes h5 rfl e
    · exact not_bytes h6 rfl e)
  rw [hno]
  clear hno HS HB
  go_enter Tryz.func96, Tryz.ntmps96
  go_wp2_with fail
  refine (Na.walls_any n_p w).mono ?_
  rintro e w1 ⟨v, rfl, hs, hb⟩
  go_wp2
  go_ret
  exact ⟨v, rfl, hs, hb⟩

/-- A row behind rows, a text joined. -/
def addRow (o : List Ro) (z : Ro) : List Ro := if z.kind = 1 then addText o z.depth z.data else o ++ [z]
theorem len_norm (l : List Ro) : full l → (Ro.normal l).length ≤ l.length := by
  induction hn : l.length using Nat.strongRecOn generalizing l with
  | ind n ih =>
    subst hn
    intro h
    rcases snoc_cases l with rfl | ⟨m, y, rfl⟩
    · rw [Ro.normal]; exact Nat.le_refl _
    · rw [len_normal h, List.length_append]
      have := ih m.length (by rw [List.length_append]; exact Nat.lt_succ_self _) m rfl (full_init h)
      show _ ≤ m.length + 1
      split <;> omega

/-- A builder that has this state. -/
structure Bt (N : Nat) (w : World) (b : Nat) (st : St) (big : Bool) (m T : Nat) : Prop where
  ex : ∃ l, Bg N w b st.stk.reverse l (st.out.length : Nat) big ∧ full (ros l) ∧ Ro.normal (ros l) = st.out ∧ l.length ≤ m ∧ (Ro.txt (ros l)).length ≤ T ∧ ∀ x ∈ l, x.ro.attrs.length ≤ 1000000 ∧ 0 ≤ x.ro.depth ∧ x.ro.depth ≤ 1000000
  sm : st.stk.length ≤ m
theorem Bt.below {N : Nat} {w w' : World} {b : Nat} {st : St} {big : Bool} {m T : Nat} (h : Bt N w b st big m T) (hb : Below w.heap.size w w') : Bt N w' b st big m T ∧ Below N w w' := by
  obtain ⟨⟨l, h1, h2⟩, h3⟩ := h
  obtain ⟨a, c⟩ := h1.below hb
  exact ⟨⟨⟨l, a, h2⟩, h3⟩, c⟩
theorem Bt.more {N : Nat} {w : World} {b : Nat} {st : St} {big : Bool} {m T m' T' : Nat} (h : Bt N w b st big m T) (hm : m ≤ m') (hT : T ≤ T') : Bt N w b st big m' T' := by
  obtain ⟨⟨l, h1, h2, h3, h4, h5, h6⟩, h7⟩ := h
  exact ⟨⟨l, h1, h2, h3, Nat.le_trans h4 hm, Nat.le_trans h5 hT, h6⟩, Nat.le_trans h7 hm⟩
theorem Bt.n {N : Nat} {w : World} {b : Nat} {st : St} {big : Bool} {m T : Nat} (h : Bt N w b st big m T) : N ≤ b ∧ b < w.heap.size := by
  obtain ⟨⟨l, h1, _⟩, _⟩ := h
  exact h1.lt

theorem fr_row (N : Nat) (w : World) (r : Ro) (h : r.attrs = []) : Fr N w ⟨r, none, 0⟩ := by
  refine ⟨?_, fun a ha => ?_⟩
  · show w.ownsRow N 46 2 (.slice none r.attrs.length 0) r.attrs.length (r.attrs.flatMap acells)
    rw [h]
    exact World.ownsRow_nil w N _ 2
  · have : a ∈ r.attrs := ha
    rw [h] at this
    cases this

theorem add_bt (N b m T : Nat) (st : St) (big : Bool) (y : Cw) (w : World) (V : Value) (hV : V = rowV y) (h : Bt N w b st big m T) (hy : Fr N w y) (hm : m < 1000000) (hd : y.ro.kind = 1 → y.ro.data ≠ ⟨#[]⟩) (ha : y.ro.attrs.length ≤ 1000000) (dt : Nat) (hdt : y.ro.kind = 1 → y.ro.data.size ≤ dt) :
    Calls Tryz.prog 73 #[bp b, V] w fun e w' => e = .returned (.tuple #[]) ∧
      Bt N w' b ⟨st.stk, addRow st.out ⟨(st.stk.length : Nat), y.ro.kind, y.ro.name, y.ro.data, y.ro.attrs⟩⟩ (tooBig (addRow st.out ⟨(st.stk.length : Nat), y.ro.kind, y.ro.name, y.ro.data, y.ro.attrs⟩)) (m + 1) (T + dt) ∧ Below N w w' ∧ Kt w w' := by
  subst hV
  obtain ⟨⟨l, hg, hf, hn, hl, ht, hx⟩, hs⟩ := h
  have hnl := len_norm _ hf
  rw [hn, len_ros] at hnl
  refine (add_any N b st.stk.reverse l (st.out.length : Nat) big y w hg hy (by omega) (by rw [List.length_reverse]; omega) (by omega) (by omega)).mono ?_
  rintro e w' ⟨rfl, z, hz, hg', hb, hkt⟩
  rw [List.length_reverse] at hz hg'
  have hzk : z.ro.kind = y.ro.kind := by rw [hz]
  have hzd : z.ro.data = y.ro.data := by rw [hz]
  have hza : z.ro.attrs = y.ro.attrs := by rw [hz]
  have hzp : z.ro.depth = (st.stk.length : Nat) := by rw [hz]
  have hros : ros (l ++ [z]) = ros l ++ [z.ro] := by rw [ros_append]; rfl
  have hf' : full (ros l ++ [z.ro]) := full_snoc hf (by rw [hzk, hzd]; exact hd)
  have hno : Ro.normal (ros l ++ [z.ro]) = addRow st.out z.ro := by
    rw [normal_snoc _ _ hf', hn]
    rfl
  have hln := len_normal hf'
  rw [hno, hn] at hln
  have hmo : more (ros l) (st.out.length : Nat) z.ro = ((addRow st.out z.ro).length : Nat) := by
    unfold more
    rw [hln]
    split <;> simp
  have hbg := big_normal hf'
  rw [hno, hzp] at hbg
  rw [← hz]
  refine ⟨rfl, ⟨⟨l ++ [z], ?_, by rw [hros]; exact hf', by rw [hros]; exact hno, ?_, ?_, ?_⟩, by show st.stk.length ≤ m + 1; omega⟩, hb, hkt⟩
  · have hbb : (decide (4096 < more (ros l) (st.out.length : Nat) z.ro) || decide (60 ≤ (st.stk.length : Int))) = tooBig (addRow st.out z.ro) := by
      rw [hbg, hmo]
      congr 1
      exact decide_eq_decide.2 (by omega)
    rw [hbb, hmo] at hg'
    exact hg'
  · rw [List.length_append]; show l.length + 1 ≤ m + 1; omega
  · rw [hros, Ro.txt_append, List.length_append, Ro.txt_one]
    by_cases hk : z.ro.kind = 1
    · rw [if_pos hk, hzd, size_L]
      have := hdt (hzk ▸ hk)
      omega
    · rw [if_neg hk]
      show _ + 0 ≤ _
      omega
  · intro x hxm
    rcases List.mem_append.1 hxm with e | e
    · exact hx x e
    · rw [List.mem_singleton.1 e, hza, hzp]
      exact ⟨ha, by omega, by omega⟩

theorem text_no (b : Nat) (d : ByteArray) (w : World) (hd : d = ⟨#[]⟩) :
    Calls Tryz.prog 72 #[bp b, .string d] w fun e w' => e = .returned (.tuple #[]) ∧ w = w' := by
  have he : d.toList.isEmpty = true := by rw [hd]; exact nil_empty
  clear hd
  go_enter Tryz.func72, Tryz.ntmps72
  go_wp2
  go_end0
  exact ⟨rfl, rfl⟩
theorem text_yes (N b m T : Nat) (st : St) (big : Bool) (d : ByteArray) (w : World) (h : Bt N w b st big m T) (hm : m < 1000000) (hd : d ≠ ⟨#[]⟩) :
    Calls Tryz.prog 72 #[bp b, .string d] w fun e w' => e = .returned (.tuple #[]) ∧
      Bt N w' b ⟨st.stk, addText st.out st.stk.length d⟩ (tooBig (addText st.out st.stk.length d)) (m + 1) (T + d.size) ∧ Below N w w' := by
  have he : d.toList.isEmpty = false := by rw [empty_eq, decide_eq_false hd]
  have HD := Lib.hid hd; have H := Lib.hid h
  clear hd h
  go_enter Tryz.func72, Tryz.ntmps72
  go_wp2_with fail
  refine (add_bt N b m T st big ⟨⟨0, 1, ⟨#[]⟩, d, []⟩, none, 0⟩ w _ rfl H.out (fr_row N w _ rfl) hm (fun _ => HD.out) (by simp) d.size (fun _ => Nat.le_refl _)).mono ?_
  rintro e w1 ⟨rfl, h1, hb, _⟩
  have H1 := Lib.hid h1; have HB := Lib.hid hb
  clear h1 hb
  go_wp2
  go_end0
  exact ⟨rfl, H1.out, HB.out⟩

end Go.Proofs.YtenmlpfjeohkiaaGreatDoor.Bu

namespace Go.Proofs.YtenmlpfjeohkiaaGreatDoor.Bu
set_option maxRecDepth 100000
set_option linter.unusedVariables false
set_option linter.unusedSimpArgs false
open Go.RowKit Ba Fm Fo Nm Bm
open Ro (At Ro Cw ros Fr Ow Att Ap Rr Sh Ra acells len_acells cells len_cells rowV rowO info_row info_attr below_new len_ros ros_append)
theorem end_no (b : Nat) (n : ByteArray) (w : World) (h : noName n = true ∨ (noName n = false ∧ isIn n voidL = true)) :
    Calls Tryz.prog 75 #[bp b, .string n] w fun e w' => e = .returned (.tuple #[]) ∧ Below w.heap.size w w' := by
  rcases h with h | ⟨h, h'⟩
  · go_enter Tryz.func75, Tryz.ntmps75
    go_wp2_with fail
    refine (passedOver_any n w true h).mono ?_
    rintro e w1 ⟨rfl, b1⟩
    go_wp2
    first | go_end0 | refine bodyPost_ret (results_none rfl _ _ _) rfl ?_
    exact ⟨rfl, b1⟩
  · go_enter Tryz.func75, Tryz.ntmps75
    go_wp2_with fail
    refine (passedOver_any n w false h).mono ?_
    rintro e w1 ⟨rfl, b1⟩
    go_wp2_with fail
    refine (void1 n w1 true h').mono ?_
    rintro e w2 ⟨rfl, b2⟩
    go_wp2
    first | go_end0 | refine bodyPost_ret (results_none rfl _ _ _) rfl ?_
    exact ⟨rfl, bt b1 b2⟩

/-- The state behind a tag that ends. -/
def endS (st : St) (n : ByteArray) : St :=
  match findS [n] (endWalls n) st.stk with
  | some r => ⟨r, st.out⟩
  | none => if n = n_p then ⟨st.stk, st.out ++ [⟨st.stk.length, 0, n_p, ⟨#[]⟩, []⟩]⟩ else st
theorem ends_len (n : ByteArray) : (endWalls n).length ≤ 1000 := by
  unfold endWalls
  split
  · exact walls_len _
  · exact walls_len _
theorem p_of {n : ByteArray} (h : (n.toList == [112]) = true) : n = n_p := of_bytes h rfl
theorem p_no {n : ByteArray} (h : (n.toList == [112]) = false) : n ≠ n_p := not_bytes h rfl
theorem sv_one (w : World) (n : ByteArray) : Sv (w.alloc (.cells #[.string n] 9)) (w.alloc (.cells #[.string n] 9)).heap.size (.slice (some ⟨w.heap.size, 0, none⟩) 1 1) [n] := sv_lit w [n]
theorem Sv.drew {w : World} {v : Value} {l : List ByteArray} (h : Sv w w.heap.size v l) : Sv w.drew w.drew.heap.size v l := h
theorem Sv.up {w w' : World} {v : Value} {l : List ByteArray} (h : Sv w w.heap.size v l) (hb : Below w.heap.size w w') : Sv w' w'.heap.size v l := (h.below hb (Nat.le_refl _)).more hb.size

set_option maxRecDepth 100000 in
set_option maxHeartbeats 4000000 in
theorem end_any (N b m T : Nat) (st : St) (n : ByteArray) (w : World) (h : Bt N w b st false m T) (hm : m < 1000000) (h1 : noName n = false) (h2 : isIn n voidL = false) (hbig : tooBig st.out = false) :
    Calls Tryz.prog 75 #[bp b, .string n] w fun e w' => e = .returned (.tuple #[]) ∧ Bt N w' b (endS st n) (tooBig (endS st n).out) (m + 1) T ∧ Below N w w' := by
  have hel := ends_len n
  go_enter Tryz.func75, Tryz.ntmps75
  go_wp2_with fail
  refine (passedOver_any n w false h1).mono ?_
  rintro e w1 ⟨rfl, b1⟩
  go_wp2_with fail
  refine (void1 n w1 false h2).mono ?_
  rintro e w2 ⟨rfl, b2⟩
  obtain ⟨hb2, hB2⟩ := h.below (bt b1 b2)
  clear h
  have HB := Lib.hid hb2; have HBW := Lib.hid hB2
  obtain ⟨⟨l, ⟨vo, vr, hc, ho, hr, hN⟩, hrest⟩, hsm⟩ := hb2
  obtain ⟨so, hso⟩ : ∃ so, st.stk.reverse = so := ⟨_, rfl⟩
  have hsl : so.length = st.stk.length := by rw [← hso, List.length_reverse]
  rw [hso] at ho
  obtain ⟨Ao, co, hv, hco, _, hro⟩ := ho.form
  subst hv
  have c0 := hc.c0; have hz := hc.lt
  have hol : so.length ≤ 1000000 := by omega
  have HSO := Lib.hid hso; have HSL := Lib.hid hsl
  have HC := Lib.hid hc; have HRO := Lib.hid hro; have HSM := Lib.hid hsm
  have HA := Lib.hid (show Bc (w2.alloc (.cells #[.string n] 9)).drew b _ vr _ false from (hc.below (below_one w2 (.cells #[.string n] 9))).drew 1)
  have HZ := Lib.hid (show Bc w2.drew b _ vr _ false from hc)
  have hva : Sv (w2.alloc (.cells #[.string n] 9)).drew (w2.alloc (.cells #[.string n] 9)).drew.heap.size (.slice (some ⟨w2.heap.size, 0, none⟩) 1 1) [n] := sv_one w2 n
  have hba : Below w2.heap.size w2 (w2.alloc (.cells #[.string n] 9)).drew := below_dN (below_one w2 (.cells #[.string n] 9)) 1
  have HVA := Lib.hid hva; have HBA := Lib.hid hba
  clear hva hba
  clear hso hsl hc ho hr hro hrest hsm hB2 b1 b2 h1 h2
  go_upto_region 1 with (fail)
  obtain ⟨i, hi⟩ : ∃ i, idx [n] (endWalls n) so = i := ⟨_, rfl⟩
  have HI := Lib.hid hi
  clear hi
  go_cut [4] from 11 to 19 (fun s4 wx => s4 = .int .i64 i ∧ Below w2.heap.size w2 wx)
  case first =>
    go_region_held3 (fun w' => w'.cell? ⟨b, 0, none⟩ = some (.slice Ao so.length co)) (first | exact e0 | exact d0 | exact c0 | go_keep) (first
      | (go_at_call 95; first
          | (with_reducible show Calls _ _ _ (World.alloc _ _) _; refine (find1 _ _ _ 0 so [n] (endWalls n) (w3.alloc (.cells #[.string n] 9)) hol Ao co rfl ((HR3.out.below (below_one w3 _) (Nat.le_refl _)).more (by simp)) (sv_one w3 n) (Sv.up HW3.out (below_one w3 _)) (by simp) hel i HI.out).mono ?_; rintro e w4 ⟨rfl, b4⟩; have hc4 := (HC3.out.below (below_one w3 (.cells #[.string n] 9))).below b4; have e0 := hc4.c0; have HB4 := Lib.hid (bt (bt HB3.out (below_one w3 _)) b4); clear b4 hc4)
          | (refine (find1 _ _ _ 0 so [n] (endWalls n) w3 hol Ao co rfl HR3.out HV3.out HW3.out (by simp) hel i HI.out).mono ?_; rintro e w4 ⟨rfl, b4⟩; have hc4 := HC3.out.below b4; have e0 := hc4.c0; have HB4 := Lib.hid (bt HB3.out b4); clear b4 hc4))
      | (go_at_call 96; first
          | (with_reducible show Calls _ _ _ (World.drew (World.alloc _ _)) _; refine (endWalls_any n (w2.alloc (.cells #[.string n] 9)).drew).mono ?_; rintro e w3 ⟨Vw, rfl, sw, b3⟩; have hc3 := HA.out.below b3; have d0 := hc3.c0; have HC3 := Lib.hid hc3; have hb3 : Below w2.heap.size w2 w3 := bt HBA.out b3; have hr3 : Rd w3 w3.heap.size Ao so := (HRO.out.below hb3 (Nat.le_refl _)).more hb3.size; have hv3 : Sv w3 w3.heap.size (.slice (some ⟨w2.heap.size, 0, none⟩) 1 1) [n] := Sv.up HVA.out b3; have hw3 : Sv w3 w3.heap.size Vw (endWalls n) := sv_own sw; have HR3 := Lib.hid hr3; have HV3 := Lib.hid hv3; have HW3 := Lib.hid hw3; have HB3 := Lib.hid hb3; clear hc3 b3 hb3 sw hr3 hv3 hw3)
          | (refine (endWalls_any n w2.drew).mono ?_; rintro e w3 ⟨Vw, rfl, sw, b3⟩; have hc3 := HZ.out.below b3; have d0 := hc3.c0; have HC3 := Lib.hid hc3; have hb3 : Below w2.heap.size w2 w3 := bt (show Below w2.heap.size w2 w2.drew from below_dN (Below.refl _ _) 1) b3; have hr3 : Rd w3 w3.heap.size Ao so := (HRO.out.below hb3 (Nat.le_refl _)).more hb3.size; have hw3 : Sv w3 w3.heap.size Vw (endWalls n) := sv_own sw; have HR3 := Lib.hid hr3; have HW3 := Lib.hid hw3; have HB3 := Lib.hid hb3; clear hc3 b3 hb3 sw hr3 hw3)))
    all_goals go_wp2_with fail
    all_goals go_meet
    all_goals exact ⟨rfl, HB4.out⟩
  case rest =>
  obtain ⟨rfl, hb4⟩ := hcut
  rename World => w4
  obtain ⟨hB4, hW4⟩ := HB.out.below hb4
  have HWW := Lib.hid (HBW.out.trans hW4)
  clear HA HZ HVA HBA HC HRO HSM HB HBW c0 hW4
  have hRV : st.stk.reverse.reverse = st.stk := List.reverse_reverse _
  rw [HSO.out] at hRV
  rcases idx_take (ns := [n]) (ws := endWalls n) (o := so) with ⟨e1, e2⟩ | ⟨k, e1, hk, e2⟩
  · rw [HI.out] at e1
    subst e1
    rw [hRV] at e2
    cases hp : (n.toList == [112]) with
    | true =>
      have hes : endS st n = ⟨st.stk, addRow st.out ⟨(st.stk.length : Nat), 0, n, ⟨#[]⟩, []⟩⟩ := by
        unfold endS
        rw [e2, p_of hp]
        rfl
      have HES := Lib.hid hes
      have HB4 := Lib.hid hB4
      clear hes e2 hRV hB4
      go_wp2_with fail
      refine (add_bt N b m T st false ⟨⟨0, 0, n, ⟨#[]⟩, []⟩, none, 0⟩ w4 _ rfl HB4.out (fr_row N w4 _ rfl) hm (by simp) (by simp) 0 (by simp)).mono ?_
      rintro e w5 ⟨rfl, h5, b5, _⟩
      have H5 := Lib.hid h5; have B5 := Lib.hid (HWW.out.trans b5)
      clear h5 b5
      go_wp2
      first | go_end0 | refine bodyPost_ret (results_none rfl _ _ _) rfl ?_
      exact ⟨rfl, by rw [HES.out]; exact H5.out, B5.out⟩
    | false =>
      have hes : endS st n = st := by
        unfold endS
        rw [e2]
        show (if n = n_p then _ else st) = st
        rw [if_neg (p_no hp)]
      have HES := Lib.hid hes
      have HB4 := Lib.hid hB4
      clear hes e2 hRV hB4
      go_wp2
      first | go_end0 | refine bodyPost_ret (results_none rfl _ _ _) rfl ?_
      exact ⟨rfl, by rw [HES.out, hbig]; exact HB4.out.more (Nat.le_succ _) (Nat.le_refl _), HWW.out⟩
  · rw [HI.out] at e1
    subst e1
    rw [hRV] at e2
    have hes : endS st n = ⟨(so.take k).reverse, st.out⟩ := by
      unfold endS
      rw [e2]
    have HES := Lib.hid hes
    obtain ⟨⟨l, ⟨vo, vr, hc, ho, hr, hN⟩, hf, hn, hl, ht, hx⟩, hsm⟩ := hB4
    rw [HSO.out] at ho
    obtain ⟨Ao, co, rfl, hco, _, _⟩ := ho.form
    have c0 := hc.c0; have f0 := hc.f 0; have hz := hc.lt
    have hge : decide ((0 : Int) ≤ (k : Int)) = true := decide_eq_true (by omega)
    have i0 : (0 : Int) ≤ (k : Int) := by omega
    have i1 : (k : Int) ≤ (co : Int) := by omega
    have hcut := Sown.cut ho (Nat.le_of_lt hk)
    have hkl : (so.take k).length = k := by rw [List.length_take]; omega
    have HCU := Lib.hid hcut; have HC := Lib.hid hc; have HR := Lib.hid hr
    have HREST := Lib.hid (show full (ros l) ∧ Ro.normal (ros l) = st.out ∧ l.length ≤ m ∧ (Ro.txt (ros l)).length ≤ T ∧ ∀ x ∈ l, x.ro.attrs.length ≤ 1000000 ∧ 0 ≤ x.ro.depth ∧ x.ro.depth ≤ 1000000 from ⟨hf, hn, hl, ht, hx⟩)
    have HKL := Lib.hid hkl
    clear hes e2 hRV hc ho hr hf hn hl ht hx hcut hkl
    go_wp2
    first | go_end0 | refine bodyPost_ret (results_none rfl _ _ _) rfl ?_
    have hgs := g_set w4 b 0 (.slice Ao k co)
    obtain ⟨hf, hn, hl, ht, hx⟩ := HREST.out
    rw [HES.out]
    refine ⟨rfl, ⟨⟨l, ⟨.slice Ao k co, vr, ?_, ?_, HR.out.kept hgs HC.out (by decide) (by decide), hN⟩, hf, hn, by omega, ht, hx⟩, ?_⟩, ?_⟩
    · show Bc _ b _ vr _ (tooBig st.out)
      rw [hbig]
      exact HC.out.set0 _
    · show Sown N _ _ (so.take k).reverse.reverse
      rw [List.reverse_reverse]
      exact Sown.keptB HCU.out hgs HC.out (by decide)
    · show (so.take k).reverse.length ≤ m + 1
      rw [List.length_reverse, HKL.out]
      have := HSL.out
      omega
    · exact HWW.out.setCell hN _

end Go.Proofs.YtenmlpfjeohkiaaGreatDoor.Bu

namespace Go.Proofs.YtenmlpfjeohkiaaGreatDoor.Bu
set_option maxRecDepth 100000
set_option linter.unusedVariables false
set_option linter.unusedSimpArgs false
open Go.RowKit Ba Fm Fo Nm Bm
open Ro (At Ro Cw ros Fr Ow Att Ap Rr Sh Ra acells len_acells cells len_cells rowV rowO info_row info_attr below_new len_ros ros_append)
open Tm (Tk put)
open To (Tw Aw tokV tokO tks)
/-- append of one string onto the open elements of a builder, at a step of a region that draws. -/
theorem step_app_str {ops : Array Oper} {o : Oper} {a : Act} {K : Act → World → Prop} {Q : Exit → Act → World → Prop} {E : Prop} (W : World) (hgd : o.guard = none) (s x : Operand)
    (ho : o.op = .call { callee := .builtin .append, args := #[s, x], argTypes := #[41, 41] })
    (W0 : World) (N : Nat) (v : Value) (l : List ByteArray) (z : ByteArray) (hr : Sown N W0 v l) (hg : W0.grownBy W none) (hN : N ≤ W0.heap.size) (hl : l.length ≤ 2000000)
    (hs : a.eval s = v) (g0 : Nat) (hx : a.eval x = .slice (some ⟨g0, 0, none⟩) 1 1) (hz : W.heap[g0]? = some (.cells #[.string z] 9))
    (h : ∀ g cap w', w'.ownsRow N 9 1 (.slice (some ⟨g, 0, none⟩) (l.length + 1) cap) (l.length + 1) (l.map sc ++ [.string z]) → W0.grownBy w' v.ownBlock → K (a.put o.dst (.slice (some ⟨g, 0, none⟩) (l.length + 1) cap)) w') :
    if Region.wanted o (yielded ops a.tmps) = true then Oper.wp Tryz.prog o a W K Q else E := by
  obtain ⟨i0, hi, hz0, hz1, hz2⟩ := info_parts info_str
  have hown : W.ownsRow N 9 1 v l.length (l.map sc) := World.ownsRow.kept hr hg (by cases hv : v.ownBlock with
    | none => exact .inl rfl
    | some k => right; simp)
  refine step_append_lies W hgd s x 41 ho N 9 i0 _ 1 16 Tryz.underlying41 hi hz0 hz1 hz2 rfl (by decide) v l.length (l.map sc) hs hown ⟨g0, 0, none⟩ 1 1 [.string z] hx rfl (fun j u hu => World.news_of_block hz j u hu) (by simp [Value.oneCell']) (by decide) (by unfold maxLen; omega) (by omega) (Nat.le_trans hN hg.size) _ rfl ?_
  intro g cap w1 h1 h2 _ _
  exact h g cap w1 h1 ⟨h2.os.trans hg.os, h2.tape.trans hg.tape, h2.output.trans hg.output, Nat.le_trans hg.size h2.size, fun i hi hne => (h2.block i (Nat.lt_of_lt_of_le hi hg.size) hne).trans (hg.block i hi (by simp))⟩

theorem Bc.overS {N : Nat} {w w' : World} {b : Nat} {vo vr : Value} {n : Int} {big : Bool} {o : List ByteArray} (h : Bc w b vo vr n big) (hr : Sown N w vo o) (hg : w.grownBy w' vo.ownBlock) : Bc w' b vo vr n big := (hg.block b h.lt (fun e => own_ne hr h (by decide) e.symm)).trans h
/-- One more open element, and what stands behind the store. -/
theorem Bg.push {N : Nat} {w w1 : World} {b : Nat} {vo vr v' : Value} {o : List ByteArray} {l : List Cw} {z : ByteArray} {n : Int} {big : Bool} (hc : Bc w b vo vr n big) (ho : Sown N w vo o) (hr : Or N w vr l) (hN : N ≤ b)
    (h1 : w1.ownsRow N 9 1 v' (o.length + 1) (o.map sc ++ [.string z])) (hg : w.grownBy w1 vo.ownBlock) :
    Bg N (w1.setCell ⟨b, 0, none⟩ v') b (o ++ [z]) l n big ∧ ∀ w0, Below N w0 w → Below N w0 (w1.setCell ⟨b, 0, none⟩ v') := by
  have hrc : Bc w1 b vo vr n big := Bc.overS hc ho hg
  have hor : Or N w1 vr l := hr.apart ho hg (by decide) (by decide)
  have hs : Sown N w1 v' (o ++ [z]) := Sown.appended (m := [z]) h1 rfl
  have hgs := g_set w1 b 0 v'
  refine ⟨⟨v', vr, hrc.set0 v', Sown.keptB hs hgs hrc (by decide), hor.kept hgs hrc (by decide) (by decide), hN⟩, fun w0 h0 => ?_⟩
  have hlt := hc.lt
  exact (h0.grown hg (by omega) fun k hk => (World.ownsRow.lt ho k hk).1).setCell hN _

theorem leftOpen1 (V : Value) (l : List ByteArray) (n : ByteArray) (w : World) (hm : l.length ≤ 1000000) (A : Option Addr) (c : Nat) (hV : V = .slice A l.length c) (hc : l.length ≤ c) (hr : Rd w w.heap.size A l) :
    Calls Tryz.prog 68 #[V, .string n] w fun e w' => ∃ k : Nat, e = .returned (.slice A k c) ∧ k ≤ l.length ∧ (l.take k).reverse = openedS n l.reverse ∧ Below w.heap.size w w' := by
  subst hV
  exact leftOpen_any A c l n w hm hc hr

theorem start_no (b : Nat) (x : Tw) (w : World) (h : noName x.tk.name = true) :
    Calls Tryz.prog 74 #[bp b, tokV x] w fun e w' => e = .returned (.tuple #[]) ∧ Below w.heap.size w w' := by
  go_enter Tryz.func74, Tryz.ntmps74
  go_wp2_with fail
  refine (passedOver_any x.tk.name _ true h).mono ?_
  rintro e w1 ⟨rfl, b1⟩
  go_wp2
  first | go_end0 | refine bodyPost_ret (results_none rfl _ _ _) rfl ?_
  exact ⟨rfl, bt (below_new w _) b1⟩

/-- The state behind a tag that begins. -/
def startS (st : St) (n : ByteArray) (at_ : List At) : St := ⟨if isIn n voidL = true then openedS n st.stk else n :: openedS n st.stk, st.out ++ [⟨(openedS n st.stk).length, 0, n, ⟨#[]⟩, once at_⟩]⟩

set_option maxRecDepth 100000 in
set_option maxHeartbeats 4000000 in
theorem start_any (N b m T : Nat) (st : St) (x : Tw) (w : World) (h : Bt N w b st false m T) (hx : To.Att w N x) (hm : m < 1000000) (hal : x.tk.attrs.length ≤ 1000000) (h1 : noName x.tk.name = false) :
    Calls Tryz.prog 74 #[bp b, tokV x] w fun e w' => e = .returned (.tuple #[]) ∧ Bt N w' b (startS st x.tk.name x.tk.attrs) (tooBig (startS st x.tk.name x.tk.attrs).out) (m + 1) T ∧ Below N w w' := by
  have hNz := h.n
  go_enter Tryz.func74, Tryz.ntmps74
  go_wp2_with fail
  refine (passedOver_any x.tk.name _ false h1).mono ?_
  rintro e w2 ⟨rfl, b2⟩
  obtain ⟨hb2, hB2⟩ := h.below (bt (below_new w _) b2)
  have hbox : w2.heap[w.heap.size]? = some (tokO x) := (b2.block w.heap.size (by simp)).trans (World.alloc_heap_new _ _)
  have HX := Lib.hid hx
  clear h hx b2
  obtain ⟨⟨l, ⟨vo, vr, hc, ho, hr, hN⟩, hf, hn, hl, ht, hxl⟩, hsm⟩ := hb2
  obtain ⟨so, hso⟩ : ∃ so, st.stk.reverse = so := ⟨_, rfl⟩
  have hsl : so.length = st.stk.length := by rw [← hso, List.length_reverse]
  have hsr : so.reverse = st.stk := by rw [← hso, List.reverse_reverse]
  rw [hso] at ho
  obtain ⟨Ao, co, hv, hco, _, hro⟩ := ho.form
  subst hv
  have c0 := hc.c0; have f0 := hc.f 0; have hz := hc.lt
  have hol : so.length ≤ 1000000 := by omega
  have y1 : w2.cell? ⟨w.heap.size, 1, none⟩ = some (.string x.tk.name) := by rw [cell_of_row w2 w.heap.size 1 _ _ _ hbox]; rfl
  have hgz : w.heap.size < w2.heap.size := (Array.getElem?_eq_some_iff.1 hbox).1
  have hne : w.heap.size ≠ b := by omega
  have HC := Lib.hid hc; have HO := Lib.hid ho; have HR := Lib.hid hr; have HRO := Lib.hid hro; have HBX := Lib.hid hbox; have HBW := Lib.hid hB2; have HSR := Lib.hid hsr; have HSL := Lib.hid hsl
  have HREST := Lib.hid (show full (ros l) ∧ Ro.normal (ros l) = st.out ∧ l.length ≤ m ∧ (Ro.txt (ros l)).length ≤ T ∧ (∀ y ∈ l, y.ro.attrs.length ≤ 1000000 ∧ 0 ≤ y.ro.depth ∧ y.ro.depth ≤ 1000000) ∧ st.stk.length ≤ m from ⟨hf, hn, hl, ht, hxl, hsm⟩)
  clear hc ho hr hro hbox hB2 hsr hsl hf hn hl ht hxl hsm hso h1
  go_upto_region 2 with (fail)
  go_cut [3] from 7 to 16 (fun s3 wx => s3 = .pointer (some ⟨w.heap.size, 0, none⟩) ∧ ∃ k : Nat, k ≤ so.length ∧ (so.take k).reverse = openedS x.tk.name st.stk ∧ Bc wx b (.slice Ao k co) vr (st.out.length : Nat) false ∧ Sown N wx (.slice Ao k co) (so.take k) ∧ Or N wx vr l ∧ Below N w wx ∧ wx.heap[w.heap.size]? = some (tokO x))
  case first =>
    go_region_law (go_simp; go_at_call 68; refine (leftOpen1 _ so x.tk.name w2.drew hol Ao co rfl hco HRO.out).mono ?_; rintro e w3 ⟨k, rfl, hk, hop, b3⟩; have hb3 : Below w2.heap.size w2 w3 := bt (show Below w2.heap.size w2 w2.drew from below_dN (Below.refl _ _) 1) b3; have hc3 := HC.out.below hb3; have c3 := hc3.c0; have f3 := hc3.f 0; have HC3 := Lib.hid hc3; have HB3 := Lib.hid hb3; have HOP := Lib.hid hop; clear hc3 b3 hb3 hop)
    all_goals go_wp2_with fail
    all_goals go_meet
    all_goals
      have hgs := g_set w3 b 0 (.slice Ao k co)
      have ho3 := HO.out.below HB3.out (Nat.le_refl _)
      refine ⟨rfl, k, hk, by rw [HOP.out, HSR.out], HC3.out.set0 _, Sown.keptB (Sown.cut ho3 hk) hgs HC3.out (by decide), (HR.out.below HB3.out).kept hgs HC3.out (by decide) (by decide), (HBW.out.trans (HB3.out.mono (by omega))).setCell hN _, ?_⟩
      rw [hgs.block _ (Nat.lt_of_lt_of_le hgz HB3.out.size) (by simpa using hne)]
      exact (HB3.out.block _ hgz).trans HBX.out
  case rest =>
  obtain ⟨rfl, k, hk, hop, hc, ho, hr, hBW, hbox⟩ := hcut
  rename World => w4
  obtain ⟨hf, hn, hl, ht, hxl, hsm⟩ := HREST.out
  have hkl : (so.take k).length = k := by rw [List.length_take]; omega
  have hok : (openedS x.tk.name st.stk).length = k := by rw [← hop, List.length_reverse, hkl]
  have hks : k ≤ m := by have := HSL.out; omega
  have hbt : Bt N w4 b ⟨openedS x.tk.name st.stk, st.out⟩ false m T := ⟨⟨l, ⟨_, vr, hc, by show Sown N w4 _ (openedS x.tk.name st.stk).reverse; rw [← hop, List.reverse_reverse]; exact ho, hr, hN⟩, hf, hn, hl, ht, hxl⟩, by show (openedS x.tk.name st.stk).length ≤ m; omega⟩
  have hx4 : To.Att w4 N x := HX.out.below hBW
  have hb4 := hbt.n.2
  have z1 : w4.cell? ⟨w.heap.size, 1, none⟩ = some (.string x.tk.name) := by rw [cell_of_row w4 w.heap.size 1 _ _ _ hbox]; rfl
  have z3 : w4.cell? ⟨w.heap.size, 3, none⟩ = some (.slice x.A x.tk.attrs.length x.c) := by rw [cell_of_row w4 w.heap.size 3 _ _ _ hbox]; rfl
  have hg4 : w.heap.size < w4.heap.size := (Array.getElem?_eq_some_iff.1 hbox).1
  have hol2 := once_len x.tk.attrs
  have HKM := Lib.hid (show (openedS x.tk.name st.stk).length ≤ m from by omega)
  have HBT := Lib.hid hbt; have HX4 := Lib.hid hx4; have HBX4 := Lib.hid hbox; have HBW4 := Lib.hid hBW
  clear hbt hx4 hbox hBW hc ho hr hop hkl hok hf hn hl ht hxl hsm hks c0 f0 y1
  clear HREST HSL HSR HC HO HR HRO HBX HBW HX
  go_upto_region 3 with (fail)
  obtain ⟨ro, hro⟩ : ∃ ro, addRow st.out ⟨((openedS x.tk.name st.stk).length : Nat), 0, x.tk.name, ⟨#[]⟩, once x.tk.attrs⟩ = ro := ⟨_, rfl⟩
  go_cut [3] from 17 to 24 (fun s3 wx => s3 = .pointer (some ⟨w.heap.size, 0, none⟩) ∧ Bt N wx b ⟨openedS x.tk.name st.stk, ro⟩ (tooBig ro) (m + 1) T ∧ Below N w wx ∧ wx.heap[w.heap.size]? = some (tokO x))
  case first =>
    go_region_held3 (fun w' => w'.cell? ⟨w.heap.size, 1, none⟩ = some (.string x.tk.name) ∧ w'.cell? ⟨w.heap.size, 3, none⟩ = some (.slice x.A x.tk.attrs.length x.c)) (first | exact ⟨e1, e3⟩ | exact ⟨d1, d3⟩ | exact ⟨z1, z3⟩ | go_keep) (first
      | (go_at_call 73; refine (add_bt N b m T ⟨openedS x.tk.name st.stk, st.out⟩ false ⟨⟨0, 0, x.tk.name, ⟨#[]⟩, once x.tk.attrs⟩, A5, c5⟩ w5 _ rfl HBT5.out HAW.out hm (by simp) (by show (once x.tk.attrs).length ≤ 1000000; omega) 0 (by simp)).mono ?_; rintro e w6 ⟨rfl, h6, b6, k6⟩; have hbx6 := (k6 _ _ _ HBX5.out).trans HBX5.out; have e1 : w6.cell? ⟨w.heap.size, 1, none⟩ = some (.string x.tk.name) := (cell_of_row w6 w.heap.size 1 _ _ _ hbx6).trans rfl; have e3 : w6.cell? ⟨w.heap.size, 3, none⟩ = some (.slice x.A x.tk.attrs.length x.c) := (cell_of_row w6 w.heap.size 3 _ _ _ hbx6).trans rfl; have HBX6 := Lib.hid hbx6; have H6 := Lib.hid h6; have HBW6 := Lib.hid (HBW5.out.trans b6); clear hbx6 h6 b6 k6)
      | (go_at_call 94; refine (firsts_any x.A x.c x.tk.attrs w4.drew (HX4.out.2.2.2.1.more (by have := hNz.1; show N ≤ w4.heap.size; omega)) HX4.out.2.2.2.2 HX4.out.1 hal).mono ?_; rintro e w5 ⟨v5, rfl, haw, b5⟩; obtain ⟨A5, c5, rfl⟩ := haw.form; have hb5 : Below w4.heap.size w4 w5 := bt (show Below w4.heap.size w4 w4.drew from below_dN (Below.refl _ _) 1) b5; have hbx5 := (hb5.block _ hg4).trans HBX4.out; have d1 : w5.cell? ⟨w.heap.size, 1, none⟩ = some (.string x.tk.name) := (cell_of_row w5 w.heap.size 1 _ _ _ hbx5).trans rfl; have d3 : w5.cell? ⟨w.heap.size, 3, none⟩ = some (.slice x.A x.tk.attrs.length x.c) := (cell_of_row w5 w.heap.size 3 _ _ _ hbx5).trans rfl; have hbt5 := HBT.out.below hb5; have haw5 : Fr N w5 ⟨⟨0, 0, x.tk.name, ⟨#[]⟩, once x.tk.attrs⟩, A5, c5⟩ := ⟨World.ownsRow.mono haw.1 (by have := hNz.1; show N ≤ w4.heap.size; omega), haw.2⟩; have HBX5 := Lib.hid hbx5; have HBT5 := Lib.hid hbt5.1; have HAW := Lib.hid haw5; have HBW5 := Lib.hid (HBW4.out.trans hbt5.2); clear hbx5 hbt5 haw5 haw hb5 b5))
    all_goals go_wp2_with fail
    all_goals go_meet
    all_goals
      refine ⟨rfl, ?_, HBW6.out, HBX6.out⟩
      rw [← hro]
      exact H6.out
  case rest =>
  obtain ⟨rfl, hbt, hBW, hbox⟩ := hcut
  rename World => w7
  have hst : startS st x.tk.name x.tk.attrs = ⟨if isIn x.tk.name voidL = true then openedS x.tk.name st.stk else x.tk.name :: openedS x.tk.name st.stk, ro⟩ := by
    unfold startS
    rw [← hro]
    rfl
  have z1' : w7.cell? ⟨w.heap.size, 1, none⟩ = some (.string x.tk.name) := (cell_of_row w7 w.heap.size 1 _ _ _ hbox).trans rfl
  have HBX7 := Lib.hid hbox; have HB7 := Lib.hid hbt; have HBW7 := Lib.hid hBW; have HST := Lib.hid hst
  clear z1 z3 hbox hbt hBW hst hro HBT HX4 HBX4 HBW4
  cases hv : isIn x.tk.name voidL with
  | true =>
    go_wp2_with fail
    refine (void1 x.tk.name w7 true hv).mono ?_
    rintro e w8 ⟨rfl, b8⟩
    obtain ⟨h8, hB8⟩ := HB7.out.below b8
    have H8 := Lib.hid h8; have HB8 := Lib.hid (HBW7.out.trans hB8)
    clear h8 hB8 b8 z1'
    go_wp2
    first | go_end0 | refine bodyPost_ret (results_none rfl _ _ _) rfl ?_
    rw [HST.out, if_pos hv]
    exact ⟨rfl, H8.out, HB8.out⟩
  | false =>
    go_wp2_with fail
    refine (void1 x.tk.name w7 false hv).mono ?_
    rintro e w8 ⟨rfl, b8⟩
    obtain ⟨h8, hB8⟩ := HB7.out.below b8
    have hbx8 := (b8.block _ (Array.getElem?_eq_some_iff.1 HBX7.out).1).trans HBX7.out
    obtain ⟨⟨l, ⟨vo, vr, hc, ho, hr, hN⟩, hf, hn, hl, ht, hxl⟩, hsm⟩ := h8
    obtain ⟨s2, hs2⟩ : ∃ s2, (openedS x.tk.name st.stk).reverse = s2 := ⟨_, rfl⟩
    rw [show (St.mk (openedS x.tk.name st.stk) ro).stk.reverse = s2 from hs2] at ho
    have hs2l : s2.length = (openedS x.tk.name st.stk).length := by rw [← hs2, List.length_reverse]
    have y1 : w8.cell? ⟨w.heap.size, 1, none⟩ = some (.string x.tk.name) := (cell_of_row w8 w.heap.size 1 _ _ _ hbx8).trans rfl
    have c0 := hc.c0; have f0 := hc.f 0; have hz8 := hc.lt
    have hg8 : w.heap.size < w8.heap.size := (Array.getElem?_eq_some_iff.1 hbx8).1
    have hN8 : N ≤ w8.heap.size := by omega
    have hsm2 : s2.length ≤ 2000000 := by
      have : (openedS x.tk.name st.stk).length ≤ m + 1 := hsm
      omega
    have HC := Lib.hid hc; have HO := Lib.hid ho; have HR := Lib.hid hr; have HB8 := Lib.hid (HBW7.out.trans hB8)
    have HREST := Lib.hid (show full (ros l) ∧ Ro.normal (ros l) = ro ∧ l.length ≤ m + 1 ∧ (Ro.txt (ros l)).length ≤ T ∧ (∀ y ∈ l, y.ro.attrs.length ≤ 1000000 ∧ 0 ≤ y.ro.depth ∧ y.ro.depth ≤ 1000000) from ⟨hf, hn, hl, ht, hxl⟩)
    have HS2 := Lib.hid hs2; have HS2L := Lib.hid hs2l
    clear hc ho hr hB8 hbx8 hf hn hl ht hxl b8 z1' hs2 hs2l hsm
    go_upto_region 5 with (fail)
    go_region_law (refine step_app_str _ (by rfl) (.tmp 33) (.tmp 36) (by rfl) w8 N vo s2 x.tk.name HO.out (by first | exact (World.grownBy_alloc w8 _ _).trans (g_dN _ 1 _) | exact (g_dN w8 1 _).trans (World.grownBy_alloc _ _ _)) hN8 hsm2 (by simp [Act.eval, Act.put]) _ (by simp [Act.eval, Act.put]) (World.alloc_heap_new _ _) ?_; intro g cap w9 hown9 hg9; have hc9 := Bc.overS HC.out HO.out hg9; have c9 := hc9.c0; have f9 := hc9.f 0; clear hc9)
    all_goals go_wp2
    all_goals go_end0
    all_goals
      obtain ⟨r1, r2⟩ := Bg.push HC.out HO.out HR.out hN hown9 hg9
      obtain ⟨hf, hn, hl, ht, hxl⟩ := HREST.out
      rw [HST.out, if_neg (by rw [hv]; simp)]
      refine ⟨rfl, ⟨⟨l, ?_, hf, hn, hl, ht, hxl⟩, ?_⟩, r2 _ HB8.out⟩
      · show Bg N _ b (x.tk.name :: openedS x.tk.name st.stk).reverse l _ _
        rw [List.reverse_cons, HS2.out]
        exact r1
      · show (x.tk.name :: openedS x.tk.name st.stk).length ≤ m + 1
        rw [List.length_cons]
        have := HKM.out
        omega

/-- One token. -/
theorem step_0 {st : St} {t : Tk} (h : t.kind = 0) : stepB st t = if t.data = ⟨#[]⟩ then st else ⟨st.stk, addText st.out st.stk.length t.data⟩ := by unfold stepB; rw [if_pos h]
theorem step_3 {st : St} {t : Tk} (h : t.kind = 3) : stepB st t = ⟨st.stk, addRow st.out ⟨st.stk.length, 2, ⟨#[]⟩, t.data, []⟩⟩ := by
  unfold stepB
  rw [if_neg (by rw [h]; decide), if_pos h]
  rfl
theorem step_1 {st : St} {t : Tk} (h : t.kind = 1) : stepB st t = if noName t.name = true then st else startS st t.name t.attrs := by
  unfold stepB
  rw [if_neg (by rw [h]; decide), if_neg (by rw [h]; decide), if_pos h]
  rfl
theorem step_2 {st : St} {t : Tk} (h : t.kind = 2) : stepB st t = if noName t.name = true ∨ isIn t.name voidL = true then st else endS st t.name := by
  unfold stepB
  rw [if_neg (by rw [h]; decide), if_neg (by rw [h]; decide), if_neg (by rw [h]; decide), if_pos h]
  rfl
theorem step_no {st : St} {t : Tk} (h0 : t.kind ≠ 0) (h1 : t.kind ≠ 1) (h2 : t.kind ≠ 2) (h3 : t.kind ≠ 3) : stepB st t = st := by
  unfold stepB
  rw [if_neg h0, if_neg h3, if_neg h1, if_neg h2]

end Go.Proofs.YtenmlpfjeohkiaaGreatDoor.Bu

namespace Go.Proofs.YtenmlpfjeohkiaaGreatDoor.Bm
set_option linter.unusedVariables false
set_option linter.unusedSimpArgs false
open Ba Fm Nm
open Ro (At Ro)
open Tm (Tk put)
/-- What is true of attributes stays true; the texts' bytes stay. -/
def mild (K : Nat) (l : List Ro) : Prop := ∀ x ∈ l, x.attrs.length ≤ K
theorem mild_add {K : Nat} {o : List Ro} {d : Int} {t : ByteArray} (h : mild K o) : mild K (addText o d t) := by
  unfold addText
  cases hy : o.getLast? with
  | none =>
    intro x hx
    rcases List.mem_append.1 hx with e | e
    · exact h x e
    · rw [List.mem_singleton.1 e]; exact Nat.zero_le _
  | some z =>
    show mild K (if z.kind = 1 ∧ z.depth = d then _ else _)
    split
    · intro x hx
      rcases List.mem_append.1 hx with e | e
      · exact h x (List.dropLast_subset _ e)
      · rw [List.mem_singleton.1 e]; exact h z (List.mem_of_getLast? hy)
    · intro x hx
      rcases List.mem_append.1 hx with e | e
      · exact h x e
      · rw [List.mem_singleton.1 e]; exact Nat.zero_le _
theorem txt_add (o : List Ro) (d : Int) (t : ByteArray) : Ro.txt (addText o d t) = Ro.txt o ++ L t := by
  unfold addText
  cases hy : o.getLast? with
  | none => show Ro.txt (o ++ [_]) = _; rw [Ro.txt_append, Ro.txt_text rfl]
  | some z =>
    show Ro.txt (if z.kind = 1 ∧ z.depth = d then _ else _) = _
    split
    · rename_i hc
      have ho := last_snoc hy
      have e1 : Ro.txt o = Ro.txt o.dropLast ++ L z.data := by
        have := congrArg Ro.txt ho
        rw [Ro.txt_append, Ro.txt_text hc.1] at this
        exact this
      rw [Ro.txt_append, e1, Ro.txt_text (show (⟨z.depth, z.kind, z.name, z.data ++ t, z.attrs⟩ : Ro).kind = 1 from hc.1), List.append_assoc]
      show _ ++ L (z.data ++ t) = _
      rw [L_append]
    · rw [Ro.txt_append, Ro.txt_text rfl]
theorem mild_normal {K : Nat} (l : List Ro) : full l → mild K l → mild K (Ro.normal l) ∧ Ro.txt (Ro.normal l) = Ro.txt l := by
  induction hn : l.length using Nat.strongRecOn generalizing l with
  | ind n ih =>
    subst hn
    intro h hk
    rcases snoc_cases l with rfl | ⟨m, y, rfl⟩
    · rw [Ro.normal]; exact ⟨(fun x hx => by cases hx), rfl⟩
    · obtain ⟨h1, h2⟩ := ih m.length (by rw [List.length_append]; exact Nat.lt_succ_self _) m rfl (full_init h) (fun x hx => hk x (List.mem_append_left _ hx))
      rw [normal_snoc m y h]
      split
      · rename_i hy
        exact ⟨mild_add h1, by rw [txt_add, h2, Ro.txt_append, Ro.txt_text hy]⟩
      · rename_i hy
        refine ⟨fun x hx => ?_, by rw [Ro.txt_append, Ro.txt_append, h2]⟩
        rcases List.mem_append.1 hx with e | e
        · exact h1 x e
        · rw [List.mem_singleton.1 e]; exact hk y (List.mem_append_right _ (List.mem_singleton.2 rfl))

end Go.Proofs.YtenmlpfjeohkiaaGreatDoor.Bm

namespace Go.Proofs.YtenmlpfjeohkiaaGreatDoor.Bu
set_option maxRecDepth 100000
set_option linter.unusedVariables false
set_option linter.unusedSimpArgs false
open Go.RowKit Ba Fm Fo Nm Bm
open Ro (At Ro Cw ros Fr Ow Att Ap Rr Sh Ra Rv acells len_acells cells len_cells rowV rowO info_row info_attr below_new len_ros ros_append)
open Tm (Tk put)
open To (Tw Aw tokV tokO tks)
set_option maxRecDepth 100000 in
set_option maxHeartbeats 2000000 in
theorem take_any (N b m T : Nat) (st : St) (x : Tw) (w : World) (h : Bt N w b st false m T) (hx : To.Att w N x) (hm : m < 1000000) (hal : x.tk.attrs.length ≤ 1000000) (hbig : tooBig st.out = false) :
    Calls Tryz.prog 51 #[bp b, tokV x] w fun e w' => e = .returned (.tuple #[]) ∧ Bt N w' b (stepB st x.tk) (tooBig (stepB st x.tk).out) (m + 1) (T + x.tk.data.size) ∧ Below N w w' := by
  obtain ⟨h1, hB1⟩ := h.below (below_new w (tokO x))
  have hx1 : To.Att (w.alloc (tokO x)) N x := hx.below hB1
  have H1 := Lib.hid h1; have HX := Lib.hid hx1; have HB := Lib.hid hB1
  have hsame : Bt N (w.alloc (tokO x)) b st (tooBig st.out) (m + 1) (T + x.tk.data.size) := by rw [hbig]; exact h1.more (Nat.le_succ _) (Nat.le_add_right _ _)
  have HSM := Lib.hid hsame
  clear h hx h1 hB1 hx1 hsame
  by_cases k0 : x.tk.kind = 0
  · have g0 : (x.tk.kind == 0) = true := beq_iff_eq.2 k0
    have HS := Lib.hid (step_0 (st := st) k0)
    clear k0
    by_cases hd : x.tk.data = ⟨#[]⟩
    · have hs : stepB st x.tk = st := by rw [HS.out, if_pos hd]
      have HS2 := Lib.hid hs; have HD := Lib.hid hd
      clear hs hd HS
      go_enter Tryz.func51, Tryz.ntmps51
      go_wp2_with fail
      refine (text_no b x.tk.data _ HD.out).mono ?_
      rintro e w2 ⟨rfl, rfl⟩
      go_wp2
      first | go_end0 | refine bodyPost_ret (results_none rfl _ _ _) rfl ?_
      rw [HS2.out]
      exact ⟨rfl, HSM.out, HB.out⟩
    · have hs : stepB st x.tk = ⟨st.stk, addText st.out st.stk.length x.tk.data⟩ := by rw [HS.out, if_neg hd]
      have HS2 := Lib.hid hs; have HD := Lib.hid hd
      clear hs hd HS
      go_enter Tryz.func51, Tryz.ntmps51
      go_wp2_with fail
      refine (text_yes N b m T st false x.tk.data _ H1.out hm HD.out).mono ?_
      rintro e w2 ⟨rfl, h2, b2⟩
      have H2 := Lib.hid h2; have B2 := Lib.hid (HB.out.trans b2)
      clear h2 b2
      go_wp2
      first | go_end0 | refine bodyPost_ret (results_none rfl _ _ _) rfl ?_
      rw [HS2.out]
      exact ⟨rfl, H2.out, B2.out⟩
  have g0 : (x.tk.kind == 0) = false := beq_eq_false_iff_ne.2 k0
  by_cases k3 : x.tk.kind = 3
  · have g3 : (x.tk.kind == 3) = true := beq_iff_eq.2 k3
    have HS := Lib.hid (step_3 (st := st) k3)
    clear k0 k3
    go_enter Tryz.func51, Tryz.ntmps51
    go_wp2_with fail
    refine (add_bt N b m T st false ⟨⟨0, 2, ⟨#[]⟩, x.tk.data, []⟩, none, 0⟩ _ _ rfl H1.out (fr_row N _ _ rfl) hm (by simp) (by simp) x.tk.data.size (by simp)).mono ?_
    rintro e w2 ⟨rfl, h2, b2, _⟩
    have H2 := Lib.hid h2; have B2 := Lib.hid (HB.out.trans b2)
    clear h2 b2
    go_wp2
    first | go_end0 | refine bodyPost_ret (results_none rfl _ _ _) rfl ?_
    rw [HS.out]
    exact ⟨rfl, H2.out, B2.out⟩
  have g3 : (x.tk.kind == 3) = false := beq_eq_false_iff_ne.2 k3
  by_cases k1 : x.tk.kind = 1
  · have g1 : (x.tk.kind == 1) = true := beq_iff_eq.2 k1
    have HS := Lib.hid (step_1 (st := st) k1)
    clear k0 k3 k1
    cases hn : noName x.tk.name with
    | true =>
      have hs : stepB st x.tk = st := by rw [HS.out, if_pos hn]
      have HS2 := Lib.hid hs; have HN := Lib.hid hn
      clear hs hn HS
      go_enter Tryz.func51, Tryz.ntmps51
      go_wp2_with fail
      refine (start_no b x _ HN.out).mono ?_
      rintro e w2 ⟨rfl, b2⟩
      obtain ⟨h2, hb2⟩ := HSM.out.below b2
      have H2 := Lib.hid h2; have B2 := Lib.hid (HB.out.trans hb2)
      clear h2 b2 hb2
      go_wp2
      first | go_end0 | refine bodyPost_ret (results_none rfl _ _ _) rfl ?_
      rw [HS2.out]
      exact ⟨rfl, H2.out, B2.out⟩
    | false =>
      have hs : stepB st x.tk = startS st x.tk.name x.tk.attrs := by rw [HS.out, if_neg (by rw [hn]; simp)]
      have HS2 := Lib.hid hs; have HN := Lib.hid hn
      clear hs hn HS
      go_enter Tryz.func51, Tryz.ntmps51
      go_wp2_with fail
      refine (start_any N b m T st x _ H1.out HX.out hm hal HN.out).mono ?_
      rintro e w2 ⟨rfl, h2, b2⟩
      have H2 := Lib.hid h2; have B2 := Lib.hid (HB.out.trans b2)
      clear h2 b2
      go_wp2
      first | go_end0 | refine bodyPost_ret (results_none rfl _ _ _) rfl ?_
      rw [HS2.out]
      exact ⟨rfl, H2.out.more (Nat.le_refl _) (Nat.le_add_right _ _), B2.out⟩
  have g1 : (x.tk.kind == 1) = false := beq_eq_false_iff_ne.2 k1
  by_cases k2 : x.tk.kind = 2
  · have g2 : (x.tk.kind == 2) = true := beq_iff_eq.2 k2
    have HS := Lib.hid (step_2 (st := st) k2)
    clear k0 k3 k1 k2
    by_cases hn : noName x.tk.name = true ∨ (noName x.tk.name = false ∧ isIn x.tk.name voidL = true)
    · have hs : stepB st x.tk = st := by rw [HS.out, if_pos (hn.imp id And.right)]
      have HS2 := Lib.hid hs; have HN := Lib.hid hn
      clear hs hn HS
      go_enter Tryz.func51, Tryz.ntmps51
      go_wp2_with fail
      refine (end_no b x.tk.name _ HN.out).mono ?_
      rintro e w2 ⟨rfl, b2⟩
      obtain ⟨h2, hb2⟩ := HSM.out.below b2
      have H2 := Lib.hid h2; have B2 := Lib.hid (HB.out.trans hb2)
      clear h2 b2 hb2
      go_wp2
      first | go_end0 | refine bodyPost_ret (results_none rfl _ _ _) rfl ?_
      rw [HS2.out]
      exact ⟨rfl, H2.out, B2.out⟩
    · have hn1 : noName x.tk.name = false := by
        cases h : noName x.tk.name with
        | true => exact absurd (.inl h) hn
        | false => rfl
      have hn2 : isIn x.tk.name voidL = false := by
        cases h : isIn x.tk.name voidL with
        | true => exact absurd (.inr ⟨hn1, h⟩) hn
        | false => rfl
      have hs : stepB st x.tk = endS st x.tk.name := by rw [HS.out, if_neg (by rw [hn1, hn2]; simp)]
      have HS2 := Lib.hid hs; have HN1 := Lib.hid hn1; have HN2 := Lib.hid hn2; have HBIG := Lib.hid hbig
      clear hs hn hn1 hn2 HS hbig
      go_enter Tryz.func51, Tryz.ntmps51
      go_wp2_with fail
      refine (end_any N b m T st x.tk.name _ H1.out hm HN1.out HN2.out HBIG.out).mono ?_
      rintro e w2 ⟨rfl, h2, b2⟩
      have H2 := Lib.hid h2; have B2 := Lib.hid (HB.out.trans b2)
      clear h2 b2
      go_wp2
      first | go_end0 | refine bodyPost_ret (results_none rfl _ _ _) rfl ?_
      rw [HS2.out]
      exact ⟨rfl, H2.out.more (Nat.le_refl _) (Nat.le_add_right _ _), B2.out⟩
  have g2 : (x.tk.kind == 2) = false := beq_eq_false_iff_ne.2 k2
  have HS := Lib.hid (step_no (st := st) k0 k1 k2 k3)
  clear k0 k1 k2 k3
  go_enter Tryz.func51, Tryz.ntmps51
  go_wp2
  first | go_end0 | refine bodyPost_ret (results_none rfl _ _ _) rfl ?_
  rw [HS.out]
  exact ⟨rfl, HSM.out, HB.out⟩

/-- The bytes of all data. -/
def dsum : List Tk → Nat
  | [] => 0
  | t :: r => t.data.size + dsum r
theorem tree_cons (st : St) (t : Tk) (r : List Tk) : treeB st (t :: r) = if tooBig (stepB st t).out = true then none else treeB (stepB st t) r := rfl

/-- What Tree comes to. -/
def TreeSays (w : World) (t : List Tk) (e : Ending) (w' : World) : Prop :=
  (match treeB ⟨[], []⟩ t with
  | none => e = .returned (.tuple #[.slice none 0 0, .int .i64 2])
  | some o => ∃ v y, e = .returned (.tuple #[v, .int .i64 0]) ∧ Ow w.heap.size w' v y ∧ (∀ z ∈ y, Fr w.heap.size w' z) ∧ ros y = o ∧ Ro.Few o ∧ (Ro.txt o).length ≤ 1000000000) ∧ Below w.heap.size w w'
theorem TreeSays.no {w w' : World} {t : List Tk} {e : Ending} (h : treeB ⟨[], []⟩ t = none) (he : e = .returned (.tuple #[.slice none 0 0, .int .i64 2])) (hb : Below w.heap.size w w') : TreeSays w t e w' := by
  refine ⟨?_, hb⟩
  rw [h]
  exact he
theorem TreeSays.yes {w w' : World} {t : List Tk} {e : Ending} {o : List Ro} (h : treeB ⟨[], []⟩ t = some o) (he : ∃ v y, e = .returned (.tuple #[v, .int .i64 0]) ∧ Ow w.heap.size w' v y ∧ (∀ z ∈ y, Fr w.heap.size w' z) ∧ ros y = o ∧ Ro.Few o ∧ (Ro.txt o).length ≤ 1000000000) (hb : Below w.heap.size w w') : TreeSays w t e w' := by
  refine ⟨?_, hb⟩
  rw [h]
  exact he

set_option maxRecDepth 100000 in
set_option maxHeartbeats 4000000 in
theorem Tree_any (A : Option Addr) (c : Nat) (l : List Tw) (w : World) (hr : To.Rr w w.heap.size A l) (hc : l.length ≤ c) (hl : l.length ≤ 200000) (hd : dsum (tks l) ≤ 1000000000) (hat : ∀ x ∈ l, x.tk.attrs.length ≤ 1000000) :
    Calls Tryz.prog 29 #[.slice A l.length c] w fun e w' => TreeSays w (tks l) e w' := by
  obtain ⟨W0, hW0⟩ : ∃ W0, w.alloc (.cells #[.slice none 0 0, .slice none 0 0, .int .i64 0, .bool false] 65) = W0 := ⟨_, rfl⟩
  have h0 : Bt w.heap.size W0 w.heap.size ⟨[], []⟩ false 0 0 := by
    rw [← hW0]
    exact ⟨⟨[], ⟨.slice none 0 0, .slice none 0 0, World.alloc_heap_new _ _, Sown.nil _ _, Or.nil _ _, Nat.le_refl _⟩, full_nil, by unfold ros; rw [List.map_nil, Ro.normal], Nat.le_refl _, Nat.le_refl _, fun x hx => by cases hx⟩, Nat.le_refl _⟩
  have hb0 : Below w.heap.size w W0 := by rw [← hW0]; exact below_one w _
  obtain ⟨Z, hZ⟩ : ∃ Z, w.heap.size = Z := ⟨_, rfl⟩
  go_enter Tryz.func29, Tryz.ntmps29
  go_wp2
  rw [hZ] at h0 hb0 hr
  go_loopw [9] (fun i wr => ∃ (k T : Nat) (st : St), i = .int .i64 k ∧ k ≤ l.length ∧ Bt Z wr Z st false k T ∧ tooBig st.out = false ∧ treeB ⟨[], []⟩ (tks l) = treeB st ((tks l).drop k) ∧ T + dsum ((tks l).drop k) ≤ 1000000000 ∧ Below Z w wr) (fun i _ => l.length - (intOf i).toNat)
  case atStart => exact ⟨0, 0, ⟨[], []⟩, rfl, Nat.zero_le _, h0, by decide, by rw [List.drop_zero], by rw [List.drop_zero]; omega, hb0⟩
  case round =>
    clear h0 hb0 hW0
    obtain ⟨k, T, st, rfl, hk, hbt, hbig, htr, hT, hbel⟩ := hrel
    by_cases hp : k < l.length
    · obtain ⟨b, off, x, rfl, hb, hdx, hx, hxa, hxm⟩ := (hr.below hbel).at_ k hp
      obtain ⟨x0, x1, x2, x3, x4⟩ := Ro.range5 hx
      have hdr : (tks l).drop k = x.tk :: (tks l).drop (k + 1) := by rw [To.tks_drop, hdx, To.tks_cons, ← To.tks_drop]
      rw [hdr, tree_cons] at htr
      rw [hdr] at hT
      have hT2 : T + x.tk.data.size + dsum ((tks l).drop (k + 1)) ≤ 1000000000 := by
        have : dsum (x.tk :: (tks l).drop (k + 1)) = x.tk.data.size + dsum ((tks l).drop (k + 1)) := rfl
        omega
      have hb1 := below_new wr (tokO x)
      obtain ⟨h1, hB1⟩ := hbt.below hb1
      have hxa1 : To.Att (wr.alloc (tokO x)) Z x := hxa.below hB1
      have hbz : Z < wr.heap.size := hbt.n.2
      have H1 := Lib.hid h1; have HX := Lib.hid hxa1; have HB1 := Lib.hid (hbel.trans hB1); have HTR := Lib.hid htr; have HT2 := Lib.hid hT2; have HBIG := Lib.hid hbig
      have hal := hat x hxm
      clear hbt hbig htr hT hbel hdx hx hxa hxm hdr hT2 hb1 h1 hB1 hxa1
      cases hq : tooBig (stepB st x.tk).out with
      | true =>
        have HQ := Lib.hid hq
        clear hq
        go_wp2_with fail
        refine (take_any Z Z k T st x (wr.alloc (tokO x)) H1.out HX.out (by omega) hal HBIG.out).mono ?_
        rintro e w2 ⟨rfl, h2, b2⟩
        rw [HQ.out] at h2
        obtain ⟨⟨l2, ⟨vo, vr, hc2, _⟩, _⟩, _⟩ := h2
        have c3 := hc2.c3
        have HB2 := Lib.hid (HB1.out.trans b2)
        clear hc2 b2
        go_wp2
        go_ret2
        exact TreeSays.no (by rw [HTR.out, if_pos HQ.out]) rfl (hZ ▸ HB2.out)
      | false =>
        have HQ := Lib.hid hq
        clear hq
        go_wp2_with fail
        refine (take_any Z Z k T st x (wr.alloc (tokO x)) H1.out HX.out (by omega) hal HBIG.out).mono ?_
        rintro e w2 ⟨rfl, h2, b2⟩
        rw [HQ.out] at h2
        have H2 := Lib.hid h2
        obtain ⟨⟨l2, ⟨vo, vr, hc2, _⟩, _⟩, _⟩ := h2
        have c3 := hc2.c3
        have HB2 := Lib.hid (HB1.out.trans b2)
        clear hc2 b2
        go_wp2
        go_roundw
        case rel => exact ⟨k + 1, T + x.tk.data.size, stepB st x.tk, by go_num, by omega, H2.out, HQ.out, by rw [HTR.out, if_neg (by rw [HQ.out]; simp)], HT2.out, HB2.out⟩
        case measure => simp [intOf]; omega
    · rw [List.drop_eq_nil_of_le (by rw [To.len_tks]; omega)] at htr hT
      obtain ⟨⟨l2, ⟨vo, vr, hc2, ho2, hr2, hN2⟩, hf, hn, hl2, ht, hx2⟩, _⟩ := hbt
      obtain ⟨A2, c2, rfl, hcc, _, _, hrr⟩ := hr2.form
      have c1 := hc2.c1
      have hfew : Ro.Few (ros l2) := fun y hy => by
        obtain ⟨z, hz, rfl⟩ := List.mem_map.1 hy
        exact (hx2 z hz).1
      have hheld : Ro.Held (ros l2) := fun y hy => by
        obtain ⟨z, hz, rfl⟩ := List.mem_map.1 hy
        have := (hx2 z hz).2
        omega
      have HR := Lib.hid hrr; have HF := Lib.hid hfew; have HH := Lib.hid hheld; have HN := Lib.hid hn; have HTR := Lib.hid htr; have HB := Lib.hid hbel
      have hT3 : (Ro.txt (ros l2)).length ≤ 1000000000 := by omega
      obtain ⟨hmi, hmt⟩ := mild_normal (K := 1000000) (ros l2) hf hfew
      rw [hn] at hmi hmt
      have HMI := Lib.hid (show Ro.Few st.out from hmi); have HMT := Lib.hid (show (Ro.txt st.out).length ≤ 1000000000 from by rw [hmt]; exact hT3)
      clear hmi hmt
      clear hc2 ho2 hr2 hf hn ht hx2 hrr hfew hheld htr hT hbel hbig
      go_wp2_with fail
      refine (Ro.Normal_any A2 c2 l2 wr HR.out hcc (by omega) hT3 HF.out HH.out).mono ?_
      rintro e w3 ⟨v, y, rfl, ho, hfr, hros, b3⟩
      have HO := Lib.hid ho; have HFR := Lib.hid hfr; have HROS := Lib.hid hros; have B3 := Lib.hid b3
      clear ho hfr hros b3
      have hzw : Z ≤ wr.heap.size := by have := HB.out.size; omega
      go_wp2
      go_ret2
      exact TreeSays.yes (o := st.out) HTR.out ⟨v, y, rfl, HO.out.mono (by omega) (fun z hz => (show Fr w.heap.size w3 z from ⟨World.ownsRow.mono (HFR.out z hz).1 (by omega), (HFR.out z hz).2⟩).ap), fun z hz => ⟨World.ownsRow.mono (HFR.out z hz).1 (by omega), (HFR.out z hz).2⟩, by rw [HROS.out, HN.out], HMI.out, HMT.out⟩ (hZ ▸ HB.out.trans (B3.out.mono hzw))

end Go.Proofs.YtenmlpfjeohkiaaGreatDoor.Bu
