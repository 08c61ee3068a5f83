/-
  Plain mathematics of stage 9 (addresses): what is ignored of an address, its scheme, bytes for their marks; what follows for the laws. It speaks of no program.
-/
import Derived.Test.YtchholpiikeakaaFoldMath
namespace Go.Proofs.Ytchholpiikeakaa.Lk
set_option linter.unusedSimpArgs false
set_option linter.unusedVariables false
open Fm

/-- A byte that does not count at an end; one that counts nowhere. -/
def edge (c : UInt8) : Bool := decide (c ≤ 32)
def inn (c : UInt8) : Bool := c == 9 || c == 10 || c == 13
def kept (l : List UInt8) : List UInt8 := l.filter fun c => !inn c
def frontL (l : List UInt8) : List UInt8 := l.dropWhile edge
def backL (l : List UInt8) : List UInt8 := (l.reverse.dropWhile edge).reverse
def stripL (l : List UInt8) : List UInt8 := kept (backL (frontL l))

theorem inn_edge {c : UInt8} (h : inn c = true) : edge c = true := by
  unfold inn at h
  simp only [Bool.or_eq_true, beq_iff_eq] at h
  rcases h with (rfl | rfl) | rfl <;> rfl
theorem front_yes {c : UInt8} (l : List UInt8) (h : edge c = true) : frontL (c :: l) = frontL l := by simp [frontL, List.dropWhile_cons, h]
theorem front_no {c : UInt8} (l : List UInt8) (h : edge c = false) : frontL (c :: l) = c :: l := by simp [frontL, List.dropWhile_cons, h]
theorem front_nil : frontL [] = [] := rfl
theorem back_nil : backL [] = [] := rfl
theorem back_yes {c : UInt8} (l : List UInt8) (h : edge c = true) : backL (l ++ [c]) = backL l := by simp [backL, List.dropWhile_cons, h]
theorem back_no {c : UInt8} (l : List UInt8) (h : edge c = false) : backL (l ++ [c]) = l ++ [c] := by simp [backL, List.dropWhile_cons, h]
theorem kept_nil : kept [] = [] := rfl
theorem kept_append (a b : List UInt8) : kept (a ++ b) = kept a ++ kept b := List.filter_append ..
theorem kept_yes {c : UInt8} (h : inn c = true) : kept [c] = [] := by simp [kept, h]
theorem kept_no {c : UInt8} (h : inn c = false) : kept [c] = [c] := by simp [kept, h]
theorem kept_front : ∀ l : List UInt8, kept (frontL l) = frontL (kept l)
  | [] => rfl
  | c :: l => by
    cases he : edge c with
    | true =>
      rw [front_yes _ he, kept_front l]
      cases hi : inn c with
      | true => simp [kept, hi]
      | false =>
        have : kept (c :: l) = c :: kept l := by simp [kept, hi]
        rw [this, front_yes _ he]
    | false =>
      have hi : inn c = false := by
        cases hi : inn c with
        | false => rfl
        | true => rw [inn_edge hi] at he; cases he
      have : kept (c :: l) = c :: kept l := by simp [kept, hi]
      rw [front_no _ he, this, front_no _ he]
theorem kept_rev (l : List UInt8) : kept l.reverse = (kept l).reverse := by unfold kept; rw [List.filter_reverse]
theorem kept_back (l : List UInt8) : kept (backL l) = backL (kept l) := by
  show kept (frontL l.reverse).reverse = (frontL (kept l).reverse).reverse
  rw [kept_rev, kept_front, kept_rev]
theorem strip_eq (l : List UInt8) : stripL l = backL (frontL (kept l)) := by unfold stripL; rw [kept_back, kept_front]

theorem front_len : ∀ l : List UInt8, (frontL l).length ≤ l.length
  | [] => Nat.le_refl _
  | c :: l => by
    cases he : edge c with
    | true => rw [front_yes _ he]; have := front_len l; simp only [List.length_cons]; omega
    | false => rw [front_no _ he]; exact Nat.le_refl _
theorem back_len (l : List UInt8) : (backL l).length ≤ l.length := by
  show (frontL l.reverse).reverse.length ≤ _
  rw [List.length_reverse]
  have := front_len l.reverse
  rw [List.length_reverse] at this
  exact this
theorem kept_len (l : List UInt8) : (kept l).length ≤ l.length := List.length_filter_le _ _
theorem strip_len (l : List UInt8) : (stripL l).length ≤ l.length := Nat.le_trans (kept_len _) (Nat.le_trans (back_len _) (front_len l))

/-- What all of these are ignored. -/
def allEdge (l : List UInt8) : Prop := ∀ c ∈ l, edge c = true
theorem front_all : ∀ {e : List UInt8} (l : List UInt8), allEdge e → frontL (e ++ l) = frontL l
  | [], _, _ => rfl
  | c :: e, l, h => by
    rw [List.cons_append, front_yes _ (h c List.mem_cons_self)]
    exact front_all l fun x hx => h x (List.mem_cons_of_mem _ hx)
theorem front_none {e : List UInt8} (h : allEdge e) : frontL e = [] := by
  have := front_all [] h
  rw [List.append_nil] at this
  exact this
theorem back_all {e : List UInt8} (l : List UInt8) (h : allEdge e) : backL (l ++ e) = backL l := by
  show (frontL (l ++ e).reverse).reverse = (frontL l.reverse).reverse
  rw [List.reverse_append, front_all _ fun c hc => h c (List.mem_reverse.1 hc)]
theorem front_cases : ∀ l : List UInt8, (frontL l = [] ∧ allEdge l) ∨ ∃ c m, frontL l = c :: m ∧ edge c = false
  | [] => .inl ⟨rfl, fun _ h => by cases h⟩
  | c :: l => by
    cases he : edge c with
    | false => exact .inr ⟨c, l, front_no _ he, he⟩
    | true =>
      rw [front_yes _ he]
      rcases front_cases l with ⟨h1, h2⟩ | h
      · refine .inl ⟨h1, fun x hx => ?_⟩
        rcases List.mem_cons.1 hx with rfl | hx
        · exact he
        · exact h2 x hx
      · exact .inr h
theorem front_append (l m : List UInt8) : frontL (l ++ m) = if frontL l = [] then frontL m else frontL l ++ m := by
  induction l with
  | nil => rfl
  | cons c l ih =>
    cases he : edge c with
    | false => rw [List.cons_append, front_no _ he, front_no _ he, if_neg (by simp), List.cons_append]
    | true => rw [List.cons_append, front_yes _ he, front_yes _ he, ih]
/-- Around a text of what is ignored at its ends. -/
theorem core_around {a b : List UInt8} (l : List UInt8) (ha : allEdge a) (hb : allEdge b) : backL (frontL (a ++ l ++ b)) = backL (frontL l) := by
  rw [List.append_assoc, front_all _ ha, front_append]
  split
  · rename_i h
    rw [h, front_none hb]
  · exact back_all _ hb
theorem back_cases (l : List UInt8) : (backL l = [] ∧ allEdge l) ∨ ∃ m c, backL l = m ++ [c] ∧ edge c = false := by
  rcases front_cases l.reverse with ⟨h1, h2⟩ | ⟨c, m, h1, h2⟩
  · refine .inl ⟨?_, fun c hc => h2 c (List.mem_reverse.2 hc)⟩
    show (frontL l.reverse).reverse = []
    rw [h1]; rfl
  · refine .inr ⟨m.reverse, c, ?_, h2⟩
    show (frontL l.reverse).reverse = _
    rw [h1, List.reverse_cons]
theorem front_front (l : List UInt8) : frontL (frontL l) = frontL l := by
  rcases front_cases l with ⟨h, _⟩ | ⟨c, m, h, hc⟩
  · rw [h]; rfl
  · rw [h, front_no _ hc]
theorem back_back (l : List UInt8) : backL (backL l) = backL l := by
  show (frontL (frontL l.reverse).reverse.reverse).reverse = _
  rw [List.reverse_reverse, front_front]
  rfl
/-- What is cut at the end begins what there was. -/
theorem back_prefix (l : List UInt8) : ∃ e, l = backL l ++ e ∧ allEdge e := by
  have key : ∀ l : List UInt8, ∃ e, l = e ++ frontL l ∧ allEdge e := by
    intro l
    induction l with
    | nil => exact ⟨[], rfl, fun _ h => by cases h⟩
    | cons c l ih =>
      cases he : edge c with
      | false => exact ⟨[], by rw [front_no _ he]; rfl, fun _ h => by cases h⟩
      | true =>
        obtain ⟨e, h1, h2⟩ := ih
        refine ⟨c :: e, by rw [front_yes _ he, List.cons_append, ← h1], fun x hx => ?_⟩
        rcases List.mem_cons.1 hx with rfl | hx
        · exact he
        · exact h2 x hx
  obtain ⟨e, h1, h2⟩ := key l.reverse
  refine ⟨e.reverse, ?_, fun c hc => h2 c (List.mem_reverse.1 hc)⟩
  have := congrArg List.reverse h1
  rw [List.reverse_reverse, List.reverse_append] at this
  exact this
/-- Behind more: cut at the end it begins with the same. -/
theorem back_more (l m : List UInt8) : ∃ r, backL (l ++ m) = backL l ++ r := by
  rcases back_cases m with ⟨_, h⟩ | ⟨k, c, h, hc⟩
  · exact ⟨[], by rw [back_all _ h, List.append_nil]⟩
  · obtain ⟨e, h1, _⟩ := back_prefix l
    obtain ⟨f, h2, h3⟩ := back_prefix m
    refine ⟨e ++ (k ++ [c]), ?_⟩
    have : l ++ m = (l ++ (k ++ [c])) ++ f := by rw [List.append_assoc, ← h, ← h2]
    rw [this, back_all _ h3, ← List.append_assoc, back_no _ hc, List.append_assoc, ← List.append_assoc (backL l), ← h1]
theorem back_head {c : UInt8} (m : List UInt8) (hc : edge c = false) : ∃ k, backL (c :: m) = c :: k := by
  obtain ⟨r, h⟩ := back_more [c] m
  have : backL [c] = [c] := back_no [] hc
  rw [this] at h
  exact ⟨r, h⟩
theorem core_core (l : List UInt8) : backL (frontL (backL (frontL l))) = backL (frontL l) := by
  rcases front_cases l with ⟨h, _⟩ | ⟨c, m, h, hc⟩
  · rw [h]; rfl
  · rw [h]
    obtain ⟨k, hk⟩ := back_head m hc
    rw [hk, front_no _ hc, ← hk, back_back]
theorem kept_kept (l : List UInt8) : kept (kept l) = kept l := by unfold kept; rw [List.filter_filter]; simp
theorem strip_strip (l : List UInt8) : stripL (stripL l) = stripL l := by
  have h : kept (stripL l) = stripL l := by unfold stripL; rw [kept_kept]
  rw [strip_eq, h, strip_eq l, core_core]
theorem strip_inn (l : List UInt8) : ∀ c ∈ stripL l, inn c = false := by
  intro c hc
  unfold stripL kept at hc
  simpa using (List.mem_filter.1 hc).2
theorem strip_ends (l : List UInt8) : stripL l = [] ∨ ((∃ c m, stripL l = c :: m ∧ edge c = false) ∧ ∃ m c, stripL l = m ++ [c] ∧ edge c = false) := by
  rw [strip_eq]
  rcases front_cases (kept l) with ⟨h, _⟩ | ⟨c, m, h, hc⟩
  · rw [h]; exact .inl rfl
  · rw [h]
    obtain ⟨k, hk⟩ := back_head m hc
    rcases back_cases (c :: m) with ⟨h1, _⟩ | ⟨x, y, h1, h2⟩
    · rw [h1] at hk; cases hk
    · exact .inr ⟨⟨c, k, hk, hc⟩, x, y, h1, h2⟩
/-- A byte that counts nowhere makes no difference. -/
theorem strip_ins (a b : List UInt8) (c : UInt8) (h : inn c = true) : stripL (a ++ [c] ++ b) = stripL (a ++ b) := by
  rw [strip_eq, strip_eq (a ++ b), kept_append, kept_append, kept_yes h, List.append_nil, ← kept_append]
theorem edge_kept {e : List UInt8} (h : allEdge e) : allEdge (kept e) := fun c hc => h c (List.mem_filter.1 hc).1
theorem strip_around {a b : List UInt8} (l : List UInt8) (ha : allEdge a) (hb : allEdge b) : stripL (a ++ l ++ b) = stripL l := by
  rw [strip_eq, strip_eq l, kept_append, kept_append, core_around _ (edge_kept ha) (edge_kept hb)]
/-- Behind a text more: stripped it begins with the text stripped, if there is some. -/
theorem strip_more (l m : List UInt8) (h : stripL l ≠ []) : ∃ r, stripL (l ++ m) = stripL l ++ r := by
  rw [strip_eq] at h
  rw [strip_eq, strip_eq l, kept_append, front_append, if_neg (fun e => h (by rw [e]; rfl))]
  exact back_more _ _
theorem strip_head {c : UInt8} (l : List UInt8) (he : edge c = false) (hi : inn c = false) : ∃ m, stripL (c :: l) = c :: m := by
  have : kept (c :: l) = c :: kept l := by simp [kept, hi]
  rw [strip_eq, this, front_no _ he]
  exact back_head _ he
/-- Nothing of it is ignored. -/
theorem strip_id (l : List UInt8) (h : ∀ c ∈ l, edge c = false) : stripL l = l := by
  have hk : kept l = l := List.filter_eq_self.2 fun c hc => by
    cases hi : inn c with
    | false => rfl
    | true => have := h c hc; rw [inn_edge hi] at this; cases this
  rw [strip_eq, hk]
  have hf : frontL l = l := by
    cases l with
    | nil => rfl
    | cons c m => exact front_no _ (h c List.mem_cons_self)
  rw [hf]
  rcases back_prefix l with ⟨e, h1, h2⟩
  cases e with
  | nil => rw [List.append_nil] at h1; exact h1.symm
  | cons c e =>
    have hc := h c (by rw [h1]; simp)
    rw [h2 c List.mem_cons_self] at hc
    cases hc

/-- Bytes that may stand in a scheme behind its first one, besides letters. -/
def oth (c : UInt8) : Bool := (decide (48 ≤ c) && decide (c ≤ 57)) || c == 43 || c == 45 || c == 46
def sch (p : Bool) (c : UInt8) : Bool := lr c || (p && oth c)
/-- The bytes of a scheme that a text begins with (p: behind the first one). -/
def st : Bool → List UInt8 → List UInt8
  | _, [] => []
  | p, c :: r => if sch p c = true then c :: st true r else []
theorem st_nil (p : Bool) : st p [] = [] := rfl
theorem st_yes {p : Bool} {c : UInt8} (r : List UInt8) (h : sch p c = true) : st p (c :: r) = c :: st true r := by rw [st, if_pos h]
theorem st_no {p : Bool} {c : UInt8} (r : List UInt8) (h : sch p c = false) : st p (c :: r) = [] := by rw [st, if_neg (by rw [h]; exact Bool.false_ne_true)]
theorem st_prefix : ∀ (p : Bool) (l : List UInt8), st p l = l.take (st p l).length
  | _, [] => rfl
  | p, c :: r => by
    cases h : sch p c with
    | true => rw [st_yes _ h, List.length_cons, List.take_succ_cons, ← st_prefix true r]
    | false => rw [st_no _ h]; rfl
theorem st_len (p : Bool) (l : List UInt8) : (st p l).length ≤ l.length := by
  have := congrArg List.length (st_prefix p l)
  rw [List.length_take] at this
  omega
/-- Where the : behind a stripped address's scheme stands. -/
def colonL (l : List UInt8) : Option Nat := if 0 < (st false l).length ∧ l[(st false l).length]? = some 58 then some (st false l).length else none
theorem colon_lt {l : List UInt8} {k : Nat} (h : colonL l = some k) : 0 < k ∧ k < l.length ∧ l[k]? = some 58 ∧ k = (st false l).length := by
  unfold colonL at h
  split at h
  · rename_i hc
    injection h with h
    rw [h] at hc
    exact ⟨hc.1, (List.getElem?_eq_some_iff.1 hc.2).1, hc.2, h.symm⟩
  · cases h
/-- What the bytes ahead of k are, when these are all a scheme's. -/
def upTo (l : List UInt8) (k : Nat) : Prop := st false l = l.take k ++ st (decide (0 < k)) (l.drop k)
theorem upTo_zero (l : List UInt8) : upTo l 0 := rfl
theorem upTo_next {l : List UInt8} {k : Nat} (h : upTo l k) (hk : k < l.length) (hs : sch (decide (0 < k)) l[k] = true) : upTo l (k + 1) := by
  unfold upTo at *
  rw [h, List.drop_eq_getElem_cons hk, st_yes _ hs, List.take_succ_eq_append_getElem hk, List.append_assoc]
  rfl
theorem upTo_stop {l : List UInt8} {k : Nat} (h : upTo l k) (hk : k < l.length) (hs : sch (decide (0 < k)) l[k] = false) : (st false l).length = k := by
  unfold upTo at h
  rw [h, List.drop_eq_getElem_cons hk, st_no _ hs, List.append_nil, List.length_take]
  omega
theorem upTo_end {l : List UInt8} {k : Nat} (h : upTo l k) (hk : k = l.length) : (st false l).length = k := by
  unfold upTo at h
  rw [h, List.drop_eq_nil_of_le (by omega), st_nil, List.append_nil, List.length_take]
  omega
theorem colon_stop {l : List UInt8} {k : Nat} (hs : (st false l).length = k) (h0 : 0 < k) (hk : k < l.length) (hc : l[k] = 58) : colonL l = some k := by
  unfold colonL
  rw [hs, if_pos ⟨h0, by rw [List.getElem?_eq_getElem hk, hc]⟩]
theorem colon_not {l : List UInt8} {k : Nat} (hs : (st false l).length = k) (h : k = 0 ∨ k = l.length ∨ ∃ hk : k < l.length, l[k] ≠ 58) : colonL l = none := by
  unfold colonL
  rw [hs, if_neg]
  rintro ⟨h1, h2⟩
  rcases h with h | h | ⟨hk, h⟩
  · omega
  · have := (List.getElem?_eq_some_iff.1 h2).1
    omega
  · rw [List.getElem?_eq_getElem hk] at h2
    injection h2 with h2
    exact h h2
theorem sch_58 (p : Bool) : sch p 58 = false := by cases p <;> rfl
theorem st_more : ∀ (p : Bool) (l m : List UInt8), (st p l).length < l.length → st p (l ++ m) = st p l
  | _, [], _, h => by cases h
  | p, c :: r, m, h => by
    cases hs : sch p c with
    | false => rw [List.cons_append, st_no _ hs, st_no _ hs]
    | true =>
      rw [st_yes _ hs, List.length_cons, List.length_cons] at h
      rw [List.cons_append, st_yes _ hs, st_yes _ hs, st_more true r m (by omega)]
theorem colon_more {l : List UInt8} {k : Nat} (m : List UInt8) (h : colonL l = some k) : colonL (l ++ m) = some k := by
  obtain ⟨h1, h2, h3, h4⟩ := colon_lt h
  unfold colonL
  rw [st_more false l m (by omega), ← h4, if_pos ⟨h1, by rw [List.getElem?_append_left h2]; exact h3⟩]
/-- Great letters for small ones. -/
def up (c : UInt8) : UInt8 := if 97 ≤ c ∧ c ≤ 122 then c - 32 else c
def small (m : Nat) : UInt8 := UInt8.ofNat m
theorem all_bytes {P : UInt8 → Bool} (h : (List.range 256).all (fun m => P (UInt8.ofNat m)) = true) (c : UInt8) : P c = true := by
  have := List.all_eq_true.1 h c.toNat (List.mem_range.2 c.toNat_lt)
  rw [UInt8.ofNat_toNat] at this
  exact this
theorem up_facts (c : UInt8) : inn (up c) = inn c ∧ edge (up c) = edge c ∧ lr (up c) = lr c ∧ oth (up c) = oth c ∧ low (up c) = low c ∧ (up c == 58) = (c == 58) := by
  have h := all_bytes (P := fun c => inn (up c) == inn c && edge (up c) == edge c && lr (up c) == lr c && oth (up c) == oth c && low (up c) == low c && ((up c == 58) == (c == 58))) (by decide +kernel) c
  simp only [Bool.and_eq_true, beq_iff_eq] at h
  obtain ⟨⟨⟨⟨⟨h1, h2⟩, h3⟩, h4⟩, h5⟩, h6⟩ := h
  exact ⟨h1, h2, h3, h4, h5, h6⟩
theorem up_front : ∀ l : List UInt8, frontL (l.map up) = (frontL l).map up
  | [] => rfl
  | c :: l => by
    cases he : edge c with
    | true => rw [List.map_cons, front_yes _ ((up_facts c).2.1.trans he), front_yes _ he, up_front l]
    | false => rw [List.map_cons, front_no _ ((up_facts c).2.1.trans he), front_no _ he, List.map_cons]
theorem up_kept (l : List UInt8) : kept (l.map up) = (kept l).map up := by
  unfold kept
  rw [List.filter_map]
  congr 1
  refine List.filter_congr fun c _ => ?_
  show (!inn (up c)) = _
  rw [(up_facts c).1]
theorem up_strip (l : List UInt8) : stripL (l.map up) = (stripL l).map up := by
  rw [strip_eq, strip_eq, up_kept, up_front]
  show (frontL ((frontL (kept l)).map up).reverse).reverse = _
  rw [← List.map_reverse, up_front, ← List.map_reverse]
  rfl
theorem up_st : ∀ (p : Bool) (l : List UInt8), st p (l.map up) = (st p l).map up
  | _, [] => rfl
  | p, c :: r => by
    have hs : sch p (up c) = sch p c := by unfold sch; rw [(up_facts c).2.2.1, (up_facts c).2.2.2.1]
    cases h : sch p c with
    | true => rw [List.map_cons, st_yes _ (hs.trans h), st_yes _ h, up_st true r, List.map_cons]
    | false => rw [List.map_cons, st_no _ (hs.trans h), st_no _ h]; rfl
theorem up_colon (l : List UInt8) : colonL (l.map up) = colonL l := by
  unfold colonL
  rw [up_st, List.length_map]
  have : ((l.map up)[(st false l).length]? = some 58) ↔ (l[(st false l).length]? = some 58) := by
    rw [List.getElem?_map]
    cases l[(st false l).length]? with
    | none => simp
    | some c =>
      have := (up_facts c).2.2.2.2.2
      simp only [Option.map_some, Option.some.injEq]
      rw [← beq_iff_eq, ← beq_iff_eq (b := (58 : UInt8)), this]
  simp only [this]
theorem up_low (l : List UInt8) : lowL (l.map up) = lowL l := by
  unfold lowL
  rw [List.map_map]
  refine List.map_congr_left fun c _ => ?_
  exact (up_facts c).2.2.2.2.1

/-- The scheme of an address; the empty one: it has none. -/
def schemeO (s : List UInt8) : Option (List UInt8) := (colonL (stripL s)).map fun k => lowL ((stripL s).take k)
def schemeL (s : List UInt8) : List UInt8 := (schemeO s).getD []
def hasL (s : List UInt8) : Bool := (schemeO s).isSome
theorem scheme_up (l : List UInt8) : schemeO (l.map up) = schemeO l := by
  unfold schemeO
  rw [up_strip, up_colon]
  congr 1
  funext k
  rw [← List.map_take, up_low]
theorem scheme_strip {l m : List UInt8} (h : stripL l = stripL m) : schemeO l = schemeO m := by unfold schemeO; rw [h]
theorem strip_of_scheme {l : List UInt8} {x : List UInt8} (h : schemeO l = some x) : ∃ k, colonL (stripL l) = some k ∧ x = lowL ((stripL l).take k) ∧ 0 < k ∧ k < (stripL l).length := by
  unfold schemeO at h
  cases hc : colonL (stripL l) with
  | none => rw [hc] at h; cases h
  | some k =>
    rw [hc] at h
    injection h with h
    exact ⟨k, rfl, h.symm, (colon_lt hc).1, (colon_lt hc).2.1⟩
theorem scheme_more {l x : List UInt8} (m : List UInt8) (h : schemeO l = some x) : schemeO (l ++ m) = some x := by
  obtain ⟨k, h1, h2, h3, h4⟩ := strip_of_scheme h
  obtain ⟨r, hr⟩ := strip_more l m (fun e => by rw [e] at h4; cases h4)
  unfold schemeO
  rw [hr, colon_more r h1, h2, Option.map_some, List.take_append_of_le_length (by omega)]
theorem colon_head {c : UInt8} (m : List UInt8) (h : lr c = false) : colonL (c :: m) = none := by
  have : st false (c :: m) = [] := st_no _ (by unfold sch; rw [h]; rfl)
  unfold colonL
  rw [this]
  rfl
theorem scheme_none {c : UInt8} (l : List UInt8) (he : edge c = false) (hi : inn c = false) (hl : lr c = false) : schemeO (c :: l) = none := by
  obtain ⟨m, h⟩ := strip_head l he hi
  unfold schemeO
  rw [h, colon_head m hl]
  rfl
theorem strip_mem {c : UInt8} {l : List UInt8} (h : c ∈ stripL l) : c ∈ l := by
  rw [strip_eq] at h
  have hb : ∀ {l : List UInt8} {c}, c ∈ frontL l → c ∈ l := fun {l c} h => (List.dropWhile_sublist _).subset h
  have h1 : c ∈ frontL (kept l) := by
    have : c ∈ (frontL (frontL (kept l)).reverse).reverse := h
    exact List.mem_reverse.1 (hb (List.mem_reverse.1 this))
  exact (List.mem_filter.1 (hb h1)).1
theorem scheme_no58 {l : List UInt8} (h : (58 : UInt8) ∉ l) : schemeO l = none := by
  cases hs : schemeO l with
  | none => rfl
  | some x =>
    obtain ⟨k, h1, _, _, _⟩ := strip_of_scheme hs
    exact absurd (strip_mem (List.mem_of_getElem? (colon_lt h1).2.2.1)) h

/-- A hexadecimal digit, and its number. -/
def hb (c : UInt8) : Bool := (decide (48 ≤ c) && decide (c ≤ 57)) || (decide (97 ≤ c) && decide (c ≤ 102)) || (decide (65 ≤ c) && decide (c ≤ 70))
def hv (c : UInt8) : Nat := if 48 ≤ c ∧ c ≤ 57 then c.toNat - 48 else if 97 ≤ c ∧ c ≤ 102 then c.toNat - 87 else if 65 ≤ c ∧ c ≤ 70 then c.toNat - 55 else 0
theorem hv_le (c : UInt8) : hv c ≤ 15 := by
  have := all_bytes (P := fun c => decide (hv c ≤ 15)) (by decide +kernel) c
  simpa using this
/-- The byte of a mark that a text begins with. -/
def mk : List UInt8 → Option UInt8
  | a :: b :: c :: _ => if a == 37 && (hb b && hb c) then some (UInt8.ofNat (16 * hv b + hv c)) else none
  | _ => none
/-- Bytes for their marks. -/
def pct : List UInt8 → List UInt8
  | [] => []
  | [a] => [a]
  | [a, b] => [a, b]
  | a :: b :: c :: r => if a == 37 && (hb b && hb c) then UInt8.ofNat (16 * hv b + hv c) :: pct r else a :: pct (b :: c :: r)
theorem pct_yes {l : List UInt8} {x : UInt8} (h : mk l = some x) : 3 ≤ l.length ∧ pct l = x :: pct (l.drop 3) := by
  match l, h with
  | a :: b :: c :: r, h =>
    have h : (if a == 37 && (hb b && hb c) then some (UInt8.ofNat (16 * hv b + hv c)) else none) = some x := h
    split at h
    · rename_i hc
      injection h with h
      refine ⟨by simp, ?_⟩
      rw [pct, if_pos hc, h]
      rfl
    · cases h
theorem pct_no {c : UInt8} {r : List UInt8} (h : mk (c :: r) = none) : pct (c :: r) = c :: pct r := by
  match r, h with
  | [], _ => rfl
  | [b], _ => rfl
  | b :: d :: r, h =>
    have h : (if c == 37 && (hb b && hb d) then some (UInt8.ofNat (16 * hv b + hv d)) else none) = none := h
    split at h
    · cases h
    · rename_i hc
      rw [pct, if_neg hc]
theorem mk_37 {c : UInt8} (r : List UInt8) (h : (c == 37) = false) : mk (c :: r) = none := by
  match r with
  | [] => rfl
  | [b] => rfl
  | b :: d :: r =>
    show (if c == 37 && (hb b && hb d) then some (UInt8.ofNat (16 * hv b + hv d)) else none) = none
    rw [h]; rfl
theorem pct_plain : ∀ {l : List UInt8}, (∀ c ∈ l, (c == 37) = false) → pct l = l
  | [], _ => rfl
  | c :: l, h => by
    rw [pct_no (mk_37 l (h c List.mem_cons_self)), pct_plain fun x hx => h x (List.mem_cons_of_mem _ hx)]
theorem pct_len : ∀ (n : Nat) (l : List UInt8), l.length ≤ n → (pct l).length ≤ l.length
  | 0, [], _ => Nat.le_refl _
  | 0, _ :: _, h => by cases h
  | n + 1, [], _ => Nat.le_refl _
  | n + 1, c :: l, h => by
    cases hm : mk (c :: l) with
    | none =>
      rw [pct_no hm]
      have := pct_len n l (by simpa using h)
      simpa using this
    | some x =>
      obtain ⟨h3, e⟩ := pct_yes hm
      rw [e]
      have := pct_len n ((c :: l).drop 3) (by rw [List.length_drop]; omega)
      rw [List.length_drop] at this
      rw [List.length_cons]
      omega
/-- Bytes written as marks, with digits d. -/
def marks (d : Nat → UInt8) (l : List UInt8) : List UInt8 := l.flatMap fun c => [37, d (c.toNat / 16), d (c.toNat % 16)]
theorem marks_snoc (d : Nat → UInt8) (l : List UInt8) (c : UInt8) : marks d (l ++ [c]) = marks d l ++ [37, d (c.toNat / 16), d (c.toNat % 16)] := by simp [marks]
theorem marks_len (d : Nat → UInt8) (l : List UInt8) : (marks d l).length = 3 * l.length := by
  induction l with
  | nil => rfl
  | cons c l ih =>
    have : marks d (c :: l) = [37, d (c.toNat / 16), d (c.toNat % 16)] ++ marks d l := rfl
    rw [this, List.length_append, ih, List.length_cons]
    simp
    omega
theorem pct_marks (d : Nat → UInt8) (hd : ∀ n, n < 16 → hb (d n) = true ∧ hv (d n) = n) : ∀ l : List UInt8, pct (marks d l) = l
  | [] => rfl
  | c :: l => by
    have e : marks d (c :: l) = 37 :: d (c.toNat / 16) :: d (c.toNat % 16) :: marks d l := rfl
    have hc := c.toNat_lt
    obtain ⟨a1, a2⟩ := hd (c.toNat / 16) (by omega)
    obtain ⟨b1, b2⟩ := hd (c.toNat % 16) (by omega)
    rw [e, pct, if_pos (by rw [a1, b1]; rfl), pct_marks d hd l, a2, b2, show 16 * (c.toNat / 16) + c.toNat % 16 = c.toNat by omega, UInt8.ofNat_toNat]
theorem marks_edge (d : Nat → UInt8) (hd : ∀ n, n < 16 → edge (d n) = false) (l : List UInt8) : ∀ c ∈ marks d l, edge c = false := by
  intro x hx
  obtain ⟨c, _, h⟩ := List.mem_flatMap.1 hx
  have hc := c.toNat_lt
  rcases List.mem_cons.1 h with rfl | h
  · rfl
  rcases List.mem_cons.1 h with rfl | h
  · exact hd _ (by omega)
  · have := List.mem_singleton.1 h
    subst this
    exact hd _ (by omega)

/-- What is run of an address. -/
def js : List UInt8 := [106, 97, 118, 97, 115, 99, 114, 105, 112, 116]
def scriptL (s : List UInt8) : Bool := decide (schemeL s = js)
def sourceL (s : List UInt8) : List UInt8 := if schemeL s = js then pct ((stripL s).drop ((colonL (stripL s)).getD 0 + 1)) else []
theorem scheme_known {a : List UInt8} {k : Nat} (ha : ∀ c ∈ a, edge c = false) (hk : colonL a = some k) (m : List UInt8) (hm : ∀ c ∈ m, edge c = false) :
    schemeO (a ++ m) = some (lowL (a.take k)) ∧ stripL (a ++ m) = a ++ m ∧ colonL (stripL (a ++ m)) = some k := by
  have hs : stripL (a ++ m) = a ++ m := strip_id _ fun c hc => by
    rcases List.mem_append.1 hc with h | h
    · exact ha c h
    · exact hm c h
  have hl := colon_lt hk
  refine ⟨?_, hs, by rw [hs]; exact colon_more m hk⟩
  unfold schemeO
  rw [hs, colon_more m hk, Option.map_some, List.take_append_of_le_length (by omega)]
/-- An address of javascript with anything behind it that is not ignored. -/
theorem source_known {a m : List UInt8} (ha : ∀ c ∈ a, edge c = false) (hk : colonL a = some 10) (hl : a.length = 11) (hj : lowL (a.take 10) = js) (hm : ∀ c ∈ m, edge c = false) :
    schemeL (a ++ m) = js ∧ sourceL (a ++ m) = pct m := by
  obtain ⟨h1, h2, h3⟩ := scheme_known ha hk m hm
  have e : schemeL (a ++ m) = js := by unfold schemeL; rw [h1, hj]; rfl
  refine ⟨e, ?_⟩
  unfold sourceL
  rw [if_pos e, h3, h2]
  have : (Option.some 10).getD 0 + 1 = a.length := by rw [hl]; rfl
  rw [this, List.drop_left]
theorem has_of (s : List UInt8) (h : schemeL s = js) : hasL s = true := by
  unfold schemeL at h
  unfold hasL
  cases hs : schemeO s with
  | none => rw [hs] at h; cases h
  | some x => rfl

end Go.Proofs.Ytchholpiikeakaa.Lk
