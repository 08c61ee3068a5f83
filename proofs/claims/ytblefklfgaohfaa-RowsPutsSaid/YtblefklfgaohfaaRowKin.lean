/-
  Stage 4, plain: kids, one behind the other; each row is the kid of its parent alone.
-/
import Derived.Test.YtblefklfgaohfaaRowTree
namespace Go.Proofs.Ytblefklfgaohfaa.Ro
set_option linter.unusedVariables false
set_option linter.unusedSimpArgs false
open Go.RowKit Ba

/-- All depths are at least d, and where something stands, the first is just d. -/
def Forest (d : Int) (r : List Ro) : Prop := (∀ y ∈ r, d ≤ y.depth) ∧ ∀ y, r.head? = some y → y.depth = d
/-- How many rows the first tree has besides its root. -/
def more (d : Int) (r : List Ro) : Nat := (r.takeWhile fun y => decide (d < y.depth)).length
theorem forest_next {d : Int} {x : Ro} {r : List Ro} (h : Forest d (x :: r)) : x.depth = d ∧ Forest d (r.drop (more d r)) ∧ more d r ≤ r.length := by
  refine ⟨h.2 x rfl, ⟨fun y hy => h.1 y (List.mem_cons_of_mem _ (List.mem_of_mem_drop hy)), fun y hy => ?_⟩, (List.takeWhile_sublist _).length_le⟩
  have h1 := stops (fun y : Ro => decide (d < y.depth)) r y hy
  have h2 := h.1 y (List.mem_cons_of_mem _ (List.mem_of_mem_drop (i := more d r) (List.mem_of_mem_head? hy)))
  simp at h1
  omega
theorem kids_skip (d : Int) : ∀ (n : Nat) (r : List Ro) (k : Nat), (∀ y ∈ r.take n, d < y.depth) → n ≤ r.length → kidsFrom d k r = kidsFrom d (k + n) (r.drop n)
  | 0, r, k, _, _ => rfl
  | n + 1, [], k, _, h => absurd h (by simp)
  | n + 1, x :: r, k, h, hn => by
    have h0 := h x (by simp)
    rw [kids_miss (by omega), kids_skip d n r (k + 1) (fun y hy => h y (by rw [List.take_succ_cons]; exact List.mem_cons_of_mem _ hy)) (by simpa using hn)]
    rw [show k + 1 + n = k + (n + 1) by omega, List.drop_succ_cons]
theorem kids_forest {d : Int} {x : Ro} {r : List Ro} (h : Forest d (x :: r)) (k : Nat) : kidsFrom d k (x :: r) = k :: kidsFrom d (k + 1 + more d r) (r.drop (more d r)) := by
  obtain ⟨h1, _, h3⟩ := forest_next h
  rw [kids_hit h1, kids_skip d (more d r) r (k + 1) (fun y hy => by
    have := takes (fun y : Ro => decide (d < y.depth)) r y hy
    simpa using this) h3]

/-- What stands below a node is a forest one deeper. -/
theorem below_forest {l : List Ro} (h : right l = true) (hl : l.length ≤ 1000) (i : Int) (h1 : -1 ≤ i) (h2 : i < l.length) : Forest (dep l i + 1) (below l i) := by
  refine ⟨fun y hy => ?_, fun y hy => ?_⟩
  · have := mem_takeWhile _ _ y hy
    simp at this
    omega
  · have hb := mem_takeWhile _ _ y (List.mem_of_mem_head? hy)
    simp at hb
    have hfirst : l[(i + 1).toNat]? = some y := by
      unfold below at hy
      cases hd : l.drop (i + 1).toNat with
      | nil => rw [hd] at hy; simp at hy
      | cons z t =>
        rw [hd, List.takeWhile_cons] at hy
        split at hy
        · obtain rfl := Option.some.inj hy
          exact getElem_of_drop hd
        · simp at hy
    by_cases hi : i = -1
    · subst hi
      rw [dep_top]
      have hlt : 0 < l.length := (List.getElem?_eq_some_iff.1 hfirst).1
      cases l with
      | nil => simp at hlt
      | cons x r =>
        have e : x = y := by simpa using hfirst
        subst e
        have hr : rightFrom 0 (x :: r) = true := h
        rw [rightFrom] at hr
        simp only [Bool.and_eq_true, decide_eq_true_eq] at hr
        omega
    · obtain ⟨k, rfl⟩ : ∃ k : Nat, i = k := ⟨i.toNat, by omega⟩
      rw [show ((k : Int) + 1).toNat = k + 1 by omega] at hfirst
      have hk1 : k + 1 < l.length := (List.getElem?_eq_some_iff.1 hfirst).1
      have hs := right_step l 0 h k l[k] y (List.getElem?_eq_getElem (by omega)) hfirst
      have hd : dep l k = l[k].depth := dep_at (List.getElem?_eq_getElem (by omega))
      omega
theorem deep_dep0 {l : List Ro} (h : Deep l) {i : Int} (h1 : -1 ≤ i) (h2 : i < l.length) : -1 ≤ dep l i := by
  unfold dep
  split
  · omega
  · obtain ⟨k, rfl⟩ : ∃ k : Nat, i = k := ⟨i.toNat, by omega⟩
    rw [Int.toNat_natCast, List.getElem?_eq_getElem (by omega)]
    have := h l[k] (List.getElem_mem _)
    show -1 ≤ l[k].depth
    omega
/-- Where a node's tree ends, as rows. -/
theorem below_split {l : List Ro} (i : Int) (h1 : -1 ≤ i) : l.drop (i + 1).toNat = below l i ++ l.drop (endOf l i) ∧ ∀ y, (l.drop (endOf l i)).head? = some y → y.depth ≤ dep l i := by
  have hsp := takeWhile_split (fun x : Ro => decide (dep l i < x.depth)) (l.drop (i + 1).toNat)
  have hdd : (l.drop (i + 1).toNat).drop (below l i).length = l.drop (endOf l i) := by rw [List.drop_drop]; rfl
  refine ⟨?_, fun y hy => ?_⟩
  · rw [← hdd]; exact hsp
  · have := stops (fun x : Ro => decide (dep l i < x.depth)) (l.drop (i + 1).toNat) y (by
      have : (l.drop (i + 1).toNat).drop (below l i).length = l.drop (endOf l i) := hdd
      rw [← this] at hy
      exact hy)
    simp at this
    exact this
theorem takeWhile_append_stop {p : Ro → Bool} : ∀ (a b : List Ro), (∀ y, b.head? = some y → p y = false) → (a ++ b).takeWhile p = a.takeWhile p
  | [], b, h => by
    cases b with
    | nil => rfl
    | cons y t => rw [List.nil_append, List.takeWhile_cons_of_neg (by rw [h y rfl]; decide)]; rfl
  | x :: r, b, h => by
    rw [List.cons_append, List.takeWhile_cons, List.takeWhile_cons, takeWhile_append_stop r b h]

/-- A kid: where it stands, its tree's end, its parent. The rows below i from the m-th on are a forest that begins with it. -/
theorem kid_facts {l : List Ro} (hr : right l = true) (hl : l.length ≤ 1000) {i : Int} (h1 : -1 ≤ i) (h2 : i < l.length) {m : Nat} {x : Ro} {r : List Ro}
    (hm : (below l i).drop m = x :: r) (hx : x.depth = dep l i + 1) :
    (i + 1).toNat + m < l.length ∧ endOf l ((i + 1).toNat + m : Nat) = (i + 1).toNat + m + 1 + more (dep l i + 1) r ∧ parent l ((i + 1).toNat + m : Nat) = i := by
  obtain ⟨hs1, hs2⟩ := below_split (l := l) i h1
  obtain ⟨k, hk⟩ : ∃ k, (i + 1).toNat + m = k := ⟨_, rfl⟩
  rw [hk]
  have hdk : l.drop k = x :: r ++ l.drop (endOf l i) := by
    rw [← hk, ← List.drop_drop, hs1, List.drop_append_of_le_length, hm]
    have := congrArg List.length hm
    rw [List.length_drop, List.length_cons] at this
    omega
  have hkl : k < l.length := by
    have := congrArg List.length hdk
    rw [List.length_drop, List.length_append, List.length_cons] at this
    omega
  have hgk : l[k]? = some x := getElem_of_drop (r := r ++ l.drop (endOf l i)) (by rw [hdk]; rfl)
  have hdepk : dep l k = dep l i + 1 := by rw [dep_at hgk, hx]
  refine ⟨hkl, ?_, ?_⟩
  · unfold endOf below
    rw [show ((k : Int) + 1).toNat = k + 1 by omega, hdepk]
    have hd1 : l.drop (k + 1) = r ++ l.drop (endOf l i) := by
      have := congrArg (List.drop 1) hdk
      rw [List.drop_drop] at this
      exact this
    rw [hd1, takeWhile_append_stop]
    · rfl
    · intro y hy
      have := hs2 y hy
      simp
      omega
  · unfold parent
    have hh : hasRow l k = true := by unfold hasRow; exact decide_eq_true ⟨by omega, by omega⟩
    rw [hh, if_pos rfl, hdepk, Int.toNat_natCast]
    have hall : ∀ j : Nat, (i + 1).toNat ≤ j → j < k → ¬ dep l j < dep l i + 1 := by
      intro j hj1 hj2
      have hjl : j < l.length := by omega
      have hjb : l[j] ∈ below l i := by
        have e : (l.drop (i + 1).toNat)[j - (i + 1).toNat]? = some l[j] := by
          rw [List.getElem?_drop, show (i + 1).toNat + (j - (i + 1).toNat) = j by omega, List.getElem?_eq_getElem hjl]
        have hmlen : m ≤ (below l i).length := by
          have := congrArg List.length hm
          rw [List.length_drop, List.length_cons] at this
          omega
        rw [hs1, List.getElem?_append_left (by omega)] at e
        exact List.mem_of_getElem? e
      have := mem_takeWhile _ _ _ hjb
      simp at this
      rw [dep_at (List.getElem?_eq_getElem hjl)]
      omega
    have hup : ∀ n : Nat, (i + 1).toNat ≤ n → n ≤ k → up l (dep l i + 1) n = i := by
      intro n
      induction n with
      | zero =>
        intro hn _
        show (-1 : Int) = i
        omega
      | succ n ih =>
        intro hn1 hn2
        by_cases hlt : (i + 1).toNat ≤ n
        · rw [up_on (hall n hlt (by omega))]
          exact ih hlt (by omega)
        · have e : (n : Int) = i := by omega
          show (if dep l n < dep l i + 1 then (n : Int) else up l (dep l i + 1) n) = i
          rw [e, if_pos (by omega)]
    exact hup k (by omega) (Nat.le_refl _)

theorem up_spec (l : List Ro) (d : Int) : ∀ n : Nat, -1 ≤ up l d n ∧ up l d n < n ∧ (0 ≤ up l d n → dep l (up l d n) < d) ∧ ∀ j : Nat, up l d n < j → j < n → d ≤ dep l j
  | 0 => ⟨Int.le_refl _, by show (-1 : Int) < 0; omega, fun h => by have h : (0 : Int) ≤ -1 := h; omega, fun j _ h => absurd h (by omega)⟩
  | n + 1 => by
    obtain ⟨h1, h2, h3, h4⟩ := up_spec l d n
    by_cases hlt : dep l n < d
    · have e : up l d (n + 1) = n := if_pos hlt
      rw [e]
      exact ⟨by omega, by omega, fun _ => hlt, fun j ha hb => by omega⟩
    · rw [up_on hlt]
      refine ⟨h1, by omega, h3, fun j ha hb => ?_⟩
      by_cases hj : j = n
      · subst hj; omega
      · exact h4 j ha (by omega)
theorem parent_row {l : List Ro} {k : Nat} (hk : k < l.length) : parent l k = up l (dep l k) k := by
  have hh : hasRow l k = true := by unfold hasRow; exact decide_eq_true ⟨by omega, by omega⟩
  unfold parent
  rw [hh, if_pos rfl, Int.toNat_natCast]

theorem kids_count (d : Int) (p : Nat → Bool) : ∀ (r : List Ro) (k : Nat), (∀ j (h : j < r.length), p (k + j) = decide (r[j].depth = d)) → (kidsFrom d k r).length = (List.range' k r.length).countP p
  | [], k, _ => rfl
  | x :: r, k, h => by
    have h0 : p k = decide (x.depth = d) := h 0 (by simp)
    have ih := kids_count d p r (k + 1) fun j hj => by
      have := h (j + 1) (by simp; omega)
      rw [show k + 1 + j = k + (j + 1) by omega]
      exact this
    rw [List.length_cons, List.range'_succ, List.countP_cons, ← ih, h0]
    by_cases hx : x.depth = d
    · rw [kids_hit hx, List.length_cons, decide_eq_true hx, if_pos rfl]
    · rw [kids_miss hx, decide_eq_false hx]; rfl
theorem count_none (p : Nat → Bool) (l : List Nat) (h : ∀ k ∈ l, p k = false) : l.countP p = 0 := by
  rw [List.countP_eq_zero]
  intro k hk
  rw [h k hk]
  decide

/-- A node's kids are as many as those whose parent it is. -/
theorem kids_parents {l : List Ro} (hr : right l = true) (hl : l.length ≤ 1000) {i : Int} (h1 : -1 ≤ i) (h2 : i < l.length) :
    (kids l i).length = (List.range l.length).countP fun k : Nat => decide (parent l k = i) := by
  have hfo := below_forest hr hl i h1 h2
  obtain ⟨hs1, hs2⟩ := below_split (l := l) i h1
  have hlen : (i + 1).toNat + (below l i).length + (l.drop (endOf l i)).length = l.length := by
    have := congrArg List.length hs1
    rw [List.length_drop, List.length_append] at this
    omega
  have he : endOf l i = (i + 1).toNat + (below l i).length := rfl
  have hrange : List.range l.length = List.range' 0 (i + 1).toNat ++ List.range' (i + 1).toNat (below l i).length ++ List.range' (endOf l i) (l.drop (endOf l i)).length := by
    rw [List.range_eq_range', he]
    have e1 := List.range'_append (s := 0) (m := (i + 1).toNat) (n := (below l i).length) (step := 1)
    have e2 := List.range'_append (s := 0) (m := (i + 1).toNat + (below l i).length) (n := (l.drop (endOf l i)).length) (step := 1)
    simp only [Nat.one_mul, Nat.zero_add] at e1 e2
    rw [e1, ← he]
    rw [he] at e2 hlen ⊢
    rw [e2, hlen]
  rw [hrange, List.countP_append, List.countP_append]
  have c1 : (List.range' 0 (i + 1).toNat).countP (fun k : Nat => decide (parent l k = i)) = 0 := count_none _ _ fun k hk => by
    have hk2 := List.mem_range'_1.1 hk
    refine decide_eq_false fun e => ?_
    have hkl : k < l.length := by omega
    rw [parent_row hkl] at e
    have := (up_spec l (dep l k) k).2.1
    omega
  have c3 : (List.range' (endOf l i) (l.drop (endOf l i)).length).countP (fun k : Nat => decide (parent l k = i)) = 0 := count_none _ _ fun k hk => by
    have hk2 := List.mem_range'_1.1 hk
    refine decide_eq_false fun e => ?_
    have hkl : k < l.length := by omega
    rw [parent_row hkl] at e
    obtain ⟨u1, u2, u3, u4⟩ := up_spec l (dep l k) k
    rw [e] at u1 u2 u3 u4
    have hne : 0 < (l.drop (endOf l i)).length := by omega
    have hel : endOf l i < l.length := by rw [List.length_drop] at hne; omega
    have hy := hs2 l[endOf l i] (by rw [List.head?_eq_getElem?, List.getElem?_drop, Nat.add_zero, List.getElem?_eq_getElem hel])
    have hde : dep l (endOf l i) = l[endOf l i].depth := dep_at (List.getElem?_eq_getElem hel)
    by_cases hke : k = endOf l i
    · subst hke
      by_cases hi : 0 ≤ i
      · have := u3 hi; omega
      · have : i = -1 := by omega
        subst this
        rw [dep_top] at hy
        have := right_deep hr hl l[endOf l (-1)] (List.getElem_mem _)
        omega
    · have h4 := u4 (endOf l i) (by omega) (by omega)
      by_cases hi : 0 ≤ i
      · have := u3 hi; omega
      · have : i = -1 := by omega
        subst this
        rw [dep_top] at hy
        have := right_deep hr hl l[endOf l (-1)] (List.getElem_mem _)
        omega
  rw [c1, c3, Nat.zero_add, Nat.add_zero]
  refine kids_count _ _ (below l i) _ fun j hj => decide_eq_decide.2 ⟨fun e => ?_, fun e => ?_⟩
  · have hkl : (i + 1).toNat + j < l.length := by omega
    have hgj : l[(i + 1).toNat + j]? = some (below l i)[j] := by
      have e2 : (l.drop (i + 1).toNat)[j]? = some (below l i)[j] := by rw [hs1, List.getElem?_append_left hj, List.getElem?_eq_getElem hj]
      rwa [List.getElem?_drop] at e2
    have hdj : dep l ((i + 1).toNat + j : Nat) = (below l i)[j].depth := dep_at hgj
    have hge := hfo.1 (below l i)[j] (List.getElem_mem _)
    have h0l : 0 < (below l i).length := by omega
    have hhead := hfo.2 (below l i)[0] (by rw [List.head?_eq_getElem?, List.getElem?_eq_getElem h0l])
    by_cases hj0 : j = 0
    · subst hj0; exact hhead
    · rw [parent_row hkl] at e
      obtain ⟨_, _, _, u4⟩ := up_spec l (dep l ((i + 1).toNat + j : Nat)) ((i + 1).toNat + j)
      rw [e] at u4
      have h4 := u4 ((i + 1).toNat) (by omega) (by omega)
      have hg0 : l[(i + 1).toNat]? = some (below l i)[0] := by
        have e2 : (l.drop (i + 1).toNat)[0]? = some (below l i)[0] := by rw [hs1, List.getElem?_append_left h0l, List.getElem?_eq_getElem h0l]
        rwa [List.getElem?_drop, Nat.add_zero] at e2
      rw [dep_at hg0] at h4
      omega
  · exact (kid_facts hr hl h1 h2 (m := j) (x := (below l i)[j]) (r := (below l i).drop (j + 1)) (List.drop_eq_getElem_cons hj) e).2.2

theorem count_or (p q r : Nat → Bool) (l : List Nat) (h : ∀ k ∈ l, r k = (p k || q k) ∧ ¬ (p k = true ∧ q k = true)) : l.countP r = l.countP p + l.countP q := by
  induction l with
  | nil => rfl
  | cons a t ih =>
    rw [List.countP_cons, List.countP_cons, List.countP_cons, ih fun k hk => h k (List.mem_cons_of_mem _ hk)]
    obtain ⟨h1, h2⟩ := h a List.mem_cons_self
    cases hp : p a <;> cases hq : q a <;> simp_all <;> omega
/-- How many rows have a parent ahead of i. -/
def seenOf (l : List Ro) (i : Int) : Nat := (List.range l.length).countP fun k : Nat => decide (parent l k < i)
theorem seen_next {l : List Ro} (hr : right l = true) (hl : l.length ≤ 1000) {i : Int} (h1 : -1 ≤ i) (h2 : i < l.length) : seenOf l (i + 1) = seenOf l i + (kids l i).length := by
  rw [kids_parents hr hl h1 h2]
  refine count_or _ _ _ _ fun k _ => ⟨?_, fun h => ?_⟩
  · rw [Bool.eq_iff_iff, Bool.or_eq_true, decide_eq_true_eq, decide_eq_true_eq, decide_eq_true_eq]
    omega
  · rw [decide_eq_true_eq, decide_eq_true_eq] at h
    omega
theorem seen_top (l : List Ro) : seenOf l (-1) = 0 := count_none _ _ fun k hk => by
  have hk2 := List.mem_range.1 hk
  refine decide_eq_false ?_
  rw [parent_row hk2]
  have := (up_spec l (dep l k) k).1
  omega
theorem seen_all (l : List Ro) : seenOf l l.length = l.length := by
  unfold seenOf
  have : (List.range l.length).countP (fun k : Nat => decide (parent l k < l.length)) = (List.range l.length).length := by
    rw [List.countP_eq_length]
    intro k hk
    have hk2 := List.mem_range.1 hk
    rw [decide_eq_true_eq, parent_row hk2]
    have := (up_spec l (dep l k) k).2.1
    omega
  rw [this, List.length_range]
theorem seen_le (l : List Ro) (i : Int) : seenOf l i ≤ l.length := by
  have := List.countP_le_length (p := fun k : Nat => decide (parent l k < i)) (l := List.range l.length)
  rwa [List.length_range] at this

end Go.Proofs.Ytblefklfgaohfaa.Ro
