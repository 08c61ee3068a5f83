/-
  Stage 4, plain: a node's tree alone, and the rows without it.
-/
import Derived.Test.YtblefklfgaohfaaRowTexts
namespace Go.Proofs.Ytblefklfgaohfaa.Ro
set_option linter.unusedVariables false
set_option linter.unusedSimpArgs false
open Go.RowKit Ba

/-- How deep a row may stand behind these. -/
def after (m : Int) : List Ro → Int
  | [] => m
  | x :: r => after (if x.kind = 0 then x.depth + 1 else x.depth) r
theorem right_append : ∀ (a b : List Ro) (m : Int), rightFrom m (a ++ b) = (rightFrom m a && rightFrom (after m a) b)
  | [], b, m => by rw [List.nil_append, rightFrom, after, Bool.true_and]
  | x :: r, b, m => by rw [List.cons_append, rightFrom, rightFrom, after, right_append r b]; simp only [Bool.and_assoc]
theorem right_head {m k : Int} {b : List Ro} (h : rightFrom m b = true) (hk : ∀ y, b.head? = some y → y.depth ≤ k) : rightFrom k b = true := by
  cases b with
  | nil => rfl
  | cons y t =>
    have := hk y rfl
    rw [rightFrom] at h ⊢
    simp only [Bool.and_eq_true, decide_eq_true_eq] at h ⊢
    exact ⟨⟨⟨h.1.1.1, this⟩, h.1.2⟩, h.2⟩
theorem ok_deeper (x : Ro) (d : Int) : okRow { x with depth := x.depth + d } = okRow x := rfl
theorem right_deeper (D : Int) : ∀ (a : List Ro) (m : Int), rightFrom m a = true → (∀ y ∈ a, 0 ≤ y.depth + D) → rightFrom (m + D) (deeper D a) = true
  | [], _, _, _ => rfl
  | x :: r, m, h, hd => by
    rw [rightFrom] at h
    simp only [Bool.and_eq_true, decide_eq_true_eq] at h
    have h0 := hd x List.mem_cons_self
    have ih := right_deeper D r _ h.2 fun y hy => hd y (List.mem_cons_of_mem _ hy)
    show rightFrom (m + D) ({ x with depth := x.depth + D } :: deeper D r) = true
    rw [rightFrom]
    simp only [Bool.and_eq_true, decide_eq_true_eq]
    refine ⟨⟨⟨h0, by show x.depth + D ≤ m + D; omega⟩, ?_⟩, ?_⟩
    · rw [ok_deeper]; exact h.1.2
    · by_cases hk : x.kind = 0
      · rw [if_pos hk] at ih ⊢
        rw [show x.depth + D + 1 = x.depth + 1 + D by omega]
        exact ih
      · rw [if_neg hk] at ih ⊢
        exact ih
theorem txt_deeper (D : Int) : ∀ a : List Ro, txt (deeper D a) = txt a
  | [] => rfl
  | x :: r => by
    show txt ({ x with depth := x.depth + D } :: deeper D r) = _
    rw [txt, txt, txt_deeper D r]
theorem takeWhile_split {α : Type} (p : α → Bool) : ∀ l : List α, l = l.takeWhile p ++ l.drop (l.takeWhile p).length
  | [] => rfl
  | x :: r => by
    by_cases hp : p x = true
    · rw [List.takeWhile_cons_of_pos hp, List.length_cons, List.drop_succ_cons, List.cons_append, ← takeWhile_split p r]
    · rw [List.takeWhile_cons_of_neg hp]; rfl
theorem mem_takeWhile {α : Type} (p : α → Bool) : ∀ (l : List α), ∀ x ∈ l.takeWhile p, p x = true
  | [], x, h => by cases h
  | y :: r, x, h => by
    by_cases hp : p y = true
    · rw [List.takeWhile_cons_of_pos hp] at h
      rcases List.mem_cons.1 h with rfl | h
      · exact hp
      · exact mem_takeWhile p r x h
    · rw [List.takeWhile_cons_of_neg hp] at h; cases h

/-- A row, what is below it, and the rest. -/
theorem tree_split {l : List Ro} {k : Nat} (hk : k < l.length) :
    l.drop k = (l[k] :: below l k) ++ l.drop (endOf l k) ∧ (∀ y ∈ below l k, l[k].depth < y.depth) ∧ (∀ y, (l.drop (endOf l k)).head? = some y → y.depth ≤ l[k].depth) ∧ dep l k = l[k].depth ∧ endOf l k = k + 1 + (below l k).length := by
  have hd : dep l k = l[k].depth := dep_at (List.getElem?_eq_getElem hk)
  have he : endOf l k = k + 1 + (below l k).length := by
    unfold endOf; rw [show ((k : Int) + 1).toNat = k + 1 by omega]
  have hb : below l k = (l.drop (k + 1)).takeWhile fun x => decide (l[k].depth < x.depth) := by
    unfold below; rw [hd, show ((k : Int) + 1).toNat = k + 1 by omega]
  have hsp := takeWhile_split (fun x : Ro => decide (l[k].depth < x.depth)) (l.drop (k + 1))
  rw [← hb] at hsp
  have hdd : (l.drop (k + 1)).drop (below l k).length = l.drop (endOf l k) := by rw [List.drop_drop, he]
  rw [hdd] at hsp
  refine ⟨?_, fun y hy => ?_, fun y hy => ?_, hd, he⟩
  · rw [List.drop_eq_getElem_cons hk, List.cons_append]
    rw [← hsp]
  · rw [hb] at hy
    have := mem_takeWhile _ _ y hy
    simpa using this
  · have := stops (fun x : Ro => decide (l[k].depth < x.depth)) (l.drop (k + 1)) y (by rw [← hb, hdd]; exact hy)
    simp at this
    exact this
theorem part_tree {l : List Ro} {k : Nat} (hk : k < l.length) : (l.take (endOf l k)).drop k = l[k] :: below l k := by
  obtain ⟨h1, _, _, _, h5⟩ := tree_split hk
  rw [List.drop_take, h1, h5, List.take_append_of_le_length (by rw [List.length_cons]; omega), List.take_of_length_le (by rw [List.length_cons]; omega)]
theorem end_le {l : List Ro} {k : Nat} (hk : k < l.length) : k < endOf l k ∧ endOf l k ≤ l.length := by
  obtain ⟨h1, _, _, _, h5⟩ := tree_split hk
  have := congrArg List.length h1
  rw [List.length_drop, List.length_append, List.length_cons, List.length_drop] at this
  omega
theorem take_form {l : List Ro} {k : Nat} (hk : k < l.length) : takeAt l k = deeper (-(l[k].depth)) (l[k] :: below l k) := by
  obtain ⟨_, _, _, h4, _⟩ := tree_split hk
  unfold takeAt
  rw [h4, Int.toNat_natCast, part_tree hk]
theorem right_tree {l : List Ro} (h : right l = true) {k : Nat} (hk : k < l.length) :
    0 ≤ l[k].depth ∧ rightFrom l[k].depth (l[k] :: below l k) = true ∧ right (takeAt l k) = true ∧ right (dropAt l k) = true := by
  obtain ⟨h1, h2, h3, h4, h5⟩ := tree_split hk
  have hs := right_append (l.take k) (l.drop k) 0
  rw [List.take_append_drop] at hs
  have hr : right l = rightFrom 0 l := rfl
  rw [hr, hs, Bool.and_eq_true, h1, right_append, Bool.and_eq_true] at h
  obtain ⟨ha, hb, hc⟩ := h
  have hb' := hb
  rw [rightFrom] at hb'
  simp only [Bool.and_eq_true, decide_eq_true_eq] at hb'
  have hb2 : rightFrom l[k].depth (l[k] :: below l k) = true := right_head hb fun y hy => by
    obtain rfl := Option.some.inj hy
    exact Int.le_refl _
  refine ⟨hb'.1.1.1, hb2, ?_, ?_⟩
  · rw [take_form hk]
    have := right_deeper (-(l[k].depth)) (l[k] :: below l k) l[k].depth hb2 fun y hy => by
      rcases List.mem_cons.1 hy with rfl | hy
      · omega
      · have := h2 y hy; omega
    rw [show l[k].depth + -(l[k].depth) = 0 by omega] at this
    exact this
  · show rightFrom 0 (l.take ((k : Nat) : Int).toNat ++ l.drop (endOf l k)) = true
    rw [Int.toNat_natCast, right_append, ha, Bool.true_and]
    exact right_head hc fun y hy => Int.le_trans (h3 y hy) hb'.1.1.2
theorem len_take {l : List Ro} {k : Nat} (hk : k < l.length) : (takeAt l k).length = endOf l k - k := by
  obtain ⟨_, _, _, _, h5⟩ := tree_split hk
  rw [take_form hk, len_deeper, List.length_cons, h5]
  omega
theorem len_drop {l : List Ro} {k : Nat} (hk : k < l.length) : (dropAt l k).length = l.length - (takeAt l k).length := by
  have := end_le hk
  rw [len_take hk]
  show (l.take ((k : Nat) : Int).toNat ++ l.drop (endOf l k)).length = _
  rw [Int.toNat_natCast, List.length_append, List.length_take, List.length_drop]
  omega
theorem check_take {l : List Ro} (h : check l = 0) {k : Nat} (hk : k < l.length) : check (takeAt l k) = 0 ∧ check (dropAt l k) = 0 := by
  obtain ⟨h1, h2⟩ := check_parts h
  obtain ⟨h0, _, h3, h4⟩ := right_tree h2 hk
  have he := end_le hk
  refine ⟨check_of (exceeds_less h1 (by rw [len_take hk]; omega) fun y hy => ?_) h3, check_of (exceeds_less h1 (by rw [len_drop hk]; omega) fun y hy => ?_) h4⟩
  · rw [take_form hk] at hy
    obtain ⟨z, hz, rfl⟩ := List.mem_map.1 hy
    refine ⟨z, ?_, by show z.depth + -(l[k].depth) ≤ z.depth; omega⟩
    have : z ∈ l.drop k := by rw [(tree_split hk).1]; exact List.mem_append_left _ hz
    exact List.mem_of_mem_drop this
  · rcases List.mem_append.1 hy with hy | hy
    · exact ⟨y, List.mem_of_mem_take hy, Int.le_refl _⟩
    · exact ⟨y, List.mem_of_mem_drop hy, Int.le_refl _⟩

theorem kids_none (d : Int) : ∀ (l : List Ro) (k : Nat), (∀ y ∈ l, d < y.depth) → kidsFrom d k l = []
  | [], _, _ => rfl
  | x :: r, k, h => by
    have := h x List.mem_cons_self
    rw [kids_miss (by omega), kids_none d r (k + 1) fun y hy => h y (List.mem_cons_of_mem _ hy)]
/-- A tree alone has one root. -/
theorem kids_take {l : List Ro} (h : right l = true) (hl : l.length ≤ 1000) {k : Nat} (hk : k < l.length) : kidsAt (takeAt l k) (-1) = [0] := by
  obtain ⟨_, h2, _, _, _⟩ := tree_split hk
  have h3 := (right_tree h hk).2.2.1
  have he := end_le hk
  have hlt := len_take hk
  have hd := right_deep h3 (by rw [hlt]; omega)
  unfold kidsAt
  rw [if_pos ⟨Int.le_refl _, by omega⟩]
  unfold kids
  rw [below_all hd, dep_top, take_form hk]
  show kidsFrom 0 0 ({ l[k] with depth := l[k].depth + -(l[k].depth) } :: deeper (-(l[k].depth)) (below l k)) = [0]
  rw [kids_hit (by show l[k].depth + -(l[k].depth) = 0; omega), kids_none 0 _ 1 fun y hy => by
    obtain ⟨z, hz, rfl⟩ := List.mem_map.1 hy
    have := h2 z hz
    show 0 < z.depth + -(l[k].depth)
    omega]
theorem textAt_at {l : List Ro} {i : Int} (h : hasRow l i = true) (h1 : i ≠ -1) : textAt l i = txt ((l.take (endOf l i)).drop i.toNat) := by
  unfold textAt
  rw [if_neg h1, h, if_pos rfl]
theorem text_take {l : List Ro} {k : Nat} (hk : k < l.length) : textAt (takeAt l k) 0 = textAt l k := by
  obtain ⟨_, h2, _, _, h5⟩ := tree_split hk
  have he := end_le hk
  have hlt := len_take hk
  have h0 : hasRow (takeAt l k) 0 = true := by unfold hasRow; exact decide_eq_true ⟨Int.le_refl _, by omega⟩
  have h1 : hasRow l k = true := by unfold hasRow; exact decide_eq_true ⟨by omega, by omega⟩
  rw [textAt_at h0 (by decide), textAt_at h1 (by omega), Int.toNat_natCast, part_tree hk]
  have hp : 0 < (takeAt l k).length := by omega
  obtain ⟨g1, g2, _, _, g5⟩ := tree_split (l := takeAt l k) (k := 0) hp
  have hall : below (takeAt l k) 0 = deeper (-(l[k].depth)) (below l k) := by
    unfold below
    rw [show ((0 : Int) + 1).toNat = 1 from rfl]
    have e0 : dep (takeAt l k) 0 = 0 := by
      rw [take_form hk]
      show l[k].depth + -(l[k].depth) = 0
      omega
    rw [e0, take_form hk]
    show List.takeWhile _ (deeper (-(l[k].depth)) (below l k)) = _
    exact takeWhile_all _ _ fun y hy => by
      obtain ⟨z, hz, rfl⟩ := List.mem_map.1 hy
      have := h2 z hz
      refine decide_eq_true ?_
      show 0 < z.depth + -(l[k].depth)
      omega
  have hend : endOf (takeAt l k) 0 = (takeAt l k).length := by
    unfold endOf
    rw [hall, len_deeper, hlt, h5, show ((0 : Int) + 1).toNat = 1 from rfl]
    omega
  rw [hend, List.take_of_length_le (Nat.le_refl _), show (0 : Int).toNat = 0 from rfl, List.drop_zero, take_form hk, txt_deeper]
theorem held_deep {l : List Ro} (h : Deep l) : Held l := fun x hx => by have := h x hx; omega
theorem few_take {l : List Ro} (h : Few l) (k : Nat) : Few (takeAt l k) := fun y hy => by
  obtain ⟨z, hz, rfl⟩ := List.mem_map.1 hy
  exact h z (List.mem_of_mem_take (List.mem_of_mem_drop hz))
theorem few_drop {l : List Ro} (h : Few l) (k : Nat) : Few (dropAt l k) := fun y hy => by
  rcases List.mem_append.1 hy with hy | hy
  · exact h y (List.mem_of_mem_take hy)
  · exact h y (List.mem_of_mem_drop hy)
theorem endAt_of {l : List Ro} {k : Nat} (hk : k < l.length) : endAt l k = endOf l k := by
  have h1 : hasRow l k = true := by unfold hasRow; exact decide_eq_true ⟨by omega, by omega⟩
  unfold endAt
  rw [h1, if_pos rfl]

theorem take1 (v : Value) (x : List Cw) (k : Nat) (w : World) (q : List Ro) (h : Rv w v x) (hl : x.length ≤ 1000) (hk : k < x.length) (hf : Few (ros x)) (hr : right (ros x) = true) (hq : takeAt (ros x) k = q) :
    Calls Try.prog 30 #[v, .int .i64 k] w fun e w' => ∃ u y, e = .returned (.tuple #[u, .int .i64 0]) ∧ Ow w.heap.size w' u y ∧ ros y = q ∧ y.length = q.length ∧ Rv w' u y ∧ Below w.heap.size w w' := by
  obtain ⟨A, c, rfl, hc, hm, hrr, hh⟩ := h
  have hdp := right_deep hr (by rw [len_ros]; exact hl)
  refine (Take_any A c x k w hrr hc (by omega) hk hf hdp).mono ?_
  rintro e w1 ⟨u, y, rfl, ho, _, hy, hb⟩
  rw [hq] at hy
  have hk' : k < (ros x).length := by rw [len_ros]; exact hk
  have hqr : right q = true := by rw [← hq]; exact (right_tree hr hk').2.2.1
  have hql : q.length ≤ 1000 := by rw [← hq, len_take hk']; have := end_le hk'; rw [len_ros] at this; omega
  exact ⟨u, y, rfl, ho, hy, by rw [← len_ros, hy], ho.rv (by rw [hy]; exact held_deep (right_deep hqr hql)), hb⟩
theorem drop1 (v : Value) (x : List Cw) (k : Nat) (w : World) (q : List Ro) (h : Rv w v x) (hl : x.length ≤ 1000) (hk : k < x.length) (hf : Few (ros x)) (hr : right (ros x) = true) (hq : dropAt (ros x) k = q) :
    Calls Try.prog 31 #[v, .int .i64 k] w fun e w' => ∃ u y, e = .returned (.tuple #[u, .int .i64 0]) ∧ Ow w.heap.size w' u y ∧ ros y = q ∧ y.length = q.length ∧ Rv w' u y ∧ Below w.heap.size w w' := by
  obtain ⟨A, c, rfl, hc, hm, hrr, hh⟩ := h
  have hdp := right_deep hr (by rw [len_ros]; exact hl)
  refine (Drop_any A c x k w hrr hc (by omega) hk hf hdp).mono ?_
  rintro e w1 ⟨u, y, rfl, ho, _, hy, hb⟩
  rw [hq] at hy
  have hk' : k < (ros x).length := by rw [len_ros]; exact hk
  have hqr : right q = true := by rw [← hq]; exact (right_tree hr hk').2.2.2
  have hql : q.length ≤ 1000 := by rw [← hq, len_drop hk', len_ros]; omega
  exact ⟨u, y, rfl, ho, hy, by rw [← len_ros, hy], ho.rv (by rw [hy]; exact held_deep (right_deep hqr hql)), hb⟩
theorem and_small (n : Int) (m j : Nat) (hm : m < 2 ^ j) (hj : 2 ^ j ≤ 4611686018427387904) : ∃ x : Nat, x < 2 ^ j ∧ bits .and .i64 n (m : Int) = (x : Int) := by
  have hlt : (BitVec.ofInt IntKind.i64.bits n).toNat &&& m < 2 ^ j := Nat.and_lt_two_pow _ hm
  refine ⟨_, hlt, ?_⟩
  have hm' : m % 2 ^ IntKind.i64.bits = m := Nat.mod_eq_of_lt (Nat.lt_of_lt_of_le hm (Nat.le_trans hj (by decide)))
  simp only [bits, BitVec.ofInt_natCast, BitVec.toNat_and, BitVec.toNat_ofNat, hm']
  rw [IntKind.wrap_i64]
  omega

end Go.Proofs.Ytblefklfgaohfaa.Ro
