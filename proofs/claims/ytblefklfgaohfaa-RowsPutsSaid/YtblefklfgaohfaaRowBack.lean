/-
  Stage 4, plain: trees put at a place: right rows again; taken there one by one; dropped all.
-/
import Derived.Test.YtblefklfgaohfaaRowLawsF
namespace Go.Proofs.Ytblefklfgaohfaa.Ro
set_option linter.unusedVariables false
set_option linter.unusedSimpArgs false
open Go.RowKit Ba

theorem kidsFrom_append (d : Int) : ∀ (a b : List Ro) (k : Nat), kidsFrom d k (a ++ b) = kidsFrom d k a ++ kidsFrom d (k + a.length) b
  | [], b, k => by rw [List.nil_append, kidsFrom, List.nil_append]; rfl
  | x :: r, b, k => by
    rw [List.cons_append, kidsFrom, kidsFrom, kidsFrom_append d r b (k + 1), List.length_cons, show k + 1 + r.length = k + (r.length + 1) by omega]
    split <;> rfl
/-- After j kids a forest begins. -/
theorem kids_walk {l : List Ro} (hr : right l = true) (hl : l.length ≤ 1000) {i : Int} (h1 : -1 ≤ i) (h2 : i < l.length) :
    ∀ j ≤ (kids l i).length, ∃ m, m ≤ (below l i).length ∧ Forest (dep l i + 1) ((below l i).drop m) ∧ (kids l i).drop j = kidsFrom (dep l i + 1) ((i + 1).toNat + m) ((below l i).drop m)
  | 0, _ => ⟨0, Nat.zero_le _, by rw [List.drop_zero]; exact below_forest hr hl i h1 h2, by rw [List.drop_zero, List.drop_zero]; rfl⟩
  | j + 1, hj => by
    obtain ⟨m, hm, hf, hk⟩ := kids_walk hr hl h1 h2 j (by omega)
    obtain ⟨_, _, _, _, k5, k6, k7⟩ := kid_at hr hl h1 h2 rfl hf hk (by omega)
    refine ⟨_, k7, k5, ?_⟩
    rw [k6]
    congr 1
    omega
/-- Where trees are put: ahead of a forest of the node's, behind as many kids as was said. -/
theorem place_facts {l : List Ro} (hr : right l = true) (hl : l.length ≤ 1000) {i at_ : Int} (h1 : -1 ≤ i) (h2 : i < l.length) (hp : (placeAt l i at_).2 = true) :
    ∃ m, m ≤ (below l i).length ∧ (placeAt l i at_).1 = ((i + 1).toNat + m : Nat) ∧ Forest (dep l i + 1) ((below l i).drop m) ∧ at_ = (kidsFrom (dep l i + 1) (i + 1).toNat ((below l i).take m)).length := by
  have hat : 0 ≤ at_ ∧ at_ ≤ (kids l i).length := by
    unfold placeAt at hp
    split at hp
    · omega
    · have := of_decide_eq_true hp; omega
  obtain ⟨a, rfl⟩ : ∃ a : Nat, at_ = a := ⟨at_.toNat, by omega⟩
  obtain ⟨m, hm, hf, hk⟩ := kids_walk hr hl h1 h2 a (by omega)
  have hsplit : kids l i = kidsFrom (dep l i + 1) (i + 1).toNat ((below l i).take m) ++ kidsFrom (dep l i + 1) ((i + 1).toNat + m) ((below l i).drop m) := by
    have := kidsFrom_append (dep l i + 1) ((below l i).take m) ((below l i).drop m) (i + 1).toNat
    rw [List.take_append_drop, List.length_take, Nat.min_eq_left hm] at this
    exact this
  have hlen : a = (kidsFrom (dep l i + 1) (i + 1).toNat ((below l i).take m)).length := by
    have e1 := congrArg List.length hk
    have e2 := congrArg List.length hsplit
    rw [List.length_drop] at e1
    rw [List.length_append] at e2
    omega
  refine ⟨m, hm, ?_, hf, by omega⟩
  unfold placeAt
  by_cases ha : a < (kids l i).length
  · rw [if_pos ⟨by omega, by omega⟩, Int.toNat_natCast, List.getElem?_eq_getElem ha]
    obtain ⟨k1, _⟩ := kid_at hr hl h1 h2 rfl hf hk ha
    show (((kids l i)[a] : Nat) : Int) = _
    rw [k1]
  · rw [if_neg (by omega)]
    have hnil : (below l i).drop m = [] := kids_empty hf (by rw [← hk, List.drop_eq_nil_of_le (by omega)])
    have hme : m = (below l i).length := by
      have := congrArg List.length hnil
      rw [List.length_drop] at this
      have h0 : ([] : List Ro).length = 0 := rfl
      omega
    show ((endOf l i : Nat) : Int) = _
    unfold endOf
    rw [hme]

/-- The rows with trees put at P, so much deeper. -/
def putAt (l : List Ro) (P : Nat) (D : Int) (s : List Ro) : List Ro := l.take P ++ deeper D s ++ l.drop P
theorem putAt_nil (l : List Ro) (P : Nat) (D : Int) : putAt l P D [] = l := by
  show l.take P ++ [] ++ l.drop P = l
  rw [List.append_nil, List.take_append_drop]
theorem len_putAt (l : List Ro) (P : Nat) (D : Int) (s : List Ro) (hP : P ≤ l.length) : (putAt l P D s).length = l.length + s.length := by
  unfold putAt
  rw [List.length_append, List.length_append, len_deeper, List.length_take, List.length_drop]
  omega
theorem deeper_back (D : Int) (s : List Ro) : deeper (-D) (deeper D s) = s := by
  unfold deeper
  rw [List.map_map]
  have : (fun x : Ro => { x with depth := x.depth + -D }) ∘ (fun x : Ro => { x with depth := x.depth + D }) = id := by
    funext x
    obtain ⟨d, k, n, t, a⟩ := x
    show (⟨d + D + -D, k, n, t, a⟩ : Ro) = ⟨d, k, n, t, a⟩
    rw [show d + D + -D = d by omega]
  rw [this, List.map_id]
theorem deeper_drop (D : Int) (s : List Ro) (n : Nat) : (deeper D s).drop n = deeper D (s.drop n) := by unfold deeper; rw [List.map_drop]
theorem deeper_takeWhile (D d : Int) : ∀ s : List Ro, (deeper D s).takeWhile (fun x => decide (d + D < x.depth)) = deeper D (s.takeWhile fun x => decide (d < x.depth))
  | [] => rfl
  | x :: r => by
    show List.takeWhile _ ({ x with depth := x.depth + D } :: deeper D r) = _
    by_cases h : d < x.depth
    · rw [List.takeWhile_cons_of_pos (by exact decide_eq_true (by show d + D < x.depth + D; omega)), List.takeWhile_cons_of_pos (by exact decide_eq_true h), deeper_takeWhile D d r]
      rfl
    · rw [List.takeWhile_cons_of_neg (by rw [decide_eq_true_eq]; show ¬ d + D < x.depth + D; omega), List.takeWhile_cons_of_neg (by rw [decide_eq_true_eq]; exact h)]
      rfl
theorem deeper_append (D : Int) (a b : List Ro) : deeper D (a ++ b) = deeper D a ++ deeper D b := by unfold deeper; rw [List.map_append]

theorem after_ge {D : Int} : ∀ (a : List Ro) (m : Int), D ≤ m → (∀ y ∈ a, D ≤ y.depth) → D ≤ after m a
  | [], _, h, _ => h
  | x :: r, m, h, ha => by
    have h0 := ha x List.mem_cons_self
    refine after_ge r _ ?_ fun y hy => ha y (List.mem_cons_of_mem _ hy)
    split <;> omega
theorem after_append : ∀ (a b : List Ro) (m : Int), after m (a ++ b) = after (after m a) b
  | [], _, _ => rfl
  | x :: r, b, m => after_append r b _

/-- All that is needed of a place: node, how many rows of its forest stand ahead. -/
structure Spot (l : List Ro) (p at_ : Int) (P : Nat) (D : Int) (m : Nat) : Prop where
  hr : right l = true
  hl : l.length ≤ 500
  h1 : -1 ≤ p
  h2 : p < l.length
  he : elemAt l p = true
  hD : D = dep l p + 1
  hm : m ≤ (below l p).length
  hP : P = (p + 1).toNat + m
  hf : Forest D ((below l p).drop m)
  ha : at_ = (kidsFrom D (p + 1).toNat ((below l p).take m)).length
section
variable {l : List Ro} {p at_ : Int} {P : Nat} {D : Int} {m : Nat} (S : Spot l p at_ P D m)
include S
theorem Spot.D0 : 0 ≤ D := by
  have := deep_dep0 (right_deep S.hr (by have := S.hl; omega)) S.h1 S.h2
  have := S.hD
  omega
theorem Spot.Pl : P ≤ l.length := by
  have := below_len l p S.h1 S.h2
  have := S.hm; have := S.hP
  omega
theorem Spot.split : l.drop (p + 1).toNat = (below l p).take m ++ ((below l p).drop m ++ l.drop (endOf l p)) ∧ l.drop P = (below l p).drop m ++ l.drop (endOf l p) := by
  obtain ⟨h1, _⟩ := below_split (l := l) p S.h1
  have e1 : l.drop (p + 1).toNat = (below l p).take m ++ ((below l p).drop m ++ l.drop (endOf l p)) := by rw [← List.append_assoc, List.take_append_drop]; exact h1
  refine ⟨e1, ?_⟩
  rw [S.hP, ← List.drop_drop, e1, List.drop_append_of_le_length (by rw [List.length_take]; have := S.hm; omega), List.drop_eq_nil_of_le (by rw [List.length_take]; omega), List.nil_append]
/-- What stands behind the place is no deeper than what is put. -/
theorem Spot.head : ∀ y, (l.drop P).head? = some y → y.depth ≤ D := fun y hy => by
  rw [S.split.2] at hy
  cases hb : (below l p).drop m with
  | nil =>
    rw [hb, List.nil_append] at hy
    have := (below_split (l := l) p S.h1).2 y hy
    have := S.hD
    omega
  | cons z t =>
    rw [hb, List.cons_append] at hy
    obtain rfl := Option.some.inj hy
    have := S.hf.2 z (by rw [hb]; rfl)
    omega
theorem Spot.room : D ≤ after 0 (l.take P) := by
  by_cases hp : p = -1
  · have hP0 : (p + 1).toNat = 0 := by rw [hp]; rfl
    have hD0 : D = 0 := by have := S.hD; rw [hp, dep_top] at this; omega
    have hdp := right_deep S.hr (by have := S.hl; omega)
    rw [hD0]
    exact after_ge _ _ (Int.le_refl _) fun y hy => (hdp y (List.mem_of_mem_take hy)).1
  · obtain ⟨k, rfl⟩ : ∃ k : Nat, p = k := ⟨p.toNat, by have := S.h1; omega⟩
    have hkl : k < l.length := by have := S.h2; omega
    have hkP : ((k : Int) + 1).toNat = k + 1 := by omega
    have hel : l[k].kind = 0 := by
      have := S.he
      unfold elemAt at this
      rw [decide_eq_false hp, Bool.false_or, Bool.and_eq_true, decide_eq_true_eq, decide_eq_true_eq, Int.toNat_natCast, List.getElem?_eq_getElem hkl] at this
      exact this.2
    have hdk : dep l k = l[k].depth := dep_at (List.getElem?_eq_getElem hkl)
    have e : l.take P = l.take k ++ (l[k] :: (below l k).take m) := by
      have h1 : l.take P = l.take (k + 1) ++ (l.drop (k + 1)).take m := by rw [S.hP, hkP, List.take_add]
      have h2 := S.split.1
      rw [hkP] at h2
      have h3 : ((below l k).take m ++ ((below l k).drop m ++ l.drop (endOf l k))).take m = (below l k).take m := by
        rw [List.take_append_of_le_length (by rw [List.length_take]; have := S.hm; omega), List.take_of_length_le (by rw [List.length_take]; omega)]
      rw [h1, h2, h3, List.take_succ_eq_append_getElem hkl, List.append_assoc]
      rfl
    rw [e, after_append, after, if_pos hel]
    refine after_ge _ _ (by have := S.hD; omega) fun y hy => ?_
    have := mem_takeWhile _ _ y (List.mem_of_mem_take hy)
    simp at this
    have := S.hD
    omega
theorem Spot.right_put {s : List Ro} (hs : right s = true) : right (putAt l P D s) = true := by
  have hr := S.hr
  have h0 : right l = rightFrom 0 l := rfl
  have h1 := right_append (l.take P) (l.drop P) 0
  rw [List.take_append_drop] at h1
  rw [h0, h1, Bool.and_eq_true] at hr
  show rightFrom 0 (l.take P ++ deeper D s ++ l.drop P) = true
  have hdp : ∀ y ∈ s, 0 ≤ y.depth := right_nonneg s 0 hs
  have hsd : rightFrom D (deeper D s) = true := by
    have := right_deeper D s 0 hs fun y hy => by have := hdp y hy; have := S.D0; omega
    rwa [Int.zero_add] at this
  rw [List.append_assoc, right_append, hr.1, Bool.true_and, right_append, right_mono S.room hsd, Bool.true_and]
  refine right_head hr.2 fun y hy => ?_
  have h2 := S.head y hy
  have h3 := after_ge (D := D) (deeper D s) (after 0 (l.take P)) S.room fun y hy => by
    obtain ⟨z, hz, rfl⟩ := List.mem_map.1 hy
    have := hdp z hz
    show D ≤ z.depth + D
    omega
  omega
where
  right_nonneg : ∀ (s : List Ro) (m : Int), rightFrom m s = true → ∀ y ∈ s, 0 ≤ y.depth
    | [], _, _, y, hy => by cases hy
    | x :: r, m, h, y, hy => by
      rw [rightFrom] at h
      simp only [Bool.and_eq_true, decide_eq_true_eq] at h
      rcases List.mem_cons.1 hy with rfl | hy
      · exact h.1.1.1
      · exact right_nonneg r _ h.2 y hy
end

section
variable {l : List Ro} {p at_ : Int} {P : Nat} {D : Int} {m : Nat} (S : Spot l p at_ P D m)
include S
theorem Spot.p1 : (p + 1).toNat ≤ P := by rw [S.hP]; omega
theorem Spot.drop_put (s : List Ro) : (putAt l P D s).drop P = deeper D s ++ l.drop P := by
  unfold putAt
  rw [List.append_assoc, List.drop_append_of_le_length (by rw [List.length_take]; have := S.Pl; omega), List.drop_eq_nil_of_le (by rw [List.length_take]; omega), List.nil_append]
theorem Spot.take_put (s : List Ro) : (putAt l P D s).take P = l.take P := by
  unfold putAt
  rw [List.append_assoc, List.take_append_of_le_length (by rw [List.length_take]; have := S.Pl; omega), List.take_of_length_le (by rw [List.length_take]; omega)]
theorem Spot.dep_put (s : List Ro) : dep (putAt l P D s) p = dep l p := by
  unfold dep
  split
  · rfl
  · have h1 := S.h1
    have e : (putAt l P D s)[p.toNat]? = l[p.toNat]? := by
      have hlt : p.toNat < P := by have := S.p1; omega
      have e1 := List.getElem?_take_of_lt (l := putAt l P D s) hlt
      have e2 := List.getElem?_take_of_lt (l := l) hlt
      rw [← e1, S.take_put, e2]
    rw [e]
theorem Spot.below_put {s : List Ro} (hs : Ro.right s = true) : below (putAt l P D s) p = (below l p).take m ++ deeper D s ++ (below l p).drop m := by
  have hd : (putAt l P D s).drop (p + 1).toNat = ((below l p).take m ++ deeper D s ++ (below l p).drop m) ++ l.drop (endOf l p) := by
    have e1 : (putAt l P D s).drop (p + 1).toNat = (l.take P).drop (p + 1).toNat ++ (deeper D s ++ l.drop P) := by
      unfold putAt
      rw [List.append_assoc, List.drop_append_of_le_length (by rw [List.length_take]; have := S.Pl; have := S.p1; omega)]
    have e2 : (l.take P).drop (p + 1).toNat = (below l p).take m := by
      rw [List.drop_take, S.split.1, S.hP, Nat.add_sub_cancel_left, List.take_append_of_le_length (by rw [List.length_take]; have := S.hm; omega), List.take_of_length_le (by rw [List.length_take]; omega)]
    rw [e1, e2, S.split.2]
    simp only [List.append_assoc]
  unfold below
  rw [S.dep_put, hd]
  rw [takeWhile_append_stop _ _ fun y hy => by
    have := (below_split (l := l) p S.h1).2 y hy
    exact decide_eq_false (by omega)]
  show List.takeWhile (fun x => decide (dep l p < x.depth)) ((below l p).take m ++ deeper D s ++ (below l p).drop m) = _
  refine takeWhile_all _ _ fun y hy => ?_
  have hb : ∀ y ∈ below l p, decide (dep l p < y.depth) = true := fun y hy => mem_takeWhile _ _ y hy
  rcases List.mem_append.1 hy with hy | hy
  · rcases List.mem_append.1 hy with hy | hy
    · exact hb y (List.mem_of_mem_take hy)
    · obtain ⟨z, hz, rfl⟩ := List.mem_map.1 hy
      have h1 := Spot.right_put.right_nonneg s 0 hs z hz
      have h2 := S.hD
      refine decide_eq_true ?_
      show dep l p < z.depth + D
      omega
  · exact hb y (List.mem_of_mem_drop hy)
theorem Spot.kids_put {x : Ro} {t : List Ro} (hs : Ro.right (x :: t) = true) : ∃ K : List Nat, kidsAt (putAt l P D (x :: t)) p = K ∧ ∃ a : Nat, at_ = a ∧ ∃ h : a < K.length, K[a] = P := by
  have hx : x.depth = 0 := by
    have h : rightFrom 0 (x :: t) = true := hs
    rw [rightFrom] at h
    simp only [Bool.and_eq_true, decide_eq_true_eq] at h
    omega
  refine ⟨_, rfl, _, S.ha, ?_⟩
  have hk : kidsAt (putAt l P D (x :: t)) p = kidsFrom D (p + 1).toNat ((below l p).take m) ++ P :: kidsFrom D (P + 1) (deeper D t ++ (below l p).drop m) := by
    unfold kidsAt
    rw [if_pos ⟨S.h1, by rw [len_putAt _ _ _ _ S.Pl]; have := S.h2; omega⟩]
    unfold kids
    rw [S.dep_put, S.below_put hs, ← S.hD, List.append_assoc, kidsFrom_append, List.length_take, Nat.min_eq_left S.hm, ← S.hP]
    congr 1
    show kidsFrom D P ({ x with depth := x.depth + D } :: (deeper D t ++ (below l p).drop m)) = _
    exact kids_hit (by show x.depth + D = D; omega)
  rw [hk]
  refine ⟨by rw [List.length_append, List.length_cons]; omega, ?_⟩
  rw [List.getElem_append_right (Nat.le_refl _)]
  simp
theorem Spot.tree_put {x : Ro} {t : List Ro} (hs : Ro.right (x :: t) = true) : P < (putAt l P D (x :: t)).length ∧ takeAt (putAt l P D (x :: t)) P = x :: t.takeWhile (fun y => decide (0 < y.depth)) ∧ dropAt (putAt l P D (x :: t)) P = putAt l P D (t.drop (more 0 t)) := by
  have hx : x.depth = 0 := by
    have h : rightFrom 0 (x :: t) = true := hs
    rw [rightFrom] at h
    simp only [Bool.and_eq_true, decide_eq_true_eq] at h
    omega
  have hPl : P < (putAt l P D (x :: t)).length := by rw [len_putAt _ _ _ _ S.Pl, List.length_cons]; have := S.Pl; omega
  have hd := S.drop_put (x :: t)
  have hd0 : (putAt l P D (x :: t)).drop P = { x with depth := x.depth + D } :: (deeper D t ++ l.drop P) := hd
  have hget : (putAt l P D (x :: t))[P] = { x with depth := x.depth + D } := by
    have := getElem_of_drop hd0
    rw [List.getElem?_eq_getElem hPl] at this
    exact Option.some.inj this
  have hd1 : (putAt l P D (x :: t)).drop (P + 1) = deeper D t ++ l.drop P := by
    have := congrArg (List.drop 1) hd0
    rw [List.drop_drop] at this
    exact this
  have hdep : dep (putAt l P D (x :: t)) P = D := by
    rw [dep_at (List.getElem?_eq_getElem hPl), hget]
    show x.depth + D = D
    omega
  have hbl : below (putAt l P D (x :: t)) P = deeper D (t.takeWhile fun y => decide (0 < y.depth)) := by
    unfold below
    rw [hdep, show ((P : Int) + 1).toNat = P + 1 by omega, hd1, takeWhile_append_stop _ _ fun y hy => decide_eq_false (by have := S.head y hy; omega)]
    have := deeper_takeWhile D 0 t
    rw [Int.zero_add] at this
    exact this
  refine ⟨hPl, ?_, ?_⟩
  · rw [take_form hPl, hbl, hget]
    have e : ({ x with depth := x.depth + D } :: deeper D (t.takeWhile fun y => decide (0 < y.depth))) = deeper D (x :: t.takeWhile fun y => decide (0 < y.depth)) := rfl
    show deeper (-(x.depth + D)) _ = _
    rw [e, hx, Int.zero_add, deeper_back]
  · have hend : endOf (putAt l P D (x :: t)) P = P + 1 + more 0 t := by
      unfold endOf
      rw [hbl, len_deeper, show ((P : Int) + 1).toNat = P + 1 by omega]
      rfl
    show (putAt l P D (x :: t)).take ((P : Nat) : Int).toNat ++ (putAt l P D (x :: t)).drop (endOf (putAt l P D (x :: t)) P) = _
    rw [Int.toNat_natCast, S.take_put, hend, ← List.drop_drop, hd1, List.drop_append_of_le_length (by rw [len_deeper]; exact (List.takeWhile_sublist _).length_le), deeper_drop]
    unfold putAt
    rw [List.append_assoc]
end

/-- The roots, one by one. -/
theorem root_at {s : List Ro} (hr : right s = true) (hl : s.length ≤ 1000) (h0 : 0 < s.length) {K : List Nat} {j r : Nat} (hf : Forest 0 (s.drop r)) (hK : K.drop j = kidsFrom 0 r (s.drop r)) (hj : j < K.length) :
    K[j] = r ∧ ∃ hrl : r < s.length, s.drop r = s[r] :: s.drop (r + 1) ∧ takeAt s r = s[r] :: (s.drop (r + 1)).takeWhile (fun y => decide (0 < y.depth)) ∧ Forest 0 ((s.drop (r + 1)).drop (more 0 (s.drop (r + 1)))) ∧
      K.drop (j + 1) = kidsFrom 0 (r + 1 + more 0 (s.drop (r + 1))) (s.drop (r + 1 + more 0 (s.drop (r + 1)))) ∧ r + 1 + more 0 (s.drop (r + 1)) ≤ s.length ∧ right (s.drop r) = true := by
  have hdp := right_deep hr hl
  have hb := below_all hdp
  have hd0 : dep s (-1) + 1 = 0 := by rw [dep_top]; rfl
  obtain ⟨k1, k2, _, _, k5, k6, k7⟩ := kid_at (i := -1) (m := r) (P := r) hr hl (Int.le_refl _) (by omega) (by show r = 0 + r; omega) (by rw [hd0, hb]; exact hf) (by rw [hd0, hb]; exact hK) hj
  rw [hd0, hb] at k5 k6 k7
  have hdr : s.drop r = s[r] :: s.drop (r + 1) := List.drop_eq_getElem_cons k2
  have hsd : s[r].depth = 0 := hf.2 s[r] (by rw [hdr]; rfl)
  refine ⟨k1, k2, hdr, ?_, by rw [List.drop_drop]; exact k5, k6, k7, ?_⟩
  · rw [take_form k2, hsd]
    have hbr : below s r = (s.drop (r + 1)).takeWhile fun y => decide (0 < y.depth) := by
      unfold below
      rw [dep_at (List.getElem?_eq_getElem k2), hsd, show ((r : Int) + 1).toNat = r + 1 by omega]
    rw [hbr]
    exact deeper_zero _
  · have h1 := right_append (s.take r) (s.drop r) 0
    rw [List.take_append_drop] at h1
    have h2 : rightFrom 0 s = true := hr
    rw [h1, Bool.and_eq_true] at h2
    exact right_head h2.2 fun y hy => by rw [hf.2 y hy]; exact Int.le_refl _
theorem roots_start {s : List Ro} (hr : right s = true) (hl : s.length ≤ 1000) (h0 : 0 < s.length) : Forest 0 (s.drop 0) ∧ (kidsAt s (-1)).drop 0 = kidsFrom 0 0 (s.drop 0) := by
  have hdp := right_deep hr hl
  have hb := below_all hdp
  have hd0 : dep s (-1) + 1 = 0 := by rw [dep_top]; rfl
  have hf := below_forest hr hl (-1) (Int.le_refl _) (by omega)
  rw [hd0, hb] at hf
  refine ⟨hf, ?_⟩
  rw [List.drop_zero, List.drop_zero]
  unfold kidsAt
  rw [if_pos ⟨Int.le_refl _, by omega⟩]
  unfold kids
  rw [hd0, hb]
  rfl

theorem put_not {l : List Ro} {p at_ : Int} {s : List Ro} (h : ¬ (put l p at_ s).1 = 0) : (put l p at_ s).2 = [] := by
  unfold put at h ⊢
  by_cases h1 : elemAt l p = false
  · rw [if_pos h1]
  · rw [if_neg h1] at h ⊢
    by_cases h2 : (placeAt l p at_).2 = false
    · rw [if_pos h2]
    · rw [if_neg h2] at h ⊢
      by_cases h3 : right s = false
      · rw [if_pos h3]
      · rw [if_neg h3] at h ⊢
        by_cases h4 : exceeds s (4096 - l.length) (60 - (dep l p + 1)) = true
        · rw [if_pos h4]
        · rw [if_neg h4] at h
          exact absurd rfl h
theorem put_ok {l : List Ro} {p at_ : Int} {s : List Ro} (hl : check l = 0) (hll : l.length ≤ 500) (h : (put l p at_ s).1 = 0) :
    ∃ P m, Spot l p at_ P (dep l p + 1) m ∧ right s = true ∧ (put l p at_ s).2 = putAt l P (dep l p + 1) s ∧ check (putAt l P (dep l p + 1) s) = 0 := by
  obtain ⟨hx, hr⟩ := check_parts hl
  unfold put at h ⊢
  by_cases h1 : elemAt l p = false
  · rw [if_pos h1] at h; exact absurd h (by decide)
  · rw [if_neg h1] at h ⊢
    by_cases h2 : (placeAt l p at_).2 = false
    · rw [if_pos h2] at h; exact absurd h (by decide)
    · rw [if_neg h2] at h ⊢
      by_cases h3 : right s = false
      · rw [if_pos h3] at h; exact absurd h (by decide)
      · rw [if_neg h3] at h ⊢
        by_cases h4 : exceeds s (4096 - l.length) (60 - (dep l p + 1)) = true
        · rw [if_pos h4] at h; exact absurd h (by decide)
        · rw [if_neg h4]
          obtain ⟨e1, e2⟩ := elem_in h1
          have hs : right s = true := by simpa using h3
          obtain ⟨m, hm, hP, hf, ha⟩ := place_facts hr (by omega) e1 e2 (by simpa using h2)
          have S : Spot l p at_ ((p + 1).toNat + m) (dep l p + 1) m := ⟨hr, hll, e1, e2, by simpa using h1, rfl, hm, rfl, hf, ha⟩
          refine ⟨_, m, S, hs, ?_, check_of ?_ (S.right_put hs)⟩
          · rw [hP, Int.toNat_natCast]; rfl
          · unfold putAt
            rw [exceeds_out hx S.Pl]
            simpa using h4
theorem few_putAt {l s : List Ro} (hl : Few l) (hs : Few s) (P : Nat) (D : Int) : Few (putAt l P D s) := fun y hy => by
  rcases List.mem_append.1 hy with hy | hy
  · rcases List.mem_append.1 hy with hy | hy
    · exact hl y (List.mem_of_mem_take hy)
    · obtain ⟨z, hz, rfl⟩ := List.mem_map.1 hy
      exact hs z hz
  · exact hl y (List.mem_of_mem_drop hy)
theorem roots_any {s : List Ro} (hr : right s = true) (hl : s.length ≤ 1000) : Forest 0 (s.drop 0) ∧ (kidsAt s (-1)).drop 0 = kidsFrom 0 0 (s.drop 0) := by
  by_cases h0 : 0 < s.length
  · exact roots_start hr hl h0
  · have : s = [] := List.eq_nil_of_length_eq_zero (by omega)
    subst this
    exact ⟨⟨(fun y hy => by simp at hy), (fun y hy => by simp at hy)⟩, rfl⟩
theorem right_tail {s : List Ro} (hr : right s = true) {r : Nat} (hf : Forest 0 (s.drop r)) : right (s.drop r) = true := by
  have h1 := right_append (s.take r) (s.drop r) 0
  rw [List.take_append_drop] at h1
  have h2 : rightFrom 0 s = true := hr
  rw [h1, Bool.and_eq_true] at h2
  exact right_head h2.2 fun y hy => by rw [hf.2 y hy]; exact Int.le_refl _
/-- One round: what is at the place, taken and dropped. -/
theorem back_step {l : List Ro} {p at_ : Int} {P : Nat} {D : Int} {m : Nat} (S : Spot l p at_ P D m) {s : List Ro} (hr : right s = true) (hl : s.length ≤ 500) {K : List Nat} {j r : Nat} (hf : Forest 0 (s.drop r)) (hK : K.drop j = kidsFrom 0 r (s.drop r)) (hj : j < K.length) :
    K[j] = r ∧ r < s.length ∧ (∃ Kp : List Nat, kidsAt (putAt l P D (s.drop r)) p = Kp ∧ ∃ a : Nat, at_ = a ∧ ∃ h : a < Kp.length, Kp[a] = P) ∧ P < (putAt l P D (s.drop r)).length ∧ takeAt (putAt l P D (s.drop r)) P = takeAt s r ∧
      ∃ r', r' ≤ s.length ∧ dropAt (putAt l P D (s.drop r)) P = putAt l P D (s.drop r') ∧ Forest 0 (s.drop r') ∧ K.drop (j + 1) = kidsFrom 0 r' (s.drop r') := by
  have h0 : 0 < s.length := by
    cases s with
    | nil => rw [List.drop_nil] at hK; rw [List.drop_eq_getElem_cons hj] at hK; cases hK
    | cons x t => simp
  obtain ⟨k1, k2, k3, k4, k5, k6, k7, k8⟩ := root_at hr (by omega) h0 hf hK hj
  rw [k3] at k8
  obtain ⟨t1, t2, t3⟩ := S.tree_put k8
  have kp := S.kids_put k8
  rw [← k3] at t1 t2 t3 kp
  rw [List.drop_drop] at k5 t3
  exact ⟨k1, k2, kp, t1, by rw [t2, k4], _, k7, t3, k5, k6⟩

theorem put1 (v u : Value) (x y : List Cw) (p at_ : Int) (w : World) (E : Int) (q : List Ro) (h : Rv w v x) (h2 : Rv w u y) (hl : x.length ≤ 100) (hl2 : y.length ≤ 100) (hf : Few (ros x)) (hf2 : Few (ros y)) (hc : check (ros x) = 0) (hE : (put (ros x) p at_ (ros y)).1 = E) (hq : (put (ros x) p at_ (ros y)).2 = q) :
    Calls Try.prog 28 #[v, .int .i64 p, .int .i64 at_, u] w fun e w' => ∃ t z, e = .returned (.tuple #[t, .int .i64 E]) ∧ Ow w.heap.size w' t z ∧ (∀ x ∈ z, Fr w.heap.size w' x) ∧ ros z = q ∧ z.length = q.length ∧ Rv w' t z ∧ Below w.heap.size w w' := by
  obtain ⟨A, c, rfl, hc1, hm, hrr, hh⟩ := h
  obtain ⟨B, d, rfl, hd1, hm2, hrr2, hh2⟩ := h2
  subst hE
  have hr := (check_parts hc).2
  refine (Put_any A B c d x y p at_ w hrr hrr2 hc1 hd1 (by omega) (by omega) hf hf2 (right_deep hr (by rw [len_ros]; omega))).mono ?_
  rintro e w1 ⟨t, z, rfl, ho, hfr, hz, hb⟩
  rw [hq] at hz
  have hheld : Held (ros z) := by
    rw [hz, ← hq]
    by_cases h0 : (put (ros x) p at_ (ros y)).1 = 0
    · obtain ⟨P, m, S, hs, he, hck⟩ := put_ok hc (by rw [len_ros]; omega) h0
      rw [he]
      refine held_deep (right_deep (S.right_put hs) ?_)
      rw [len_putAt _ _ _ _ S.Pl, len_ros, len_ros]
      omega
    · rw [put_not h0]; exact fun y hy => by cases hy
  exact ⟨t, z, rfl, ho, hfr, hz, by rw [← len_ros, hz], ho.rv hheld, hb⟩

end Go.Proofs.Ytblefklfgaohfaa.Ro
