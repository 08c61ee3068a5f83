/-
  Stage 4: the contracts, over values that read as rows (Rv).
-/
import Derived.Test.YtblefklfgaohfaaRowLawsA
namespace Go.Proofs.Ytblefklfgaohfaa.Ro
set_option linter.unusedVariables false
set_option linter.unusedSimpArgs false
open Go.RowKit Ba

theorem Rv.below {w w' : World} {v : Value} {l : List Cw} (h : Rv w v l) (hb : Below w.heap.size w w') : Rv w' v l := by
  obtain ⟨A, c, e, h1, h2, h3, h4⟩ := h
  exact ⟨A, c, e, h1, h2, (h3.below hb).more hb.size, h4⟩
theorem Ow.rv {N : Nat} {w : World} {v : Value} {l : List Cw} (h : Ow N w v l) (hh : Held (ros l)) : Rv w v l := by
  obtain ⟨A, c, e, h1, h2, _, h3⟩ := h.form
  exact ⟨A, c, e, h1, h2, h3, hh⟩
theorem deep_right : ∀ (l : List Ro) (m : Int), rightFrom m l = true → m ≤ 1000 → l.length ≤ 1000 → ∀ x ∈ l, 0 ≤ x.depth ∧ x.depth ≤ m + l.length
  | [], _, _, _, _, x, h => by cases h
  | y :: r, m, h, hm, hl, x, hx => by
    rw [rightFrom] at h
    simp only [Bool.and_eq_true, decide_eq_true_eq] at h
    obtain ⟨⟨⟨h1, h2⟩, _⟩, h4⟩ := h
    rcases List.mem_cons.1 hx with rfl | hx
    · exact ⟨h1, by omega⟩
    · rw [List.length_cons] at hl ⊢
      by_cases hk : y.kind = 0
      · rw [if_pos hk] at h4
        by_cases hm2 : y.depth + 1 ≤ 1000
        · have := deep_right r _ h4 hm2 (by omega) x hx
          exact ⟨this.1, by omega⟩
        · have := deep_all r _ h4 x hx
          exact ⟨this.1, by omega⟩
      · rw [if_neg hk] at h4
        have := deep_right r _ h4 (by omega) (by omega) x hx
        exact ⟨this.1, by omega⟩
where
  deep_all : ∀ (l : List Ro) (m : Int), rightFrom m l = true → ∀ x ∈ l, 0 ≤ x.depth ∧ x.depth ≤ m + l.length
    | [], _, _, x, h => by cases h
    | y :: r, m, h, x, hx => by
      rw [rightFrom] at h
      simp only [Bool.and_eq_true, decide_eq_true_eq] at h
      obtain ⟨⟨⟨h1, h2⟩, _⟩, h4⟩ := h
      rcases List.mem_cons.1 hx with rfl | hx
      · exact ⟨h1, by omega⟩
      · rw [List.length_cons]
        have := deep_all r _ h4 x hx
        by_cases hk : y.kind = 0
        · rw [if_pos hk] at this
          exact ⟨this.1, by omega⟩
        · rw [if_neg hk] at this
          exact ⟨this.1, by omega⟩
theorem right_deep {l : List Ro} (h : right l = true) (hl : l.length ≤ 1000) : Deep l := fun x hx => by
  have := deep_right l 0 h (by omega) hl x hx
  exact ⟨this.1, by omega⟩
theorem deep_dep {l : List Ro} (h : Deep l) (i : Int) : dep l i ≤ 1000000000 ∧ -1000000000 ≤ dep l i := by
  unfold dep
  split
  · omega
  · cases he : l[i.toNat]? with
    | none => simp
    | some x =>
      have := h x (List.mem_of_getElem? he)
      simp
      omega
theorem txt_cut (l : List Ro) (i j : Nat) : (txt ((l.take j).drop i)).length ≤ (txt l).length := Nat.le_trans (txt_drop _ _) (txt_take _ _)
theorem txt_bounded (l : List Ro) : (txt (bounded l)).length ≤ (txt l).length := by
  have e : ∀ m : List Ro, txt (m.map fun x => { x with attrs := x.attrs.take 8 }) = txt m := by
    intro m
    induction m with
    | nil => rfl
    | cons x r ih => rw [List.map_cons, txt, txt, ih]
  rw [bounded, e]
  exact txt_take l 60

theorem bound1 (v : Value) (a : List Cw) (w : World) (h : Rv w v a) :
    Calls Try.prog 11 #[v] w fun e w' => ∃ v' x, e = .returned v' ∧ Ow w.heap.size w' v' x ∧ Rv w' v' x ∧ ros x = bounded (ros a) ∧ x.length ≤ 60 ∧ Few (ros x) ∧ Held (ros x) ∧ Below w.heap.size w w' := by
  obtain ⟨A, c, rfl, hc, hm, hr, hh⟩ := h
  refine (bound_any A c a w hr hc hm).mono ?_
  rintro e w1 ⟨v1, x, rfl, ho, _, hx, hb⟩
  have h60 : x.length ≤ 60 := by rw [← len_ros, hx]; exact short_bounded _
  have hd : Held (ros x) := by rw [hx]; exact held_bounded hh
  exact ⟨v1, x, rfl, ho, ho.rv hd, hx, h60, by rw [hx]; exact few_bounded _, hd, hb⟩
theorem refRight1 (v : Value) (x : List Cw) (w : World) (q : Bool) (h : Rv w v x) (hl : x.length ≤ 1000) (hq : right (ros x) = q) :
    Calls Try.prog 18 #[v] w fun e w' => e = .returned (.bool q) ∧ Below w.heap.size w w' := by
  obtain ⟨A, c, rfl, hc, hm, hr, hh⟩ := h
  subst hq
  exact refRight_any A c x w hr hc (by omega)
theorem check1 (v : Value) (x : List Cw) (w : World) (q : Int) (h : Rv w v x) (hl : x.length ≤ 1000) (hq : check (ros x) = q) :
    Calls Try.prog 13 #[v] w fun e w' => e = .returned (.int .i64 q) ∧ Below w.heap.size w w' := by
  obtain ⟨A, c, rfl, hc, hm, hr, hh⟩ := h
  subst hq
  exact Check_any A c x w hr hc (by omega)
theorem refCheck1 (v : Value) (x : List Cw) (w : World) (q : Int) (h : Rv w v x) (hl : x.length ≤ 1000) (hq : check (ros x) = q) :
    Calls Try.prog 14 #[v] w fun e w' => e = .returned (.int .i64 q) ∧ Below w.heap.size w w' := by
  obtain ⟨A, c, rfl, hc, hm, hr, hh⟩ := h
  subst hq
  exact refCheck_any A c x w hr hc (by omega)
theorem end1 (v : Value) (x : List Cw) (i : Int) (w : World) (q : Nat) (h : Rv w v x) (hl : x.length ≤ 1000) (hq : endAt (ros x) i = q) :
    Calls Try.prog 19 #[v, .int .i64 i] w fun e w' => e = .returned (.int .i64 q) ∧ w = w' := by
  obtain ⟨A, c, rfl, hc, hm, hr, hh⟩ := h
  subst hq
  exact End_any A c x i w hr hc (by omega)
theorem refEnd1 (v : Value) (x : List Cw) (i : Int) (w : World) (q : Nat) (h : Rv w v x) (hl : x.length ≤ 1000) (hq : endAt (ros x) i = q) :
    Calls Try.prog 20 #[v, .int .i64 i] w fun e w' => e = .returned (.int .i64 q) ∧ Below w.heap.size w w' := by
  obtain ⟨A, c, rfl, hc, hm, hr, hh⟩ := h
  subst hq
  exact (refEnd_any A c x i w hr hc (by omega)).mono fun e w' ⟨he, n, hn⟩ => ⟨he, by rw [hn]; exact Ba.below_drewN w n⟩
theorem parent1 (v : Value) (x : List Cw) (i : Int) (w : World) (q : Int) (h : Rv w v x) (hl : x.length ≤ 1000) (hq : parent (ros x) i = q) :
    Calls Try.prog 21 #[v, .int .i64 i] w fun e w' => e = .returned (.int .i64 q) ∧ Below w.heap.size w w' := by
  obtain ⟨A, c, rfl, hc, hm, hr, hh⟩ := h
  subst hq
  exact (Parent_any A c x i w hr hc (by omega)).mono fun e w' ⟨he, n, hn⟩ => ⟨he, by rw [hn]; exact Ba.below_drewN w n⟩
theorem refParent1 (v : Value) (x : List Cw) (i : Int) (w : World) (q : Int) (h : Rv w v x) (hl : x.length ≤ 1000) (hr : right (ros x) = true) (hq : parent (ros x) i = q) :
    Calls Try.prog 22 #[v, .int .i64 i] w fun e w' => e = .returned (.int .i64 q) ∧ Below w.heap.size w w' := by
  obtain ⟨A, c, rfl, hc, hm, hrr, hh⟩ := h
  subst hq
  rw [← parent_ref hr]
  exact (refParent_any A c x i w hrr hc (by omega) (right_deep hr (by rw [len_ros]; exact hl))).mono fun e w' ⟨he, n, hn⟩ => ⟨he, by rw [hn]; exact Ba.below_drewN w n⟩
/-- The kids of a node that there is; else none. -/
def kidsAt (l : List Ro) (i : Int) : List Nat := if -1 ≤ i ∧ i < l.length then kids l i else []
theorem Nw.nil (N : Nat) (w : World) : Nw N w (.slice none 0 0) [] := World.ownsRow_nil w N _ 1
theorem kids1 (v : Value) (x : List Cw) (i : Int) (w : World) (q : List Nat) (h : Rv w v x) (hl : x.length ≤ 1000) (hr : right (ros x) = true) (hq : kidsAt (ros x) i = q) :
    Calls Try.prog 24 #[v, .int .i64 i] w fun e w' => ∃ u, e = .returned u ∧ Nw w.heap.size w' u q ∧ Below w.heap.size w w' := by
  obtain ⟨A, c, rfl, hc, hm, hrr, hh⟩ := h
  subst hq
  rw [kidsAt, len_ros]
  by_cases hi : -1 ≤ i ∧ i < x.length
  · rw [if_pos hi]
    have hd := deep_dep (right_deep hr (by rw [len_ros]; exact hl)) i
    exact Kids_any A c x i w hrr hc (by omega) hi.1 hi.2 hd.1 hd.2
  · rw [if_neg hi]
    exact (KidsOut_any A x.length c i w hc (by omega) hi).mono fun e w' ⟨he, hw⟩ => ⟨_, he, Nw.nil _ _, by rw [hw]; exact Below.refl _ _⟩
theorem refKids1 (v : Value) (x : List Cw) (i : Int) (w : World) (q : List Nat) (h : Rv w v x) (hl : x.length ≤ 1000) (hr : right (ros x) = true) (hq : kidsAt (ros x) i = q) :
    Calls Try.prog 25 #[v, .int .i64 i] w fun e w' => ∃ u, e = .returned u ∧ Nw w.heap.size w' u q ∧ Below w.heap.size w w' := by
  obtain ⟨A, c, rfl, hc, hm, hrr, hh⟩ := h
  subst hq
  rw [kidsAt, len_ros]
  by_cases hi : -1 ≤ i ∧ i < x.length
  · rw [if_pos hi]
    exact refKids_any A c x i w hrr hc (by omega) hi.1 hi.2 (right_deep hr (by rw [len_ros]; exact hl))
  · rw [if_neg hi]
    exact (refKidsOut_any A x.length c i w hc (by omega) hi).mono fun e w' ⟨he, hw⟩ => ⟨_, he, by rw [hw]; exact Nw.made w, by rw [hw]; exact below_new w _⟩
theorem nums1 (a b : Value) (xs : List Nat) (w : World) (N M : Nat) (ha : Nw N w a xs) (hb : Nw M w b xs) :
    Calls Try.prog 23 #[a, b] w fun e w' => e = .returned (.bool true) ∧ Below w.heap.size w w' := by
  obtain ⟨A, ca, rfl, h1, h2, h3⟩ := ha.form
  obtain ⟨B, cb, rfl, h4, h5, h6⟩ := hb.form
  have k := nums_any A B ca cb xs xs w h3 h6 h1 h4 h2 h5
  rw [decide_eq_true rfl] at k
  exact k.mono fun e w' ⟨he, n, hn⟩ => ⟨he, by rw [hn]; exact Ba.below_drewN w n⟩
theorem text1 (v : Value) (x : List Cw) (i : Int) (w : World) (q : ByteArray) (h : Rv w v x) (hl : x.length ≤ 1000) (ht : (txt (ros x)).length ≤ 1000000000) (hq : B (textAt (ros x) i) = q) :
    Calls Try.prog 26 #[v, .int .i64 i] w fun e w' => e = .returned (.string q) ∧ Below w.heap.size w w' := by
  obtain ⟨A, c, rfl, hc, hm, hrr, hh⟩ := h
  subst hq
  exact Text_any A c x i w hrr hc (by omega) ht
theorem refText1 (v : Value) (x : List Cw) (i : Int) (w : World) (q : ByteArray) (h : Rv w v x) (hl : x.length ≤ 1000) (ht : (txt (ros x)).length ≤ 1000000000) (hq : B (textAt (ros x) i) = q) :
    Calls Try.prog 27 #[v, .int .i64 i] w fun e w' => e = .returned (.string q) ∧ Below w.heap.size w w' := by
  obtain ⟨A, c, rfl, hc, hm, hrr, hh⟩ := h
  subst hq
  exact refText_any A c x i w hrr hc (by omega) ht
theorem same1 (a b : Value) (x y : List Cw) (w : World) (q : Bool) (ha : Rv w a x) (hb : Rv w b y) (hx : x.length ≤ 1000) (hy : y.length ≤ 1000) (hq : decide (ros x = ros y) = q) :
    Calls Try.prog 15 #[a, b] w fun e w' => e = .returned (.bool q) ∧ Below w.heap.size w w' := by
  obtain ⟨A, c, rfl, hc, hm, hr, _⟩ := ha
  obtain ⟨B, d, rfl, hd, hm2, hr2, _⟩ := hb
  subst hq
  exact Same_any A B c d x y w hr hr2 hc hd (by omega) (by omega)
theorem refSame1 (a b : Value) (x y : List Cw) (w : World) (q : Bool) (ha : Rv w a x) (hb : Rv w b y) (hx : x.length ≤ 1000) (hy : y.length ≤ 1000) (hq : decide (ros x = ros y) = q) :
    Calls Try.prog 16 #[a, b] w fun e w' => e = .returned (.bool q) ∧ Below w.heap.size w w' := by
  obtain ⟨A, c, rfl, hc, hm, hr, _⟩ := ha
  obtain ⟨B, d, rfl, hd, hm2, hr2, _⟩ := hb
  subst hq
  exact refSame_any A B c d x y w hr hr2 hc hd (by omega) (by omega)
theorem moved0 (v : Value) (x : List Cw) (w : World) (h : Rv w v x) (hl : x.length ≤ 1000) (hf : Few (ros x)) :
    Calls Try.prog 17 #[v, .int .i64 0] w fun e w' => ∃ u y, e = .returned u ∧ Ow w.heap.size w' u y ∧ (∀ z ∈ y, Fr w.heap.size w' z) ∧ ros y = ros x ∧ y.length = x.length ∧ Rv w' u y ∧ Below w.heap.size w w' := by
  obtain ⟨A, c, rfl, hc, hm, hr, hh⟩ := h
  refine (Moved_any A c x 0 w hr hc (by omega) hf hh.fits).mono ?_
  rintro e w1 ⟨u, y, rfl, ho, hfr, hy, hb⟩
  rw [deeper_zero] at hy
  exact ⟨u, y, rfl, ho, hfr, hy, by rw [← len_ros, hy, len_ros], ho.rv (by rw [hy]; exact hh), hb⟩
theorem normal1 (v : Value) (x : List Cw) (w : World) (q : List Ro) (h : Rv w v x) (hl : x.length ≤ 1000) (hf : Few (ros x)) (ht : (txt (ros x)).length ≤ 1000000000) (hq : normal (ros x) = q) (hhq : Held q) :
    Calls Try.prog 33 #[v] w fun e w' => ∃ u y, e = .returned u ∧ Ow w.heap.size w' u y ∧ (∀ z ∈ y, Fr w.heap.size w' z) ∧ ros y = q ∧ Rv w' u y ∧ Below w.heap.size w w' := by
  obtain ⟨A, c, rfl, hc, hm, hr, hh⟩ := h
  refine (Normal_any A c x w hr hc (by omega) ht hf hh).mono ?_
  rintro e w1 ⟨u, y, rfl, ho, hfr, hy, hb⟩
  rw [hq] at hy
  exact ⟨u, y, rfl, ho, hfr, hy, ho.rv (by rw [hy]; exact hhq), hb⟩
theorem refNormal1 (v : Value) (x : List Cw) (w : World) (q : List Ro) (h : Rv w v x) (hl : x.length ≤ 1000) (hf : Few (ros x)) (ht : (txt (ros x)).length ≤ 1000000000) (hr : right (ros x) = true) (hq : normal (ros x) = q) (hhq : Held q) :
    Calls Try.prog 34 #[v] w fun e w' => ∃ u y, e = .returned u ∧ ros y = q ∧ Rv w' u y ∧ Below w.heap.size w w' := by
  obtain ⟨A, c, rfl, hc, hm, hrr, hh⟩ := h
  refine (refNormal_any A c x w hrr hc (by omega) ht hf hh).mono ?_
  rintro e w1 ⟨u, y, rfl, ho, hy, hb⟩
  rw [normal_ref hr, hq] at hy
  exact ⟨u, y, rfl, hy, ho.rv (by rw [hy]; exact hhq), hb⟩
theorem eqstr (q : ByteArray) : (q.toList == q.toList) = true := by simp

end Go.Proofs.Ytblefklfgaohfaa.Ro
