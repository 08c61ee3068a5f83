/-
  Walks of stage 4: placeOf.
-/
import Derived.Test.YtblefklfgaohfaaRowWalkO
import Derived.Shelf.RegionOpen
namespace Go.Proofs.Ytblefklfgaohfaa.Ro
set_option linter.unusedVariables false
set_option linter.unusedSimpArgs false
open Go.RowKit Ba Go.Shelf

attribute [local go_sem] Oper.semAt_some

theorem below_dN2 {B : Nat} {w w' : World} (h : Below B w w') (n : Nat) : Below B w (w'.drewN n) := ⟨h.1, h.2, h.3, h.4, h.5⟩
theorem box_own {W W' : World} {B n : Nat} {t : TypeId} {v : Value} {row : Option Nat} (h : Boxed W B t v) (hg : W.grownBy W' row) (hr : ∀ r, row = some r → n ≤ r ∧ ∃ o : Obj, W.heap[r]? = some o ∧ o.isCells = false) : Boxed W' B t v :=
  h.kept hg fun e => by
    obtain ⟨_, o, ho, hc⟩ := hr B e.symm
    rw [show W.heap[B]? = _ from h] at ho
    cases ho
    cases hc

/-- Where the kid of that number stands, or the next one behind all kids would. -/
def placeAt (l : List Ro) (i at_ : Int) : Int × Bool :=
  if 0 ≤ at_ ∧ at_ < (kids l i).length then (((kids l i)[at_.toNat]?.getD 0 : Nat), true) else (endOf l i, decide (((kids l i).length : Int) = at_))

/-- What the rounds leave: the boxes of the number that is sought, the results, and the count. -/
def Pl (w : World) (at_ : Int) (pre : List Nat) (W : World) : Prop :=
  Boxed W (w.heap.size) 3 (.int .i64 at_) ∧ Boxed W (w.heap.size + 1) 3 (.int .i64 0) ∧ Boxed W (w.heap.size + 1 + 1) 4 (.bool false) ∧ Boxed W (w.heap.size + 1 + 1 + 1) 3 (.int .i64 (pre.length : Nat)) ∧ Below w.heap.size w W ∧ w.heap.size + 1 + 1 + 1 + 1 + 1 + 1 ≤ W.heap.size ∧ ¬ (0 ≤ at_ ∧ at_ < pre.length)
def Px (w : World) (at_ : Int) (c : Code) (pre : List Nat) (W : World) : Prop :=
  c = .ret ∧ ∃ q x, pre = q ++ [x] ∧ at_ = (q.length : Nat) ∧ Boxed W (w.heap.size + 1) 3 (.int .i64 (x : Nat)) ∧ Boxed W (w.heap.size + 1 + 1) 4 (.bool true) ∧ Below w.heap.size w W
theorem Pl.own (w : World) (at_ : Int) (n : Nat) (hn : w.heap.size ≤ n) : OwnFrom n (Pl w at_) := fun s W W' row hs hg hr =>
  ⟨box_own hs.1 hg hr, box_own hs.2.1 hg hr, box_own hs.2.2.1 hg hr, box_own hs.2.2.2.1 hg hr, hs.2.2.2.2.1.grown hg hs.2.2.2.2.1.size (fun k hk => Nat.le_trans hn (hr k hk).1), Nat.le_trans hs.2.2.2.2.2.1 hg.size, hs.2.2.2.2.2.2⟩
theorem Px.own (w : World) (at_ : Int) (c : Code) (n : Nat) (hn : w.heap.size ≤ n) : OwnFrom n (Px w at_ c) := fun s W W' row hs hg hr => by
  obtain ⟨hc, q, x, e1, e2, h1, h2, h3⟩ := hs
  exact ⟨hc, q, x, e1, e2, box_own h1 hg hr, box_own h2 hg hr, h3.grown hg h3.size (fun k hk => Nat.le_trans hn (hr k hk).1)⟩
theorem box_other {W : World} {B : Nat} {t : TypeId} {v u : Value} {b : Nat} (h : Boxed W B t v) (hne : B ≠ b) : Boxed (W.setCell ⟨b, 0, none⟩ u) B t v := (Below.heap_setCell W ⟨b, 0, none⟩ u B hne).trans h

/-- It goes on, or nothing is said. -/
def okOnly (K : Act → World → Prop) : Exit → Act → World → Prop
  | .normal, a, w => K a w
  | _, _, _ => False
theorem wpIn_then {F : Fence} {n : Nat} {P : Program} {c : Code} {K : Act → World → Prop} {Q : Exit → Act → World → Prop} {a : Act} {w : World} (h : c.wpIn F n P (okOnly K) a w) : c.wpIn F n P (Exit.then K Q) a w :=
  wpIn_mono h fun e a w h => by
    cases e
    case normal => exact h
    all_goals exact h.elim

set_option maxRecDepth 100000 in
set_option maxHeartbeats 2000000 in
theorem placeOf_any (A : Option Addr) (c : Nat) (l : List Cw) (i at_ : Int) (w : World) (hr : Rr w w.heap.size A l) (hc : l.length ≤ c) (hm : l.length ≤ 1000000) (h1 : -1 ≤ i) (h2 : i < l.length) (hd1 : dep (ros l) i ≤ 1000000000) (hd2 : -1000000000 ≤ dep (ros l) i) :
    Calls Try.prog 46 #[.slice A l.length c, .int .i64 i, .int .i64 at_] w fun e w' => e = .returned (.tuple #[.int .i64 (placeAt (ros l) i at_).1, .bool (placeAt (ros l) i at_).2]) ∧ Below w.heap.size w w' := by
  have hkl := kids_le (ros l) i
  rw [len_ros] at hkl
  have x0 := Boxed.new w 3 (.int .i64 at_)
  replace x0 := Lib.hid (((((x0.alloc (.cells #[.int .i64 0] 3)).alloc (.cells #[.bool false] 4)).alloc (.cells #[.int .i64 0] 3)).alloc (.cells #[.slice A l.length c] 22)).alloc (.cells #[.int .i64 i] 3))
  have x1 := Boxed.new (w.alloc (.cells #[.int .i64 at_] 3)) 3 (.int .i64 0)
  rw [World.size_alloc] at x1
  replace x1 := Lib.hid ((((x1.alloc (.cells #[.bool false] 4)).alloc (.cells #[.int .i64 0] 3)).alloc (.cells #[.slice A l.length c] 22)).alloc (.cells #[.int .i64 i] 3))
  have x2 := Boxed.new ((w.alloc (.cells #[.int .i64 at_] 3)).alloc (.cells #[.int .i64 0] 3)) 4 (.bool false)
  rw [World.size_alloc, World.size_alloc] at x2
  replace x2 := Lib.hid (((x2.alloc (.cells #[.int .i64 0] 3)).alloc (.cells #[.slice A l.length c] 22)).alloc (.cells #[.int .i64 i] 3))
  have x3 := Boxed.new (((w.alloc (.cells #[.int .i64 at_] 3)).alloc (.cells #[.int .i64 0] 3)).alloc (.cells #[.bool false] 4)) 3 (.int .i64 0)
  rw [World.size_alloc, World.size_alloc, World.size_alloc] at x3
  replace x3 := Lib.hid ((x3.alloc (.cells #[.slice A l.length c] 22)).alloc (.cells #[.int .i64 i] 3))
  have x4 := Boxed.new ((((w.alloc (.cells #[.int .i64 at_] 3)).alloc (.cells #[.int .i64 0] 3)).alloc (.cells #[.bool false] 4)).alloc (.cells #[.int .i64 0] 3)) 22 (.slice A l.length c)
  rw [World.size_alloc, World.size_alloc, World.size_alloc, World.size_alloc] at x4
  replace x4 := Lib.hid (x4.alloc (.cells #[.int .i64 i] 3))
  have x5 := Boxed.new (((((w.alloc (.cells #[.int .i64 at_] 3)).alloc (.cells #[.int .i64 0] 3)).alloc (.cells #[.bool false] 4)).alloc (.cells #[.int .i64 0] 3)).alloc (.cells #[.slice A l.length c] 22)) 3 (.int .i64 i)
  rw [World.size_alloc, World.size_alloc, World.size_alloc, World.size_alloc, World.size_alloc] at x5
  replace x5 := Lib.hid x5
  have hB0 := ((((((below_new w (.cells #[.int .i64 at_] 3)).alloc (by simp <;> omega) (.cells #[.int .i64 0] 3)).alloc (by simp <;> omega) (.cells #[.bool false] 4)).alloc (by simp <;> omega) (.cells #[.int .i64 0] 3)).alloc (by simp <;> omega) (.cells #[.slice A l.length c] 22)).alloc (by simp <;> omega) (.cells #[.int .i64 i] 3))
  have HR := Lib.hid (hr.below hB0)
  have HB0 := Lib.hid hB0
  clear hB0
  refine (callsIn_wide (n := 3)).1 ?_
  refine callsIn_of_wp_marks Try.func46 rfl trivial ?_ rfl
  simp only [Try.ntmps46, List.size_toArray, List.length_cons, List.length_nil, Nat.reduceAdd, Nat.reduceSub, Array.replicate_succ, Array.replicate_zero, List.push_toArray, List.append_toArray, List.nil_append, List.cons_append]
  gi_wp2_with (refine ⟨trivial, ?_⟩; gi_at_call 44; refine (callsIn_wide.2 (kidsOf_any A _ c i _)).mono ?_; rintro e w' ⟨rfl, rfl⟩)
  refine wpIn_rangeFunc_ownG rfl (by omega) (gf := 52) (lb := #[.pointer (some ⟨w.heap.size + 1 + 1 + 1 + 1, 0, none⟩), .pointer (some ⟨w.heap.size + 1 + 1 + 1 + 1 + 1, 0, none⟩)]) rfl trivial (enters_of Try.func52 (by kernel_rfl) rfl)
    (kids_stops (3 - 1) (by omega) (w.heap.size + 1 + 1 + 1 + 1) (w.heap.size + 1 + 1 + 1 + 1 + 1) w.heap.size A c l i hc hm h1 h2 hd1 hd2 _ (by simp <;> omega) x4.out x5.out HR.out) Kp.t (Kp.b (by simp <;> omega) (by simp <;> omega) (by simp <;> omega)) (Below.refl _ _) (fun _ => rfl)
    (Pl w at_) (Px w at_) (Pl.own w at_ _ (by simp <;> omega)) (fun c => Px.own w at_ c _ (by simp <;> omega))
    ⟨x0.out, x1.out, x2.out, x3.out, HB0.out, by simp, by simp <;> omega⟩
    (fun x => { tmps := #[.slice A l.length c, .int .i64 i, .int .i64 at_, undef, undef, .pointer (some ⟨w.heap.size, 0, none⟩), .pointer (some ⟨w.heap.size + 1, 0, none⟩), .pointer (some ⟨w.heap.size + 1 + 1, 0, none⟩), .pointer (some ⟨w.heap.size + 1 + 1 + 1, 0, none⟩), .int .i64 (x : Nat), .slice A l.length c, .int .i64 i, .func (.func 52) #[] #[.pointer (some ⟨w.heap.size + 1 + 1 + 1 + 1, 0, none⟩), .pointer (some ⟨w.heap.size + 1 + 1 + 1 + 1 + 1, 0, none⟩)], .int .i64 (x : Nat), undef, undef, undef, undef, undef, undef, undef, undef, undef, undef, undef, undef], defers := [] }) ?assign ?body ?done ?stop
  case assign =>
    intro l x W K hK
    gi_wp2
    exact hK
  case body =>
    rintro lp pre x W ⟨b0, b1, b2, b3, hB, hsz, hno⟩ hlt
    have c0 := b0.cell
    have c1 := b1.cell
    have c2 := b2.cell
    have c3 := b3.cell
    have f1 := b1.frozen
    have f2 := b2.frozen
    have f3 := b3.frozen
    have hpl : (pre.length : Int) ≤ 1000000 := by omega
    cases he : (pre.length : Int) == at_ with
    | true =>
      have HE := Lib.hid (beq_iff_eq.1 he)
      gi_wp2
      exact ⟨((KeepsOthers.setCell _ _ _).trans (KeepsOthers.setCell _ _ _)).from _, rfl, pre, x, rfl, HE.out.symm, box_other (b1.set _) (by omega), (box_other b2 (by omega)).set _, (hB.setCell (p := ⟨w.heap.size + 1, 0, none⟩) (by show w.heap.size ≤ w.heap.size + 1; omega) _).setCell (p := ⟨w.heap.size + 1 + 1, 0, none⟩) (by show w.heap.size ≤ w.heap.size + 1 + 1; omega) _⟩
    | false =>
      have HE := Lib.hid (beq_eq_false_iff_ne.1 he)
      gi_wp2
      exact ⟨(KeepsOthers.setCell _ _ _).from _, ⟨(Below.refl _ _).setCell (p := ⟨w.heap.size + 1 + 1 + 1, 0, none⟩) (by show w.heap.size ≤ w.heap.size + 1 + 1 + 1; omega) _, Below.heap_setCell W ⟨w.heap.size + 1 + 1 + 1, 0, none⟩ _ (w.heap.size + 1 + 1 + 1 + 1) (by show w.heap.size + 1 + 1 + 1 + 1 ≠ w.heap.size + 1 + 1 + 1; omega), Below.heap_setCell W ⟨w.heap.size + 1 + 1 + 1, 0, none⟩ _ (w.heap.size + 1 + 1 + 1 + 1 + 1) (by show w.heap.size + 1 + 1 + 1 + 1 + 1 ≠ w.heap.size + 1 + 1 + 1; omega)⟩,
        box_other b0 (by omega), box_other b1 (by omega), box_other b2 (by omega), by rw [List.length_append]; exact b3.set _, hB.setCell (p := ⟨w.heap.size + 1 + 1 + 1, 0, none⟩) (by show w.heap.size ≤ w.heap.size + 1 + 1 + 1; omega) _, by simpa using hsz, by have := HE.out; simp; omega⟩
  case done =>
    rintro D ys W hD rfl ⟨b0, b1, b2, b3, hB, hsz, hno⟩ hK
    have c0 := b0.cell
    have c1 := b1.cell
    have c2 := b2.cell
    have c3 := b3.cell
    have f1 := b1.frozen
    have f2 := b2.frozen
    have h43 : Fence.wide.fn 43 := trivial
    have hmx : Try.prog.follows .mixedOrders = true := by kernel_rfl
    have hplace : placeAt (ros l) i at_ = (((endOf (ros l) i : Nat) : Int), decide (((kids (ros l) i).length : Int) = at_)) := if_neg hno
    have HPL := Lib.hid hplace
    have hrW := (hr.below hB).more hB.size
    clear hplace
    gi_wp2
    have hDw : w.heap.size + 1 + 1 + 1 + 1 + 1 < D := by have := hD; simp at this; omega
    have b1' : Boxed (((W.setCell ⟨w.heap.size + 1, 0, none⟩ (.int .i64 (endOf (ros l) i : Nat))).setCell ⟨w.heap.size + 1 + 1, 0, none⟩ (.bool (((kids (ros l) i).length : Int) == at_))).drew) (w.heap.size + 1) 3 (.int .i64 (endOf (ros l) i : Nat)) := box_other (b1.set _) (by omega)
    have b2' : Boxed (((W.setCell ⟨w.heap.size + 1, 0, none⟩ (.int .i64 (endOf (ros l) i : Nat))).setCell ⟨w.heap.size + 1 + 1, 0, none⟩ (.bool (((kids (ros l) i).length : Int) == at_))).drew) (w.heap.size + 1 + 1) 4 (.bool (((kids (ros l) i).length : Int) == at_)) := (box_other b2 (by omega)).set _
    have hK' : (((W.setCell ⟨w.heap.size + 1, 0, none⟩ (.int .i64 (endOf (ros l) i : Nat))).setCell ⟨w.heap.size + 1 + 1, 0, none⟩ (.bool (((kids (ros l) i).length : Int) == at_))).drew).heap[D]? = some (.deferred (some [])) := by
      refine Eq.trans ?_ hK
      show ((W.setCell ⟨w.heap.size + 1, 0, none⟩ _).setCell ⟨w.heap.size + 1 + 1, 0, none⟩ _).heap[D]? = _
      rw [Below.heap_setCell _ ⟨w.heap.size + 1 + 1, 0, none⟩ _ D (by show D ≠ w.heap.size + 1 + 1; omega), Below.heap_setCell _ ⟨w.heap.size + 1, 0, none⟩ _ D (by show D ≠ w.heap.size + 1; omega)]
    have k1 := cell_kept b1'.cell (grownBy_putObj' _ D (.deferred none)) (fun r e => by cases e; exact ⟨_, hK', rfl⟩)
    have k2 := cell_kept b2'.cell (grownBy_putObj' _ D (.deferred none)) (fun r e => by cases e; exact ⟨_, hK', rfl⟩)
    have hb9 : Below w.heap.size w (((W.setCell ⟨w.heap.size + 1, 0, none⟩ (.int .i64 (endOf (ros l) i : Nat))).setCell ⟨w.heap.size + 1 + 1, 0, none⟩ (.bool (((kids (ros l) i).length : Int) == at_))).drew) := below_dN2 ((hB.setCell (p := ⟨w.heap.size + 1, 0, none⟩) (by show w.heap.size ≤ w.heap.size + 1; omega) _).setCell (p := ⟨w.heap.size + 1 + 1, 0, none⟩) (by show w.heap.size ≤ w.heap.size + 1 + 1; omega) _) 1
    have hb10 := hb9.trans (belowK_b (w := w) (Nat.le_refl _) (((W.setCell ⟨w.heap.size + 1, 0, none⟩ (.int .i64 (endOf (ros l) i : Nat))).setCell ⟨w.heap.size + 1 + 1, 0, none⟩ (.bool (((kids (ros l) i).length : Int) == at_))).drew) D (.deferred (some [])) (.deferred none) (by omega) hK' rfl rfl)
    have HK' := Lib.hid hK'; have HK1 := Lib.hid k1; have HK2 := Lib.hid k2; have HB10 := Lib.hid hb10
    clear hK' k1 k2 hb9 hb10 b1' b2'
    refine wpIn_then ?_
    gi_region_with_o (gi_at_call 43; refine (callsIn_wide.2 (endOf_any A c l i _ (by exact hrW) hc hm h1 h2)).mono ?_; rintro e w' ⟨rfl, rfl⟩)
    all_goals dsimp only [okOnly]
    all_goals gi_wp2
    all_goals
      have k1 := HK1.out
      have k2 := HK2.out
      refine ⟨by simp, .inl ⟨_, _, rfl, run_takeDeferred HK'.out, ?_⟩⟩
      refine ⟨.tuple #[.int .i64 (endOf (ros l) i : Nat), .bool (((kids (ros l) i).length : Int) == at_)], ?_, by rw [HPL.out]; rfl, HB10.out⟩
      simp [results, Try.f46, go_sem, k1, k2]
  case stop =>
    rintro D c pre W hD hpre ⟨rfl, q, x, rfl, hat, b1, b2, hB⟩ hK
    have hplace : placeAt (ros l) i at_ = (((x : Nat) : Int), true) := by
      obtain ⟨r, hr2⟩ := hpre
      have hlen : q.length < (kids (ros l) i).length := by rw [← hr2]; simp
      rw [placeAt, if_pos (by omega), hat, Int.toNat_natCast]
      rw [← hr2, List.append_assoc, List.getElem?_append_right (Nat.le_refl _), Nat.sub_self]
      rfl
    have HPL := Lib.hid hplace
    clear hplace
    gi_wp2
    refine ⟨by simp, .inl ⟨_, _, rfl, run_takeDeferred hK, ?_⟩⟩
    have k1 := cell_kept b1.cell (grownBy_putObj' _ D (.deferred none)) (fun r e => by cases e; exact ⟨_, hK, rfl⟩)
    have k2 := cell_kept b2.cell (grownBy_putObj' _ D (.deferred none)) (fun r e => by cases e; exact ⟨_, hK, rfl⟩)
    refine ⟨.tuple #[.int .i64 (x : Nat), .bool true], ?_, by rw [HPL.out], hB.trans (belowK_b (w := w) (Nat.le_refl _) W D _ _ (by simp at hD; omega) hK rfl rfl)⟩
    simp [results, Try.f46, go_sem, k1, k2]

end Go.Proofs.Ytblefklfgaohfaa.Ro
