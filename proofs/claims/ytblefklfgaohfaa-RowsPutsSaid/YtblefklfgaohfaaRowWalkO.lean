/-
  Walks of stage 4: Kids, placeOf; boltingref04.Kids.
-/
import Derived.Test.YtblefklfgaohfaaRowWalkN
namespace Go.Proofs.Ytblefklfgaohfaa.Ro
set_option linter.unusedVariables false
set_option linter.unusedSimpArgs false
open Go.RowKit Ba Go.Shelf

attribute [local go_sem] Oper.semAt_some

theorem kids_stops (n : Nat) (hn : 1 ≤ n) (B1 B2 n₀ : Nat) (A : Option Addr) (c : Nat) (l : List Cw) (i : Int) (hc : l.length ≤ c) (hm : l.length ≤ 1000000) (h1 : -1 ≤ i) (h2 : i < l.length) (hd1 : dep (ros l) i ≤ 1000000000) (hd2 : -1000000000 ≤ dep (ros l) i)
    (w : World) (hn₀ : n₀ ≤ w.heap.size) (hb1 : Boxed w B1 22 (.slice A l.length c)) (hb2 : Boxed w B2 3 (.int .i64 i)) (hr : Rr w n₀ A l) :
    SeqStopsK Fence.wide n Try.prog 52 #[.pointer (some ⟨B1, 0, none⟩), .pointer (some ⟨B2, 0, none⟩)] (fun x : Nat => #[.int .i64 (x : Nat)]) (Kp n₀ B1 B2) (fun ys => ys = kids (ros l) i) (fun pre => pre <+: kids (ros l) i) (kids (ros l) i).length w := fun lp J Jx W hW hJ _ hY h0 =>
  kids1_in n hn lp B1 B2 n₀ A c l i J Jx hc hm h1 h2 hd1 hd2 (fun s X Y hs hg => hJ s X Y none hs hg (fun r e => by cases e)) hY W (Nat.le_trans hn₀ hW.size)
    (boxB hb1 (hW.block B1 hb1.lt)) (boxB hb2 (hW.block B2 hb2.lt)) (hr.below hW hn₀) h0

theorem infoI : (Try.prog.info? 3).map (fun i => (i.zero, i.size, i.bytes)) = some (some (.int .i64 0), 1, 8) := by kernel_rfl
/-- A number as a value. -/
def nv (k : Nat) : Value := .int .i64 k
theorem kids_len (d : Int) : ∀ (l : List Ro) (k : Nat), (kidsFrom d k l).length ≤ l.length
  | [], _ => Nat.le_refl _
  | x :: r, k => by
    have := kids_len d r (k + 1)
    unfold kidsFrom
    split
    · rw [List.length_cons, List.length_cons]; omega
    · rw [List.length_cons]; omega
theorem kids_le (l : List Ro) (i : Int) : (kids l i).length ≤ l.length := Nat.le_trans (kids_len _ _ _) (Nat.le_trans (List.takeWhile_sublist _).length_le (by rw [List.length_drop]; omega))

theorem app_kp {W w1 : World} {n1 : Nat} {e : TypeId} {size k : Nat} {v v' : Value} {xs : List Value} {tmp : Obj} {b B : Nat} (hrow : W.ownsRow n1 e size v k xs) (hgrow : (W.alloc tmp).grownBy w1 v.ownBlock) (h1 : b < n1) (h2 : b < W.heap.size) (hb : b ≠ B) :
    (w1.setCell ⟨B, 0, none⟩ v').heap[b]? = W.heap[b]? := by
  rw [Below.heap_setCell w1 ⟨B, 0, none⟩ v' b hb, hgrow.block b (by simp; omega) (fun e => by have := (World.ownsRow.lt hrow b e.symm).1; omega)]
  exact Below.heap_alloc W tmp b h2

set_option maxRecDepth 100000 in
set_option maxHeartbeats 2000000 in
theorem Kids_any (A : Option Addr) (c : Nat) (l : List Cw) (i : Int) (w : World) (hr : Rr w w.heap.size A l) (hc : l.length ≤ c) (hm : l.length ≤ 1000000) (h1 : -1 ≤ i) (h2 : i < l.length) (hd1 : dep (ros l) i ≤ 1000000000) (hd2 : -1000000000 ≤ dep (ros l) i) :
    Calls Try.prog 24 #[.slice A l.length c, .int .i64 i] w fun e w' => ∃ v, e = .returned v ∧ w'.ownsRow w.heap.size 3 1 v (kids (ros l) i).length ((kids (ros l) i).map nv) ∧ Below w.heap.size w w' := by
  obtain ⟨i0, hi, hz0, hz1, hz2⟩ := info_parts infoI
  have hkl := kids_le (ros l) i
  rw [len_ros] at hkl
  refine (callsIn_wide (n := 3)).1 ?_
  refine callsIn_of_wp_marks Try.func24 rfl trivial ?_ rfl
  simp only [Try.ntmps24, List.size_toArray, List.length_cons, List.length_nil, Nat.reduceAdd, Nat.reduceSub, Array.replicate_succ, Array.replicate_zero, List.push_toArray, List.append_toArray, List.nil_append, List.cons_append]
  by_cases hi1 : i = -1
  · subst hi1
    have bB0 := Lib.hid (((Boxed.new w 32 (.slice none 0 0)).alloc (.cells #[.slice A l.length c] 22)).alloc (.cells #[.int .i64 (-1)] 3))
    have bB1 := Boxed.new (w.alloc (.cells #[.slice none 0 0] 32)) 22 (.slice A l.length c)
    rw [World.size_alloc] at bB1
    replace bB1 := Lib.hid (bB1.alloc (.cells #[.int .i64 (-1)] 3))
    have bB2 := Boxed.new ((w.alloc (.cells #[.slice none 0 0] 32)).alloc (.cells #[.slice A l.length c] 22)) 3 (.int .i64 (-1))
    rw [World.size_alloc, World.size_alloc] at bB2
    replace bB2 := Lib.hid bB2
    have hB0 : Below w.heap.size w (((w.alloc (.cells #[.slice none 0 0] 32)).alloc (.cells #[.slice A l.length c] 22)).alloc (.cells #[.int .i64 (-1)] 3)) := ((below_new w _).alloc (by simp) _).alloc (by simp <;> omega) _
    have HR := Lib.hid (hr.below hB0)
    have HB0 := Lib.hid hB0
    clear hB0
    gi_wp2
    refine ⟨trivial, ?_⟩
    gi_wp2_with (refine ⟨trivial, ?_⟩; gi_at_call 44; refine (callsIn_wide.2 (kidsOf_any A _ c (-1) _)).mono ?_; rintro e w' ⟨rfl, rfl⟩)
    refine wpIn_rangeFunc_ownG rfl (by omega) (gf := 52) (lb := #[.pointer (some ⟨w.heap.size + 1, 0, none⟩), .pointer (some ⟨w.heap.size + 1 + 1, 0, none⟩)]) rfl trivial (enters_of Try.func52 (by kernel_rfl) rfl)
      (kids_stops (3 - 1) (by omega) (w.heap.size + 1) (w.heap.size + 1 + 1) w.heap.size A c l (-1) hc hm h1 h2 hd1 hd2 _ (by simp <;> omega) bB1.out bB2.out HR.out) Kp.t (Kp.b (by simp <;> omega) (by simp <;> omega) (by simp)) (Below.refl _ _) (fun _ => rfl)
      (fun (pre : List Nat) W => (∃ v, Boxed W w.heap.size 32 v ∧ W.ownsRow (w.heap.size + 1 + 1 + 1) 3 1 v pre.length (pre.map nv) ∧ True) ∧ (Below w.heap.size w W ∧ w.heap.size + 1 + 1 + 1 ≤ W.heap.size))
      (fun _ _ _ => False)
      (OwnFrom.and (Own.from (holdsRow_own (w.heap.size + 1 + 1 + 1) w.heap.size 32 3 1 (fun pre : List Nat => pre.length) (fun pre : List Nat => pre.map nv) (fun _ _ => True)) _) (OwnFrom.and (ownFrom_below (Nat.le_refl _) (by simp <;> omega)) (fun _ _ _ _ hs hg _ => Nat.le_trans hs hg.size)))
      (fun _ _ _ _ _ hs _ _ => hs)
      ⟨⟨_, bB0.out, World.ownsRow_nil _ _ _ _, trivial⟩, HB0.out, by simp⟩
      (fun x => { tmps := #[.slice A l.length c, .int .i64 (-1), undef, undef, .slice none 0 0, .pointer (some ⟨w.heap.size, 0, none⟩), .int .i64 (x : Nat), .int .i64 (-1), .bool false, .bool false, undef, undef, undef, undef, .bool false, .slice A l.length c, .int .i64 (-1), .func (.func 52) #[] #[.pointer (some ⟨w.heap.size + 1, 0, none⟩), .pointer (some ⟨w.heap.size + 1 + 1, 0, none⟩)], .int .i64 (x : Nat), undef, undef, undef, undef, undef], defers := [] }) ?assign ?body ?done ?stop
    case assign =>
      intro l x W K hK
      gi_wp2
      exact hK
    case body =>
      rintro l pre x W ⟨⟨v, hv, hrow, -⟩, hB, hsz⟩ hlt
      have hc := hv.cell
      have hpl : pre.length + 1 ≤ 1000001 := by omega
      gi_wp2_with (gi_at_builtin; refine wpListIn_append_own _ rfl _ _ 32 rfl (w.heap.size + 1 + 1 + 1) 3 i0 (.int .i64 0) 1 8 Try.underlying32 hi hz0 hz1 hz2 rfl (by decide) _ _ _ rfl (hrow.alloc _) ⟨W.heap.size, 0, none⟩ 1 1 [.int .i64 x] rfl rfl (cell_one_new _ _ _) (by simp [Value.oneCell']) (by unfold maxLen; omega) (by omega) (by simp <;> omega) ?_; intro v' w1 hown' hgrow _; obtain ⟨g', cap', rfl⟩ := ownsRow_succ hown'; obtain ⟨hv1, hv2, _, hk2, hb2⟩ := hv.appended (by decide) (hrow.mono (base' := w.heap.size) (by omega)) hB.size (Nat.le_refl _) (hown'.mono (base' := w.heap.size) (by omega)) hgrow; have hc1 := hv1.cell; have hf1 := hv1.frozen)
      exact ⟨hk2.from _, ⟨hb2, app_kp hrow hgrow (by omega) (by omega) (by omega), app_kp hrow hgrow (by omega) (by omega) (by omega)⟩, ⟨⟨_, hv2, by rw [List.length_append, List.map_append]; exact hown'.kept (grownBy_setCell' w1 w.heap.size _) (.inr (hv1.not_row (by decide) hown').symm), trivial⟩, hB.trans hb2, Nat.le_trans hsz hb2.size⟩⟩
    case done =>
      rintro D ys W hD rfl ⟨⟨v, hv, hrow, -⟩, hB, hsz⟩ hK
      have hc := hv.cell
      gi_wp2
      refine ⟨by simp, .inl ⟨_, _, rfl, run_takeDeferred hK, ?_⟩⟩
      exact ⟨_, results_tmp rfl _ _ _, v, rfl, World.ownsRow.mono (ownsRow_putObj hrow _ hK rfl) (by omega), hB.trans (belowK_b (w := w) (Nat.le_refl _) W D _ _ (by simp at hD; omega) hK rfl rfl)⟩
    case stop =>
      rintro D c pre W _ _ h _
      exact h.elim
  · obtain ⟨j, rfl⟩ := Int.eq_ofNat_of_zero_le (show 0 ≤ i by omega)
    clear hi1
    have hj1 : ((j : Int) == -1) = false := by rw [beq_eq_false_iff_ne]; omega
    have hj2 : ((j : Int) != -1) = true := by rw [bne_iff_ne]; omega
    have bB0 := Lib.hid (((Boxed.new w 32 (.slice none 0 0)).alloc (.cells #[.slice A l.length c] 22)).alloc (.cells #[.int .i64 j] 3))
    have bB1 := Boxed.new (w.alloc (.cells #[.slice none 0 0] 32)) 22 (.slice A l.length c)
    rw [World.size_alloc] at bB1
    replace bB1 := Lib.hid (bB1.alloc (.cells #[.int .i64 j] 3))
    have bB2 := Boxed.new ((w.alloc (.cells #[.slice none 0 0] 32)).alloc (.cells #[.slice A l.length c] 22)) 3 (.int .i64 j)
    rw [World.size_alloc, World.size_alloc] at bB2
    replace bB2 := Lib.hid bB2
    have hB0 : Below w.heap.size w (((w.alloc (.cells #[.slice none 0 0] 32)).alloc (.cells #[.slice A l.length c] 22)).alloc (.cells #[.int .i64 j] 3)) := ((below_new w _).alloc (by simp) _).alloc (by simp <;> omega) _
    have HR := Lib.hid (hr.below hB0)
    have HB0 := Lib.hid hB0
    clear hB0
    gi_wp2_with (refine ⟨trivial, ?_⟩; first | (gi_at_call 42; refine (callsIn_wide.2 (hasYes_any A _ c j w hc (by omega) h2)).mono ?_; rintro e w' ⟨rfl, rfl⟩) | (gi_at_call 44; refine (callsIn_wide.2 (kidsOf_any A _ c j _)).mono ?_; rintro e w' ⟨rfl, rfl⟩))
    refine wpIn_rangeFunc_ownG rfl (by omega) (gf := 52) (lb := #[.pointer (some ⟨w.heap.size + 1, 0, none⟩), .pointer (some ⟨w.heap.size + 1 + 1, 0, none⟩)]) rfl trivial (enters_of Try.func52 (by kernel_rfl) rfl)
      (kids_stops (3 - 1) (by omega) (w.heap.size + 1) (w.heap.size + 1 + 1) w.heap.size A c l j hc hm h1 h2 hd1 hd2 _ (by simp <;> omega) bB1.out bB2.out HR.out) Kp.t (Kp.b (by simp <;> omega) (by simp <;> omega) (by simp)) (Below.refl _ _) (fun _ => rfl)
      (fun (pre : List Nat) W => (∃ v, Boxed W w.heap.size 32 v ∧ W.ownsRow (w.heap.size + 1 + 1 + 1) 3 1 v pre.length (pre.map nv) ∧ True) ∧ (Below w.heap.size w W ∧ w.heap.size + 1 + 1 + 1 ≤ W.heap.size))
      (fun _ _ _ => False)
      (OwnFrom.and (Own.from (holdsRow_own (w.heap.size + 1 + 1 + 1) w.heap.size 32 3 1 (fun pre : List Nat => pre.length) (fun pre : List Nat => pre.map nv) (fun _ _ => True)) _) (OwnFrom.and (ownFrom_below (Nat.le_refl _) (by simp <;> omega)) (fun _ _ _ _ hs hg _ => Nat.le_trans hs hg.size)))
      (fun _ _ _ _ _ hs _ _ => hs)
      ⟨⟨_, bB0.out, World.ownsRow_nil _ _ _ _, trivial⟩, HB0.out, by simp⟩
      (fun x => { tmps := #[.slice A l.length c, .int .i64 j, undef, undef, .slice none 0 0, .pointer (some ⟨w.heap.size, 0, none⟩), .int .i64 (x : Nat), .int .i64 j, .bool true, .bool true, .slice A l.length c, .int .i64 j, .bool true, .bool false, .bool false, .slice A l.length c, .int .i64 j, .func (.func 52) #[] #[.pointer (some ⟨w.heap.size + 1, 0, none⟩), .pointer (some ⟨w.heap.size + 1 + 1, 0, none⟩)], .int .i64 (x : Nat), undef, undef, undef, undef, undef], defers := [] }) ?assign2 ?body2 ?done2 ?stop2
    case assign2 =>
      intro l x W K hK
      gi_wp2
      exact hK
    case body2 =>
      rintro l pre x W ⟨⟨v, hv, hrow, -⟩, hB, hsz⟩ hlt
      have hc := hv.cell
      have hpl : pre.length + 1 ≤ 1000001 := by omega
      gi_wp2_with (gi_at_builtin; refine wpListIn_append_own _ rfl _ _ 32 rfl (w.heap.size + 1 + 1 + 1) 3 i0 (.int .i64 0) 1 8 Try.underlying32 hi hz0 hz1 hz2 rfl (by decide) _ _ _ rfl (hrow.alloc _) ⟨W.heap.size, 0, none⟩ 1 1 [.int .i64 x] rfl rfl (cell_one_new _ _ _) (by simp [Value.oneCell']) (by unfold maxLen; omega) (by omega) (by simp <;> omega) ?_; intro v' w1 hown' hgrow _; obtain ⟨g', cap', rfl⟩ := ownsRow_succ hown'; obtain ⟨hv1, hv2, _, hk2, hb2⟩ := hv.appended (by decide) (hrow.mono (base' := w.heap.size) (by omega)) hB.size (Nat.le_refl _) (hown'.mono (base' := w.heap.size) (by omega)) hgrow; have hc1 := hv1.cell; have hf1 := hv1.frozen)
      exact ⟨hk2.from _, ⟨hb2, app_kp hrow hgrow (by omega) (by omega) (by omega), app_kp hrow hgrow (by omega) (by omega) (by omega)⟩, ⟨⟨_, hv2, by rw [List.length_append, List.map_append]; exact hown'.kept (grownBy_setCell' w1 w.heap.size _) (.inr (hv1.not_row (by decide) hown').symm), trivial⟩, hB.trans hb2, Nat.le_trans hsz hb2.size⟩⟩
    case done2 =>
      rintro D ys W hD rfl ⟨⟨v, hv, hrow, -⟩, hB, hsz⟩ hK
      have hc := hv.cell
      gi_wp2
      refine ⟨by simp, .inl ⟨_, _, rfl, run_takeDeferred hK, ?_⟩⟩
      exact ⟨_, results_tmp rfl _ _ _, v, rfl, World.ownsRow.mono (ownsRow_putObj hrow _ hK rfl) (by omega), hB.trans (belowK_b (w := w) (Nat.le_refl _) W D _ _ (by simp at hD; omega) hK rfl rfl)⟩
    case stop2 =>
      rintro D c pre W _ _ h _
      exact h.elim

end Go.Proofs.Ytblefklfgaohfaa.Ro
