/-
  Walks of stage 4: the kids of a node, by a range over a function (kidsOf).
-/
import Derived.Test.YtblefklfgaohfaaRowWalkB
import Derived.RangeFuncBox
import Derived.RangeFuncLeaves
import Derived.Shelf.Abstract
import Derived.OwnWalkIn
import Derived.TacticsInMore
import Derived.LoopNIn
import Derived.LoopIn
import Derived.Sort.BigQuietIn
import Derived.Maps.AppendAt
namespace Go.Proofs.Ytblefklfgaohfaa.Ro
set_option linter.unusedVariables false
set_option linter.unusedSimpArgs false
open Go.RowKit Ba Go.Shelf

attribute [local go_sem] Oper.semAt_some

/-- The places, from k on, of those that stand just at depth d. -/
def kidsFrom (d : Int) : Nat → List Ro → List Nat
  | _, [] => []
  | k, x :: r => if x.depth = d then k :: kidsFrom d (k + 1) r else kidsFrom d (k + 1) r
def kids (l : List Ro) (i : Int) : List Nat := kidsFrom (dep l i + 1) (i + 1).toNat (below l i)

/-- What a round leaves as it was: what lay below n₀, and the two boxes of the iterator. -/
def Kp (n₀ B1 B2 : Nat) (W W' : World) : Prop := Below n₀ W W' ∧ W'.heap[B1]? = W.heap[B1]? ∧ W'.heap[B2]? = W.heap[B2]?
theorem Kp.t {n₀ B1 B2 : Nat} {A B C : World} (h : Kp n₀ B1 B2 A B) (k : Kp n₀ B1 B2 B C) : Kp n₀ B1 B2 A C := ⟨h.1.trans k.1, k.2.1.trans h.2.1, k.2.2.trans h.2.2⟩
theorem Kp.b {n₀ B1 B2 : Nat} {w : World} (hn : n₀ ≤ w.heap.size) (h1 : B1 < w.heap.size) (h2 : B2 < w.heap.size) (W : World) (l : Nat) (o o' : Obj) (hl : w.heap.size ≤ l) (h : W.heap[l]? = some o) (hc : o.isCells = false) (hw : o.isWalk = false) : Kp n₀ B1 B2 W (W.putObj l o') :=
  ⟨belowK_b hn W l o o' hl h hc hw, World.putObj_heap_other (by omega), World.putObj_heap_other (by omega)⟩

theorem boxB {W : World} {B : Nat} {t : TypeId} {v : Value} {W' : World} (h : Boxed W B t v) (hk : W'.heap[B]? = W.heap[B]?) : Boxed W' B t v := hk.trans h

theorem takeWhile_take {α : Type} (p : α → Bool) : ∀ l : List α, l.takeWhile p = l.take (l.takeWhile p).length
  | [] => rfl
  | x :: r => by
    rw [List.takeWhile_cons]
    cases p x with
    | true => rw [if_pos rfl, List.length_cons, List.take_succ_cons, ← takeWhile_take p r]
    | false => rw [if_neg (by decide)]; rfl
theorem below_part (l : List Ro) (i : Int) : below l i = (l.take (endOf l i)).drop (i + 1).toNat := by
  rw [List.drop_take]
  unfold endOf
  rw [Nat.add_sub_cancel_left]
  exact takeWhile_take _ _
theorem part_step {l : List Cw} {E k : Nat} {x : Cw} (hk : k < E) (h : l.drop k = x :: l.drop (k + 1)) : (l.take E).drop k = x :: (l.take E).drop (k + 1) := by
  rw [List.drop_take, h, List.drop_take, show E - k = (E - (k + 1)) + 1 from by omega, List.take_succ_cons]
theorem kids_hit {d : Int} {k : Nat} {x : Ro} {r : List Ro} (h : x.depth = d) : kidsFrom d k (x :: r) = k :: kidsFrom d (k + 1) r := if_pos h
theorem kids_miss {d : Int} {k : Nat} {x : Ro} {r : List Ro} (h : ¬ x.depth = d) : kidsFrom d k (x :: r) = kidsFrom d (k + 1) r := if_neg h
theorem grown_drewN (W : World) (n : Nat) : W.grownBy (W.drewN n) none := ⟨rfl, rfl, rfl, Nat.le_refl _, fun _ _ _ => rfl⟩

set_option maxRecDepth 100000 in
set_option maxHeartbeats 2000000 in
theorem kids1_in (n : Nat) (hn : 1 ≤ n) (lp B1 B2 n₀ : Nat) (A : Option Addr) (c : Nat) (l : List Cw) (i : Int) (J Jx : List Nat → World → Prop) (hc : l.length ≤ c) (hm : l.length ≤ 1000000) (h1 : -1 ≤ i) (h2 : i < l.length) (hd1 : dep (ros l) i ≤ 1000000000) (hd2 : -1000000000 ≤ dep (ros l) i)
    (hJ : ∀ s W W', J s W → W.grownBy W' none → J s W')
    (hY : ∀ pre x W, J pre W → pre.length < (kids (ros l) i).length → YieldAt Fence.wide (n - 1) Try.prog lp #[.int .i64 (x : Nat)] W fun e W' =>
      (e = .returned (.bool true) ∧ J (pre ++ [x]) W' ∧ Kp n₀ B1 B2 W W') ∨ (e = .returned (.bool false) ∧ Jx (pre ++ [x]) W'))
    (W : World) (hn₀ : n₀ ≤ W.heap.size) (hb1 : Boxed W B1 22 (.slice A l.length c)) (hb2 : Boxed W B2 3 (.int .i64 i)) (hr : Rr W n₀ A l) (h0 : J [] W) :
    CallsIn Fence.wide n Try.prog 52 #[.func (.yield lp) #[] #[], .pointer (some ⟨B1, 0, none⟩), .pointer (some ⟨B2, 0, none⟩)] W fun e W' => (∃ v, e = .returned v) ∧
      ((∃ ys, ys = kids (ros l) i ∧ J ys W') ∨ (∃ pre, pre <+: kids (ros l) i ∧ Jx pre W')) := by
  have c1 := hb1.cell
  have c2 := hb2.cell
  obtain ⟨d, hd⟩ : ∃ d, dep (ros l) i = d := ⟨_, rfl⟩
  obtain ⟨E, hE⟩ : ∃ E, endOf (ros l) i = E := ⟨_, rfl⟩
  have hE1 := endOf_le (ros l) i (by rw [len_ros]; exact h2)
  rw [len_ros, hE] at hE1
  rw [hd] at hd1 hd2
  obtain ⟨xs, hxs⟩ : ∃ xs, kids (ros l) i = xs := ⟨_, rfl⟩
  obtain ⟨k0, hk0⟩ : ∃ k0 : Nat, (i + 1).toNat = k0 := ⟨_, rfl⟩
  have hk1 : i + 1 = (k0 : Int) := by omega
  have hk2 : k0 ≤ E := by have := endOf_ge (ros l) i; rw [hk0, hE] at this; exact this
  have hx0 : kidsFrom (d + 1) k0 (ros ((l.take E).drop k0)) = xs := by rw [← hxs, kids, below_part, hd, hE, hk0, ros_part]
  have hq1 : ∀ k m, CallsIn Fence.wide m Try.prog 43 #[.slice A l.length c, .int .i64 i] (W.drewN k) fun e w' => e = .returned (.int .i64 E) ∧ ∃ m, w' = W.drewN m := fun k m => callsIn_wide.2 <| by
    have := same_quiet (endOf_any A c l i (W.drewN k) (by exact hr.more hn₀) hc hm h1 h2)
    rwa [hE] at this
  have hq2 : ∀ k m, CallsIn Fence.wide m Try.prog 47 #[.slice A l.length c, .int .i64 i] (W.drewN k) fun e w' => e = .returned (.int .i64 d) ∧ ∃ m, w' = W.drewN m := fun k m => callsIn_wide.2 <| by
    have := same_quiet (depthOf_any A c l i (W.drewN k) (by exact hr.more hn₀) hc hm h1 h2)
    rwa [hd] at this
  obtain ⟨F, hF⟩ : ∃ F, Fence.wide = F := ⟨_, rfl⟩
  rw [hF] at hq1 hq2 hY ⊢
  have hfn : ∀ f, F.fn f := hF ▸ fun _ => trivial
  have hro : F.round = none := hF ▸ rfl
  have h43 := hfn 43
  have h47 := hfn 47
  have h52 := hfn 52
  clear hF hfn
  have HQ1 := Lib.hid hq1; have HQ2 := Lib.hid hq2; have HX0 := Lib.hid hx0; have HK1 := Lib.hid hk1; have HXS := Lib.hid hxs; have HY := Lib.hid hY; have HJ := Lib.hid hJ
  have hsum : IntKind.i64.wrap (d + 1) = d + 1 := IntWalk.i64_in _ (by omega)
  clear hd hE hq1 hq2 hx0 hk0 hk1 hxs hY hJ
  refine callsIn_of_wp Try.func52 rfl h52 ?_ hro
  simp only [Try.ntmps52, List.size_toArray, List.length_cons, List.length_nil, Nat.reduceAdd, Nat.reduceSub, Array.replicate_succ, Array.replicate_zero, List.push_toArray, List.append_toArray, List.nil_append, List.cons_append]
  gi_wp2
  refine wpIn_region_quiet_lit hro (by kernel_rfl) (by kernel_rfl) ?_
  repeat (gi_big_quiet_step (first | (gi_at_call 43; exact HQ1.out _ _) | (gi_at_call 47; exact HQ2.out _ _)))
  refine wpQuietIn_nil ?_
  intro _ hw'
  obtain ⟨nq, hw''⟩ := hw'
  subst hw''
  clear hsum
  gi_wp2
  rw [HK1.out]
  have hJn : J [] (W.drewN nq) := HJ.out _ _ _ h0 (grown_drewN W nq)
  have HJN := Lib.hid hJn
  clear hJn
  gi_loopw [6] (fun v wr => ∃ (k : Nat) (pre : List Nat), v = .int .i64 k ∧ k ≤ E ∧ xs = pre ++ kidsFrom (d + 1) k (ros ((l.take E).drop k)) ∧ J pre wr ∧ n₀ ≤ wr.heap.size ∧ Boxed wr B1 22 (.slice A l.length c) ∧ Boxed wr B2 3 (.int .i64 i) ∧ Rr wr n₀ A l) (fun v _ => E - (intOf v).toNat)
  case atStart => exact ⟨k0, [], rfl, hk2, HX0.out.symm, HJN.out, hn₀, hb1, hb2, hr⟩
  case round =>
    clear HX0 HK1 HJN HQ1 HQ2 c1 c2 hb1 hb2 hr h0
    obtain ⟨k, pre, rfl, hk, hxp, hJs, hnw, hb1, hb2, hr⟩ := hrel
    have c1 := hb1.cell
    have c2 := hb2.cell
    by_cases hp : k < E
    · obtain ⟨b, off, x, rfl, hb, hdx, hx, _, _⟩ := hr.at_ k (by omega)
      have g0 := (range5 hx).1
      rw [part_step hp hdx, ros_cons] at hxp
      cases h5 : x.ro.depth == d + 1 with
      | true =>
        rw [kids_hit (beq_iff_eq.1 h5)] at hxp
        have hlen : pre.length < (kids (ros l) i).length := by rw [HXS.out, hxp]; simp
        obtain ⟨fn, tmps, assign, body, hy, hR⟩ := HY.out pre k wr hJs hlen
        have HXP := Lib.hid hxp
        clear hxp hdx hx hlen
        gi_wp2
        refine hR.mono ?_
        rintro e W3 (⟨rfl, hJ3, hk3⟩ | ⟨rfl, hJx3⟩)
        · gi_wp2
          go_roundw
          case rel => exact ⟨k + 1, pre ++ [k], by go_num, by omega, by rw [HXP.out, List.append_assoc]; rfl, hJ3, Nat.le_trans hnw hk3.1.size, boxB hb1 hk3.2.1, boxB hb2 hk3.2.2, hr.below hk3.1⟩
          case measure => simp [intOf]; omega
        · gi_wp2
          refine bodyPost_ret (results_none rfl _ _ _) rfl ?_
          exact ⟨⟨_, rfl⟩, .inr ⟨pre ++ [k], ⟨kidsFrom (d + 1) (k + 1) (ros ((l.take E).drop (k + 1))), by rw [HXS.out, HXP.out, List.append_assoc]; rfl⟩, hJx3⟩⟩
      | false =>
        rw [kids_miss (beq_eq_false_iff_ne.1 h5)] at hxp
        have HXP := Lib.hid hxp
        clear hxp hdx hx
        gi_wp2
        refine ⟨fun _ h => (by cases h), ?_⟩
        gi_wp2
        go_roundw
        case rel => exact ⟨k + 1, pre, by go_num, by omega, HXP.out, hJs, hnw, hb1, hb2, hr⟩
        case measure => simp [intOf]; omega
    · rw [List.drop_eq_nil_of_le (by rw [List.length_take]; omega)] at hxp
      have HXP := Lib.hid hxp
      clear hxp
      gi_wp2
      go_end0
      exact ⟨⟨_, rfl⟩, .inl ⟨pre, by rw [HXS.out, HXP.out]; exact (List.append_nil _).symm, hJs⟩⟩

/-- kidsOf: a function value that keeps its two boxes. -/
theorem kidsOf_any (A : Option Addr) (n c : Nat) (i : Int) (w : World) :
    Calls Try.prog 44 #[.slice A n c, .int .i64 i] w fun e w' => e = .returned (.func (.func 52) #[] #[.pointer (some ⟨w.heap.size, 0, none⟩), .pointer (some ⟨w.heap.size + 1, 0, none⟩)]) ∧ w' = (w.alloc (.cells #[.slice A n c] 22)).alloc (.cells #[.int .i64 i] 3) := by
  go_enter Try.func44, Try.ntmps44
  go_wp2
  go_ret
  exact ⟨rfl, rfl⟩

end Go.Proofs.Ytblefklfgaohfaa.Ro
