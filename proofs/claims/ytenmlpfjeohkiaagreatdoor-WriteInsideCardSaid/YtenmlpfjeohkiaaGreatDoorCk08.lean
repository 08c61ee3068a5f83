/-
  Walks of stage 7: the open elements from the end on (a range over a function): among, fromEnd, find.
  Walks of stage 7: closed, leftOpen, Nested, endWalls, passedOver.
  Walks of stage 3: a text written out (boltingref03.Write).
  Walks of stage 8: the reference's tag.
  Walks of stage 8: legalAttrs, legal, legalWithin.
  Stage 7, in plain words: rows whose texts are joined at the end are those whose texts were joined one by one; nothing of the program.
  Stage 7: a builder in memory: its open elements, its rows, each of the call's own.
  Walks of stage 8: Legal.
  Stage 8: the calls whose answers the document fixes.
  Stage 8's law WriteTwo: it returns true.
  Walks of stage 6: boltingref06.Same.
  Stage 6: slices that read as tokens; the calls whose answers the document fixes.
  Small laws for the statements' own texts: min of a length, a mask of an int, a cut's size. For every stage from 5 on.
  Walks of stage 6's laws TokenEnds: it returns true.
  Walks of stage 6's laws TokenComments, TokenRaw: each returns true.
  Tokens in boxes, attributes of the call's own beside them.
  Walk of stage 6's law TokenBack: it returns true. Ahead of it: what a start tag of names that may be, an end tag, and texts around a tag come back as.
  Stage 8, in plain words: legal trees are such as come back.
-/
import Derived.Test.YtenmlpfjeohkiaaGreatDoorCk07
import Derived.Test.YtenmlpfjeohkiaaGreatDoorCk02
import Derived.RangeFuncBox
import Derived.RangeFuncLeaves
import Derived.RangeFuncCalls
import Derived.Shelf.Abstract
import Derived.OwnWalkIn
import Derived.TacticsInMore
import Derived.LoopNIn
import Derived.LoopIn
import Derived.Sort.BigQuietIn
import Derived.Maps.AppendAt
import Derived.Shelf.RegionOpen
import Derived.Test.YtenmlpfjeohkiaaGreatDoorCk04
import Derived.Test.YtenmlpfjeohkiaaGreatDoorCk06
import Derived.Deep.RegionHeld3
import Derived.Deep.CutBlock
import Derived.Deep.DeepCutAuto
import Derived.Test.YtenmlpfjeohkiaaGreatDoorCk01
import Derived.Deep.AppendLies
import Derived.Deep.RegionLaw
import Derived.BigRegion
import Derived.StillTailTactics
import Derived.Deep.CutRange
import Derived.Test.YtenmlpfjeohkiaaGreatDoorCk05
namespace Go.Proofs.YtenmlpfjeohkiaaGreatDoor.Bu
set_option maxRecDepth 100000
set_option linter.unusedVariables false
set_option linter.unusedSimpArgs false
open Go.RowKit Ba Fm Fo Nm Bm Go.Shelf
attribute [local go_sem] Oper.semAt_some

set_option maxHeartbeats 400000 in
theorem among_any (A : Option Addr) (c N : Nat) (l : List ByteArray) (s : ByteArray) (w : World) (hr : Rd w N A l) (hl : l.length ≤ 8796093022208) :
    Calls Tryz.prog 111 #[.string s, .slice A l.length c] w fun e w' => e = .returned (.bool (isIn s l)) ∧ w = w' := by
  go_enter Tryz.func111, Tryz.ntmps111
  go_wp2
  go_loop [9] (fun i => ∃ k : Nat, i = .int .i64 k ∧ k ≤ l.length ∧ ¬ s ∈ l.take k) (fun i => l.length - (intOf i).toNat)
  case atStart => exact ⟨0, rfl, Nat.zero_le _, by simp⟩
  case round =>
    obtain ⟨k, rfl, hks, hn⟩ := hrel
    have HN := Lib.hid hn; clear hn
    by_cases hp : k < l.length
    · obtain ⟨b, off, rfl, _, hc⟩ := hr (by omega)
      have hcell := hc k hp
      clear hc hr
      have heq := eq_of_toList (a := l[k]) (b := s)
      by_cases he : l[k] = s
      · rw [decide_eq_true he] at heq
        have HE := Lib.hid he; clear he
        go_wp2
        go_ret
        exact ⟨ret_bool (isIn_yes (by have := HE.out; rw [← this]; exact List.getElem_mem _)).symm, rfl⟩
      · rw [decide_eq_false he] at heq
        have HE := Lib.hid he; clear he
        go_wp2
        go_round
        case rel => exact ⟨k + 1, by go_num, by omega, has_snoc l s k hp HN.out HE.out⟩
        case measure => simp [intOf]; omega
    · go_wp2
      go_ret
      refine ⟨ret_bool (isIn_no ?_).symm, rfl⟩
      have := HN.out
      rwa [List.take_of_length_le (by omega)] at this

/-- The open elements with their places, the last one first. -/
def dn : List ByteArray → List (Nat × ByteArray)
  | [] => []
  | x :: r => (r.length, x) :: dn r
theorem dn_take {l : List ByteArray} {k : Nat} (h : k < l.length) : dn (l.take (k + 1)).reverse = (k, l[k]) :: dn (l.take k).reverse := by
  rw [rev_take (List.getElem?_eq_getElem h), dn, List.length_reverse, List.length_take, Nat.min_eq_left (Nat.le_of_lt h)]

/-- What a round leaves as it was: what lay below n₀, and the box of the iterator. -/
def Kp (n₀ B1 : Nat) (W W' : World) : Prop := Below n₀ W W' ∧ W'.heap[B1]? = W.heap[B1]?
theorem Kp.t {n₀ B1 : Nat} {A B C : World} (h : Kp n₀ B1 A B) (k : Kp n₀ B1 B C) : Kp n₀ B1 A C := ⟨h.1.trans k.1, k.2.trans h.2⟩
theorem Kp.r {n₀ B1 : Nat} (A : World) : Kp n₀ B1 A A := ⟨Below.refl _ _, rfl⟩
theorem Kp.b {n₀ B1 : Nat} {w : World} (hn : n₀ ≤ w.heap.size) (h1 : B1 < w.heap.size) (W : World) (l : Nat) (o o' : Obj) (hl : w.heap.size ≤ l) (h : W.heap[l]? = some o) (hc : o.isCells = false) (hw : o.isWalk = false) : Kp n₀ B1 W (W.putObj l o') :=
  ⟨belowK_b hn W l o o' hl h hc hw, World.putObj_heap_other (by omega)⟩
theorem boxB {W : World} {B : Nat} {t : TypeId} {v : Value} {W' : World} (h : Boxed W B t v) (hk : W'.heap[B]? = W.heap[B]?) : Boxed W' B t v := hk.trans h

set_option maxRecDepth 100000 in
set_option maxHeartbeats 2000000 in
theorem from1_in (n : Nat) (hn : 1 ≤ n) (lp B1 n₀ : Nat) (A : Option Addr) (c : Nat) (l : List ByteArray) (J Jx : List (Nat × ByteArray) → World → Prop) (hm : l.length ≤ 1000000)
    (hY : ∀ pre (x : Nat × ByteArray) W, J pre W → pre.length < l.length → YieldAt Fence.wide (n - 1) Tryz.prog lp #[.int .i64 (x.1 : Nat), .string x.2] W fun e W' =>
      (e = .returned (.bool true) ∧ J (pre ++ [x]) W' ∧ Kp n₀ B1 W W') ∨ (e = .returned (.bool false) ∧ Jx (pre ++ [x]) W'))
    (W : World) (hn₀ : n₀ ≤ W.heap.size) (hb1 : Boxed W B1 41 (.slice A l.length c)) (hr : Rd W n₀ A l) (h0 : J [] W) :
    CallsIn Fence.wide n Tryz.prog 121 #[.func (.yield lp) #[] #[], .pointer (some ⟨B1, 0, none⟩)] W fun e W' => (∃ v, e = .returned v) ∧
      ((∃ ys, ys = dn l.reverse ∧ J ys W') ∨ (∃ pre, pre <+: dn l.reverse ∧ Jx pre W')) := by
  have c1 := hb1.cell
  obtain ⟨xs, hxs⟩ : ∃ xs, dn l.reverse = xs := ⟨_, rfl⟩
  have hx0 : dn (l.take l.length).reverse = xs := by rw [List.take_length]; exact hxs
  have hlen0 : xs.length = l.length := by
    have : ∀ s : List ByteArray, (dn s).length = s.length := fun s => by
      induction s with
      | nil => rfl
      | cons x r ih => rw [dn, List.length_cons, List.length_cons, ih]
    rw [← hxs, this, List.length_reverse]
  rw [hxs]
  obtain ⟨F, hF⟩ : ∃ F, Fence.wide = F := ⟨_, rfl⟩
  rw [hF] at hY ⊢
  have hfn : ∀ f, F.fn f := hF ▸ fun _ => trivial
  have hro : F.round = none := hF ▸ rfl
  have h52 := hfn 121
  clear hF hfn
  have HX0 := Lib.hid hx0; have HXS := Lib.hid hxs; have HY := Lib.hid hY; have HL := Lib.hid hlen0
  clear hx0 hxs hY hlen0
  refine callsIn_of_wp Tryz.func121 rfl h52 ?_ hro
  simp only [Tryz.ntmps121, List.size_toArray, List.length_cons, List.length_nil, Nat.reduceAdd, Nat.reduceSub, Array.replicate_succ, Array.replicate_zero, List.push_toArray, List.append_toArray, List.nil_append, List.cons_append]
  gi_wp2
  gi_loopw [3] (fun v wr => ∃ (k : Nat) (i : Int) (pre : List (Nat × ByteArray)), v = .int .i64 i ∧ i + 1 = k ∧ k ≤ l.length ∧ xs = pre ++ dn (l.take k).reverse ∧ J pre wr ∧ n₀ ≤ wr.heap.size ∧ Boxed wr B1 41 (.slice A l.length c) ∧ Rd wr n₀ A l) (fun v _ => (intOf v + 1).toNat)
  case atStart => exact ⟨l.length, _, [], rfl, by omega, Nat.le_refl _, HX0.out.symm, h0, hn₀, hb1, hr⟩
  case round =>
    clear HX0 c1 hb1 hr h0
    obtain ⟨k, i, pre, rfl, hi, hk, hxp, hJs, hnw, hb1, hr⟩ := hrel
    have c1 := hb1.cell
    by_cases hp : 0 < k
    · obtain ⟨m, rfl⟩ : ∃ m, k = m + 1 := ⟨k - 1, by omega⟩
      obtain rfl : i = (m : Int) := by omega
      obtain ⟨b, off, rfl, hb, hc⟩ := hr (by omega)
      have hcell := hc m (by omega)
      rw [dn_take (by omega)] at hxp
      have hlen : pre.length < l.length := by rw [← HL.out, hxp]; simp
      obtain ⟨fn, tmps, assign, body, hy, hR⟩ := HY.out pre (m, l[m]) wr hJs hlen
      have HXP := Lib.hid hxp
      have hge : decide ((0 : Int) ≤ (m : Int)) = true := decide_eq_true (by omega)
      clear hxp hlen
      gi_wp2
      refine hR.mono ?_
      rintro e W3 (⟨rfl, hJ3, hk3⟩ | ⟨rfl, hJx3⟩)
      · gi_wp2
        go_roundw
        case rel => exact ⟨m, _, pre ++ [(m, l[m])], rfl, by omega, by omega, by rw [HXP.out, List.append_assoc]; rfl, hJ3, Nat.le_trans hnw hk3.1.size, boxB hb1 hk3.2, hr.below hk3.1 (Nat.le_refl _)⟩
        case measure => simp [intOf]
      · gi_wp2
        refine bodyPost_ret (results_none rfl _ _ _) rfl ?_
        exact ⟨⟨_, rfl⟩, .inr ⟨pre ++ [(m, l[m])], ⟨dn (l.take m).reverse, by rw [HXP.out, List.append_assoc]; rfl⟩, hJx3⟩⟩
    · obtain rfl : k = 0 := by omega
      obtain rfl : i = -1 := by omega
      have HXP := Lib.hid hxp
      clear hxp
      gi_wp2
      go_end0
      exact ⟨⟨_, rfl⟩, .inl ⟨pre, by rw [HXP.out]; exact (List.append_nil _).symm, hJs⟩⟩

theorem fromEnd_any (A : Option Addr) (n c : Nat) (w : World) :
    Calls Tryz.prog 110 #[.slice A n c] w fun e w' => e = .returned (.func (.func 121) #[] #[.pointer (some ⟨w.heap.size, 0, none⟩)]) ∧ w' = w.alloc (.cells #[.slice A n c] 41) := by
  go_enter Tryz.func110, Tryz.ntmps110
  go_wp2
  go_ret
  exact ⟨rfl, rfl⟩

theorem from_stops (n : Nat) (hn : 1 ≤ n) (B1 n₀ : Nat) (A : Option Addr) (c : Nat) (l : List ByteArray) (hm : l.length ≤ 1000000) (w : World) (hn₀ : n₀ ≤ w.heap.size) (hb1 : Boxed w B1 41 (.slice A l.length c)) (hr : Rd w n₀ A l) :
    SeqStopsK Fence.wide n Tryz.prog 121 #[.pointer (some ⟨B1, 0, none⟩)] (fun x : Nat × ByteArray => #[.int .i64 (x.1 : Nat), .string x.2]) (Kp n₀ B1) (fun ys => ys = dn l.reverse) (fun pre => pre <+: dn l.reverse) l.length w := fun lp J Jx W hW hJ _ hY h0 =>
  from1_in n hn lp B1 n₀ A c l J Jx hm hY W (Nat.le_trans hn₀ hW.size) (boxB hb1 (hW.block B1 hb1.lt)) (hr.below hW hn₀) h0

/-- Where the search ends: below 0: nothing. -/
def idx (ns ws o : List ByteArray) : Int := match findS ns ws o.reverse with | some r => (r.length : Nat) | none => -1
def past (ns ws : List ByteArray) (p : Nat × ByteArray) : Prop := isIn p.2 ns = false ∧ isIn p.2 ws = false
theorem dn_split {ns ws : List ByteArray} : ∀ {s : List ByteArray} {q t : List (Nat × ByteArray)}, dn s = q ++ t → (∀ p ∈ q, past ns ws p) → ∃ r, dn r = t ∧ findS ns ws s = findS ns ws r
  | s, [], t, h, _ => ⟨s, h, rfl⟩
  | [], p :: q, t, h, _ => by cases h
  | x :: s, p :: q, t, h, hp => by
    rw [dn, List.cons_append] at h
    injection h with h1 h2
    obtain ⟨r, e1, e2⟩ := dn_split h2 fun y hy => hp y (List.mem_cons_of_mem _ hy)
    have hx := hp p List.mem_cons_self
    rw [← h1] at hx
    exact ⟨r, e1, by rw [findS_past s hx.1 hx.2, e2]⟩
theorem idx_none {ns ws o : List ByteArray} (h : ∀ p ∈ dn o.reverse, past ns ws p) : idx ns ws o = -1 := by
  obtain ⟨r, e1, e2⟩ := dn_split (ns := ns) (ws := ws) (s := o.reverse) (q := dn o.reverse) (t := []) (by rw [List.append_nil]) h
  unfold idx
  rw [e2]
  cases r with
  | nil => rfl
  | cons x r => cases e1
theorem idx_stop {ns ws o : List ByteArray} {q t : List (Nat × ByteArray)} {x : Nat × ByteArray} (h : dn o.reverse = q ++ x :: t) (hq : ∀ p ∈ q, past ns ws p) (hx : isIn x.2 ns = false → isIn x.2 ws = true) :
    idx ns ws o = if isIn x.2 ns = true then (x.1 : Int) else -1 := by
  obtain ⟨r, e1, e2⟩ := dn_split h hq
  unfold idx
  rw [e2]
  cases r with
  | nil => cases e1
  | cons y r =>
    rw [dn] at e1
    injection e1 with e1 _
    subst e1
    cases hn : isIn y ns with
    | true => rw [findS_hit r hn]; rfl
    | false => rw [findS_wall r hn (hx hn)]; rfl

theorem box_own {W W' : World} {B n : Nat} {t : TypeId} {v : Value} {row : Option Nat} (h : Boxed W B t v) (hg : W.grownBy W' row) (hr : ∀ r, row = some r → n ≤ r ∧ ∃ o : Obj, W.heap[r]? = some o ∧ o.isCells = false) : Boxed W' B t v :=
  h.kept hg fun e => by
    obtain ⟨_, o, ho, hc⟩ := hr B e.symm
    rw [show W.heap[B]? = _ from h] at ho
    cases ho
    cases hc
/-- What the rounds leave. -/
def Fl (w : World) (ns ws : List ByteArray) (v1 v2 : Value) (pre : List (Nat × ByteArray)) (W : World) : Prop :=
  Boxed W w.heap.size 41 v1 ∧ Boxed W (w.heap.size + 1) 41 v2 ∧ Boxed W (w.heap.size + 1 + 1) 3 (.int .i64 0) ∧ Below w.heap.size w W ∧ w.heap.size + 1 + 1 + 1 + 1 ≤ W.heap.size ∧ ∀ p ∈ pre, past ns ws p
def Fx (w : World) (ns ws : List ByteArray) (c : Code) (pre : List (Nat × ByteArray)) (W : World) : Prop :=
  c = .ret ∧ ∃ q x, pre = q ++ [x] ∧ (∀ p ∈ q, past ns ws p) ∧ (isIn x.2 ns = false → isIn x.2 ws = true) ∧ Boxed W (w.heap.size + 1 + 1) 3 (.int .i64 (if isIn x.2 ns = true then (x.1 : Int) else -1)) ∧ Below w.heap.size w W
theorem Fl.own (w : World) (ns ws : List ByteArray) (v1 v2 : Value) (n : Nat) (hn : w.heap.size ≤ n) : OwnFrom n (Fl w ns ws v1 v2) := fun s W W' row hs hg hr =>
  ⟨box_own hs.1 hg hr, box_own hs.2.1 hg hr, box_own hs.2.2.1 hg hr, hs.2.2.2.1.grown hg hs.2.2.2.1.size (fun k hk => Nat.le_trans hn (hr k hk).1), Nat.le_trans hs.2.2.2.2.1 hg.size, hs.2.2.2.2.2⟩
theorem Fx.own (w : World) (ns ws : List ByteArray) (c : Code) (n : Nat) (hn : w.heap.size ≤ n) : OwnFrom n (Fx w ns ws c) := fun s W W' row hs hg hr => by
  obtain ⟨hc, q, x, e1, e2, e3, h2, h3⟩ := hs
  exact ⟨hc, q, x, e1, e2, e3, box_own h2 hg hr, h3.grown hg h3.size (fun k hk => Nat.le_trans hn (hr k hk).1)⟩

theorem among1 (A : Option Addr) (c N n : Nat) (l : List ByteArray) (s : ByteArray) (w : World) (hr : Rd w N A l) (hl : l.length ≤ 1000) (q : Bool) (hq : isIn s l = q) (hn : n = l.length) :
    Calls Tryz.prog 111 #[.string s, .slice A n c] w fun e w' => e = .returned (.bool q) ∧ w = w' := by
  subst hq; subst hn
  exact among_any A c N l s w hr (by omega)

set_option maxRecDepth 100000 in
set_option maxHeartbeats 4000000 in
theorem find_any (A A1 A2 : Option Addr) (c c1 c2 : Nat) (l ns ws : List ByteArray) (w : World) (hm : l.length ≤ 1000000) (hr : Rd w w.heap.size A l) (hr1 : Rd w w.heap.size A1 ns) (hr2 : Rd w w.heap.size A2 ws) (hn1 : ns.length ≤ 1000) (hn2 : ws.length ≤ 1000) :
    Calls Tryz.prog 95 #[.slice A l.length c, .slice A1 ns.length c1, .slice A2 ws.length c2] w fun e w' => e = .returned (.int .i64 (idx ns ws l)) ∧ Below w.heap.size w w' := by
  have x0 := Boxed.new w 41 (.slice A1 ns.length c1)
  replace x0 := Lib.hid (((x0.alloc (.cells #[.slice A2 ws.length c2] 41)).alloc (.cells #[.int .i64 0] 3)).alloc (.cells #[.slice A l.length c] 41))
  have x1 := Boxed.new (w.alloc (.cells #[.slice A1 ns.length c1] 41)) 41 (.slice A2 ws.length c2)
  rw [World.size_alloc] at x1
  replace x1 := Lib.hid ((x1.alloc (.cells #[.int .i64 0] 3)).alloc (.cells #[.slice A l.length c] 41))
  have x2 := Boxed.new ((w.alloc (.cells #[.slice A1 ns.length c1] 41)).alloc (.cells #[.slice A2 ws.length c2] 41)) 3 (.int .i64 0)
  rw [World.size_alloc, World.size_alloc] at x2
  replace x2 := Lib.hid (x2.alloc (.cells #[.slice A l.length c] 41))
  have x3 := Boxed.new (((w.alloc (.cells #[.slice A1 ns.length c1] 41)).alloc (.cells #[.slice A2 ws.length c2] 41)).alloc (.cells #[.int .i64 0] 3)) 41 (.slice A l.length c)
  rw [World.size_alloc, World.size_alloc, World.size_alloc] at x3
  replace x3 := Lib.hid x3
  have hB0 := ((((below_one w (.cells #[.slice A1 ns.length c1] 41)).alloc (by simp <;> omega) (.cells #[.slice A2 ws.length c2] 41)).alloc (by simp <;> omega) (.cells #[.int .i64 0] 3)).alloc (by simp <;> omega) (.cells #[.slice A l.length c] 41))
  have HR := Lib.hid (hr.below hB0 (Nat.le_refl _))
  have HR1 := Lib.hid hr1; have HR2 := Lib.hid hr2
  have HB0 := Lib.hid hB0
  clear hB0 hr hr1 hr2
  refine (callsIn_wide (n := 4)).1 ?_
  refine callsIn_of_wp_marks Tryz.func95 rfl trivial ?_ rfl
  simp only [Tryz.ntmps95, List.size_toArray, List.length_cons, List.length_nil, Nat.reduceAdd, Nat.reduceSub, Array.replicate_succ, Array.replicate_zero, List.push_toArray, List.append_toArray, List.nil_append, List.cons_append]
  gi_wp2_with (refine ⟨trivial, ?_⟩; gi_at_call 110; refine (callsIn_wide.2 (fromEnd_any A _ c _)).mono ?_; rintro e w' ⟨rfl, rfl⟩)
  refine wpIn_rangeFunc_ownG rfl (by omega) (gf := 121) (lb := #[.pointer (some ⟨w.heap.size + 1 + 1 + 1, 0, none⟩)]) rfl trivial (enters_of Tryz.func121 (by kernel_rfl) rfl)
    (from_stops (4 - 1) (by omega) (w.heap.size + 1 + 1 + 1) w.heap.size A c l hm _ (by simp <;> omega) x3.out HR.out) Kp.t (Kp.b (by simp <;> omega) (by simp <;> omega)) (Below.refl _ _) (fun _ => rfl)
    (Fl w ns ws (.slice A1 ns.length c1) (.slice A2 ws.length c2)) (Fx w ns ws) (Fl.own w ns ws _ _ _ (by simp <;> omega)) (fun c => Fx.own w ns ws c _ (by simp <;> omega))
    ⟨x0.out, x1.out, x2.out, HB0.out, by simp, fun p hp => by cases hp⟩
    (fun x => { tmps := #[.slice A l.length c, .slice A1 ns.length c1, .slice A2 ws.length c2, undef, .pointer (some ⟨w.heap.size, 0, none⟩), .pointer (some ⟨w.heap.size + 1, 0, none⟩), .pointer (some ⟨w.heap.size + 1 + 1, 0, none⟩), .int .i64 (x.1 : Nat), .string x.2, .slice A l.length c, .func (.func 121) #[] #[.pointer (some ⟨w.heap.size + 1 + 1 + 1, 0, none⟩)], .int .i64 (x.1 : Nat), .string x.2, undef, undef, undef, undef, undef, undef, undef, undef, undef], defers := [] }) ?assign ?body ?done ?stop
  case assign =>
    intro l x W K hK
    gi_wp2
    exact hK
  case body =>
    rintro lp pre x W ⟨b0, b1, b2, hB, hsz, hps⟩ hlt
    have k0 := b0.cell
    have k1 := b1.cell
    have k2 := b2.cell
    have f2 := b2.frozen
    have hw1 := HR1.out.below hB (Nat.le_refl _)
    have hw2 := HR2.out.below hB (Nat.le_refl _)
    have HW1 := Lib.hid hw1; have HW2 := Lib.hid hw2
    clear hw1 hw2
    cases hx : isIn x.2 ns with
    | true =>
      have HX := Lib.hid hx
      clear hx
      gi_wp2_with (refine ⟨trivial, ?_⟩; gi_at_call 111; refine (CallsIn.inRound lp (callsIn_wide.2 (among1 A1 c1 _ _ ns x.2 W HW1.out hn1 true HX.out rfl))).mono ?_; rintro e w' ⟨rfl, rfl⟩)
      exact ⟨(KeepsOthers.setCell _ _ _).from _, rfl, pre, x, rfl, hps, (fun e => by rw [HX.out] at e; cases e), by rw [HX.out, if_pos rfl]; exact b2.set _, hB.setCell (p := ⟨w.heap.size + 1 + 1, 0, none⟩) (by show w.heap.size ≤ w.heap.size + 1 + 1; omega) _⟩
    | false =>
    cases hy : isIn x.2 ws with
    | true =>
      have HX := Lib.hid hx; have HY := Lib.hid hy
      clear hx hy
      gi_wp2_with fail
      refine ⟨trivial, ?_⟩
      gi_at_call 111
      refine (CallsIn.inRound lp (callsIn_wide.2 (among1 A1 c1 _ _ ns x.2 W HW1.out hn1 false HX.out rfl))).mono ?_
      rintro e w' ⟨rfl, rfl⟩
      gi_wp2_with fail
      refine ⟨trivial, ?_⟩
      gi_at_call 111
      refine (CallsIn.inRound lp (callsIn_wide.2 (among1 A2 c2 _ _ ws x.2 W HW2.out hn2 true HY.out rfl))).mono ?_
      rintro e w' ⟨rfl, rfl⟩
      gi_wp2
      exact ⟨(KeepsOthers.setCell _ _ _).from _, rfl, pre, x, rfl, hps, (fun _ => HY.out), by rw [HX.out, if_neg (by simp)]; exact b2.set _, hB.setCell (p := ⟨w.heap.size + 1 + 1, 0, none⟩) (by show w.heap.size ≤ w.heap.size + 1 + 1; omega) _⟩
    | false =>
      have HX := Lib.hid hx; have HY := Lib.hid hy
      clear hx hy
      gi_wp2_with fail
      refine ⟨trivial, ?_⟩
      gi_at_call 111
      refine (CallsIn.inRound lp (callsIn_wide.2 (among1 A1 c1 _ _ ns x.2 W HW1.out hn1 false HX.out rfl))).mono ?_
      rintro e w' ⟨rfl, rfl⟩
      gi_wp2_with fail
      refine ⟨trivial, ?_⟩
      gi_at_call 111
      refine (CallsIn.inRound lp (callsIn_wide.2 (among1 A2 c2 _ _ ws x.2 W HW2.out hn2 false HY.out rfl))).mono ?_
      rintro e w' ⟨rfl, rfl⟩
      gi_wp2
      exact ⟨KeepsFrom.refl _ _, Kp.r _, b0, b1, b2, hB, hsz, fun p hp => by
        rcases List.mem_append.1 hp with e | e
        · exact hps p e
        · rw [List.mem_singleton.1 e]; exact ⟨HX.out, HY.out⟩⟩
  case done =>
    rintro D ys W hD rfl ⟨b0, b1, b2, hB, hsz, hps⟩ hK
    have k2 := b2.cell
    have f2 := b2.frozen
    have HI := Lib.hid (idx_none hps)
    gi_wp2
    refine ⟨by simp, .inl ⟨_, _, rfl, run_takeDeferred (show (W.setCell ⟨w.heap.size + 1 + 1, 0, none⟩ _).heap[D]? = _ from (Below.heap_setCell W ⟨w.heap.size + 1 + 1, 0, none⟩ _ D (by have := hD; simp at this; show D ≠ w.heap.size + 1 + 1; omega)).trans hK), ?_⟩⟩
    have hK' : (W.setCell ⟨w.heap.size + 1 + 1, 0, none⟩ (.int .i64 (-1))).heap[D]? = some (.deferred (some [])) := (Below.heap_setCell W ⟨w.heap.size + 1 + 1, 0, none⟩ _ D (by have := hD; simp at this; show D ≠ w.heap.size + 1 + 1; omega)).trans hK
    have q2 := cell_kept (b2.set (.int .i64 (-1))).cell (grownBy_putObj' _ D (.deferred none)) (fun r e => by cases e; exact ⟨_, hK', rfl⟩)
    refine ⟨.int .i64 (-1), ?_, by rw [HI.out], (hB.setCell (p := ⟨w.heap.size + 1 + 1, 0, none⟩) (by show w.heap.size ≤ w.heap.size + 1 + 1; omega) _).trans (belowK_b (w := w) (Nat.le_refl _) _ D _ _ (by have := hD; simp at this; omega) hK' rfl rfl)⟩
    simp [results, Tryz.f95, go_sem, q2]
  case stop =>
    rintro D c pre W hD hpre ⟨rfl, q, x, rfl, hq, hx, b2, hB⟩ hK
    obtain ⟨t, ht⟩ := hpre
    have HI := Lib.hid (idx_stop (o := l) (t := t) (by rw [← ht, List.append_assoc]; rfl) hq hx)
    gi_wp2
    refine ⟨by simp, .inl ⟨_, _, rfl, run_takeDeferred hK, ?_⟩⟩
    have q2 := cell_kept b2.cell (grownBy_putObj' _ D (.deferred none)) (fun r e => by cases e; exact ⟨_, hK, rfl⟩)
    refine ⟨.int .i64 (if isIn x.2 ns = true then (x.1 : Int) else -1), ?_, by rw [HI.out], hB.trans (belowK_b (w := w) (Nat.le_refl _) W D _ _ (by have := hD; simp at this; omega) hK rfl rfl)⟩
    simp [results, Tryz.f95, go_sem, q2]

end Go.Proofs.YtenmlpfjeohkiaaGreatDoor.Bu

namespace Go.Proofs.YtenmlpfjeohkiaaGreatDoor.Bu
set_option maxRecDepth 100000
set_option linter.unusedVariables false
set_option linter.unusedSimpArgs false
open Go.RowKit Ba Fm Fo Nm Bm
theorem closes_len (n : ByteArray) : (closesL n).length ≤ 1000 := by
  have : ∀ q : List ByteArray, closesL n = q → q.length ≤ 1000 := fun q h => by
    unfold closesL at h
    subst h
    repeat' split
    all_goals decide
  exact this _ rfl
theorem walls_len (n : ByteArray) : (wallsL n).length ≤ 1000 := by
  have : ∀ q : List ByteArray, wallsL n = q → q.length ≤ 1000 := fun q h => by
    unfold wallsL at h
    subst h
    repeat' split
    all_goals decide
  exact this _ rfl
theorem idx_take {ns ws o : List ByteArray} : (idx ns ws o = -1 ∧ findS ns ws o.reverse = none) ∨ (∃ k : Nat, idx ns ws o = k ∧ k < o.length ∧ findS ns ws o.reverse = some (o.take k).reverse) := by
  unfold idx
  cases h : findS ns ws o.reverse with
  | none => exact .inl ⟨rfl, rfl⟩
  | some r =>
    obtain ⟨e, hl⟩ := found_take h
    exact .inr ⟨r.length, rfl, hl, by rw [← e]⟩

theorem find1 (V V1 V2 : Value) (M : Nat) (l ns ws : List ByteArray) (w : World) (hm : l.length ≤ 1000000) (A : Option Addr) (c : Nat) (hV : V = .slice A l.length c) (hr : Rd w w.heap.size A l) (h1 : Sv w w.heap.size V1 ns) (h2 : Sv w w.heap.size V2 ws) (hn1 : ns.length ≤ 1000) (hn2 : ws.length ≤ 1000) (i : Int) (hi : idx ns ws l = i) :
    Calls Tryz.prog 95 #[V, V1, V2] w fun e w' => e = .returned (.int .i64 i) ∧ Below w.heap.size w w' := by
  obtain ⟨A1, c1, rfl, _, _, hr1⟩ := h1
  obtain ⟨A2, c2, rfl, _, _, hr2⟩ := h2
  subst hV; subst hi
  exact find_any A A1 A2 c c1 c2 l ns ws w hm hr hr1 hr2 hn1 hn2

set_option maxRecDepth 100000 in
set_option maxHeartbeats 1000000 in
theorem closed_any (A : Option Addr) (c : Nat) (l : List ByteArray) (n : ByteArray) (w : World) (hm : l.length ≤ 1000000) (hc : l.length ≤ c) (hr : Rd w w.heap.size A l) :
    Calls Tryz.prog 91 #[.slice A l.length c, .string n] w fun e w' => ∃ k : Nat, e = .returned (.slice A k c) ∧ k ≤ l.length ∧ (l.take k).reverse = closedS (closesL n) (wallsL n) l.reverse ∧ Below w.heap.size w w' := by
  have hL1 := closes_len n
  have hL2 := walls_len n
  go_enter Tryz.func91, Tryz.ntmps91
  go_wp2_with fail
  refine (Na.closes_any n w).mono ?_
  rintro e w1 ⟨V1, rfl, s1, b1⟩
  go_wp2_with fail
  refine (Na.walls_any n w1).mono ?_
  rintro e w2 ⟨V2, rfl, s2, b2⟩
  have v1 : Sv w2 w2.heap.size V1 (closesL n) := sv_own (s1.below b2 (Nat.le_refl _))
  have v2 : Sv w2 w2.heap.size V2 (wallsL n) := sv_own s2
  have B2 := bt b1 b2
  have hr2 : Rd w2 w2.heap.size A l := (hr.below B2 (Nat.le_refl _)).more B2.size
  have HV1 := Lib.hid v1; have HV2 := Lib.hid v2; have HB2 := Lib.hid B2; have HR2 := Lib.hid hr2
  clear v1 v2 s1 s2 b1 b2 B2 hr hr2
  obtain ⟨i, hi⟩ : ∃ i, idx (closesL n) (wallsL n) l = i := ⟨_, rfl⟩
  go_wp2_with fail
  refine (find1 _ V1 V2 0 l (closesL n) (wallsL n) w2 hm A c rfl HR2.out HV1.out HV2.out hL1 hL2 i hi).mono ?_
  rintro e w3 ⟨rfl, b3⟩
  have HI := Lib.hid hi
  have HB3 := Lib.hid b3
  clear hi b3
  go_wp2
  go_loopw [0, 7] (fun v x wr => ∃ (k : Nat) (j : Int), v = .slice A k c ∧ x = .int .i64 j ∧ k ≤ l.length ∧ idx (closesL n) (wallsL n) (l.take k) = j ∧ closedS (closesL n) (wallsL n) (l.take k).reverse = closedS (closesL n) (wallsL n) l.reverse ∧ Below w2.heap.size w2 wr) (fun v _ _ => lenOf v)
  case atStart => exact ⟨l.length, i, rfl, rfl, Nat.le_refl _, by rw [List.take_length]; exact HI.out, by rw [List.take_length], HB3.out⟩
  case round =>
    obtain ⟨k, j, rfl, rfl, hk, hj, hcl, hb⟩ := hrel
    rcases idx_take (ns := closesL n) (ws := wallsL n) (o := l.take k) with ⟨e1, e2⟩ | ⟨m, e1, hmk, e2⟩
    · rw [hj] at e1
      subst e1
      rw [closedS_no e2] at hcl
      have HC := Lib.hid hcl; have HB := Lib.hid hb
      clear hcl hb hj e2
      go_wp2
      go_ret
      exact ⟨k, rfl, hk, HC.out, bt HB2.out HB.out⟩
    · rw [hj] at e1
      subst e1
      have hlk : (l.take k).length = k := by rw [List.length_take]; omega
      rw [hlk] at hmk
      have et : (l.take k).take m = l.take m := by rw [List.take_take, Nat.min_eq_left (by omega)]
      rw [closedS_yes e2, et] at hcl
      have hge : decide ((0 : Int) ≤ (m : Int)) = true := decide_eq_true (by omega)
      have hr3 : Rd wr wr.heap.size A (l.take m) := ((HR2.out.below hb (Nat.le_refl _)).more hb.size).take m
      have v1 := (HV1.out.below hb (Nat.le_refl _)).more hb.size
      have v2 := (HV2.out.below hb (Nat.le_refl _)).more hb.size
      have hml : (l.take m).length = m := by rw [List.length_take]; omega
      obtain ⟨i2, hi2⟩ : ∃ i, idx (closesL n) (wallsL n) (l.take m) = i := ⟨_, rfl⟩
      have HC := Lib.hid hcl; have HB := Lib.hid hb; have HV1' := Lib.hid v1; have HV2' := Lib.hid v2; have HR3 := Lib.hid hr3; have HML := Lib.hid hml; have HI2 := Lib.hid hi2
      clear hcl hb hj e2 v1 v2 hr3 hml hi2 et hlk
      have hm0 : (0 : Int) ≤ (m : Int) := by omega
      have hmc : (m : Int) ≤ (c : Int) := by omega
      go_wp2_with fail
      refine (find1 _ V1 V2 0 (l.take m) (closesL n) (wallsL n) wr (by rw [HML.out]; omega) A c (by rw [HML.out]) HR3.out HV1'.out HV2'.out hL1 hL2 i2 HI2.out).mono ?_
      rintro e w4 ⟨rfl, b4⟩
      have HB4 := Lib.hid b4
      clear b4
      go_wp2
      go_roundw
      case rel => exact ⟨m, i2, rfl, rfl, by omega, HI2.out, HC.out, bt HB.out HB4.out⟩
      case measure => simp [lenOf]; omega

theorem closed1 (V : Value) (l : List ByteArray) (n : ByteArray) (w : World) (hm : l.length ≤ 1000000) (A : Option Addr) (c : Nat) (hV : V = .slice A l.length c) (hc : l.length ≤ c) (hr : Rd w w.heap.size A l) :
    Calls Tryz.prog 91 #[V, .string n] w fun e w' => ∃ k : Nat, e = .returned (.slice A k c) ∧ k ≤ l.length ∧ (l.take k).reverse = closedS (closesL n) (wallsL n) l.reverse ∧ Below w.heap.size w w' := by
  subst hV
  exact closed_any A c l n w hm hc hr

/-- Is it one of the three that close a paragraph besides? -/
theorem para_true {n : ByteArray} (h : para n = true) : (n.toList == [108, 105]) = true ∨ ((n.toList == [108, 105]) = false ∧ (n.toList == [100, 100]) = true) ∨ ((n.toList == [108, 105]) = false ∧ (n.toList == [100, 100]) = false ∧ (n.toList == [100, 116]) = true) := by
  unfold para at h
  rw [Bool.or_eq_true, Bool.or_eq_true, decide_eq_true_iff, decide_eq_true_iff, decide_eq_true_iff] at h
  have e1 : n_li.toList = [108, 105] := by rw [toList_L]
  have e2 : n_dd.toList = [100, 100] := by rw [toList_L]
  have e3 : n_dt.toList = [100, 116] := by rw [toList_L]
  rcases h with (rfl | rfl) | rfl
  · exact .inl (by rw [e1]; rfl)
  · exact .inr (.inl ⟨by rw [e2]; rfl, by rw [e2]; rfl⟩)
  · exact .inr (.inr ⟨by rw [e3]; rfl, by rw [e3]; rfl, by rw [e3]; rfl⟩)
theorem para_false {n : ByteArray} (h : para n = false) : (n.toList == [108, 105]) = false ∧ (n.toList == [100, 100]) = false ∧ (n.toList == [100, 116]) = false := by
  unfold para at h
  rw [Bool.or_eq_false_iff, Bool.or_eq_false_iff, decide_eq_false_iff_not, decide_eq_false_iff_not, decide_eq_false_iff_not] at h
  have e1 : n_li.toList = [108, 105] := by rw [toList_L]
  have e2 : n_dd.toList = [100, 100] := by rw [toList_L]
  have e3 : n_dt.toList = [100, 116] := by rw [toList_L]
  rw [← e1, ← e2, ← e3, eq_of_toList, eq_of_toList, eq_of_toList]
  exact ⟨decide_eq_false h.1.1, decide_eq_false h.1.2, decide_eq_false h.2⟩
theorem opened_yes {n : ByteArray} (h : para n = true) (s : List ByteArray) : openedS n s = closedS (closesL n_p) (wallsL n_p) (closedS (closesL n) (wallsL n) s) := by
  unfold openedS
  rw [if_pos h]
  rfl
theorem opened_no {n : ByteArray} (h : para n = false) (s : List ByteArray) : openedS n s = closedS (closesL n) (wallsL n) s := by
  unfold openedS
  rw [if_neg (by rw [h]; simp)]

set_option maxRecDepth 100000 in
set_option maxHeartbeats 1000000 in
theorem leftOpen_yes (A : Option Addr) (c : Nat) (l : List ByteArray) (n : ByteArray) (w : World) (hm : l.length ≤ 1000000) (hc : l.length ≤ c) (hr : Rd w w.heap.size A l) (hp : para n = true) :
    Calls Tryz.prog 68 #[.slice A l.length c, .string n] w fun e w' => ∃ k : Nat, e = .returned (.slice A k c) ∧ k ≤ l.length ∧ (l.take k).reverse = openedS n l.reverse ∧ Below w.heap.size w w' := by
  have HR := Lib.hid hr; have HO := Lib.hid (opened_yes hp l.reverse)
  have hq := para_true hp
  clear hr hp
  rcases hq with q1 | ⟨q1, q2⟩ | ⟨q1, q2, q3⟩
  · have HH := HO
    clear HH
    go_enter Tryz.func68, Tryz.ntmps68
    go_wp2_with fail
    refine (closed_any A c l n w hm hc HR.out).mono ?_
    rintro e w1 ⟨k, rfl, hk, hcl, b1⟩
    have hkl : (l.take k).length = k := by rw [List.length_take]; omega
    have hr1 : Rd w1 w1.heap.size A (l.take k) := ((HR.out.below b1 (Nat.le_refl _)).more b1.size).take k
    have HC := Lib.hid hcl; have HB := Lib.hid b1; have HKL := Lib.hid hkl; have HR1 := Lib.hid hr1
    clear hcl b1 hkl hr1
    go_wp2_with fail
    refine (closed1 _ (l.take k) n_p w1 (by rw [HKL.out]; omega) A c (by rw [HKL.out]) (by rw [HKL.out]; omega) HR1.out).mono ?_
    rintro e w2 ⟨k2, rfl, hk2, hcl2, b2⟩
    rw [HKL.out] at hk2
    have et : (l.take k).take k2 = l.take k2 := by rw [List.take_take, Nat.min_eq_left hk2]
    rw [et, HC.out] at hcl2
    have HC2 := Lib.hid hcl2
    have HB2 := Lib.hid (bt HB.out b2)
    clear hcl2 et b2
    go_wp2
    go_ret
    exact ⟨k2, rfl, Nat.le_trans hk2 hk, by rw [HC2.out, HO.out], HB2.out⟩
  · have HH := HO
    clear HH
    go_enter Tryz.func68, Tryz.ntmps68
    go_wp2_with fail
    refine (closed_any A c l n w hm hc HR.out).mono ?_
    rintro e w1 ⟨k, rfl, hk, hcl, b1⟩
    have hkl : (l.take k).length = k := by rw [List.length_take]; omega
    have hr1 : Rd w1 w1.heap.size A (l.take k) := ((HR.out.below b1 (Nat.le_refl _)).more b1.size).take k
    have HC := Lib.hid hcl; have HB := Lib.hid b1; have HKL := Lib.hid hkl; have HR1 := Lib.hid hr1
    clear hcl b1 hkl hr1
    go_wp2_with fail
    refine (closed1 _ (l.take k) n_p w1 (by rw [HKL.out]; omega) A c (by rw [HKL.out]) (by rw [HKL.out]; omega) HR1.out).mono ?_
    rintro e w2 ⟨k2, rfl, hk2, hcl2, b2⟩
    rw [HKL.out] at hk2
    have et : (l.take k).take k2 = l.take k2 := by rw [List.take_take, Nat.min_eq_left hk2]
    rw [et, HC.out] at hcl2
    have HC2 := Lib.hid hcl2
    have HB2 := Lib.hid (bt HB.out b2)
    clear hcl2 et b2
    go_wp2
    go_ret
    exact ⟨k2, rfl, Nat.le_trans hk2 hk, by rw [HC2.out, HO.out], HB2.out⟩
  · have HH := HO
    clear HH
    go_enter Tryz.func68, Tryz.ntmps68
    go_wp2_with fail
    refine (closed_any A c l n w hm hc HR.out).mono ?_
    rintro e w1 ⟨k, rfl, hk, hcl, b1⟩
    have hkl : (l.take k).length = k := by rw [List.length_take]; omega
    have hr1 : Rd w1 w1.heap.size A (l.take k) := ((HR.out.below b1 (Nat.le_refl _)).more b1.size).take k
    have HC := Lib.hid hcl; have HB := Lib.hid b1; have HKL := Lib.hid hkl; have HR1 := Lib.hid hr1
    clear hcl b1 hkl hr1
    go_wp2_with fail
    refine (closed1 _ (l.take k) n_p w1 (by rw [HKL.out]; omega) A c (by rw [HKL.out]) (by rw [HKL.out]; omega) HR1.out).mono ?_
    rintro e w2 ⟨k2, rfl, hk2, hcl2, b2⟩
    rw [HKL.out] at hk2
    have et : (l.take k).take k2 = l.take k2 := by rw [List.take_take, Nat.min_eq_left hk2]
    rw [et, HC.out] at hcl2
    have HC2 := Lib.hid hcl2
    have HB2 := Lib.hid (bt HB.out b2)
    clear hcl2 et b2
    go_wp2
    go_ret
    exact ⟨k2, rfl, Nat.le_trans hk2 hk, by rw [HC2.out, HO.out], HB2.out⟩
set_option maxRecDepth 100000 in
set_option maxHeartbeats 1000000 in
theorem leftOpen_no (A : Option Addr) (c : Nat) (l : List ByteArray) (n : ByteArray) (w : World) (hm : l.length ≤ 1000000) (hc : l.length ≤ c) (hr : Rd w w.heap.size A l) (hp : para n = false) :
    Calls Tryz.prog 68 #[.slice A l.length c, .string n] w fun e w' => ∃ k : Nat, e = .returned (.slice A k c) ∧ k ≤ l.length ∧ (l.take k).reverse = openedS n l.reverse ∧ Below w.heap.size w w' := by
  have HO := Lib.hid (opened_no hp l.reverse)
  obtain ⟨q1, q2, q3⟩ := para_false hp
  clear hp
  go_enter Tryz.func68, Tryz.ntmps68
  go_wp2_with fail
  refine (closed_any A c l n w hm hc hr).mono ?_
  rintro e w1 ⟨k, rfl, hk, hcl, b1⟩
  have HC := Lib.hid hcl; have HB := Lib.hid b1
  clear hcl b1 hr
  go_wp2
  go_ret
  exact ⟨k, rfl, hk, by rw [HC.out, HO.out], HB.out⟩
theorem leftOpen_any (A : Option Addr) (c : Nat) (l : List ByteArray) (n : ByteArray) (w : World) (hm : l.length ≤ 1000000) (hc : l.length ≤ c) (hr : Rd w w.heap.size A l) :
    Calls Tryz.prog 68 #[.slice A l.length c, .string n] w fun e w' => ∃ k : Nat, e = .returned (.slice A k c) ∧ k ≤ l.length ∧ (l.take k).reverse = openedS n l.reverse ∧ Below w.heap.size w w' := by
  cases hp : para n with
  | true => exact leftOpen_yes A c l n w hm hc hr hp
  | false => exact leftOpen_no A c l n w hm hc hr hp

theorem nested_any (n : ByteArray) (V : Value) (l : List ByteArray) (w : World) (hm : l.length ≤ 1000000) (h : Sv w w.heap.size V l) (q : Bool) (hq : nestedB n l = q) :
    Calls Tryz.prog 45 #[.string n, V] w fun e w' => e = .returned (.bool q) ∧ Below w.heap.size w w' := by
  obtain ⟨A, c, rfl, hc, _, hr⟩ := h
  go_enter Tryz.func45, Tryz.ntmps45
  go_wp2_with fail
  refine (leftOpen_any A c l n w hm hc hr).mono ?_
  rintro e w1 ⟨k, rfl, hk, ho, b1⟩
  have hkl : (l.take k).length = k := by rw [List.length_take]; omega
  have he : ((k : Int) == (l.length : Int)) = q := by
    rw [← hq, nestedB, ← ho, List.length_reverse, hkl, Bool.eq_iff_iff, beq_iff_eq, decide_eq_true_iff]
    omega
  have HB := Lib.hid b1
  clear b1 ho hq hkl
  go_wp2
  go_ret
  exact ⟨rfl, HB.out⟩

end Go.Proofs.YtenmlpfjeohkiaaGreatDoor.Bu

namespace Go.Proofs.YtenmlpfjeohkiaaGreatDoor.Re
set_option linter.unusedSimpArgs false
set_option linter.unusedVariables false
open Go.RowKit Ba Rm
end Go.Proofs.YtenmlpfjeohkiaaGreatDoor.Re

namespace Go.Proofs.YtenmlpfjeohkiaaGreatDoor.Wr
set_option linter.unusedSimpArgs false
set_option linter.unusedVariables false
open Go.RowKit Ba Fm Fo Nm Wm
open Ro (At Ro Cw ros rowO rowV below_new range2 range5 cells)
open To (Kb bulk_at)
open Tm (bulkA)
open Rm (dec esc)
theorem rb_below {w w' : World} {g : Nat} {x : Cw} (h : Rb w g x) (hb : Below w.heap.size w w') : Rb w' g x := (hb.block g h.lt).trans h
theorem ret_str {a b : ByteArray} (h : a = b) : Ending.returned (.string a) = .returned (.string b) := by rw [h]
theorem L_append (a b : ByteArray) : L (a ++ b) = L a ++ L b := by unfold L; rw [ByteArray.data_append, Array.toList_append]
theorem B_of {a : ByteArray} {l : List UInt8} (h : L a = l) : a = B l := by rw [← h, B_L]

end Go.Proofs.YtenmlpfjeohkiaaGreatDoor.Wr

namespace Go.Proofs.YtenmlpfjeohkiaaGreatDoor.Wr
set_option maxRecDepth 100000
set_option linter.unusedSimpArgs false
set_option linter.unusedVariables false
open Go.RowKit Ba Fm Fo Nm Wm
open Ro (At Ro Cw ros rowO rowV below_new range2 range5 cells)
open Tm (pre)
open To (Bx)
open Bm (nestedB)
theorem all_step (l : List At) (k : Nat) (h : k < l.length) : (l.drop k).all attB = (attB l[k] && (l.drop (k + 1)).all attB) := by
  rw [List.drop_eq_getElem_cons h, List.all_cons]
theorem bxb {w w' : World} {g : Nat} {x y : ByteArray} (h : Bx w g x y) (hb : Below w.heap.size w w') : Bx w' g x y := Bx.below h hb
set_option maxRecDepth 100000 in
set_option maxHeartbeats 2000000 in
theorem legalAttrs1 (A : Option Addr) (c : Nat) (l : List At) (N : Nat) (w : World) (hr : Ro.Ra w N A l) (hN : N ≤ w.heap.size) (hl : l.length ≤ 10000000) (hz : ∀ a ∈ l, a.name.size ≤ 10000000 ∧ a.value.size ≤ 10000000) (q : Bool) (hq : l.all attB = q) :
    Calls Tryz.prog 39 #[.slice A l.length c] w fun e w' => e = .returned (.bool q) ∧ Below w.heap.size w w' := by
  have HR := Lib.hid hr; have HQ := Lib.hid hq; have HZ := Lib.hid hz
  clear hr hq hz
  go_enter Tryz.func39, Tryz.ntmps39
  go_wp2
  go_loopw [7] (fun i wr => ∃ k : Nat, i = .int .i64 k ∧ k ≤ l.length ∧ (l.drop k).all attB = q ∧ Below w.heap.size w wr) (fun i _ => l.length - (intOf i).toNat)
  case atStart => exact ⟨0, rfl, Nat.zero_le _, by rw [List.drop_zero]; exact HQ.out, Below.refl _ _⟩
  case round =>
    obtain ⟨k, rfl, hk, hn, hb⟩ := hrel
    by_cases hp : k < l.length
    · obtain ⟨b0, off0, y, hA, hb0, hdy, hry, hym⟩ := Ro.Ra.at_ (Ro.Ra.below (Ro.Ra.more HR.out hN) hb) k hp
      have hst := all_step l k hp
      have hy : l[k] = y := by
        rw [List.drop_eq_getElem_cons hp] at hdy
        injection hdy
      rw [hn, hy] at hst
      obtain ⟨z1, z2⟩ := HZ.out y (by rw [← hy]; exact List.getElem_mem _)
      have z3 : y.name.size ≤ 140737488355328 := by omega
      have z4 : y.value.size ≤ 140737488355328 := by omega
      obtain ⟨a, ha⟩ : ∃ a, attrB y.name = a := ⟨_, rfl⟩
      obtain ⟨d, hd⟩ : ∃ d, cleanB (L y.name) = d := ⟨_, rfl⟩
      obtain ⟨e0, he0⟩ : ∃ e0, cleanB (L y.value) = e0 := ⟨_, rfl⟩
      unfold attB at hst
      rw [ha, hd, he0] at hst
      obtain ⟨f0, f1⟩ := range2 hry
      have hbx := Bx.new wr y.name y.value
      have c0 := hbx.c0
      have c1 := hbx.c1
      have HBX := Lib.hid hbx; have HST := Lib.hid hst; have HA := Lib.hid ha; have HD := Lib.hid hd; have HE := Lib.hid he0; have HB := Lib.hid (bt hb (below_new wr (.cells #[.string y.name, .string y.value] 46)))
      subst hA
      clear hbx hst ha hd he0 hb hdy hry hym hy hn
      go_wp2_with fail
      refine (Na.attr_any y.name _ z3).mono ?_
      rw [HA.out]
      rintro e w1 ⟨rfl, rfl⟩
      cases a with
      | false =>
        go_wp2
        go_ret
        exact ⟨ret_bool (by rw [HST.out]; rfl), HB.out⟩
      | true =>
        go_wp2_with fail
        refine (clean1 y.name _ z3 d HD.out).mono ?_
        rintro e w2 ⟨rfl, hb2⟩
        have hbx2 := bxb HBX.out hb2
        have c2 := hbx2.c1
        have HB2 := Lib.hid (bt HB.out hb2)
        clear hb2 hbx2 c0 c1
        cases d with
        | false =>
          go_wp2
          go_ret
          exact ⟨ret_bool (by rw [HST.out]; rfl), HB2.out⟩
        | true =>
          go_wp2_with fail
          refine (clean1 y.value w2 z4 e0 HE.out).mono ?_
          rintro e w3 ⟨rfl, hb3⟩
          have HB3 := Lib.hid (bt HB2.out hb3)
          clear hb3 c2
          cases e0 with
          | false =>
            go_wp2
            go_ret
            exact ⟨ret_bool (by rw [HST.out]; rfl), HB3.out⟩
          | true =>
            go_wp2
            go_roundw
            case rel => exact ⟨k + 1, by go_num, by omega, by rw [HST.out]; rfl, HB3.out⟩
            case measure => simp [intOf]; omega
    · rw [List.drop_of_length_le (by omega), List.all_nil] at hn
      subst hn
      have HB := Lib.hid hb
      clear hb
      go_wp2
      go_ret
      exact ⟨rfl, HB.out⟩

theorem att_sizes {x : Ro} (h : rb x ≤ 10000000) : x.attrs.length ≤ 10000000 ∧ ∀ a ∈ x.attrs, a.name.size ≤ 10000000 ∧ a.value.size ≤ 10000000 := by
  unfold rb at h
  refine ⟨by omega, fun a ha => ?_⟩
  obtain ⟨k, hk, rfl⟩ := List.getElem_of_mem ha
  have := To.bulk_at x.attrs k hk
  omega
set_option maxRecDepth 100000 in
set_option maxHeartbeats 2000000 in
theorem legal1 (x : Cw) (N : Nat) (w : World) (hx : Ro.Att w N x) (hN : N ≤ w.heap.size) (hrb : rb x.ro ≤ 10000000) (q : Bool) (hq : rowB x.ro = q) :
    Calls Tryz.prog 19 #[rowV x] w fun e w' => e = .returned (.bool q) ∧ Below w.heap.size w w' := by
  obtain ⟨hal, haz⟩ := att_sizes hrb
  have hns : x.ro.name.size ≤ 140737488355328 := by unfold rb at hrb; omega
  have hds : x.ro.data.size ≤ 140737488355328 := by unfold rb at hrb; omega
  obtain ⟨W1, hW1⟩ : ∃ W1, w.alloc (rowO x) = W1 := ⟨_, rfl⟩
  have hrb1 : Rb W1 w.heap.size x := by rw [← hW1]; exact Rb.new w x
  have hb1 : Below w.heap.size w W1 := by rw [← hW1]; exact below_new w _
  obtain ⟨c0, c1, c2, c3, c4⟩ := hrb1.c
  have hr1 : Ro.Ra W1 W1.heap.size x.A x.ro.attrs := Ro.Ra.more (Ro.Ra.below (Ro.Ra.more hx.2.2.2.1 hN) hb1) hb1.size
  have HW1 := Lib.hid hW1; have HRB := Lib.hid hrb1; have HB1 := Lib.hid hb1; have HR1 := Lib.hid hr1; have HAZ := Lib.hid haz
  clear hW1 hrb1 hb1 hr1 haz hx
  by_cases h0 : x.ro.kind = 0
  · have g0 : (x.ro.kind == 0) = true := beq_iff_eq.2 h0
    obtain ⟨a, ha⟩ : ∃ a, nameB x.ro.name = a := ⟨_, rfl⟩
    obtain ⟨b, hb⟩ : ∃ b, x.ro.attrs.all attB = b := ⟨_, rfl⟩
    unfold rowB at hq
    rw [if_pos h0, ha, hb] at hq
    have HA := Lib.hid ha; have HB := Lib.hid hb; have HQ := Lib.hid hq
    clear ha hb hq h0
    go_enter Tryz.func19, Tryz.ntmps19
    go_upto_region 1 with (fail)
    rw [HW1.out]
    go_wp2_with fail
    refine (legalName1 x.ro.name W1 hns a HA.out).mono ?_
    rintro e w2 ⟨rfl, hb2⟩
    have hc4 := (rb_below HRB.out hb2).c.2.2.2.2
    have HB2 := Lib.hid (bt HB1.out hb2)
    have hr2 : Ro.Ra w2 w2.heap.size x.A x.ro.attrs := Ro.Ra.more (Ro.Ra.below HR1.out hb2) hb2.size
    have HR2 := Lib.hid hr2
    clear hb2 c0 c1 c2 c3 c4 hr2
    cases a with
    | false =>
      go_wp2
      go_ret
      exact ⟨ret_bool (by rw [← HQ.out]; rfl), HB2.out⟩
    | true =>
      go_wp2_with fail
      refine (legalAttrs1 x.A x.c x.ro.attrs w2.heap.size w2 HR2.out (Nat.le_refl _) hal HAZ.out b HB.out).mono ?_
      rintro e w3 ⟨rfl, hb3⟩
      have HB3 := Lib.hid (bt HB2.out hb3)
      clear hb3 hc4
      go_wp2
      go_ret
      exact ⟨ret_bool (by rw [← HQ.out]; cases b <;> rfl), HB3.out⟩
  have g0 : (x.ro.kind == 0) = false := beq_eq_false_iff_ne.2 h0
  obtain ⟨b, hb⟩ : ∃ b, cleanB (L x.ro.data) = b := ⟨_, rfl⟩
  by_cases h2 : x.ro.kind = 2
  · have g2 : (x.ro.kind == 2) = true := beq_iff_eq.2 h2
    obtain ⟨a, ha⟩ : ∃ a, noteB (L x.ro.data) = a := ⟨_, rfl⟩
    unfold rowB at hq
    rw [if_neg h0, if_pos h2, ha, hb] at hq
    have HA := Lib.hid ha; have HB := Lib.hid hb; have HQ := Lib.hid hq
    clear ha hb hq h0 h2
    go_enter Tryz.func19, Tryz.ntmps19
    go_upto_region 1 with (fail)
    rw [HW1.out]
    go_wp2_with fail
    refine (legalComment1 x.ro.data W1 hds a HA.out).mono ?_
    rintro e w2 ⟨rfl, rfl⟩
    cases a with
    | false =>
      go_wp2
      go_ret
      exact ⟨ret_bool (by rw [← HQ.out]; rfl), HB1.out⟩
    | true =>
      go_wp2_with fail
      refine (clean1 x.ro.data W1 hds b HB.out).mono ?_
      rintro e w3 ⟨rfl, hb3⟩
      have HB3 := Lib.hid (bt HB1.out hb3)
      clear hb3 c0 c1 c2 c3 c4
      go_wp2
      go_ret
      exact ⟨ret_bool (by rw [← HQ.out]; cases b <;> rfl), HB3.out⟩
  · have g2 : (x.ro.kind == 2) = false := beq_eq_false_iff_ne.2 h2
    unfold rowB at hq
    rw [if_neg h0, if_neg h2, hb] at hq
    have HB := Lib.hid hb; have HQ := Lib.hid hq
    clear hb hq h0 h2
    go_enter Tryz.func19, Tryz.ntmps19
    go_upto_region 1 with (fail)
    rw [HW1.out]
    go_wp2_with fail
    refine (clean1 x.ro.data W1 hds b HB.out).mono ?_
    rintro e w3 ⟨rfl, hb3⟩
    have HB3 := Lib.hid (bt HB1.out hb3)
    clear hb3 c0 c1 c2 c3 c4
    go_wp2
    go_ret
    exact ⟨ret_bool HQ.out, HB3.out⟩

theorem last_at {s : List ByteArray} (h : 0 < s.length) : lastN s = s[s.length - 1] := by
  unfold lastN
  rw [List.getLastD_eq_getLast?, List.getLast?_eq_getElem?, List.getElem?_eq_getElem (by omega)]; rfl
set_option maxRecDepth 100000 in
set_option maxHeartbeats 2000000 in
theorem legalWithin1 (x : Cw) (V : Value) (s : List ByteArray) (w : World) (hs : Sv w w.heap.size V s) (hl : s.length ≤ 1000000) (hrb : rb x.ro ≤ 10000000) (q : Bool) (hq : withB x.ro s = q) :
    Calls Tryz.prog 20 #[rowV x, V] w fun e w' => e = .returned (.bool q) ∧ Below w.heap.size w w' := by
  have hns : x.ro.name.size ≤ 140737488355328 := by unfold rb at hrb; omega
  have hds : x.ro.data.size ≤ 140737488355328 := by unfold rb at hrb; omega
  obtain ⟨A, c, rfl, hc, hm, hr⟩ := hs
  obtain ⟨W1, hW1⟩ : ∃ W1, w.alloc (rowO x) = W1 := ⟨_, rfl⟩
  have hrb1 : Rb W1 w.heap.size x := by rw [← hW1]; exact Rb.new w x
  have hb1 : Below w.heap.size w W1 := by rw [← hW1]; exact below_new w _
  obtain ⟨g, hg⟩ : ∃ g, w.heap.size = g := ⟨_, rfl⟩
  have hr1 : Rd W1 W1.heap.size A s := (hr.below hb1 (Nat.le_refl _)).more hb1.size
  rw [hg] at hrb1
  have HW1 := Lib.hid hW1; have HRB := Lib.hid hrb1; have HB1 := Lib.hid hb1; have HR1 := Lib.hid hr1; have HQ := Lib.hid hq; have HG := Lib.hid hg
  clear hW1 hrb1 hb1 hr1 hr hq hg
  go_enter Tryz.func20, Tryz.ntmps20
  go_upto_if 8 with (fail)
  rw [HW1.out, HG.out]
  go_cut [5] from 9 to 14 (fun s5 wx => s5 = .string (lastN s) ∧ wx = W1)
  case first =>
    by_cases h : 0 < s.length
    · obtain ⟨b, off, rfl, hb, hcc⟩ := HR1.out h
      have hcell := hcc (s.length - 1) (by omega)
      rw [← last_at h] at hcell
      have hcast : (s.length : Int) - 1 = ((s.length - 1 : Nat) : Int) := by omega
      have hlt : s.length - 1 < s.length := by omega
      have hd : decide (0 < s.length) = true := decide_eq_true h
      clear hcc
      go_wp2
      go_meet
      exact ⟨rfl, rfl⟩
    · obtain rfl : s = [] := List.eq_nil_of_length_eq_zero (by omega)
      go_wp2
      go_meet
      exact ⟨rfl, rfl⟩
  case rest =>
    obtain ⟨rfl, rfl⟩ := hcut
    obtain ⟨p, hp⟩ : ∃ p, lastN s = p := ⟨_, rfl⟩
    have hq := HQ.out
    unfold withB at hq
    rw [hp] at hq
    rw [hp]
    obtain ⟨v, hv⟩ : ∃ v, isIn p voidL = v := ⟨_, rfl⟩
    obtain ⟨r, hr⟩ : ∃ r, isIn p rawL = r := ⟨_, rfl⟩
    obtain ⟨t, ht⟩ : ∃ t, isIn p softL = t := ⟨_, rfl⟩
    rw [hv, hr, ht] at hq
    have HV := Lib.hid hv; have HR := Lib.hid hr; have HT := Lib.hid ht; have HQ2 := Lib.hid hq
    clear hp hv hr ht hq HQ
    go_wp2_with fail
    refine (Na.void_any p wc).mono ?_
    rw [HV.out]
    rintro e w2 ⟨rfl, hb2⟩
    have HB2 := Lib.hid hb2
    clear hb2
    cases v with
    | true =>
      go_wp2
      go_ret
      exact ⟨ret_bool (by rw [← HQ2.out]; rfl), bt HB1.out HB2.out⟩
    | false =>
    go_wp2_with fail
    refine (Na.raw_any p w2).mono ?_
    rw [HR.out]
    rintro e w3 ⟨rfl, hb3⟩
    have HB3 := Lib.hid (bt HB2.out hb3)
    clear hb3
    have hrb3 := rb_below HRB.out HB3.out
    obtain ⟨c0, c1, c2, c3, c4⟩ := hrb3.c
    have HRB3 := Lib.hid hrb3
    clear hrb3
    cases r with
    | true =>
      have hq2 := HQ2.out
      rw [if_neg (by simp), if_pos rfl] at hq2
      cases hk : x.ro.kind == 1 with
      | false =>
        rw [hk] at hq2
        have HQ3 := Lib.hid hq2
        clear hq2
        go_wp2
        go_ret
        exact ⟨ret_bool (by rw [← HQ3.out]; rfl), bt HB1.out HB3.out⟩
      | true =>
        obtain ⟨a, ha⟩ : ∃ a, plainB (L x.ro.data) = a := ⟨_, rfl⟩
        rw [hk, ha] at hq2
        have HQ3 := Lib.hid hq2; have HA := Lib.hid ha
        clear hq2 ha
        go_wp2_with fail
        refine (legalRaw1 x.ro.data w3 hds a HA.out).mono ?_
        rintro e w4 ⟨rfl, rfl⟩
        go_wp2
        go_ret
        exact ⟨ret_bool (by rw [← HQ3.out]; rfl), bt HB1.out HB3.out⟩
    | false =>
    go_wp2_with fail
    refine (Na.soft_any p w3).mono ?_
    rw [HT.out]
    rintro e w4 ⟨rfl, hb4⟩
    have HB4 := Lib.hid (bt HB3.out hb4)
    have hrb4 := rb_below HRB3.out hb4
    clear hb4 c0 c1 c2 c3 c4
    obtain ⟨c0, c1, c2, c3, c4⟩ := hrb4.c
    have HRB4 := Lib.hid hrb4
    clear hrb4
    cases t with
    | true =>
      have hq2 := HQ2.out
      rw [if_neg (by simp), if_neg (by simp), if_pos rfl] at hq2
      have HQ3 := Lib.hid hq2
      clear hq2
      go_wp2
      go_ret
      exact ⟨ret_bool HQ3.out, bt HB1.out HB4.out⟩
    | false =>
      have hq2 := HQ2.out
      rw [if_neg (by simp), if_neg (by simp), if_neg (by simp)] at hq2
      cases hk : x.ro.kind != 0 with
      | true =>
        rw [hk] at hq2
        have HQ3 := Lib.hid hq2
        clear hq2
        go_wp2
        go_ret
        exact ⟨ret_bool (by rw [← HQ3.out]; rfl), bt HB1.out HB4.out⟩
      | false =>
        obtain ⟨a, ha⟩ : ∃ a, nestedB x.ro.name s = a := ⟨_, rfl⟩
        rw [hk, ha] at hq2
        have HQ3 := Lib.hid hq2; have HA := Lib.hid ha
        clear hq2 ha
        go_wp2_with fail
        refine (Bu.nested_any x.ro.name (.slice A s.length c) s w4 hl ⟨A, c, rfl, hc, hm, (HR1.out.below HB4.out (Nat.le_refl _)).more HB4.out.size⟩ a HA.out).mono ?_
        rintro e w5 ⟨rfl, hb5⟩
        have HB5 := Lib.hid (bt HB4.out hb5)
        clear hb5 c0 c1 c2 c3 c4
        go_wp2
        go_ret
        exact ⟨ret_bool (by rw [← HQ3.out]; rfl), bt HB1.out HB5.out⟩

end Go.Proofs.YtenmlpfjeohkiaaGreatDoor.Wr

namespace Go.Proofs.YtenmlpfjeohkiaaGreatDoor.Bm
set_option linter.unusedVariables false
set_option linter.unusedSimpArgs false
open Ba Fm Nm
open Ro (At Ro)
open Tm (Tk put)
/-- No text is empty. -/
def full (l : List Ro) : Prop := ∀ x ∈ l, x.kind = 1 → x.data ≠ ⟨#[]⟩
theorem full_nil : full [] := fun x h => by cases h
theorem full_snoc {l : List Ro} {y : Ro} (h : full l) (hy : y.kind = 1 → y.data ≠ ⟨#[]⟩) : full (l ++ [y]) := fun x hx => by
  rcases List.mem_append.1 hx with e | e
  · exact h x e
  · rw [List.mem_singleton.1 e]; exact hy
theorem full_tail {x : Ro} {l : List Ro} (h : full (x :: l)) : full l := fun y hy => h y (List.mem_cons_of_mem _ hy)
theorem full_init {l m : List Ro} (h : full (l ++ m)) : full l := fun y hy => h y (List.mem_append_left _ hy)
/-- Is the last row a text, and how deep is it? -/
def ending (l : List Ro) : Option (Bool × Int) := l.getLast?.map fun x => (decide (x.kind = 1), x.depth)
theorem ending_snoc (l : List Ro) (y : Ro) : ending (l ++ [y]) = some (decide (y.kind = 1), y.depth) := by
  unfold ending
  rw [List.getLast?_append]
  rfl

theorem normal_other {x : Ro} (hk : ¬ x.kind = 1) (r : List Ro) : Ro.normal (x :: r) = x :: Ro.normal r := by rw [Ro.normal, if_neg hk]
theorem normal_text {x : Ro} (hk : x.kind = 1) (hx : x.data ≠ ⟨#[]⟩) (r : List Ro) :
    Ro.normal (x :: r) = ⟨x.depth, 1, ⟨#[]⟩, B (Ro.txt (x :: r.take (Ro.nexts x.depth r))), []⟩ :: Ro.normal (r.drop (Ro.nexts x.depth r)) := by
  rw [Ro.normal, if_pos hk, if_neg]
  · rfl
  · rw [Ro.txt, if_pos hk]
    intro e
    refine hx (L_inj ?_)
    exact (List.append_eq_nil_iff.1 e).1
theorem normal_ne {l : List Ro} (h : full l) (hl : l ≠ []) : Ro.normal l ≠ [] := by
  cases l with
  | nil => exact absurd rfl hl
  | cons x r =>
    by_cases hk : x.kind = 1
    · rw [normal_text hk (h x List.mem_cons_self hk)]
      exact List.cons_ne_nil _ _
    · rw [normal_other hk]
      exact List.cons_ne_nil _ _
theorem nexts_more {d : Int} {r : List Ro} {y : Ro} (h : Ro.nexts d r < r.length) : Ro.nexts d (r ++ [y]) = Ro.nexts d r := by
  unfold Ro.nexts at h ⊢
  rw [List.takeWhile_append, if_neg (by omega)]
theorem nexts_all {d : Int} {r : List Ro} {y : Ro} (h : Ro.nexts d r = r.length) : Ro.nexts d (r ++ [y]) = r.length + (if y.kind = 1 ∧ y.depth = d then 1 else 0) := by
  unfold Ro.nexts at h ⊢
  rw [List.takeWhile_append, if_pos h, List.length_append]
  congr 1
  by_cases hy : y.kind = 1 ∧ y.depth = d
  · rw [if_pos hy, List.takeWhile_cons_of_pos (by rw [hy.1, hy.2]; simp)]
    rfl
  · rw [if_neg hy, List.takeWhile_cons_of_neg (by
      intro e
      rw [Bool.and_eq_true, beq_iff_eq, beq_iff_eq] at e
      exact hy e)]
    rfl
theorem snoc_cases {α : Type} (l : List α) : l = [] ∨ ∃ m y, l = m ++ [y] := by
  rcases List.eq_nil_or_concat l with h | ⟨m, y, h⟩
  · exact .inl h
  · exact .inr ⟨m, y, by rw [h, List.concat_eq_append]⟩
theorem add_ne {a b : List Ro} (hb : b ≠ []) (d : Int) (t : ByteArray) : addText (a ++ b) d t = a ++ addText b d t := by
  obtain ⟨c, z, rfl⟩ : ∃ c z, b = c ++ [z] := (snoc_cases b).resolve_left hb
  unfold addText
  rw [← List.append_assoc, List.getLast?_append, List.getLast?_append, List.getLast?_append]
  show (if z.kind = 1 ∧ z.depth = d then _ else _) = a ++ (if z.kind = 1 ∧ z.depth = d then _ else _)
  rw [List.dropLast_concat, List.dropLast_concat]
  split <;> simp only [List.append_assoc]
theorem add_one {J : Ro} {d : Int} {t : ByteArray} : addText [J] d t = if J.kind = 1 ∧ J.depth = d then [⟨J.depth, J.kind, J.name, J.data ++ t, J.attrs⟩] else [J, ⟨d, 1, ⟨#[]⟩, t, []⟩] := rfl
theorem normal_one {y : Ro} (hk : y.kind = 1) (hy : y.data ≠ ⟨#[]⟩) : Ro.normal [y] = [⟨y.depth, 1, ⟨#[]⟩, y.data, []⟩] := by
  rw [normal_text hk hy]
  show ⟨y.depth, 1, ⟨#[]⟩, B (Ro.txt [y]), []⟩ :: Ro.normal ([] : List Ro) = _
  rw [Ro.txt_text hk, B_L, Ro.normal]
theorem normal_snoc (l : List Ro) (y : Ro) : full (l ++ [y]) → Ro.normal (l ++ [y]) = if y.kind = 1 then addText (Ro.normal l) y.depth y.data else Ro.normal l ++ [y] := by
  induction hn : l.length using Nat.strongRecOn generalizing l with
  | ind n ih =>
    subst hn
    intro hf
    have hy := hf y (List.mem_append_right _ (List.mem_singleton.2 rfl))
    cases l with
    | nil =>
      by_cases hk : y.kind = 1
      · rw [if_pos hk]
        show Ro.normal [y] = addText (Ro.normal []) _ _
        rw [normal_one hk (hy hk), Ro.normal]
        rfl
      · rw [if_neg hk]
        show Ro.normal [y] = Ro.normal [] ++ [y]
        rw [normal_other hk, Ro.normal]
        rfl
    | cons x r =>
      have hx := hf x List.mem_cons_self
      have hfr : full (r ++ [y]) := full_tail (show full (x :: (r ++ [y])) from hf)
      show Ro.normal (x :: (r ++ [y])) = _
      by_cases hkx : x.kind = 1
      · rw [normal_text hkx (hx hkx), normal_text hkx (hx hkx)]
        obtain ⟨m, hm⟩ : ∃ m, Ro.nexts x.depth r = m := ⟨_, rfl⟩
        have hle : m ≤ r.length := by rw [← hm]; exact (List.takeWhile_sublist _).length_le
        rw [hm]
        by_cases hlt : m < r.length
        · rw [nexts_more (by rw [hm]; exact hlt), hm, List.take_append_of_le_length hle, List.drop_append_of_le_length hle]
          have hd : r.drop m ≠ [] := fun e => by have := congrArg List.length e; rw [List.length_drop, List.length_nil] at this; omega
          have hfd : full (r.drop m ++ [y]) := fun z hz => by
            rcases List.mem_append.1 hz with e | e
            · exact hfr z (List.mem_append_left _ (List.mem_of_mem_drop e))
            · exact hfr z (List.mem_append_right _ e)
          rw [ih _ (by rw [List.length_drop, List.length_cons]; omega) _ rfl hfd]
          have hne := normal_ne (full_init hfd) hd
          split
          · exact (add_ne (a := [_]) hne _ _).symm
          · rfl
        · have hm2 : m = r.length := by omega
          rw [nexts_all (by rw [hm]; exact hm2), hm2, List.take_length, List.drop_length]
          have e0 : Ro.normal ([] : List Ro) = [] := by rw [Ro.normal]
          by_cases hyy : y.kind = 1 ∧ y.depth = x.depth
          · rw [if_pos hyy, if_pos hyy.1, e0, add_one, if_pos ⟨rfl, hyy.2.symm⟩]
            have e1 : r.length + 1 = (r ++ [y]).length := by rw [List.length_append]; rfl
            rw [e1, List.take_length, List.drop_length, e0]
            have e2 : Ro.txt (x :: (r ++ [y])) = Ro.txt (x :: r) ++ L y.data := by
              rw [← List.cons_append, Ro.txt_append, Ro.txt_text hyy.1]
            rw [e2, ← B_append, B_L]
          · rw [if_neg hyy, Nat.add_zero, List.take_append_of_le_length (Nat.le_refl _), List.take_length, List.drop_append_of_le_length (Nat.le_refl _), List.drop_length, e0]
            by_cases hk : y.kind = 1
            · rw [if_pos hk, add_one, if_neg (fun e => hyy ⟨hk, e.2.symm⟩), List.nil_append, normal_one hk (hy hk)]
            · rw [if_neg hk, List.nil_append, normal_other hk, e0]
              rfl
      · rw [normal_other hkx, normal_other hkx, ih _ (Nat.lt_succ_self _) _ rfl hfr]
        split
        · exact (add_behind (o0 := [x]) (o := Ro.normal r) (fun z hz => by injection hz with hz; rw [← hz]; exact hkx)).symm
        · rfl
theorem ending_add (o : List Ro) (d : Int) (t : ByteArray) : ending (addText o d t) = some (true, d) := by
  unfold addText
  cases hy : o.getLast? with
  | none => rw [ending_snoc]; rfl
  | some z =>
    show ending (if z.kind = 1 ∧ z.depth = d then _ else _) = _
    split
    · rename_i h
      rw [ending_snoc]
      show some (decide (z.kind = 1), z.depth) = _
      rw [decide_eq_true h.1, h.2]
    · rw [ending_snoc]; rfl
theorem ending_normal {l : List Ro} (h : full l) : ending (Ro.normal l) = ending l := by
  rcases snoc_cases l with rfl | ⟨m, y, rfl⟩
  · rw [Ro.normal]
  · rw [normal_snoc m y h, ending_snoc]
    split
    · rename_i hk; rw [ending_add, decide_eq_true hk]
    · rw [ending_snoc]
theorem len_add (o : List Ro) (d : Int) (t : ByteArray) : (addText o d t).length = o.length + (if ending o = some (true, d) then 0 else 1) := by
  unfold addText ending
  cases hy : o.getLast? with
  | none => show (o ++ [_]).length = _; rw [List.length_append]; rfl
  | some z =>
    show (if z.kind = 1 ∧ z.depth = d then _ else _ : List Ro).length = o.length + (if some (decide (z.kind = 1), z.depth) = some (true, d) then 0 else 1)
    have ho : o ≠ [] := fun e => by rw [e] at hy; cases hy
    have hl : 0 < o.length := List.length_pos_iff.2 ho
    by_cases hc : z.kind = 1 ∧ z.depth = d
    · rw [if_pos hc, if_pos (by rw [decide_eq_true hc.1, hc.2]), List.length_append, List.length_dropLast]
      show o.length - 1 + 1 = _
      omega
    · rw [if_neg hc, if_neg (fun e => by
        injection e with e
        injection e with e1 e2
        exact hc ⟨of_decide_eq_true e1, e2⟩), List.length_append]
      rfl
/-- Is a row a text that becomes one with the last row? -/
def meets (l : List Ro) (y : Ro) : Bool := decide (y.kind = 1) && decide (ending l = some (true, y.depth))
theorem len_normal {l : List Ro} {y : Ro} (h : full (l ++ [y])) : (Ro.normal (l ++ [y])).length = (Ro.normal l).length + (if meets l y = true then 0 else 1) := by
  rw [normal_snoc l y h]
  unfold meets
  by_cases hk : y.kind = 1
  · rw [if_pos hk, len_add, ending_normal (full_init h), decide_eq_true hk, Bool.true_and]
    congr 1
    by_cases he : ending l = some (true, y.depth)
    · rw [if_pos he, if_pos (decide_eq_true he)]
    · rw [if_neg he, if_neg (by rw [decide_eq_false he]; simp)]
  · rw [if_neg hk, decide_eq_false hk, List.length_append]
    rfl
theorem big_normal {l : List Ro} {y : Ro} (h : full (l ++ [y])) : tooBig (Ro.normal (l ++ [y])) = (decide (4096 < (Ro.normal (l ++ [y])).length) || decide (60 ≤ y.depth)) := by
  have he := ending_normal h
  rw [ending_snoc] at he
  unfold ending at he
  unfold tooBig
  cases hz : (Ro.normal (l ++ [y])).getLast? with
  | none => rw [hz] at he; cases he
  | some z =>
    rw [hz] at he
    injection he with he
    injection he with _ he
    show (_ || decide (60 ≤ z.depth)) = _
    rw [show z.depth = y.depth from he]

end Go.Proofs.YtenmlpfjeohkiaaGreatDoor.Bm

namespace Go.Proofs.YtenmlpfjeohkiaaGreatDoor.Bu
set_option linter.unusedVariables false
set_option linter.unusedSimpArgs false
open Go.RowKit Ba Fm Fo Nm Bm
open Ro (At Ro Cw ros Fr Ow Att Ap Rr Sh acells len_acells cells len_cells rowV rowO info_row info_attr below_new acells_one flat_at flat_len row_cells_new cells_one range2 range5 len_ros ros_append)
abbrev bp (b : Nat) : Value := .pointer (some ⟨b, 0, none⟩)
/-- Block b is a builder: its open elements, its rows, how many they are joined, whether they are too many. -/
def Bc (w : World) (b : Nat) (vo vr : Value) (n : Int) (big : Bool) : Prop := w.heap[b]? = some (.cells #[vo, vr, .int .i64 n, .bool big] 65)
section
variable {w w' : World} {b : Nat} {vo vr : Value} {n : Int} {big : Bool}
theorem Bc.c0 (h : Bc w b vo vr n big) : w.cell? ⟨b, 0, none⟩ = some vo := by rw [cell_of_row w b 0 _ _ _ h]; rfl
theorem Bc.c1 (h : Bc w b vo vr n big) : w.cell? ⟨b, 1, none⟩ = some vr := by rw [cell_of_row w b 1 _ _ _ h]; rfl
theorem Bc.c2 (h : Bc w b vo vr n big) : w.cell? ⟨b, 2, none⟩ = some (.int .i64 n) := by rw [cell_of_row w b 2 _ _ _ h]; rfl
theorem Bc.c3 (h : Bc w b vo vr n big) : w.cell? ⟨b, 3, none⟩ = some (.bool big) := by rw [cell_of_row w b 3 _ _ _ h]; rfl
theorem Bc.f (h : Bc w b vo vr n big) (j : Nat) : w.frozen? ⟨b, j, none⟩ = false := by
  unfold Bc at h
  simp [World.frozen?, h]
theorem Bc.lt (h : Bc w b vo vr n big) : b < w.heap.size := (Array.getElem?_eq_some_iff.1 h).1
theorem Bc.set0 (h : Bc w b vo vr n big) (u : Value) : Bc (w.setCell ⟨b, 0, none⟩ u) b u vr n big := by
  unfold Bc at h ⊢
  simp [World.setCell, Array.getElem?_modify, h]
theorem Bc.set1 (h : Bc w b vo vr n big) (u : Value) : Bc (w.setCell ⟨b, 1, none⟩ u) b vo u n big := by
  unfold Bc at h ⊢
  simp [World.setCell, Array.getElem?_modify, h]
theorem Bc.set2 (h : Bc w b vo vr n big) (m : Int) : Bc (w.setCell ⟨b, 2, none⟩ (.int .i64 m)) b vo vr m big := by
  unfold Bc at h ⊢
  simp [World.setCell, Array.getElem?_modify, h]
theorem Bc.set3 (h : Bc w b vo vr n big) (m : Bool) : Bc (w.setCell ⟨b, 3, none⟩ (.bool m)) b vo vr n m := by
  unfold Bc at h ⊢
  simp [World.setCell, Array.getElem?_modify, h]
theorem Bc.below (h : Bc w b vo vr n big) (hb : Below w.heap.size w w') : Bc w' b vo vr n big := (hb.block b h.lt).trans h
theorem Bc.drew (h : Bc w b vo vr n big) (k : Nat) : Bc (w.drewN k) b vo vr n big := h
end

theorem g_dN (w : World) (n : Nat) (row : Option Nat) : w.grownBy (w.drewN n) row := ⟨rfl, rfl, rfl, Nat.le_refl _, fun _ _ _ => rfl⟩
theorem g_set (w : World) (b j : Nat) (u : Value) : w.grownBy (w.setCell ⟨b, j, none⟩ u) (some b) :=
  ⟨rfl, rfl, rfl, by simp [World.setCell], fun k _ hk => Below.heap_setCell _ _ _ _ (fun e => hk (by simp [e]))⟩

/-- A row of the call's own does not lie in a block of another type. -/
theorem own_ne {N b n size : Nat} {e t : TypeId} {w : World} {v : Value} {xs : List Value} (h : w.ownsRow N e size v n xs) {cs : Array Value} {fr : Nat × Nat} (hb : w.heap[b]? = some (.cells cs t fr)) (ht : t ≠ e) : v.ownBlock ≠ some b := by
  rcases h.2 with ⟨rfl, _⟩ | ⟨g, cap, cur, rfl, _, hh, _⟩
  · simp [Value.ownBlock]
  · intro e
    have e : g = b := by simpa [Value.ownBlock] using e
    subst e
    rw [hb] at hh
    injection hh with hh
    injection hh with _ h2
    exact ht h2
theorem own_apart {N N' n n' size size' : Nat} {e e' : TypeId} {w : World} {v v' : Value} {xs xs' : List Value} (h : w.ownsRow N e size v n xs) (h' : w.ownsRow N' e' size' v' n' xs') (ht : e' ≠ e) : v.ownBlock = none ∨ v.ownBlock ≠ v'.ownBlock := by
  rcases h'.2 with ⟨rfl, _⟩ | ⟨g, cap, cur, rfl, _, hh, _⟩
  · cases hv : v.ownBlock with
    | none => exact .inl rfl
    | some k => right; simp [Value.ownBlock]
  · exact .inr (own_ne h hh ht)

/-- Boxes of tokens are kept. -/
def Kt (w w' : World) : Prop := ∀ (g : Nat) (cs : Array Value) (fr : Nat × Nat), w.heap[g]? = some (.cells cs 67 fr) → w'.heap[g]? = w.heap[g]?
theorem Kt.refl (w : World) : Kt w w := fun _ _ _ _ => rfl
theorem Kt.trans {w w1 w2 : World} (h : Kt w w1) (h' : Kt w1 w2) : Kt w w2 := fun g cs fr hg => (h' g cs fr ((h g cs fr hg).trans hg)).trans (h g cs fr hg)
theorem Kt.below {w w' : World} (h : Below w.heap.size w w') : Kt w w' := fun g cs fr hg => h.block g (Array.getElem?_eq_some_iff.1 hg).1
theorem Kt.grown {w w' : World} {b : Nat} {cs : Array Value} {t : TypeId} {fr : Nat × Nat} (h : w.grownBy w' (some b)) (hb : w.heap[b]? = some (.cells cs t fr)) (ht : t ≠ 67) : Kt w w' := fun g cs' fr' hg => h.block g (Array.getElem?_eq_some_iff.1 hg).1 fun e => by
  injection e with e
  subst e
  rw [hg] at hb
  injection hb with hb
  injection hb with _ h2
  exact ht h2.symm
theorem Kt.own {w w' : World} {N n size : Nat} {e : TypeId} {v : Value} {xs : List Value} (h : w.grownBy w' v.ownBlock) (ho : w.ownsRow N e size v n xs) (ht : e ≠ 67) : Kt w w' := fun g cs fr hg => h.block g (Array.getElem?_eq_some_iff.1 hg).1 fun e2 => own_ne ho hg ht.symm e2.symm

/-- Rows of the call's own, their attributes too. -/
def Or (N : Nat) (w : World) (v : Value) (l : List Cw) : Prop := w.ownsRow N 34 5 v l.length (l.flatMap cells) ∧ ∀ x ∈ l, Fr N w x
theorem Or.ow {N : Nat} {w : World} {v : Value} {l : List Cw} (h : Or N w v l) : Ow N w v l := ⟨h.1, fun x hx => ⟨(h.2 x hx).att, (h.2 x hx).ap⟩⟩
theorem Or.nil (N : Nat) (w : World) : Or N w (.slice none 0 0) [] := ⟨World.ownsRow_nil w N _ 5, fun _ h => by simp at h⟩
/-- They are kept where what grows is of another type. -/
theorem Or.kept {N b : Nat} {w w' : World} {v : Value} {l : List Cw} (h : Or N w v l) (hg : w.grownBy w' (some b)) {cs : Array Value} {t : TypeId} {fr : Nat × Nat} (hb : w.heap[b]? = some (.cells cs t fr)) (h1 : t ≠ 34) (h2 : t ≠ 46) : Or N w' v l :=
  ⟨World.ownsRow.kept h.1 hg (.inr (own_ne h.1 hb h1)), fun x hx => ⟨World.ownsRow.kept (h.2 x hx).1 hg (.inr (own_ne (h.2 x hx).1 hb h2)), (h.2 x hx).2⟩⟩
theorem Or.apart {N N' n size : Nat} {e : TypeId} {w w' : World} {v u : Value} {xs : List Value} {l : List Cw} (h : Or N w v l) (hu : w.ownsRow N' e size u n xs) (hg : w.grownBy w' u.ownBlock) (h1 : e ≠ 34) (h2 : e ≠ 46) : Or N w' v l :=
  ⟨World.ownsRow.kept h.1 hg (own_apart h.1 hu h1), fun x hx => ⟨World.ownsRow.kept (h.2 x hx).1 hg (own_apart (h.2 x hx).1 hu h2), (h.2 x hx).2⟩⟩
theorem Or.below {N : Nat} {w w' : World} {v : Value} {l : List Cw} (h : Or N w v l) (hb : Below w.heap.size w w') : Or N w' v l := ⟨(h.ow.below hb).1, fun x hx => (h.2 x hx).below hb⟩
theorem Or.form {N : Nat} {w : World} {v : Value} {l : List Cw} (h : Or N w v l) : ∃ A c, v = .slice A l.length c ∧ l.length ≤ c ∧ c ≤ maxLen ∧ (A = none → c = 0) ∧ Rr w w.heap.size A l := h.ow.form
theorem Sown.keptB {N b : Nat} {w w' : World} {v : Value} {l : List ByteArray} (h : Sown N w v l) (hg : w.grownBy w' (some b)) {cs : Array Value} {t : TypeId} {fr : Nat × Nat} (hb : w.heap[b]? = some (.cells cs t fr)) (h1 : t ≠ 9) : Sown N w' v l := World.ownsRow.kept h hg (.inr (own_ne h hb h1))
/-- The first ones of them. -/
theorem Sown.cut {N : Nat} {w : World} {A : Option Addr} {k c : Nat} {l : List ByteArray} (h : Sown N w (.slice A l.length c) l) (hk : k ≤ l.length) : Sown N w (.slice A k c) (l.take k) := by
  have hl : (l.take k).length = k := by rw [List.length_take]; omega
  unfold Sown at h ⊢
  rw [hl]
  obtain ⟨h1, h2⟩ := h
  refine ⟨by rw [List.length_map, hl]; omega, ?_⟩
  rcases h2 with ⟨hv, h0⟩ | ⟨g, cap, cur, hv, hg, hh, hn, hm, hs, ht⟩
  · injection hv with e1 e2 e3
    subst e1; subst e3
    obtain rfl : k = 0 := by omega
    exact .inl ⟨rfl, rfl⟩
  · injection hv with e1 e2 e3
    subst e1; subst e3
    refine .inr ⟨g, c, cur, rfl, hg, hh, by omega, hm, hs, ?_⟩
    have := congrArg (List.take k) ht
    rw [List.take_take, ← List.map_take] at this
    rw [← this]
    congr 1
    omega

/-- A builder in block b. -/
def Bg (N : Nat) (w : World) (b : Nat) (o : List ByteArray) (l : List Cw) (n : Int) (big : Bool) : Prop := ∃ vo vr, Bc w b vo vr n big ∧ Sown N w vo o ∧ Or N w vr l ∧ N ≤ b
theorem Bg.below {N : Nat} {w w' : World} {b : Nat} {o : List ByteArray} {l : List Cw} {n : Int} {big : Bool} (h : Bg N w b o l n big) (hb : Below w.heap.size w w') : Bg N w' b o l n big ∧ Below N w w' := by
  obtain ⟨vo, vr, hc, ho, hr, hN⟩ := h
  exact ⟨⟨vo, vr, hc.below hb, ho.below hb (Nat.le_refl _), hr.below hb, hN⟩, hb.mono (by have := hc.lt; omega)⟩
theorem Bg.lt {N : Nat} {w : World} {b : Nat} {o : List ByteArray} {l : List Cw} {n : Int} {big : Bool} (h : Bg N w b o l n big) : N ≤ b ∧ b < w.heap.size := by
  obtain ⟨vo, vr, hc, ho, hr, hN⟩ := h
  exact ⟨hN, hc.lt⟩

/-- The row at the end. -/
theorem last_row {N : Nat} {w : World} {v : Value} {l : List Cw} (h : Or N w v l) (hl : 0 < l.length) : ∃ b off c x, v = .slice (some ⟨b, off, none⟩) l.length c ∧ l.length ≤ c ∧ b < w.heap.size ∧ w.rangeAt b (off + (l.length - 1) * 5) (cells x) ∧ ending (ros l) = some (decide (x.ro.kind = 1), x.ro.depth) := by
  obtain ⟨A, c, e, hc, _, _, hr⟩ := h.form
  obtain ⟨b, off, x, e2, hb, hd, hx, _, _⟩ := hr.at_ (l.length - 1) (by omega)
  refine ⟨b, off, c, x, by rw [e, e2], hc, hb, hx, ?_⟩
  have hd2 : l.drop (l.length - 1) = [x] := by
    rw [hd, List.drop_eq_nil_of_le (by omega)]
  have hs : l = l.take (l.length - 1) ++ [x] := by rw [← hd2, List.take_append_drop]
  rw [hs]
  unfold ros
  rw [List.map_append]
  exact ending_snoc _ _

end Go.Proofs.YtenmlpfjeohkiaaGreatDoor.Bu

namespace Go.Proofs.YtenmlpfjeohkiaaGreatDoor.Wr
set_option maxRecDepth 100000
set_option linter.unusedSimpArgs false
set_option linter.unusedVariables false
open Go.RowKit Ba Fm Fo Nm Wm
open Ro (At Ro Cw ros rowO rowV below_new range2 range5 cells Rv)
open Tm (pre)
open To (Bx)
open Bm (nestedB)
theorem check_no {l : List Ro} (h : (!Ro.exceeds l 4096 60 && Ro.right l) = false) : ((Ro.check l) != 0) = true ∧ legalB l = false := by
  constructor
  · unfold Ro.check
    cases he : Ro.exceeds l 4096 60 with
    | true => rfl
    | false =>
      rw [he] at h
      have h : Ro.right l = false := by simpa using h
      rw [if_neg (by simp), h, if_neg (by simp)]; rfl
  · unfold legalB
    rw [h]; rfl
theorem check_yes {l : List Ro} (h : (!Ro.exceeds l 4096 60 && Ro.right l) = true) : Ro.check l = 0 ∧ Ro.right l = true ∧ (∀ x ∈ l, x.depth < 60) := by
  rw [Bool.and_eq_true, Bool.not_eq_true'] at h
  refine ⟨Ro.check_of h.1 h.2, h.2, fun x hx => ?_⟩
  have h1 := h.1
  apply Decidable.byContradiction
  intro hc
  have := (Ro.exceeds_iff l 4096 60).2 (.inr ⟨x, hx, by omega⟩)
  rw [h1] at this
  cases this
theorem leg_step {s : List ByteArray} {l : List Ro} {k : Nat} {x : Ro} (h : l[k]? = some x) : legB s (l.drop k) = (rowB x && withB x (s.take x.depth.toNat) && legB (if x.kind = 0 then s.take x.depth.toNat ++ [x.name] else s.take x.depth.toNat) (l.drop (k + 1))) := by
  have hlt := (List.getElem?_eq_some_iff.1 h).1
  rw [List.drop_eq_getElem_cons hlt, legB]
  rw [List.getElem?_eq_getElem hlt] at h
  injection h with h
  rw [h]
theorem right_step' {m : Int} {l : List Ro} {k : Nat} {x : Ro} (h : l[k]? = some x) (hr : Ro.rightFrom m (l.drop k) = true) : 0 ≤ x.depth ∧ x.depth ≤ m ∧ Ro.rightFrom (if x.kind = 0 then x.depth + 1 else x.depth) (l.drop (k + 1)) = true := by
  have hlt := (List.getElem?_eq_some_iff.1 h).1
  rw [List.drop_eq_getElem_cons hlt, Ro.rightFrom] at hr
  rw [List.getElem?_eq_getElem hlt] at h
  injection h with h
  rw [h] at hr
  simp only [Bool.and_eq_true, decide_eq_true_eq] at hr
  exact ⟨hr.1.1.1, hr.1.1.2, hr.2⟩

/-- What Legal keeps from row to row. -/
structure LL (N : Nat) (w wr : World) (v : Value) (s : List ByteArray) (l : List Ro) (k : Nat) (q : Bool) : Prop where
  own : Sown N wr v s
  leg : legB s (l.drop k) = q
  rt : Ro.rightFrom s.length (l.drop k) = true
  few : s.length ≤ 60
  below : Below N w wr

set_option maxRecDepth 100000 in
set_option maxHeartbeats 4000000 in
theorem Legal1 (v : Value) (l : List Cw) (w : World) (h : Rv w v l) (hl : l.length ≤ 1000) (hf : Ro.Few (ros l)) (ht : (Ro.txt (ros l)).length ≤ 1000000000) (hrb : ∀ x ∈ l, rb x.ro ≤ 10000000) (q : Bool) (hq : legalB (ros l) = q) :
    Calls Tryz.prog 7 #[v] w fun e w' => e = .returned (.bool q) ∧ Below w.heap.size w w' := by
  obtain ⟨A, c, hv, hc, hm, hrr, hh⟩ := id h
  obtain ⟨ck, hck⟩ : ∃ ck, (!Ro.exceeds (ros l) 4096 60 && Ro.right (ros l)) = ck := ⟨_, rfl⟩
  have HV := Lib.hid h; have HRB := Lib.hid hrb; have HH := Lib.hid hh; have HF := Lib.hid hf; have HT := Lib.hid ht
  clear h hrb hf ht
  cases ck with
  | false =>
    obtain ⟨h1, h2⟩ := check_no hck
    rw [h2] at hq
    have HRR := Lib.hid hrr
    subst hq hv
    clear h2 hck hrr hh
    go_enter Tryz.func7, Tryz.ntmps7
    go_wp2_with fail
    refine (Ro.check1 _ l w (Ro.check (ros l)) HV.out (by omega) rfl).mono ?_
    rintro e w1 ⟨rfl, hb1⟩
    have HB1 := Lib.hid hb1
    clear hb1
    go_wp2
    go_ret
    exact ⟨rfl, HB1.out⟩
  | true =>
    obtain ⟨h1, h2, h3⟩ := check_yes hck
    have hhn := Ro.held_normal hh
    obtain ⟨nm, hnm⟩ : ∃ nm, Ro.normal (ros l) = nm := ⟨_, rfl⟩
    rw [hnm] at hhn
    obtain ⟨sm, hsm⟩ : ∃ sm, decide (ros l = nm) = sm := ⟨_, rfl⟩
    have hnl : nm.length ≤ 1000 := by
      rw [← hnm]
      have := Ro.len_normal (ros l)
      rw [Ro.len_ros] at this
      omega
    unfold legalB at hq
    rw [hck, Bool.true_and, hnm, hsm] at hq
    have H1 := Lib.hid h1; have H2 := Lib.hid h2; have H3 := Lib.hid h3; have HNM := Lib.hid hnm; have HHN := Lib.hid hhn; have HSM := Lib.hid hsm; have HQ := Lib.hid hq; have HVV := Lib.hid hv
    clear hck hhn hnm hsm h1 h2 h3 hq hh
    have HRR := Lib.hid hrr
    subst hv
    clear hrr
    go_enter Tryz.func7, Tryz.ntmps7
    go_wp2_with fail
    refine (Ro.check1 _ l w 0 HV.out (by omega) H1.out).mono ?_
    rintro e w1 ⟨rfl, hb1⟩
    have HB1 := Lib.hid hb1
    clear hb1
    go_wp2_with fail
    refine (Ro.normal1 _ l w1 nm (HV.out.below HB1.out) (by omega) HF.out HT.out HNM.out HHN.out).mono ?_
    rintro e w2 ⟨u2, y2, rfl, ho2, hfr2, hy2, hv2, hb2⟩
    have HB2 := Lib.hid (bt HB1.out hb2)
    have hyl : y2.length ≤ 1000000 := by
      have := congrArg List.length hy2
      rw [Ro.len_ros] at this
      omega
    have HV2 := Lib.hid hv2; have HY2 := Lib.hid hy2
    clear ho2 hfr2 hy2 hv2 hb2
    go_wp2_with fail
    refine (Ro.same1 _ u2 l y2 w2 sm (HV.out.below HB2.out) HV2.out (by omega) hyl (by rw [HY2.out]; exact HSM.out)).mono ?_
    rintro e w3 ⟨rfl, hb3⟩
    have HB3 := Lib.hid (bt HB2.out hb3)
    clear hb3
    cases sm with
    | false =>
      go_wp2
      go_ret
      exact ⟨ret_bool (by rw [← HQ.out]; rfl), HB3.out⟩
    | true =>
      have hqq := HQ.out
      rw [Bool.true_and] at hqq
      have hl0 : LL w.heap.size w w3 (.slice none 0 0) [] (ros l) 0 q := ⟨Sown.nil _ _, by rw [List.drop_zero]; exact hqq, by rw [List.drop_zero]; exact H2.out, Nat.zero_le _, HB3.out⟩
      have HL0 := Lib.hid hl0
      clear hqq hl0
      go_wp2
      go_loopw [3, 18] (fun v3 i wr => ∃ k s, i = .int .i64 ((k : Nat) : Int) ∧ k ≤ l.length ∧ LL w.heap.size w wr v3 s (ros l) k q) (fun _ i _ => l.length - (intOf i).toNat)
      case atStart => exact ⟨0, [], rfl, Nat.zero_le _, HL0.out⟩
      case round =>
        obtain ⟨k, s, rfl, hk, hll⟩ := hrel
        by_cases hp : k < l.length
        · obtain ⟨b, off, x, rfl, hb, hdx, hx, hxa, hxm⟩ := Ro.Rr.at_ (HRR.out.below hll.below) k hp
          have hget := ros_get hdx
          have hlg := hll.leg
          rw [leg_step hget] at hlg
          obtain ⟨d1, d2, d3⟩ := right_step' hget hll.rt
          obtain ⟨a, ha⟩ : ∃ a, rowB x.ro = a := ⟨_, rfl⟩
          obtain ⟨e0, he0⟩ : ∃ e0, withB x.ro (s.take x.ro.depth.toNat) = e0 := ⟨_, rfl⟩
          rw [ha, he0] at hlg
          have hfew := hll.few
          obtain ⟨A3, c3, hu, hc3, hm3, hr3⟩ := hll.own.form
          subst hu
          have hown1 := Bu.Sown.cut hll.own (show x.ro.depth.toNat ≤ s.length by omega)
          have hbx := Rb.new wr x
          have hbb := below_new wr (rowO x)
          have hd60 := H3.out x.ro (List.mem_of_getElem? hget)
          have hrbx := HRB.out x hxm
          have hNr := hll.below.size
          have hd4 : x.ro.depth ≤ (c3 : Int) := by omega
          have hxa1 : Ro.Att (wr.alloc (rowO x)) (wr.alloc (rowO x)).heap.size x := (hxa.below (hbb.mono hNr)).more (Nat.le_trans hNr hbb.size)
          obtain ⟨c0, c1, c2, c3', c4⟩ := hbx.c
          have hown2 : Sown w.heap.size (wr.alloc (rowO x)) (.slice A3 x.ro.depth.toNat c3) (s.take x.ro.depth.toNat) := hown1.alloc _
          have hB1 := hll.below.trans (hbb.mono hNr)
          have HLG := Lib.hid hlg; have HA := Lib.hid ha; have HE := Lib.hid he0; have HOWN := Lib.hid hown2; have HBX := Lib.hid hbx; have HXA := Lib.hid hxa1; have HD3 := Lib.hid d3; have HBW := Lib.hid hB1
          have HLT := Lib.hid (show (s.take x.ro.depth.toNat).length = x.ro.depth.toNat by rw [List.length_take]; omega)
          clear hlg ha he0 hown1 hown2 hbx hxa1 d3 hB1 hbb hll hdx hget hxa hxm hr3
          go_wp2_with (refine wpList_load_mid rfl 34 (.tmp 20) rfl b (off + k * 5) rfl _ _ hx Tryz.underlying34 rfl Ro.size_row ?_)
          refine (legal1 x (wr.alloc (rowO x)).heap.size (wr.alloc (rowO x)) HXA.out (Nat.le_refl _) hrbx a HA.out).mono ?_
          rintro e w4 ⟨rfl, hb4⟩
          have HO4 := Lib.hid (HOWN.out.below hb4 (Nat.le_refl _)); have HB4 := Lib.hid (HBW.out.trans (hb4.mono (Nat.le_trans hNr (by simp)))); have HX4 := Lib.hid (rb_below HBX.out hb4)
          clear hb4 c0 c1 c2 c3' c4
          obtain ⟨c0, c1, c2, c3', c4⟩ := HX4.out.c
          cases a with
          | false =>
            go_wp2
            go_ret
            exact ⟨ret_bool (by rw [← HLG.out]; rfl), HB4.out⟩
          | true =>
          go_wp2_with fail
          refine (legalWithin1 x (.slice A3 x.ro.depth.toNat c3) (s.take x.ro.depth.toNat) w4 (sv_own HO4.out) (by rw [HLT.out]; omega) hrbx e0 HE.out).mono ?_
          rintro e w5 ⟨rfl, hb5⟩
          have HO5 := Lib.hid (HO4.out.below hb5 (Nat.le_refl _)); have HB5 := Lib.hid (HB4.out.trans (hb5.mono HB4.out.size)); have HX5 := Lib.hid (rb_below HX4.out hb5)
          clear hb5 c0 c1 c2 c3' c4
          obtain ⟨c0, c1, c2, c3', c4⟩ := HX5.out.c
          cases e0 with
          | false =>
            go_wp2
            go_ret
            exact ⟨ret_bool (by rw [← HLG.out]; rfl), HB5.out⟩
          | true =>
          by_cases hkd : x.ro.kind = 0
          · have g0 : (x.ro.kind == 0) = true := beq_iff_eq.2 hkd
            have h3 := HD3.out
            have h4 := HLG.out
            rw [if_pos hkd] at h3 h4
            have HH3 := Lib.hid h3; have HH4 := Lib.hid h4
            have hbd : ((s.take x.ro.depth.toNat).length + 1) * 16 ≤ 140737488355328 := by rw [HLT.out]; omega
            clear h3 h4 hkd
            go_wp2_with (at_builtin; refine app_one w5 rfl (.tmp 38) (.tmp 41) rfl w.heap.size _ (s.take x.ro.depth.toNat) x.ro.name rfl HO5.out rfl hbd HB5.out.size ?_; intro v6 w6 hown6 hk6 _)
            go_roundw
            case rel =>
              refine ⟨k + 1, s.take x.ro.depth.toNat ++ [x.ro.name], by go_num, by omega, ⟨hown6, by rw [← HH4.out]; simp, ?_, ?_, hk6 _ HB5.out⟩⟩
              · have e : ((s.take x.ro.depth.toNat ++ [x.ro.name]).length : Int) = x.ro.depth + 1 := by
                  rw [List.length_append, HLT.out]; simp only [List.length_cons, List.length_nil]; omega
                rw [e]; exact HH3.out
              · rw [List.length_append, HLT.out]; simp only [List.length_cons, List.length_nil]; omega
            case measure => simp [intOf]; omega
          · have g0 : (x.ro.kind == 0) = false := beq_eq_false_iff_ne.2 hkd
            have h3 := HD3.out
            have h4 := HLG.out
            rw [if_neg hkd] at h3 h4
            have HH3 := Lib.hid h3; have HH4 := Lib.hid h4
            clear h3 h4 hkd
            go_wp2
            go_roundw
            case rel =>
              refine ⟨k + 1, s.take x.ro.depth.toNat, by go_num, by omega, ⟨HO5.out, by rw [← HH4.out]; simp, ?_, ?_, HB5.out⟩⟩
              · have e : ((s.take x.ro.depth.toNat).length : Int) = x.ro.depth := by rw [HLT.out]; omega
                rw [e]; exact HH3.out
              · rw [HLT.out]; omega
            case measure => simp [intOf]; omega
        · have hlg := hll.leg
          rw [List.drop_of_length_le (by rw [Ro.len_ros]; omega), legB] at hlg
          subst hlg
          have HLL := Lib.hid hll
          clear hll
          go_wp2
          go_ret
          exact ⟨rfl, HLL.out.below⟩

end Go.Proofs.YtenmlpfjeohkiaaGreatDoor.Wr

namespace Go.Proofs.YtenmlpfjeohkiaaGreatDoor.Wr
set_option maxRecDepth 100000
set_option linter.unusedVariables false
set_option linter.unusedSimpArgs false
open Go.RowKit Ba Fm Fo Nm Wm
open Ro (At Ro Cw ros rowO rowV below_new range2 range5 cells Rv bare rows_new)
def oneC (n s : ByteArray) : List Cw := [bare ⟨0, 0, n, ⟨#[]⟩, []⟩, bare ⟨1, 1, ⟨#[]⟩, s, []⟩]
def ppC : List Cw := [bare ⟨0, 0, n_p, ⟨#[]⟩, []⟩, bare ⟨1, 0, n_p, ⟨#[]⟩, []⟩]
def brC (g : Nat) : List Cw := [⟨⟨0, 0, n_br, ⟨#[]⟩, [⟨⟨#[97]⟩, ⟨#[34]⟩⟩]⟩, some ⟨g, 0, none⟩, 1⟩, bare ⟨0, 2, ⟨#[]⟩, ⟨#[99]⟩, []⟩]
theorem ros_one (n s : ByteArray) : ros (oneC n s) = oneR n s := rfl
theorem ros_pp : ros ppC = ppR := rfl
theorem ros_br (g : Nat) : ros (brC g) = brR := rfl
theorem held_two {a b : Ro} (ha : a.depth = 0) (hb : b.depth = 0 ∨ b.depth = 1) : Ro.Held [a, b] := fun x hx => by
  simp only [List.mem_cons, List.not_mem_nil, or_false] at hx
  rcases hx with rfl | rfl <;> omega
theorem two_new (w : World) (cs : Array Value) (a b : Ro) (ha : a.attrs = []) (hb : b.attrs = []) (hh : Ro.Held [a, b]) (hcs : cs.toList = [bare a, bare b].flatMap cells) : Rv (w.alloc (.cells cs 34)) (.slice (some ⟨w.heap.size, 0, none⟩) 2 2) [bare a, bare b] :=
  (rows_new w [bare a, bare b] cs 2 rfl (by decide) hcs (fun x hx => by
    simp only [List.mem_cons, List.not_mem_nil, or_false] at hx
    rcases hx with rfl | rfl
    · exact ⟨_, rfl, ha⟩
    · exact ⟨_, rfl, hb⟩)).rv hh
/-- Rows freshly written down, with their attributes. -/
theorem rows_lit (w : World) (l : List Cw) (cs : Array Value) (n : Nat) (hn : l.length = n) (hm : n ≤ maxLen) (hcs : cs.toList = l.flatMap cells) (hl : ∀ x ∈ l, Ro.Att (w.alloc (.cells cs 34)) (w.alloc (.cells cs 34)).heap.size x ∧ Ro.Ap (w.alloc (.cells cs 34)) w.heap.size x) :
    Ro.Ow w.heap.size (w.alloc (.cells cs 34)) (.slice (some ⟨w.heap.size, 0, none⟩) n n) l := by
  have hfl : (l.flatMap cells).length = n * 5 := by
    rw [← hn]
    clear hcs hl hn
    induction l with
    | nil => rfl
    | cons x r ih => rw [List.flatMap_cons, List.length_append, ih, List.length_cons]; simp [cells]; omega
  have hsz : cs.size = n * 5 := by rw [← Array.length_toList, hcs, hfl]
  refine ⟨⟨by rw [hn, hfl], .inr ⟨w.heap.size, n, cs, by rw [hn], Nat.le_refl _, heap_alloc_new w _, by rw [hn]; exact Nat.le_refl _, hm, hsz, ?_⟩⟩, hl⟩
  rw [hn, hcs, ← hfl, List.take_length]
theorem br_new (w : World) (cs : Array Value) (g : Nat) (hg : w.heap[g]? = some (.cells #[.string ⟨#[97]⟩, .string ⟨#[34]⟩] 46)) (hcs : cs.toList = (brC g).flatMap cells) : Rv (w.alloc (.cells cs 34)) (.slice (some ⟨w.heap.size, 0, none⟩) 2 2) (brC g) := by
  have hlt : g < w.heap.size := (Array.getElem?_eq_some_iff.1 hg).1
  have hg2 : (w.alloc (.cells cs 34)).heap[g]? = some (.cells #[.string ⟨#[97]⟩, .string ⟨#[34]⟩] 46) := ((below_new w _).block g hlt).trans hg
  refine (rows_lit w (brC g) cs 2 rfl (by decide) hcs (fun x hx => ?_)).rv (held_two rfl (.inl rfl))
  unfold brC at hx
  simp only [List.mem_cons, List.not_mem_nil, or_false] at hx
  rcases hx with rfl | rfl
  · refine ⟨⟨Nat.le_refl _, (fun h => by cases h), (by decide : (1 : Nat) ≤ maxLen), fun _ => ⟨g, 0, rfl, by have := (below_new w (.cells cs 34)).size; show g < _; omega, fun j hj => ?_⟩, ?_⟩, fun _ => ⟨g, 0, rfl, .inl hlt⟩⟩
    · have hj0 : j = 0 := by
        have : j < 1 := hj
        omega
      subst hj0
      intro i u hu
      rw [cell_of_row _ g (0 + 0 * 2 + i) _ _ _ hg2]
      match i, hu with
      | 0, hu => exact hu
      | 1, hu => exact hu
    · intro a ha
      have ha : a ∈ [(⟨⟨#[97]⟩, ⟨#[34]⟩⟩ : At)] := ha
      rw [List.mem_singleton.1 ha]
      decide
  · exact ⟨Ro.bare_att _ _ rfl, Ro.bare_ap _ _ rfl⟩

theorem one_any (n s : ByteArray) (w : World) :
    Calls Tryz.prog 21 #[.string n, .string s] w fun e w' => ∃ v, e = .returned v ∧ Rv w' v (oneC n s) ∧ Below w.heap.size w w' := by
  have hv := two_new w #[.int .i64 0, .int .i64 0, .string n, .string ⟨#[]⟩, .slice none 0 0, .int .i64 1, .int .i64 1, .string ⟨#[]⟩, .string s, .slice none 0 0] ⟨0, 0, n, ⟨#[]⟩, []⟩ ⟨1, 1, ⟨#[]⟩, s, []⟩ rfl rfl (held_two rfl (.inr rfl)) rfl
  go_enter Tryz.func21, Tryz.ntmps21
  go_wp2
  go_ret
  exact ⟨_, rfl, hv, below_new w _⟩

/-- The contracts over values that read as rows. -/
theorem Inside1 (v : Value) (x : List Cw) (i : Int) (w : World) (q : ByteArray) (h : Rv w v x) (hl : x.length ≤ 1000) (hrb : ∀ y ∈ x, rb y.ro ≤ 10000000) (hq : insideB (ros x) i = L q) (hz : q.size ≤ 70000000000000) :
    Calls Tryz.prog 12 #[v, .int .i64 i] w fun e w' => e = .returned (.string q) ∧ Below w.heap.size w w' := by
  obtain ⟨A, c, rfl, hc, hm, hrr, hh⟩ := h
  have := Inside_any A c x i w hrr hc (by omega) hrb (by rw [hq, size_L]; exact hz)
  rwa [hq, B_L] at this
theorem Rows1 (v : Value) (x : List Cw) (w : World) (q : ByteArray) (h : Rv w v x) (hl : x.length ≤ 1000) (hrb : ∀ y ∈ x, rb y.ro ≤ 10000000) (hq : insideB (ros x) (-1) = L q) (hz : q.size ≤ 70000000000000) :
    Calls Tryz.prog 9 #[v] w fun e w' => e = .returned (.string q) ∧ Below w.heap.size w w' := by
  obtain ⟨A, c, rfl, hc, hm, hrr, hh⟩ := h
  have := Rows_any A c x w hrr hc (by omega) hrb (by rw [hq, size_L]; exact hz)
  rwa [hq, B_L] at this
theorem small_two {a b : Cw} (h : (decide (rb a.ro ≤ 10000000) && decide (rb b.ro ≤ 10000000)) = true) : ∀ y ∈ [a, b], rb y.ro ≤ 10000000 := fun y hy => by
  rw [Bool.and_eq_true, decide_eq_true_iff, decide_eq_true_iff] at h
  simp only [List.mem_cons, List.not_mem_nil, or_false] at hy
  rcases hy with rfl | rfl
  · exact h.1
  · exact h.2
theorem few_two {a b : Ro} (h : (decide (a.attrs.length ≤ 1000000) && decide (b.attrs.length ≤ 1000000)) = true) : Ro.Few [a, b] := fun y hy => by
  rw [Bool.and_eq_true, decide_eq_true_iff, decide_eq_true_iff] at h
  simp only [List.mem_cons, List.not_mem_nil, or_false] at hy
  rcases hy with rfl | rfl
  · exact h.1
  · exact h.2
theorem LegalS (v : Value) (x : List Cw) (w : World) (h : Rv w v x) (a b : Cw) (hx : x = [a, b]) (hs : (decide (rb a.ro ≤ 10000000) && decide (rb b.ro ≤ 10000000)) = true) (hf : (decide (a.ro.attrs.length ≤ 1000000) && decide (b.ro.attrs.length ≤ 1000000)) = true) (ht : (Ro.txt (ros x)).length ≤ 1000000000) (q : Bool) (hq : legalB (ros x) = q) :
    Calls Tryz.prog 7 #[v] w fun e w' => e = .returned (.bool q) ∧ Below w.heap.size w w' := by
  subst hx
  exact Legal1 v [a, b] w h (by show 2 ≤ 1000; omega) (few_two hf) ht (small_two hs) q hq

theorem rows_br (w : World) :
    Calls Tryz.prog 9 #[.slice (some ⟨w.heap.size + 1, 0, none⟩) 2 2] ((w.alloc (.cells #[.string ⟨#[97]⟩, .string ⟨#[34]⟩] 46)).alloc (.cells #[.int .i64 0, .int .i64 0, .string ⟨#[98, 114]⟩, .string ⟨#[]⟩, .slice (some ⟨w.heap.size, 0, none⟩) 1 1, .int .i64 0, .int .i64 2, .string ⟨#[]⟩, .string ⟨#[99]⟩, .slice none 0 0] 34)) fun e w' =>
      e = .returned (.string ⟨#[60, 98, 114, 32, 97, 61, 34, 38, 113, 117, 111, 116, 59, 34, 62, 60, 33, 45, 45, 99, 45, 45, 62]⟩) ∧ Below w.heap.size w w' := by
  obtain ⟨W1, hW1⟩ : ∃ W1, w.alloc (.cells #[.string ⟨#[97]⟩, .string ⟨#[34]⟩] 46) = W1 := ⟨_, rfl⟩
  have hs : w.heap.size + 1 = W1.heap.size := by rw [← hW1]; simp
  have hg : W1.heap[w.heap.size]? = some (.cells #[.string ⟨#[97]⟩, .string ⟨#[34]⟩] 46) := by rw [← hW1]; exact heap_alloc_new w _
  have hb : Below w.heap.size w W1 := by rw [← hW1]; exact below_new w _
  rw [hW1, hs]
  refine (Rows1 _ (brC w.heap.size) _ ⟨#[60, 98, 114, 32, 97, 61, 34, 38, 113, 117, 111, 116, 59, 34, 62, 60, 33, 45, 45, 99, 45, 45, 62]⟩ (br_new W1 _ w.heap.size hg rfl) (by show 2 ≤ 1000; omega) (small_two (by show (decide (rb (⟨0, 0, n_br, ⟨#[]⟩, [⟨⟨#[97]⟩, ⟨#[34]⟩⟩]⟩ : Ro) ≤ 10000000) && decide (rb (⟨0, 2, ⟨#[]⟩, ⟨#[99]⟩, []⟩ : Ro) ≤ 10000000)) = true; decide)) (by rw [ros_br]; exact w_b) (by decide)).mono ?_
  rintro e w' ⟨he, hb'⟩
  exact ⟨he, bt hb (bt (below_new W1 _) hb')⟩

set_option maxRecDepth 100000 in
set_option maxHeartbeats 4000000 in
theorem fixed8_any (w : World) : Calls Tryz.prog 8 #[] w fun e w' => e = .returned (.bool true) ∧ Below w.heap.size w w' := by
  obtain ⟨P, hP⟩ : ∃ P, w.alloc (.cells #[.int .i64 0, .int .i64 0, .string ⟨#[112]⟩, .string ⟨#[]⟩, .slice none 0 0, .int .i64 1, .int .i64 0, .string ⟨#[112]⟩, .string ⟨#[]⟩, .slice none 0 0] 34) = P := ⟨_, rfl⟩
  have hpp : Rv P (.slice (some ⟨w.heap.size, 0, none⟩) 2 2) ppC := by rw [← hP]; exact two_new w _ ⟨0, 0, n_p, ⟨#[]⟩, []⟩ ⟨1, 0, n_p, ⟨#[]⟩, []⟩ rfl rfl (held_two rfl (.inr rfl)) rfl
  have hb0 : Below w.heap.size w P := by rw [← hP]; exact below_new w _
  have HPP := Lib.hid hpp; have HBP := Lib.hid hb0; have HP := Lib.hid hP
  clear hpp hb0 hP
  go_enter Tryz.func8, Tryz.ntmps8
  go_upto_region 2 with (fail)
  rw [HP.out]
  have HB0 := Lib.hid (Below.refl P.heap.size P)
  go_wp2_with fail
  refine (one_any n_p t_ab _).mono ?_
  rintro e w1 ⟨v1, rfl, r1, b1⟩
  have HB1 := Lib.hid (bt HB0.out b1); have HR1 := Lib.hid r1
  clear b1 r1
  go_wp2_with fail
  refine (Rows1 v1 _ w1 ⟨#[60, 112, 62, 97, 38, 108, 116, 59, 98, 60, 47, 112, 62]⟩ HR1.out (by decide) (small_two (by decide)) (by rw [ros_one]; exact w_p) (by decide)).mono ?_
  rintro e w2 ⟨rfl, b2⟩
  have HB2 := Lib.hid (bt HB1.out b2)
  clear b2
  go_wp2_with fail
  refine (one_any n_script t_ab _).mono ?_
  rintro e w3 ⟨v3, rfl, r3, b3⟩
  have HB3 := Lib.hid (bt HB2.out b3); have HR3 := Lib.hid r3
  clear b3 r3
  go_wp2_with fail
  refine (Rows1 v3 _ w3 ⟨#[60, 115, 99, 114, 105, 112, 116, 62, 97, 60, 98, 60, 47, 115, 99, 114, 105, 112, 116, 62]⟩ HR3.out (by decide) (small_two (by decide)) (by rw [ros_one]; exact w_s) (by decide)).mono ?_
  rintro e w4 ⟨rfl, b4⟩
  have HB4 := Lib.hid (bt HB3.out b4)
  clear b4
  go_wp2_with fail
  refine (one_any n_p t_ab _).mono ?_
  rintro e w5 ⟨v5, rfl, r5, b5⟩
  have HB5 := Lib.hid (bt HB4.out b5); have HR5 := Lib.hid r5
  clear b5 r5
  go_wp2_with fail
  refine (Inside1 v5 _ 0 w5 ⟨#[97, 38, 108, 116, 59, 98]⟩ HR5.out (by decide) (small_two (by decide)) (by rw [ros_one]; exact w_i) (by decide)).mono ?_
  rintro e w6 ⟨rfl, b6⟩
  have HB6 := Lib.hid (bt HB5.out b6)
  clear b6
  go_wp2_with fail
  refine (rows_br w6).mono ?_
  rintro e w7 ⟨rfl, b7⟩
  have HB7 := Lib.hid (bt HB6.out b7)
  clear b7
  go_wp2_with fail
  refine (one_any n_p t_ab _).mono ?_
  rintro e w8 ⟨v8, rfl, r8, b8⟩
  have HB8 := Lib.hid (bt HB7.out b8); have HR8 := Lib.hid r8
  clear b8 r8
  go_wp2_with fail
  refine (LegalS v8 _ w8 HR8.out _ _ rfl (by decide) (by decide) (by decide) true (by rw [ros_one]; exact legal_p)).mono ?_
  rintro e w9 ⟨rfl, b9⟩
  have HB9 := Lib.hid (bt HB8.out b9)
  clear b9
  go_wp2_with fail
  refine (one_any n_script t_ab _).mono ?_
  rintro e w10 ⟨v10, rfl, r10, b10⟩
  have HB10 := Lib.hid (bt HB9.out b10); have HR10 := Lib.hid r10
  clear b10 r10
  go_wp2_with fail
  refine (LegalS v10 _ w10 HR10.out _ _ rfl (by decide) (by decide) (by decide) true (by rw [ros_one]; exact legal_s)).mono ?_
  rintro e w11 ⟨rfl, b11⟩
  have HB11 := Lib.hid (bt HB10.out b11)
  clear b11
  go_wp2_with fail
  refine (one_any n_script t_aeb _).mono ?_
  rintro e w12 ⟨v12, rfl, r12, b12⟩
  have HB12 := Lib.hid (bt HB11.out b12); have HR12 := Lib.hid r12
  clear b12 r12
  go_wp2_with fail
  refine (LegalS v12 _ w12 HR12.out _ _ rfl (by decide) (by decide) (by decide) false (by rw [ros_one]; exact not_s)).mono ?_
  rintro e w13 ⟨rfl, b13⟩
  have HB13 := Lib.hid (bt HB12.out b13)
  clear b13
  go_wp2_with fail
  refine (LegalS _ ppC w13 (HPP.out.below HB13.out) _ _ rfl (by decide) (by decide) (by decide) false (by rw [ros_pp]; exact not_p)).mono ?_
  rintro e w14 ⟨rfl, b14⟩
  have HB14 := Lib.hid (bt HB13.out b14)
  clear b14
  go_wp2_with fail
  refine (one_any n_br ⟨#[97]⟩ _).mono ?_
  rintro e w15 ⟨v15, rfl, r15, b15⟩
  have HB15 := Lib.hid (bt HB14.out b15); have HR15 := Lib.hid r15
  clear b15 r15
  go_wp2_with fail
  refine (LegalS v15 _ w15 HR15.out _ _ rfl (by decide) (by decide) (by decide) false (by rw [ros_one]; exact not_b)).mono ?_
  rintro e w16 ⟨rfl, b16⟩
  have HB16 := Lib.hid (bt HB15.out b16)
  clear b16
  go_wp2
  go_ret
  exact ⟨rfl, bt HBP.out HB16.out⟩

end Go.Proofs.YtenmlpfjeohkiaaGreatDoor.Wr

namespace Go.Proofs.YtenmlpfjeohkiaaGreatDoor.Wr
set_option maxRecDepth 100000
set_option linter.unusedVariables false
set_option linter.unusedSimpArgs false
open Go.RowKit Ba Fm Fo Nm Wm
open Ro (At Ro Cw ros rowO rowV below_new range2 range5 cells Rv bare rows_new)
end Go.Proofs.YtenmlpfjeohkiaaGreatDoor.Wr

namespace Go.Proofs.YtenmlpfjeohkiaaGreatDoor.To
set_option linter.unusedSimpArgs false
set_option linter.unusedVariables false
open Go.RowKit Ba Fm Fo Tm
open Ro (At acells len_acells below_new Sh Ra acells_one info_attr range2 range5)
theorem dec_cons {α : Type} [DecidableEq α] {x y : α} {r s : List α} {V : Bool} (h : decide (x :: r = y :: s) = V) : (x = y → decide (r = s) = V) ∧ (¬ x = y → V = false) := by
  constructor
  · intro e
    rw [← h, e]
    simp
  · intro e
    rw [← h]
    exact decide_eq_false fun e2 => e (by injection e2)
theorem neq_L {a b : ByteArray} (h : ¬ a = b) : (a.toList == b.toList) = false := by rw [eq_of_toList]; exact decide_eq_false h
theorem two_boxes (w : World) (x y : Tw) : ((w.alloc (tokO x)).alloc (tokO y)).drew.rangeAt w.heap.size 0 (cells x) ∧ ((w.alloc (tokO x)).alloc (tokO y)).drew.rangeAt (w.heap.size + 1) 0 (cells y) ∧ Below w.heap.size w ((w.alloc (tokO x)).alloc (tokO y)).drew := by
  have hb : Below w.heap.size w ((w.alloc (tokO x)).alloc (tokO y)) := (below_new w (tokO x)).alloc (by simp) _
  refine ⟨fun j v hv => ?_, fun j v hv => ?_, below_dN hb 1⟩
  · rw [Nat.zero_add]
    refine Eq.trans ?_ hv
    exact (World.cell?_alloc_lt _ _ ⟨w.heap.size, j, none⟩ (by simp)).trans (box_at w x j)
  · rw [Nat.zero_add]
    refine Eq.trans ?_ hv
    have e : w.heap.size + 1 = (w.alloc (tokO x)).heap.size := by simp
    rw [e]
    exact box_at (w.alloc (tokO x)) y j
theorem range5z {w : World} {b : Nat} {x : Tw} (h : w.rangeAt b 0 (cells x)) : w.cell? ⟨b, 0, none⟩ = some (.int .i64 x.tk.kind) ∧ w.cell? ⟨b, 1, none⟩ = some (.string x.tk.name) ∧ w.cell? ⟨b, 2, none⟩ = some (.string x.tk.data) ∧ w.cell? ⟨b, 3, none⟩ = some (.slice x.A x.tk.attrs.length x.c) ∧ w.cell? ⟨b, 4, none⟩ = some (.bool x.tk.self) :=
  ⟨h 0 _ rfl, h 1 _ rfl, h 2 _ rfl, h 3 _ rfl, h 4 _ rfl⟩

end Go.Proofs.YtenmlpfjeohkiaaGreatDoor.To

namespace Go.Proofs.YtenmlpfjeohkiaaGreatDoor.To
set_option maxRecDepth 100000
set_option linter.unusedSimpArgs false
set_option linter.unusedVariables false
open Go.RowKit Ba Fm Fo Tm
open Ro (At acells len_acells below_new Sh Ra acells_one info_attr range2 range5 flat_at flat_len)
open Re (Tab)
/-- A value reads as tokens. -/
def Tv (w : World) (V : Value) (t : List Tk) : Prop := ∃ A c l, V = .slice A t.length c ∧ t.length ≤ c ∧ Rr w w.heap.size A l ∧ tks l = t
theorem Tv.below {w w' : World} {V : Value} {t : List Tk} (h : Tv w V t) (hb : Below w.heap.size w w') : Tv w' V t := by
  obtain ⟨A, c, l, e, hc, hr, ht⟩ := h
  exact ⟨A, c, l, e, hc, (hr.below hb).more hb.size, ht⟩
/-- Tokens written out. -/
theorem Tv.lit (w : World) (l : List Tw) (h : ∀ x ∈ l, Att w w.heap.size x) : Tv (w.alloc (.cells (l.flatMap cells).toArray 67)) (.slice (some ⟨w.heap.size, 0, none⟩) l.length l.length) (tks l) := by
  refine ⟨_, _, l, by rw [len_tks], by rw [len_tks]; exact Nat.le_refl _, ⟨fun h0 => ⟨w.heap.size, 0, rfl, by simp, fun j hj i u hu => ?_⟩, fun x hx => (h x hx).boxed (Below.refl _ _) _⟩, rfl⟩
  have hi : i < 5 := (List.getElem?_eq_some_iff.1 hu).1
  rw [World.cell?_alloc_mark]
  rw [show 0 + j * 5 + i = j * 5 + i from by omega]
  simp only [List.getElem?_toArray]
  rw [flat_at cells 5 len_cells _ _ _ hj hi]
  exact hu

end Go.Proofs.YtenmlpfjeohkiaaGreatDoor.To

namespace Go.Proofs.YtenmlpfjeohkiaaGreatDoor.Sm
set_option maxRecDepth 100000
set_option linter.unusedSimpArgs false
set_option linter.unusedVariables false
open Go.RowKit Ba
theorem min_any (x : Nat) (m : Nat) (M : Int) (hM : M = m) (w : World) : ∃ k : Nat, k ≤ x ∧ k ≤ m ∧ k = min x m ∧ ∀ ts t, (Builtin.min_ ts t #[.int .i64 x, .int .i64 M]).run Tryz.prog w = .ok (.int .i64 k) w := by
  refine ⟨min x m, by omega, by omega, rfl, fun ts t => ?_⟩
  rw [run_min_int2]
  congr 2
  split <;> omega
theorem and_small (n : Int) (m j : Nat) (hm : m < 2 ^ j) (hj : 2 ^ j ≤ 4611686018427387904) : ∃ x : Nat, x < 2 ^ j ∧ bits .and .i64 n (m : Int) = (x : Int) := by
  have hlt : (BitVec.ofInt IntKind.i64.bits n).toNat &&& m < 2 ^ j := Nat.and_lt_two_pow _ hm
  refine ⟨_, hlt, ?_⟩
  have hm' : m % 2 ^ IntKind.i64.bits = m := Nat.mod_eq_of_lt (Nat.lt_of_lt_of_le hm (Nat.le_trans hj (by decide)))
  simp only [bits, BitVec.ofInt_natCast, BitVec.toNat_and, BitVec.toNat_ofNat, hm']
  rw [IntKind.wrap_i64]
  omega
end Go.Proofs.YtenmlpfjeohkiaaGreatDoor.Sm

namespace Go.Proofs.YtenmlpfjeohkiaaGreatDoor.To
set_option linter.unusedSimpArgs false
set_option linter.unusedVariables false
open Go.RowKit Ba Fm Fo Tm Sm
open Re (Tab)
end Go.Proofs.YtenmlpfjeohkiaaGreatDoor.To

namespace Go.Proofs.YtenmlpfjeohkiaaGreatDoor.To
set_option linter.unusedSimpArgs false
set_option linter.unusedVariables false
open Go.RowKit Ba Fm Fo Tm Sm
open Ro (range5)
open Re (Tab)
/-- A slice that reads as one token, opened. -/
theorem Tv.one {w : World} {V : Value} {t : Tk} (h : Tv w V [t]) : ∃ b off c x, V = .slice (some ⟨b, off, none⟩) 1 c ∧ 1 ≤ c ∧ x.tk = t ∧ b < w.heap.size ∧ w.rangeAt b off (cells x) := by
  obtain ⟨A, c, l, rfl, hc, hr, ht⟩ := h
  have hl : l.length = 1 := by rw [← len_tks, ht]; rfl
  obtain ⟨b, off, e, hb, hcells⟩ := hr.1 (by omega)
  match l, hl with
  | [x], _ =>
    refine ⟨b, off, c, x, by rw [e]; rfl, hc, by injection ht, hb, ?_⟩
    have := hcells 0 (by simp)
    simpa using this

end Go.Proofs.YtenmlpfjeohkiaaGreatDoor.To

namespace Go.Proofs.YtenmlpfjeohkiaaGreatDoor.To
set_option linter.unusedSimpArgs false
set_option linter.unusedVariables false
open Go.RowKit Ba Fm Fo Tm
open Ro (below_new At acells len_acells Sh Ra range2)
theorem Tb.f {w : World} {g : Nat} {x : Tw} (h : Tb w g x) (j : Nat) : w.frozen? ⟨g, j, none⟩ = false := by
  unfold Tb at h
  simp [World.frozen?, h]
theorem Tb.lt {w : World} {g : Nat} {x : Tw} (h : Tb w g x) : g < w.heap.size := (Array.getElem?_eq_some_iff.1 h).1
theorem Tb.below {w w' : World} {g : Nat} {x : Tw} (h : Tb w g x) (hb : Below w.heap.size w w') : Tb w' g x := (hb.block g h.lt).trans h
theorem Tb.kept {w w' : World} {g b : Nat} {x : Tw} (h : Tb w g x) (hg : w.grownBy w' (some b)) (hne : g ≠ b) : Tb w' g x := (hg.block g h.lt (by simpa using hne)).trans h
theorem Tb.other {w : World} {g b j : Nat} {x : Tw} (h : Tb w g x) (hne : g ≠ b) (u : Value) : Tb (w.setCell ⟨b, j, none⟩ u) g x := h.kept (g_set w b j u) hne
theorem Tb.set2 {w : World} {g : Nat} {x : Tw} (h : Tb w g x) (d : ByteArray) : Tb (w.setCell ⟨g, 2, none⟩ (.string d)) g ⟨⟨x.tk.kind, x.tk.name, d, x.tk.attrs, x.tk.self⟩, x.A, x.c⟩ := by
  unfold Tb at h ⊢
  simp [World.setCell, Array.getElem?_modify, h]
theorem Tb.set0 {w : World} {g : Nat} {x : Tw} (h : Tb w g x) (k : Int) : Tb (w.setCell ⟨g, 0, none⟩ (.int .i64 k)) g ⟨⟨k, x.tk.name, x.tk.data, x.tk.attrs, x.tk.self⟩, x.A, x.c⟩ := by
  unfold Tb at h ⊢
  simp [World.setCell, Array.getElem?_modify, h]
theorem Tb.set3 {w : World} {g : Nat} {x : Tw} (h : Tb w g x) (A : Option Addr) (c : Nat) (l : List At) : Tb (w.setCell ⟨g, 3, none⟩ (.slice A l.length c)) g ⟨⟨x.tk.kind, x.tk.name, x.tk.data, l, x.tk.self⟩, A, c⟩ := by
  unfold Tb at h ⊢
  simp [World.setCell, Array.getElem?_modify, h]
theorem Tb.over {w : World} {g : Nat} {y : Tw} (h : Tb w g y) (x : Tw) : Tb (((((w.setCell ⟨g, 0, none⟩ (.int .i64 x.tk.kind)).setCell ⟨g, 1, none⟩ (.string x.tk.name)).setCell ⟨g, 2, none⟩ (.string x.tk.data)).setCell ⟨g, 3, none⟩ (.slice x.A x.tk.attrs.length x.c)).setCell ⟨g, 4, none⟩ (.bool x.tk.self)) g x := by
  unfold Tb at h ⊢
  simp [World.setCell, Array.getElem?_modify, h]
/-- A token with a kind and a text alone. -/
abbrev T0 (k : Int) (d : ByteArray) : Tw := ⟨⟨k, ⟨#[]⟩, d, [], false⟩, none, 0⟩
theorem Tb.z {w : World} {g : Nat} {k : Int} {d : ByteArray} (h : Tb w g (T0 k d)) : w.cell? ⟨g, 0, none⟩ = some (.int .i64 k) ∧ w.cell? ⟨g, 1, none⟩ = some (.string ⟨#[]⟩) ∧ w.cell? ⟨g, 2, none⟩ = some (.string d) ∧ w.cell? ⟨g, 3, none⟩ = some (.slice none 0 0) ∧ w.cell? ⟨g, 4, none⟩ = some (.bool false) := h.c

theorem Tb.off {w w' : World} {g N : Nat} {x : Tw} {v : Value} {l : List At} (h : Tb w g x) (hv : Aw N w v l) (hg : w.grownBy w' v.ownBlock) : Tb w' g x :=
  (hg.block g h.lt (fun e => hv.ne h (by decide) e.symm)).trans h
theorem Aw.below {N : Nat} {w w' : World} {A : Option Addr} {c : Nat} {l : List At} (h : Aw N w (.slice A l.length c) l) (hb : Below w.heap.size w w') : Aw N w' (.slice A l.length c) l := Fr.below (h.fr 0 ⟨#[]⟩ ⟨#[]⟩ false) hb
theorem Tb.t {w : World} {g : Nat} {nm : ByteArray} {l : List At} {sf : Bool} {A : Option Addr} {c : Nat} (h : Tb w g ⟨⟨0, nm, ⟨#[]⟩, l, sf⟩, A, c⟩) : w.cell? ⟨g, 0, none⟩ = some (.int .i64 0) ∧ w.cell? ⟨g, 1, none⟩ = some (.string nm) ∧ w.cell? ⟨g, 2, none⟩ = some (.string ⟨#[]⟩) ∧ w.cell? ⟨g, 3, none⟩ = some (.slice A l.length c) ∧ w.cell? ⟨g, 4, none⟩ = some (.bool sf) := h.c
/-- Attributes of the call's own stay where a token's box is written. -/
theorem Aw.boxes {N : Nat} {w : World} {v : Value} {l : List At} {g j : Nat} {x : Tw} (h : Aw N w v l) (hb : Tb w g x) (u : Value) : Aw N (w.setCell ⟨g, j, none⟩ u) v l := h.kept (g_set w g j u) (.inr (h.ne hb (by decide)))
theorem Aw.over {N : Nat} {w : World} {v : Value} {l : List At} {g : Nat} {y : Tw} (h : Aw N w v l) (hb : Tb w g y) (nm : ByteArray) (l' : List At) (sf : Bool) (A : Option Addr) (c : Nat) : Aw N (((((w.setCell ⟨g, 0, none⟩ (.int .i64 0)).setCell ⟨g, 1, none⟩ (.string nm)).setCell ⟨g, 2, none⟩ (.string ⟨#[]⟩)).setCell ⟨g, 3, none⟩ (.slice A l'.length c)).setCell ⟨g, 4, none⟩ (.bool sf)) v l := by
  have h1 := h.boxes hb (j := 0) (.int .i64 0)
  have b1 := hb.set0 0
  have h2 := h1.boxes b1 (j := 1) (.string nm)
  have b2 : Tb ((w.setCell ⟨g, 0, none⟩ (.int .i64 0)).setCell ⟨g, 1, none⟩ (.string nm)) g ⟨⟨0, nm, y.tk.data, y.tk.attrs, y.tk.self⟩, y.A, y.c⟩ := by
    unfold Tb at hb ⊢
    simp [World.setCell, Array.getElem?_modify, hb]
  have h3 := h2.boxes b2 (j := 2) (.string ⟨#[]⟩)
  have b3 := b2.set2 ⟨#[]⟩
  have h4 := h3.boxes b3 (j := 3) (.slice A l'.length c)
  have b4 := b3.set3 A c l'
  exact h4.boxes b4 (j := 4) (.bool sf)

end Go.Proofs.YtenmlpfjeohkiaaGreatDoor.To

namespace Go.Proofs.YtenmlpfjeohkiaaGreatDoor.Tm
set_option linter.unusedVariables false
set_option linter.unusedSimpArgs false
open Ba Fm Rm Nm
open Ro (At)
theorem el_out {c : UInt8} (h : elB c = true) : sp c = false ∧ low c = c ∧ c ≠ 47 ∧ c ≠ 62 := by
  unfold elB at h
  rw [Bool.not_eq_true'] at h
  simp only [Bool.or_eq_false_iff] at h
  obtain ⟨⟨⟨⟨h1, h2⟩, _⟩, h4⟩, h5⟩ := h
  refine ⟨h1, ?_, by simpa using h4, by simpa using h5⟩
  unfold low
  rw [if_neg]
  rintro ⟨a, b⟩
  rw [decide_eq_true a, decide_eq_true b] at h2
  cases h2
theorem el_en {c : UInt8} (h : elB c = true) : en c = false ∧ low c = c := by
  obtain ⟨h1, h2, h3, h4⟩ := el_out h
  refine ⟨?_, h2⟩
  unfold en ev
  rw [h1]
  simp [h3, h4]
theorem nm_right {n : ByteArray} (h : rightB n = true) : nmOk (L n) := by
  have hel := Nm.el_of_right h
  unfold rightB rightL at h
  cases hn : L n with
  | nil => rw [hn] at h; cases h
  | cons c r =>
    rw [hn] at h hel
    have h : (small c && (c :: r).all elB) = true := h
    rw [Bool.and_eq_true] at h
    refine ⟨?_, fun x hx => el_en (hel x hx)⟩
    show lr c = true
    have h1 := h.1
    unfold small at h1
    unfold lr
    rw [h1, Bool.or_true]
end Go.Proofs.YtenmlpfjeohkiaaGreatDoor.Tm

namespace Go.Proofs.YtenmlpfjeohkiaaGreatDoor.To
set_option linter.unusedSimpArgs false
set_option linter.unusedVariables false
open Go.RowKit Ba Fm Fo Tm Sm Nm
open Ro (below_new At acells len_acells Sh Ra range2)
open Re (Tab)
/-- What the loop over a token's attributes has come to. -/
structure Bl (w wr : World) (x : Tw) (g2 g5 k : Nat) (A : Option Addr) (c : Nat) (al : List At) : Prop where
  k_le : k ≤ x.tk.attrs.length
  k6 : k ≤ 6
  b2 : Tb wr g2 x
  b5 : Tb wr g5 ⟨⟨1, x.tk.name, ⟨#[]⟩, al, x.tk.self⟩, A, c⟩
  own : Aw w.heap.size wr (.slice A al.length c) al
  bel : Below w.heap.size w wr
  len : al.length = k
  att : ∀ a ∈ al, attrB a.name = true ∧ a.name.size ≤ 1048576 ∧ a.value.size ≤ 200
  pw : al.Pairwise fun a b => a.name ≠ b.name
theorem Bl.below {w wr w' : World} {x : Tw} {g2 g5 k c : Nat} {A : Option Addr} {al : List At} (h : Bl w wr x g2 g5 k A c al) (hb : Below wr.heap.size wr w') : Bl w w' x g2 g5 k A c al :=
  ⟨h.k_le, h.k6, h.b2.below hb, h.b5.below hb, h.own.below hb, h.bel.trans (hb.mono h.bel.size), h.len, h.att, h.pw⟩
theorem Bl.drew {w wr : World} {x : Tw} {g2 g5 k c : Nat} {A : Option Addr} {al : List At} (h : Bl w wr x g2 g5 k A c al) (n : Nat) : Bl w (wr.drewN n) x g2 g5 k A c al :=
  ⟨h.k_le, h.k6, h.b2, h.b5, h.own, below_dN h.bel n, h.len, h.att, h.pw⟩
end Go.Proofs.YtenmlpfjeohkiaaGreatDoor.To

namespace Go.Proofs.YtenmlpfjeohkiaaGreatDoor.Wm
set_option linter.unusedVariables false
set_option linter.unusedSimpArgs false
open Ba Fm Rm Nm Bm
open Ro (At Ro)
open Tm (pre comm cend lead trail isEnd nmOk asOk softOr rawB softB pre_cons pre_nil)
theorem last_snoc (s : List ByteArray) (n : ByteArray) : lastN (s ++ [n]) = n := by
  unfold lastN
  rw [List.getLastD_eq_getLast?, List.getLast?_append]; rfl
end Go.Proofs.YtenmlpfjeohkiaaGreatDoor.Wm
