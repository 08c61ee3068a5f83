/-
  Walks of stage 7: the open elements from the end on (a range over a function): among, fromEnd, find.
  Walks of stage 7: closed, leftOpen, Nested, endWalls, passedOver.
  Stage 7, in plain words: rows whose texts are joined at the end are those whose texts were joined one by one; nothing of the program.
  Stage 7: a builder in memory: its open elements, its rows, each of the call's own.
  Walks of stage 7: joins, add of the builder.
  Walks of stage 7: firsts: of attributes with one name the first one, the names seen kept in a map.
  Walks of stage 7: passedOver, endWalls; text, end of the builder.
  Walks of stage 7: end of the builder.
-/
import Derived.Test.YtgjlfcamgkeibaaGreatDoorCk07
import Derived.Test.YtgjlfcamgkeibaaGreatDoorCk03
import Derived.RangeFuncBox
import Derived.RangeFuncLeaves
import Derived.RangeFuncCalls
import Derived.Shelf.Abstract
import Derived.OwnWalkIn
import Derived.TacticsInMore
import Derived.LoopNIn
import Derived.LoopIn
import Derived.Sort.BigQuietIn
import Derived.Maps.AppendAt
import Derived.Shelf.RegionOpen
import Derived.Test.YtgjlfcamgkeibaaGreatDoorCk02
import Derived.Deep.AppendLies
import Derived.Deep.RegionLaw
import Derived.Deep.RegionHeld3
import Derived.BigRegion
import Derived.StillTailTactics
import Derived.Test.YtgjlfcamgkeibaaGreatDoorCk05
import Derived.Test.YtgjlfcamgkeibaaGreatDoorCk01
namespace Go.Proofs.YtgjlfcamgkeibaaGreatDoor.Bu
set_option maxRecDepth 100000
set_option linter.unusedVariables false
set_option linter.unusedSimpArgs false
open Go.RowKit Ba Fm Fo Nm Bm Go.Shelf
attribute [local go_sem] Oper.semAt_some

set_option maxHeartbeats 400000 in
theorem among_any (A : Option Addr) (c N : Nat) (l : List ByteArray) (s : ByteArray) (w : World) (hr : Rd w N A l) (hl : l.length ≤ 8796093022208) :
    Calls Tryz.prog 235 #[.string s, .slice A l.length c] w fun e w' => e = .returned (.bool (isIn s l)) ∧ w = w' := by
  go_enter Tryz.func235, Tryz.ntmps235
  go_wp2
  go_loop [9] (fun i => ∃ k : Nat, i = .int .i64 k ∧ k ≤ l.length ∧ ¬ s ∈ l.take k) (fun i => l.length - (intOf i).toNat)
  case atStart => exact ⟨0, rfl, Nat.zero_le _, by simp⟩
  case round =>
    obtain ⟨k, rfl, hks, hn⟩ := hrel
    have HN := Lib.hid hn; clear hn
    by_cases hp : k < l.length
    · obtain ⟨b, off, rfl, _, hc⟩ := hr (by omega)
      have hcell := hc k hp
      clear hc hr
      have heq := eq_of_toList (a := l[k]) (b := s)
      by_cases he : l[k] = s
      · rw [decide_eq_true he] at heq
        have HE := Lib.hid he; clear he
        go_wp2
        go_ret
        exact ⟨ret_bool (isIn_yes (by have := HE.out; rw [← this]; exact List.getElem_mem _)).symm, rfl⟩
      · rw [decide_eq_false he] at heq
        have HE := Lib.hid he; clear he
        go_wp2
        go_round
        case rel => exact ⟨k + 1, by go_num, by omega, has_snoc l s k hp HN.out HE.out⟩
        case measure => simp [intOf]; omega
    · go_wp2
      go_ret
      refine ⟨ret_bool (isIn_no ?_).symm, rfl⟩
      have := HN.out
      rwa [List.take_of_length_le (by omega)] at this

def dn : List ByteArray → List (Nat × ByteArray)
  | [] => []
  | x :: r => (r.length, x) :: dn r
theorem dn_take {l : List ByteArray} {k : Nat} (h : k < l.length) : dn (l.take (k + 1)).reverse = (k, l[k]) :: dn (l.take k).reverse := by
  rw [rev_take (List.getElem?_eq_getElem h), dn, List.length_reverse, List.length_take, Nat.min_eq_left (Nat.le_of_lt h)]

def Kp (n₀ B1 : Nat) (W W' : World) : Prop := Below n₀ W W' ∧ W'.heap[B1]? = W.heap[B1]?
theorem Kp.t {n₀ B1 : Nat} {A B C : World} (h : Kp n₀ B1 A B) (k : Kp n₀ B1 B C) : Kp n₀ B1 A C := ⟨h.1.trans k.1, k.2.trans h.2⟩
theorem Kp.r {n₀ B1 : Nat} (A : World) : Kp n₀ B1 A A := ⟨Below.refl _ _, rfl⟩
theorem Kp.b {n₀ B1 : Nat} {w : World} (hn : n₀ ≤ w.heap.size) (h1 : B1 < w.heap.size) (W : World) (l : Nat) (o o' : Obj) (hl : w.heap.size ≤ l) (h : W.heap[l]? = some o) (hc : o.isCells = false) (hw : o.isWalk = false) : Kp n₀ B1 W (W.putObj l o') :=
  ⟨belowK_b hn W l o o' hl h hc hw, World.putObj_heap_other (by omega)⟩
theorem boxB {W : World} {B : Nat} {t : TypeId} {v : Value} {W' : World} (h : Boxed W B t v) (hk : W'.heap[B]? = W.heap[B]?) : Boxed W' B t v := hk.trans h

set_option maxRecDepth 100000 in
set_option maxHeartbeats 2000000 in
theorem from1_in (n : Nat) (hn : 1 ≤ n) (lp B1 n₀ : Nat) (A : Option Addr) (c : Nat) (l : List ByteArray) (J Jx : List (Nat × ByteArray) → World → Prop) (hm : l.length ≤ 1000000)
    (hY : ∀ pre (x : Nat × ByteArray) W, J pre W → pre.length < l.length → YieldAt Fence.wide (n - 1) Tryz.prog lp #[.int .i64 (x.1 : Nat), .string x.2] W fun e W' =>
      (e = .returned (.bool true) ∧ J (pre ++ [x]) W' ∧ Kp n₀ B1 W W') ∨ (e = .returned (.bool false) ∧ Jx (pre ++ [x]) W'))
    (W : World) (hn₀ : n₀ ≤ W.heap.size) (hb1 : Boxed W B1 23 (.slice A l.length c)) (hr : Rd W n₀ A l) (h0 : J [] W) :
    CallsIn Fence.wide n Tryz.prog 252 #[.func (.yield lp) #[] #[], .pointer (some ⟨B1, 0, none⟩)] W fun e W' => (∃ v, e = .returned v) ∧
      ((∃ ys, ys = dn l.reverse ∧ J ys W') ∨ (∃ pre, pre <+: dn l.reverse ∧ Jx pre W')) := by
  have c1 := hb1.cell
  obtain ⟨xs, hxs⟩ : ∃ xs, dn l.reverse = xs := ⟨_, rfl⟩
  have hx0 : dn (l.take l.length).reverse = xs := by rw [List.take_length]; exact hxs
  have hlen0 : xs.length = l.length := by
    have : ∀ s : List ByteArray, (dn s).length = s.length := fun s => by
      induction s with
      | nil => rfl
      | cons x r ih => rw [dn, List.length_cons, List.length_cons, ih]
    rw [← hxs, this, List.length_reverse]
  rw [hxs]
  obtain ⟨F, hF⟩ : ∃ F, Fence.wide = F := ⟨_, rfl⟩
  rw [hF] at hY ⊢
  have hfn : ∀ f, F.fn f := hF ▸ fun _ => trivial
  have hro : F.round = none := hF ▸ rfl
  have h52 := hfn 252
  clear hF hfn
  have HX0 := Lib.hid hx0; have HXS := Lib.hid hxs; have HY := Lib.hid hY; have HL := Lib.hid hlen0
  clear hx0 hxs hY hlen0
  refine callsIn_of_wp Tryz.func252 rfl h52 ?_ hro
  simp only [Tryz.ntmps252, List.size_toArray, List.length_cons, List.length_nil, Nat.reduceAdd, Nat.reduceSub, Array.replicate_succ, Array.replicate_zero, List.push_toArray, List.append_toArray, List.nil_append, List.cons_append]
  gi_wp2
  gi_loopw [3] (fun v wr => ∃ (k : Nat) (i : Int) (pre : List (Nat × ByteArray)), v = .int .i64 i ∧ i + 1 = k ∧ k ≤ l.length ∧ xs = pre ++ dn (l.take k).reverse ∧ J pre wr ∧ n₀ ≤ wr.heap.size ∧ Boxed wr B1 23 (.slice A l.length c) ∧ Rd wr n₀ A l) (fun v _ => (intOf v + 1).toNat)
  case atStart => exact ⟨l.length, _, [], rfl, by omega, Nat.le_refl _, HX0.out.symm, h0, hn₀, hb1, hr⟩
  case round =>
    clear HX0 c1 hb1 hr h0
    obtain ⟨k, i, pre, rfl, hi, hk, hxp, hJs, hnw, hb1, hr⟩ := hrel
    have c1 := hb1.cell
    by_cases hp : 0 < k
    · obtain ⟨m, rfl⟩ : ∃ m, k = m + 1 := ⟨k - 1, by omega⟩
      obtain rfl : i = (m : Int) := by omega
      obtain ⟨b, off, rfl, hb, hc⟩ := hr (by omega)
      have hcell := hc m (by omega)
      rw [dn_take (by omega)] at hxp
      have hlen : pre.length < l.length := by rw [← HL.out, hxp]; simp
      obtain ⟨fn, tmps, assign, body, hy, hR⟩ := HY.out pre (m, l[m]) wr hJs hlen
      have HXP := Lib.hid hxp
      have hge : decide ((0 : Int) ≤ (m : Int)) = true := decide_eq_true (by omega)
      clear hxp hlen
      gi_wp2
      refine hR.mono ?_
      rintro e W3 (⟨rfl, hJ3, hk3⟩ | ⟨rfl, hJx3⟩)
      · gi_wp2
        go_roundw
        case rel => exact ⟨m, _, pre ++ [(m, l[m])], rfl, by omega, by omega, by rw [HXP.out, List.append_assoc]; rfl, hJ3, Nat.le_trans hnw hk3.1.size, boxB hb1 hk3.2, hr.below hk3.1 (Nat.le_refl _)⟩
        case measure => simp [intOf]
      · gi_wp2
        refine bodyPost_ret (results_none rfl _ _ _) rfl ?_
        exact ⟨⟨_, rfl⟩, .inr ⟨pre ++ [(m, l[m])], ⟨dn (l.take m).reverse, by rw [HXP.out, List.append_assoc]; rfl⟩, hJx3⟩⟩
    · obtain rfl : k = 0 := by omega
      obtain rfl : i = -1 := by omega
      have HXP := Lib.hid hxp
      clear hxp
      gi_wp2
      go_end0
      exact ⟨⟨_, rfl⟩, .inl ⟨pre, by rw [HXP.out]; exact (List.append_nil _).symm, hJs⟩⟩

theorem fromEnd_any (A : Option Addr) (n c : Nat) (w : World) :
    Calls Tryz.prog 234 #[.slice A n c] w fun e w' => e = .returned (.func (.func 252) #[] #[.pointer (some ⟨w.heap.size, 0, none⟩)]) ∧ w' = w.alloc (.cells #[.slice A n c] 23) := by
  go_enter Tryz.func234, Tryz.ntmps234
  go_wp2
  go_ret
  exact ⟨rfl, rfl⟩

theorem from_stops (n : Nat) (hn : 1 ≤ n) (B1 n₀ : Nat) (A : Option Addr) (c : Nat) (l : List ByteArray) (hm : l.length ≤ 1000000) (w : World) (hn₀ : n₀ ≤ w.heap.size) (hb1 : Boxed w B1 23 (.slice A l.length c)) (hr : Rd w n₀ A l) :
    SeqStopsK Fence.wide n Tryz.prog 252 #[.pointer (some ⟨B1, 0, none⟩)] (fun x : Nat × ByteArray => #[.int .i64 (x.1 : Nat), .string x.2]) (Kp n₀ B1) (fun ys => ys = dn l.reverse) (fun pre => pre <+: dn l.reverse) l.length w := fun lp J Jx W hW hJ _ hY h0 =>
  from1_in n hn lp B1 n₀ A c l J Jx hm hY W (Nat.le_trans hn₀ hW.size) (boxB hb1 (hW.block B1 hb1.lt)) (hr.below hW hn₀) h0

def idx (ns ws o : List ByteArray) : Int := match findS ns ws o.reverse with | some r => (r.length : Nat) | none => -1
def past (ns ws : List ByteArray) (p : Nat × ByteArray) : Prop := isIn p.2 ns = false ∧ isIn p.2 ws = false
theorem dn_split {ns ws : List ByteArray} : ∀ {s : List ByteArray} {q t : List (Nat × ByteArray)}, dn s = q ++ t → (∀ p ∈ q, past ns ws p) → ∃ r, dn r = t ∧ findS ns ws s = findS ns ws r
  | s, [], t, h, _ => ⟨s, h, rfl⟩
  | [], p :: q, t, h, _ => by cases h
  | x :: s, p :: q, t, h, hp => by
    rw [dn, List.cons_append] at h
    injection h with h1 h2
    obtain ⟨r, e1, e2⟩ := dn_split h2 fun y hy => hp y (List.mem_cons_of_mem _ hy)
    have hx := hp p List.mem_cons_self
    rw [← h1] at hx
    exact ⟨r, e1, by rw [findS_past s hx.1 hx.2, e2]⟩
theorem idx_none {ns ws o : List ByteArray} (h : ∀ p ∈ dn o.reverse, past ns ws p) : idx ns ws o = -1 := by
  obtain ⟨r, e1, e2⟩ := dn_split (ns := ns) (ws := ws) (s := o.reverse) (q := dn o.reverse) (t := []) (by rw [List.append_nil]) h
  unfold idx
  rw [e2]
  cases r with
  | nil => rfl
  | cons x r => cases e1
theorem idx_stop {ns ws o : List ByteArray} {q t : List (Nat × ByteArray)} {x : Nat × ByteArray} (h : dn o.reverse = q ++ x :: t) (hq : ∀ p ∈ q, past ns ws p) (hx : isIn x.2 ns = false → isIn x.2 ws = true) :
    idx ns ws o = if isIn x.2 ns = true then (x.1 : Int) else -1 := by
  obtain ⟨r, e1, e2⟩ := dn_split h hq
  unfold idx
  rw [e2]
  cases r with
  | nil => cases e1
  | cons y r =>
    rw [dn] at e1
    injection e1 with e1 _
    subst e1
    cases hn : isIn y ns with
    | true => rw [findS_hit r hn]; rfl
    | false => rw [findS_wall r hn (hx hn)]; rfl

theorem box_own {W W' : World} {B n : Nat} {t : TypeId} {v : Value} {row : Option Nat} (h : Boxed W B t v) (hg : W.grownBy W' row) (hr : ∀ r, row = some r → n ≤ r ∧ ∃ o : Obj, W.heap[r]? = some o ∧ o.isCells = false) : Boxed W' B t v :=
  h.kept hg fun e => by
    obtain ⟨_, o, ho, hc⟩ := hr B e.symm
    rw [show W.heap[B]? = _ from h] at ho
    cases ho
    cases hc
def Fl (w : World) (ns ws : List ByteArray) (v1 v2 : Value) (pre : List (Nat × ByteArray)) (W : World) : Prop :=
  Boxed W w.heap.size 23 v1 ∧ Boxed W (w.heap.size + 1) 23 v2 ∧ Boxed W (w.heap.size + 1 + 1) 3 (.int .i64 0) ∧ Below w.heap.size w W ∧ w.heap.size + 1 + 1 + 1 + 1 ≤ W.heap.size ∧ ∀ p ∈ pre, past ns ws p
def Fx (w : World) (ns ws : List ByteArray) (c : Code) (pre : List (Nat × ByteArray)) (W : World) : Prop :=
  c = .ret ∧ ∃ q x, pre = q ++ [x] ∧ (∀ p ∈ q, past ns ws p) ∧ (isIn x.2 ns = false → isIn x.2 ws = true) ∧ Boxed W (w.heap.size + 1 + 1) 3 (.int .i64 (if isIn x.2 ns = true then (x.1 : Int) else -1)) ∧ Below w.heap.size w W
theorem Fl.own (w : World) (ns ws : List ByteArray) (v1 v2 : Value) (n : Nat) (hn : w.heap.size ≤ n) : OwnFrom n (Fl w ns ws v1 v2) := fun s W W' row hs hg hr =>
  ⟨box_own hs.1 hg hr, box_own hs.2.1 hg hr, box_own hs.2.2.1 hg hr, hs.2.2.2.1.grown hg hs.2.2.2.1.size (fun k hk => Nat.le_trans hn (hr k hk).1), Nat.le_trans hs.2.2.2.2.1 hg.size, hs.2.2.2.2.2⟩
theorem Fx.own (w : World) (ns ws : List ByteArray) (c : Code) (n : Nat) (hn : w.heap.size ≤ n) : OwnFrom n (Fx w ns ws c) := fun s W W' row hs hg hr => by
  obtain ⟨hc, q, x, e1, e2, e3, h2, h3⟩ := hs
  exact ⟨hc, q, x, e1, e2, e3, box_own h2 hg hr, h3.grown hg h3.size (fun k hk => Nat.le_trans hn (hr k hk).1)⟩

theorem among1 (A : Option Addr) (c N n : Nat) (l : List ByteArray) (s : ByteArray) (w : World) (hr : Rd w N A l) (hl : l.length ≤ 1000) (q : Bool) (hq : isIn s l = q) (hn : n = l.length) :
    Calls Tryz.prog 235 #[.string s, .slice A n c] w fun e w' => e = .returned (.bool q) ∧ w = w' := by
  subst hq; subst hn
  exact among_any A c N l s w hr (by omega)

set_option maxRecDepth 100000 in
set_option maxHeartbeats 4000000 in
theorem find_any (A A1 A2 : Option Addr) (c c1 c2 : Nat) (l ns ws : List ByteArray) (w : World) (hm : l.length ≤ 1000000) (hr : Rd w w.heap.size A l) (hr1 : Rd w w.heap.size A1 ns) (hr2 : Rd w w.heap.size A2 ws) (hn1 : ns.length ≤ 1000) (hn2 : ws.length ≤ 1000) :
    Calls Tryz.prog 208 #[.slice A l.length c, .slice A1 ns.length c1, .slice A2 ws.length c2] w fun e w' => e = .returned (.int .i64 (idx ns ws l)) ∧ Below w.heap.size w w' := by
  have x0 := Boxed.new w 23 (.slice A1 ns.length c1)
  replace x0 := Lib.hid (((x0.alloc (.cells #[.slice A2 ws.length c2] 23)).alloc (.cells #[.int .i64 0] 3)).alloc (.cells #[.slice A l.length c] 23))
  have x1 := Boxed.new (w.alloc (.cells #[.slice A1 ns.length c1] 23)) 23 (.slice A2 ws.length c2)
  rw [World.size_alloc] at x1
  replace x1 := Lib.hid ((x1.alloc (.cells #[.int .i64 0] 3)).alloc (.cells #[.slice A l.length c] 23))
  have x2 := Boxed.new ((w.alloc (.cells #[.slice A1 ns.length c1] 23)).alloc (.cells #[.slice A2 ws.length c2] 23)) 3 (.int .i64 0)
  rw [World.size_alloc, World.size_alloc] at x2
  replace x2 := Lib.hid (x2.alloc (.cells #[.slice A l.length c] 23))
  have x3 := Boxed.new (((w.alloc (.cells #[.slice A1 ns.length c1] 23)).alloc (.cells #[.slice A2 ws.length c2] 23)).alloc (.cells #[.int .i64 0] 3)) 23 (.slice A l.length c)
  rw [World.size_alloc, World.size_alloc, World.size_alloc] at x3
  replace x3 := Lib.hid x3
  have hB0 := ((((below_one w (.cells #[.slice A1 ns.length c1] 23)).alloc (by simp <;> omega) (.cells #[.slice A2 ws.length c2] 23)).alloc (by simp <;> omega) (.cells #[.int .i64 0] 3)).alloc (by simp <;> omega) (.cells #[.slice A l.length c] 23))
  have HR := Lib.hid (hr.below hB0 (Nat.le_refl _))
  have HR1 := Lib.hid hr1; have HR2 := Lib.hid hr2
  have HB0 := Lib.hid hB0
  clear hB0 hr hr1 hr2
  refine (callsIn_wide (n := 4)).1 ?_
  refine callsIn_of_wp_marks Tryz.func208 rfl trivial ?_ rfl
  simp only [Tryz.ntmps208, List.size_toArray, List.length_cons, List.length_nil, Nat.reduceAdd, Nat.reduceSub, Array.replicate_succ, Array.replicate_zero, List.push_toArray, List.append_toArray, List.nil_append, List.cons_append]
  gi_wp2_with (refine ⟨trivial, ?_⟩; gi_at_call 234; refine (callsIn_wide.2 (fromEnd_any A _ c _)).mono ?_; rintro e w' ⟨rfl, rfl⟩)
  refine wpIn_rangeFunc_ownG rfl (by omega) (gf := 252) (lb := #[.pointer (some ⟨w.heap.size + 1 + 1 + 1, 0, none⟩)]) rfl trivial (enters_of Tryz.func252 (by kernel_rfl) rfl)
    (from_stops (4 - 1) (by omega) (w.heap.size + 1 + 1 + 1) w.heap.size A c l hm _ (by simp <;> omega) x3.out HR.out) Kp.t (Kp.b (by simp <;> omega) (by simp <;> omega)) (Below.refl _ _) (fun _ => rfl)
    (Fl w ns ws (.slice A1 ns.length c1) (.slice A2 ws.length c2)) (Fx w ns ws) (Fl.own w ns ws _ _ _ (by simp <;> omega)) (fun c => Fx.own w ns ws c _ (by simp <;> omega))
    ⟨x0.out, x1.out, x2.out, HB0.out, by simp, fun p hp => by cases hp⟩
    (fun x => { tmps := #[.slice A l.length c, .slice A1 ns.length c1, .slice A2 ws.length c2, undef, .pointer (some ⟨w.heap.size, 0, none⟩), .pointer (some ⟨w.heap.size + 1, 0, none⟩), .pointer (some ⟨w.heap.size + 1 + 1, 0, none⟩), .int .i64 (x.1 : Nat), .string x.2, .slice A l.length c, .func (.func 252) #[] #[.pointer (some ⟨w.heap.size + 1 + 1 + 1, 0, none⟩)], .int .i64 (x.1 : Nat), .string x.2, undef, undef, undef, undef, undef, undef, undef, undef, undef], defers := [] }) ?assign ?body ?done ?stop
  case assign =>
    intro l x W K hK
    gi_wp2
    exact hK
  case body =>
    rintro lp pre x W ⟨b0, b1, b2, hB, hsz, hps⟩ hlt
    have k0 := b0.cell
    have k1 := b1.cell
    have k2 := b2.cell
    have f2 := b2.frozen
    have hw1 := HR1.out.below hB (Nat.le_refl _)
    have hw2 := HR2.out.below hB (Nat.le_refl _)
    have HW1 := Lib.hid hw1; have HW2 := Lib.hid hw2
    clear hw1 hw2
    cases hx : isIn x.2 ns with
    | true =>
      have HX := Lib.hid hx
      clear hx
      gi_wp2_with (refine ⟨trivial, ?_⟩; gi_at_call 235; refine (CallsIn.inRound lp (callsIn_wide.2 (among1 A1 c1 _ _ ns x.2 W HW1.out hn1 true HX.out rfl))).mono ?_; rintro e w' ⟨rfl, rfl⟩)
      exact ⟨(KeepsOthers.setCell _ _ _).from _, rfl, pre, x, rfl, hps, (fun e => by rw [HX.out] at e; cases e), by rw [HX.out, if_pos rfl]; exact b2.set _, hB.setCell (p := ⟨w.heap.size + 1 + 1, 0, none⟩) (by show w.heap.size ≤ w.heap.size + 1 + 1; omega) _⟩
    | false =>
    cases hy : isIn x.2 ws with
    | true =>
      have HX := Lib.hid hx; have HY := Lib.hid hy
      clear hx hy
      gi_wp2_with fail
      refine ⟨trivial, ?_⟩
      gi_at_call 235
      refine (CallsIn.inRound lp (callsIn_wide.2 (among1 A1 c1 _ _ ns x.2 W HW1.out hn1 false HX.out rfl))).mono ?_
      rintro e w' ⟨rfl, rfl⟩
      gi_wp2_with fail
      refine ⟨trivial, ?_⟩
      gi_at_call 235
      refine (CallsIn.inRound lp (callsIn_wide.2 (among1 A2 c2 _ _ ws x.2 W HW2.out hn2 true HY.out rfl))).mono ?_
      rintro e w' ⟨rfl, rfl⟩
      gi_wp2
      exact ⟨(KeepsOthers.setCell _ _ _).from _, rfl, pre, x, rfl, hps, (fun _ => HY.out), by rw [HX.out, if_neg (by simp)]; exact b2.set _, hB.setCell (p := ⟨w.heap.size + 1 + 1, 0, none⟩) (by show w.heap.size ≤ w.heap.size + 1 + 1; omega) _⟩
    | false =>
      have HX := Lib.hid hx; have HY := Lib.hid hy
      clear hx hy
      gi_wp2_with fail
      refine ⟨trivial, ?_⟩
      gi_at_call 235
      refine (CallsIn.inRound lp (callsIn_wide.2 (among1 A1 c1 _ _ ns x.2 W HW1.out hn1 false HX.out rfl))).mono ?_
      rintro e w' ⟨rfl, rfl⟩
      gi_wp2_with fail
      refine ⟨trivial, ?_⟩
      gi_at_call 235
      refine (CallsIn.inRound lp (callsIn_wide.2 (among1 A2 c2 _ _ ws x.2 W HW2.out hn2 false HY.out rfl))).mono ?_
      rintro e w' ⟨rfl, rfl⟩
      gi_wp2
      exact ⟨KeepsFrom.refl _ _, Kp.r _, b0, b1, b2, hB, hsz, fun p hp => by
        rcases List.mem_append.1 hp with e | e
        · exact hps p e
        · rw [List.mem_singleton.1 e]; exact ⟨HX.out, HY.out⟩⟩
  case done =>
    rintro D ys W hD rfl ⟨b0, b1, b2, hB, hsz, hps⟩ hK
    have k2 := b2.cell
    have f2 := b2.frozen
    have HI := Lib.hid (idx_none hps)
    gi_wp2
    refine ⟨by simp, .inl ⟨_, _, rfl, run_takeDeferred (show (W.setCell ⟨w.heap.size + 1 + 1, 0, none⟩ _).heap[D]? = _ from (Below.heap_setCell W ⟨w.heap.size + 1 + 1, 0, none⟩ _ D (by have := hD; simp at this; show D ≠ w.heap.size + 1 + 1; omega)).trans hK), ?_⟩⟩
    have hK' : (W.setCell ⟨w.heap.size + 1 + 1, 0, none⟩ (.int .i64 (-1))).heap[D]? = some (.deferred (some [])) := (Below.heap_setCell W ⟨w.heap.size + 1 + 1, 0, none⟩ _ D (by have := hD; simp at this; show D ≠ w.heap.size + 1 + 1; omega)).trans hK
    have q2 := cell_kept (b2.set (.int .i64 (-1))).cell (grownBy_putObj' _ D (.deferred none)) (fun r e => by cases e; exact ⟨_, hK', rfl⟩)
    refine ⟨.int .i64 (-1), ?_, by rw [HI.out], (hB.setCell (p := ⟨w.heap.size + 1 + 1, 0, none⟩) (by show w.heap.size ≤ w.heap.size + 1 + 1; omega) _).trans (belowK_b (w := w) (Nat.le_refl _) _ D _ _ (by have := hD; simp at this; omega) hK' rfl rfl)⟩
    simp [results, Tryz.f208, go_sem, q2]
  case stop =>
    rintro D c pre W hD hpre ⟨rfl, q, x, rfl, hq, hx, b2, hB⟩ hK
    obtain ⟨t, ht⟩ := hpre
    have HI := Lib.hid (idx_stop (o := l) (t := t) (by rw [← ht, List.append_assoc]; rfl) hq hx)
    gi_wp2
    refine ⟨by simp, .inl ⟨_, _, rfl, run_takeDeferred hK, ?_⟩⟩
    have q2 := cell_kept b2.cell (grownBy_putObj' _ D (.deferred none)) (fun r e => by cases e; exact ⟨_, hK, rfl⟩)
    refine ⟨.int .i64 (if isIn x.2 ns = true then (x.1 : Int) else -1), ?_, by rw [HI.out], hB.trans (belowK_b (w := w) (Nat.le_refl _) W D _ _ (by have := hD; simp at this; omega) hK rfl rfl)⟩
    simp [results, Tryz.f208, go_sem, q2]

end Go.Proofs.YtgjlfcamgkeibaaGreatDoor.Bu

namespace Go.Proofs.YtgjlfcamgkeibaaGreatDoor.Bu
set_option maxRecDepth 100000
set_option linter.unusedVariables false
set_option linter.unusedSimpArgs false
open Go.RowKit Ba Fm Fo Nm Bm
theorem closes_len (n : ByteArray) : (closesL n).length ≤ 1000 := by
  have : ∀ q : List ByteArray, closesL n = q → q.length ≤ 1000 := fun q h => by
    unfold closesL at h
    subst h
    repeat' split
    all_goals decide
  exact this _ rfl
theorem walls_len (n : ByteArray) : (wallsL n).length ≤ 1000 := by
  have : ∀ q : List ByteArray, wallsL n = q → q.length ≤ 1000 := fun q h => by
    unfold wallsL at h
    subst h
    repeat' split
    all_goals decide
  exact this _ rfl
theorem idx_take {ns ws o : List ByteArray} : (idx ns ws o = -1 ∧ findS ns ws o.reverse = none) ∨ (∃ k : Nat, idx ns ws o = k ∧ k < o.length ∧ findS ns ws o.reverse = some (o.take k).reverse) := by
  unfold idx
  cases h : findS ns ws o.reverse with
  | none => exact .inl ⟨rfl, rfl⟩
  | some r =>
    obtain ⟨e, hl⟩ := found_take h
    exact .inr ⟨r.length, rfl, hl, by rw [← e]⟩

theorem find1 (V V1 V2 : Value) (M : Nat) (l ns ws : List ByteArray) (w : World) (hm : l.length ≤ 1000000) (A : Option Addr) (c : Nat) (hV : V = .slice A l.length c) (hr : Rd w w.heap.size A l) (h1 : Sv w w.heap.size V1 ns) (h2 : Sv w w.heap.size V2 ws) (hn1 : ns.length ≤ 1000) (hn2 : ws.length ≤ 1000) (i : Int) (hi : idx ns ws l = i) :
    Calls Tryz.prog 208 #[V, V1, V2] w fun e w' => e = .returned (.int .i64 i) ∧ Below w.heap.size w w' := by
  obtain ⟨A1, c1, rfl, _, _, hr1⟩ := h1
  obtain ⟨A2, c2, rfl, _, _, hr2⟩ := h2
  subst hV; subst hi
  exact find_any A A1 A2 c c1 c2 l ns ws w hm hr hr1 hr2 hn1 hn2

set_option maxRecDepth 100000 in
set_option maxHeartbeats 1000000 in
theorem closed_any (A : Option Addr) (c : Nat) (l : List ByteArray) (n : ByteArray) (w : World) (hm : l.length ≤ 1000000) (hc : l.length ≤ c) (hr : Rd w w.heap.size A l) :
    Calls Tryz.prog 233 #[.slice A l.length c, .string n] w fun e w' => ∃ k : Nat, e = .returned (.slice A k c) ∧ k ≤ l.length ∧ (l.take k).reverse = closedS (closesL n) (wallsL n) l.reverse ∧ Below w.heap.size w w' := by
  have hL1 := closes_len n
  have hL2 := walls_len n
  go_enter Tryz.func233, Tryz.ntmps233
  go_wp2_with fail
  refine (Na.closes_any n w).mono ?_
  rintro e w1 ⟨V1, rfl, s1, b1⟩
  go_wp2_with fail
  refine (Na.walls_any n w1).mono ?_
  rintro e w2 ⟨V2, rfl, s2, b2⟩
  have v1 : Sv w2 w2.heap.size V1 (closesL n) := sv_own (s1.below b2 (Nat.le_refl _))
  have v2 : Sv w2 w2.heap.size V2 (wallsL n) := sv_own s2
  have B2 := bt b1 b2
  have hr2 : Rd w2 w2.heap.size A l := (hr.below B2 (Nat.le_refl _)).more B2.size
  have HV1 := Lib.hid v1; have HV2 := Lib.hid v2; have HB2 := Lib.hid B2; have HR2 := Lib.hid hr2
  clear v1 v2 s1 s2 b1 b2 B2 hr hr2
  obtain ⟨i, hi⟩ : ∃ i, idx (closesL n) (wallsL n) l = i := ⟨_, rfl⟩
  go_wp2_with fail
  refine (find1 _ V1 V2 0 l (closesL n) (wallsL n) w2 hm A c rfl HR2.out HV1.out HV2.out hL1 hL2 i hi).mono ?_
  rintro e w3 ⟨rfl, b3⟩
  have HI := Lib.hid hi
  have HB3 := Lib.hid b3
  clear hi b3
  go_wp2
  go_loopw [0, 7] (fun v x wr => ∃ (k : Nat) (j : Int), v = .slice A k c ∧ x = .int .i64 j ∧ k ≤ l.length ∧ idx (closesL n) (wallsL n) (l.take k) = j ∧ closedS (closesL n) (wallsL n) (l.take k).reverse = closedS (closesL n) (wallsL n) l.reverse ∧ Below w2.heap.size w2 wr) (fun v _ _ => lenOf v)
  case atStart => exact ⟨l.length, i, rfl, rfl, Nat.le_refl _, by rw [List.take_length]; exact HI.out, by rw [List.take_length], HB3.out⟩
  case round =>
    obtain ⟨k, j, rfl, rfl, hk, hj, hcl, hb⟩ := hrel
    rcases idx_take (ns := closesL n) (ws := wallsL n) (o := l.take k) with ⟨e1, e2⟩ | ⟨m, e1, hmk, e2⟩
    · rw [hj] at e1
      subst e1
      rw [closedS_no e2] at hcl
      have HC := Lib.hid hcl; have HB := Lib.hid hb
      clear hcl hb hj e2
      go_wp2
      go_ret
      exact ⟨k, rfl, hk, HC.out, bt HB2.out HB.out⟩
    · rw [hj] at e1
      subst e1
      have hlk : (l.take k).length = k := by rw [List.length_take]; omega
      rw [hlk] at hmk
      have et : (l.take k).take m = l.take m := by rw [List.take_take, Nat.min_eq_left (by omega)]
      rw [closedS_yes e2, et] at hcl
      have hge : decide ((0 : Int) ≤ (m : Int)) = true := decide_eq_true (by omega)
      have hr3 : Rd wr wr.heap.size A (l.take m) := ((HR2.out.below hb (Nat.le_refl _)).more hb.size).take m
      have v1 := (HV1.out.below hb (Nat.le_refl _)).more hb.size
      have v2 := (HV2.out.below hb (Nat.le_refl _)).more hb.size
      have hml : (l.take m).length = m := by rw [List.length_take]; omega
      obtain ⟨i2, hi2⟩ : ∃ i, idx (closesL n) (wallsL n) (l.take m) = i := ⟨_, rfl⟩
      have HC := Lib.hid hcl; have HB := Lib.hid hb; have HV1' := Lib.hid v1; have HV2' := Lib.hid v2; have HR3 := Lib.hid hr3; have HML := Lib.hid hml; have HI2 := Lib.hid hi2
      clear hcl hb hj e2 v1 v2 hr3 hml hi2 et hlk
      have hm0 : (0 : Int) ≤ (m : Int) := by omega
      have hmc : (m : Int) ≤ (c : Int) := by omega
      go_wp2_with fail
      refine (find1 _ V1 V2 0 (l.take m) (closesL n) (wallsL n) wr (by rw [HML.out]; omega) A c (by rw [HML.out]) HR3.out HV1'.out HV2'.out hL1 hL2 i2 HI2.out).mono ?_
      rintro e w4 ⟨rfl, b4⟩
      have HB4 := Lib.hid b4
      clear b4
      go_wp2
      go_roundw
      case rel => exact ⟨m, i2, rfl, rfl, by omega, HI2.out, HC.out, bt HB.out HB4.out⟩
      case measure => simp [lenOf]; omega

theorem closed1 (V : Value) (l : List ByteArray) (n : ByteArray) (w : World) (hm : l.length ≤ 1000000) (A : Option Addr) (c : Nat) (hV : V = .slice A l.length c) (hc : l.length ≤ c) (hr : Rd w w.heap.size A l) :
    Calls Tryz.prog 233 #[V, .string n] w fun e w' => ∃ k : Nat, e = .returned (.slice A k c) ∧ k ≤ l.length ∧ (l.take k).reverse = closedS (closesL n) (wallsL n) l.reverse ∧ Below w.heap.size w w' := by
  subst hV
  exact closed_any A c l n w hm hc hr

theorem para_true {n : ByteArray} (h : para n = true) : (n.toList == [108, 105]) = true ∨ ((n.toList == [108, 105]) = false ∧ (n.toList == [100, 100]) = true) ∨ ((n.toList == [108, 105]) = false ∧ (n.toList == [100, 100]) = false ∧ (n.toList == [100, 116]) = true) := by
  unfold para at h
  rw [Bool.or_eq_true, Bool.or_eq_true, decide_eq_true_iff, decide_eq_true_iff, decide_eq_true_iff] at h
  have e1 : n_li.toList = [108, 105] := by rw [toList_L]
  have e2 : n_dd.toList = [100, 100] := by rw [toList_L]
  have e3 : n_dt.toList = [100, 116] := by rw [toList_L]
  rcases h with (rfl | rfl) | rfl
  · exact .inl (by rw [e1]; rfl)
  · exact .inr (.inl ⟨by rw [e2]; rfl, by rw [e2]; rfl⟩)
  · exact .inr (.inr ⟨by rw [e3]; rfl, by rw [e3]; rfl, by rw [e3]; rfl⟩)
theorem para_false {n : ByteArray} (h : para n = false) : (n.toList == [108, 105]) = false ∧ (n.toList == [100, 100]) = false ∧ (n.toList == [100, 116]) = false := by
  unfold para at h
  rw [Bool.or_eq_false_iff, Bool.or_eq_false_iff, decide_eq_false_iff_not, decide_eq_false_iff_not, decide_eq_false_iff_not] at h
  have e1 : n_li.toList = [108, 105] := by rw [toList_L]
  have e2 : n_dd.toList = [100, 100] := by rw [toList_L]
  have e3 : n_dt.toList = [100, 116] := by rw [toList_L]
  rw [← e1, ← e2, ← e3, eq_of_toList, eq_of_toList, eq_of_toList]
  exact ⟨decide_eq_false h.1.1, decide_eq_false h.1.2, decide_eq_false h.2⟩
theorem opened_yes {n : ByteArray} (h : para n = true) (s : List ByteArray) : openedS n s = closedS (closesL n_p) (wallsL n_p) (closedS (closesL n) (wallsL n) s) := by
  unfold openedS
  rw [if_pos h]
  rfl
theorem opened_no {n : ByteArray} (h : para n = false) (s : List ByteArray) : openedS n s = closedS (closesL n) (wallsL n) s := by
  unfold openedS
  rw [if_neg (by rw [h]; simp)]

set_option maxRecDepth 100000 in
set_option maxHeartbeats 1000000 in
theorem leftOpen_yes (A : Option Addr) (c : Nat) (l : List ByteArray) (n : ByteArray) (w : World) (hm : l.length ≤ 1000000) (hc : l.length ≤ c) (hr : Rd w w.heap.size A l) (hp : para n = true) :
    Calls Tryz.prog 206 #[.slice A l.length c, .string n] w fun e w' => ∃ k : Nat, e = .returned (.slice A k c) ∧ k ≤ l.length ∧ (l.take k).reverse = openedS n l.reverse ∧ Below w.heap.size w w' := by
  have HR := Lib.hid hr; have HO := Lib.hid (opened_yes hp l.reverse)
  have hq := para_true hp
  clear hr hp
  rcases hq with q1 | ⟨q1, q2⟩ | ⟨q1, q2, q3⟩
  · have HH := HO
    clear HH
    go_enter Tryz.func206, Tryz.ntmps206
    go_wp2_with fail
    refine (closed_any A c l n w hm hc HR.out).mono ?_
    rintro e w1 ⟨k, rfl, hk, hcl, b1⟩
    have hkl : (l.take k).length = k := by rw [List.length_take]; omega
    have hr1 : Rd w1 w1.heap.size A (l.take k) := ((HR.out.below b1 (Nat.le_refl _)).more b1.size).take k
    have HC := Lib.hid hcl; have HB := Lib.hid b1; have HKL := Lib.hid hkl; have HR1 := Lib.hid hr1
    clear hcl b1 hkl hr1
    go_wp2_with fail
    refine (closed1 _ (l.take k) n_p w1 (by rw [HKL.out]; omega) A c (by rw [HKL.out]) (by rw [HKL.out]; omega) HR1.out).mono ?_
    rintro e w2 ⟨k2, rfl, hk2, hcl2, b2⟩
    rw [HKL.out] at hk2
    have et : (l.take k).take k2 = l.take k2 := by rw [List.take_take, Nat.min_eq_left hk2]
    rw [et, HC.out] at hcl2
    have HC2 := Lib.hid hcl2
    have HB2 := Lib.hid (bt HB.out b2)
    clear hcl2 et b2
    go_wp2
    go_ret
    exact ⟨k2, rfl, Nat.le_trans hk2 hk, by rw [HC2.out, HO.out], HB2.out⟩
  · have HH := HO
    clear HH
    go_enter Tryz.func206, Tryz.ntmps206
    go_wp2_with fail
    refine (closed_any A c l n w hm hc HR.out).mono ?_
    rintro e w1 ⟨k, rfl, hk, hcl, b1⟩
    have hkl : (l.take k).length = k := by rw [List.length_take]; omega
    have hr1 : Rd w1 w1.heap.size A (l.take k) := ((HR.out.below b1 (Nat.le_refl _)).more b1.size).take k
    have HC := Lib.hid hcl; have HB := Lib.hid b1; have HKL := Lib.hid hkl; have HR1 := Lib.hid hr1
    clear hcl b1 hkl hr1
    go_wp2_with fail
    refine (closed1 _ (l.take k) n_p w1 (by rw [HKL.out]; omega) A c (by rw [HKL.out]) (by rw [HKL.out]; omega) HR1.out).mono ?_
    rintro e w2 ⟨k2, rfl, hk2, hcl2, b2⟩
    rw [HKL.out] at hk2
    have et : (l.take k).take k2 = l.take k2 := by rw [List.take_take, Nat.min_eq_left hk2]
    rw [et, HC.out] at hcl2
    have HC2 := Lib.hid hcl2
    have HB2 := Lib.hid (bt HB.out b2)
    clear hcl2 et b2
    go_wp2
    go_ret
    exact ⟨k2, rfl, Nat.le_trans hk2 hk, by rw [HC2.out, HO.out], HB2.out⟩
  · have HH := HO
    clear HH
    go_enter Tryz.func206, Tryz.ntmps206
    go_wp2_with fail
    refine (closed_any A c l n w hm hc HR.out).mono ?_
    rintro e w1 ⟨k, rfl, hk, hcl, b1⟩
    have hkl : (l.take k).length = k := by rw [List.length_take]; omega
    have hr1 : Rd w1 w1.heap.size A (l.take k) := ((HR.out.below b1 (Nat.le_refl _)).more b1.size).take k
    have HC := Lib.hid hcl; have HB := Lib.hid b1; have HKL := Lib.hid hkl; have HR1 := Lib.hid hr1
    clear hcl b1 hkl hr1
    go_wp2_with fail
    refine (closed1 _ (l.take k) n_p w1 (by rw [HKL.out]; omega) A c (by rw [HKL.out]) (by rw [HKL.out]; omega) HR1.out).mono ?_
    rintro e w2 ⟨k2, rfl, hk2, hcl2, b2⟩
    rw [HKL.out] at hk2
    have et : (l.take k).take k2 = l.take k2 := by rw [List.take_take, Nat.min_eq_left hk2]
    rw [et, HC.out] at hcl2
    have HC2 := Lib.hid hcl2
    have HB2 := Lib.hid (bt HB.out b2)
    clear hcl2 et b2
    go_wp2
    go_ret
    exact ⟨k2, rfl, Nat.le_trans hk2 hk, by rw [HC2.out, HO.out], HB2.out⟩
set_option maxRecDepth 100000 in
set_option maxHeartbeats 1000000 in
theorem leftOpen_no (A : Option Addr) (c : Nat) (l : List ByteArray) (n : ByteArray) (w : World) (hm : l.length ≤ 1000000) (hc : l.length ≤ c) (hr : Rd w w.heap.size A l) (hp : para n = false) :
    Calls Tryz.prog 206 #[.slice A l.length c, .string n] w fun e w' => ∃ k : Nat, e = .returned (.slice A k c) ∧ k ≤ l.length ∧ (l.take k).reverse = openedS n l.reverse ∧ Below w.heap.size w w' := by
  have HO := Lib.hid (opened_no hp l.reverse)
  obtain ⟨q1, q2, q3⟩ := para_false hp
  clear hp
  go_enter Tryz.func206, Tryz.ntmps206
  go_wp2_with fail
  refine (closed_any A c l n w hm hc hr).mono ?_
  rintro e w1 ⟨k, rfl, hk, hcl, b1⟩
  have HC := Lib.hid hcl; have HB := Lib.hid b1
  clear hcl b1 hr
  go_wp2
  go_ret
  exact ⟨k, rfl, hk, by rw [HC.out, HO.out], HB.out⟩
theorem leftOpen_any (A : Option Addr) (c : Nat) (l : List ByteArray) (n : ByteArray) (w : World) (hm : l.length ≤ 1000000) (hc : l.length ≤ c) (hr : Rd w w.heap.size A l) :
    Calls Tryz.prog 206 #[.slice A l.length c, .string n] w fun e w' => ∃ k : Nat, e = .returned (.slice A k c) ∧ k ≤ l.length ∧ (l.take k).reverse = openedS n l.reverse ∧ Below w.heap.size w w' := by
  cases hp : para n with
  | true => exact leftOpen_yes A c l n w hm hc hr hp
  | false => exact leftOpen_no A c l n w hm hc hr hp

end Go.Proofs.YtgjlfcamgkeibaaGreatDoor.Bu

namespace Go.Proofs.YtgjlfcamgkeibaaGreatDoor.Bm
set_option linter.unusedVariables false
set_option linter.unusedSimpArgs false
open Ba Fm Nm
open Ro (At Ro)
open Tm (Tk put)
def full (l : List Ro) : Prop := ∀ x ∈ l, x.kind = 1 → x.data ≠ ⟨#[]⟩
theorem full_nil : full [] := fun x h => by cases h
theorem full_snoc {l : List Ro} {y : Ro} (h : full l) (hy : y.kind = 1 → y.data ≠ ⟨#[]⟩) : full (l ++ [y]) := fun x hx => by
  rcases List.mem_append.1 hx with e | e
  · exact h x e
  · rw [List.mem_singleton.1 e]; exact hy
theorem full_tail {x : Ro} {l : List Ro} (h : full (x :: l)) : full l := fun y hy => h y (List.mem_cons_of_mem _ hy)
theorem full_init {l m : List Ro} (h : full (l ++ m)) : full l := fun y hy => h y (List.mem_append_left _ hy)
def ending (l : List Ro) : Option (Bool × Int) := l.getLast?.map fun x => (decide (x.kind = 1), x.depth)
theorem ending_snoc (l : List Ro) (y : Ro) : ending (l ++ [y]) = some (decide (y.kind = 1), y.depth) := by
  unfold ending
  rw [List.getLast?_append]
  rfl

theorem normal_other {x : Ro} (hk : ¬ x.kind = 1) (r : List Ro) : Ro.normal (x :: r) = x :: Ro.normal r := by rw [Ro.normal, if_neg hk]
theorem normal_text {x : Ro} (hk : x.kind = 1) (hx : x.data ≠ ⟨#[]⟩) (r : List Ro) :
    Ro.normal (x :: r) = ⟨x.depth, 1, ⟨#[]⟩, B (Ro.txt (x :: r.take (Ro.nexts x.depth r))), []⟩ :: Ro.normal (r.drop (Ro.nexts x.depth r)) := by
  rw [Ro.normal, if_pos hk, if_neg]
  · rfl
  · rw [Ro.txt, if_pos hk]
    intro e
    refine hx (L_inj ?_)
    exact (List.append_eq_nil_iff.1 e).1
theorem normal_ne {l : List Ro} (h : full l) (hl : l ≠ []) : Ro.normal l ≠ [] := by
  cases l with
  | nil => exact absurd rfl hl
  | cons x r =>
    by_cases hk : x.kind = 1
    · rw [normal_text hk (h x List.mem_cons_self hk)]
      exact List.cons_ne_nil _ _
    · rw [normal_other hk]
      exact List.cons_ne_nil _ _
theorem nexts_more {d : Int} {r : List Ro} {y : Ro} (h : Ro.nexts d r < r.length) : Ro.nexts d (r ++ [y]) = Ro.nexts d r := by
  unfold Ro.nexts at h ⊢
  rw [List.takeWhile_append, if_neg (by omega)]
theorem nexts_all {d : Int} {r : List Ro} {y : Ro} (h : Ro.nexts d r = r.length) : Ro.nexts d (r ++ [y]) = r.length + (if y.kind = 1 ∧ y.depth = d then 1 else 0) := by
  unfold Ro.nexts at h ⊢
  rw [List.takeWhile_append, if_pos h, List.length_append]
  congr 1
  by_cases hy : y.kind = 1 ∧ y.depth = d
  · rw [if_pos hy, List.takeWhile_cons_of_pos (by rw [hy.1, hy.2]; simp)]
    rfl
  · rw [if_neg hy, List.takeWhile_cons_of_neg (by
      intro e
      rw [Bool.and_eq_true, beq_iff_eq, beq_iff_eq] at e
      exact hy e)]
    rfl
theorem snoc_cases {α : Type} (l : List α) : l = [] ∨ ∃ m y, l = m ++ [y] := by
  rcases List.eq_nil_or_concat l with h | ⟨m, y, h⟩
  · exact .inl h
  · exact .inr ⟨m, y, by rw [h, List.concat_eq_append]⟩
theorem add_ne {a b : List Ro} (hb : b ≠ []) (d : Int) (t : ByteArray) : addText (a ++ b) d t = a ++ addText b d t := by
  obtain ⟨c, z, rfl⟩ : ∃ c z, b = c ++ [z] := (snoc_cases b).resolve_left hb
  unfold addText
  rw [← List.append_assoc, List.getLast?_append, List.getLast?_append, List.getLast?_append]
  show (if z.kind = 1 ∧ z.depth = d then _ else _) = a ++ (if z.kind = 1 ∧ z.depth = d then _ else _)
  rw [List.dropLast_concat, List.dropLast_concat]
  split <;> simp only [List.append_assoc]
theorem add_one {J : Ro} {d : Int} {t : ByteArray} : addText [J] d t = if J.kind = 1 ∧ J.depth = d then [⟨J.depth, J.kind, J.name, J.data ++ t, J.attrs⟩] else [J, ⟨d, 1, ⟨#[]⟩, t, []⟩] := rfl
theorem normal_one {y : Ro} (hk : y.kind = 1) (hy : y.data ≠ ⟨#[]⟩) : Ro.normal [y] = [⟨y.depth, 1, ⟨#[]⟩, y.data, []⟩] := by
  rw [normal_text hk hy]
  show ⟨y.depth, 1, ⟨#[]⟩, B (Ro.txt [y]), []⟩ :: Ro.normal ([] : List Ro) = _
  rw [Ro.txt_text hk, B_L, Ro.normal]
theorem normal_snoc (l : List Ro) (y : Ro) : full (l ++ [y]) → Ro.normal (l ++ [y]) = if y.kind = 1 then addText (Ro.normal l) y.depth y.data else Ro.normal l ++ [y] := by
  induction hn : l.length using Nat.strongRecOn generalizing l with
  | ind n ih =>
    subst hn
    intro hf
    have hy := hf y (List.mem_append_right _ (List.mem_singleton.2 rfl))
    cases l with
    | nil =>
      by_cases hk : y.kind = 1
      · rw [if_pos hk]
        show Ro.normal [y] = addText (Ro.normal []) _ _
        rw [normal_one hk (hy hk), Ro.normal]
        rfl
      · rw [if_neg hk]
        show Ro.normal [y] = Ro.normal [] ++ [y]
        rw [normal_other hk, Ro.normal]
        rfl
    | cons x r =>
      have hx := hf x List.mem_cons_self
      have hfr : full (r ++ [y]) := full_tail (show full (x :: (r ++ [y])) from hf)
      show Ro.normal (x :: (r ++ [y])) = _
      by_cases hkx : x.kind = 1
      · rw [normal_text hkx (hx hkx), normal_text hkx (hx hkx)]
        obtain ⟨m, hm⟩ : ∃ m, Ro.nexts x.depth r = m := ⟨_, rfl⟩
        have hle : m ≤ r.length := by rw [← hm]; exact (List.takeWhile_sublist _).length_le
        rw [hm]
        by_cases hlt : m < r.length
        · rw [nexts_more (by rw [hm]; exact hlt), hm, List.take_append_of_le_length hle, List.drop_append_of_le_length hle]
          have hd : r.drop m ≠ [] := fun e => by have := congrArg List.length e; rw [List.length_drop, List.length_nil] at this; omega
          have hfd : full (r.drop m ++ [y]) := fun z hz => by
            rcases List.mem_append.1 hz with e | e
            · exact hfr z (List.mem_append_left _ (List.mem_of_mem_drop e))
            · exact hfr z (List.mem_append_right _ e)
          rw [ih _ (by rw [List.length_drop, List.length_cons]; omega) _ rfl hfd]
          have hne := normal_ne (full_init hfd) hd
          split
          · exact (add_ne (a := [_]) hne _ _).symm
          · rfl
        · have hm2 : m = r.length := by omega
          rw [nexts_all (by rw [hm]; exact hm2), hm2, List.take_length, List.drop_length]
          have e0 : Ro.normal ([] : List Ro) = [] := by rw [Ro.normal]
          by_cases hyy : y.kind = 1 ∧ y.depth = x.depth
          · rw [if_pos hyy, if_pos hyy.1, e0, add_one, if_pos ⟨rfl, hyy.2.symm⟩]
            have e1 : r.length + 1 = (r ++ [y]).length := by rw [List.length_append]; rfl
            rw [e1, List.take_length, List.drop_length, e0]
            have e2 : Ro.txt (x :: (r ++ [y])) = Ro.txt (x :: r) ++ L y.data := by
              rw [← List.cons_append, Ro.txt_append, Ro.txt_text hyy.1]
            rw [e2, ← B_append, B_L]
          · rw [if_neg hyy, Nat.add_zero, List.take_append_of_le_length (Nat.le_refl _), List.take_length, List.drop_append_of_le_length (Nat.le_refl _), List.drop_length, e0]
            by_cases hk : y.kind = 1
            · rw [if_pos hk, add_one, if_neg (fun e => hyy ⟨hk, e.2.symm⟩), List.nil_append, normal_one hk (hy hk)]
            · rw [if_neg hk, List.nil_append, normal_other hk, e0]
              rfl
      · rw [normal_other hkx, normal_other hkx, ih _ (Nat.lt_succ_self _) _ rfl hfr]
        split
        · exact (add_behind (o0 := [x]) (o := Ro.normal r) (fun z hz => by injection hz with hz; rw [← hz]; exact hkx)).symm
        · rfl
theorem ending_add (o : List Ro) (d : Int) (t : ByteArray) : ending (addText o d t) = some (true, d) := by
  unfold addText
  cases hy : o.getLast? with
  | none => rw [ending_snoc]; rfl
  | some z =>
    show ending (if z.kind = 1 ∧ z.depth = d then _ else _) = _
    split
    · rename_i h
      rw [ending_snoc]
      show some (decide (z.kind = 1), z.depth) = _
      rw [decide_eq_true h.1, h.2]
    · rw [ending_snoc]; rfl
theorem ending_normal {l : List Ro} (h : full l) : ending (Ro.normal l) = ending l := by
  rcases snoc_cases l with rfl | ⟨m, y, rfl⟩
  · rw [Ro.normal]
  · rw [normal_snoc m y h, ending_snoc]
    split
    · rename_i hk; rw [ending_add, decide_eq_true hk]
    · rw [ending_snoc]
theorem len_add (o : List Ro) (d : Int) (t : ByteArray) : (addText o d t).length = o.length + (if ending o = some (true, d) then 0 else 1) := by
  unfold addText ending
  cases hy : o.getLast? with
  | none => show (o ++ [_]).length = _; rw [List.length_append]; rfl
  | some z =>
    show (if z.kind = 1 ∧ z.depth = d then _ else _ : List Ro).length = o.length + (if some (decide (z.kind = 1), z.depth) = some (true, d) then 0 else 1)
    have ho : o ≠ [] := fun e => by rw [e] at hy; cases hy
    have hl : 0 < o.length := List.length_pos_iff.2 ho
    by_cases hc : z.kind = 1 ∧ z.depth = d
    · rw [if_pos hc, if_pos (by rw [decide_eq_true hc.1, hc.2]), List.length_append, List.length_dropLast]
      show o.length - 1 + 1 = _
      omega
    · rw [if_neg hc, if_neg (fun e => by
        injection e with e
        injection e with e1 e2
        exact hc ⟨of_decide_eq_true e1, e2⟩), List.length_append]
      rfl
def meets (l : List Ro) (y : Ro) : Bool := decide (y.kind = 1) && decide (ending l = some (true, y.depth))
theorem len_normal {l : List Ro} {y : Ro} (h : full (l ++ [y])) : (Ro.normal (l ++ [y])).length = (Ro.normal l).length + (if meets l y = true then 0 else 1) := by
  rw [normal_snoc l y h]
  unfold meets
  by_cases hk : y.kind = 1
  · rw [if_pos hk, len_add, ending_normal (full_init h), decide_eq_true hk, Bool.true_and]
    congr 1
    by_cases he : ending l = some (true, y.depth)
    · rw [if_pos he, if_pos (decide_eq_true he)]
    · rw [if_neg he, if_neg (by rw [decide_eq_false he]; simp)]
  · rw [if_neg hk, decide_eq_false hk, List.length_append]
    rfl
theorem big_normal {l : List Ro} {y : Ro} (h : full (l ++ [y])) : tooBig (Ro.normal (l ++ [y])) = (decide (4096 < (Ro.normal (l ++ [y])).length) || decide (60 ≤ y.depth)) := by
  have he := ending_normal h
  rw [ending_snoc] at he
  unfold ending at he
  unfold tooBig
  cases hz : (Ro.normal (l ++ [y])).getLast? with
  | none => rw [hz] at he; cases he
  | some z =>
    rw [hz] at he
    injection he with he
    injection he with _ he
    show (_ || decide (60 ≤ z.depth)) = _
    rw [show z.depth = y.depth from he]

end Go.Proofs.YtgjlfcamgkeibaaGreatDoor.Bm

namespace Go.Proofs.YtgjlfcamgkeibaaGreatDoor.Bu
set_option linter.unusedVariables false
set_option linter.unusedSimpArgs false
open Go.RowKit Ba Fm Fo Nm Bm
open Ro (At Ro Cw ros Fr Ow Att Ap Rr Sh acells len_acells cells len_cells rowV rowO info_row info_attr below_new acells_one flat_at flat_len row_cells_new cells_one range2 range5 len_ros ros_append)
abbrev bp (b : Nat) : Value := .pointer (some ⟨b, 0, none⟩)
def Bc (w : World) (b : Nat) (vo vr : Value) (n : Int) (big : Bool) : Prop := w.heap[b]? = some (.cells #[vo, vr, .int .i64 n, .bool big] 116)
section
variable {w w' : World} {b : Nat} {vo vr : Value} {n : Int} {big : Bool}
theorem Bc.c0 (h : Bc w b vo vr n big) : w.cell? ⟨b, 0, none⟩ = some vo := by rw [cell_of_row w b 0 _ _ _ h]; rfl
theorem Bc.c1 (h : Bc w b vo vr n big) : w.cell? ⟨b, 1, none⟩ = some vr := by rw [cell_of_row w b 1 _ _ _ h]; rfl
theorem Bc.c2 (h : Bc w b vo vr n big) : w.cell? ⟨b, 2, none⟩ = some (.int .i64 n) := by rw [cell_of_row w b 2 _ _ _ h]; rfl
theorem Bc.c3 (h : Bc w b vo vr n big) : w.cell? ⟨b, 3, none⟩ = some (.bool big) := by rw [cell_of_row w b 3 _ _ _ h]; rfl
theorem Bc.f (h : Bc w b vo vr n big) (j : Nat) : w.frozen? ⟨b, j, none⟩ = false := by
  unfold Bc at h
  simp [World.frozen?, h]
theorem Bc.lt (h : Bc w b vo vr n big) : b < w.heap.size := (Array.getElem?_eq_some_iff.1 h).1
theorem Bc.set0 (h : Bc w b vo vr n big) (u : Value) : Bc (w.setCell ⟨b, 0, none⟩ u) b u vr n big := by
  unfold Bc at h ⊢
  simp [World.setCell, Array.getElem?_modify, h]
theorem Bc.set1 (h : Bc w b vo vr n big) (u : Value) : Bc (w.setCell ⟨b, 1, none⟩ u) b vo u n big := by
  unfold Bc at h ⊢
  simp [World.setCell, Array.getElem?_modify, h]
theorem Bc.set2 (h : Bc w b vo vr n big) (m : Int) : Bc (w.setCell ⟨b, 2, none⟩ (.int .i64 m)) b vo vr m big := by
  unfold Bc at h ⊢
  simp [World.setCell, Array.getElem?_modify, h]
theorem Bc.set3 (h : Bc w b vo vr n big) (m : Bool) : Bc (w.setCell ⟨b, 3, none⟩ (.bool m)) b vo vr n m := by
  unfold Bc at h ⊢
  simp [World.setCell, Array.getElem?_modify, h]
theorem Bc.below (h : Bc w b vo vr n big) (hb : Below w.heap.size w w') : Bc w' b vo vr n big := (hb.block b h.lt).trans h
theorem Bc.drew (h : Bc w b vo vr n big) (k : Nat) : Bc (w.drewN k) b vo vr n big := h
end

theorem g_dN (w : World) (n : Nat) (row : Option Nat) : w.grownBy (w.drewN n) row := ⟨rfl, rfl, rfl, Nat.le_refl _, fun _ _ _ => rfl⟩
theorem g_set (w : World) (b j : Nat) (u : Value) : w.grownBy (w.setCell ⟨b, j, none⟩ u) (some b) :=
  ⟨rfl, rfl, rfl, by simp [World.setCell], fun k _ hk => Below.heap_setCell _ _ _ _ (fun e => hk (by simp [e]))⟩

theorem own_ne {N b n size : Nat} {e t : TypeId} {w : World} {v : Value} {xs : List Value} (h : w.ownsRow N e size v n xs) {cs : Array Value} {fr : Nat × Nat} (hb : w.heap[b]? = some (.cells cs t fr)) (ht : t ≠ e) : v.ownBlock ≠ some b := by
  rcases h.2 with ⟨rfl, _⟩ | ⟨g, cap, cur, rfl, _, hh, _⟩
  · simp [Value.ownBlock]
  · intro e
    have e : g = b := by simpa [Value.ownBlock] using e
    subst e
    rw [hb] at hh
    injection hh with hh
    injection hh with _ h2
    exact ht h2
theorem own_apart {N N' n n' size size' : Nat} {e e' : TypeId} {w : World} {v v' : Value} {xs xs' : List Value} (h : w.ownsRow N e size v n xs) (h' : w.ownsRow N' e' size' v' n' xs') (ht : e' ≠ e) : v.ownBlock = none ∨ v.ownBlock ≠ v'.ownBlock := by
  rcases h'.2 with ⟨rfl, _⟩ | ⟨g, cap, cur, rfl, _, hh, _⟩
  · cases hv : v.ownBlock with
    | none => exact .inl rfl
    | some k => right; simp [Value.ownBlock]
  · exact .inr (own_ne h hh ht)

def Kt (w w' : World) : Prop := ∀ (g : Nat) (cs : Array Value) (fr : Nat × Nat), w.heap[g]? = some (.cells cs 104 fr) → w'.heap[g]? = w.heap[g]?
theorem Kt.refl (w : World) : Kt w w := fun _ _ _ _ => rfl
theorem Kt.trans {w w1 w2 : World} (h : Kt w w1) (h' : Kt w1 w2) : Kt w w2 := fun g cs fr hg => (h' g cs fr ((h g cs fr hg).trans hg)).trans (h g cs fr hg)
theorem Kt.below {w w' : World} (h : Below w.heap.size w w') : Kt w w' := fun g cs fr hg => h.block g (Array.getElem?_eq_some_iff.1 hg).1
theorem Kt.grown {w w' : World} {b : Nat} {cs : Array Value} {t : TypeId} {fr : Nat × Nat} (h : w.grownBy w' (some b)) (hb : w.heap[b]? = some (.cells cs t fr)) (ht : t ≠ 104) : Kt w w' := fun g cs' fr' hg => h.block g (Array.getElem?_eq_some_iff.1 hg).1 fun e => by
  injection e with e
  subst e
  rw [hg] at hb
  injection hb with hb
  injection hb with _ h2
  exact ht h2.symm
theorem Kt.own {w w' : World} {N n size : Nat} {e : TypeId} {v : Value} {xs : List Value} (h : w.grownBy w' v.ownBlock) (ho : w.ownsRow N e size v n xs) (ht : e ≠ 104) : Kt w w' := fun g cs fr hg => h.block g (Array.getElem?_eq_some_iff.1 hg).1 fun e2 => own_ne ho hg ht.symm e2.symm

def Or (N : Nat) (w : World) (v : Value) (l : List Cw) : Prop := w.ownsRow N 47 5 v l.length (l.flatMap cells) ∧ ∀ x ∈ l, Fr N w x
theorem Or.ow {N : Nat} {w : World} {v : Value} {l : List Cw} (h : Or N w v l) : Ow N w v l := ⟨h.1, fun x hx => ⟨(h.2 x hx).att, (h.2 x hx).ap⟩⟩
theorem Or.nil (N : Nat) (w : World) : Or N w (.slice none 0 0) [] := ⟨World.ownsRow_nil w N _ 5, fun _ h => by simp at h⟩
theorem Or.kept {N b : Nat} {w w' : World} {v : Value} {l : List Cw} (h : Or N w v l) (hg : w.grownBy w' (some b)) {cs : Array Value} {t : TypeId} {fr : Nat × Nat} (hb : w.heap[b]? = some (.cells cs t fr)) (h1 : t ≠ 47) (h2 : t ≠ 51) : Or N w' v l :=
  ⟨World.ownsRow.kept h.1 hg (.inr (own_ne h.1 hb h1)), fun x hx => ⟨World.ownsRow.kept (h.2 x hx).1 hg (.inr (own_ne (h.2 x hx).1 hb h2)), (h.2 x hx).2⟩⟩
theorem Or.apart {N N' n size : Nat} {e : TypeId} {w w' : World} {v u : Value} {xs : List Value} {l : List Cw} (h : Or N w v l) (hu : w.ownsRow N' e size u n xs) (hg : w.grownBy w' u.ownBlock) (h1 : e ≠ 47) (h2 : e ≠ 51) : Or N w' v l :=
  ⟨World.ownsRow.kept h.1 hg (own_apart h.1 hu h1), fun x hx => ⟨World.ownsRow.kept (h.2 x hx).1 hg (own_apart (h.2 x hx).1 hu h2), (h.2 x hx).2⟩⟩
theorem Or.below {N : Nat} {w w' : World} {v : Value} {l : List Cw} (h : Or N w v l) (hb : Below w.heap.size w w') : Or N w' v l := ⟨(h.ow.below hb).1, fun x hx => (h.2 x hx).below hb⟩
theorem Or.form {N : Nat} {w : World} {v : Value} {l : List Cw} (h : Or N w v l) : ∃ A c, v = .slice A l.length c ∧ l.length ≤ c ∧ c ≤ maxLen ∧ (A = none → c = 0) ∧ Rr w w.heap.size A l := h.ow.form
theorem Sown.keptB {N b : Nat} {w w' : World} {v : Value} {l : List ByteArray} (h : Sown N w v l) (hg : w.grownBy w' (some b)) {cs : Array Value} {t : TypeId} {fr : Nat × Nat} (hb : w.heap[b]? = some (.cells cs t fr)) (h1 : t ≠ 9) : Sown N w' v l := World.ownsRow.kept h hg (.inr (own_ne h hb h1))
theorem Sown.cut {N : Nat} {w : World} {A : Option Addr} {k c : Nat} {l : List ByteArray} (h : Sown N w (.slice A l.length c) l) (hk : k ≤ l.length) : Sown N w (.slice A k c) (l.take k) := by
  have hl : (l.take k).length = k := by rw [List.length_take]; omega
  unfold Sown at h ⊢
  rw [hl]
  obtain ⟨h1, h2⟩ := h
  refine ⟨by rw [List.length_map, hl]; omega, ?_⟩
  rcases h2 with ⟨hv, h0⟩ | ⟨g, cap, cur, hv, hg, hh, hn, hm, hs, ht⟩
  · injection hv with e1 e2 e3
    subst e1; subst e3
    obtain rfl : k = 0 := by omega
    exact .inl ⟨rfl, rfl⟩
  · injection hv with e1 e2 e3
    subst e1; subst e3
    refine .inr ⟨g, c, cur, rfl, hg, hh, by omega, hm, hs, ?_⟩
    have := congrArg (List.take k) ht
    rw [List.take_take, ← List.map_take] at this
    rw [← this]
    congr 1
    omega

def Bg (N : Nat) (w : World) (b : Nat) (o : List ByteArray) (l : List Cw) (n : Int) (big : Bool) : Prop := ∃ vo vr, Bc w b vo vr n big ∧ Sown N w vo o ∧ Or N w vr l ∧ N ≤ b
theorem Bg.below {N : Nat} {w w' : World} {b : Nat} {o : List ByteArray} {l : List Cw} {n : Int} {big : Bool} (h : Bg N w b o l n big) (hb : Below w.heap.size w w') : Bg N w' b o l n big ∧ Below N w w' := by
  obtain ⟨vo, vr, hc, ho, hr, hN⟩ := h
  exact ⟨⟨vo, vr, hc.below hb, ho.below hb (Nat.le_refl _), hr.below hb, hN⟩, hb.mono (by have := hc.lt; omega)⟩
theorem Bg.lt {N : Nat} {w : World} {b : Nat} {o : List ByteArray} {l : List Cw} {n : Int} {big : Bool} (h : Bg N w b o l n big) : N ≤ b ∧ b < w.heap.size := by
  obtain ⟨vo, vr, hc, ho, hr, hN⟩ := h
  exact ⟨hN, hc.lt⟩

theorem last_row {N : Nat} {w : World} {v : Value} {l : List Cw} (h : Or N w v l) (hl : 0 < l.length) : ∃ b off c x, v = .slice (some ⟨b, off, none⟩) l.length c ∧ l.length ≤ c ∧ b < w.heap.size ∧ w.rangeAt b (off + (l.length - 1) * 5) (cells x) ∧ ending (ros l) = some (decide (x.ro.kind = 1), x.ro.depth) := by
  obtain ⟨A, c, e, hc, _, _, hr⟩ := h.form
  obtain ⟨b, off, x, e2, hb, hd, hx, _, _⟩ := hr.at_ (l.length - 1) (by omega)
  refine ⟨b, off, c, x, by rw [e, e2], hc, hb, hx, ?_⟩
  have hd2 : l.drop (l.length - 1) = [x] := by
    rw [hd, List.drop_eq_nil_of_le (by omega)]
  have hs : l = l.take (l.length - 1) ++ [x] := by rw [← hd2, List.take_append_drop]
  rw [hs]
  unfold ros
  rw [List.map_append]
  exact ending_snoc _ _

end Go.Proofs.YtgjlfcamgkeibaaGreatDoor.Bu

namespace Go.Proofs.YtgjlfcamgkeibaaGreatDoor.Bu
set_option maxRecDepth 100000
set_option linter.unusedVariables false
set_option linter.unusedSimpArgs false
open Go.RowKit Ba Fm Fo Nm Bm
open Ro (At Ro Cw ros Fr Ow Att Ap Rr Sh acells len_acells cells len_cells rowV rowO info_row info_attr below_new acells_one flat_at flat_len row_cells_new cells_one range2 range5 len_ros ros_append)
theorem meets_nil (y : Ro) : meets [] y = false := by
  unfold meets
  rw [show ending [] = none from rfl, decide_eq_false (p := none = some (true, y.depth)) (by simp), Bool.and_false]
theorem meets_other (l : List Ro) {y : Ro} (h : ¬ y.kind = 1) : meets l y = false := by
  unfold meets
  rw [decide_eq_false h, Bool.false_and]
theorem meets_text {l : List Ro} {x y : Ro} (h : y.kind = 1) (he : ending l = some (decide (x.kind = 1), x.depth)) : meets l y = ((x.kind == 1) && (x.depth == y.depth)) := by
  unfold meets
  rw [decide_eq_true h, Bool.true_and, he]
  by_cases h1 : x.kind = 1
  · by_cases h2 : x.depth = y.depth
    · rw [decide_eq_true (by rw [decide_eq_true h1, h2]), beq_iff_eq.2 h1, beq_iff_eq.2 h2]; rfl
    · rw [decide_eq_false (fun e => by injection e with e; injection e with _ e; exact h2 e), beq_eq_false_iff_ne.2 h2, Bool.and_false]
  · rw [decide_eq_false (fun e => by injection e with e; injection e with e _; exact h1 (of_decide_eq_true e)), beq_eq_false_iff_ne.2 h1, Bool.false_and]

set_option maxHeartbeats 2000000 in
theorem joins_any (N b : Nat) (vo vr : Value) (n : Int) (big : Bool) (l : List Cw) (y : Cw) (w : World) (h : Bc w b vo vr n big) (hr : Or N w vr l) (hl : l.length ≤ 1000000) :
    Calls Tryz.prog 204 #[bp b, rowV y] w fun e w' => e = .returned (.bool (meets (ros l) y.ro)) ∧ Below w.heap.size w w' := by
  have c1 := h.c1; have hz := h.lt
  by_cases h0 : l.length = 0
  · obtain rfl : l = [] := List.eq_nil_of_length_eq_zero h0
    rw [show ros [] = [] from rfl, meets_nil]
    obtain ⟨A, c, rfl, _⟩ := hr.form
    clear h hr
    go_enter Tryz.func204, Tryz.ntmps204
    go_wp2
    go_ret
    exact ⟨rfl, below_new w _⟩
  obtain ⟨k, hk⟩ : ∃ k, l.length = k + 1 := ⟨l.length - 1, by omega⟩
  obtain ⟨b2, off, c, x, rfl, hc, hb2, hx, he⟩ := last_row hr (by omega)
  have g0 : (((k + 1 : Nat) : Int) == 0) = false := by rw [beq_eq_false_iff_ne]; omega
  rw [hk] at c1 hx hc
  by_cases hy : y.ro.kind = 1
  · rw [meets_text hy he]
    have g1 : (y.ro.kind != 1) = false := by rw [hy]; rfl
    rw [Nat.add_sub_cancel] at hx
    obtain ⟨x0, x1, x2, x3, x4⟩ := range5 hx
    have hkl : k ≤ 1000000 := by omega
    clear h hr he hx hk hy hl h0
    have i1 : (0 : Int) ≤ (k : Int) := by omega
    have i2 : (k : Int) < (k : Int) + 1 := by omega
    have i0 : IntKind.i64.wrap (k : Int) = (k : Nat) := IntWalk.i64_in _ (by omega)
    go_enter Tryz.func204, Tryz.ntmps204
    go_wp2
    go_region
    all_goals go_wp2
    all_goals go_ret
    all_goals refine ⟨?_, below_dN ((below_new w _).alloc (by simp) _) 1⟩
    all_goals first
      | exact ret_bool (by rw [show (x.ro.kind == 1) = true from beq_iff_eq.2 (by assumption)]; rfl)
      | exact ret_bool (by rw [show (x.ro.kind == 1) = false from beq_eq_false_iff_ne.2 (by assumption)]; rfl)
  · rw [meets_other _ hy]
    have g1 : (y.ro.kind != 1) = true := by rw [bne_iff_ne]; exact hy
    clear h hr he hx hk hy
    go_enter Tryz.func204, Tryz.ntmps204
    go_wp2
    go_ret
    exact ⟨rfl, below_new w _⟩

def more (l : List Ro) (n : Int) (y : Ro) : Int := if meets l y = true then n else n + 1
theorem more_yes {l : List Ro} {n : Int} {y : Ro} (h : meets l y = true) : more l n y = n := if_pos h
theorem more_no {l : List Ro} {n : Int} {y : Ro} (h : meets l y = false) : more l n y = n + 1 := if_neg (by rw [h]; simp)

theorem joins1 (N b : Nat) (vo vr : Value) (n : Int) (big : Bool) (l : List Cw) (y : Cw) (w : World) (h : Bc w b vo vr n big) (hr : Or N w vr l) (hl : l.length ≤ 1000000) (q : Bool) (hq : meets (ros l) y.ro = q) :
    Calls Tryz.prog 204 #[bp b, rowV y] w fun e w' => e = .returned (.bool q) ∧ Below w.heap.size w w' := by
  subst hq
  exact joins_any N b vo vr n big l y w h hr hl

theorem Bg.put {N : Nat} {w w1 : World} {b : Nat} {vo vr v' : Value} {o : List ByteArray} {l : List Cw} {y : Cw} {n : Int} {big : Bool} (hc : Bc w b vo vr n big) (ho : Sown N w vo o) (hr : Or N w vr l) (hN : N ≤ b) (hy : Fr N w y)
    (h1 : w1.ownsRow N 47 5 v' (l.length + 1) (l.flatMap cells ++ cells y)) (hg : w.grownBy w1 vr.ownBlock) :
    Bg N (w1.setCell ⟨b, 1, none⟩ v') b o (l ++ [y]) n big ∧ ∀ w0, Below N w0 w → Below N w0 (w1.setCell ⟨b, 1, none⟩ v') := by
  have hrc : Bc w1 b vo vr n big := (hg.block b hc.lt (fun e => own_ne hr.1 hc (by decide) e.symm)).trans hc
  have hs : Sown N w1 vo o := World.ownsRow.kept ho hg (own_apart ho hr.1 (by decide))
  have hfr : ∀ x, Fr N w x → Fr N w1 x := fun x hx => ⟨World.ownsRow.kept hx.1 hg (own_apart hx.1 hr.1 (by decide)), hx.2⟩
  have hor : Or N w1 v' (l ++ [y]) := ⟨by rw [List.length_append, List.flatMap_append]; simpa using h1, fun x hx => by
    rcases List.mem_append.1 hx with hx | hx
    · exact hfr x (hr.2 x hx)
    · rw [List.mem_singleton.1 hx]; exact hfr y hy⟩
  have hgs := g_set w1 b 1 v'
  refine ⟨⟨vo, v', hrc.set1 v', Sown.keptB hs hgs hrc (by decide), hor.kept hgs hrc (by decide) (by decide), hN⟩, fun w0 h0 => ?_⟩
  have hlt := hc.lt
  exact (h0.grown hg (by omega) fun k hk => (World.ownsRow.lt hr.1 k hk).1).setCell hN _

theorem Bc.over {N : Nat} {w w' : World} {b : Nat} {vo vr : Value} {n : Int} {big : Bool} {l : List Cw} (h : Bc w b vo vr n big) (hr : Or N w vr l) (hg : w.grownBy w' vr.ownBlock) : Bc w' b vo vr n big := (hg.block b h.lt (fun e => own_ne hr.1 h (by decide) e.symm)).trans h
theorem step_app_row {ops : Array Oper} {o : Oper} {a : Act} {K : Act → World → Prop} {Q : Exit → Act → World → Prop} {E : Prop} (W : World) (hgd : o.guard = none) (s x : Operand)
    (ho : o.op = .call { callee := .builtin .append, args := #[s, x], argTypes := #[22, 22] })
    (W0 : World) (N : Nat) (v : Value) (l : List Cw) (z : Cw) (hr : Or N W0 v l) (hg : W0.grownBy W none) (hN : N ≤ W0.heap.size) (hl : l.length ≤ 2000000)
    (hs : a.eval s = v) (g0 : Nat) (hx : a.eval x = .slice (some ⟨g0, 0, none⟩) 1 1) (hz : W.heap[g0]? = some (rowO z))
    (h : ∀ g cap w', w'.ownsRow N 47 5 (.slice (some ⟨g, 0, none⟩) (l.length + 1) cap) (l.length + 1) (l.flatMap cells ++ cells z) → W0.grownBy w' v.ownBlock → K (a.put o.dst (.slice (some ⟨g, 0, none⟩) (l.length + 1) cap)) w') :
    if Region.wanted o (yielded ops a.tmps) = true then Oper.wp Tryz.prog o a W K Q else E := by
  obtain ⟨i0, hi, hz0, hz1, hz2⟩ := info_parts info_row
  have hown : W.ownsRow N 47 5 v l.length (l.flatMap cells) := World.ownsRow.kept hr.1 hg (by cases hv : v.ownBlock with
    | none => exact .inl rfl
    | some k => right; simp)
  refine step_append_lies W hgd s x 22 ho N 47 i0 _ 5 72 Tryz.underlying22 hi hz0 hz1 hz2 rfl (by decide) v l.length (l.flatMap cells) hs hown ⟨g0, 0, none⟩ 1 1 (cells z) hx rfl (fun j u hu => World.news_of_block hz j u hu) (cells_one z) (by decide) (by unfold maxLen; omega) (by omega) (Nat.le_trans hN hg.size) _ rfl ?_
  intro g cap w1 h1 h2 _ _
  refine h g cap w1 h1 ?_
  have hlt : ∀ k, v.ownBlock = some k → N ≤ k := fun k hk => (World.ownsRow.lt hr.1 k hk).1
  exact ⟨h2.os.trans hg.os, h2.tape.trans hg.tape, h2.output.trans hg.output, Nat.le_trans hg.size h2.size, fun i hi hne => (h2.block i (Nat.lt_of_lt_of_le hi hg.size) hne).trans (hg.block i hi (by simp))⟩

set_option maxHeartbeats 4000000 in
theorem add_any (N b : Nat) (o : List ByteArray) (l : List Cw) (n : Int) (big : Bool) (y : Cw) (w : World) (h : Bg N w b o l n big) (hy : Fr N w y) (hl : l.length ≤ 1000000) (hol : o.length ≤ 1000000) (hn0 : 0 ≤ n) (hn : n ≤ 1000000) :
    Calls Tryz.prog 169 #[bp b, rowV y] w fun e w' => e = .returned (.tuple #[]) ∧ ∃ z : Cw, z.ro = ⟨(o.length : Nat), y.ro.kind, y.ro.name, y.ro.data, y.ro.attrs⟩ ∧
      Bg N w' b o (l ++ [z]) (more (ros l) n z.ro) (decide (4096 < more (ros l) n z.ro) || decide (60 ≤ (o.length : Int))) ∧ Below N w w' ∧ Kt w w' := by
  obtain ⟨vo, vr, hc, ho, hr, hN⟩ := h
  obtain ⟨Ao, co, rfl, _⟩ := ho.form
  obtain ⟨z, hzd⟩ : ∃ z : Cw, z = ⟨⟨(o.length : Nat), y.ro.kind, y.ro.name, y.ro.data, y.ro.attrs⟩, y.A, y.c⟩ := ⟨_, rfl⟩
  have hyz : Fr N w z := by rw [hzd]; exact hy
  have hzro : z.ro = ⟨(o.length : Nat), y.ro.kind, y.ro.name, y.ro.data, y.ro.attrs⟩ := by rw [hzd]
  have hrow : (Value.agg #[.int .i64 (o.length : Nat), .int .i64 y.ro.kind, .string y.ro.name, .string y.ro.data, .slice y.A y.ro.attrs.length y.c]) = rowV z := by rw [hzd]
  have hobj : (Obj.cells #[.int .i64 (o.length : Nat), .int .i64 y.ro.kind, .string y.ro.name, .string y.ro.data, .slice y.A y.ro.attrs.length y.c] 47) = rowO z := by rw [hzd]
  have hdep : z.ro.depth = (o.length : Nat) := by rw [hzd]
  have c0 := hc.c0; have f0 := hc.f 0
  have hz := hc.lt
  have HC := Lib.hid hc; have HO := Lib.hid ho; have HR := Lib.hid hr; have HY := Lib.hid hyz; have HROW := Lib.hid hrow; have HOBJ := Lib.hid hobj; have HZ := Lib.hid hzro; have HD := Lib.hid hdep
  clear hc ho hr hy hyz hrow hobj hzro hzd hdep
  cases hq : meets (ros l) z.ro with
  | false =>
    have HQ := Lib.hid hq
    clear hq
    go_enter Tryz.func169, Tryz.ntmps169
    go_wp2_with fail
    rw [HROW.out, HOBJ.out]
    have hb1 := below_new w (rowO z)
    refine (joins1 N b _ vr n big l z (w.alloc (rowO z)) (HC.out.below hb1) (HR.out.below hb1) hl false HQ.out).mono ?_
    rintro e w3 ⟨rfl, hb3⟩
    have B3 := bt hb1 hb3
    have hc3 := HC.out.below B3
    have d0 : w3.cell? ⟨w.heap.size, 0, none⟩ = some (.int .i64 z.ro.depth) := Ro.box_kept (x := z) hb3 0
    have d1 : w3.cell? ⟨w.heap.size, 1, none⟩ = some (.int .i64 z.ro.kind) := Ro.box_kept (x := z) hb3 1
    have d2 : w3.cell? ⟨w.heap.size, 2, none⟩ = some (.string z.ro.name) := Ro.box_kept (x := z) hb3 2
    have d3 : w3.cell? ⟨w.heap.size, 3, none⟩ = some (.string z.ro.data) := Ro.box_kept (x := z) hb3 3
    have d4 : w3.cell? ⟨w.heap.size, 4, none⟩ = some (.slice z.A z.ro.attrs.length z.c) := Ro.box_kept (x := z) hb3 4
    have c2 := hc3.c2; have f2 := hc3.f 2; have c3 := hc3.c3; have f3 := hc3.f 3
    have HC3 := Lib.hid hc3; have HB3 := Lib.hid B3
    have HSZ : w.heap.size < w3.heap.size := Nat.lt_of_lt_of_le (by simp) hb3.size
    clear c0 f0 hc3 B3 hb3 hb1
    cases hg : decide (4096 < n + 1) with
    | true =>
      go_upto_region 5 with (fail)
      obtain ⟨W4, hW4⟩ : ∃ W4, (w3.setCell ⟨b, 2, none⟩ (.int .i64 (n + 1))).setCell ⟨b, 3, none⟩ (.bool true) = W4 := ⟨_, rfl⟩
      rw [hW4]
      have hc4 : Bc W4 b _ vr (n + 1) true := hW4 ▸ (HC3.out.set2 (n + 1)).set3 true
      have hgs : w3.grownBy W4 (some b) := hW4 ▸ (g_set w3 b 2 (.int .i64 (n + 1))).trans (g_set _ b 3 (.bool true))
      have ho4 : Sown N W4 _ o := Sown.keptB (HO.out.below HB3.out (Nat.le_refl _)) hgs HC3.out (by decide)
      have hr4 : Or N W4 vr l := (HR.out.below HB3.out).kept hgs HC3.out (by decide) (by decide)
      have hy4 : Fr N W4 z := ⟨World.ownsRow.kept (HY.out.below HB3.out).1 hgs (.inr (own_ne (HY.out.below HB3.out).1 HC3.out (by decide))), HY.out.2⟩
      have hB4 : Below N w W4 := (HB3.out.mono (by omega)).grown hgs (Nat.le_trans (by omega) HB3.out.size) (fun k hk => by injection hk with hk; omega)
      have hkt : Kt w W4 := (Kt.below HB3.out).trans (Kt.grown hgs HC3.out (by decide))
      have HKT := Lib.hid hkt
      have hZ4 : N ≤ W4.heap.size := by have := hc4.lt; omega
      have hne : w.heap.size ≠ b := by omega
      have hk4 : ∀ j, W4.cell? ⟨w.heap.size, j, none⟩ = w3.cell? ⟨w.heap.size, j, none⟩ := fun j => World.cell?_of_block (a := ⟨w.heap.size, j, none⟩) (hgs.block _ HSZ (by simpa using hne))
      have e0 : W4.cell? ⟨w.heap.size, 0, none⟩ = some (.int .i64 z.ro.depth) := (hk4 0).trans d0; have e1 : W4.cell? ⟨w.heap.size, 1, none⟩ = some (.int .i64 z.ro.kind) := (hk4 1).trans d1; have e2 : W4.cell? ⟨w.heap.size, 2, none⟩ = some (.string z.ro.name) := (hk4 2).trans d2; have e3 : W4.cell? ⟨w.heap.size, 3, none⟩ = some (.string z.ro.data) := (hk4 3).trans d3; have e4 : W4.cell? ⟨w.heap.size, 4, none⟩ = some (.slice z.A z.ro.attrs.length z.c) := (hk4 4).trans d4
      have c1 := hc4.c1; have f1 := hc4.f 1; have hz4 := hc4.lt
      have HC4 := Lib.hid hc4; have HO4 := Lib.hid ho4; have HR4 := Lib.hid hr4; have HY4 := Lib.hid hy4; have HB4 := Lib.hid hB4
      clear c2 f2 c3 f3 d0 d1 d2 d3 d4 hk4 hgs hc4 ho4 hr4 hy4 hB4 hW4 hkt
      go_region_law (refine step_app_row _ (by rfl) (.tmp 38) (.tmp 40) (by rfl) W4 N vr l z HR4.out (by first | exact (World.grownBy_alloc W4 _ _).trans (g_dN _ 1 _) | exact (g_dN W4 1 _).trans (World.grownBy_alloc _ _ _)) hZ4 (by omega) (by simp [Act.eval, Act.put]) _ (by simp [Act.eval, Act.put]) (World.alloc_heap_new _ _) ?_; intro g cap w5 hown5 hg5; have hc5 := Bc.over HC4.out HR4.out hg5; have c5 := hc5.c1; have f5 := hc5.f 1; clear hc5)
      all_goals go_wp2
      all_goals go_end0
      all_goals
        obtain ⟨r1, r2⟩ := Bg.put HC4.out HO4.out HR4.out hN HY4.out hown5 hg5
        refine ⟨rfl, z, HZ.out, ?_, r2 _ HB4.out, (HKT.out.trans (Kt.own hg5 HR4.out.1 (by decide))).trans (Kt.grown (g_set w5 b 1 _) (Bc.over HC4.out HR4.out hg5) (by decide))⟩
        rw [more_no HQ.out]
        rw [hg, Bool.true_or]
        exact r1
    | false =>
    cases h6 : decide (60 ≤ z.ro.depth) with
    | true =>
      go_upto_region 5 with (fail)
      obtain ⟨W4, hW4⟩ : ∃ W4, (w3.setCell ⟨b, 2, none⟩ (.int .i64 (n + 1))).setCell ⟨b, 3, none⟩ (.bool true) = W4 := ⟨_, rfl⟩
      rw [hW4]
      have hc4 : Bc W4 b _ vr (n + 1) true := hW4 ▸ (HC3.out.set2 (n + 1)).set3 true
      have hgs : w3.grownBy W4 (some b) := hW4 ▸ (g_set w3 b 2 (.int .i64 (n + 1))).trans (g_set _ b 3 (.bool true))
      have ho4 : Sown N W4 _ o := Sown.keptB (HO.out.below HB3.out (Nat.le_refl _)) hgs HC3.out (by decide)
      have hr4 : Or N W4 vr l := (HR.out.below HB3.out).kept hgs HC3.out (by decide) (by decide)
      have hy4 : Fr N W4 z := ⟨World.ownsRow.kept (HY.out.below HB3.out).1 hgs (.inr (own_ne (HY.out.below HB3.out).1 HC3.out (by decide))), HY.out.2⟩
      have hB4 : Below N w W4 := (HB3.out.mono (by omega)).grown hgs (Nat.le_trans (by omega) HB3.out.size) (fun k hk => by injection hk with hk; omega)
      have hkt : Kt w W4 := (Kt.below HB3.out).trans (Kt.grown hgs HC3.out (by decide))
      have HKT := Lib.hid hkt
      have hZ4 : N ≤ W4.heap.size := by have := hc4.lt; omega
      have hne : w.heap.size ≠ b := by omega
      have hk4 : ∀ j, W4.cell? ⟨w.heap.size, j, none⟩ = w3.cell? ⟨w.heap.size, j, none⟩ := fun j => World.cell?_of_block (a := ⟨w.heap.size, j, none⟩) (hgs.block _ HSZ (by simpa using hne))
      have e0 : W4.cell? ⟨w.heap.size, 0, none⟩ = some (.int .i64 z.ro.depth) := (hk4 0).trans d0; have e1 : W4.cell? ⟨w.heap.size, 1, none⟩ = some (.int .i64 z.ro.kind) := (hk4 1).trans d1; have e2 : W4.cell? ⟨w.heap.size, 2, none⟩ = some (.string z.ro.name) := (hk4 2).trans d2; have e3 : W4.cell? ⟨w.heap.size, 3, none⟩ = some (.string z.ro.data) := (hk4 3).trans d3; have e4 : W4.cell? ⟨w.heap.size, 4, none⟩ = some (.slice z.A z.ro.attrs.length z.c) := (hk4 4).trans d4
      have c1 := hc4.c1; have f1 := hc4.f 1; have hz4 := hc4.lt
      have HC4 := Lib.hid hc4; have HO4 := Lib.hid ho4; have HR4 := Lib.hid hr4; have HY4 := Lib.hid hy4; have HB4 := Lib.hid hB4
      clear c2 f2 c3 f3 d0 d1 d2 d3 d4 hk4 hgs hc4 ho4 hr4 hy4 hB4 hW4 hkt
      go_region_law (refine step_app_row _ (by rfl) (.tmp 38) (.tmp 40) (by rfl) W4 N vr l z HR4.out (by first | exact (World.grownBy_alloc W4 _ _).trans (g_dN _ 1 _) | exact (g_dN W4 1 _).trans (World.grownBy_alloc _ _ _)) hZ4 (by omega) (by simp [Act.eval, Act.put]) _ (by simp [Act.eval, Act.put]) (World.alloc_heap_new _ _) ?_; intro g cap w5 hown5 hg5; have hc5 := Bc.over HC4.out HR4.out hg5; have c5 := hc5.c1; have f5 := hc5.f 1; clear hc5)
      all_goals go_wp2
      all_goals go_end0
      all_goals
        obtain ⟨r1, r2⟩ := Bg.put HC4.out HO4.out HR4.out hN HY4.out hown5 hg5
        refine ⟨rfl, z, HZ.out, ?_, r2 _ HB4.out, (HKT.out.trans (Kt.own hg5 HR4.out.1 (by decide))).trans (Kt.grown (g_set w5 b 1 _) (Bc.over HC4.out HR4.out hg5) (by decide))⟩
        rw [more_no HQ.out]
        rw [hg, Bool.false_or, ← HD.out, h6]
        exact r1
    | false =>
      go_upto_region 5 with (fail)
      obtain ⟨W4, hW4⟩ : ∃ W4, (w3.setCell ⟨b, 2, none⟩ (.int .i64 (n + 1))).setCell ⟨b, 3, none⟩ (.bool false) = W4 := ⟨_, rfl⟩
      rw [hW4]
      have hc4 : Bc W4 b _ vr (n + 1) false := hW4 ▸ (HC3.out.set2 (n + 1)).set3 false
      have hgs : w3.grownBy W4 (some b) := hW4 ▸ (g_set w3 b 2 (.int .i64 (n + 1))).trans (g_set _ b 3 (.bool false))
      have ho4 : Sown N W4 _ o := Sown.keptB (HO.out.below HB3.out (Nat.le_refl _)) hgs HC3.out (by decide)
      have hr4 : Or N W4 vr l := (HR.out.below HB3.out).kept hgs HC3.out (by decide) (by decide)
      have hy4 : Fr N W4 z := ⟨World.ownsRow.kept (HY.out.below HB3.out).1 hgs (.inr (own_ne (HY.out.below HB3.out).1 HC3.out (by decide))), HY.out.2⟩
      have hB4 : Below N w W4 := (HB3.out.mono (by omega)).grown hgs (Nat.le_trans (by omega) HB3.out.size) (fun k hk => by injection hk with hk; omega)
      have hkt : Kt w W4 := (Kt.below HB3.out).trans (Kt.grown hgs HC3.out (by decide))
      have HKT := Lib.hid hkt
      have hZ4 : N ≤ W4.heap.size := by have := hc4.lt; omega
      have hne : w.heap.size ≠ b := by omega
      have hk4 : ∀ j, W4.cell? ⟨w.heap.size, j, none⟩ = w3.cell? ⟨w.heap.size, j, none⟩ := fun j => World.cell?_of_block (a := ⟨w.heap.size, j, none⟩) (hgs.block _ HSZ (by simpa using hne))
      have e0 : W4.cell? ⟨w.heap.size, 0, none⟩ = some (.int .i64 z.ro.depth) := (hk4 0).trans d0; have e1 : W4.cell? ⟨w.heap.size, 1, none⟩ = some (.int .i64 z.ro.kind) := (hk4 1).trans d1; have e2 : W4.cell? ⟨w.heap.size, 2, none⟩ = some (.string z.ro.name) := (hk4 2).trans d2; have e3 : W4.cell? ⟨w.heap.size, 3, none⟩ = some (.string z.ro.data) := (hk4 3).trans d3; have e4 : W4.cell? ⟨w.heap.size, 4, none⟩ = some (.slice z.A z.ro.attrs.length z.c) := (hk4 4).trans d4
      have c1 := hc4.c1; have f1 := hc4.f 1; have hz4 := hc4.lt
      have HC4 := Lib.hid hc4; have HO4 := Lib.hid ho4; have HR4 := Lib.hid hr4; have HY4 := Lib.hid hy4; have HB4 := Lib.hid hB4
      clear c2 f2 c3 f3 d0 d1 d2 d3 d4 hk4 hgs hc4 ho4 hr4 hy4 hB4 hW4 hkt
      go_region_law (refine step_app_row _ (by rfl) (.tmp 38) (.tmp 40) (by rfl) W4 N vr l z HR4.out (by first | exact (World.grownBy_alloc W4 _ _).trans (g_dN _ 1 _) | exact (g_dN W4 1 _).trans (World.grownBy_alloc _ _ _)) hZ4 (by omega) (by simp [Act.eval, Act.put]) _ (by simp [Act.eval, Act.put]) (World.alloc_heap_new _ _) ?_; intro g cap w5 hown5 hg5; have hc5 := Bc.over HC4.out HR4.out hg5; have c5 := hc5.c1; have f5 := hc5.f 1; clear hc5)
      all_goals go_wp2
      all_goals go_end0
      all_goals
        obtain ⟨r1, r2⟩ := Bg.put HC4.out HO4.out HR4.out hN HY4.out hown5 hg5
        refine ⟨rfl, z, HZ.out, ?_, r2 _ HB4.out, (HKT.out.trans (Kt.own hg5 HR4.out.1 (by decide))).trans (Kt.grown (g_set w5 b 1 _) (Bc.over HC4.out HR4.out hg5) (by decide))⟩
        rw [more_no HQ.out]
        rw [hg, Bool.false_or, ← HD.out, h6]
        exact r1
  | true =>
    have HQ := Lib.hid hq
    clear hq
    go_enter Tryz.func169, Tryz.ntmps169
    go_wp2_with fail
    rw [HROW.out, HOBJ.out]
    have hb1 := below_new w (rowO z)
    refine (joins1 N b _ vr n big l z (w.alloc (rowO z)) (HC.out.below hb1) (HR.out.below hb1) hl true HQ.out).mono ?_
    rintro e w3 ⟨rfl, hb3⟩
    have B3 := bt hb1 hb3
    have hc3 := HC.out.below B3
    have d0 : w3.cell? ⟨w.heap.size, 0, none⟩ = some (.int .i64 z.ro.depth) := Ro.box_kept (x := z) hb3 0
    have d1 : w3.cell? ⟨w.heap.size, 1, none⟩ = some (.int .i64 z.ro.kind) := Ro.box_kept (x := z) hb3 1
    have d2 : w3.cell? ⟨w.heap.size, 2, none⟩ = some (.string z.ro.name) := Ro.box_kept (x := z) hb3 2
    have d3 : w3.cell? ⟨w.heap.size, 3, none⟩ = some (.string z.ro.data) := Ro.box_kept (x := z) hb3 3
    have d4 : w3.cell? ⟨w.heap.size, 4, none⟩ = some (.slice z.A z.ro.attrs.length z.c) := Ro.box_kept (x := z) hb3 4
    have c2 := hc3.c2; have c3 := hc3.c3; have f3 := hc3.f 3
    have HC3 := Lib.hid hc3; have HB3 := Lib.hid B3
    have HSZ : w.heap.size < w3.heap.size := Nat.lt_of_lt_of_le (by simp) hb3.size
    clear c0 f0 hc3 B3 hb3 hb1
    cases hg : decide (4096 < n) with
    | true =>
      go_upto_region 5 with (fail)
      obtain ⟨W4, hW4⟩ : ∃ W4, w3.setCell ⟨b, 3, none⟩ (.bool true) = W4 := ⟨_, rfl⟩
      rw [hW4]
      have hc4 : Bc W4 b _ vr n true := hW4 ▸ HC3.out.set3 true
      have hgs : w3.grownBy W4 (some b) := hW4 ▸ g_set w3 b 3 (.bool true)
      have ho4 : Sown N W4 _ o := Sown.keptB (HO.out.below HB3.out (Nat.le_refl _)) hgs HC3.out (by decide)
      have hr4 : Or N W4 vr l := (HR.out.below HB3.out).kept hgs HC3.out (by decide) (by decide)
      have hy4 : Fr N W4 z := ⟨World.ownsRow.kept (HY.out.below HB3.out).1 hgs (.inr (own_ne (HY.out.below HB3.out).1 HC3.out (by decide))), HY.out.2⟩
      have hB4 : Below N w W4 := (HB3.out.mono (by omega)).grown hgs (Nat.le_trans (by omega) HB3.out.size) (fun k hk => by injection hk with hk; omega)
      have hkt : Kt w W4 := (Kt.below HB3.out).trans (Kt.grown hgs HC3.out (by decide))
      have HKT := Lib.hid hkt
      have hZ4 : N ≤ W4.heap.size := by have := hc4.lt; omega
      have hne : w.heap.size ≠ b := by omega
      have hk4 : ∀ j, W4.cell? ⟨w.heap.size, j, none⟩ = w3.cell? ⟨w.heap.size, j, none⟩ := fun j => World.cell?_of_block (a := ⟨w.heap.size, j, none⟩) (hgs.block _ HSZ (by simpa using hne))
      have e0 : W4.cell? ⟨w.heap.size, 0, none⟩ = some (.int .i64 z.ro.depth) := (hk4 0).trans d0; have e1 : W4.cell? ⟨w.heap.size, 1, none⟩ = some (.int .i64 z.ro.kind) := (hk4 1).trans d1; have e2 : W4.cell? ⟨w.heap.size, 2, none⟩ = some (.string z.ro.name) := (hk4 2).trans d2; have e3 : W4.cell? ⟨w.heap.size, 3, none⟩ = some (.string z.ro.data) := (hk4 3).trans d3; have e4 : W4.cell? ⟨w.heap.size, 4, none⟩ = some (.slice z.A z.ro.attrs.length z.c) := (hk4 4).trans d4
      have c1 := hc4.c1; have f1 := hc4.f 1; have hz4 := hc4.lt
      have HC4 := Lib.hid hc4; have HO4 := Lib.hid ho4; have HR4 := Lib.hid hr4; have HY4 := Lib.hid hy4; have HB4 := Lib.hid hB4
      clear c2 c3 f3 d0 d1 d2 d3 d4 hk4 hgs hc4 ho4 hr4 hy4 hB4 hW4 hkt
      go_region_law (refine step_app_row _ (by rfl) (.tmp 38) (.tmp 40) (by rfl) W4 N vr l z HR4.out (by first | exact (World.grownBy_alloc W4 _ _).trans (g_dN _ 1 _) | exact (g_dN W4 1 _).trans (World.grownBy_alloc _ _ _)) hZ4 (by omega) (by simp [Act.eval, Act.put]) _ (by simp [Act.eval, Act.put]) (World.alloc_heap_new _ _) ?_; intro g cap w5 hown5 hg5; have hc5 := Bc.over HC4.out HR4.out hg5; have c5 := hc5.c1; have f5 := hc5.f 1; clear hc5)
      all_goals go_wp2
      all_goals go_end0
      all_goals
        obtain ⟨r1, r2⟩ := Bg.put HC4.out HO4.out HR4.out hN HY4.out hown5 hg5
        refine ⟨rfl, z, HZ.out, ?_, r2 _ HB4.out, (HKT.out.trans (Kt.own hg5 HR4.out.1 (by decide))).trans (Kt.grown (g_set w5 b 1 _) (Bc.over HC4.out HR4.out hg5) (by decide))⟩
        rw [more_yes HQ.out]
        rw [hg, Bool.true_or]
        exact r1
    | false =>
    cases h6 : decide (60 ≤ z.ro.depth) with
    | true =>
      go_upto_region 5 with (fail)
      obtain ⟨W4, hW4⟩ : ∃ W4, w3.setCell ⟨b, 3, none⟩ (.bool true) = W4 := ⟨_, rfl⟩
      rw [hW4]
      have hc4 : Bc W4 b _ vr n true := hW4 ▸ HC3.out.set3 true
      have hgs : w3.grownBy W4 (some b) := hW4 ▸ g_set w3 b 3 (.bool true)
      have ho4 : Sown N W4 _ o := Sown.keptB (HO.out.below HB3.out (Nat.le_refl _)) hgs HC3.out (by decide)
      have hr4 : Or N W4 vr l := (HR.out.below HB3.out).kept hgs HC3.out (by decide) (by decide)
      have hy4 : Fr N W4 z := ⟨World.ownsRow.kept (HY.out.below HB3.out).1 hgs (.inr (own_ne (HY.out.below HB3.out).1 HC3.out (by decide))), HY.out.2⟩
      have hB4 : Below N w W4 := (HB3.out.mono (by omega)).grown hgs (Nat.le_trans (by omega) HB3.out.size) (fun k hk => by injection hk with hk; omega)
      have hkt : Kt w W4 := (Kt.below HB3.out).trans (Kt.grown hgs HC3.out (by decide))
      have HKT := Lib.hid hkt
      have hZ4 : N ≤ W4.heap.size := by have := hc4.lt; omega
      have hne : w.heap.size ≠ b := by omega
      have hk4 : ∀ j, W4.cell? ⟨w.heap.size, j, none⟩ = w3.cell? ⟨w.heap.size, j, none⟩ := fun j => World.cell?_of_block (a := ⟨w.heap.size, j, none⟩) (hgs.block _ HSZ (by simpa using hne))
      have e0 : W4.cell? ⟨w.heap.size, 0, none⟩ = some (.int .i64 z.ro.depth) := (hk4 0).trans d0; have e1 : W4.cell? ⟨w.heap.size, 1, none⟩ = some (.int .i64 z.ro.kind) := (hk4 1).trans d1; have e2 : W4.cell? ⟨w.heap.size, 2, none⟩ = some (.string z.ro.name) := (hk4 2).trans d2; have e3 : W4.cell? ⟨w.heap.size, 3, none⟩ = some (.string z.ro.data) := (hk4 3).trans d3; have e4 : W4.cell? ⟨w.heap.size, 4, none⟩ = some (.slice z.A z.ro.attrs.length z.c) := (hk4 4).trans d4
      have c1 := hc4.c1; have f1 := hc4.f 1; have hz4 := hc4.lt
      have HC4 := Lib.hid hc4; have HO4 := Lib.hid ho4; have HR4 := Lib.hid hr4; have HY4 := Lib.hid hy4; have HB4 := Lib.hid hB4
      clear c2 c3 f3 d0 d1 d2 d3 d4 hk4 hgs hc4 ho4 hr4 hy4 hB4 hW4 hkt
      go_region_law (refine step_app_row _ (by rfl) (.tmp 38) (.tmp 40) (by rfl) W4 N vr l z HR4.out (by first | exact (World.grownBy_alloc W4 _ _).trans (g_dN _ 1 _) | exact (g_dN W4 1 _).trans (World.grownBy_alloc _ _ _)) hZ4 (by omega) (by simp [Act.eval, Act.put]) _ (by simp [Act.eval, Act.put]) (World.alloc_heap_new _ _) ?_; intro g cap w5 hown5 hg5; have hc5 := Bc.over HC4.out HR4.out hg5; have c5 := hc5.c1; have f5 := hc5.f 1; clear hc5)
      all_goals go_wp2
      all_goals go_end0
      all_goals
        obtain ⟨r1, r2⟩ := Bg.put HC4.out HO4.out HR4.out hN HY4.out hown5 hg5
        refine ⟨rfl, z, HZ.out, ?_, r2 _ HB4.out, (HKT.out.trans (Kt.own hg5 HR4.out.1 (by decide))).trans (Kt.grown (g_set w5 b 1 _) (Bc.over HC4.out HR4.out hg5) (by decide))⟩
        rw [more_yes HQ.out]
        rw [hg, Bool.false_or, ← HD.out, h6]
        exact r1
    | false =>
      go_upto_region 5 with (fail)
      obtain ⟨W4, hW4⟩ : ∃ W4, w3.setCell ⟨b, 3, none⟩ (.bool false) = W4 := ⟨_, rfl⟩
      rw [hW4]
      have hc4 : Bc W4 b _ vr n false := hW4 ▸ HC3.out.set3 false
      have hgs : w3.grownBy W4 (some b) := hW4 ▸ g_set w3 b 3 (.bool false)
      have ho4 : Sown N W4 _ o := Sown.keptB (HO.out.below HB3.out (Nat.le_refl _)) hgs HC3.out (by decide)
      have hr4 : Or N W4 vr l := (HR.out.below HB3.out).kept hgs HC3.out (by decide) (by decide)
      have hy4 : Fr N W4 z := ⟨World.ownsRow.kept (HY.out.below HB3.out).1 hgs (.inr (own_ne (HY.out.below HB3.out).1 HC3.out (by decide))), HY.out.2⟩
      have hB4 : Below N w W4 := (HB3.out.mono (by omega)).grown hgs (Nat.le_trans (by omega) HB3.out.size) (fun k hk => by injection hk with hk; omega)
      have hkt : Kt w W4 := (Kt.below HB3.out).trans (Kt.grown hgs HC3.out (by decide))
      have HKT := Lib.hid hkt
      have hZ4 : N ≤ W4.heap.size := by have := hc4.lt; omega
      have hne : w.heap.size ≠ b := by omega
      have hk4 : ∀ j, W4.cell? ⟨w.heap.size, j, none⟩ = w3.cell? ⟨w.heap.size, j, none⟩ := fun j => World.cell?_of_block (a := ⟨w.heap.size, j, none⟩) (hgs.block _ HSZ (by simpa using hne))
      have e0 : W4.cell? ⟨w.heap.size, 0, none⟩ = some (.int .i64 z.ro.depth) := (hk4 0).trans d0; have e1 : W4.cell? ⟨w.heap.size, 1, none⟩ = some (.int .i64 z.ro.kind) := (hk4 1).trans d1; have e2 : W4.cell? ⟨w.heap.size, 2, none⟩ = some (.string z.ro.name) := (hk4 2).trans d2; have e3 : W4.cell? ⟨w.heap.size, 3, none⟩ = some (.string z.ro.data) := (hk4 3).trans d3; have e4 : W4.cell? ⟨w.heap.size, 4, none⟩ = some (.slice z.A z.ro.attrs.length z.c) := (hk4 4).trans d4
      have c1 := hc4.c1; have f1 := hc4.f 1; have hz4 := hc4.lt
      have HC4 := Lib.hid hc4; have HO4 := Lib.hid ho4; have HR4 := Lib.hid hr4; have HY4 := Lib.hid hy4; have HB4 := Lib.hid hB4
      clear c2 c3 f3 d0 d1 d2 d3 d4 hk4 hgs hc4 ho4 hr4 hy4 hB4 hW4 hkt
      go_region_law (refine step_app_row _ (by rfl) (.tmp 38) (.tmp 40) (by rfl) W4 N vr l z HR4.out (by first | exact (World.grownBy_alloc W4 _ _).trans (g_dN _ 1 _) | exact (g_dN W4 1 _).trans (World.grownBy_alloc _ _ _)) hZ4 (by omega) (by simp [Act.eval, Act.put]) _ (by simp [Act.eval, Act.put]) (World.alloc_heap_new _ _) ?_; intro g cap w5 hown5 hg5; have hc5 := Bc.over HC4.out HR4.out hg5; have c5 := hc5.c1; have f5 := hc5.f 1; clear hc5)
      all_goals go_wp2
      all_goals go_end0
      all_goals
        obtain ⟨r1, r2⟩ := Bg.put HC4.out HO4.out HR4.out hN HY4.out hown5 hg5
        refine ⟨rfl, z, HZ.out, ?_, r2 _ HB4.out, (HKT.out.trans (Kt.own hg5 HR4.out.1 (by decide))).trans (Kt.grown (g_set w5 b 1 _) (Bc.over HC4.out HR4.out hg5) (by decide))⟩
        rw [more_yes HQ.out]
        rw [hg, Bool.false_or, ← HD.out, h6]
        exact r1

end Go.Proofs.YtgjlfcamgkeibaaGreatDoor.Bu

namespace Go.Proofs.YtgjlfcamgkeibaaGreatDoor.Bu
set_option maxRecDepth 100000
set_option linter.unusedVariables false
set_option linter.unusedSimpArgs false
open Go.RowKit Ba Fm Fo Nm Bm
open Ro (At Ra Sh acells len_acells below_new getElem_of_drop range2 run_makeMap_hint size_attr)
open Tm (put known)
open To (Aw app_attr Sn has_Sn Sn_snoc keyed_str zero_unit)
theorem once_take {l : List At} {k : Nat} {x : At} {r : List At} (h : l.drop k = x :: r) : once (l.take (k + 1)) = put (once (l.take k)) x := by
  have htk : l.take (k + 1) = l.take k ++ [x] := by
    rw [List.take_add_one, getElem_of_drop h]
    rfl
  rw [htk]
  unfold once
  rw [List.foldl_append]
  rfl

set_option maxRecDepth 100000 in
set_option maxHeartbeats 4000000 in
theorem firsts_any (A : Option Addr) (c : Nat) (l : List At) (w : World) (hr : Ra w w.heap.size A l) (hsh : Sh l) (hc : l.length ≤ c) (hl : l.length ≤ 1000000) :
    Calls Tryz.prog 207 #[.slice A l.length c] w fun e w' => ∃ v, e = .returned v ∧ Aw w.heap.size w' v (once l) ∧ Below w.heap.size w w' := by
  have hmm := fun q n w => run_makeMap_hint Tryz.underlying167 q n w
  go_enter Tryz.func207, Tryz.ntmps207
  go_wp2
  go_loopw [3, 14] (fun v i wr => ∃ k : Nat, i = .int .i64 k ∧ k ≤ l.length ∧ wr.ownsMap Tryz.prog 9 (unitElem (H := Unit)) w.heap.size (once (l.take k)).length (Sn (once (l.take k))) ∧ Aw (w.heap.size + 1) wr v (once (l.take k)) ∧ Below w.heap.size w wr ∧ w.heap.size + 1 ≤ wr.heap.size ∧ (once (l.take k)).length ≤ k) (fun _ i _ => l.length - (intOf i).toNat)
  case atStart => exact ⟨0, rfl, by omega, World.ownsMap_made _ _ _ _, Aw.nil _ _, (Below.refl _ _).alloc (Nat.le_refl _) _, by simp, Nat.le_refl _⟩
  case round =>
    clear hmm
    obtain ⟨k, rfl, hk, hown, haw, hbel, hwz, hkl⟩ := hrel
    have hsz := hbel.size
    by_cases hp : k < l.length
    · obtain ⟨b, off, a, rfl, hb, hd, hx, hxm⟩ := (hr.below hbel).at_ k hp
      obtain ⟨x0, x1⟩ := range2 hx
      have hot := once_take hd
      have hnm := hsh a hxm
      have hkey : keyOf Tryz.prog 9 (.string a.name) = some (.string (L a.name)) := WideMaps.keyOf_string_mk Tryz.underlying9 hnm
      obtain ⟨ac, hac⟩ : ∃ ac, once (l.take k) = ac := ⟨_, rfl⟩
      rw [hac] at hot hown haw hkl
      have hbw : b < wr.heap.size := by omega
      cases hq : known ac a.name with
      | true =>
        have hp2 : put ac a = ac := by unfold put; rw [if_pos hq]
        rw [hp2] at hot
        have hhas := has_Sn ac a.name
        rw [hq] at hhas
        have HT := Lib.hid hot; have HH := Lib.hid hhas; have HM := Lib.hid hown; have HW := Lib.hid haw; have HB := Lib.hid hbel
        clear hd hot hx hhas hq hp2 hac hown haw hbel
        go_wp2_with (at_lookup; refine wpList_lookup_own_unit _ rfl _ _ 167 rfl 9 155 keyed_str Tryz.underlying167 (zero_unit _) w.heap.size ac.length (Sn ac) rfl (HM.out.alloc _) _ _ rfl hkey ?_; rw [HH.out])
        go_roundw
        case rel => exact ⟨k + 1, by go_num, by omega, by rw [HT.out]; exact (HM.out.alloc _).alloc _, by rw [HT.out]; exact (HW.out.alloc _).alloc _, (HB.out.alloc hsz _).alloc (by simp; omega) _, by simp; omega, by rw [HT.out]; omega⟩
        case measure => simp [intOf]; omega
      | false =>
        have hp2 : put ac a = ac ++ [a] := by unfold put; rw [if_neg (by rw [hq]; simp)]
        rw [hp2] at hot
        have hhas := has_Sn ac a.name
        rw [hq] at hhas
        have hlen : ac.length < maxLen := by unfold maxLen; omega
        have hl4 : ac.length ≤ 4000000000 := by omega
        have HT := Lib.hid hot; have HH := Lib.hid hhas; have HM := Lib.hid hown; have HW := Lib.hid haw; have HB := Lib.hid hbel; have HBX := Lib.hid (To.Bx.new wr a.name a.value)
        clear hd hot hx hhas hq hp2 hac hown haw hbel
        have hne1 : w.heap.size ≠ wr.heap.size := by omega
        go_wp2_with (first
          | (at_lookup; refine wpList_lookup_own_unit _ rfl _ _ 167 rfl 9 155 keyed_str Tryz.underlying167 (zero_unit _) w.heap.size ac.length (Sn ac) rfl (HM.out.alloc _) _ _ rfl hkey ?_; rw [HH.out])
          | (at_mapUpdate; refine wpList_mapUpdate_own _ rfl _ _ _ 167 rfl 9 155 keyed_str Tryz.underlying167 (unitElem (H := Unit)) w.heap.size ac.length (Sn ac) rfl ((HM.out.alloc _).alloc _) hlen _ _ _ rfl rfl hkey _ [] unitElem_mk ?_; intro w5 hown5 hgrow5; have hx5 := ((HBX.out).below (below_new _ (.cells #[] 155))).kept hgrow5 hne1.symm; have y0 := hx5.c0; have y1 := hx5.c1; have hw5 := (((HW.out.alloc (.cells #[.string a.name, .string a.value] 51)).alloc (.cells #[] 155)).kept hgrow5 (.inr (HW.out.low (Nat.lt_succ_self _)))); have hz5 : w.heap.size + 1 ≤ w5.heap.size := Nat.le_trans (by simp; omega) hgrow5.size; have HO5 := Lib.hid hown5; have HG5 := Lib.hid hgrow5; have HW5 := Lib.hid hw5; have HZ5 := Lib.hid hz5; clear hx5 hw5 hz5 hown5 hgrow5)
          | (at_builtin; go_loud (refine app_attr w5 rfl (.tmp 30) (.tmp 32) rfl (w.heap.size + 1) _ ac a rfl HW5.out hnm w5.heap.size rfl rfl hl4 HZ5.out ?_); intro v7 w7 hw7 hg7))
        have hm7 := World.ownsMap.kept HO5.out hg7 (fun e => HW5.out.low (Nat.lt_succ_self _) e.symm)
        rw [← Sn_snoc] at hm7
        have hb5 : Below w.heap.size w w5 := ((HB.out.alloc hsz _).alloc (by simp; omega) _).grown HG5.out (by simp; omega) (fun j hj => by injection hj with hj; omega)
        have hb7 : Below w.heap.size w w7 := hb5.grown hg7 (by have := HZ5.out; omega) (fun j hj => by have := (World.ownsRow.lt HW5.out.1 j hj).1; omega)
        have hz7 : w.heap.size + 1 ≤ w7.heap.size := Nat.le_trans HZ5.out hg7.size
        go_roundw
        case rel => exact ⟨k + 1, by go_num, by omega, by rw [HT.out, List.length_append]; exact hm7, by rw [HT.out]; exact hw7, hb7, hz7, by rw [HT.out, List.length_append]; simp; omega⟩
        case measure => simp [intOf]; omega
    · rw [List.take_of_length_le (by omega)] at haw
      go_wp2
      go_ret
      exact ⟨_, rfl, ⟨World.ownsRow.mono haw.1 (by omega), haw.2⟩, hbel⟩

end Go.Proofs.YtgjlfcamgkeibaaGreatDoor.Bu

namespace Go.Proofs.YtgjlfcamgkeibaaGreatDoor.Bu
set_option maxRecDepth 100000
set_option linter.unusedVariables false
set_option linter.unusedSimpArgs false
open Go.RowKit Ba Fm Fo Nm Bm
open Ro (At Ro Cw ros Fr Ow Att Ap Rr Sh Ra acells len_acells cells len_cells rowV rowO info_row info_attr below_new len_ros ros_append)
theorem void1 (n : ByteArray) (w : World) (q : Bool) (h : isIn n voidL = q) : Calls Tryz.prog 126 #[.string n] w fun e w' => e = .returned (.bool q) ∧ Below w.heap.size w w' := by
  subst h
  exact Na.void_any n w
theorem gone1 (n : ByteArray) (w : World) (q : Bool) (h : isIn n goneL = q) : Calls Tryz.prog 232 #[.string n] w fun e w' => e = .returned (.bool q) ∧ Below w.heap.size w w' := by
  subst h
  exact Na.gone_any n w
theorem empty_eq (n : ByteArray) : n.toList.isEmpty = decide (n = ⟨#[]⟩) := by
  rw [Bool.eq_iff_iff, decide_eq_true_iff]
  constructor
  · intro h
    exact empty_name h
  · rintro rfl
    exact nil_empty
theorem passedOver_any (n : ByteArray) (w : World) (q : Bool) (h : noName n = q) : Calls Tryz.prog 205 #[.string n] w fun e w' => e = .returned (.bool q) ∧ Below w.heap.size w w' := by
  subst h
  unfold noName
  rw [← empty_eq]
  cases he : n.toList.isEmpty with
  | true =>
    go_enter Tryz.func205, Tryz.ntmps205
    go_wp2
    go_ret
    exact ⟨rfl, Below.refl _ _⟩
  | false =>
    obtain ⟨q, hq⟩ : ∃ q, isIn n goneL = q := ⟨_, rfl⟩
    rw [hq]
    have HQ := Lib.hid hq
    clear hq
    go_enter Tryz.func205, Tryz.ntmps205
    go_wp2_with fail
    refine (gone1 n w q HQ.out).mono ?_
    rintro e w1 ⟨rfl, hb⟩
    go_wp2
    go_ret
    exact ⟨rfl, hb⟩

theorem of_bytes {n m : ByteArray} {l : List UInt8} (h : (n.toList == l) = true) (hm : L m = l) : n = m := by
  rw [beq_iff_eq, toList_L] at h
  exact L_inj (h.trans hm.symm)
theorem not_bytes {n m : ByteArray} {l : List UInt8} (h : (n.toList == l) = false) (hm : L m = l) : n ≠ m := fun e => by
  rw [beq_eq_false_iff_ne, toList_L, e] at h
  exact h hm
theorem endWalls_yes {n : ByteArray} (h : n = n_table ∨ isIn n tableL = true) : endWalls n = [n_table, n_template] := by
  unfold endWalls
  rw [if_pos h]
  rfl
theorem endWalls_no {n : ByteArray} (h : n ≠ n_table) (h' : isIn n tableL = false) : endWalls n = wallsL n_p := by
  unfold endWalls
  rw [if_neg (fun e => e.elim h (fun e => by rw [h'] at e; cases e))]

set_option maxRecDepth 100000 in
set_option maxHeartbeats 1000000 in
theorem endWalls_any (n : ByteArray) (w : World) : Calls Tryz.prog 209 #[.string n] w fun e w' => ∃ v, e = .returned v ∧ Sown w.heap.size w' v (endWalls n) ∧ Below w.heap.size w w' := by
  have hs := Na.sown_lit w [n_table, n_template] (by decide)
  have hb := below_one w (.cells ([n_table, n_template].map sc).toArray 9)
  have HS := Lib.hid hs; have HB := Lib.hid hb
  clear hs hb
  cases h0 : (n.toList == [116, 97, 98, 108, 101]) with
  | true =>
    have he : endWalls n = [n_table, n_template] := endWalls_yes (by obtain rfl := of_bytes (m := n_table) h0 rfl; decide)
    rw [he]
    clear he
    go_enter Tryz.func209, Tryz.ntmps209
    go_wp2
    go_ret
    exact ⟨_, rfl, HS.out, HB.out⟩
  | false =>
  cases h1 : (n.toList == [116, 98, 111, 100, 121]) with
  | true =>
    have he : endWalls n = [n_table, n_template] := endWalls_yes (by obtain rfl := of_bytes (m := n_tbody) h1 rfl; decide)
    rw [he]
    clear he
    go_enter Tryz.func209, Tryz.ntmps209
    go_wp2
    go_ret
    exact ⟨_, rfl, HS.out, HB.out⟩
  | false =>
  cases h2 : (n.toList == [116, 100]) with
  | true =>
    have he : endWalls n = [n_table, n_template] := endWalls_yes (by obtain rfl := of_bytes (m := n_td) h2 rfl; decide)
    rw [he]
    clear he
    go_enter Tryz.func209, Tryz.ntmps209
    go_wp2
    go_ret
    exact ⟨_, rfl, HS.out, HB.out⟩
  | false =>
  cases h3 : (n.toList == [116, 102, 111, 111, 116]) with
  | true =>
    have he : endWalls n = [n_table, n_template] := endWalls_yes (by obtain rfl := of_bytes (m := n_tfoot) h3 rfl; decide)
    rw [he]
    clear he
    go_enter Tryz.func209, Tryz.ntmps209
    go_wp2
    go_ret
    exact ⟨_, rfl, HS.out, HB.out⟩
  | false =>
  cases h4 : (n.toList == [116, 104]) with
  | true =>
    have he : endWalls n = [n_table, n_template] := endWalls_yes (by obtain rfl := of_bytes (m := n_th) h4 rfl; decide)
    rw [he]
    clear he
    go_enter Tryz.func209, Tryz.ntmps209
    go_wp2
    go_ret
    exact ⟨_, rfl, HS.out, HB.out⟩
  | false =>
  cases h5 : (n.toList == [116, 104, 101, 97, 100]) with
  | true =>
    have he : endWalls n = [n_table, n_template] := endWalls_yes (by obtain rfl := of_bytes (m := n_thead) h5 rfl; decide)
    rw [he]
    clear he
    go_enter Tryz.func209, Tryz.ntmps209
    go_wp2
    go_ret
    exact ⟨_, rfl, HS.out, HB.out⟩
  | false =>
  cases h6 : (n.toList == [116, 114]) with
  | true =>
    have he : endWalls n = [n_table, n_template] := endWalls_yes (by obtain rfl := of_bytes (m := n_tr) h6 rfl; decide)
    rw [he]
    clear he
    go_enter Tryz.func209, Tryz.ntmps209
    go_wp2
    go_ret
    exact ⟨_, rfl, HS.out, HB.out⟩
  | false =>
  have hno : endWalls n = wallsL n_p := endWalls_no (not_bytes h0 rfl) (isIn_no fun hm => by
    unfold tableL at hm
    simp only [List.mem_cons, List.not_mem_nil, or_false] at hm
    rcases hm with e | e | e | e | e | e
    · exact not_bytes h1 rfl e
    · exact not_bytes h2 rfl e
    · exact not_bytes h3 rfl e
    · exact not_bytes h4 rfl e
    · exact not_bytes h5 rfl e
    · exact not_bytes h6 rfl e)
  rw [hno]
  clear hno HS HB
  go_enter Tryz.func209, Tryz.ntmps209
  go_wp2_with fail
  refine (Na.walls_any n_p w).mono ?_
  rintro e w1 ⟨v, rfl, hs, hb⟩
  go_wp2
  go_ret
  exact ⟨v, rfl, hs, hb⟩

def addRow (o : List Ro) (z : Ro) : List Ro := if z.kind = 1 then addText o z.depth z.data else o ++ [z]
theorem len_norm (l : List Ro) : full l → (Ro.normal l).length ≤ l.length := by
  induction hn : l.length using Nat.strongRecOn generalizing l with
  | ind n ih =>
    subst hn
    intro h
    rcases snoc_cases l with rfl | ⟨m, y, rfl⟩
    · rw [Ro.normal]; exact Nat.le_refl _
    · rw [len_normal h, List.length_append]
      have := ih m.length (by rw [List.length_append]; exact Nat.lt_succ_self _) m rfl (full_init h)
      show _ ≤ m.length + 1
      split <;> omega

structure Bt (N : Nat) (w : World) (b : Nat) (st : St) (big : Bool) (m T : Nat) : Prop where
  ex : ∃ l, Bg N w b st.stk.reverse l (st.out.length : Nat) big ∧ full (ros l) ∧ Ro.normal (ros l) = st.out ∧ l.length ≤ m ∧ (Ro.txt (ros l)).length ≤ T ∧ ∀ x ∈ l, x.ro.attrs.length ≤ 1000000 ∧ 0 ≤ x.ro.depth ∧ x.ro.depth ≤ 1000000
  sm : st.stk.length ≤ m
theorem Bt.below {N : Nat} {w w' : World} {b : Nat} {st : St} {big : Bool} {m T : Nat} (h : Bt N w b st big m T) (hb : Below w.heap.size w w') : Bt N w' b st big m T ∧ Below N w w' := by
  obtain ⟨⟨l, h1, h2⟩, h3⟩ := h
  obtain ⟨a, c⟩ := h1.below hb
  exact ⟨⟨⟨l, a, h2⟩, h3⟩, c⟩
theorem Bt.more {N : Nat} {w : World} {b : Nat} {st : St} {big : Bool} {m T m' T' : Nat} (h : Bt N w b st big m T) (hm : m ≤ m') (hT : T ≤ T') : Bt N w b st big m' T' := by
  obtain ⟨⟨l, h1, h2, h3, h4, h5, h6⟩, h7⟩ := h
  exact ⟨⟨l, h1, h2, h3, Nat.le_trans h4 hm, Nat.le_trans h5 hT, h6⟩, Nat.le_trans h7 hm⟩
theorem Bt.n {N : Nat} {w : World} {b : Nat} {st : St} {big : Bool} {m T : Nat} (h : Bt N w b st big m T) : N ≤ b ∧ b < w.heap.size := by
  obtain ⟨⟨l, h1, _⟩, _⟩ := h
  exact h1.lt

theorem fr_row (N : Nat) (w : World) (r : Ro) (h : r.attrs = []) : Fr N w ⟨r, none, 0⟩ := by
  refine ⟨?_, fun a ha => ?_⟩
  · show w.ownsRow N 51 2 (.slice none r.attrs.length 0) r.attrs.length (r.attrs.flatMap acells)
    rw [h]
    exact World.ownsRow_nil w N _ 2
  · have : a ∈ r.attrs := ha
    rw [h] at this
    cases this

theorem add_bt (N b m T : Nat) (st : St) (big : Bool) (y : Cw) (w : World) (V : Value) (hV : V = rowV y) (h : Bt N w b st big m T) (hy : Fr N w y) (hm : m < 1000000) (hd : y.ro.kind = 1 → y.ro.data ≠ ⟨#[]⟩) (ha : y.ro.attrs.length ≤ 1000000) (dt : Nat) (hdt : y.ro.kind = 1 → y.ro.data.size ≤ dt) :
    Calls Tryz.prog 169 #[bp b, V] w fun e w' => e = .returned (.tuple #[]) ∧
      Bt N w' b ⟨st.stk, addRow st.out ⟨(st.stk.length : Nat), y.ro.kind, y.ro.name, y.ro.data, y.ro.attrs⟩⟩ (tooBig (addRow st.out ⟨(st.stk.length : Nat), y.ro.kind, y.ro.name, y.ro.data, y.ro.attrs⟩)) (m + 1) (T + dt) ∧ Below N w w' ∧ Kt w w' := by
  subst hV
  obtain ⟨⟨l, hg, hf, hn, hl, ht, hx⟩, hs⟩ := h
  have hnl := len_norm _ hf
  rw [hn, len_ros] at hnl
  refine (add_any N b st.stk.reverse l (st.out.length : Nat) big y w hg hy (by omega) (by rw [List.length_reverse]; omega) (by omega) (by omega)).mono ?_
  rintro e w' ⟨rfl, z, hz, hg', hb, hkt⟩
  rw [List.length_reverse] at hz hg'
  have hzk : z.ro.kind = y.ro.kind := by rw [hz]
  have hzd : z.ro.data = y.ro.data := by rw [hz]
  have hza : z.ro.attrs = y.ro.attrs := by rw [hz]
  have hzp : z.ro.depth = (st.stk.length : Nat) := by rw [hz]
  have hros : ros (l ++ [z]) = ros l ++ [z.ro] := by rw [ros_append]; rfl
  have hf' : full (ros l ++ [z.ro]) := full_snoc hf (by rw [hzk, hzd]; exact hd)
  have hno : Ro.normal (ros l ++ [z.ro]) = addRow st.out z.ro := by
    rw [normal_snoc _ _ hf', hn]
    rfl
  have hln := len_normal hf'
  rw [hno, hn] at hln
  have hmo : more (ros l) (st.out.length : Nat) z.ro = ((addRow st.out z.ro).length : Nat) := by
    unfold more
    rw [hln]
    split <;> simp
  have hbg := big_normal hf'
  rw [hno, hzp] at hbg
  rw [← hz]
  refine ⟨rfl, ⟨⟨l ++ [z], ?_, by rw [hros]; exact hf', by rw [hros]; exact hno, ?_, ?_, ?_⟩, by show st.stk.length ≤ m + 1; omega⟩, hb, hkt⟩
  · have hbb : (decide (4096 < more (ros l) (st.out.length : Nat) z.ro) || decide (60 ≤ (st.stk.length : Int))) = tooBig (addRow st.out z.ro) := by
      rw [hbg, hmo]
      congr 1
      exact decide_eq_decide.2 (by omega)
    rw [hbb, hmo] at hg'
    exact hg'
  · rw [List.length_append]; show l.length + 1 ≤ m + 1; omega
  · rw [hros, Ro.txt_append, List.length_append, Ro.txt_one]
    by_cases hk : z.ro.kind = 1
    · rw [if_pos hk, hzd, size_L]
      have := hdt (hzk ▸ hk)
      omega
    · rw [if_neg hk]
      show _ + 0 ≤ _
      omega
  · intro x hxm
    rcases List.mem_append.1 hxm with e | e
    · exact hx x e
    · rw [List.mem_singleton.1 e, hza, hzp]
      exact ⟨ha, by omega, by omega⟩

theorem text_no (b : Nat) (d : ByteArray) (w : World) (hd : d = ⟨#[]⟩) :
    Calls Tryz.prog 168 #[bp b, .string d] w fun e w' => e = .returned (.tuple #[]) ∧ w = w' := by
  have he : d.toList.isEmpty = true := by rw [hd]; exact nil_empty
  clear hd
  go_enter Tryz.func168, Tryz.ntmps168
  go_wp2
  go_end0
  exact ⟨rfl, rfl⟩
theorem text_yes (N b m T : Nat) (st : St) (big : Bool) (d : ByteArray) (w : World) (h : Bt N w b st big m T) (hm : m < 1000000) (hd : d ≠ ⟨#[]⟩) :
    Calls Tryz.prog 168 #[bp b, .string d] w fun e w' => e = .returned (.tuple #[]) ∧
      Bt N w' b ⟨st.stk, addText st.out st.stk.length d⟩ (tooBig (addText st.out st.stk.length d)) (m + 1) (T + d.size) ∧ Below N w w' := by
  have he : d.toList.isEmpty = false := by rw [empty_eq, decide_eq_false hd]
  have HD := Lib.hid hd; have H := Lib.hid h
  clear hd h
  go_enter Tryz.func168, Tryz.ntmps168
  go_wp2_with fail
  refine (add_bt N b m T st big ⟨⟨0, 1, ⟨#[]⟩, d, []⟩, none, 0⟩ w _ rfl H.out (fr_row N w _ rfl) hm (fun _ => HD.out) (by simp) d.size (fun _ => Nat.le_refl _)).mono ?_
  rintro e w1 ⟨rfl, h1, hb, _⟩
  have H1 := Lib.hid h1; have HB := Lib.hid hb
  clear h1 hb
  go_wp2
  go_end0
  exact ⟨rfl, H1.out, HB.out⟩

end Go.Proofs.YtgjlfcamgkeibaaGreatDoor.Bu

namespace Go.Proofs.YtgjlfcamgkeibaaGreatDoor.Bu
set_option maxRecDepth 100000
set_option linter.unusedVariables false
set_option linter.unusedSimpArgs false
open Go.RowKit Ba Fm Fo Nm Bm
open Ro (At Ro Cw ros Fr Ow Att Ap Rr Sh Ra acells len_acells cells len_cells rowV rowO info_row info_attr below_new len_ros ros_append)
theorem end_no (b : Nat) (n : ByteArray) (w : World) (h : noName n = true ∨ (noName n = false ∧ isIn n voidL = true)) :
    Calls Tryz.prog 171 #[bp b, .string n] w fun e w' => e = .returned (.tuple #[]) ∧ Below w.heap.size w w' := by
  rcases h with h | ⟨h, h'⟩
  · go_enter Tryz.func171, Tryz.ntmps171
    go_wp2_with fail
    refine (passedOver_any n w true h).mono ?_
    rintro e w1 ⟨rfl, b1⟩
    go_wp2
    first | go_end0 | refine bodyPost_ret (results_none rfl _ _ _) rfl ?_
    exact ⟨rfl, b1⟩
  · go_enter Tryz.func171, Tryz.ntmps171
    go_wp2_with fail
    refine (passedOver_any n w false h).mono ?_
    rintro e w1 ⟨rfl, b1⟩
    go_wp2_with fail
    refine (void1 n w1 true h').mono ?_
    rintro e w2 ⟨rfl, b2⟩
    go_wp2
    first | go_end0 | refine bodyPost_ret (results_none rfl _ _ _) rfl ?_
    exact ⟨rfl, bt b1 b2⟩

def endS (st : St) (n : ByteArray) : St :=
  match findS [n] (endWalls n) st.stk with
  | some r => ⟨r, st.out⟩
  | none => if n = n_p then ⟨st.stk, st.out ++ [⟨st.stk.length, 0, n_p, ⟨#[]⟩, []⟩]⟩ else st
theorem ends_len (n : ByteArray) : (endWalls n).length ≤ 1000 := by
  unfold endWalls
  split
  · exact walls_len _
  · exact walls_len _
theorem p_of {n : ByteArray} (h : (n.toList == [112]) = true) : n = n_p := of_bytes h rfl
theorem p_no {n : ByteArray} (h : (n.toList == [112]) = false) : n ≠ n_p := not_bytes h rfl
theorem sv_one (w : World) (n : ByteArray) : Sv (w.alloc (.cells #[.string n] 9)) (w.alloc (.cells #[.string n] 9)).heap.size (.slice (some ⟨w.heap.size, 0, none⟩) 1 1) [n] := sv_lit w [n]
theorem Sv.drew {w : World} {v : Value} {l : List ByteArray} (h : Sv w w.heap.size v l) : Sv w.drew w.drew.heap.size v l := h
theorem Sv.up {w w' : World} {v : Value} {l : List ByteArray} (h : Sv w w.heap.size v l) (hb : Below w.heap.size w w') : Sv w' w'.heap.size v l := (h.below hb (Nat.le_refl _)).more hb.size

set_option maxRecDepth 100000 in
set_option maxHeartbeats 4000000 in
theorem end_any (N b m T : Nat) (st : St) (n : ByteArray) (w : World) (h : Bt N w b st false m T) (hm : m < 1000000) (h1 : noName n = false) (h2 : isIn n voidL = false) (hbig : tooBig st.out = false) :
    Calls Tryz.prog 171 #[bp b, .string n] w fun e w' => e = .returned (.tuple #[]) ∧ Bt N w' b (endS st n) (tooBig (endS st n).out) (m + 1) T ∧ Below N w w' := by
  have hel := ends_len n
  go_enter Tryz.func171, Tryz.ntmps171
  go_wp2_with fail
  refine (passedOver_any n w false h1).mono ?_
  rintro e w1 ⟨rfl, b1⟩
  go_wp2_with fail
  refine (void1 n w1 false h2).mono ?_
  rintro e w2 ⟨rfl, b2⟩
  obtain ⟨hb2, hB2⟩ := h.below (bt b1 b2)
  clear h
  have HB := Lib.hid hb2; have HBW := Lib.hid hB2
  obtain ⟨⟨l, ⟨vo, vr, hc, ho, hr, hN⟩, hrest⟩, hsm⟩ := hb2
  obtain ⟨so, hso⟩ : ∃ so, st.stk.reverse = so := ⟨_, rfl⟩
  have hsl : so.length = st.stk.length := by rw [← hso, List.length_reverse]
  rw [hso] at ho
  obtain ⟨Ao, co, hv, hco, _, hro⟩ := ho.form
  subst hv
  have c0 := hc.c0; have hz := hc.lt
  have hol : so.length ≤ 1000000 := by omega
  have HSO := Lib.hid hso; have HSL := Lib.hid hsl
  have HC := Lib.hid hc; have HRO := Lib.hid hro; have HSM := Lib.hid hsm
  have HA := Lib.hid (show Bc (w2.alloc (.cells #[.string n] 9)).drew b _ vr _ false from (hc.below (below_one w2 (.cells #[.string n] 9))).drew 1)
  have HZ := Lib.hid (show Bc w2.drew b _ vr _ false from hc)
  have hva : Sv (w2.alloc (.cells #[.string n] 9)).drew (w2.alloc (.cells #[.string n] 9)).drew.heap.size (.slice (some ⟨w2.heap.size, 0, none⟩) 1 1) [n] := sv_one w2 n
  have hba : Below w2.heap.size w2 (w2.alloc (.cells #[.string n] 9)).drew := below_dN (below_one w2 (.cells #[.string n] 9)) 1
  have HVA := Lib.hid hva; have HBA := Lib.hid hba
  clear hva hba
  clear hso hsl hc ho hr hro hrest hsm hB2 b1 b2 h1 h2
  go_upto_region 1 with (fail)
  obtain ⟨i, hi⟩ : ∃ i, idx [n] (endWalls n) so = i := ⟨_, rfl⟩
  have HI := Lib.hid hi
  clear hi
  go_cut [4] from 11 to 19 (fun s4 wx => s4 = .int .i64 i ∧ Below w2.heap.size w2 wx)
  case first =>
    go_region_held3 (fun w' => w'.cell? ⟨b, 0, none⟩ = some (.slice Ao so.length co)) (first | exact e0 | exact d0 | exact c0 | go_keep) (first
      | (go_at_call 208; first
          | (with_reducible show Calls _ _ _ (World.alloc _ _) _; refine (find1 _ _ _ 0 so [n] (endWalls n) (w3.alloc (.cells #[.string n] 9)) hol Ao co rfl ((HR3.out.below (below_one w3 _) (Nat.le_refl _)).more (by simp)) (sv_one w3 n) (Sv.up HW3.out (below_one w3 _)) (by simp) hel i HI.out).mono ?_; rintro e w4 ⟨rfl, b4⟩; have hc4 := (HC3.out.below (below_one w3 (.cells #[.string n] 9))).below b4; have e0 := hc4.c0; have HB4 := Lib.hid (bt (bt HB3.out (below_one w3 _)) b4); clear b4 hc4)
          | (refine (find1 _ _ _ 0 so [n] (endWalls n) w3 hol Ao co rfl HR3.out HV3.out HW3.out (by simp) hel i HI.out).mono ?_; rintro e w4 ⟨rfl, b4⟩; have hc4 := HC3.out.below b4; have e0 := hc4.c0; have HB4 := Lib.hid (bt HB3.out b4); clear b4 hc4))
      | (go_at_call 209; first
          | (with_reducible show Calls _ _ _ (World.drew (World.alloc _ _)) _; refine (endWalls_any n (w2.alloc (.cells #[.string n] 9)).drew).mono ?_; rintro e w3 ⟨Vw, rfl, sw, b3⟩; have hc3 := HA.out.below b3; have d0 := hc3.c0; have HC3 := Lib.hid hc3; have hb3 : Below w2.heap.size w2 w3 := bt HBA.out b3; have hr3 : Rd w3 w3.heap.size Ao so := (HRO.out.below hb3 (Nat.le_refl _)).more hb3.size; have hv3 : Sv w3 w3.heap.size (.slice (some ⟨w2.heap.size, 0, none⟩) 1 1) [n] := Sv.up HVA.out b3; have hw3 : Sv w3 w3.heap.size Vw (endWalls n) := sv_own sw; have HR3 := Lib.hid hr3; have HV3 := Lib.hid hv3; have HW3 := Lib.hid hw3; have HB3 := Lib.hid hb3; clear hc3 b3 hb3 sw hr3 hv3 hw3)
          | (refine (endWalls_any n w2.drew).mono ?_; rintro e w3 ⟨Vw, rfl, sw, b3⟩; have hc3 := HZ.out.below b3; have d0 := hc3.c0; have HC3 := Lib.hid hc3; have hb3 : Below w2.heap.size w2 w3 := bt (show Below w2.heap.size w2 w2.drew from below_dN (Below.refl _ _) 1) b3; have hr3 : Rd w3 w3.heap.size Ao so := (HRO.out.below hb3 (Nat.le_refl _)).more hb3.size; have hw3 : Sv w3 w3.heap.size Vw (endWalls n) := sv_own sw; have HR3 := Lib.hid hr3; have HW3 := Lib.hid hw3; have HB3 := Lib.hid hb3; clear hc3 b3 hb3 sw hr3 hw3)))
    all_goals go_wp2_with fail
    all_goals go_meet
    all_goals exact ⟨rfl, HB4.out⟩
  case rest =>
  obtain ⟨rfl, hb4⟩ := hcut
  rename World => w4
  obtain ⟨hB4, hW4⟩ := HB.out.below hb4
  have HWW := Lib.hid (HBW.out.trans hW4)
  clear HA HZ HVA HBA HC HRO HSM HB HBW c0 hW4
  have hRV : st.stk.reverse.reverse = st.stk := List.reverse_reverse _
  rw [HSO.out] at hRV
  rcases idx_take (ns := [n]) (ws := endWalls n) (o := so) with ⟨e1, e2⟩ | ⟨k, e1, hk, e2⟩
  · rw [HI.out] at e1
    subst e1
    rw [hRV] at e2
    cases hp : (n.toList == [112]) with
    | true =>
      have hes : endS st n = ⟨st.stk, addRow st.out ⟨(st.stk.length : Nat), 0, n, ⟨#[]⟩, []⟩⟩ := by
        unfold endS
        rw [e2, p_of hp]
        rfl
      have HES := Lib.hid hes
      have HB4 := Lib.hid hB4
      clear hes e2 hRV hB4
      go_wp2_with fail
      refine (add_bt N b m T st false ⟨⟨0, 0, n, ⟨#[]⟩, []⟩, none, 0⟩ w4 _ rfl HB4.out (fr_row N w4 _ rfl) hm (by simp) (by simp) 0 (by simp)).mono ?_
      rintro e w5 ⟨rfl, h5, b5, _⟩
      have H5 := Lib.hid h5; have B5 := Lib.hid (HWW.out.trans b5)
      clear h5 b5
      go_wp2
      first | go_end0 | refine bodyPost_ret (results_none rfl _ _ _) rfl ?_
      exact ⟨rfl, by rw [HES.out]; exact H5.out, B5.out⟩
    | false =>
      have hes : endS st n = st := by
        unfold endS
        rw [e2]
        show (if n = n_p then _ else st) = st
        rw [if_neg (p_no hp)]
      have HES := Lib.hid hes
      have HB4 := Lib.hid hB4
      clear hes e2 hRV hB4
      go_wp2
      first | go_end0 | refine bodyPost_ret (results_none rfl _ _ _) rfl ?_
      exact ⟨rfl, by rw [HES.out, hbig]; exact HB4.out.more (Nat.le_succ _) (Nat.le_refl _), HWW.out⟩
  · rw [HI.out] at e1
    subst e1
    rw [hRV] at e2
    have hes : endS st n = ⟨(so.take k).reverse, st.out⟩ := by
      unfold endS
      rw [e2]
    have HES := Lib.hid hes
    obtain ⟨⟨l, ⟨vo, vr, hc, ho, hr, hN⟩, hf, hn, hl, ht, hx⟩, hsm⟩ := hB4
    rw [HSO.out] at ho
    obtain ⟨Ao, co, rfl, hco, _, _⟩ := ho.form
    have c0 := hc.c0; have f0 := hc.f 0; have hz := hc.lt
    have hge : decide ((0 : Int) ≤ (k : Int)) = true := decide_eq_true (by omega)
    have i0 : (0 : Int) ≤ (k : Int) := by omega
    have i1 : (k : Int) ≤ (co : Int) := by omega
    have hcut := Sown.cut ho (Nat.le_of_lt hk)
    have hkl : (so.take k).length = k := by rw [List.length_take]; omega
    have HCU := Lib.hid hcut; have HC := Lib.hid hc; have HR := Lib.hid hr
    have HREST := Lib.hid (show full (ros l) ∧ Ro.normal (ros l) = st.out ∧ l.length ≤ m ∧ (Ro.txt (ros l)).length ≤ T ∧ ∀ x ∈ l, x.ro.attrs.length ≤ 1000000 ∧ 0 ≤ x.ro.depth ∧ x.ro.depth ≤ 1000000 from ⟨hf, hn, hl, ht, hx⟩)
    have HKL := Lib.hid hkl
    clear hes e2 hRV hc ho hr hf hn hl ht hx hcut hkl
    go_wp2
    first | go_end0 | refine bodyPost_ret (results_none rfl _ _ _) rfl ?_
    have hgs := g_set w4 b 0 (.slice Ao k co)
    obtain ⟨hf, hn, hl, ht, hx⟩ := HREST.out
    rw [HES.out]
    refine ⟨rfl, ⟨⟨l, ⟨.slice Ao k co, vr, ?_, ?_, HR.out.kept hgs HC.out (by decide) (by decide), hN⟩, hf, hn, by omega, ht, hx⟩, ?_⟩, ?_⟩
    · show Bc _ b _ vr _ (tooBig st.out)
      rw [hbig]
      exact HC.out.set0 _
    · show Sown N _ _ (so.take k).reverse.reverse
      rw [List.reverse_reverse]
      exact Sown.keptB HCU.out hgs HC.out (by decide)
    · show (so.take k).reverse.length ≤ m + 1
      rw [List.length_reverse, HKL.out]
      have := HSL.out
      omega
    · exact HWW.out.setCell hN _

end Go.Proofs.YtgjlfcamgkeibaaGreatDoor.Bu
