/-
  Walks of stage 4: boltingref04.Normal.
  Walks of stage 4: sameAttrs, sameRow, Same; boltingref04.Attrs, Same.
  Walks of stage 4: sameRow, Same; boltingref04.Same.
  Walks of stage 4: boltingref04.Same.
  Walks of stage 4: placeOf.
  Walks of stage 4: nums; Kids and its reference out of range; Take, Drop.
  Walks of stage 4: Put and its reference.
  Walks of stage 4: the reference's Put.
  A value that reads as rows (Rv), and the contracts of Check, Same, Normal over it.
  Walks of stage 4: the fixed rows.
  Walks of stage 4: the fixed samples.
  Stage 4, plain: what right rows are; the parent in two ways.
  Arguments that are slices of structs, or structs, as a statement's row reads them: for rows, tokens and whatever has attributes.
  Stage 4: arguments that are rows, as the statement's row reads them.
  The laws of stage 4, walked: Checks.
  Stage 4: the contracts, over values that read as rows (Rv).
  The laws of stage 4, walked: Normal.
  Stage 4, plain: texts joined: right rows stay right, the same text, joined again they stay.
  Walks of stage 5: names.among, the five lists (names.Void, Raw, Soft, Block, Gone), and the document's own lists.
  Walks of stage 8: appendAll, appendTag, holds, appendNode.
  Walks of stage 8: appendNode.
  Walks of stage 8: the closure that writes what a node has.
  Walks of stage 8: the closure that writes what a node has, walked.
-/
import Derived.Test.YtenmlpfjeohkiaaCk03
import Derived.StillTailTactics
import Derived.Deep.RegionHeld3
import Derived.Deep.CutRange
import Derived.Laws.StructEq
import Derived.Deep.RegionWith
import Derived.Shelf.RegionOpen
import Derived.Laws.MakeOwn
import Derived.Deep.DeepCutAuto
import Derived.Test.YtenmlpfjeohkiaaRows
import Derived.Test.YtenmlpfjeohkiaaCk02
import Derived.Deep.Slices
import Derived.Deep.Fields
import Derived.ChangeSame
import Derived.ProofKit
import Derived.Carry
import Derived.Lib.SmallJoins
import Derived.Test.YtenmlpfjeohkiaaCk01
import Derived.Deep.CutBlock
namespace Go.Proofs.Ytenmlpfjeohkiaa.Ro
set_option linter.unusedVariables false
set_option linter.unusedSimpArgs false
open Go.RowKit Ba
theorem Ow.pos {N : Nat} {w : World} {v : Value} {init : List Cw} {y : Cw} (h : Ow N w v (init ++ [y])) :
    ∃ g cap, v = .slice (some ⟨g, 0, none⟩) (init.length + 1) cap ∧ init.length + 1 ≤ cap ∧ cap ≤ maxLen ∧ N ≤ g ∧ g < w.heap.size ∧ w.rangeAt g (init.length * 5) (cells y) := by
  have hl : (init ++ [y]).length = init.length + 1 := by simp
  obtain ⟨A, c, hv, h1, h2, _, h4⟩ := h.form
  rcases h.1.2 with ⟨_, hn⟩ | ⟨g, cap, cur, hv', hg, hh, hn, hm, _⟩
  · omega
  · rw [hl] at hv' hn
    refine ⟨g, cap, hv', hn, hm, hg, (Array.getElem?_eq_some_iff.1 hh).1, ?_⟩
    obtain ⟨b, off, e, _, hc⟩ := h4.1 (by omega)
    rw [hv', hl] at hv
    injection hv with e1
    rw [← e1] at e
    injection e with e
    injection e with e2 e3
    subst e2 e3
    have := hc init.length (by omega)
    rw [Nat.zero_add] at this
    simpa using this

end Go.Proofs.Ytenmlpfjeohkiaa.Ro

namespace Go.Proofs.Ytenmlpfjeohkiaa.Ro
set_option maxRecDepth 100000
set_option linter.unusedVariables false
set_option linter.unusedSimpArgs false
open Go.RowKit Ba
theorem At.eta (a b : At) (h : ¬ a = b) : ¬ a.name = b.name ∨ (a.name = b.name ∧ ¬ a.value = b.value) := by
  by_cases hn : a.name = b.name
  · exact .inr ⟨hn, fun hv => h (by cases a; cases b; simp_all)⟩
  · exact .inl hn
theorem neq_L {a b : ByteArray} (h : ¬ a = b) : ¬ a.toList = b.toList := fun e => h (L_inj (by rw [← toList_L, ← toList_L, e]))
theorem dec_cons {α : Type} [DecidableEq α] {x y : α} {r s : List α} {V : Bool} (h : decide (x :: r = y :: s) = V) : (x = y → decide (r = s) = V) ∧ (¬ x = y → V = false) := by
  constructor
  · intro e
    rw [← h, e]
    simp
  · intro e
    rw [← h]
    exact decide_eq_false fun e2 => e (by injection e2)

set_option maxRecDepth 100000 in
set_option maxHeartbeats 1000000 in
theorem sameAttrs_any (A B : Option Addr) (ca cb : Nat) (xs ys : List At) (w : World) (hra : Ra w w.heap.size A xs) (hrb : Ra w w.heap.size B ys) (hca : xs.length ≤ ca) (hcb : ys.length ≤ cb) (hma : ca ≤ maxLen) (hmb : cb ≤ maxLen) :
    Calls Try.prog 59 #[.slice A xs.length ca, .slice B ys.length cb] w fun e w' => e = .returned (.bool (decide (xs = ys))) ∧ ∃ n, w' = w.drewN n := by
  unfold maxLen at hma hmb
  by_cases hlen : xs.length = ys.length
  · obtain ⟨V, hV⟩ : ∃ V, decide (xs = ys) = V := ⟨_, rfl⟩
    rw [hV]
    have hne : ((xs.length : Int) != (ys.length : Int)) = false := by rw [hlen]; simp
    have HV := Lib.hid hV; have HL := Lib.hid hlen
    clear hV hlen
    go_enter Try.func59, Try.ntmps59
    go_wp2
    go_loopw [13] (fun i wr => ∃ k : Nat, i = .int .i64 k ∧ k ≤ xs.length ∧ decide (xs.drop k = ys.drop k) = V ∧ ∃ n, wr = w.drewN n) (fun i _ => xs.length - (intOf i).toNat)
    case atStart => exact ⟨0, rfl, by omega, HV.out, 0, rfl⟩
    case round =>
      clear HV
      obtain ⟨k, rfl, hk, hv, n, rfl⟩ := hrel
      by_cases hp : k < xs.length
      · obtain ⟨b1, o1, x, rfl, _, hdx, hx, _⟩ := hra.at_ k hp
        have hp2 : k < ys.length := by have := HL.out; omega
        obtain ⟨b2, o2, y, rfl, _, hdy, hy, _⟩ := hrb.at_ k hp2
        rw [hdx, hdy] at hv
        obtain ⟨v1, v2⟩ := dec_cons hv
        clear hv hdx hdy
        by_cases hxy : x = y
        · subst hxy
          have HV := Lib.hid (v1 rfl)
          clear v1 v2
          obtain ⟨f1, f2⟩ := range2 hx
          obtain ⟨f3, f4⟩ := range2 hy
          clear hx hy
          go_wp2
          go_quiet (fail)
          go_wp2
          go_roundw
          case rel => exact ⟨k + 1, by go_num, by omega, HV.out, _, rfl⟩
          case measure => simp [intOf]; omega
        · obtain rfl := v2 hxy
          clear v1 v2
          rcases At.eta x y hxy with h | ⟨h, h'⟩
          · have h1 := neq_L h
            clear h hxy
            obtain ⟨f1, f2⟩ := range2 hx
            obtain ⟨f3, f4⟩ := range2 hy
            clear hx hy
            go_wp2
            go_quiet (fail)
            go_wp2
            go_ret
            exact ⟨rfl, _, World.drewN_drewN _ _ _⟩
          · have h1 := neq_L h'
            have h2 : y.name = x.name := h.symm
            rw [h2] at hy
            clear h h' hxy h2
            obtain ⟨f1, f2⟩ := range2 hx
            obtain ⟨f3, f4⟩ := range2 hy
            clear hx hy
            go_wp2
            go_quiet (fail)
            go_wp2
            go_ret
            exact ⟨rfl, _, World.drewN_drewN _ _ _⟩
      · rw [List.drop_eq_nil_of_le (by omega), List.drop_eq_nil_of_le (by have := HL.out; omega)] at hv
        have HV := Lib.hid hv
        clear hv
        go_wp2
        go_ret
        exact ⟨ret_bool (by rw [← HV.out]; rfl), _, rfl⟩
  · have e : decide (xs = ys) = false := decide_eq_false fun e => hlen (by rw [e])
    rw [e]
    have hne : ((xs.length : Int) != (ys.length : Int)) = true := by rw [bne_iff_ne]; omega
    clear e hlen
    go_enter Try.func59, Try.ntmps59
    go_wp2
    go_ret
    exact ⟨rfl, 0, rfl⟩

end Go.Proofs.Ytenmlpfjeohkiaa.Ro

namespace Go.Proofs.Ytenmlpfjeohkiaa.Ro
set_option maxRecDepth 100000
set_option linter.unusedVariables false
set_option linter.unusedSimpArgs false
open Go.RowKit Ba
theorem ro_eq (x y : Ro) : decide (x = y) = ((x.depth == y.depth) && ((x.kind == y.kind) && ((x.name.toList == y.name.toList) && ((x.data.toList == y.data.toList) && decide (x.attrs = y.attrs))))) := by
  rw [eq_of_toList, eq_of_toList, Bool.eq_iff_iff]
  cases x
  cases y
  simp

set_option maxRecDepth 100000 in
set_option maxHeartbeats 1000000 in
theorem sameRow_any (x y : Cw) (w : World) (hx : Att w w.heap.size x) (hy : Att w w.heap.size y) :
    Calls Try.prog 44 #[rowV x, rowV y] w fun e w' => e = .returned (.bool (decide (x.ro = y.ro))) ∧ Below w.heap.size w w' := by
  have hb : Below w.heap.size w ((w.alloc (rowO x)).alloc (rowO y)) := (below_new w (rowO x)).alloc (by simp) _
  have hax := (hx.2.2.2.1.below hb).more hb.size
  have hay := (hy.2.2.2.1.below hb).more hb.size
  have HB := Lib.hid hb; have HX := Lib.hid hax; have HY := Lib.hid hay
  have c1 := hx.1; have c2 := hx.2.2.1; have c3 := hy.1; have c4 := hy.2.2.1
  rw [ro_eq]
  clear hb hax hay hx hy
  cases h1 : x.ro.depth == y.ro.depth with
  | false =>
    go_enter Try.func44, Try.ntmps44
    go_wp2
    go_ret
    exact ⟨ret_bool (by simp [h1]), HB.out⟩
  | true =>
  cases h2 : x.ro.kind == y.ro.kind with
  | false =>
    go_enter Try.func44, Try.ntmps44
    go_wp2
    go_ret
    exact ⟨ret_bool (by simp [h1, h2]), HB.out⟩
  | true =>
  cases h3 : x.ro.name.toList == y.ro.name.toList with
  | false =>
    go_enter Try.func44, Try.ntmps44
    go_wp2
    go_ret
    exact ⟨ret_bool (by simp [h1, h2, h3]), HB.out⟩
  | true =>
  cases h4 : x.ro.data.toList == y.ro.data.toList with
  | false =>
    go_enter Try.func44, Try.ntmps44
    go_wp2
    go_ret
    exact ⟨ret_bool (by simp [h1, h2, h3, h4]), HB.out⟩
  | true =>
  go_enter Try.func44, Try.ntmps44
  go_wp2_with fail
  refine (sameAttrs_any x.A y.A x.c y.c x.ro.attrs y.ro.attrs _ HX.out HY.out c1 c3 c2 c4).mono ?_
  rintro e w1 ⟨rfl, n, rfl⟩
  go_wp2
  go_ret
  exact ⟨ret_bool (by simp [h1, h2, h3, h4]), below_dN HB.out _⟩

theorem ros_drop_eq {l r : List Cw} {k : Nat} {x y : Cw} {V : Bool} (hx : l.drop k = x :: l.drop (k + 1)) (hy : r.drop k = y :: r.drop (k + 1)) (h : decide (ros (l.drop k) = ros (r.drop k)) = V) :
    (x.ro = y.ro → decide (ros (l.drop (k + 1)) = ros (r.drop (k + 1))) = V) ∧ (¬ x.ro = y.ro → V = false) := by
  rw [hx, hy, ros_cons, ros_cons] at h
  exact dec_cons h

set_option maxRecDepth 100000 in
set_option maxHeartbeats 1000000 in
theorem Same_any (A B : Option Addr) (ca cb : Nat) (l r : List Cw) (w : World) (hl : Rr w w.heap.size A l) (hr : Rr w w.heap.size B r) (hca : l.length ≤ ca) (hcb : r.length ≤ cb) (hml : l.length ≤ 1000000) (hmr : r.length ≤ 1000000) :
    Calls Try.prog 32 #[.slice A l.length ca, .slice B r.length cb] w fun e w' => e = .returned (.bool (decide (ros l = ros r))) ∧ Below w.heap.size w w' := by
  by_cases hlen : l.length = r.length
  · obtain ⟨V, hV⟩ : ∃ V, decide (ros l = ros r) = V := ⟨_, rfl⟩
    rw [hV]
    have hne : ((l.length : Int) != (r.length : Int)) = false := by rw [hlen]; simp
    have HV := Lib.hid hV; have HL := Lib.hid hlen
    clear hV hlen
    go_enter Try.func32, Try.ntmps32
    go_wp2
    go_loopw [13] (fun i wr => ∃ k : Nat, i = .int .i64 k ∧ k ≤ l.length ∧ decide (ros (l.drop k) = ros (r.drop k)) = V ∧ Below w.heap.size w wr) (fun i _ => l.length - (intOf i).toNat)
    case atStart => exact ⟨0, rfl, by omega, HV.out, Below.refl _ _⟩
    case round =>
      clear HV
      obtain ⟨k, rfl, hk, hv, hbel⟩ := hrel
      have hsz := hbel.size
      by_cases hp : k < l.length
      · obtain ⟨b1, o1, x, rfl, _, hdx, hx, hxa, _⟩ := (hl.below hbel).at_ k hp
        have hp2 : k < r.length := by have := HL.out; omega
        obtain ⟨b2, o2, y, rfl, _, hdy, hy, hya, _⟩ := (hr.below hbel).at_ k hp2
        obtain ⟨v1, v2⟩ := ros_drop_eq hdx hdy hv
        have HXA := Lib.hid (hxa.more hsz); have HYA := Lib.hid (hya.more hsz)
        have V1 := Lib.hid v1; have V2 := Lib.hid v2
        obtain ⟨f0, f1, f2, f3, f4⟩ := range5 hx
        obtain ⟨g0, g1, g2, g3, g4⟩ := range5 hy
        clear hv hdx hdy hxa hya v1 v2 hx hy
        by_cases hxy : x.ro = y.ro
        · have HV := Lib.hid (V1.out hxy)
          have HE := Lib.hid hxy
          clear hxy
          go_wp2
          go_still_tail 8, (by kernel_rfl)
          change wpList _ _ _ _ _ wr.drew
          obtain ⟨w2, hw2⟩ : ∃ w2, wr.drew = w2 := ⟨_, rfl⟩
          have hxa2 : Att w2 w2.heap.size x := hw2 ▸ HXA.out
          have hya2 : Att w2 w2.heap.size y := hw2 ▸ HYA.out
          have hb2 : Below w.heap.size w w2 := hw2 ▸ below_dN hbel 1
          rw [hw2]
          have HXA2 := Lib.hid hxa2; have HYA2 := Lib.hid hya2; have HB2 := Lib.hid hb2
          clear hw2 hxa2 hya2 hb2
          go_wp2_with fail
          refine (sameRow_any x y w2 HXA2.out HYA2.out).mono ?_
          rintro e w3 ⟨rfl, hb3⟩
          rw [decide_eq_true HE.out]
          go_wp2
          go_roundw
          case rel => exact ⟨k + 1, by go_num, by omega, HV.out, HB2.out.trans (hb3.mono HB2.out.size)⟩
          case measure => simp [intOf]; omega
        · obtain rfl := V2.out hxy
          have HE := Lib.hid hxy
          clear hxy
          go_wp2
          go_still_tail 8, (by kernel_rfl)
          change wpList _ _ _ _ _ wr.drew
          obtain ⟨w2, hw2⟩ : ∃ w2, wr.drew = w2 := ⟨_, rfl⟩
          have hxa2 : Att w2 w2.heap.size x := hw2 ▸ HXA.out
          have hya2 : Att w2 w2.heap.size y := hw2 ▸ HYA.out
          have hb2 : Below w.heap.size w w2 := hw2 ▸ below_dN hbel 1
          rw [hw2]
          have HXA2 := Lib.hid hxa2; have HYA2 := Lib.hid hya2; have HB2 := Lib.hid hb2
          clear hw2 hxa2 hya2 hb2
          go_wp2_with fail
          refine (sameRow_any x y w2 HXA2.out HYA2.out).mono ?_
          rintro e w3 ⟨rfl, hb3⟩
          rw [decide_eq_false HE.out]
          go_wp2
          go_ret
          exact ⟨rfl, HB2.out.trans (hb3.mono HB2.out.size)⟩
      · rw [List.drop_eq_nil_of_le (by omega), List.drop_eq_nil_of_le (by have := HL.out; omega)] at hv
        have HV := Lib.hid hv
        clear hv
        go_wp2
        go_ret
        exact ⟨ret_bool (by rw [← HV.out]; rfl), hbel⟩
  · have e : decide (ros l = ros r) = false := decide_eq_false fun e => hlen (by rw [← len_ros, e, len_ros])
    rw [e]
    have hne : ((l.length : Int) != (r.length : Int)) = true := by rw [bne_iff_ne]; omega
    clear e hlen
    go_enter Try.func32, Try.ntmps32
    go_wp2
    go_ret
    exact ⟨rfl, Below.refl _ _⟩

end Go.Proofs.Ytenmlpfjeohkiaa.Ro

namespace Go.Proofs.Ytenmlpfjeohkiaa.Ro
set_option linter.unusedVariables false
set_option linter.unusedSimpArgs false
open Go.RowKit Ba
end Go.Proofs.Ytenmlpfjeohkiaa.Ro

namespace Go.Proofs.Ytenmlpfjeohkiaa.Ro
set_option linter.unusedVariables false
set_option linter.unusedSimpArgs false
open Go.RowKit Ba Go.Shelf
attribute [local go_sem] Oper.semAt_some

theorem box_own {W W' : World} {B n : Nat} {t : TypeId} {v : Value} {row : Option Nat} (h : Boxed W B t v) (hg : W.grownBy W' row) (hr : ∀ r, row = some r → n ≤ r ∧ ∃ o : Obj, W.heap[r]? = some o ∧ o.isCells = false) : Boxed W' B t v :=
  h.kept hg fun e => by
    obtain ⟨_, o, ho, hc⟩ := hr B e.symm
    rw [show W.heap[B]? = _ from h] at ho
    cases ho
    cases hc

/-- Where the kid of that number stands, or the next one behind all kids would. -/
def placeAt (l : List Ro) (i at_ : Int) : Int × Bool :=
  if 0 ≤ at_ ∧ at_ < (kids l i).length then (((kids l i)[at_.toNat]?.getD 0 : Nat), true) else (endOf l i, decide (((kids l i).length : Int) = at_))

/-- What the rounds leave: the boxes of the number that is sought, the results, and the count. -/
def Pl (w : World) (at_ : Int) (pre : List Nat) (W : World) : Prop :=
  Boxed W (w.heap.size) 3 (.int .i64 at_) ∧ Boxed W (w.heap.size + 1) 3 (.int .i64 0) ∧ Boxed W (w.heap.size + 1 + 1) 4 (.bool false) ∧ Boxed W (w.heap.size + 1 + 1 + 1) 3 (.int .i64 (pre.length : Nat)) ∧ Below w.heap.size w W ∧ w.heap.size + 1 + 1 + 1 + 1 + 1 + 1 ≤ W.heap.size ∧ ¬ (0 ≤ at_ ∧ at_ < pre.length)
def Px (w : World) (at_ : Int) (c : Code) (pre : List Nat) (W : World) : Prop :=
  c = .ret ∧ ∃ q x, pre = q ++ [x] ∧ at_ = (q.length : Nat) ∧ Boxed W (w.heap.size + 1) 3 (.int .i64 (x : Nat)) ∧ Boxed W (w.heap.size + 1 + 1) 4 (.bool true) ∧ Below w.heap.size w W
theorem Pl.own (w : World) (at_ : Int) (n : Nat) (hn : w.heap.size ≤ n) : OwnFrom n (Pl w at_) := fun s W W' row hs hg hr =>
  ⟨box_own hs.1 hg hr, box_own hs.2.1 hg hr, box_own hs.2.2.1 hg hr, box_own hs.2.2.2.1 hg hr, hs.2.2.2.2.1.grown hg hs.2.2.2.2.1.size (fun k hk => Nat.le_trans hn (hr k hk).1), Nat.le_trans hs.2.2.2.2.2.1 hg.size, hs.2.2.2.2.2.2⟩
theorem Px.own (w : World) (at_ : Int) (c : Code) (n : Nat) (hn : w.heap.size ≤ n) : OwnFrom n (Px w at_ c) := fun s W W' row hs hg hr => by
  obtain ⟨hc, q, x, e1, e2, h1, h2, h3⟩ := hs
  exact ⟨hc, q, x, e1, e2, box_own h1 hg hr, box_own h2 hg hr, h3.grown hg h3.size (fun k hk => Nat.le_trans hn (hr k hk).1)⟩
end Go.Proofs.Ytenmlpfjeohkiaa.Ro

namespace Go.Proofs.Ytenmlpfjeohkiaa.Ro
set_option maxRecDepth 100000
set_option linter.unusedVariables false
set_option linter.unusedSimpArgs false
open Go.RowKit Ba
theorem Rn.at_ {w : World} {N : Nat} {A : Option Addr} {l : List Nat} (h : Rn w N A l) (k : Nat) (hk : k < l.length) :
    ∃ b off x, A = some ⟨b, off, none⟩ ∧ b < N ∧ l.drop k = x :: l.drop (k + 1) ∧ w.cell? ⟨b, off + k, none⟩ = some (.int .i64 (x : Nat)) := by
  obtain ⟨b, off, e, hb, hc⟩ := h (by omega)
  exact ⟨b, off, l[k], e, hb, List.drop_eq_getElem_cons hk, hc k hk⟩

theorem refKidsOut_any (A : Option Addr) (n c : Nat) (i : Int) (w : World) (hc : n ≤ c) (hm : n ≤ 1000000) (h : ¬ (-1 ≤ i ∧ i < n)) :
    Calls Try.prog 13 #[.slice A n c, .int .i64 i] w fun e w' => e = .returned (.slice (some ⟨w.heap.size, 0, none⟩) 0 0) ∧ w' = w.alloc (.cells #[] 3) := by
  by_cases h1 : i < -1
  · clear h
    go_enter Try.func13, Try.ntmps13
    go_wp2
    go_ret
    exact ⟨rfl, rfl⟩
  · have h1' : decide (i < -1) = false := decide_eq_false h1
    have h2 : (n : Int) ≤ i := by omega
    clear h
    go_enter Try.func13, Try.ntmps13
    go_wp2
    go_ret
    exact ⟨rfl, rfl⟩

end Go.Proofs.Ytenmlpfjeohkiaa.Ro

namespace Go.Proofs.Ytenmlpfjeohkiaa.Ro
set_option maxRecDepth 100000
set_option linter.unusedVariables false
set_option linter.unusedSimpArgs false
open Go.RowKit Ba
/-- Is it what has the roots, or an element? -/
def elemAt (l : List Ro) (p : Int) : Bool := decide (p = -1) || (decide (0 ≤ p ∧ p < l.length) && decide (((l[p.toNat]?).map (·.kind)).getD 1 = 0))
def put (l : List Ro) (p at_ : Int) (sub : List Ro) : Int × List Ro :=
  if elemAt l p = false then (41, [])
  else if (placeAt l p at_).2 = false then (1, [])
  else if right sub = false then (40, [])
  else if exceeds sub (4096 - l.length) (60 - (dep l p + 1)) = true then (2, [])
  else (0, l.take (placeAt l p at_).1.toNat ++ deeper (dep l p + 1) sub ++ l.drop (placeAt l p at_).1.toNat)

theorem Rr.take {w : World} {N : Nat} {A : Option Addr} {l : List Cw} (h : Rr w N A l) (k : Nat) : Rr w N A (l.take k) := by
  refine ⟨fun h0 => ?_, fun x hx => h.2 x (List.mem_of_mem_take hx)⟩
  rw [List.length_take] at h0
  obtain ⟨b, off, e, hb, hcc⟩ := h.1 (by omega)
  refine ⟨b, off, e, hb, fun j hj => ?_⟩
  rw [List.length_take] at hj
  rw [List.getElem_take]
  exact hcc j (by omega)
theorem Rr.rest {w : World} {N : Nat} {A : Option Addr} {l : List Cw} (h : Rr w N A l) (k cap : Nat) (hk : k ≤ l.length) (hc : l.length ≤ cap) : Rr w N (if cap = k then A else A.map (·.add (k * 5))) (l.drop k) := by
  have := h.part k l.length cap hk (Nat.le_refl _) hc
  rwa [List.take_length] at this
end Go.Proofs.Ytenmlpfjeohkiaa.Ro

namespace Go.Proofs.Ytenmlpfjeohkiaa.Ro
set_option maxRecDepth 100000
set_option linter.unusedVariables false
set_option linter.unusedSimpArgs false
open Go.RowKit Ba
theorem Deep.held {l : List Ro} (h : Deep l) : Held l := fun x hx => by have := h x hx; omega

end Go.Proofs.Ytenmlpfjeohkiaa.Ro

namespace Go.Proofs.Ytenmlpfjeohkiaa.Ro
set_option maxRecDepth 100000
set_option linter.unusedVariables false
set_option linter.unusedSimpArgs false
open Go.RowKit Ba
/-- A value reads as rows. -/
def Rv (w : World) (v : Value) (l : List Cw) : Prop := ∃ A c, v = .slice A l.length c ∧ l.length ≤ c ∧ c ≤ maxLen ∧ Rr w w.heap.size A l ∧ Held (ros l)
theorem Rv.below {w w' : World} {v : Value} {l : List Cw} (h : Rv w v l) (hb : Below w.heap.size w w') : Rv w' v l := by
  obtain ⟨A, c, e, h1, h2, h3, h4⟩ := h
  exact ⟨A, c, e, h1, h2, (h3.below hb).more hb.size, h4⟩
theorem Ow.rv {N : Nat} {w : World} {v : Value} {l : List Cw} (h : Ow N w v l) (hh : Held (ros l)) : Rv w v l := by
  obtain ⟨A, c, e, h1, h2, _, h3⟩ := h.form
  exact ⟨A, c, e, h1, h2, h3, hh⟩
theorem check1 (v : Value) (x : List Cw) (w : World) (q : Int) (h : Rv w v x) (hl : x.length ≤ 1000000) (hq : check (ros x) = q) :
    Calls Try.prog 31 #[v] w fun e w' => e = .returned (.int .i64 q) ∧ Below w.heap.size w w' := by
  obtain ⟨A, c, rfl, hc, hm, hr, hh⟩ := h
  subst hq
  exact Check_any A c x w hr hc (by omega)
theorem same1 (a b : Value) (x y : List Cw) (w : World) (q : Bool) (ha : Rv w a x) (hb : Rv w b y) (hx : x.length ≤ 1000000) (hy : y.length ≤ 1000000) (hq : decide (ros x = ros y) = q) :
    Calls Try.prog 32 #[a, b] w fun e w' => e = .returned (.bool q) ∧ Below w.heap.size w w' := by
  obtain ⟨A, c, rfl, hc, hm, hr, _⟩ := ha
  obtain ⟨B, d, rfl, hd, hm2, hr2, _⟩ := hb
  subst hq
  exact Same_any A B c d x y w hr hr2 hc hd (by omega) (by omega)
theorem normal1 (v : Value) (x : List Cw) (w : World) (q : List Ro) (h : Rv w v x) (hl : x.length ≤ 1000000) (hf : Few (ros x)) (ht : (txt (ros x)).length ≤ 1000000000) (hq : normal (ros x) = q) (hhq : Held q) :
    Calls Try.prog 33 #[v] w fun e w' => ∃ u y, e = .returned u ∧ Ow w.heap.size w' u y ∧ (∀ z ∈ y, Fr w.heap.size w' z) ∧ ros y = q ∧ Rv w' u y ∧ Below w.heap.size w w' := by
  obtain ⟨A, c, rfl, hc, hm, hr, hh⟩ := h
  refine (Normal_any A c x w hr hc (by omega) ht hf hh).mono ?_
  rintro e w1 ⟨u, y, rfl, ho, hfr, hy, hb⟩
  rw [hq] at hy
  exact ⟨u, y, rfl, ho, hfr, hy, ho.rv (by rw [hy]; exact hhq), hb⟩

/-- A row that has no attributes. -/
def bare (r : Ro) : Cw := ⟨r, none, 0⟩
theorem bare_att (w : World) (N : Nat) {r : Ro} (h : r.attrs = []) : Att w N (bare r) := by
  refine ⟨?_, fun _ => rfl, Nat.zero_le _, ?_, ?_⟩
  · show r.attrs.length ≤ 0
    rw [h]; exact Nat.le_refl _
  · show Ra w N none r.attrs
    rw [h]; exact fun h => absurd h (by simp)
  · show Sh r.attrs
    rw [h]; exact fun _ hx => by simp at hx
theorem bare_ap (w : World) (N : Nat) {r : Ro} (h : r.attrs = []) : Ap w N (bare r) := fun h0 => by
  have h0 : 0 < r.attrs.length := h0
  rw [h] at h0
  exact absurd h0 (by simp)
/-- Rows without attributes, freshly written down. -/
theorem rows_new (w : World) (l : List Cw) (cs : Array Value) (n : Nat) (hn : l.length = n) (hm : n ≤ maxLen) (hcs : cs.toList = l.flatMap cells) (hl : ∀ x ∈ l, ∃ r : Ro, x = bare r ∧ r.attrs = []) :
    Ow w.heap.size (w.alloc (.cells cs 35)) (.slice (some ⟨w.heap.size, 0, none⟩) n n) l := by
  have hfl : (l.flatMap cells).length = n * 5 := by
    rw [← hn]
    clear hcs hl hn
    induction l with
    | nil => rfl
    | cons x r ih => rw [List.flatMap_cons, List.length_append, ih, List.length_cons]; simp [cells]; omega
  have hsz : cs.size = n * 5 := by rw [← Array.length_toList, hcs, hfl]
  refine ⟨⟨by rw [hn, hfl], .inr ⟨w.heap.size, n, cs, by rw [hn], Nat.le_refl _, heap_alloc_new w _, by rw [hn]; exact Nat.le_refl _, hm, hsz, ?_⟩⟩, fun x hx => ?_⟩
  · rw [hn, hcs, ← hfl, List.take_length]
  · obtain ⟨r, rfl, h⟩ := hl x hx
    exact ⟨bare_att _ _ h, bare_ap _ _ h⟩

end Go.Proofs.Ytenmlpfjeohkiaa.Ro

namespace Go.Proofs.Ytenmlpfjeohkiaa.Ro
set_option linter.unusedVariables false
set_option linter.unusedSimpArgs false
open Go.RowKit Ba
def sc : ByteArray := { data := #[99] }
end Go.Proofs.Ytenmlpfjeohkiaa.Ro

namespace Go.Proofs.Ytenmlpfjeohkiaa.Ro
set_option maxRecDepth 100000
set_option linter.unusedVariables false
set_option linter.unusedSimpArgs false
open Go.RowKit Ba
end Go.Proofs.Ytenmlpfjeohkiaa.Ro

namespace Go.Proofs.Ytenmlpfjeohkiaa.Ro
set_option linter.unusedVariables false
set_option linter.unusedSimpArgs false
open Go.RowKit Ba
/-- From one row to the next it goes at most one deeper, and only below an element. -/
theorem right_step : ∀ (l : List Ro) (m : Int), rightFrom m l = true → ∀ k x y, l[k]? = some x → l[k + 1]? = some y → y.depth ≤ x.depth + 1 ∧ (x.kind ≠ 0 → y.depth ≤ x.depth)
  | [], _, _, k, x, y, h, _ => by simp at h
  | a :: r, m, h, k, x, y, hx, hy => by
    rw [rightFrom] at h
    simp only [Bool.and_eq_true, decide_eq_true_eq] at h
    cases k with
    | zero =>
      obtain rfl : a = x := by simpa using hx
      have hy : r[0]? = some y := by simpa using hy
      cases r with
      | nil => simp at hy
      | cons b r =>
        obtain rfl : b = y := by simpa using hy
        have h2 := h.2
        rw [rightFrom] at h2
        simp only [Bool.and_eq_true, decide_eq_true_eq] at h2
        have := h2.1.1.2
        by_cases hk : a.kind = 0
        · rw [if_pos hk] at this
          exact ⟨by omega, fun e => absurd hk e⟩
        · rw [if_neg hk] at this
          exact ⟨by omega, fun _ => this⟩
    | succ k => exact right_step r _ h.2 k x y (by simpa using hx) (by simpa using hy)

theorem empty_name {s : ByteArray} (h : s.toList.isEmpty = true) : s = .empty := by
  rw [List.isEmpty_iff, toList_L] at h
  rw [← B_L s, h]
  rfl
theorem text_form {x : Ro} (h : okRow x = true) (hk : x.kind = 1) : x = ⟨x.depth, 1, .empty, x.data, []⟩ := by
  rw [okRow, if_neg (by rw [hk]; decide)] at h
  simp only [Bool.and_eq_true] at h
  have h1 := empty_name h.1.2
  have h2 := h.2
  obtain ⟨d, k, n, t, a⟩ := x
  simp only at hk h1 h2 ⊢
  subst hk
  subst h1
  cases a with
  | nil => rfl
  | cons u r =>
    exfalso
    rw [beq_iff_eq, List.length_cons] at h2
    omega

theorem right_same (d : Int) : ∀ (n : Nat) (r : List Ro), rightFrom d r = true → (∀ x ∈ r.take n, x.kind = 1 ∧ x.depth = d) → rightFrom d (r.drop n) = true
  | 0, r, h, _ => h
  | n + 1, [], h, _ => h
  | n + 1, x :: r, h, ht => by
    rw [rightFrom] at h
    simp only [Bool.and_eq_true, decide_eq_true_eq] at h
    have hx := ht x (by simp)
    have h2 := h.2
    rw [if_neg (by rw [hx.1]; decide), hx.2] at h2
    exact right_same d n r h2 fun y hy => ht y (by rw [List.take_succ_cons]; exact List.mem_cons_of_mem _ hy)
theorem stops (p : Ro → Bool) : ∀ (l : List Ro) (z : Ro), (l.drop (l.takeWhile p).length).head? = some z → p z = false
  | [], z, h => by simp at h
  | x :: r, z, h => by
    by_cases hp : p x = true
    · rw [List.takeWhile_cons_of_pos hp, List.length_cons, List.drop_succ_cons] at h
      exact stops p r z h
    · rw [List.takeWhile_cons_of_neg hp] at h
      obtain rfl : x = z := by simpa using h
      simpa using hp
theorem takes (p : Ro → Bool) : ∀ (l : List Ro), ∀ x ∈ l.take (l.takeWhile p).length, p x = true
  | [], x, h => by simp at h
  | y :: r, x, h => by
    by_cases hp : p y = true
    · rw [List.takeWhile_cons_of_pos hp, List.length_cons, List.take_succ_cons] at h
      rcases List.mem_cons.1 h with rfl | h
      · exact hp
      · exact takes p r x h
    · rw [List.takeWhile_cons_of_neg hp] at h
      simp at h
theorem right_ok : ∀ (l : List Ro) (m : Int), rightFrom m l = true → ∀ x ∈ l, okRow x = true
  | [], _, _, x, h => by cases h
  | y :: r, m, h, x, hx => by
    rw [rightFrom] at h
    simp only [Bool.and_eq_true, decide_eq_true_eq] at h
    rcases List.mem_cons.1 hx with rfl | hx
    · exact h.1.2
    · exact right_ok r _ h.2 x hx

theorem exceeds_iff (l : List Ro) (n d : Int) : exceeds l n d = true ↔ n < l.length ∨ ∃ x ∈ l, d ≤ x.depth := by
  rw [exceeds, Bool.or_eq_true, decide_eq_true_eq, List.any_eq_true]
  simp only [decide_eq_true_eq]
end Go.Proofs.Ytenmlpfjeohkiaa.Ro

namespace Go.Proofs.Ytenmlpfjeohkiaa.Ro
set_option maxRecDepth 100000
set_option linter.unusedVariables false
set_option linter.unusedSimpArgs false
open Go.RowKit Ba Go.ChangeShapes Go.WideShapes Go.Deep
section
variable {H : Type} {enc : TypeId × Value → H} {P : Program} {w : World} {base : Nat} {spare : Nat → Bool} {held : Bool}
/-- A slice of structs of one-cell fields: its parts. -/
theorem open_rows_of {t e : TypeId} {fs : Array Field} {fuel : Nat} {cs : List Value} {x : DataW H × List MemPlace} (ht : P.underlying t = some (.slice e)) (he : P.underlying e = some (.struct fs))
    (hone : oneCellFields P fs = true) (hC : P.cellsOf e = fs.size) (h : DataW.trod enc P w base spare held fuel t cs = some x) :
    cs = [.slice none 0 0] ∨
    ∃ (a : Addr) (len cap m : Nat) (Pl : Nat → List MemPlace), cs = [.slice (some a) len cap] ∧ len ≤ cap ∧ cap ≤ maxLen ∧ m = (if spare a.block then cap else len) ∧
      x.2 = MemPlace.row a (m * fs.size) ++ (List.range m).flatMap Pl ∧
      ∀ i, i < m → ∀ (j : Nat) (f : Field), fs[j]? = some f → ∃ (v : Value) (y : DataW H × List MemPlace) (n : Nat), w.cell? (a.add (i * fs.size + j)) = some v ∧ (∀ z ∈ y.2, z ∈ Pl i) ∧ DataW.trod enc P w base spare held n f.type [v] = some y := by
  rcases open_slice ht h with ⟨h0, _⟩ | ⟨a, len, cap, m, n, D, Pl, hcs, hb, hl, hm, hmm, hx, hi⟩
  · exact .inl h0
  · refine .inr ⟨a, len, cap, m, Pl, hcs, hl, hm, hmm, by rw [hx, hC], fun i him j f hj => ?_⟩
    obtain ⟨cs', hc, ht'⟩ := hi i him
    rw [hC] at hc
    obtain ⟨ys, n', hn', hy, hlen, hyl, hf⟩ := DataW.trod_struct he ht'
    obtain ⟨_, hcl, hat⟩ := World.cells?_some hc
    simp only [Prod.mk.injEq] at hy
    obtain ⟨ho, hk⟩ := hone_of hone j f hj
    have hjl : j < fs.size := (Array.getElem?_eq_some_iff.1 hj).1
    have hcell := hat j hjl
    have hv : cs'[j]? = some (cs'[j]'(by omega)) := List.getElem?_eq_getElem (by omega)
    have h1 := hf j f hj
    rw [ho, hk] at h1
    have hone' : (cs'.drop j).take 1 = [cs'[j]'(by omega)] := by
      rw [List.drop_eq_getElem_cons (by omega)]
      rfl
    rw [hone'] at h1
    have hys : ys[j]? = some (ys[j]'(by omega)) := List.getElem?_eq_getElem (by omega)
    refine ⟨_, _, n', ?_, fun z hz => ?_, h1.trans hys⟩
    · rw [← Go.Deep.add_add, hcell, hv]
    · rw [hy.2]
      exact List.mem_flatMap.2 ⟨_, List.getElem_mem _, hz⟩
end

theorem list_of {α : Type} (Q : Nat → α → Prop) : ∀ n : Nat, (∀ i < n, ∃ x, Q i x) → ∃ l : List α, l.length = n ∧ ∀ i (h : i < l.length), Q i l[i]
  | 0, _ => ⟨[], rfl, fun i h => absurd h (by simp)⟩
  | n + 1, h => by
    obtain ⟨l, hl, hq⟩ := list_of Q n fun i hi => h i (by omega)
    obtain ⟨x, hx⟩ := h n (by omega)
    refine ⟨l ++ [x], by rw [List.length_append, hl]; rfl, fun i hi => ?_⟩
    rw [List.length_append, List.length_singleton] at hi
    by_cases e : i < l.length
    · rw [List.getElem_append_left e]
      exact hq i e
    · have : i = l.length := by omega
      subst this
      rw [List.getElem_append_right (Nat.le_refl _)]
      simp only [Nat.sub_self, List.getElem_cons_zero]
      rw [hl]; exact hx

section
variable {H : Type} {enc : TypeId × Value → H} {w : World} {base : Nat}
theorem open_attrs {fuel : Nat} {v : Value} {x : DataW H × List MemPlace} (h : DataW.trod enc Try.prog w base (fun _ => true) true fuel 33 [v] = some x) (N : Nat) (hlt : ∀ z ∈ x.2, z.block < N) :
    ∃ A c l, v = .slice A l.length c ∧ l.length ≤ c ∧ (A = none → c = 0) ∧ c ≤ maxLen ∧ Ra w N A l ∧ Sh l := by
  rcases open_rows_of Try.underlying33 Try.underlying41 (by kernel_rfl) (by kernel_rfl) h with hcs | ⟨a, len, cap, m, Pl, hcs, hl, hm, hmm, hx, hi⟩
  · obtain rfl : v = .slice none 0 0 := by simpa using hcs
    exact ⟨none, 0, [], rfl, Nat.le_refl _, fun _ => rfl, Nat.zero_le _, fun h => absurd h (by simp), fun _ h => by simp at h⟩
  · obtain rfl : v = .slice (some a) len cap := by simpa using hcs
    simp only [if_true] at hmm
    subst hmm
    obtain ⟨b, off, spot⟩ := a
    have hrow : ∀ i < len, ∃ t : At, w.cell? ((⟨b, off, spot⟩ : Addr).add (i * 2)) = some (.string t.name) ∧ w.cell? ((⟨b, off, spot⟩ : Addr).add (i * 2 + 1)) = some (.string t.value) ∧ t.name.size ≤ maxLen := fun i hil => by
      obtain ⟨v0, y0, n0, hc0, _, ht0⟩ := hi i (by omega) 0 _ rfl
      obtain ⟨v1, y1, n1, hc1, _, ht1⟩ := hi i (by omega) 1 _ rfl
      obtain ⟨s0, e0, _, hs0⟩ := DataW.trod_string Try.underlying9 ht0
      obtain ⟨s1, e1, _, _⟩ := DataW.trod_string Try.underlying9 ht1
      obtain rfl : v0 = .string s0 := by simpa using e0
      obtain rfl : v1 = .string s1 := by simpa using e1
      exact ⟨⟨s0, s1⟩, hc0, hc1, hs0⟩
    obtain ⟨l, hll, hq⟩ := list_of _ len hrow
    refine ⟨some ⟨b, off, spot⟩, m, l, by rw [hll], by omega, (fun e => by cases e), hm, fun h0 => ?_, fun t ht => ?_⟩
    · have hspot : spot = none := by
        have := World.cell?_spot (hq 0 h0).1
        simpa [Addr.add] using this
      subst hspot
      refine ⟨b, off, rfl, hlt (.cell b off) (by rw [hx]; exact List.mem_append_left _ (MemPlace.mem_row.2 ⟨0, by show 0 < m * 2; omega, by simp⟩)), fun j hj => ?_⟩
      obtain ⟨h1, h2, _⟩ := hq j hj
      rw [add_plain] at h1 h2
      intro k u hu
      match k, hu with
      | 0, hu => exact h1.trans hu
      | 1, hu => exact (show w.cell? ⟨b, off + j * 2 + 1, none⟩ = _ from h2).trans hu
      | k + 2, hu => exact absurd hu (by simp [acells])
    · obtain ⟨j, hj, rfl⟩ := List.getElem_of_mem ht
      exact (hq j hj).2.2
theorem int_range {n : Int} (h : (Lit.int .i64 n).wf = true) : -9223372036854775808 ≤ n ∧ n ≤ 9223372036854775807 := by
  have h1 : IntKind.i64.min = -9223372036854775808 := by decide
  have h2 : IntKind.i64.max = 9223372036854775807 := by decide
  simp [Lit.wf, h1, h2] at h
  omega
end

section
variable {H : Type} {enc : TypeId × Value → H} {P : Program} {w : World} {base : Nat} {spare : Nat → Bool} {held : Bool}
theorem open_rows_parts {t e : TypeId} {fs : Array Field} {fuel : Nat} {cs : List Value} {x : DataW H × List MemPlace} (ht : P.underlying t = some (.slice e)) (he : P.underlying e = some (.struct fs))
    (hone : oneCellFields P fs = true) (hC : P.cellsOf e = fs.size) (h : DataW.trod enc P w base spare held fuel t cs = some x) :
    cs = [.slice none 0 0] ∨
    ∃ (a : Addr) (len cap : Nat) (D : Nat → DataW H) (sp : List (DataW H)), cs = [.slice (some a) len cap] ∧ x.1 = .slice ((List.range len).map D) sp ∧
      ∀ i, i < len → ∀ (j : Nat) (f : Field), fs[j]? = some f → ∃ (v : Value) (y : DataW H × List MemPlace) (n : Nat) (parts : List (DataW H)), w.cell? (a.add (i * fs.size + j)) = some v ∧ D i = .agg parts ∧ parts[j]? = some y.1 ∧ DataW.trod enc P w base spare held n f.type [v] = some y := by
  rcases open_slice ht h with ⟨h0, _⟩ | ⟨a, len, cap, m, n, D, Pl, hcs, hb, hl, hm, hmm, hx, hi⟩
  · exact .inl h0
  · refine .inr ⟨a, len, cap, D, _, hcs, by rw [hx], fun i hil j f hj => ?_⟩
    have him : i < m := by rw [hmm]; split <;> omega
    obtain ⟨cs', hc, ht'⟩ := hi i him
    rw [hC] at hc
    obtain ⟨ys, n', hn', hy, hlen, hyl, hf⟩ := DataW.trod_struct he ht'
    obtain ⟨_, hcl, hat⟩ := World.cells?_some hc
    simp only [Prod.mk.injEq] at hy
    obtain ⟨ho, hk⟩ := hone_of hone j f hj
    have hjl : j < fs.size := (Array.getElem?_eq_some_iff.1 hj).1
    have hcell := hat j hjl
    have hv : cs'[j]? = some (cs'[j]'(by omega)) := List.getElem?_eq_getElem (by omega)
    have h1 := hf j f hj
    rw [ho, hk] at h1
    have hone' : (cs'.drop j).take 1 = [cs'[j]'(by omega)] := by
      rw [List.drop_eq_getElem_cons (by omega)]
      rfl
    rw [hone'] at h1
    have hys : ys[j]? = some (ys[j]'(by omega)) := List.getElem?_eq_getElem (by omega)
    refine ⟨_, _, n', _, ?_, hy.1, by rw [List.getElem?_map, hys]; rfl, h1.trans hys⟩
    rw [← Go.Deep.add_add, hcell, hv]
end

section
variable {H : Type} {enc : TypeId × Value → H} {P : Program} {w : World} {base : Nat} {spare : Nat → Bool} {held : Bool}
end

theorem mem_bulk {H : Type} {d : DataW H} : ∀ {ds : List (DataW H)}, d ∈ ds → Rows.uptoBulk d ≤ Rows.uptoBulkAll ds
  | [], h => by cases h
  | e :: r, h => by
    rw [Rows.uptoBulkAll]
    rcases List.mem_cons.1 h with rfl | h
    · omega
    · have := mem_bulk h
      omega
theorem bulk2 {H : Type} {a b : DataW H} : ∀ {l : List (DataW H)}, l[0]? = some a → l[1]? = some b → Rows.uptoBulk a + Rows.uptoBulk b ≤ Rows.uptoBulkAll l
  | [], h, _ => by cases h
  | [_], _, h => by cases h
  | x :: y :: r, h1, h2 => by
    obtain rfl : x = a := by simpa using h1
    obtain rfl : y = b := by simpa using h2
    rw [Rows.uptoBulkAll, Rows.uptoBulkAll]
    omega
theorem bulk123 {H : Type} {a b c : DataW H} : ∀ {l : List (DataW H)}, l[1]? = some a → l[2]? = some b → l[3]? = some c → Rows.uptoBulk a + (Rows.uptoBulk b + Rows.uptoBulk c) ≤ Rows.uptoBulkAll l
  | [], h, _, _ => by cases h
  | [_], h, _, _ => by cases h
  | [_, _], _, h, _ => by cases h
  | [_, _, _], _, _, h => by cases h
  | x :: y :: z :: u :: r, h1, h2, h3 => by
    obtain rfl : y = a := by simpa using h1
    obtain rfl : z = b := by simpa using h2
    obtain rfl : u = c := by simpa using h3
    rw [Rows.uptoBulkAll, Rows.uptoBulkAll, Rows.uptoBulkAll, Rows.uptoBulkAll]
    omega
/-- A sum over the parts of a slice. -/
theorem sum_bulk {α H : Type} (f : α → Nat) (D : Nat → DataW H) : ∀ (l : List α) (o : Nat), (∀ i (h : i < l.length), f l[i] ≤ Rows.uptoBulk (D (o + i))) → (l.map f).sum ≤ Rows.uptoBulkAll ((List.range' o l.length).map D)
  | [], o, _ => by simp
  | x :: r, o, h => by
    have h0 := h 0 (by simp)
    have ih := sum_bulk f D r (o + 1) fun i hi => by
      have := h (i + 1) (by simp; omega)
      rw [show o + 1 + i = o + (i + 1) by omega]
      exact this
    rw [List.map_cons, List.sum_cons, List.length_cons, List.range'_succ, List.map_cons, Rows.uptoBulkAll]
    have h1 : f x ≤ Rows.uptoBulk (D o) := h0
    omega
theorem lit_bulk {H : Type} (s : ByteArray) : Rows.uptoBulk (DataW.lit (.string s.data.toList) : DataW H) = s.size + 1 := by
  rw [Rows.uptoBulk, Array.length_toList]; rfl
section
variable {H : Type} {enc : TypeId × Value → H} {w : World}
/-- What attributes hold is no more than the reading's bulk. -/
theorem attrs_bulk {fuel N c : Nat} {v : Value} {x : DataW H × List MemPlace} {A : Option Addr} {l : List At} (h : DataW.trod enc Try.prog w 0 (fun _ => true) true fuel 33 [v] = some x) (hv : v = .slice A l.length c) (hr : Ra w N A l) :
    (l.map fun a => a.name.size + a.value.size + 1).sum ≤ Rows.uptoBulk x.1 := by
  subst hv
  rcases open_rows_parts Try.underlying33 Try.underlying41 (by kernel_rfl) (by kernel_rfl) h with hcs | ⟨a, len, cap, D, sp, hcs, hx, hi⟩
  · simp at hcs
    obtain ⟨_, hl, _⟩ := hcs
    have : l = [] := hl
    subst this
    simp
  · simp at hcs
    obtain ⟨hA, hl, _⟩ := hcs
    rw [hx, Rows.uptoBulk]
    have := sum_bulk (fun a : At => a.name.size + a.value.size + 1) D l 0 fun i hil => by
      obtain ⟨b, off, e, _, hc⟩ := hr (by omega)
      rw [hA] at e
      injection e with e
      subst e
      obtain ⟨u0, y0, n0, p0, hc0, hD0, hy0, ht0⟩ := hi i (by omega) 0 _ rfl
      obtain ⟨u1, y1, n1, p1, hc1, hD1, hy1, ht1⟩ := hi i (by omega) 1 _ rfl
      obtain rfl : p0 = p1 := by rw [hD0] at hD1; injection hD1
      obtain ⟨s0, e0, g0, _⟩ := DataW.trod_string Try.underlying9 ht0
      obtain ⟨s1, e1, g1, _⟩ := DataW.trod_string Try.underlying9 ht1
      rw [add_plain] at hc0 hc1
      have k0 := hc i hil 0 (.string l[i].name) rfl
      have k1 := hc i hil 1 (.string l[i].value) rfl
      have q0 : s0 = l[i].name := by
        obtain rfl : u0 = .string s0 := by simpa using e0
        rw [show off + i * 2 + 0 = off + (i * 2 + 0) by omega] at k0
        have := hc0.symm.trans k0
        injection this with this
        injection this
      have q1 : s1 = l[i].value := by
        obtain rfl : u1 = .string s1 := by simpa using e1
        rw [show off + i * 2 + 1 = off + (i * 2 + 1) by omega] at k1
        have := hc1.symm.trans k1
        injection this with this
        injection this
      rw [Nat.zero_add, hD0, Rows.uptoBulk]
      have h3 := bulk2 hy0 hy1
      have h4 : Rows.uptoBulk y0.1 = s0.size + 1 := by rw [g0]; exact lit_bulk s0
      have h5 : Rows.uptoBulk y1.1 = s1.size + 1 := by rw [g1]; exact lit_bulk s1
      rw [← q0, ← q1]
      omega
    rw [← List.range_eq_range', hl] at this
    omega
end

end Go.Proofs.Ytenmlpfjeohkiaa.Ro

namespace Go.Proofs.Ytenmlpfjeohkiaa.Ro
set_option maxRecDepth 100000
set_option linter.unusedVariables false
set_option linter.unusedSimpArgs false
open Go.RowKit Ba Go.ChangeShapes Go.WideShapes Go.Deep
section
variable {H : Type} {enc : TypeId × Value → H} {w : World} {base : Nat}
/-- An argument []api.Row, as the statement's row reads it. -/
theorem open_ros {v : Value} {d : DataW H} {p : List MemPlace} (hv : Value.okWide Try.prog w .any base 22 v)
    (h : ∃ fuel, DataW.trod enc Try.prog w 0 (fun _ => true) true fuel 22 v.cells.toList = some (d, p)) (hlt : ∀ z ∈ p, z.block < w.heap.size) :
    ∃ A c l, v = .slice A l.length c ∧ l.length ≤ c ∧ c ≤ maxLen ∧ Rr w w.heap.size A l ∧ Held (ros l) := by
  obtain ⟨a0, len, cap, rfl⟩ := okWide_slice Try.underlying22 hv
  obtain ⟨fuel, hf⟩ := h
  rcases open_rows_of Try.underlying22 Try.underlying35 (by kernel_rfl) (by kernel_rfl) hf with hcs | ⟨a, len', cap', m, Pl, hcs, hl, hm, hmm, hx, hi⟩
  · simp [Value.cells] at hcs
    obtain ⟨rfl, rfl, rfl⟩ := hcs
    exact ⟨none, 0, [], rfl, Nat.le_refl _, Nat.zero_le _, Rr.nil _ _ _, fun _ h => by simp [ros] at h⟩
  · simp [Value.cells] at hcs
    obtain ⟨rfl, rfl, rfl⟩ := hcs
    simp only [if_true] at hmm
    subst hmm
    obtain ⟨b, off, spot⟩ := a
    have hx : p = _ := hx
    have hrow : ∀ i < len, ∃ r : Cw, (∀ (j : Nat) (u : Value), (cells r)[j]? = some u → w.cell? ((⟨b, off, spot⟩ : Addr).add (i * 5 + j)) = some u) ∧ Att w w.heap.size r ∧ (-9223372036854775808 ≤ r.ro.depth ∧ r.ro.depth ≤ 9223372036854775807) := fun i hil => by
      obtain ⟨v0, y0, n0, hc0, _, ht0⟩ := hi i (by omega) 0 _ rfl
      obtain ⟨v1, y1, n1, hc1, _, ht1⟩ := hi i (by omega) 1 _ rfl
      obtain ⟨v2, y2, n2, hc2, _, ht2⟩ := hi i (by omega) 2 _ rfl
      obtain ⟨v3, y3, n3, hc3, _, ht3⟩ := hi i (by omega) 3 _ rfl
      obtain ⟨v4, y4, n4, hc4, hp4, ht4⟩ := hi i (by omega) 4 _ rfl
      obtain ⟨s0, e0, _, hs0⟩ := DataW.trod_int Try.underlying3 ht0
      obtain ⟨s1, e1, _, _⟩ := DataW.trod_int Try.underlying3 ht1
      obtain ⟨s2, e2, _, _⟩ := DataW.trod_string Try.underlying9 ht2
      obtain ⟨s3, e3, _, _⟩ := DataW.trod_string Try.underlying9 ht3
      obtain rfl : v0 = .int .i64 s0 := by simpa using e0
      obtain rfl : v1 = .int .i64 s1 := by simpa using e1
      obtain rfl : v2 = .string s2 := by simpa using e2
      obtain rfl : v3 = .string s3 := by simpa using e3
      obtain ⟨A, c, al, rfl, hac, hA, hcm, hra, hsh⟩ := open_attrs ht4 w.heap.size fun z hz => hlt z (by
        rw [hx]
        exact List.mem_append_right _ (List.mem_flatMap.2 ⟨i, List.mem_range.2 (by omega), hp4 z hz⟩))
      refine ⟨⟨⟨s0, s1, s2, s3, al⟩, A, c⟩, fun j u hu => ?_, ⟨hac, hA, hcm, hra, hsh⟩, int_range hs0⟩
      match j, hu with
      | 0, hu => exact hc0.trans hu
      | 1, hu => exact hc1.trans hu
      | 2, hu => exact hc2.trans hu
      | 3, hu => exact hc3.trans hu
      | 4, hu => exact hc4.trans hu
      | j + 5, hu => exact absurd hu (by simp [cells])
    obtain ⟨l, hll, hq⟩ := list_of _ len hrow
    refine ⟨some ⟨b, off, spot⟩, _, l, by rw [hll], by omega, hm, ⟨fun h0 => ?_, fun r hr => ?_⟩, fun r hr => ?_⟩
    · have hspot : spot = none := by
        have := World.cell?_spot ((hq 0 h0).1 0 _ rfl)
        simpa [Addr.add] using this
      subst hspot
      refine ⟨b, off, rfl, hlt (.cell b off) (by rw [hx]; exact List.mem_append_left _ (MemPlace.mem_row.2 ⟨0, by show 0 < _ * 5; omega, by simp⟩)), fun j hj k u hu => ?_⟩
      have := (hq j hj).1 k u hu
      rw [add_plain] at this
      rw [show off + j * 5 + k = off + (j * 5 + k) by omega]
      exact this
    · obtain ⟨j, hj, rfl⟩ := List.getElem_of_mem hr
      exact (hq j hj).2.1
    · obtain ⟨z, hz, rfl⟩ := List.mem_map.1 hr
      obtain ⟨j, hj, rfl⟩ := List.getElem_of_mem hz
      exact (hq j hj).2.2
theorem laidOut : laidOutB Try.prog = true := by kernel_rfl
end

end Go.Proofs.Ytenmlpfjeohkiaa.Ro

namespace Go.Proofs.Ytenmlpfjeohkiaa.Ro
set_option linter.unusedVariables false
set_option linter.unusedSimpArgs false
open Go.RowKit Ba
end Go.Proofs.Ytenmlpfjeohkiaa.Ro

namespace Go.Proofs.Ytenmlpfjeohkiaa.Ro
set_option maxRecDepth 100000
set_option linter.unusedVariables false
set_option linter.unusedSimpArgs false
open Go.RowKit Ba
theorem deep_right : ∀ (l : List Ro) (m : Int), rightFrom m l = true → m ≤ 1000 → l.length ≤ 1000 → ∀ x ∈ l, 0 ≤ x.depth ∧ x.depth ≤ m + l.length
  | [], _, _, _, _, x, h => by cases h
  | y :: r, m, h, hm, hl, x, hx => by
    rw [rightFrom] at h
    simp only [Bool.and_eq_true, decide_eq_true_eq] at h
    obtain ⟨⟨⟨h1, h2⟩, _⟩, h4⟩ := h
    rcases List.mem_cons.1 hx with rfl | hx
    · exact ⟨h1, by omega⟩
    · rw [List.length_cons] at hl ⊢
      by_cases hk : y.kind = 0
      · rw [if_pos hk] at h4
        by_cases hm2 : y.depth + 1 ≤ 1000
        · have := deep_right r _ h4 hm2 (by omega) x hx
          exact ⟨this.1, by omega⟩
        · have := deep_all r _ h4 x hx
          exact ⟨this.1, by omega⟩
      · rw [if_neg hk] at h4
        have := deep_right r _ h4 (by omega) (by omega) x hx
        exact ⟨this.1, by omega⟩
where
  deep_all : ∀ (l : List Ro) (m : Int), rightFrom m l = true → ∀ x ∈ l, 0 ≤ x.depth ∧ x.depth ≤ m + l.length
    | [], _, _, x, h => by cases h
    | y :: r, m, h, x, hx => by
      rw [rightFrom] at h
      simp only [Bool.and_eq_true, decide_eq_true_eq] at h
      obtain ⟨⟨⟨h1, h2⟩, _⟩, h4⟩ := h
      rcases List.mem_cons.1 hx with rfl | hx
      · exact ⟨h1, by omega⟩
      · rw [List.length_cons]
        have := deep_all r _ h4 x hx
        by_cases hk : y.kind = 0
        · rw [if_pos hk] at this
          exact ⟨this.1, by omega⟩
        · rw [if_neg hk] at this
          exact ⟨this.1, by omega⟩
theorem right_deep {l : List Ro} (h : right l = true) (hl : l.length ≤ 1000) : Deep l := fun x hx => by
  have := deep_right l 0 h (by omega) hl x hx
  exact ⟨this.1, by omega⟩
theorem refRight1 (v : Value) (x : List Cw) (w : World) (q : Bool) (h : Rv w v x) (hl : x.length ≤ 1000) (hq : right (ros x) = q) :
    Calls Try.prog 7 #[v] w fun e w' => e = .returned (.bool q) ∧ Below w.heap.size w w' := by
  obtain ⟨A, c, rfl, hc, hm, hr, hh⟩ := h
  subst hq
  exact refRight_any A c x w hr hc (by omega)
theorem refEnd1 (v : Value) (x : List Cw) (i : Int) (w : World) (q : Nat) (h : Rv w v x) (hl : x.length ≤ 1000) (hq : endAt (ros x) i = q) :
    Calls Try.prog 15 #[v, .int .i64 i] w fun e w' => e = .returned (.int .i64 q) ∧ Below w.heap.size w w' := by
  obtain ⟨A, c, rfl, hc, hm, hr, hh⟩ := h
  subst hq
  exact (refEnd_any A c x i w hr hc (by omega)).mono fun e w' ⟨he, n, hn⟩ => ⟨he, by rw [hn]; exact Ba.below_drewN w n⟩
/-- The kids of a node that there is; else none. -/
def kidsAt (l : List Ro) (i : Int) : List Nat := if -1 ≤ i ∧ i < l.length then kids l i else []
theorem Nw.nil (N : Nat) (w : World) : Nw N w (.slice none 0 0) [] := World.ownsRow_nil w N _ 1
theorem refKids1 (v : Value) (x : List Cw) (i : Int) (w : World) (q : List Nat) (h : Rv w v x) (hl : x.length ≤ 1000) (hr : right (ros x) = true) (hq : kidsAt (ros x) i = q) :
    Calls Try.prog 13 #[v, .int .i64 i] w fun e w' => ∃ u, e = .returned u ∧ Nw w.heap.size w' u q ∧ Below w.heap.size w w' := by
  obtain ⟨A, c, rfl, hc, hm, hrr, hh⟩ := h
  subst hq
  rw [kidsAt, len_ros]
  by_cases hi : -1 ≤ i ∧ i < x.length
  · rw [if_pos hi]
    exact refKids_any A c x i w hrr hc (by omega) hi.1 hi.2 (right_deep hr (by rw [len_ros]; exact hl))
  · rw [if_neg hi]
    exact (refKidsOut_any A x.length c i w hc (by omega) hi).mono fun e w' ⟨he, hw⟩ => ⟨_, he, by rw [hw]; exact Nw.made w, by rw [hw]; exact below_new w _⟩
theorem moved0 (v : Value) (x : List Cw) (w : World) (h : Rv w v x) (hl : x.length ≤ 1000) (hf : Few (ros x)) :
    Calls Try.prog 14 #[v, .int .i64 0] w fun e w' => ∃ u y, e = .returned u ∧ Ow w.heap.size w' u y ∧ (∀ z ∈ y, Fr w.heap.size w' z) ∧ ros y = ros x ∧ y.length = x.length ∧ Rv w' u y ∧ Below w.heap.size w w' := by
  obtain ⟨A, c, rfl, hc, hm, hr, hh⟩ := h
  refine (Moved_any A c x 0 w hr hc (by omega) hf hh.fits).mono ?_
  rintro e w1 ⟨u, y, rfl, ho, hfr, hy, hb⟩
  rw [deeper_zero] at hy
  exact ⟨u, y, rfl, ho, hfr, hy, by rw [← len_ros, hy, len_ros], ho.rv (by rw [hy]; exact hh), hb⟩
end Go.Proofs.Ytenmlpfjeohkiaa.Ro

namespace Go.Proofs.Ytenmlpfjeohkiaa.Ro
set_option linter.unusedVariables false
set_option linter.unusedSimpArgs false
open Go.RowKit Ba
theorem normal_from : ∀ (n : Nat) (l : List Ro), l.length ≤ n → (normal l).length ≤ l.length ∧ ∀ y ∈ normal l, ∃ x ∈ l, y.depth = x.depth ∧ (y.kind = 1 → x.kind = 1)
  | _, [], _ => by rw [normal_nil]; simp
  | 0, _ :: _, h => absurd h (by simp)
  | n + 1, x :: r, h => by
    rw [List.length_cons] at h
    by_cases hk : x.kind = 1
    · rw [normal_text hk]
      obtain ⟨h1, h2⟩ := normal_from n (r.drop (nexts x.depth r)) (by rw [List.length_drop]; omega)
      rw [List.length_drop] at h1
      constructor
      · rw [List.length_append, List.length_cons]
        split
        · simp; omega
        · simp; omega
      · intro y hy
        rcases List.mem_append.1 hy with hy | hy
        · split at hy
          · cases hy
          · obtain rfl := List.mem_singleton.1 hy
            exact ⟨x, List.mem_cons_self, rfl, fun _ => hk⟩
        · obtain ⟨z, hz, e⟩ := h2 y hy
          exact ⟨z, List.mem_cons_of_mem _ (List.mem_of_mem_drop hz), e⟩
    · rw [normal_other hk]
      obtain ⟨h1, h2⟩ := normal_from n r (by omega)
      constructor
      · rw [List.length_cons, List.length_cons]; omega
      · intro y hy
        rcases List.mem_cons.1 hy with rfl | hy
        · exact ⟨y, List.mem_cons_self, rfl, fun e => e⟩
        · obtain ⟨z, hz, e⟩ := h2 y hy
          exact ⟨z, List.mem_cons_of_mem _ hz, e⟩
theorem len_normal (l : List Ro) : (normal l).length ≤ l.length := (normal_from l.length l (Nat.le_refl _)).1
theorem held_normal {l : List Ro} (h : Held l) : Held (normal l) := fun y hy => by
  obtain ⟨x, hx, e, _⟩ := (normal_from l.length l (Nat.le_refl _)).2 y hy
  rw [e]
  exact h x hx

end Go.Proofs.Ytenmlpfjeohkiaa.Ro

namespace Go.Proofs.Ytenmlpfjeohkiaa.Ro
set_option linter.unusedVariables false
set_option linter.unusedSimpArgs false
open Go.RowKit Ba
theorem right_mono {m k : Int} (h : m ≤ k) : ∀ {l : List Ro}, rightFrom m l = true → rightFrom k l = true
  | [], _ => rfl
  | x :: r, hr => by
    rw [rightFrom] at hr ⊢
    simp only [Bool.and_eq_true, decide_eq_true_eq] at hr ⊢
    exact ⟨⟨⟨hr.1.1.1, by omega⟩, hr.1.2⟩, hr.2⟩

theorem ok_text (d : Int) (t : List UInt8) : okRow ⟨d, 1, .empty, B t, []⟩ = true := by
  have e : ByteArray.empty.toList.isEmpty = true := by kernel_rfl
  show (if ((1 : Int) == 0) = true then _ else ((1 : Int) == 1 || (1 : Int) == 2) && ByteArray.empty.toList.isEmpty && ((0 : Nat) : Int) == 0) = true
  rw [if_neg (by decide), e]
  rfl

/-- What group follows a text. -/
theorem group {x : Ro} {r : List Ro} {m : Int} (h : rightFrom m (x :: r) = true) (hk : x.kind = 1) :
    0 ≤ x.depth ∧ x.depth ≤ m ∧ okRow x = true ∧ rightFrom x.depth (r.drop (nexts x.depth r)) = true ∧ (∀ z, (r.drop (nexts x.depth r)).head? = some z → z.kind = 1 → z.depth < x.depth) ∧ (∀ y ∈ r.take (nexts x.depth r), y.kind = 1 ∧ y.depth = x.depth) := by
  rw [rightFrom] at h
  simp only [Bool.and_eq_true, decide_eq_true_eq] at h
  have h2 := h.2
  rw [if_neg (by rw [hk]; decide)] at h2
  obtain ⟨k, hkk⟩ : ∃ k, nexts x.depth r = k := ⟨_, rfl⟩
  rw [hkk]
  have htk : ∀ y ∈ r.take k, y.kind = 1 ∧ y.depth = x.depth := fun y hy => by
    rw [← hkk] at hy
    have := takes _ r y hy
    simpa using this
  have hst : ∀ z, (r.drop k).head? = some z → z.kind = 1 → z.depth ≠ x.depth := fun z hz e1 e2 => by
    rw [← hkk] at hz
    have := stops _ r z hz
    simp [e1, e2] at this
  have hrd := right_same x.depth k r h2 htk
  refine ⟨h.1.1.1, h.1.1.2, h.1.2, hrd, fun z hz e => ?_, htk⟩
  have h1 := hst z hz e
  have h3 : z.depth ≤ x.depth := by
    cases hdk : r.drop k with
    | nil => rw [hdk] at hz; simp at hz
    | cons a t =>
      rw [hdk] at hz hrd
      obtain rfl : a = z := by simpa using hz
      rw [rightFrom] at hrd
      simp only [Bool.and_eq_true, decide_eq_true_eq] at hrd
      exact hrd.1.1.2
  omega

/-- Texts are not empty, and no two stand side by side at one depth. -/
def Nrm : List Ro → Prop
  | [] => True
  | x :: r => (x.kind = 1 → x.data.toList ≠ [] ∧ ∀ z, r.head? = some z → z.kind = 1 → z.depth ≠ x.depth) ∧ Nrm r
theorem head_text : ∀ (n : Nat) (l : List Ro) (m : Int), l.length ≤ n → rightFrom m l = true → (∀ z, l.head? = some z → z.kind = 1 → z.depth < m) → ∀ z, (normal l).head? = some z → z.kind = 1 → z.depth < m
  | _, [], _, _, _, _, z, hz, _ => by rw [normal_nil] at hz; simp at hz
  | 0, _ :: _, _, h, _, _, _, _, _ => absurd h (by simp)
  | n + 1, x :: r, m, hn, hr, hh, z, hz, hzk => by
    rw [List.length_cons] at hn
    by_cases hk : x.kind = 1
    · have hx := hh x rfl hk
      obtain ⟨h0, h1, h2, h3, h4, _⟩ := group hr hk
      rw [normal_text hk] at hz
      split at hz
      · rw [List.nil_append] at hz
        have := head_text n (r.drop (nexts x.depth r)) x.depth (by rw [List.length_drop]; omega) h3 h4 z hz hzk
        omega
      · rw [List.singleton_append] at hz
        obtain rfl := Option.some.inj hz
        exact hx
    · rw [normal_other hk] at hz
      obtain rfl : x = z := by simpa using hz
      exact absurd hzk hk
theorem nrm_normal : ∀ (n : Nat) (l : List Ro) (m : Int), l.length ≤ n → rightFrom m l = true → Nrm (normal l)
  | _, [], _, _, _ => by rw [normal_nil]; trivial
  | 0, _ :: _, _, h, _ => absurd h (by simp)
  | n + 1, x :: r, m, hn, hr => by
    rw [List.length_cons] at hn
    by_cases hk : x.kind = 1
    · obtain ⟨h0, h1, h2, h3, h4, _⟩ := group hr hk
      have hl : (r.drop (nexts x.depth r)).length ≤ n := by rw [List.length_drop]; omega
      have ih := nrm_normal n (r.drop (nexts x.depth r)) x.depth hl h3
      rw [normal_text hk]
      split
      · rw [List.nil_append]; exact ih
      · rename_i ht
        rw [List.singleton_append]
        refine ⟨fun _ => ⟨?_, fun z hz hzk => ?_⟩, ih⟩
        · rw [toList_B]; exact ht
        · have := head_text n (r.drop (nexts x.depth r)) x.depth hl h3 h4 z hz hzk
          exact fun e => by rw [e] at this; exact absurd this (Int.lt_irrefl _)
    · rw [normal_other hk]
      rw [rightFrom] at hr
      simp only [Bool.and_eq_true] at hr
      exact ⟨fun e => absurd e hk, nrm_normal n r _ (by omega) hr.2⟩
theorem normal_nrm : ∀ (l : List Ro) (m : Int), rightFrom m l = true → Nrm l → normal l = l
  | [], _, _, _ => normal_nil
  | x :: r, m, hr, h => by
    have hr' := hr
    rw [rightFrom] at hr'
    simp only [Bool.and_eq_true] at hr'
    by_cases hk : x.kind = 1
    · obtain ⟨h1, h2⟩ := h.1 hk
      have hn : nexts x.depth r = 0 := by
        cases r with
        | nil => rfl
        | cons y t =>
          unfold nexts
          rw [List.takeWhile_cons, if_neg]
          · rfl
          · intro e
            simp only [Bool.and_eq_true, beq_iff_eq] at e
            exact h2 y rfl e.1 e.2
      have hx := text_form hr'.1.2 hk
      rw [normal_text hk, hn, List.take_zero, List.drop_zero, normal_nrm r _ hr'.2 h.2, txt_text hk, if_neg (by rw [← toList_L]; exact h1), List.singleton_append, B_L, ← hx]
    · rw [normal_other hk, normal_nrm r _ hr'.2 h.2]
theorem check_of {l : List Ro} (h1 : exceeds l 4096 60 = false) (h2 : right l = true) : check l = 0 := by
  unfold check; rw [h1, h2]; rfl
end Go.Proofs.Ytenmlpfjeohkiaa.Ro

namespace Go.Proofs.Ytenmlpfjeohkiaa.Na
set_option maxRecDepth 100000
set_option linter.unusedSimpArgs false
set_option linter.unusedVariables false
open Go.RowKit Ba Fm Fo Nm
theorem void_lit (w : World) (s : ByteArray) :
    Calls Try.prog 37 #[.string s, .slice (some ⟨w.heap.size, 0, none⟩) 14 14] (w.alloc (.cells #[.string ⟨#[97, 114, 101, 97]⟩, .string ⟨#[98, 97, 115, 101]⟩, .string ⟨#[98, 114]⟩, .string ⟨#[99, 111, 108]⟩, .string ⟨#[101, 109, 98, 101, 100]⟩, .string ⟨#[104, 114]⟩, .string ⟨#[105, 109, 103]⟩, .string ⟨#[105, 110, 112, 117, 116]⟩, .string ⟨#[108, 105, 110, 107]⟩, .string ⟨#[109, 101, 116, 97]⟩, .string ⟨#[112, 97, 114, 97, 109]⟩, .string ⟨#[115, 111, 117, 114, 99, 101]⟩, .string ⟨#[116, 114, 97, 99, 107]⟩, .string ⟨#[119, 98, 114]⟩] 9)) fun e w' => e = .returned (.bool (isIn s voidL)) ∧ w.alloc (.cells #[.string ⟨#[97, 114, 101, 97]⟩, .string ⟨#[98, 97, 115, 101]⟩, .string ⟨#[98, 114]⟩, .string ⟨#[99, 111, 108]⟩, .string ⟨#[101, 109, 98, 101, 100]⟩, .string ⟨#[104, 114]⟩, .string ⟨#[105, 109, 103]⟩, .string ⟨#[105, 110, 112, 117, 116]⟩, .string ⟨#[108, 105, 110, 107]⟩, .string ⟨#[109, 101, 116, 97]⟩, .string ⟨#[112, 97, 114, 97, 109]⟩, .string ⟨#[115, 111, 117, 114, 99, 101]⟩, .string ⟨#[116, 114, 97, 99, 107]⟩, .string ⟨#[119, 98, 114]⟩] 9) = w' := amongLit w voidL s (by decide)
set_option maxHeartbeats 1000000 in
theorem void_any (s : ByteArray) (w : World) : Calls Try.prog 36 #[.string s] w fun e w' => e = .returned (.bool (isIn s voidL)) ∧ Below w.heap.size w w' := by
  go_enter Try.func36, Try.ntmps36
  go_wp2_with fail
  refine (void_lit w s).mono ?_
  rintro e w1 ⟨rfl, rfl⟩
  go_wp2
  go_ret
  exact ⟨rfl, below_one w _⟩
theorem block_lit (w : World) (s : ByteArray) :
    Calls Try.prog 37 #[.string s, .slice (some ⟨w.heap.size, 0, none⟩) 38 38] (w.alloc (.cells #[.string ⟨#[97, 100, 100, 114, 101, 115, 115]⟩, .string ⟨#[97, 114, 116, 105, 99, 108, 101]⟩, .string ⟨#[97, 115, 105, 100, 101]⟩, .string ⟨#[98, 108, 111, 99, 107, 113, 117, 111, 116, 101]⟩, .string ⟨#[99, 101, 110, 116, 101, 114]⟩, .string ⟨#[100, 100]⟩, .string ⟨#[100, 101, 116, 97, 105, 108, 115]⟩, .string ⟨#[100, 105, 97, 108, 111, 103]⟩, .string ⟨#[100, 105, 114]⟩, .string ⟨#[100, 105, 118]⟩, .string ⟨#[100, 108]⟩, .string ⟨#[100, 116]⟩, .string ⟨#[102, 105, 101, 108, 100, 115, 101, 116]⟩, .string ⟨#[102, 105, 103, 99, 97, 112, 116, 105, 111, 110]⟩, .string ⟨#[102, 105, 103, 117, 114, 101]⟩, .string ⟨#[102, 111, 111, 116, 101, 114]⟩, .string ⟨#[102, 111, 114, 109]⟩, .string ⟨#[104, 49]⟩, .string ⟨#[104, 50]⟩, .string ⟨#[104, 51]⟩, .string ⟨#[104, 52]⟩, .string ⟨#[104, 53]⟩, .string ⟨#[104, 54]⟩, .string ⟨#[104, 101, 97, 100, 101, 114]⟩, .string ⟨#[104, 103, 114, 111, 117, 112]⟩, .string ⟨#[104, 114]⟩, .string ⟨#[108, 105]⟩, .string ⟨#[109, 97, 105, 110]⟩, .string ⟨#[109, 101, 110, 117]⟩, .string ⟨#[110, 97, 118]⟩, .string ⟨#[111, 108]⟩, .string ⟨#[112]⟩, .string ⟨#[112, 114, 101]⟩, .string ⟨#[115, 101, 99, 116, 105, 111, 110]⟩, .string ⟨#[115, 117, 109, 109, 97, 114, 121]⟩, .string ⟨#[116, 97, 98, 108, 101]⟩, .string ⟨#[117, 108]⟩, .string ⟨#[120, 109, 112]⟩] 9)) fun e w' => e = .returned (.bool (isIn s blockL)) ∧ w.alloc (.cells #[.string ⟨#[97, 100, 100, 114, 101, 115, 115]⟩, .string ⟨#[97, 114, 116, 105, 99, 108, 101]⟩, .string ⟨#[97, 115, 105, 100, 101]⟩, .string ⟨#[98, 108, 111, 99, 107, 113, 117, 111, 116, 101]⟩, .string ⟨#[99, 101, 110, 116, 101, 114]⟩, .string ⟨#[100, 100]⟩, .string ⟨#[100, 101, 116, 97, 105, 108, 115]⟩, .string ⟨#[100, 105, 97, 108, 111, 103]⟩, .string ⟨#[100, 105, 114]⟩, .string ⟨#[100, 105, 118]⟩, .string ⟨#[100, 108]⟩, .string ⟨#[100, 116]⟩, .string ⟨#[102, 105, 101, 108, 100, 115, 101, 116]⟩, .string ⟨#[102, 105, 103, 99, 97, 112, 116, 105, 111, 110]⟩, .string ⟨#[102, 105, 103, 117, 114, 101]⟩, .string ⟨#[102, 111, 111, 116, 101, 114]⟩, .string ⟨#[102, 111, 114, 109]⟩, .string ⟨#[104, 49]⟩, .string ⟨#[104, 50]⟩, .string ⟨#[104, 51]⟩, .string ⟨#[104, 52]⟩, .string ⟨#[104, 53]⟩, .string ⟨#[104, 54]⟩, .string ⟨#[104, 101, 97, 100, 101, 114]⟩, .string ⟨#[104, 103, 114, 111, 117, 112]⟩, .string ⟨#[104, 114]⟩, .string ⟨#[108, 105]⟩, .string ⟨#[109, 97, 105, 110]⟩, .string ⟨#[109, 101, 110, 117]⟩, .string ⟨#[110, 97, 118]⟩, .string ⟨#[111, 108]⟩, .string ⟨#[112]⟩, .string ⟨#[112, 114, 101]⟩, .string ⟨#[115, 101, 99, 116, 105, 111, 110]⟩, .string ⟨#[115, 117, 109, 109, 97, 114, 121]⟩, .string ⟨#[116, 97, 98, 108, 101]⟩, .string ⟨#[117, 108]⟩, .string ⟨#[120, 109, 112]⟩] 9) = w' := amongLit w blockL s (by decide)
set_option maxHeartbeats 1000000 in
theorem block_any (s : ByteArray) (w : World) : Calls Try.prog 78 #[.string s] w fun e w' => e = .returned (.bool (isIn s blockL)) ∧ Below w.heap.size w w' := by
  go_enter Try.func78, Try.ntmps78
  go_wp2_with fail
  refine (block_lit w s).mono ?_
  rintro e w1 ⟨rfl, rfl⟩
  go_wp2
  go_ret
  exact ⟨rfl, below_one w _⟩
theorem gone_lit (w : World) (s : ByteArray) :
    Calls Try.prog 37 #[.string s, .slice (some ⟨w.heap.size, 0, none⟩) 4 4] (w.alloc (.cells #[.string ⟨#[98, 111, 100, 121]⟩, .string ⟨#[102, 114, 97, 109, 101, 115, 101, 116]⟩, .string ⟨#[104, 101, 97, 100]⟩, .string ⟨#[104, 116, 109, 108]⟩] 9)) fun e w' => e = .returned (.bool (isIn s goneL)) ∧ w.alloc (.cells #[.string ⟨#[98, 111, 100, 121]⟩, .string ⟨#[102, 114, 97, 109, 101, 115, 101, 116]⟩, .string ⟨#[104, 101, 97, 100]⟩, .string ⟨#[104, 116, 109, 108]⟩] 9) = w' := amongLit w goneL s (by decide)
set_option maxHeartbeats 1000000 in
theorem gone_any (s : ByteArray) (w : World) : Calls Try.prog 61 #[.string s] w fun e w' => e = .returned (.bool (isIn s goneL)) ∧ Below w.heap.size w w' := by
  go_enter Try.func61, Try.ntmps61
  go_wp2_with fail
  refine (gone_lit w s).mono ?_
  rintro e w1 ⟨rfl, rfl⟩
  go_wp2
  go_ret
  exact ⟨rfl, below_one w _⟩
set_option maxHeartbeats 1000000 in
theorem refVoid_any (w : World) : Calls Try.prog 23 #[] w fun e w' => ∃ v, e = .returned v ∧ Sown w.heap.size w' v voidL ∧ Below w.heap.size w w' := by
  have hs := sown_lit w voidL (by decide)
  go_enter Try.func23, Try.ntmps23
  go_wp2
  go_ret
  exact ⟨_, rfl, hs, below_one w _⟩
end Go.Proofs.Ytenmlpfjeohkiaa.Na

namespace Go.Proofs.Ytenmlpfjeohkiaa.Wr
set_option maxRecDepth 100000
set_option linter.unusedSimpArgs false
set_option linter.unusedVariables false
open Go.RowKit Ba Fm Fo Nm Wm
open Ro (At Ro Cw ros rowO rowV acells len_acells below_new Sh Ra acells_one info_attr range2 range5)
open Tm (bulkA)
open To (Kb Ls Bx app_strk flat2 flat3 flat5 flat_le flat_take bulk_at)
open Rm (dec esc)
/-- append of one byte onto bytes of the call's own: what is kept. -/
theorem app_bytek {ops : Array Oper} {rest : List Oper} {o : Oper} {a : Act} {Q : Exit → Act → World → Prop} (w : World) (hgd : o.guard = none) (s x : Operand)
    (ho : o.op = .call { callee := .builtin .append, args := #[s, x], argTypes := #[47, 47] })
    (N : Nat) (v : Value) (l : List UInt8) (y : UInt8) (hs : a.eval s = v) (hown : OwnB N w v l) (hx : a.eval x = .slice (some ⟨w.heap.size, 0, none⟩) 1 1)
    (hl : l.length + 1 ≤ 140737488355328) (hN : N ≤ w.heap.size)
    (h : ∀ v' w', OwnB N w' v' (l ++ [y]) → Below N w w' → Kb w w' → wpList Try.prog ops Q rest (a.put o.dst v') w') :
    wpList Try.prog ops Q (o :: rest) a (w.alloc (.cells #[.int .u8 y.toNat] 5)) := by
  obtain ⟨i0, hi, hz0, hz1, hz2⟩ := info_parts info_u8
  have hown' : OwnB N (w.alloc (.cells #[.int .u8 y.toNat] 5)) v l := hown.alloc _
  have hsz : (w.alloc (.cells #[.int .u8 y.toNat] 5)).heap.size = w.heap.size + 1 := by simp
  refine wpList_append_own _ hgd s x 47 ho N 5 i0 (.int .u8 0) 1 1 Try.underlying47 hi hz0 hz1 hz2 rfl (by decide) v l.length (l.map bc) hs hown' ⟨w.heap.size, 0, none⟩ 1 1 [.int .u8 y.toNat] hx rfl (cell_one_new _ _ _) (by intro u hu; simp at hu; subst hu; rfl) (by unfold maxLen; omega) (by omega) (by omega) ?_
  intro v' w' ho2 hg2 _
  exact h v' w' (OwnB.appended (m := [y]) ho2 rfl) (hown'.below hg2 ((Below.refl N w).alloc hN _) (by omega)) ((Kb.below (below_new w _)).trans (Kb.grown hown' hg2))

/-- A row in a box. -/
def Rb (w : World) (g : Nat) (x : Cw) : Prop := w.heap[g]? = some (rowO x)
theorem Rb.new (w : World) (x : Cw) : Rb (w.alloc (rowO x)) w.heap.size x := (MapKept.heap_alloc w _).1
theorem Rb.c {w : World} {g : Nat} {x : Cw} (h : Rb w g x) : w.cell? ⟨g, 0, none⟩ = some (.int .i64 x.ro.depth) ∧ w.cell? ⟨g, 1, none⟩ = some (.int .i64 x.ro.kind) ∧ w.cell? ⟨g, 2, none⟩ = some (.string x.ro.name) ∧ w.cell? ⟨g, 3, none⟩ = some (.string x.ro.data) ∧ w.cell? ⟨g, 4, none⟩ = some (.slice x.A x.ro.attrs.length x.c) := by
  refine ⟨?_, ?_, ?_, ?_, ?_⟩
  · rw [cell_of_row w g 0 _ _ _ h]; rfl
  · rw [cell_of_row w g 1 _ _ _ h]; rfl
  · rw [cell_of_row w g 2 _ _ _ h]; rfl
  · rw [cell_of_row w g 3 _ _ _ h]; rfl
  · rw [cell_of_row w g 4 _ _ _ h]; rfl
theorem Rb.kb {w w' : World} {g : Nat} {x : Cw} (h : Rb w g x) (k : Kb w w') : Rb w' g x := (k.2 g _ _ _ h (by decide)).trans h
theorem Rb.lt {w : World} {g : Nat} {x : Cw} (h : Rb w g x) : g < w.heap.size := (Array.getElem?_eq_some_iff.1 h).1
theorem kb_alloc (w : World) (o : Obj) : Kb w (w.alloc o) := Kb.below (below_new w o)
theorem bx_kb {w w' : World} {g : Nat} {x y : ByteArray} (h : Bx w g x y) (k : Kb w w') : Bx w' g x y := (k.2 g _ _ _ h (by decide)).trans h

set_option maxRecDepth 100000 in
set_option maxHeartbeats 2000000 in
theorem appendAll_any (N g c : Nat) (v : Value) (acc : List UInt8) (l : List ByteArray) (w : World) (ho : OwnB N w v acc) (hN : N ≤ w.heap.size) (hg : Ls w g l) (hl : l.length ≤ 100) (hz : acc.length + (l.flatMap L).length ≤ 140737488355328) :
    Calls Try.prog 30 #[v, .slice (some ⟨g, 0, none⟩) l.length c] w fun e w' => ∃ v', e = .returned v' ∧ OwnB N w' v' (acc ++ l.flatMap L) ∧ Below N w w' ∧ Kb w w' := by
  go_enter Try.func30, Try.ntmps30
  go_wp2
  go_loopw [0, 9] (fun u i wr => ∃ k : Nat, i = .int .i64 k ∧ k ≤ l.length ∧ OwnB N wr u (acc ++ (l.take k).flatMap L) ∧ Below N w wr ∧ Kb w wr) (fun _ i _ => l.length - (intOf i).toNat)
  case atStart => exact ⟨0, rfl, Nat.zero_le _, by simpa using ho, Below.refl _ _, Kb.refl _⟩
  case round =>
    obtain ⟨k, rfl, hk, hown, hb, hkb⟩ := hrel
    by_cases hp : k < l.length
    · have hcell := (hg.kb hkb).cell k hp
      have hle := flat_le l k hp
      have hft := flat_take l k hp
      have hlen : (acc ++ (l.take k).flatMap L).length + l[k].size ≤ 140737488355328 := by rw [List.length_append]; omega
      have hNr : N ≤ wr.heap.size := Nat.le_trans hN hb.size
      have HO := Lib.hid hown; have HB := Lib.hid hb; have HK := Lib.hid hkb; have HF := Lib.hid hft; clear hown hb hkb hft hle
      go_wp2_with (at_builtin; refine app_strk wr rfl (.tmp 13) (.tmp 14) rfl N _ _ l[k] rfl HO.out rfl hlen hNr ?_; intro v4 w4 hown4 hb4 hk4)
      go_roundw
      case rel => exact ⟨k + 1, by go_num, by omega, by rw [HF.out, ← List.append_assoc]; exact hown4, HB.out.trans hb4, HK.out.trans hk4⟩
      case measure => simp [intOf]; omega
    · rw [List.take_of_length_le (by omega)] at hown
      have HO := Lib.hid hown; have HB := Lib.hid hb; have HK := Lib.hid hkb; clear hown hb hkb
      go_wp2
      go_ret
      exact ⟨_, rfl, HO.out, HB.out, HK.out⟩
theorem appendAll1 (N g c n : Nat) (v : Value) (acc out : List UInt8) (l : List ByteArray) (w : World) (ho : OwnB N w v acc) (hN : N ≤ w.heap.size) (hg : Ls w g l) (hl : l.length ≤ 100) (hz : acc.length + (l.flatMap L).length ≤ 140737488355328) (hn : l.length = n) (hout : l.flatMap L = out) :
    Calls Try.prog 30 #[v, .slice (some ⟨g, 0, none⟩) n c] w fun e w' => ∃ v', e = .returned v' ∧ OwnB N w' v' (acc ++ out) ∧ Below N w w' ∧ Kb w w' := by
  subst hn hout
  exact appendAll_any N g c v acc l w ho hN hg hl hz
theorem lit_app3 (N : Nat) (u : Value) (AC : List UInt8) (t1 t2 t3 : ByteArray) (wr : World) (ho : OwnB N wr u AC) (hN : N ≤ wr.heap.size) (hlen : AC.length + (t1.size + (t2.size + t3.size)) ≤ 140737488355328) :
    Calls Try.prog 30 #[u, .slice (some ⟨wr.heap.size, 0, none⟩) 3 3] (wr.alloc (.cells #[.string t1, .string t2, .string t3] 9)) fun e w' => ∃ v', e = .returned v' ∧ OwnB N w' v' (AC ++ (L t1 ++ (L t2 ++ L t3))) ∧ Below N wr w' ∧ Kb wr w' := by
  refine (appendAll1 N wr.heap.size 3 3 u AC (L t1 ++ (L t2 ++ L t3)) [t1, t2, t3] _ (ho.alloc _) (by simp; omega) (Ls.new wr [t1, t2, t3]) (by simp) (by rw [flat3, List.length_append, List.length_append, size_L, size_L, size_L]; exact hlen) rfl (flat3 _ _ _)).mono ?_
  rintro e w6 ⟨v6, he, ho6, hb6, hk6⟩
  exact ⟨v6, he, ho6, ((Below.refl N wr).alloc hN _).trans hb6, (kb_alloc wr _).trans hk6⟩
theorem attr_app (N : Nat) (u : Value) (AC : List UInt8) (y : At) (wr w4 : World) (ho : OwnB N wr u AC) (hN : N ≤ wr.heap.size)
    (hb : Below (wr.alloc (.cells #[.string y.name, .string y.value] 41)).drew.heap.size (wr.alloc (.cells #[.string y.name, .string y.value] 41)).drew w4) (hlen : AC.length + (wA y).length ≤ 140737488355328) :
    Calls Try.prog 30 #[u, .slice (some ⟨w4.heap.size, 0, none⟩) 5 5] (w4.alloc (.cells #[.string ⟨#[32]⟩, .string y.name, .string ⟨#[61, 34]⟩, .string (B (esc true (L y.value))), .string ⟨#[34]⟩] 9)) fun e w' => ∃ v', e = .returned v' ∧ OwnB N w' v' (AC ++ wA y) ∧ Below N wr w' ∧ Kb wr w' ∧ Bx w' wr.heap.size y.name y.value := by
  have hx4 := (show Bx (wr.alloc (.cells #[.string y.name, .string y.value] 41)).drew wr.heap.size y.name y.value from Bx.new wr y.name y.value).below hb
  have hb4 : Below wr.heap.size wr w4 := bt (below_new wr _) ⟨hb.os, hb.tape, hb.output, hb.size, hb.block⟩
  have hn4 : N ≤ w4.heap.size := Nat.le_trans hN hb4.size
  have hls := Ls.new w4 [⟨#[32]⟩, y.name, ⟨#[61, 34]⟩, B (esc true (L y.value)), ⟨#[34]⟩]
  have hfl : [⟨#[32]⟩, y.name, ⟨#[61, 34]⟩, B (esc true (L y.value)), ⟨#[34]⟩].flatMap L = wA y := by
    rw [flat5, L_B]; rfl
  refine (appendAll1 N w4.heap.size 5 5 u AC (wA y) [⟨#[32]⟩, y.name, ⟨#[61, 34]⟩, B (esc true (L y.value)), ⟨#[34]⟩] _ ((OwnB.keep ho hb4).alloc _) (by simp; omega) hls (by simp) (by rw [hfl]; exact hlen) rfl hfl).mono ?_
  rintro e w6 ⟨v6, he, ho6, hb6, hk6⟩
  refine ⟨v6, he, ho6, (hb4.mono hN).trans (((Below.refl N w4).alloc hn4 _).trans hb6), (Kb.below hb4).trans ((kb_alloc w4 _).trans hk6), bx_kb (hx4.below (below_new w4 _)) hk6⟩

/-- The bytes of a row. -/
def rb (x : Ro) : Nat := x.name.size + x.data.size + bulkA x.attrs + x.attrs.length
theorem sum_le (l : List At) (k : Nat) (h : k < l.length) : ((l.take k).flatMap wA).length + (wA l[k]).length ≤ (l.flatMap wA).length := by
  have e : l.flatMap wA = (l.take (k + 1)).flatMap wA ++ (l.drop (k + 1)).flatMap wA := by rw [← List.flatMap_append, List.take_append_drop]
  rw [e, List.take_succ_eq_append_getElem h, List.flatMap_append, List.length_append, List.length_append]
  simp
theorem attr_take (l : List At) (k : Nat) (h : k < l.length) : (l.take (k + 1)).flatMap wA = (l.take k).flatMap wA ++ wA l[k] := by
  rw [List.take_succ_eq_append_getElem h, List.flatMap_append]
  simp
theorem len_wAs (l : List At) : (l.flatMap wA).length ≤ 6 * bulkA l + 4 * l.length := Tm.len_wAttrs l

set_option maxRecDepth 100000 in
set_option maxHeartbeats 4000000 in
theorem appendTag_any (N M : Nat) (v : Value) (acc : List UInt8) (x : Cw) (w : World) (ho : OwnB N w v acc) (hN : N ≤ w.heap.size) (hx : Ro.Att w M x) (hM : M ≤ N) (hk : rb x.ro ≤ 10000000) (hz : acc.length ≤ 70000000000000) :
    Calls Try.prog 38 #[v, rowV x] w fun e w' => ∃ v', e = .returned v' ∧ OwnB N w' v' (acc ++ tagW x.ro) ∧ Below N w w' ∧ Kb w w' := by
  have hk1 : x.ro.name.size ≤ 10000000 := by unfold rb at hk; omega
  have hk2 : bulkA x.ro.attrs ≤ 10000000 := by unfold rb at hk; omega
  have hk3 : x.ro.attrs.length ≤ 10000000 := by unfold rb at hk; omega
  have hk4 := len_wAs x.ro.attrs
  have hacc : acc.length + (1 + x.ro.name.size) ≤ 140737488355328 := by omega
  have hz1 : (w.alloc (rowO x)).heap.size = w.heap.size + 1 := by simp
  have hls : Ls ((w.alloc (rowO x)).alloc (.cells #[.string ⟨#[60]⟩, .string x.ro.name] 9)) (w.heap.size + 1) [⟨#[60]⟩, x.ro.name] := hz1 ▸ Ls.new (w.alloc (rowO x)) [⟨#[60]⟩, x.ro.name]
  have hNa : N ≤ ((w.alloc (rowO x)).alloc (.cells #[.string ⟨#[60]⟩, .string x.ro.name] 9)).heap.size := by simp; omega
  have hba : Below N w ((w.alloc (rowO x)).alloc (.cells #[.string ⟨#[60]⟩, .string x.ro.name] 9)) := ((Below.refl N w).alloc hN _).alloc (by rw [hz1]; omega) _
  have hka : Kb w ((w.alloc (rowO x)).alloc (.cells #[.string ⟨#[60]⟩, .string x.ro.name] 9)) := (kb_alloc w _).trans (kb_alloc _ _)
  have hta : Rb ((w.alloc (rowO x)).alloc (.cells #[.string ⟨#[60]⟩, .string x.ro.name] 9)) w.heap.size x := (Rb.new w x).kb (kb_alloc _ _)
  have HLS := Lib.hid hls; have HNA := Lib.hid hNa; have HBA := Lib.hid hba; have HKA := Lib.hid hka; have HTA := Lib.hid hta; have HO := Lib.hid ho; have HX := Lib.hid hx
  clear hz1 hls hNa hba hka hta ho hx
  go_enter Try.func38, Try.ntmps38
  go_wp2_with fail
  refine (appendAll1 N (w.heap.size + 1) 2 2 v acc ([60] ++ L x.ro.name) [⟨#[60]⟩, x.ro.name] _ ((HO.out.alloc _).alloc _) HNA.out HLS.out (by simp) (by rw [flat2, List.length_append, size_L, size_L]; exact hacc) rfl (by rw [flat2])).mono ?_
  rintro e w2 ⟨v2, rfl, ho2, hb2, hk2'⟩
  obtain ⟨g, hg⟩ : ∃ g, w.heap.size = g := ⟨_, rfl⟩
  have ht2 := HTA.out.kb hk2'
  have hB2 := HBA.out.trans hb2
  have hK2 := HKA.out.trans hk2'
  rw [hg] at ht2 ⊢
  obtain ⟨c0, c1, c2, c3, c4⟩ := ht2.c
  have HG := Lib.hid hg
  clear hb2 hk2' hg HLS HNA HBA HKA HTA HO c0 c1 c2 c3
  have HO2 := Lib.hid ho2; have HB2 := Lib.hid hB2; have HK2 := Lib.hid hK2; have HT2 := Lib.hid ht2; clear ho2 hB2 hK2 ht2
  have hra := HX.out.2.2.2.1
  have HRA := Lib.hid (Ro.Ra.more hra hM); clear hra
  go_wp2
  clear c4
  go_loopw [0, 15] (fun u i wr => ∃ k : Nat, i = .int .i64 k ∧ k ≤ x.ro.attrs.length ∧ OwnB N wr u ((acc ++ ([60] ++ L x.ro.name)) ++ (x.ro.attrs.take k).flatMap wA) ∧ Below N w wr ∧ Kb w wr) (fun _ i _ => x.ro.attrs.length - (intOf i).toNat)
  case atStart => exact ⟨0, rfl, Nat.zero_le _, by simpa using HO2.out, HB2.out, HK2.out⟩
  case round =>
    obtain ⟨k, rfl, hk, hown, hb, hkb⟩ := hrel
    by_cases hp : k < x.ro.attrs.length
    · obtain ⟨b0, off0, y, hA, hb0, hdy, hry, hym⟩ := Ro.Ra.at_ (Ro.Ra.below HRA.out hb) k hp
      rw [hA]
      have hy : x.ro.attrs[k] = y := by
        rw [List.drop_eq_getElem_cons hp] at hdy
        injection hdy
      obtain ⟨f0, f1⟩ := range2 hry
      have hsl := sum_le x.ro.attrs k hp
      have hat := attr_take x.ro.attrs k hp
      have hbk := bulk_at x.ro.attrs k hp
      rw [hy] at hsl hat hbk
      obtain ⟨AC, hAC⟩ : ∃ AC, (acc ++ ([60] ++ L x.ro.name)) ++ (x.ro.attrs.take k).flatMap wA = AC := ⟨_, rfl⟩
      have hlen : AC.length + (wA y).length ≤ 140737488355328 := by
        rw [← hAC]
        simp only [List.length_append, List.length_cons, List.length_nil, size_L]
        omega
      rw [hAC] at hown
      have hys : y.value.size ≤ 10000000 := by omega
      have hNr : N ≤ wr.heap.size := Nat.le_trans hN hb.size
      have HO := Lib.hid hown; have HB := Lib.hid hb; have HK := Lib.hid hkb; have HAT := Lib.hid hat; have HAC := Lib.hid hAC
      have hbx := Bx.new wr y.name y.value
      have HBX := Lib.hid hbx
      clear hown hb hkb hat hdy hry hym hy hsl hbk hAC hbx hk4 hacc hk1 hk2
      go_upto_region 5 with (fail)
      go_region_held3 (fun w' => w'.cell? ⟨wr.heap.size, 0, none⟩ = some (.string y.name) ∧ w'.cell? ⟨wr.heap.size, 1, none⟩ = some (.string y.value)) (first | exact ⟨e0, e1⟩ | exact ⟨d0, d1⟩ | go_keep) (first
        | (go_at_call 30; refine (attr_app N _ AC y wr w4 HO.out hNr HB4.out hlen).mono ?_; rintro e w6 ⟨v6, rfl, ho6, hb6, hk6, hx6⟩; have e0 := hx6.c0; have e1 := hx6.c1; have HO6 := Lib.hid ho6; have HB6 := Lib.hid hb6; have HK6 := Lib.hid hk6; clear ho6 hb6 hk6 hx6)
        | (go_at_call 55; refine (Re.valueOf_any y.value (wr.alloc (.cells #[.string y.name, .string y.value] 41)).drew hys).mono ?_; rintro e w4 ⟨rfl, hb4⟩; have hx4 := (show Bx (wr.alloc (.cells #[.string y.name, .string y.value] 41)).drew wr.heap.size y.name y.value from HBX.out).below hb4; have d0 := hx4.c0; have d1 := hx4.c1; have HX4 := Lib.hid hx4; have HB4 := Lib.hid hb4; clear hx4 hb4))
      go_wp2
      go_roundw
      case rel =>
        have hK2 := HK.out.trans HK6.out
        refine ⟨k + 1, by go_num, by omega, ?_, HB.out.trans HB6.out, hK2⟩
        rw [HAT.out, ← List.append_assoc, HAC.out]
        exact HO6.out
      case measure => simp [intOf]; omega
    · rw [List.take_of_length_le (by omega)] at hown
      have hNr : N ≤ wr.heap.size := Nat.le_trans hN hb.size
      obtain ⟨AC, hAC⟩ : ∃ AC, (acc ++ ([60] ++ L x.ro.name)) ++ x.ro.attrs.flatMap wA = AC := ⟨_, rfl⟩
      have hlen : AC.length + 1 ≤ 140737488355328 := by
        rw [← hAC]
        simp only [List.length_append, List.length_cons, List.length_nil, size_L]
        omega
      rw [hAC] at hown
      have hfin : acc ++ tagW x.ro = AC ++ [62] := by rw [← hAC]; unfold tagW; simp only [List.append_assoc]
      have HO := Lib.hid hown; have HB := Lib.hid hb; have HK := Lib.hid hkb; have HF := Lib.hid hfin; clear hown hb hkb hAC hfin
      go_wp2_with (at_builtin; refine app_bytek wr rfl (.tmp 28) (.tmp 29) rfl N _ AC 62 rfl HO.out rfl hlen hNr ?_; intro v4 w4 hown4 hb4 hk4')
      go_ret
      exact ⟨v4, rfl, by rw [HF.out]; exact hown4, HB.out.trans hb4, HK.out.trans hk4'⟩

theorem holds_any (x : Cw) (w : World) :
    Calls Try.prog 25 #[rowV x] w fun e w' => e = .returned (.bool (holds x.ro)) ∧ Below w.heap.size w w' := by
  have hb1 := below_new w (rowO x)
  have ht1 := Rb.new w x
  obtain ⟨c0, c1, c2, c3, c4⟩ := ht1.c
  have HB1 := Lib.hid hb1
  clear hb1 ht1
  cases hk : x.ro.kind == 0 with
  | false =>
    have HH := Lib.hid (show holds x.ro = false by unfold holds; rw [hk]; rfl)
    go_enter Try.func25, Try.ntmps25
    go_wp2
    go_ret
    rw [HH.out]
    exact ⟨rfl, HB1.out⟩
  | true =>
    have HH := Lib.hid (show holds x.ro = !isIn x.ro.name voidL by unfold holds; rw [hk]; rfl)
    go_enter Try.func25, Try.ntmps25
    go_wp2_with fail
    refine (Na.void_any _ _).mono ?_
    rintro e w2 ⟨rfl, b2⟩
    have HB2 := Lib.hid (bt HB1.out b2)
    clear b2
    go_wp2
    go_ret
    rw [HH.out]
    exact ⟨rfl, HB2.out⟩

end Go.Proofs.Ytenmlpfjeohkiaa.Wr

namespace Go.Proofs.Ytenmlpfjeohkiaa.Wr
set_option maxRecDepth 100000
set_option linter.unusedSimpArgs false
set_option linter.unusedVariables false
open Go.RowKit Ba Fm Fo Nm Wm
open Ro (At Ro Cw ros rowO rowV acells len_acells below_new Sh Ra acells_one info_attr range2 range5)
open Tm (bulkA)
open To (Kb Ls Bx app_strk flat2 flat3 flat5 flat_le flat_take bulk_at)
open Rm (dec esc)
set_option maxRecDepth 100000 in
set_option maxHeartbeats 1000000 in
theorem appendNode_any (N M : Nat) (v : Value) (acc : List UInt8) (x : Cw) (raw : Bool) (w : World) (ho : OwnB N w v acc) (hN : N ≤ w.heap.size) (hx : Ro.Att w M x) (hM : M ≤ N) (hk : rb x.ro ≤ 10000000) (hz : acc.length ≤ 70000000000000) :
    Calls Try.prog 28 #[v, rowV x, .bool raw] w fun e w' => ∃ v', e = .returned v' ∧ OwnB N w' v' (acc ++ node raw x.ro) ∧ Below N w w' ∧ Kb w w' := by
  have hds : x.ro.data.size ≤ 10000000 := by unfold rb at hk; omega
  have hel := (Rm.len_esc false (L x.ro.data)).2.1
  rw [size_L] at hel
  have hz1 : (w.alloc (rowO x)).heap.size = w.heap.size + 1 := by simp
  have hN1 : N ≤ (w.alloc (rowO x)).heap.size := by omega
  have ho1 : OwnB N (w.alloc (rowO x)) v acc := ho.alloc _
  have hB1 : Below N w (w.alloc (rowO x)) := (Below.refl N w).alloc hN _
  have hK1 := kb_alloc w (rowO x)
  have hx1 : Ro.Att (w.alloc (rowO x)) M x := hx.below hB1 hM
  obtain ⟨c0, c1, c2, c3, c4⟩ := (Rb.new w x).c
  have HO := Lib.hid ho1; have HB := Lib.hid hB1; have HK := Lib.hid hK1; have HX := Lib.hid hx1
  clear ho1 hB1 hK1 hx1 hz1 hx ho
  by_cases h0 : x.ro.kind = 0
  · have g0 : (x.ro.kind == 0) = true := beq_iff_eq.2 h0
    have HN := Lib.hid (show node raw x.ro = tagW x.ro by unfold node; rw [if_pos h0])
    clear h0
    go_enter Try.func28, Try.ntmps28
    go_wp2_with fail
    refine (appendTag_any N M v acc x (w.alloc (rowO x)) HO.out hN1 HX.out hM hk hz).mono ?_
    rintro e w2 ⟨v2, rfl, ho2, hb2, hk2⟩
    have HO2 := Lib.hid ho2; have HB2 := Lib.hid (HB.out.trans hb2); have HK2 := Lib.hid (HK.out.trans hk2)
    clear ho2 hb2 hk2
    go_wp2
    go_ret
    exact ⟨v2, rfl, by rw [HN.out]; exact HO2.out, HB2.out, HK2.out⟩
  have g0 : (x.ro.kind == 0) = false := beq_eq_false_iff_ne.2 h0
  by_cases h1 : x.ro.kind = 1
  · have g1 : (x.ro.kind == 1) = true := beq_iff_eq.2 h1
    cases raw with
    | true =>
      have HN := Lib.hid (show node true x.ro = L x.ro.data by unfold node; rw [if_neg h0, if_pos h1, if_pos rfl])
      clear h0 h1
      go_enter Try.func28, Try.ntmps28
      go_wp2_with (at_builtin; refine app_strk (w.alloc (rowO x)) rfl (.tmp 17) (.tmp 19) rfl N _ acc x.ro.data rfl HO.out rfl (by omega) hN1 ?_; intro v4 w4 hown4 hb4 hk4)
      go_ret
      exact ⟨v4, rfl, by rw [HN.out]; exact hown4, HB.out.trans hb4, HK.out.trans hk4⟩
    | false =>
      have HN := Lib.hid (show node false x.ro = esc false (L x.ro.data) by unfold node; rw [if_neg h0, if_pos h1, if_neg (by simp)])
      clear h0 h1
      go_enter Try.func28, Try.ntmps28
      go_wp2_with fail
      refine (Re.text_any x.ro.data (w.alloc (rowO x)) hds).mono ?_
      rintro e w2 ⟨rfl, b2⟩
      have HO2 := Lib.hid (OwnB.keep HO.out b2); have HB2 := Lib.hid (HB.out.trans (b2.mono hN1)); have HK2 := Lib.hid (HK.out.trans (Kb.below b2))
      have hN2 : N ≤ w2.heap.size := Nat.le_trans hN1 b2.size
      clear b2
      go_wp2_with (at_builtin; refine app_strk w2 rfl (.tmp 21) (.tmp 24) rfl N _ acc (B (esc false (L x.ro.data))) rfl HO2.out rfl (by rw [size_B]; omega) hN2 ?_; intro v4 w4 hown4 hb4 hk4)
      rw [L_B] at hown4
      go_ret
      exact ⟨v4, rfl, by rw [HN.out]; exact hown4, HB2.out.trans hb4, HK2.out.trans hk4⟩
  have g1 : (x.ro.kind == 1) = false := beq_eq_false_iff_ne.2 h1
  by_cases h2 : x.ro.kind = 2
  · have g2 : (x.ro.kind == 2) = true := beq_iff_eq.2 h2
    have HN := Lib.hid (show node raw x.ro = L ⟨#[60, 33, 45, 45]⟩ ++ (L x.ro.data ++ L ⟨#[45, 45, 62]⟩) by unfold node; rw [if_neg h0, if_neg h1, if_pos h2, List.append_assoc])
    clear h0 h1 h2
    go_enter Try.func28, Try.ntmps28
    go_wp2_with fail
    rw [← show (w.alloc (rowO x)).heap.size = w.heap.size + 1 from by simp]
    refine (lit_app3 N v acc ⟨#[60, 33, 45, 45]⟩ x.ro.data ⟨#[45, 45, 62]⟩ (w.alloc (rowO x)) HO.out hN1 (by show acc.length + (4 + (_ + 3)) ≤ _; omega)).mono ?_
    rintro e w2 ⟨v2, rfl, ho2, hb2, hk2⟩
    rw [← HN.out] at ho2
    have HO2 := Lib.hid ho2; have HB2 := Lib.hid (HB.out.trans hb2); have HK2 := Lib.hid (HK.out.trans hk2)
    clear ho2 hb2 hk2
    go_wp2
    go_ret
    exact ⟨v2, rfl, HO2.out, HB2.out, HK2.out⟩
  · have g2 : (x.ro.kind == 2) = false := beq_eq_false_iff_ne.2 h2
    have HN := Lib.hid (show node raw x.ro = [] by unfold node; rw [if_neg h0, if_neg h1, if_neg h2])
    clear h0 h1 h2
    go_enter Try.func28, Try.ntmps28
    go_wp2
    go_ret
    exact ⟨v, rfl, by rw [HN.out, List.append_nil]; exact HO.out, HB.out, HK.out⟩

end Go.Proofs.Ytenmlpfjeohkiaa.Wr

namespace Go.Proofs.Ytenmlpfjeohkiaa.Wr
set_option linter.unusedSimpArgs false
set_option linter.unusedVariables false
open Go.RowKit Ba Fm Fo Nm Wm
open Ro (At Ro Cw ros rowO rowV below_new range5)
open To (Kb)
/-- All blocks are kept that hold neither bytes nor a slice of them. -/
def K2 (w w' : World) : Prop := w.heap.size ≤ w'.heap.size ∧ ∀ (i : Nat) (cs : Array Value) (t : TypeId) (fr : Nat × Nat), w.heap[i]? = some (.cells cs t fr) → t ≠ 5 → t ≠ 47 → w'.heap[i]? = w.heap[i]?
theorem K2.refl (w : World) : K2 w w := ⟨Nat.le_refl _, fun _ _ _ _ _ _ _ => rfl⟩
theorem K2.trans {a b c : World} (h : K2 a b) (k : K2 b c) : K2 a c := ⟨Nat.le_trans h.1 k.1, fun i cs t fr hi ht hu => by
  have h1 := h.2 i cs t fr hi ht hu
  exact (k.2 i cs t fr (h1.trans hi) ht hu).trans h1⟩
theorem K2.kb {w w' : World} (h : Kb w w') : K2 w w' := ⟨h.1, fun i cs t fr hi ht _ => h.2 i cs t fr hi ht⟩
theorem K2.below {w w' : World} (h : Below w.heap.size w w') : K2 w w' := K2.kb (Kb.below h)
theorem grown_set (w : World) (b j : Nat) (u : Value) : w.grownBy (w.setCell ⟨b, j, none⟩ u) (some b) :=
  ⟨rfl, rfl, rfl, by simp [World.setCell], fun k _ hk => Below.heap_setCell _ _ _ _ (fun e => hk (by simp [e]))⟩
theorem K2.set {w : World} {b : Nat} {cs : Array Value} {fr : Nat × Nat} (h : w.heap[b]? = some (.cells cs 47 fr)) (u : Value) : K2 w (w.setCell ⟨b, 0, none⟩ u) :=
  ⟨(grown_set w b 0 u).size, fun i cs' t fr' hi _ hu => (grown_set w b 0 u).block i (Array.getElem?_eq_some_iff.1 hi).1 fun e => by
    injection e with e
    subst e
    rw [h] at hi
    injection hi with hi
    injection hi with _ h2
    exact hu h2.symm⟩
theorem Rb.k2 {w w' : World} {g : Nat} {x : Cw} (h : Rb w g x) (k : K2 w w') : Rb w' g x := (k.2 g _ _ _ h (by decide) (by decide)).trans h

/-- The closure, as a value. -/
abbrev Fv (bl bo bk : Nat) : Value := .func (.func 26) #[] #[.pointer (some ⟨bl, 0, none⟩), .pointer (some ⟨bo, 0, none⟩), .pointer (some ⟨bk, 0, none⟩)]
/-- What the closure goes by: the rows, what is written so far, itself. -/
structure Cl (N : Nat) (w : World) (bl bo bk : Nat) (A : Option Addr) (c : Nat) (l : List Cw) (acc : List UInt8) : Prop where
  l_ : w.heap[bl]? = some (.cells #[.slice A l.length c] 22)
  o_ : ∃ vo, w.heap[bo]? = some (.cells #[vo] 47) ∧ OwnB N w vo acc
  k_ : w.heap[bk]? = some (.cells #[Fv bl bo bk] 48)
  rows : Ro.Rr w N A l
  base : N ≤ bo
  cap : l.length ≤ c
section
variable {N bl bo bk c : Nat} {A : Option Addr} {l : List Cw} {acc acc' : List UInt8} {w w1 : World}
theorem Cl.size (h : Cl N w bl bo bk A c l acc) : N ≤ w.heap.size := by
  obtain ⟨vo, ho, _⟩ := h.o_
  exact Nat.le_trans h.base (Nat.le_of_lt (Array.getElem?_eq_some_iff.1 ho).1)
theorem Cl.below (h : Cl N w bl bo bk A c l acc) (hb : Below w.heap.size w w1) : Cl N w1 bl bo bk A c l acc := by
  obtain ⟨vo, ho, hown⟩ := h.o_
  exact ⟨(hb.block _ (Array.getElem?_eq_some_iff.1 h.l_).1).trans h.l_, ⟨vo, (hb.block _ (Array.getElem?_eq_some_iff.1 ho).1).trans ho, OwnB.keep hown hb⟩, (hb.block _ (Array.getElem?_eq_some_iff.1 h.k_).1).trans h.k_, h.rows.below hb h.size, h.base, h.cap⟩
theorem Cl.cl (h : Cl N w bl bo bk A c l acc) : w.cell? ⟨bl, 0, none⟩ = some (.slice A l.length c) := by rw [cell_of_row w bl 0 _ _ _ h.l_]; rfl
theorem Cl.ck (h : Cl N w bl bo bk A c l acc) : w.cell? ⟨bk, 0, none⟩ = some (Fv bl bo bk) := by rw [cell_of_row w bk 0 _ _ _ h.k_]; rfl
theorem Cl.co (h : Cl N w bl bo bk A c l acc) : ∃ vo, w.cell? ⟨bo, 0, none⟩ = some vo ∧ OwnB N w vo acc := by
  obtain ⟨vo, ho, hown⟩ := h.o_
  exact ⟨vo, by rw [cell_of_row w bo 0 _ _ _ ho]; rfl, hown⟩
/-- What a callee has left that wrote bytes: the slice's variable is there to be written over. -/
theorem Cl.mid (h : Cl N w bl bo bk A c l acc) (hk : Kb w w1) : (∃ u, w1.cell? ⟨bo, 0, none⟩ = some u) ∧ w1.frozen? ⟨bo, 0, none⟩ = false := by
  obtain ⟨vo, ho, _⟩ := h.o_
  have h1 := (hk.2 bo _ _ _ ho (by decide)).trans ho
  exact ⟨⟨vo, by rw [cell_of_row w1 bo 0 _ _ _ h1]; rfl⟩, by simp [World.frozen?, h1]⟩
theorem Cl.put (h : Cl N w bl bo bk A c l acc) (hb : Below N w w1) (hk : Kb w w1) {v : Value} (ho : OwnB N w1 v acc') :
    Cl N (w1.setCell ⟨bo, 0, none⟩ v) bl bo bk A c l acc' ∧ Below N w (w1.setCell ⟨bo, 0, none⟩ v) ∧ K2 w (w1.setCell ⟨bo, 0, none⟩ v) := by
  obtain ⟨vo, ho0, _⟩ := h.o_
  have h1 := (hk.2 bo _ _ _ ho0 (by decide)).trans ho0
  have hg := grown_set w1 bo 0 v
  have hbw : Below N w (w1.setCell ⟨bo, 0, none⟩ v) := hb.setCell h.base v
  have hk2 : K2 w (w1.setCell ⟨bo, 0, none⟩ v) := (K2.kb hk).trans (K2.set h1 v)
  refine ⟨⟨(hk2.2 bl _ _ _ h.l_ (by decide) (by decide)).trans h.l_, ⟨v, ?_, ?_⟩, (hk2.2 bk _ _ _ h.k_ (by decide) (by decide)).trans h.k_, h.rows.below hbw (Nat.le_refl _), h.base, h.cap⟩, hbw, hk2⟩
  · simp [World.setCell, Array.getElem?_modify, h1]
  · exact World.ownsRow.kept ho hg (.inr (To.own_ne ho h1 (by decide)))
end

/-- What stands from a place on, deeper than this. -/
def rest (l : List Ro) (D : Int) (s : Nat) : List Ro := (l.drop s).takeWhile (deep D)
theorem tw_tw {α : Type} (p q : α → Bool) (h : ∀ x, p x = true → q x = true) : ∀ l : List α, (l.takeWhile q).takeWhile p = l.takeWhile p
  | [] => rfl
  | a :: l => by
    cases hq : q a with
    | true => rw [List.takeWhile_cons, if_pos hq, List.takeWhile_cons, List.takeWhile_cons, tw_tw p q h l]
    | false =>
      have hp : p a = false := by cases hp : p a with | false => rfl | true => rw [h a hp] at hq; cases hq
      rw [List.takeWhile_cons, if_neg (by rw [hq]; simp), List.takeWhile_cons, if_neg (by rw [hp]; simp)]; rfl
theorem dw_tw {α : Type} (p q : α → Bool) (h : ∀ x, p x = true → q x = true) : ∀ l : List α, (l.takeWhile q).dropWhile p = (l.dropWhile p).takeWhile q
  | [] => rfl
  | a :: l => by
    cases hp : p a with
    | true => rw [List.takeWhile_cons, if_pos (h a hp), List.dropWhile_cons, if_pos hp, List.dropWhile_cons, if_pos hp, dw_tw p q h l]
    | false =>
      rw [List.dropWhile_cons (p := p) (x := a) (xs := l), if_neg (by rw [hp]; simp)]
      cases hq : q a with
      | true => rw [List.takeWhile_cons, if_pos hq, List.dropWhile_cons, if_neg (by rw [hp]; simp)]
      | false => rw [List.takeWhile_cons, if_neg (by rw [hq]; simp)]; rfl
theorem dw_drop {α : Type} (p : α → Bool) : ∀ l : List α, l.dropWhile p = l.drop (l.takeWhile p).length
  | [] => rfl
  | a :: l => by
    cases hp : p a with
    | true => rw [List.dropWhile_cons, if_pos hp, List.takeWhile_cons, if_pos hp, List.length_cons, List.drop_succ_cons, dw_drop p l]
    | false => rw [List.dropWhile_cons, if_neg (by rw [hp]; simp), List.takeWhile_cons, if_neg (by rw [hp]; simp)]; rfl
theorem rest_stop {l : List Ro} {D : Int} {s : Nat} (h : ∀ x, l[s]? = some x → ¬ D < x.depth) : rest l D s = [] := by
  unfold rest
  cases hd : l.drop s with
  | nil => rfl
  | cons x r =>
    have hx : l[s]? = some x := by
      have := congrArg List.head? hd
      rw [List.head?_drop] at this
      exact this
    rw [List.takeWhile_cons, if_neg (by unfold deep; simpa using h x hx)]
theorem rest_go {l : List Ro} {D : Int} {s : Nat} {x : Ro} (hx : l[s]? = some x) (h : D < x.depth) :
    rest l D s = x :: rest l D (s + 1) ∧ inn x (rest l D (s + 1)) = rest l x.depth (s + 1) ∧ beh x (rest l D (s + 1)) = rest l D (s + 1 + (rest l x.depth (s + 1)).length) := by
  have hlt : s < l.length := (List.getElem?_eq_some_iff.1 hx).1
  have hd : l.drop s = x :: l.drop (s + 1) := by
    rw [List.drop_eq_getElem_cons hlt]
    rw [List.getElem?_eq_getElem hlt] at hx
    injection hx with hx
    rw [hx]
  have himp : ∀ y : Ro, deep x.depth y = true → deep D y = true := fun y hy => by
    unfold deep at hy ⊢
    rw [decide_eq_true_iff] at hy ⊢
    omega
  refine ⟨?_, tw_tw _ _ himp _, ?_⟩
  · unfold rest
    rw [hd, List.takeWhile_cons, if_pos (by unfold deep; exact decide_eq_true h)]
  · unfold beh rest
    rw [dw_tw _ _ himp, dw_drop, List.drop_drop]
theorem wr_rest {raw : Bool} {l : List Ro} {D : Int} {s : Nat} {x : Ro} (hx : l[s]? = some x) (h : D < x.depth) :
    Wm.wr raw (rest l D s) = node raw x ++ ((if holds x = true then Wm.wr (isIn x.name rawL) (rest l x.depth (s + 1)) ++ endW x else []) ++ Wm.wr raw (rest l D (s + 1 + (rest l x.depth (s + 1)).length))) := by
  obtain ⟨h1, h2, h3⟩ := rest_go hx h
  rw [h1, Wm.wr_cons, h2, h3]
theorem len_rest {l : List Ro} {D : Int} {s : Nat} {x : Ro} (hx : l[s]? = some x) (h : D < x.depth) :
    s + (rest l D s).length = (s + 1 + (rest l x.depth (s + 1)).length) + (rest l D (s + 1 + (rest l x.depth (s + 1)).length)).length := by
  obtain ⟨h1, h2, h3⟩ := rest_go hx h
  have := len_parts x (rest l D (s + 1))
  rw [h2, h3] at this
  rw [h1, List.length_cons]
  omega
theorem rest_le {l : List Ro} {D : Int} {s : Nat} (hs : s ≤ l.length) : s + (rest l D s).length ≤ l.length := by
  have := (List.takeWhile_sublist (deep D) (l := l.drop s)).length_le
  unfold rest
  rw [List.length_drop] at this
  omega
theorem end_rest {l : List Ro} {k : Nat} {x : Ro} (hx : l[k]? = some x) : Ro.endAt l (k : Int) = k + 1 + (rest l x.depth (k + 1)).length := by
  have hlt : k < l.length := (List.getElem?_eq_some_iff.1 hx).1
  have h1 : Ro.hasRow l (k : Int) = true := by unfold Ro.hasRow; exact decide_eq_true ⟨by omega, by omega⟩
  unfold Ro.endAt
  rw [h1, if_pos rfl]
  unfold Ro.endOf Ro.below rest
  rw [Ro.dep_at hx, show ((k : Int) + 1).toNat = k + 1 by omega]
  rfl

end Go.Proofs.Ytenmlpfjeohkiaa.Wr

namespace Go.Proofs.Ytenmlpfjeohkiaa.Wr
set_option maxRecDepth 100000
set_option linter.unusedSimpArgs false
set_option linter.unusedVariables false
open Go.RowKit Ba Fm Fo Nm Wm
open Ro (At Ro Cw ros rowO rowV below_new range5 cells)
open To (Kb)
/-- Within which node the closure writes. -/
def Par (l : List Ro) (p D : Int) (s : Nat) (raw : Bool) : Prop :=
  (p = -1 ∧ D = -1 ∧ s = 0 ∧ raw = false) ∨ ∃ k x, p = ((k : Nat) : Int) ∧ l[k]? = some x ∧ D = x.depth ∧ s = k + 1 ∧ raw = isIn x.name rawL
/-- What it comes to. -/
def KSays (N bl bo bk : Nat) (A : Option Addr) (c : Nat) (l : List Cw) (w : World) (acc : List UInt8) (D : Int) (s : Nat) (raw : Bool) (e : Ending) (w' : World) : Prop :=
  e = .returned (.int .i64 ((s + (rest (ros l) D s).length : Nat) : Int)) ∧ Cl N w' bl bo bk A c l (acc ++ Wm.wr raw (rest (ros l) D s)) ∧ Below N w w' ∧ K2 w w'
/-- What it keeps from node to node. -/
structure KL (N bl bo bk : Nat) (A : Option Addr) (c : Nat) (l : List Cw) (w : World) (acc : List UInt8) (D : Int) (s : Nat) (raw : Bool) (t : Nat) (pre : List UInt8) (wr : World) : Prop where
  cl : Cl N wr bl bo bk A c l (acc ++ pre)
  wrt : pre ++ Wm.wr raw (rest (ros l) D t) = Wm.wr raw (rest (ros l) D s)
  len : t + (rest (ros l) D t).length = s + (rest (ros l) D s).length
  below : Below N w wr
  k2 : K2 w wr
  le : s ≤ t
def KR (N bl bo bk : Nat) (A : Option Addr) (c : Nat) (l : List Cw) (w : World) (acc : List UInt8) (D : Int) (s : Nat) (raw : Bool) (t : Nat) (wr : World) : Prop := ∃ pre, KL N bl bo bk A c l w acc D s raw t pre wr

theorem ros_get {l : List Cw} {k : Nat} {x : Cw} (h : l.drop k = x :: l.drop (k + 1)) : (ros l)[k]? = some x.ro := by
  have := congrArg List.head? h
  rw [List.head?_drop] at this
  unfold ros
  rw [List.getElem?_map, this]; rfl
theorem own_slice {N : Nat} {w : World} {v : Value} {l : List UInt8} (h : OwnB N w v l) : ∃ A n c, v = .slice A n c := by
  rcases h.2 with ⟨rfl, _⟩ | ⟨g, cap, cur, rfl, _⟩
  · exact ⟨_, _, _, rfl⟩
  · exact ⟨_, _, _, rfl⟩
set_option maxRecDepth 100000 in
set_option maxHeartbeats 4000000 in
theorem kids_step (N bl bo bk c n : Nat) (A : Option Addr) (l : List Cw) (hl : l.length ≤ 1000000) (hrb : ∀ x ∈ l, rb x.ro ≤ 10000000)
    (ih : ∀ (acc : List UInt8) (p D : Int) (s : Nat) (raw : Bool) (w : World), Cl N w bl bo bk A c l acc → Par (ros l) p D s raw → s ≤ l.length → (rest (ros l) D s).length < n → acc.length + (Wm.wr raw (rest (ros l) D s)).length ≤ 70000000000000 →
      Calls Try.prog 26 #[.int .i64 p, .pointer (some ⟨bl, 0, none⟩), .pointer (some ⟨bo, 0, none⟩), .pointer (some ⟨bk, 0, none⟩)] w fun e w' => KSays N bl bo bk A c l w acc D s raw e w')
    (acc : List UInt8) (p D : Int) (s : Nat) (raw : Bool) (w : World) (hcl : Cl N w bl bo bk A c l acc) (hp : Par (ros l) p D s raw) (hs : s ≤ l.length) (hn : (rest (ros l) D s).length < n + 1) (hz : acc.length + (Wm.wr raw (rest (ros l) D s)).length ≤ 70000000000000) :
    Calls Try.prog 26 #[.int .i64 p, .pointer (some ⟨bl, 0, none⟩), .pointer (some ⟨bo, 0, none⟩), .pointer (some ⟨bk, 0, none⟩)] w fun e w' => KSays N bl bo bk A c l w acc D s raw e w' := by
  have IH := Lib.hid ih
  have HCL := Lib.hid hcl
  have HP := Lib.hid hp
  have HZ := Lib.hid hz
  have HN := Lib.hid hn
  have HRB := Lib.hid hrb
  have cl0 := hcl.cl
  clear ih hcl hz hn hrb
  have hsp : p = (s : Int) - 1 := by
    rcases hp with ⟨h1, _, h3, _⟩ | ⟨k, x, h1, _, _, h4, _⟩
    · rw [h1, h3]; rfl
    · rw [h1, h4]; omega
  have hp1 : (-1 : Int) ≤ p := by omega
  have hp2 : p ≤ 1000000 := by omega
  have HSP := Lib.hid hsp
  clear hp hsp
  go_enter Try.func26, Try.ntmps26
  go_upto_if 11 with (fail)
  go_cut [6, 7] from 12 to 22 (fun s6 s7 wx => s6 = .int .i64 D ∧ s7 = .bool raw ∧ Below w.heap.size w wx)
  case first =>
    rcases HP.out with ⟨h1, h2, h3, h4⟩ | ⟨k, x, h1, h2, h3, h4, h5⟩
    · subst h1 h2 h4
      go_wp2
      go_meet
      exact ⟨rfl, rfl, Below.refl _ _⟩
    · subst h1 h3 h5
      have hk : k < l.length := by
        have := (List.getElem?_eq_some_iff.1 h2).1
        rwa [Ro.len_ros] at this
      obtain ⟨b, off, y, rfl, hb, hdx, hx, hxa, hxm⟩ := Ro.Rr.at_ HCL.out.rows k hk
      have hy : y.ro = x := by
        have := ros_get hdx
        rw [h2] at this
        injection this with this
        exact this.symm
      subst hy
      have hcc := HCL.out.cap
      obtain ⟨x0, x1, x2, x3, x4⟩ := range5 hx
      have HX0 := Lib.hid x0; have HX2 := Lib.hid x2; have HC0 := Lib.hid cl0
      have hbl : bl < w.heap.size := (Array.getElem?_eq_some_iff.1 HCL.out.l_).1
      have hbw : b < w.heap.size := Nat.lt_of_lt_of_le hb HCL.out.size
      clear h2 h4 hdx hx hxa hxm x1 x3 x4 hb
      go_upto_region 3 with (fail)
      go_region_held3 (fun w' => w'.cell? ⟨bl, 0, none⟩ = some (.slice (some ⟨b, off, none⟩) l.length c) ∧ w'.cell? ⟨b, off + k * 5, none⟩ = some (.int .i64 y.ro.depth) ∧ w'.cell? ⟨b, off + k * 5 + 2, none⟩ = some (.string y.ro.name)) (first | exact ⟨e0, e1, e2⟩ | exact ⟨HC0.out, HX0.out, HX2.out⟩ | go_keep) (first
        | (go_at_call 27; refine (Na.raw_any y.ro.name w.drew).mono ?_; rintro e w2 ⟨rfl, hb2⟩; have e0 := (hb2.cell (p := ⟨bl, 0, none⟩) hbl).trans HC0.out; have e1 := (hb2.cell (p := ⟨b, off + k * 5, none⟩) hbw).trans HX0.out; have e2 := (hb2.cell (p := ⟨b, off + k * 5 + 2, none⟩) hbw).trans HX2.out; have HB2 := Lib.hid hb2; clear hb2))
      all_goals go_wp2
      all_goals go_meet
      all_goals exact ⟨rfl, rfl, ⟨HB2.out.os, HB2.out.tape, HB2.out.output, HB2.out.size, HB2.out.block⟩⟩
  case rest =>
    obtain ⟨rfl, rfl, hbx⟩ := hcut
    have HS0 := Lib.hid (show KR N bl bo bk A c l w acc D s raw s wc from ⟨[], ⟨by rw [List.append_nil]; exact HCL.out.below hbx, rfl, rfl, hbx.mono HCL.out.size, K2.below hbx, Nat.le_refl _⟩⟩)
    have hps : p + 1 = (s : Int) := by have := HSP.out; omega
    clear hbx cl0
    go_wp2
    go_loopw [8] (fun i wr => ∃ t : Nat, i = .int .i64 t ∧ t ≤ l.length ∧ ∃ pre, KL N bl bo bk A c l w acc D s raw t pre wr) (fun i _ => l.length - (intOf i).toNat)
    case atStart => exact ⟨s, by first | rfl | rw [hps], hs, HS0.out⟩
    case round =>
      obtain ⟨t, rfl, ht, pre, hkl⟩ := hrel
      have cl1 := hkl.cl.cl
      have hcp := hkl.cl.cap
      have hbN := hkl.below
      have hNw := hkl.cl.size
      by_cases hp : t < l.length
      · obtain ⟨b, off, x, rfl, hb, hdx, hx, hxa, hxm⟩ := Ro.Rr.at_ hkl.cl.rows t hp
        have hget := ros_get hdx
        obtain ⟨x0, x1, x2, x3, x4⟩ := range5 hx
        have HKL := Lib.hid hkl; have HG := Lib.hid hget; have HXA := Lib.hid hxa; have HXM := Lib.hid hxm; have HBN := Lib.hid hbN
        clear hkl hget hxa hxm hdx hbN
        by_cases hD : D < x.ro.depth
        · clear x1 x2 x3 x4
          have hR1 := Lib.hid (wr_rest (raw := raw) HG.out hD)
          have hR2 := Lib.hid (len_rest HG.out hD)
          go_upto_region 7 with (refine wpList_load_mid rfl 35 (.tmp 40) rfl b (off + t * 5) rfl _ _ hx Try.underlying35 rfl Ro.size_row ?_)
          obtain ⟨W1, hW1⟩ : ∃ W1, wr.alloc (rowO x) = W1 := ⟨_, rfl⟩
          have hrb1 : Rb W1 wr.heap.size x := by rw [← hW1]; exact Rb.new wr x
          have hbl1 : Below wr.heap.size wr W1 := by rw [← hW1]; exact below_new wr _
          rw [hW1]
          obtain ⟨g, hg⟩ : ∃ g, wr.heap.size = g := ⟨_, rfl⟩
          rw [hg] at hrb1 ⊢
          clear x0 hx cl1 hb hW1
          have hcl1 := HKL.out.cl.below hbl1
          have hN1 := hcl1.size
          obtain ⟨vo, hco, hown⟩ := hcl1.co
          have hz1 : (acc ++ pre).length + (Wm.wr raw (rest (ros l) D t)).length ≤ 70000000000000 := by
            have h1 := congrArg List.length HKL.out.wrt
            rw [List.length_append] at h1 ⊢
            have := HZ.out
            omega
          have hz2 : (acc ++ pre).length ≤ 70000000000000 := by omega
          have hrx := HRB.out x HXM.out
          have hxa1 : Ro.Att W1 N x := HXA.out.below (hbl1.mono (by omega))
          have HCL1 := Lib.hid hcl1; have HRB1 := Lib.hid hrb1; have HBL1 := Lib.hid hbl1; have HOWN := Lib.hid hown; have HZ1 := Lib.hid hz1; have HXA1 := Lib.hid hxa1; have HGG := Lib.hid hg
          obtain ⟨c0, c1, c2, c3, c4⟩ := hrb1.c
          clear hcl1 hrb1 hbl1 hown hz1 hxa1 hg
          go_wp2_with fail
          refine (appendNode_any N N vo (acc ++ pre) x raw W1 HOWN.out hN1 HXA1.out (Nat.le_refl _) hrx hz2).mono ?_
          rintro e w2 ⟨v2, rfl, ho2, hb2, hk2⟩
          obtain ⟨⟨u, hu⟩, hfr⟩ := HCL1.out.mid hk2
          have HP2 := Lib.hid (HCL1.out.put hb2 hk2 ho2)
          obtain ⟨A2, m2, d2, rfl⟩ : ∃ A n c, v2 = .slice A n c := own_slice ho2
          clear ho2 hb2 hk2 c0 c1 c2 c3 c4 hco
          go_upto_region 8 with (fail)
          obtain ⟨W2, hW2⟩ : ∃ W2, w2.setCell ⟨bo, 0, none⟩ (.slice A2 m2 d2) = W2 := ⟨_, rfl⟩
          have hp2 := HP2.out
          rw [hW2] at hp2 ⊢
          obtain ⟨hcl2, hb2, hk2⟩ := hp2
          have hrb2 := HRB1.out.k2 hk2
          obtain ⟨c0, c1, c2, c3, c4⟩ := hrb2.c
          have cl2 := hcl2.cl
          have ck2 := hcl2.ck
          have hN2 := hcl2.size
          have HCL2 := Lib.hid hcl2; have HB2 := Lib.hid hb2; have HK2 := Lib.hid hk2; have HRB2 := Lib.hid hrb2
          clear HP2 hW2 hcl2 hb2 hk2 hrb2 hu hfr
          obtain ⟨q, hq⟩ : ∃ q, holds x.ro = q := ⟨_, rfl⟩
          have HQ := Lib.hid hq
          clear hq
          go_wp2_with fail
          refine (holds_any x W2).mono ?_
          rw [HQ.out]
          rintro e w3 ⟨rfl, hb3⟩
          have hcl3 := HCL2.out.below hb3
          have hrb3 := HRB2.out.k2 (K2.below hb3)
          have hB3 := HBL1.out.mono (show N ≤ wr.heap.size from hNw) |>.trans (HB2.out.trans (hb3.mono hN2))
          have hK3 := (K2.below HBL1.out).trans (HK2.out.trans (K2.below hb3))
          have cl3 := hcl3.cl
          have ck3 := hcl3.ck
          have hr3 := hcl3.rows.more hcl3.size
          have HCL3 := Lib.hid hcl3; have HB3 := Lib.hid hB3; have HK3 := Lib.hid hK3; have HRB3 := Lib.hid hrb3; have HR3 := Lib.hid hr3
          clear hb3 hcl3 hB3 hK3 hrb3 hr3 cl2 ck2 c0 c1 c2 c3 c4
          have he := end_rest HG.out
          have HE := Lib.hid he
          clear he
          cases q with
          | false =>
            go_wp2_with fail
            refine (Ro.End_any (some ⟨b, off, none⟩) c l (t : Int) w3 HR3.out hcp hl).mono ?_
            rw [HE.out]
            rintro e w4 ⟨rfl, rfl⟩
            go_wp2
            go_roundw
            case rel =>
              have h1 := hR1.out
              rw [HQ.out, if_neg (by simp), List.nil_append] at h1
              refine ⟨t + 1 + (rest (ros l) x.ro.depth (t + 1)).length, rfl, ?_, pre ++ node raw x.ro, ⟨by rw [← List.append_assoc]; exact HCL3.out, ?_, ?_, HBN.out.trans HB3.out, HKL.out.k2.trans HK3.out, by have := HKL.out.le; omega⟩⟩
              · have := rest_le (l := ros l) (D := x.ro.depth) (s := t + 1) (by rw [Ro.len_ros]; omega)
                rw [Ro.len_ros] at this
                exact this
              · rw [List.append_assoc, ← h1]; exact HKL.out.wrt
              · rw [← hR2.out]; exact HKL.out.len
            case measure => simp [intOf]; omega
          | true =>
            have h1 := hR1.out
            rw [HQ.out, if_pos rfl] at h1
            have hlt : (rest (ros l) x.ro.depth (t + 1)).length < n := by
              have e1 := hR2.out; have e2 := HKL.out.len; have e3 := HKL.out.le; have e4 := HN.out
              omega
            have hzz : (acc ++ pre ++ node raw x.ro).length + (Wm.wr (isIn x.ro.name rawL) (rest (ros l) x.ro.depth (t + 1))).length + (endW x.ro).length ≤ 70000000000000 := by
              have e1 := HZ1.out
              rw [h1] at e1
              simp only [List.length_append] at e1 ⊢
              omega
            have H1 := Lib.hid h1; have HLT := Lib.hid hlt; have HZZ := Lib.hid hzz
            clear h1 hlt hzz
            go_wp2_with fail
            refine (IH.out (acc ++ pre ++ node raw x.ro) (t : Int) x.ro.depth (t + 1) (isIn x.ro.name rawL) w3 HCL3.out (.inr ⟨t, x.ro, rfl, HG.out, rfl, rfl, rfl⟩) hp HLT.out (by have := HZZ.out; omega)).mono ?_
            rintro e w4 ⟨rfl, hcl4, hb4, hk4⟩
            obtain ⟨vo4, hco4, hown4⟩ := hcl4.co
            have hrb4 := HRB3.out.k2 hk4
            obtain ⟨c0, c1, c2, c3, c4⟩ := hrb4.c
            have hN4 := hcl4.size
            have hlen4 : (acc ++ pre ++ node raw x.ro ++ Wm.wr (isIn x.ro.name rawL) (rest (ros l) x.ro.depth (t + 1))).length + (2 + (x.ro.name.size + 1)) ≤ 140737488355328 := by
              have e1 := HZZ.out
              unfold rb at hrx
              rw [List.length_append]
              omega
            have HCL4 := Lib.hid hcl4; have HB4 := Lib.hid hb4; have HK4 := Lib.hid hk4; have HO4 := Lib.hid hown4; have HL4 := Lib.hid hlen4
            clear hcl4 hb4 hk4 hown4 hrb4 hlen4 c0 c1 c3 c4 cl3 ck3
            go_wp2_with fail
            refine (lit_app3 N vo4 _ ⟨#[60, 47]⟩ x.ro.name ⟨#[62]⟩ w4 HO4.out hN4 HL4.out).mono ?_
            rintro e w5 ⟨v5, rfl, ho5, hb5, hk5⟩
            obtain ⟨⟨u5', hu5⟩, hfr5⟩ := HCL4.out.mid hk5
            have HP5 := Lib.hid (HCL4.out.put hb5 hk5 ho5)
            obtain ⟨A5, m5, d5, rfl⟩ : ∃ A n c, v5 = .slice A n c := own_slice ho5
            clear ho5 hb5 hk5 c2 hco4
            go_wp2
            go_roundw
            case rel =>
              obtain ⟨hcl5, hb5, hk5⟩ := HP5.out
              refine ⟨t + 1 + (rest (ros l) x.ro.depth (t + 1)).length, rfl, ?_, pre ++ node raw x.ro ++ (Wm.wr (isIn x.ro.name rawL) (rest (ros l) x.ro.depth (t + 1)) ++ endW x.ro), ⟨?_, ?_, ?_, HBN.out.trans (HB3.out.trans (HB4.out.trans hb5)), HKL.out.k2.trans (HK3.out.trans (HK4.out.trans hk5)), by have := HKL.out.le; omega⟩⟩
              · have := rest_le (l := ros l) (D := x.ro.depth) (s := t + 1) (by rw [Ro.len_ros]; omega)
                rw [Ro.len_ros] at this
                exact this
              · have e : acc ++ (pre ++ node raw x.ro ++ (Wm.wr (isIn x.ro.name rawL) (rest (ros l) x.ro.depth (t + 1)) ++ endW x.ro)) = acc ++ pre ++ node raw x.ro ++ Wm.wr (isIn x.ro.name rawL) (rest (ros l) x.ro.depth (t + 1)) ++ (L ⟨#[60, 47]⟩ ++ (L x.ro.name ++ L ⟨#[62]⟩)) := by
                  unfold endW
                  show _ = _ ++ ([60, 47] ++ (L x.ro.name ++ [62]))
                  simp only [List.append_assoc]
                rw [e]; exact hcl5
              · have e := HKL.out.wrt
                rw [H1.out] at e
                rw [← e]
                simp only [List.append_assoc]
              · rw [← hR2.out]; exact HKL.out.len
            case measure => simp [intOf]; omega
        · have hR := rest_stop (l := ros l) (D := D) (s := t) (fun y hy => by rw [HG.out] at hy; injection hy with hy; rw [← hy]; exact hD)
          have HRS := Lib.hid hR
          clear hR x1 x2 x3 x4 hx
          go_wp2
          go_ret
          have h1 := HKL.out.wrt; have h2 := HKL.out.len; have h3 := HKL.out.cl
          rw [HRS.out] at h1 h2
          rw [Wm.wr_nil, List.append_nil] at h1
          rw [h1] at h3
          simp only [List.length_nil, Nat.add_zero] at h2
          exact ⟨by rw [h2]; rfl, h3, HBN.out, HKL.out.k2⟩
      · have hR := rest_stop (l := ros l) (D := D) (s := t) (fun y hy => by have := (List.getElem?_eq_some_iff.1 hy).1; rw [Ro.len_ros] at this; omega)
        have HRS := Lib.hid hR; have HKL := Lib.hid hkl; have HBN := Lib.hid hbN
        clear hR hkl hbN
        go_wp2
        go_ret
        have h1 := HKL.out.wrt; have h2 := HKL.out.len; have h3 := HKL.out.cl
        rw [HRS.out] at h1 h2
        rw [Wm.wr_nil, List.append_nil] at h1
        rw [h1] at h3
        simp only [List.length_nil, Nat.add_zero] at h2
        exact ⟨by rw [h2]; rfl, h3, HBN.out, HKL.out.k2⟩

theorem kids_all (N bl bo bk c : Nat) (A : Option Addr) (l : List Cw) (hl : l.length ≤ 1000000) (hrb : ∀ x ∈ l, rb x.ro ≤ 10000000) : ∀ (n : Nat) (acc : List UInt8) (p D : Int) (s : Nat) (raw : Bool) (w : World), Cl N w bl bo bk A c l acc → Par (ros l) p D s raw → s ≤ l.length → (rest (ros l) D s).length < n → acc.length + (Wm.wr raw (rest (ros l) D s)).length ≤ 70000000000000 →
      Calls Try.prog 26 #[.int .i64 p, .pointer (some ⟨bl, 0, none⟩), .pointer (some ⟨bo, 0, none⟩), .pointer (some ⟨bk, 0, none⟩)] w fun e w' => KSays N bl bo bk A c l w acc D s raw e w'
  | 0 => fun _ _ _ _ _ _ _ _ _ h _ => absurd h (Nat.not_lt_zero _)
  | n + 1 => kids_step N bl bo bk c n A l hl hrb (kids_all N bl bo bk c A l hl hrb n)
theorem kids_any (N bl bo bk c : Nat) (A : Option Addr) (l : List Cw) (acc : List UInt8) (p D : Int) (s : Nat) (raw : Bool) (w : World) (hl : l.length ≤ 1000000) (hrb : ∀ x ∈ l, rb x.ro ≤ 10000000) (h : Cl N w bl bo bk A c l acc) (hp : Par (ros l) p D s raw) (hs : s ≤ l.length) (hz : acc.length + (Wm.wr raw (rest (ros l) D s)).length ≤ 70000000000000) :
      Calls Try.prog 26 #[.int .i64 p, .pointer (some ⟨bl, 0, none⟩), .pointer (some ⟨bo, 0, none⟩), .pointer (some ⟨bk, 0, none⟩)] w fun e w' => KSays N bl bo bk A c l w acc D s raw e w' :=
  kids_all N bl bo bk c A l hl hrb _ acc p D s raw w h hp hs (Nat.lt_succ_self _) hz

end Go.Proofs.Ytenmlpfjeohkiaa.Wr
