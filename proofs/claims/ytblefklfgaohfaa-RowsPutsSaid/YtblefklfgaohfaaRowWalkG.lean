/-
  Walks of stage 4: sameRow, Same; boltingref04.Same.
-/
import Derived.Test.YtblefklfgaohfaaRowWalkF
import Derived.StillTailTactics
namespace Go.Proofs.Ytblefklfgaohfaa.Ro
set_option linter.unusedVariables false
set_option linter.unusedSimpArgs false
open Go.RowKit Ba

theorem ro_eq (x y : Ro) : decide (x = y) = ((x.depth == y.depth) && ((x.kind == y.kind) && ((x.name.toList == y.name.toList) && ((x.data.toList == y.data.toList) && decide (x.attrs = y.attrs))))) := by
  rw [eq_of_toList, eq_of_toList, Bool.eq_iff_iff]
  cases x
  cases y
  simp

set_option maxRecDepth 100000 in
set_option maxHeartbeats 1000000 in
theorem sameRow_any (x y : Cw) (w : World) (hx : Att w w.heap.size x) (hy : Att w w.heap.size y) :
    Calls Try.prog 39 #[rowV x, rowV y] w fun e w' => e = .returned (.bool (decide (x.ro = y.ro))) ∧ Below w.heap.size w w' := by
  have hb : Below w.heap.size w ((w.alloc (rowO x)).alloc (rowO y)) := (below_new w (rowO x)).alloc (by simp) _
  have hax := (hx.2.2.2.1.below hb).more hb.size
  have hay := (hy.2.2.2.1.below hb).more hb.size
  have HB := Lib.hid hb; have HX := Lib.hid hax; have HY := Lib.hid hay
  have c1 := hx.1; have c2 := hx.2.2.1; have c3 := hy.1; have c4 := hy.2.2.1
  rw [ro_eq]
  clear hb hax hay hx hy
  cases h1 : x.ro.depth == y.ro.depth with
  | false =>
    go_enter Try.func39, Try.ntmps39
    go_wp2
    go_ret
    exact ⟨ret_bool (by simp [h1]), HB.out⟩
  | true =>
  cases h2 : x.ro.kind == y.ro.kind with
  | false =>
    go_enter Try.func39, Try.ntmps39
    go_wp2
    go_ret
    exact ⟨ret_bool (by simp [h1, h2]), HB.out⟩
  | true =>
  cases h3 : x.ro.name.toList == y.ro.name.toList with
  | false =>
    go_enter Try.func39, Try.ntmps39
    go_wp2
    go_ret
    exact ⟨ret_bool (by simp [h1, h2, h3]), HB.out⟩
  | true =>
  cases h4 : x.ro.data.toList == y.ro.data.toList with
  | false =>
    go_enter Try.func39, Try.ntmps39
    go_wp2
    go_ret
    exact ⟨ret_bool (by simp [h1, h2, h3, h4]), HB.out⟩
  | true =>
  go_enter Try.func39, Try.ntmps39
  go_wp2_with fail
  refine (sameAttrs_any x.A y.A x.c y.c x.ro.attrs y.ro.attrs _ HX.out HY.out c1 c3 c2 c4).mono ?_
  rintro e w1 ⟨rfl, n, rfl⟩
  go_wp2
  go_ret
  exact ⟨ret_bool (by simp [h1, h2, h3, h4]), below_dN HB.out _⟩

theorem ros_drop_eq {l r : List Cw} {k : Nat} {x y : Cw} {V : Bool} (hx : l.drop k = x :: l.drop (k + 1)) (hy : r.drop k = y :: r.drop (k + 1)) (h : decide (ros (l.drop k) = ros (r.drop k)) = V) :
    (x.ro = y.ro → decide (ros (l.drop (k + 1)) = ros (r.drop (k + 1))) = V) ∧ (¬ x.ro = y.ro → V = false) := by
  rw [hx, hy, ros_cons, ros_cons] at h
  exact dec_cons h

set_option maxRecDepth 100000 in
set_option maxHeartbeats 1000000 in
theorem Same_any (A B : Option Addr) (ca cb : Nat) (l r : List Cw) (w : World) (hl : Rr w w.heap.size A l) (hr : Rr w w.heap.size B r) (hca : l.length ≤ ca) (hcb : r.length ≤ cb) (hml : l.length ≤ 1000000) (hmr : r.length ≤ 1000000) :
    Calls Try.prog 15 #[.slice A l.length ca, .slice B r.length cb] w fun e w' => e = .returned (.bool (decide (ros l = ros r))) ∧ Below w.heap.size w w' := by
  by_cases hlen : l.length = r.length
  · obtain ⟨V, hV⟩ : ∃ V, decide (ros l = ros r) = V := ⟨_, rfl⟩
    rw [hV]
    have hne : ((l.length : Int) != (r.length : Int)) = false := by rw [hlen]; simp
    have HV := Lib.hid hV; have HL := Lib.hid hlen
    clear hV hlen
    go_enter Try.func15, Try.ntmps15
    go_wp2
    go_loopw [13] (fun i wr => ∃ k : Nat, i = .int .i64 k ∧ k ≤ l.length ∧ decide (ros (l.drop k) = ros (r.drop k)) = V ∧ Below w.heap.size w wr) (fun i _ => l.length - (intOf i).toNat)
    case atStart => exact ⟨0, rfl, by omega, HV.out, Below.refl _ _⟩
    case round =>
      clear HV
      obtain ⟨k, rfl, hk, hv, hbel⟩ := hrel
      have hsz := hbel.size
      by_cases hp : k < l.length
      · obtain ⟨b1, o1, x, rfl, _, hdx, hx, hxa, _⟩ := (hl.below hbel).at_ k hp
        have hp2 : k < r.length := by have := HL.out; omega
        obtain ⟨b2, o2, y, rfl, _, hdy, hy, hya, _⟩ := (hr.below hbel).at_ k hp2
        obtain ⟨v1, v2⟩ := ros_drop_eq hdx hdy hv
        have HXA := Lib.hid (hxa.more hsz); have HYA := Lib.hid (hya.more hsz)
        have V1 := Lib.hid v1; have V2 := Lib.hid v2
        obtain ⟨f0, f1, f2, f3, f4⟩ := range5 hx
        obtain ⟨g0, g1, g2, g3, g4⟩ := range5 hy
        clear hv hdx hdy hxa hya v1 v2 hx hy
        by_cases hxy : x.ro = y.ro
        · have HV := Lib.hid (V1.out hxy)
          have HE := Lib.hid hxy
          clear hxy
          go_wp2
          go_still_tail 8, (by kernel_rfl)
          change wpList _ _ _ _ _ wr.drew
          obtain ⟨w2, hw2⟩ : ∃ w2, wr.drew = w2 := ⟨_, rfl⟩
          have hxa2 : Att w2 w2.heap.size x := hw2 ▸ HXA.out
          have hya2 : Att w2 w2.heap.size y := hw2 ▸ HYA.out
          have hb2 : Below w.heap.size w w2 := hw2 ▸ below_dN hbel 1
          rw [hw2]
          have HXA2 := Lib.hid hxa2; have HYA2 := Lib.hid hya2; have HB2 := Lib.hid hb2
          clear hw2 hxa2 hya2 hb2
          go_wp2_with fail
          refine (sameRow_any x y w2 HXA2.out HYA2.out).mono ?_
          rintro e w3 ⟨rfl, hb3⟩
          rw [decide_eq_true HE.out]
          go_wp2
          go_roundw
          case rel => exact ⟨k + 1, by go_num, by omega, HV.out, HB2.out.trans (hb3.mono HB2.out.size)⟩
          case measure => simp [intOf]; omega
        · obtain rfl := V2.out hxy
          have HE := Lib.hid hxy
          clear hxy
          go_wp2
          go_still_tail 8, (by kernel_rfl)
          change wpList _ _ _ _ _ wr.drew
          obtain ⟨w2, hw2⟩ : ∃ w2, wr.drew = w2 := ⟨_, rfl⟩
          have hxa2 : Att w2 w2.heap.size x := hw2 ▸ HXA.out
          have hya2 : Att w2 w2.heap.size y := hw2 ▸ HYA.out
          have hb2 : Below w.heap.size w w2 := hw2 ▸ below_dN hbel 1
          rw [hw2]
          have HXA2 := Lib.hid hxa2; have HYA2 := Lib.hid hya2; have HB2 := Lib.hid hb2
          clear hw2 hxa2 hya2 hb2
          go_wp2_with fail
          refine (sameRow_any x y w2 HXA2.out HYA2.out).mono ?_
          rintro e w3 ⟨rfl, hb3⟩
          rw [decide_eq_false HE.out]
          go_wp2
          go_ret
          exact ⟨rfl, HB2.out.trans (hb3.mono HB2.out.size)⟩
      · rw [List.drop_eq_nil_of_le (by omega), List.drop_eq_nil_of_le (by have := HL.out; omega)] at hv
        have HV := Lib.hid hv
        clear hv
        go_wp2
        go_ret
        exact ⟨ret_bool (by rw [← HV.out]; rfl), hbel⟩
  · have e : decide (ros l = ros r) = false := decide_eq_false fun e => hlen (by rw [← len_ros, e, len_ros])
    rw [e]
    have hne : ((l.length : Int) != (r.length : Int)) = true := by rw [bne_iff_ne]; omega
    clear e hlen
    go_enter Try.func15, Try.ntmps15
    go_wp2
    go_ret
    exact ⟨rfl, Below.refl _ _⟩

end Go.Proofs.Ytblefklfgaohfaa.Ro
