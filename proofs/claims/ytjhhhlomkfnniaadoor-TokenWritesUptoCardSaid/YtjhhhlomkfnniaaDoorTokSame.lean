/-
  Walks of stage 6: boltingref06.Same.
-/
import Derived.Test.YtjhhhlomkfnniaaDoorTokAdd
import Derived.Deep.CutRange
import Derived.Deep.RegionHeld3
namespace Go.Proofs.YtjhhhlomkfnniaaDoor.To
set_option linter.unusedSimpArgs false
set_option linter.unusedVariables false
open Go.RowKit Ba Fm Fo Tm
open Ro (At acells len_acells below_new Sh Ra acells_one info_attr range2 range5)

theorem dec_cons {α : Type} [DecidableEq α] {x y : α} {r s : List α} {V : Bool} (h : decide (x :: r = y :: s) = V) : (x = y → decide (r = s) = V) ∧ (¬ x = y → V = false) := by
  constructor
  · intro e
    rw [← h, e]
    simp
  · intro e
    rw [← h]
    exact decide_eq_false fun e2 => e (by injection e2)
theorem neq_L {a b : ByteArray} (h : ¬ a = b) : (a.toList == b.toList) = false := by rw [eq_of_toList]; exact decide_eq_false h
theorem at_eta (x y : At) (h : ¬ x = y) : ¬ x.name = y.name ∨ (x.name = y.name ∧ ¬ x.value = y.value) := by
  by_cases e : x.name = y.name
  · refine .inr ⟨e, fun e2 => h ?_⟩
    cases x; cases y
    simp at e e2
    rw [e, e2]
  · exact .inl e
theorem tk_eq (x y : Tk) : decide (x = y) = ((x.kind == y.kind) && ((x.name.toList == y.name.toList) && ((x.data.toList == y.data.toList) && ((x.self == y.self) && decide (x.attrs = y.attrs))))) := by
  rw [eq_of_toList, eq_of_toList, Bool.eq_iff_iff]
  cases x
  cases y
  simp
  intro _ _ _
  exact And.comm
theorem tks_drop_eq {l r : List Tw} {k : Nat} {x y : Tw} {V : Bool} (hx : l.drop k = x :: l.drop (k + 1)) (hy : r.drop k = y :: r.drop (k + 1)) (h : decide (tks (l.drop k) = tks (r.drop k)) = V) :
    (x.tk = y.tk → decide (tks (l.drop (k + 1)) = tks (r.drop (k + 1))) = V) ∧ (¬ x.tk = y.tk → V = false) := by
  rw [hx, hy, tks_cons, tks_cons] at h
  exact dec_cons h
theorem two_boxes (w : World) (x y : Tw) : ((w.alloc (tokO x)).alloc (tokO y)).drew.rangeAt w.heap.size 0 (cells x) ∧ ((w.alloc (tokO x)).alloc (tokO y)).drew.rangeAt (w.heap.size + 1) 0 (cells y) ∧ Below w.heap.size w ((w.alloc (tokO x)).alloc (tokO y)).drew := by
  have hb : Below w.heap.size w ((w.alloc (tokO x)).alloc (tokO y)) := (below_new w (tokO x)).alloc (by simp) _
  refine ⟨fun j v hv => ?_, fun j v hv => ?_, below_dN hb 1⟩
  · rw [Nat.zero_add]
    refine Eq.trans ?_ hv
    exact (World.cell?_alloc_lt _ _ ⟨w.heap.size, j, none⟩ (by simp)).trans (box_at w x j)
  · rw [Nat.zero_add]
    refine Eq.trans ?_ hv
    have e : w.heap.size + 1 = (w.alloc (tokO x)).heap.size := by simp
    rw [e]
    exact box_at (w.alloc (tokO x)) y j
theorem range5z {w : World} {b : Nat} {x : Tw} (h : w.rangeAt b 0 (cells x)) : w.cell? ⟨b, 0, none⟩ = some (.int .i64 x.tk.kind) ∧ w.cell? ⟨b, 1, none⟩ = some (.string x.tk.name) ∧ w.cell? ⟨b, 2, none⟩ = some (.string x.tk.data) ∧ w.cell? ⟨b, 3, none⟩ = some (.slice x.A x.tk.attrs.length x.c) ∧ w.cell? ⟨b, 4, none⟩ = some (.bool x.tk.self) :=
  ⟨h 0 _ rfl, h 1 _ rfl, h 2 _ rfl, h 3 _ rfl, h 4 _ rfl⟩

set_option maxRecDepth 100000 in
set_option maxHeartbeats 4000000 in
theorem refSame_any (A B : Option Addr) (ca cb : Nat) (l r : List Tw) (w : World) (hl : Rr w w.heap.size A l) (hr : Rr w w.heap.size B r) (hca : l.length ≤ ca) (hcb : r.length ≤ cb) (hml : l.length ≤ 1000000) (hmr : r.length ≤ 1000000) :
    Calls Tryd.prog 14 #[.slice A l.length ca, .slice B r.length cb] w fun e w' => e = .returned (.bool (decide (tks l = tks r))) ∧ Below w.heap.size w w' := by
  by_cases hlen : l.length = r.length
  · obtain ⟨V, hV⟩ : ∃ V, decide (tks l = tks r) = V := ⟨_, rfl⟩
    rw [hV]
    have hne : ((l.length : Int) != (r.length : Int)) = false := by rw [hlen]; simp
    have HV := Lib.hid hV; have HL := Lib.hid hlen
    clear hV hlen
    go_enter Tryd.func14, Tryd.ntmps14
    go_wp2
    go_loopw [5] (fun i wr => ∃ k : Nat, i = .int .i64 k ∧ k ≤ l.length ∧ decide (tks (l.drop k) = tks (r.drop k)) = V ∧ Below w.heap.size w wr) (fun i _ => l.length - (intOf i).toNat)
    case atStart => exact ⟨0, rfl, by omega, HV.out, Below.refl _ _⟩
    case round =>
      clear HV
      obtain ⟨k, rfl, hk, hv, hbel⟩ := hrel
      have hsz := hbel.size
      by_cases hp : k < l.length
      · obtain ⟨b1, o1, x, rfl, _, hdx, hx, hxa, _⟩ := (hl.below hbel).at_ k hp
        have hp2 : k < r.length := by have := HL.out; omega
        obtain ⟨b2, o2, y, rfl, _, hdy, hy, hya, _⟩ := (hr.below hbel).at_ k hp2
        obtain ⟨v1, v2⟩ := tks_drop_eq hdx hdy hv
        have HXA := Lib.hid (hxa.more hsz); have HYA := Lib.hid (hya.more hsz)
        have V1 := Lib.hid v1; have V2 := Lib.hid v2
        obtain ⟨f0, f1, f2, f3, f4⟩ := range5 hx
        obtain ⟨g0, g1, g2, g3, g4⟩ := range5 hy
        clear hv hdx hdy hxa hya v1 v2 hx hy
        have ef0 := World.new_ne wr _ f0
        have eg0 := World.new_ne wr _ g0
        go_upto_region 6 with (fail)
        go_cut [6, 7] from 20 to 27 (fun s6 s7 wx => ∃ g h, s6 = .pointer (some ⟨g, 0, none⟩) ∧ s7 = .pointer (some ⟨h, 0, none⟩) ∧ wx.rangeAt g 0 (cells x) ∧ wx.rangeAt h 0 (cells y) ∧ Below wr.heap.size wr wx)
        case first =>
          go_region_held3 (fun w' => w'.cell? ⟨b1, o1 + k * 5, none⟩ = some (.int .i64 x.tk.kind) ∧ w'.cell? ⟨b1, o1 + k * 5 + 1, none⟩ = some (.string x.tk.name) ∧ w'.cell? ⟨b1, o1 + k * 5 + 2, none⟩ = some (.string x.tk.data) ∧ w'.cell? ⟨b1, o1 + k * 5 + 3, none⟩ = some (.slice x.A x.tk.attrs.length x.c) ∧ w'.cell? ⟨b1, o1 + k * 5 + 4, none⟩ = some (.bool x.tk.self) ∧ w'.cell? ⟨b2, o2 + k * 5, none⟩ = some (.int .i64 y.tk.kind) ∧ w'.cell? ⟨b2, o2 + k * 5 + 1, none⟩ = some (.string y.tk.name) ∧ w'.cell? ⟨b2, o2 + k * 5 + 2, none⟩ = some (.string y.tk.data) ∧ w'.cell? ⟨b2, o2 + k * 5 + 3, none⟩ = some (.slice y.A y.tk.attrs.length y.c) ∧ w'.cell? ⟨b2, o2 + k * 5 + 4, none⟩ = some (.bool y.tk.self)) (go_keep) (first | fail)
          all_goals go_wp2_with fail
          all_goals go_meet
          · obtain ⟨q1, q2, q3⟩ := two_boxes wr x y
            exact ⟨_, _, rfl, rfl, q1, q2, q3⟩
          · obtain ⟨q1, q2, q3⟩ := two_boxes wr y x
            exact ⟨_, _, rfl, rfl, q2, q1, q3⟩
        case rest =>
          obtain ⟨g, h, rfl, rfl, hg, hh, hb2⟩ := hcut
          have HX := Lib.hid ((HXA.out.2.2.2.1.below hb2).more hb2.size); have HY := Lib.hid ((HYA.out.2.2.2.1.below hb2).more hb2.size); have HB := Lib.hid (hbel.trans (hb2.mono hsz))
          have a1 := HXA.out.1; have a2 := HXA.out.2.2.1; have a3 := HYA.out.1; have a4 := HYA.out.2.2.1
          unfold maxLen at a2 a4
          obtain ⟨c0, c1, c2, c3, c4⟩ := range5z hg
          obtain ⟨d0, d1, d2, d3, d4⟩ := range5z hh
          clear hg hh hb2 f0 f1 f2 f3 f4 g0 g1 g2 g3 g4 ef0 eg0
          cases h1 : x.tk.kind == y.tk.kind with
          | false =>
            obtain rfl := V2.out (fun e => by rw [e] at h1; simp at h1)
            have n1 : (x.tk.kind != y.tk.kind) = true := by rw [bne, h1]; rfl
            go_wp2
            go_ret
            exact ⟨rfl, HB.out⟩
          | true =>
          have n1 : (x.tk.kind != y.tk.kind) = false := by rw [bne, h1]; rfl
          cases h3 : x.tk.name.toList == y.tk.name.toList with
          | false =>
            obtain rfl := V2.out (fun e => by rw [e] at h3; simp at h3)
            go_wp2
            go_ret
            exact ⟨rfl, HB.out⟩
          | true =>
          cases h4 : x.tk.data.toList == y.tk.data.toList with
          | false =>
            obtain rfl := V2.out (fun e => by rw [e] at h4; simp at h4)
            go_wp2
            go_ret
            exact ⟨rfl, HB.out⟩
          | true =>
          cases h6 : x.tk.self == y.tk.self with
          | false =>
            obtain rfl := V2.out (fun e => by rw [e] at h6; simp at h6)
            have n6 : (x.tk.self != y.tk.self) = true := by rw [bne, h6]; rfl
            go_wp2
            go_ret
            exact ⟨rfl, HB.out⟩
          | true =>
          have n6 : (x.tk.self != y.tk.self) = false := by rw [bne, h6]; rfl
          by_cases hal : x.tk.attrs.length = y.tk.attrs.length
          · have n7 : ((x.tk.attrs.length : Int) != (y.tk.attrs.length : Int)) = false := by rw [hal]; simp
            obtain ⟨VA, hVA⟩ : ∃ VA, decide (x.tk.attrs = y.tk.attrs) = VA := ⟨_, rfl⟩
            have hxy := tk_eq x.tk y.tk
            rw [h1, h3, h4, h6, hVA] at hxy
            have HVA := Lib.hid hVA; have HXY := Lib.hid hxy; have HAL := Lib.hid hal
            clear hVA hxy hal
            go_wp2
            obtain ⟨wm, hwm⟩ : ∃ z, z = wc := ⟨_, rfl⟩
            subst hwm
            go_loopw [8] (fun i wq => ∃ j : Nat, i = .int .i64 j ∧ j ≤ x.tk.attrs.length ∧ decide (x.tk.attrs.drop j = y.tk.attrs.drop j) = VA ∧ ∃ n, wq = wm.drewN n) (fun i _ => x.tk.attrs.length - (intOf i).toNat)
            case atStart => exact ⟨0, rfl, Nat.zero_le _, HVA.out, 0, rfl⟩
            case round =>
              obtain ⟨j, rfl, hj, hvj, n, rfl⟩ := hrel
              by_cases hpj : j < x.tk.attrs.length
              · obtain ⟨ba, oa, p, hA, _, hdp, hxp, _⟩ := Ro.Ra.at_ HX.out j hpj
                have hpj2 : j < y.tk.attrs.length := by have := HAL.out; omega
                obtain ⟨bb, ob, q, hB, _, hdq, hyq, _⟩ := Ro.Ra.at_ HY.out j hpj2
                rw [hdp, hdq] at hvj
                obtain ⟨v1, v2⟩ := dec_cons hvj
                rw [hA] at c3
                rw [hB] at d3
                clear hvj hdp hdq hA hB
                by_cases hpq : p = q
                · subst hpq
                  have HVJ := Lib.hid (v1 rfl)
                  clear v1 v2
                  obtain ⟨f1, f2⟩ := range2 hxp
                  obtain ⟨f3, f4⟩ := range2 hyq
                  clear hxp hyq
                  go_wp2
                  go_quiet (fail)
                  go_wp2
                  go_roundw
                  case rel => exact ⟨j + 1, by go_num, by omega, HVJ.out, _, rfl⟩
                  case measure => simp [intOf]; omega
                · obtain rfl := v2 hpq
                  clear v1 v2
                  obtain rfl := V2.out (of_decide_eq_false (HXY.out.trans rfl))
                  rcases at_eta p q hpq with h | ⟨h, h'⟩
                  · have h1 := neq_L h
                    clear h hpq
                    obtain ⟨f1, f2⟩ := range2 hxp
                    obtain ⟨f3, f4⟩ := range2 hyq
                    clear hxp hyq
                    go_wp2
                    go_quiet (fail)
                    go_wp2
                    go_ret
                    exact ⟨rfl, below_dN (below_dN HB.out _) _⟩
                  · have h1 := neq_L h'
                    have h2 : (p.name.toList == q.name.toList) = true := by rw [h]; simp
                    clear h h' hpq
                    obtain ⟨f1, f2⟩ := range2 hxp
                    obtain ⟨f3, f4⟩ := range2 hyq
                    clear hxp hyq
                    go_wp2
                    go_quiet (fail)
                    go_wp2
                    go_ret
                    exact ⟨rfl, below_dN (below_dN HB.out _) _⟩
              · rw [List.drop_eq_nil_of_le (by omega), List.drop_eq_nil_of_le (by have := HAL.out; omega)] at hvj
                have hvt : VA = true := by rw [← hvj]; rfl
                subst hvt
                have HV := Lib.hid (V1.out (of_decide_eq_true (HXY.out.trans rfl)))
                clear hvj
                go_wp2
                go_roundw
                case rel => exact ⟨k + 1, by go_num, by omega, HV.out, below_dN HB.out _⟩
                case measure => simp [intOf]; omega
          · obtain rfl := V2.out (fun e => hal (by rw [e]))
            have n7 : ((x.tk.attrs.length : Int) != (y.tk.attrs.length : Int)) = true := by rw [bne_iff_ne]; omega
            go_wp2
            go_ret
            exact ⟨rfl, HB.out⟩
      · rw [List.drop_eq_nil_of_le (by omega), List.drop_eq_nil_of_le (by have := HL.out; omega)] at hv
        have HV := Lib.hid hv
        clear hv
        go_wp2
        go_ret
        exact ⟨ret_bool (by rw [← HV.out]; rfl), hbel⟩
  · have e : decide (tks l = tks r) = false := decide_eq_false fun e => hlen (by rw [← len_tks, e, len_tks])
    rw [e]
    have hne : ((l.length : Int) != (r.length : Int)) = true := by rw [bne_iff_ne]; omega
    clear e hlen
    go_enter Tryd.func14, Tryd.ntmps14
    go_wp2
    go_ret
    exact ⟨rfl, Below.refl _ _⟩

end Go.Proofs.YtjhhhlomkfnniaaDoor.To
