/-
  Walks of stage 4: boltingref04.Row, Right, Check.
-/
import Derived.Test.YtblefklfgaohfaaRowWalkD
namespace Go.Proofs.Ytblefklfgaohfaa.Ro
set_option linter.unusedVariables false
set_option linter.unusedSimpArgs false
open Go.RowKit Ba

theorem twice_snoc (a : List At) (x : At) : twice (a ++ [x]) = (twice a || a.any fun b => decide (b.name = x.name)) := by
  induction a with
  | nil => rfl
  | cons y r ih =>
    rw [List.cons_append, twice, ih, List.any_append, twice, List.any_cons]
    simp only [List.any_cons, List.any_nil, Bool.or_false]
    have e : decide (x.name = y.name) = decide (y.name = x.name) := by
      rw [Bool.eq_iff_iff, decide_eq_true_iff, decide_eq_true_iff]
      exact ⟨fun h => h.symm, fun h => h.symm⟩
    rw [e]
    cases r.any (fun b => decide (b.name = y.name)) <;> cases decide (y.name = x.name) <;> cases twice r <;> simp
theorem twice_append {a b : List At} (h : twice a = true) : twice (a ++ b) = true := by
  induction a with
  | nil => cases h
  | cons y r ih =>
    rw [twice, Bool.or_eq_true] at h
    rw [List.cons_append, twice, List.any_append]
    rcases h with h | h
    · rw [h]; rfl
    · rw [ih h, Bool.or_true]
theorem twice_take {l : List At} {n : Nat} (h : twice (l.take n) = true) : twice l = true := by
  rw [← List.take_append_drop n l]
  exact twice_append h
theorem take_at {α : Type} {l : List α} {k : Nat} {x : α} {r : List α} (h : l.drop k = x :: r) : l.take (k + 1) = l.take k ++ [x] := by
  rw [List.take_add_one, getElem_of_drop h]
  rfl
theorem any_snoc {α : Type} (l : List α) (x : α) (p : α → Bool) : (l ++ [x]).any p = (l.any p || p x) := by simp

theorem any_take_of {α : Type} {l : List α} {p : α → Bool} {j k : Nat} (h : j ≤ k) (ha : (l.take j).any p = true) : (l.take k).any p = true := by
  obtain ⟨x, hx, hp⟩ := List.any_eq_true.1 ha
  refine List.any_eq_true.2 ⟨x, ?_, hp⟩
  have e : l.take j = (l.take k).take j := by rw [List.take_take, Nat.min_eq_left h]
  rw [e] at hx
  exact List.mem_of_mem_take hx
theorem below_dN {B : Nat} {w w' : World} (h : Below B w w') (n : Nat) : Below B w (w'.drewN n) := ⟨h.1, h.2, h.3, h.4, h.5⟩

set_option maxRecDepth 100000 in
set_option maxHeartbeats 1000000 in
theorem refRow_any (x : Cw) (w : World) (hx : Att w w.heap.size x) :
    Calls Try.prog 41 #[rowV x] w fun e w' => e = .returned (.bool (okRow x.ro)) ∧ Below w.heap.size w w' := by
  have HN := Lib.hid (below_new w (rowO x))
  have hm := hx.2.2.1
  unfold maxLen at hm
  have hl := hx.1
  cases h0 : x.ro.kind == 1 with
  | true =>
    have hk : (x.ro.kind == 0) = false := by rw [beq_eq_false_iff_ne, beq_iff_eq.1 h0]; decide
    go_enter Try.func41, Try.ntmps41
    go_wp2
    all_goals (go_ret; refine ⟨ret_bool ?_, HN.out⟩)
    all_goals simp [okRow, *]
  | false =>
  cases h1 : x.ro.kind == 2 with
  | true =>
    have hk : (x.ro.kind == 0) = false := by rw [beq_eq_false_iff_ne, beq_iff_eq.1 h1]; decide
    go_enter Try.func41, Try.ntmps41
    go_wp2
    all_goals (go_ret; refine ⟨ret_bool ?_, HN.out⟩)
    all_goals simp [okRow, *]
  | false =>
    have hok : okRow x.ro = (!twice x.ro.attrs && x.ro.kind == 0 && !x.ro.name.toList.isEmpty && x.ro.data.toList.isEmpty) := by
      rw [okRow, h0, h1]
      cases x.ro.kind == 0 <;> cases x.ro.name.toList.isEmpty <;> cases x.ro.data.toList.isEmpty <;> cases twice x.ro.attrs <;> rfl
    rw [hok]
    have hra : ∀ wr, Below (w.alloc (rowO x)).heap.size (w.alloc (rowO x)) wr → Ra wr w.heap.size x.A x.ro.attrs := fun wr hb => (hx.2.2.2.1.below HN.out).below hb (by simp)
    have HR := Lib.hid hra
    clear hra hok
    go_enter Try.func41, Try.ntmps41
    go_wp2
    go_loopw [3] (fun i wr => ∃ k : Nat, i = .int .i64 k ∧ k ≤ x.ro.attrs.length ∧ twice (x.ro.attrs.take k) = false ∧ Below (w.alloc (rowO x)).heap.size (w.alloc (rowO x)) wr) (fun i _ => x.ro.attrs.length - (intOf i).toNat)
    case atStart => exact ⟨0, rfl, by omega, rfl, Below.refl _ _⟩
    case round =>
      obtain ⟨k, rfl, hk, hv, hbel⟩ := hrel
      have g4 := box_kept hbel 4
      simp only [cells, List.getElem?_cons_zero, List.getElem?_cons_succ] at g4
      by_cases hp : k < x.ro.attrs.length
      · obtain ⟨b, off, y, hA, hb, hd, _, _⟩ := (HR.out wr hbel).at_ k hp
        have htk := take_at hd
        have htw : twice (x.ro.attrs.take (k + 1)) = (x.ro.attrs.take k).any fun b => decide (b.name = y.name) := by rw [htk, twice_snoc, hv, Bool.false_or]
        have HTW := Lib.hid htw
        have HD := Lib.hid hd
        have HA := Lib.hid hA
        clear htk htw hd hv hA
        go_wp2
        obtain ⟨w5, hw5⟩ : ∃ w5, wr = w5 := ⟨_, rfl⟩
        subst hw5
        go_loopw [4] (fun i wr => ∃ j : Nat, i = .int .i64 j ∧ j ≤ k ∧ ((x.ro.attrs.take j).any fun b => decide (b.name = y.name)) = false ∧ Below (w.alloc (rowO x)).heap.size (w.alloc (rowO x)) wr) (fun i _ => k - (intOf i).toNat)
        case atStart => exact ⟨0, rfl, by omega, rfl, hbel⟩
        case round =>
          obtain ⟨j, rfl, hj, hv, hbel5⟩ := hrel
          clear g4
          have g4 := box_kept hbel5 4
          simp only [cells, List.getElem?_cons_zero, List.getElem?_cons_succ] at g4
          by_cases hq : j < k
          · obtain ⟨b2, off2, z, hA, hb2, hd2, hz, _⟩ := (HR.out wr hbel5).at_ j (by omega)
            obtain ⟨b3, off3, y2, hA3, hb3, hd3, hy, _⟩ := (HR.out wr hbel5).at_ k hp
            rw [hA] at hA3
            injection hA3 with hA3
            injection hA3 with e1 e2
            subst e1 e2
            have ey : y2 = y := by
              rw [HD.out] at hd3
              injection hd3 with e
              exact e.symm
            subst ey
            have f1 := (range2 hz).1
            have f2 := (range2 hy).1
            have htk := take_at hd2
            have hany : ((x.ro.attrs.take (j + 1)).any fun b => decide (b.name = y2.name)) = decide (z.name = y2.name) := by rw [htk, any_snoc, hv, Bool.false_or]
            rw [hA] at g4
            clear hA hz hy htk hd2 hd3 hv
            by_cases hzy : z.name = y2.name
            · have hs : (y2.name.toList == z.name.toList) = true := by rw [eq_of_toList]; exact decide_eq_true hzy.symm
              rw [decide_eq_true hzy] at hany
              have HANY := Lib.hid hany
              clear hany hzy
              go_wp2
              go_quiet (fail)
              go_wp2
              go_ret
              refine ⟨ret_bool ?_, HN.out.trans ((below_dN hbel5 nq).mono (by simp))⟩
              have t1 : twice (x.ro.attrs.take (k + 1)) = true := by
                rw [HTW.out]
                exact any_take_of (j := j + 1) (by omega) HANY.out
              rw [twice_take t1]
              rfl
            · have hs : (y2.name.toList == z.name.toList) = false := by rw [eq_of_toList]; exact decide_eq_false fun e => hzy e.symm
              rw [decide_eq_false hzy] at hany
              have HANY := Lib.hid hany
              clear hany hzy
              go_wp2
              go_quiet (fail)
              go_wp2
              go_roundw
              case rel => exact ⟨j + 1, by go_num, by omega, HANY.out, below_dN hbel5 nq⟩
              case measure => simp [intOf]; omega
          · obtain rfl : j = k := by omega
            have HV := Lib.hid hv
            clear hv
            go_wp2
            go_roundw
            case rel => exact ⟨j + 1, by go_num, by omega, by rw [HTW.out]; exact HV.out, hbel5⟩
            case measure => simp [intOf]; omega
      · have g1 := box_kept hbel 1
        have g2 := box_kept hbel 2
        have g3 := box_kept hbel 3
        simp only [cells, List.getElem?_cons_zero, List.getElem?_cons_succ] at g1 g2 g3
        rw [List.take_of_length_le (by omega)] at hv
        have HV := Lib.hid hv
        have HB := Lib.hid (HN.out.trans (hbel.mono (by simp)))
        clear hv
        go_wp2
        all_goals (go_ret; refine ⟨ret_bool ?_, HB.out⟩)
        all_goals (rw [HV.out]; simp [*])

/-- How deep the row behind this one may be. -/
def deepest (p : Ro) : Int := if p.kind = 0 then p.depth + 1 else p.depth

set_option maxRecDepth 100000 in
set_option maxHeartbeats 2000000 in
theorem refRight_any (A : Option Addr) (c : Nat) (l : List Cw) (w : World) (hr : Rr w w.heap.size A l) (hc : l.length ≤ c) (hm : l.length ≤ 1000000) :
    Calls Try.prog 18 #[.slice A l.length c] w fun e w' => e = .returned (.bool (right (ros l))) ∧ Below w.heap.size w w' := by
  obtain ⟨V, hV⟩ : ∃ V, right (ros l) = V := ⟨_, rfl⟩
  rw [hV]
  have HV := Lib.hid hV
  clear hV
  go_enter Try.func18, Try.ntmps18
  go_wp2
  go_loopw [3] (fun i wr => ∃ (k : Nat) (m : Int), i = .int .i64 k ∧ k ≤ l.length ∧ rightFrom m (ros (l.drop k)) = V ∧ Below w.heap.size w wr ∧ (k = 0 → m = 0) ∧ (∀ j p, k = j + 1 → l[j]? = some p → m = deepest p.ro ∧ 0 ≤ p.ro.depth ∧ p.ro.depth ≤ j)) (fun i _ => l.length - (intOf i).toNat)
  case atStart => exact ⟨0, 0, rfl, by omega, HV.out, Below.refl _ _, fun _ => rfl, fun _ _ h => by omega⟩
  case round =>
    clear HV
    obtain ⟨k, m, rfl, hk, hv, hbel, hm0, hm1⟩ := hrel
    have hsz := hbel.size
    by_cases hp : k < l.length
    · obtain ⟨b, off, x, hA, hb, hd, hx, hxa, _⟩ := (hr.below hbel).at_ k hp
      have hxk := getElem_of_drop hd
      rw [hd, ros_cons, right_cons] at hv
      have HD := Lib.hid hxk
      have HX := Lib.hid hx
      have HA := Lib.hid (hxa.more hsz)
      have HM0 := Lib.hid hm0
      have HM1 := Lib.hid hm1
      have g0 := (range5 hx).1
      clear hx
      subst hA
      have HN : V = false ∨ okRow x.ro = true := by
        cases h3 : okRow x.ro with
        | true => exact .inr rfl
        | false => rw [h3, Bool.and_false, Bool.false_and] at hv; exact .inl hv.symm
      cases h3 : okRow x.ro with
      | false =>
        obtain rfl : V = false := by
          rcases HN with h | h
          · exact h
          · rw [h3] at h; cases h
        have H3 := Lib.hid h3
        clear h3 HN hv
        cases k with
        | zero =>
          rw [show off + 0 * 5 = off from by omega] at HX g0
          go_wp2_with (first | (refine wpList_load_mid rfl 43 (.tmp 18) rfl b off rfl _ _ HX.out Try.underlying43 rfl size_row ?_) | (go_at_call 41; refine (refRow_any x wr HA.out).mono ?_; rintro e w3 ⟨rfl, hb3⟩; rw [H3.out]))
          go_ret
          exact ⟨rfl, hbel.trans (hb3.mono hsz)⟩
        | succ k =>
          have p0 : True := trivial
          go_wp2_with (first | (refine wpList_load_mid rfl 43 (.tmp 18) rfl b (off + (k + 1) * 5) rfl _ _ HX.out Try.underlying43 rfl size_row ?_) | (go_at_call 41; refine (refRow_any x wr HA.out).mono ?_; rintro e w3 ⟨rfl, hb3⟩; rw [H3.out]))
          go_ret
          exact ⟨rfl, hbel.trans (hb3.mono hsz)⟩
      | true =>
      clear HN
      have H3 := Lib.hid h3
      rw [h3, Bool.and_true] at hv
      clear h3
      by_cases h1 : 0 ≤ x.ro.depth
      · have h1' : decide (x.ro.depth < 0) = false := decide_eq_false (by omega)
        rw [decide_eq_true h1, Bool.true_and] at hv
        cases k with
        | zero =>
          rw [show off + 0 * 5 = off from by omega] at HX g0
          obtain rfl := HM0.out rfl
          cases h2 : x.ro.depth == 0 with
          | true =>
            have h2' : (x.ro.depth != 0) = false := by rw [bne, h2]; rfl
            have h5 : x.ro.depth = 0 := beq_iff_eq.1 h2
            rw [decide_eq_true (by omega), Bool.true_and] at hv
            have HV : Hid (rightFrom (deepest x.ro) (ros (l.drop (0 + 1))) = V) := Lib.hid hv
            have H5 := Lib.hid h5
            clear hv h5
            have h6 : x.ro.depth ≤ 0 := by have := H5.out; omega
            go_wp2_with (first | (refine wpList_load_mid rfl 43 (.tmp 18) rfl b off rfl _ _ HX.out Try.underlying43 rfl size_row ?_) | (go_at_call 41; refine (refRow_any x wr HA.out).mono ?_; rintro e w3 ⟨rfl, hb3⟩; rw [H3.out]))
            go_roundw
            case rel => exact ⟨0 + 1, deepest x.ro, by go_num, by omega, HV.out, hbel.trans (hb3.mono hsz), fun h => by omega, fun j p' hj hp' => by
              obtain rfl : j = 0 := by omega
              have e := HD.out.symm.trans hp'
              injection e with e
              subst e
              exact ⟨rfl, by omega, by omega⟩⟩
            case measure => simp [intOf]; omega
          | false =>
            have h2' : (x.ro.depth != 0) = true := by rw [bne, h2]; rfl
            have h5 : ¬ x.ro.depth = 0 := beq_eq_false_iff_ne.1 h2
            rw [decide_eq_false (by omega), Bool.false_and] at hv
            subst hv
            clear h5
            go_wp2_with (first | (refine wpList_load_mid rfl 43 (.tmp 18) rfl b off rfl _ _ HX.out Try.underlying43 rfl size_row ?_) | (go_at_call 41; refine (refRow_any x wr HA.out).mono ?_; rintro e w3 ⟨rfl, hb3⟩; rw [H3.out]))
            go_ret
            exact ⟨rfl, hbel.trans (hb3.mono hsz)⟩
        | succ k =>
          have hpl : k < l.length := by omega
          obtain ⟨b2, off2, p, e, _, hd2, hp2, _, _⟩ := (hr.below hbel).at_ k hpl
          injection e with e
          injection e with e1 e2
          subst e1 e2
          obtain ⟨hm, hpd0, hpd1⟩ := HM1.out k p rfl (getElem_of_drop hd2)
          have p0 := (range5 hp2).1
          have p1 := (range5 hp2).2.1
          clear hp2 hd2
          by_cases h4 : p.ro.depth + 1 < x.ro.depth
          · rw [hm, decide_eq_false (by unfold deepest; split <;> omega), Bool.false_and] at hv
            subst hv
            clear hm
            go_wp2_with (first | (refine wpList_load_mid rfl 43 (.tmp 18) rfl b (off + (k + 1) * 5) rfl _ _ HX.out Try.underlying43 rfl size_row ?_) | (go_at_call 41; refine (refRow_any x wr HA.out).mono ?_; rintro e w3 ⟨rfl, hb3⟩; rw [H3.out]; have q0 := (hb3.cell (p := ⟨b, off + k * 5, none⟩) (Nat.lt_of_lt_of_le hb hsz)).trans p0; have q1 := (hb3.cell (p := ⟨b, off + k * 5 + 1, none⟩) (Nat.lt_of_lt_of_le hb hsz)).trans p1))
            go_ret
            exact ⟨rfl, hbel.trans (hb3.mono hsz)⟩
          · have h4' : decide (p.ro.depth + 1 < x.ro.depth) = false := decide_eq_false h4
            cases h5 : x.ro.depth == p.ro.depth + 1 with
            | true =>
              have h5a : x.ro.depth = p.ro.depth + 1 := beq_iff_eq.1 h5
              cases h6 : p.ro.kind == 0 with
              | true =>
                have h6' : (p.ro.kind != 0) = false := by rw [bne, h6]; rfl
                have h6a := beq_iff_eq.1 h6
                rw [hm, decide_eq_true (by unfold deepest; rw [if_pos h6a]; omega), Bool.true_and] at hv
                have HV : Hid (rightFrom (deepest x.ro) (ros (l.drop (k + 1 + 1))) = V) := Lib.hid hv
                have h7 : x.ro.depth ≤ k + 1 := by omega
                clear hm hv h5a h6a
                go_wp2_with (first | (refine wpList_load_mid rfl 43 (.tmp 18) rfl b (off + (k + 1) * 5) rfl _ _ HX.out Try.underlying43 rfl size_row ?_) | (go_at_call 41; refine (refRow_any x wr HA.out).mono ?_; rintro e w3 ⟨rfl, hb3⟩; rw [H3.out]; have q0 := (hb3.cell (p := ⟨b, off + k * 5, none⟩) (Nat.lt_of_lt_of_le hb hsz)).trans p0; have q1 := (hb3.cell (p := ⟨b, off + k * 5 + 1, none⟩) (Nat.lt_of_lt_of_le hb hsz)).trans p1))
                go_roundw
                case rel => exact ⟨k + 1 + 1, deepest x.ro, by go_num, by omega, HV.out, hbel.trans (hb3.mono hsz), fun h => by omega, fun j p' hj hp' => by
                  obtain rfl : j = k + 1 := by omega
                  have e := HD.out.symm.trans hp'
                  injection e with e
                  subst e
                  exact ⟨rfl, by omega, by omega⟩⟩
                case measure => simp [intOf]; omega
              | false =>
                have h6' : (p.ro.kind != 0) = true := by rw [bne, h6]; rfl
                have h6a := beq_eq_false_iff_ne.1 h6
                rw [hm, decide_eq_false (by unfold deepest; rw [if_neg h6a]; omega), Bool.false_and] at hv
                subst hv
                clear hm h5a h6a
                go_wp2_with (first | (refine wpList_load_mid rfl 43 (.tmp 18) rfl b (off + (k + 1) * 5) rfl _ _ HX.out Try.underlying43 rfl size_row ?_) | (go_at_call 41; refine (refRow_any x wr HA.out).mono ?_; rintro e w3 ⟨rfl, hb3⟩; rw [H3.out]; have q0 := (hb3.cell (p := ⟨b, off + k * 5, none⟩) (Nat.lt_of_lt_of_le hb hsz)).trans p0; have q1 := (hb3.cell (p := ⟨b, off + k * 5 + 1, none⟩) (Nat.lt_of_lt_of_le hb hsz)).trans p1))
                go_ret
                exact ⟨rfl, hbel.trans (hb3.mono hsz)⟩
            | false =>
              have h5a : ¬ x.ro.depth = p.ro.depth + 1 := beq_eq_false_iff_ne.1 h5
              rw [hm, decide_eq_true (by unfold deepest; split <;> omega), Bool.true_and] at hv
              have HV : Hid (rightFrom (deepest x.ro) (ros (l.drop (k + 1 + 1))) = V) := Lib.hid hv
              have h7 : x.ro.depth ≤ p.ro.depth := by omega
              clear hm hv h5a
              go_wp2_with (first | (refine wpList_load_mid rfl 43 (.tmp 18) rfl b (off + (k + 1) * 5) rfl _ _ HX.out Try.underlying43 rfl size_row ?_) | (go_at_call 41; refine (refRow_any x wr HA.out).mono ?_; rintro e w3 ⟨rfl, hb3⟩; rw [H3.out]; have q0 := (hb3.cell (p := ⟨b, off + k * 5, none⟩) (Nat.lt_of_lt_of_le hb hsz)).trans p0; have q1 := (hb3.cell (p := ⟨b, off + k * 5 + 1, none⟩) (Nat.lt_of_lt_of_le hb hsz)).trans p1))
              go_roundw
              case rel => exact ⟨k + 1 + 1, deepest x.ro, by go_num, by omega, HV.out, hbel.trans (hb3.mono hsz), fun h => by omega, fun j p' hj hp' => by
                obtain rfl : j = k + 1 := by omega
                have e := HD.out.symm.trans hp'
                injection e with e
                subst e
                exact ⟨rfl, by omega, by omega⟩⟩
              case measure => simp [intOf]; omega
      · have h1' : x.ro.depth < 0 := by omega
        rw [decide_eq_false h1, Bool.false_and, Bool.false_and] at hv
        subst hv
        cases k with
        | zero =>
          rw [show off + 0 * 5 = off from by omega] at HX g0
          go_wp2_with (first | (refine wpList_load_mid rfl 43 (.tmp 18) rfl b off rfl _ _ HX.out Try.underlying43 rfl size_row ?_) | (go_at_call 41; refine (refRow_any x wr HA.out).mono ?_; rintro e w3 ⟨rfl, hb3⟩; rw [H3.out]))
          go_ret
          exact ⟨rfl, hbel.trans (hb3.mono hsz)⟩
        | succ k =>
          go_wp2_with (first | (refine wpList_load_mid rfl 43 (.tmp 18) rfl b (off + (k + 1) * 5) rfl _ _ HX.out Try.underlying43 rfl size_row ?_) | (go_at_call 41; refine (refRow_any x wr HA.out).mono ?_; rintro e w3 ⟨rfl, hb3⟩; rw [H3.out]))
          go_ret
          exact ⟨rfl, hbel.trans (hb3.mono hsz)⟩
    · rw [List.drop_eq_nil_of_le (by omega)] at hv
      have HV := Lib.hid hv
      clear hv hm0 hm1
      go_wp2
      go_ret
      exact ⟨ret_bool HV.out, hbel⟩

theorem refCheck_any (A : Option Addr) (c : Nat) (l : List Cw) (w : World) (hr : Rr w w.heap.size A l) (hc : l.length ≤ c) (hm : l.length ≤ 1000000) :
    Calls Try.prog 14 #[.slice A l.length c] w fun e w' => e = .returned (.int .i64 (check (ros l))) ∧ Below w.heap.size w w' := by
  cases h1 : exceeds (ros l) 4096 60 with
  | true =>
    rw [check, h1, if_pos rfl]
    have H1 := Lib.hid h1
    clear h1
    go_enter Try.func14, Try.ntmps14
    go_wp2_with fail
    refine (big_any A c l w hr hc hm).mono ?_
    rintro e w1 ⟨rfl, rfl⟩
    rw [H1.out]
    go_wp2
    go_ret
    exact ⟨rfl, Below.refl _ _⟩
  | false =>
    cases h2 : right (ros l) with
    | true =>
      rw [check, h1, h2, if_neg (by decide), if_pos rfl]
      have H1 := Lib.hid h1; have H2 := Lib.hid h2
      clear h1 h2
      go_enter Try.func14, Try.ntmps14
      go_wp2_with fail
      refine (big_any A c l w hr hc hm).mono ?_
      rintro e w1 ⟨rfl, rfl⟩
      rw [H1.out]
      go_wp2_with fail
      refine (refRight_any A c l w hr hc hm).mono ?_
      rintro e w2 ⟨rfl, hb2⟩
      rw [H2.out]
      go_wp2
      go_ret
      exact ⟨rfl, hb2⟩
    | false =>
      rw [check, h1, h2, if_neg (by decide), if_neg (by decide)]
      have H1 := Lib.hid h1; have H2 := Lib.hid h2
      clear h1 h2
      go_enter Try.func14, Try.ntmps14
      go_wp2_with fail
      refine (big_any A c l w hr hc hm).mono ?_
      rintro e w1 ⟨rfl, rfl⟩
      rw [H1.out]
      go_wp2_with fail
      refine (refRight_any A c l w hr hc hm).mono ?_
      rintro e w2 ⟨rfl, hb2⟩
      rw [H2.out]
      go_wp2
      go_ret
      exact ⟨rfl, hb2⟩

end Go.Proofs.Ytblefklfgaohfaa.Ro
