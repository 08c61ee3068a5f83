/-
  Walks of stage 4: validRow, valid, Check.
-/
import Derived.Test.YtblefklfgaohfaaRowWalkC
namespace Go.Proofs.Ytblefklfgaohfaa.Ro
set_option linter.unusedVariables false
set_option linter.unusedSimpArgs false
open Go.RowKit Ba

set_option maxRecDepth 100000 in
theorem validRow_any (x : Cw) (w : World) (hx : Att w w.heap.size x) :
    Calls Try.prog 50 #[rowV x] w fun e w' => e = .returned (.bool (okRow x.ro)) ∧ Below w.heap.size w w' := by
  have hN := fun o => below_new w o
  have HN := Lib.hid hN
  clear hN
  go_enter Try.func50, Try.ntmps50
  go_wp2_with (go_at_call 53; refine (repeated_any x.A x.c x.ro.attrs _ ((hx.2.2.2.1.below (HN.out _)).more (by simp)) hx.1 hx.2.2.2.2 hx.2.2.1).mono ?_; rintro e w1 ⟨rfl, hb1⟩)
  all_goals (go_ret; refine ⟨ret_bool ?_, ?_⟩)
  all_goals first | exact HN.out _ | exact bt (HN.out _) hb1 | simp [okRow, *]

theorem right_cons (m : Int) (x : Ro) (r : List Ro) : rightFrom m (x :: r) = (decide (0 ≤ x.depth) && decide (x.depth ≤ m) && okRow x && rightFrom (if x.kind = 0 then x.depth + 1 else x.depth) r) := rfl

set_option maxRecDepth 100000 in
set_option maxHeartbeats 1000000 in
theorem valid_any (A : Option Addr) (c : Nat) (l : List Cw) (w : World) (hr : Rr w w.heap.size A l) (hc : l.length ≤ c) (hm : l.length ≤ 1000000) :
    Calls Try.prog 37 #[.slice A l.length c] w fun e w' => e = .returned (.bool (right (ros l))) ∧ Below w.heap.size w w' := by
  obtain ⟨V, hV⟩ : ∃ V, right (ros l) = V := ⟨_, rfl⟩
  rw [hV]
  have HV := Lib.hid hV
  clear hV
  go_enter Try.func37, Try.ntmps37
  go_wp2
  go_loopw [3, 8] (fun d i wr => ∃ (k : Nat) (m : Int), i = .int .i64 k ∧ d = .int .i64 m ∧ k ≤ l.length ∧ 0 ≤ m ∧ m ≤ k ∧ rightFrom m (ros (l.drop k)) = V ∧ Below w.heap.size w wr) (fun _ i _ => l.length - (intOf i).toNat)
  case atStart => exact ⟨0, 0, rfl, rfl, by omega, by omega, by omega, HV.out, Below.refl _ _⟩
  case round =>
    clear HV
    obtain ⟨k, m, rfl, rfl, hk, hm0, hm1, hv, hbel⟩ := hrel
    have hsz := hbel.size
    by_cases hp : k < l.length
    · obtain ⟨b, off, x, rfl, hb, hd, hx, hxa, _⟩ := (hr.below hbel).at_ k hp
      rw [hd, ros_cons, right_cons] at hv
      have HA := Lib.hid (hxa.boxed hbel (rowO x)); have HB := Lib.hid (hbel.alloc hsz (rowO x))
      clear hd
      by_cases h1 : 0 ≤ x.ro.depth
      · have h1' : decide (x.ro.depth < 0) = false := decide_eq_false (by omega)
        by_cases h2 : x.ro.depth ≤ m
        · have h2' : decide (m < x.ro.depth) = false := decide_eq_false (by omega)
          rw [decide_eq_true h1, decide_eq_true h2, Bool.true_and, Bool.true_and] at hv
          cases h3 : okRow x.ro with
          | false =>
            rw [h3, Bool.false_and] at hv
            subst hv
            have H3 := Lib.hid h3
            clear h3
            go_wp2_with (first | (refine wpList_load_mid rfl 43 (.tmp 10) rfl b (off + k * 5) rfl _ _ hx Try.underlying43 rfl size_row ?_) | (go_at_call 50; refine (validRow_any x _ HA.out).mono ?_; rintro e w3 ⟨rfl, hb3⟩; rw [H3.out]; have g0 := box_kept hb3 0; have g1 := box_kept hb3 1; simp only [cells, List.getElem?_cons_zero, List.getElem?_cons_succ] at g0 g1))
            go_ret
            exact ⟨rfl, HB.out.trans (hb3.mono HB.out.size)⟩
          | true =>
            rw [h3, Bool.true_and] at hv
            have H3 := Lib.hid h3
            clear h3
            cases h4 : x.ro.kind == 0 with
            | true =>
              rw [if_pos (beq_iff_eq.1 h4)] at hv
              have HV := Lib.hid hv
              clear hv
              go_wp2_with (first | (refine wpList_load_mid rfl 43 (.tmp 10) rfl b (off + k * 5) rfl _ _ hx Try.underlying43 rfl size_row ?_) | (go_at_call 50; refine (validRow_any x _ HA.out).mono ?_; rintro e w3 ⟨rfl, hb3⟩; rw [H3.out]; have g0 := box_kept hb3 0; have g1 := box_kept hb3 1; simp only [cells, List.getElem?_cons_zero, List.getElem?_cons_succ] at g0 g1))
              go_roundw
              case rel => exact ⟨k + 1, x.ro.depth + 1, by go_num, rfl, by omega, by omega, by omega, HV.out, HB.out.trans (hb3.mono HB.out.size)⟩
              case measure => simp [intOf]; omega
            | false =>
              rw [if_neg (beq_eq_false_iff_ne.1 h4)] at hv
              have HV := Lib.hid hv
              clear hv
              go_wp2_with (first | (refine wpList_load_mid rfl 43 (.tmp 10) rfl b (off + k * 5) rfl _ _ hx Try.underlying43 rfl size_row ?_) | (go_at_call 50; refine (validRow_any x _ HA.out).mono ?_; rintro e w3 ⟨rfl, hb3⟩; rw [H3.out]; have g0 := box_kept hb3 0; have g1 := box_kept hb3 1; simp only [cells, List.getElem?_cons_zero, List.getElem?_cons_succ] at g0 g1))
              go_roundw
              case rel => exact ⟨k + 1, x.ro.depth, by go_num, rfl, by omega, by omega, by omega, HV.out, HB.out.trans (hb3.mono HB.out.size)⟩
              case measure => simp [intOf]; omega
        · rw [decide_eq_false h2, Bool.and_false, Bool.false_and, Bool.false_and] at hv
          subst hv
          have h2' : m < x.ro.depth := by omega
          go_wp2_with (refine wpList_load_mid rfl 43 (.tmp 10) rfl b (off + k * 5) rfl _ _ hx Try.underlying43 rfl size_row ?_)
          go_ret
          exact ⟨rfl, HB.out⟩
      · rw [decide_eq_false h1, Bool.false_and, Bool.false_and, Bool.false_and] at hv
        subst hv
        have h1' : x.ro.depth < 0 := by omega
        go_wp2_with (refine wpList_load_mid rfl 43 (.tmp 10) rfl b (off + k * 5) rfl _ _ hx Try.underlying43 rfl size_row ?_)
        go_ret
        exact ⟨rfl, HB.out⟩
    · rw [List.drop_eq_nil_of_le (by omega)] at hv
      have HV := Lib.hid hv
      clear hv
      go_wp2
      go_ret
      exact ⟨ret_bool HV.out, hbel⟩

/-- Are rows trees, within the limits? -/
def check (l : List Ro) : Int := if exceeds l 4096 60 then 2 else if right l then 0 else 40
theorem Check_any (A : Option Addr) (c : Nat) (l : List Cw) (w : World) (hr : Rr w w.heap.size A l) (hc : l.length ≤ c) (hm : l.length ≤ 1000000) :
    Calls Try.prog 13 #[.slice A l.length c] w fun e w' => e = .returned (.int .i64 (check (ros l))) ∧ Below w.heap.size w w' := by
  cases h1 : exceeds (ros l) 4096 60 with
  | true =>
    rw [check, h1, if_pos rfl]
    have H1 := Lib.hid h1
    clear h1
    go_enter Try.func13, Try.ntmps13
    go_wp2_with fail
    refine (exceeds_any A c l 4096 60 w hr hc hm).mono ?_
    rintro e w1 ⟨rfl, hb1⟩
    rw [H1.out]
    go_wp2
    go_ret
    exact ⟨rfl, hb1⟩
  | false =>
    cases h2 : right (ros l) with
    | true =>
      rw [check, h1, h2, if_neg (by decide), if_pos rfl]
      have H1 := Lib.hid h1; have H2 := Lib.hid h2
      clear h1 h2
      go_enter Try.func13, Try.ntmps13
      go_wp2_with fail
      refine (exceeds_any A c l 4096 60 w hr hc hm).mono ?_
      rintro e w1 ⟨rfl, hb1⟩
      rw [H1.out]
      go_wp2_with fail
      refine (valid_any A c l w1 ((hr.below hb1).more hb1.size) hc hm).mono ?_
      rintro e w2 ⟨rfl, hb2⟩
      rw [H2.out]
      go_wp2
      go_ret
      exact ⟨rfl, bt hb1 hb2⟩
    | false =>
      rw [check, h1, h2, if_neg (by decide), if_neg (by decide)]
      have H1 := Lib.hid h1; have H2 := Lib.hid h2
      clear h1 h2
      go_enter Try.func13, Try.ntmps13
      go_wp2_with fail
      refine (exceeds_any A c l 4096 60 w hr hc hm).mono ?_
      rintro e w1 ⟨rfl, hb1⟩
      rw [H1.out]
      go_wp2_with fail
      refine (valid_any A c l w1 ((hr.below hb1).more hb1.size) hc hm).mono ?_
      rintro e w2 ⟨rfl, hb2⟩
      rw [H2.out]
      go_wp2
      go_ret
      exact ⟨rfl, bt hb1 hb2⟩

end Go.Proofs.Ytblefklfgaohfaa.Ro
