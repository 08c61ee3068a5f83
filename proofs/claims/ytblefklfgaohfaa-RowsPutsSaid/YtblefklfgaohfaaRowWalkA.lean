/-
  Walks of stage 4: has, depthOf, exceeds, Big.
-/
import Derived.Test.YtblefklfgaohfaaRowBase
namespace Go.Proofs.Ytblefklfgaohfaa.Ro
set_option linter.unusedVariables false
set_option linter.unusedSimpArgs false
open Go.RowKit Ba

theorem has_any (A : Option Addr) (n c : Nat) (i : Int) (w : World) (h : n ≤ c) :
    Calls Try.prog 42 #[.slice A n c, .int .i64 i] w fun e w' => e = .returned (.bool (decide (0 ≤ i ∧ i < n))) ∧ w = w' := by
  by_cases h1 : 0 ≤ i
  · by_cases h2 : i < n
    · have e : decide (0 ≤ i ∧ i < n) = true := decide_eq_true ⟨h1, h2⟩
      rw [e]
      clear e
      go_enter Try.func42, Try.ntmps42
      go_wp2
      go_ret
      exact ⟨rfl, rfl⟩
    · have e : decide (0 ≤ i ∧ i < n) = false := decide_eq_false fun e => h2 e.2
      have h2' : decide (i < n) = false := decide_eq_false h2
      rw [e]
      clear e
      go_enter Try.func42, Try.ntmps42
      go_wp2
      go_ret
      exact ⟨rfl, rfl⟩
  · have h1' : decide (0 ≤ i) = false := decide_eq_false h1
    have e : decide (0 ≤ i ∧ i < n) = false := decide_eq_false fun e => h1 e.1
    rw [e]
    clear e
    go_enter Try.func42, Try.ntmps42
    go_wp2
    go_ret
    exact ⟨rfl, rfl⟩

theorem depthTop_any (A : Option Addr) (n c : Nat) (w : World) :
    Calls Try.prog 47 #[.slice A n c, .int .i64 (-1)] w fun e w' => e = .returned (.int .i64 (-1)) ∧ w = w' := by
  go_enter Try.func47, Try.ntmps47
  go_wp2
  go_ret
  exact ⟨rfl, rfl⟩
theorem depthAt_any (A : Option Addr) (c : Nat) (l : List Cw) (k : Nat) (w : World) (hr : Rr w w.heap.size A l) (hc : l.length ≤ c) (hm : l.length ≤ 1000000) (hk : k < l.length) :
    Calls Try.prog 47 #[.slice A l.length c, .int .i64 k] w fun e w' => e = .returned (.int .i64 (dep (ros l) k)) ∧ w = w' := by
  obtain ⟨b, off, x, rfl, hb, hd, hx, _, _⟩ := hr.at_ k hk
  have hg := (range5 hx).1
  have e : dep (ros l) k = x.ro.depth := dep_at (by rw [ros, List.getElem?_map, getElem_of_drop hd]; rfl)
  rw [e]
  clear hd hx hr e
  have hk1 : ((k : Int) == -1) = false := by rw [beq_eq_false_iff_ne]; omega
  go_enter Try.func47, Try.ntmps47
  go_wp2
  go_ret
  exact ⟨rfl, rfl⟩
theorem depthOf_any (A : Option Addr) (c : Nat) (l : List Cw) (i : Int) (w : World) (hr : Rr w w.heap.size A l) (hc : l.length ≤ c) (hm : l.length ≤ 1000000) (h1 : -1 ≤ i) (h2 : i < l.length) :
    Calls Try.prog 47 #[.slice A l.length c, .int .i64 i] w fun e w' => e = .returned (.int .i64 (dep (ros l) i)) ∧ w = w' := by
  by_cases h : i = -1
  · subst h
    exact depthTop_any A _ c w
  · obtain ⟨k, rfl⟩ := Int.eq_ofNat_of_zero_le (show 0 ≤ i by omega)
    exact depthAt_any A c l k w hr hc hm (by omega)

theorem exceeds_any (A : Option Addr) (c : Nat) (l : List Cw) (n d : Int) (w : World) (hr : Rr w w.heap.size A l) (hc : l.length ≤ c) (hm : l.length ≤ 1000000) :
    Calls Try.prog 36 #[.slice A l.length c, .int .i64 n, .int .i64 d] w fun e w' => e = .returned (.bool (exceeds (ros l) n d)) ∧ Below w.heap.size w w' := by
  by_cases h1 : n < l.length
  · go_enter Try.func36, Try.ntmps36
    go_wp2
    go_ret
    exact ⟨ret_bool (by simp [exceeds, len_ros, h1]), Below.refl _ _⟩
  · have h1' : decide (n < l.length) = false := decide_eq_false h1
    go_enter Try.func36, Try.ntmps36
    go_wp2
    go_loopw [15] (fun i wr => ∃ k : Nat, i = .int .i64 k ∧ k ≤ l.length ∧ (ros (l.drop k)).any (fun x => decide (d ≤ x.depth)) = exceeds (ros l) n d ∧ Below w.heap.size w wr) (fun i _ => l.length - (intOf i).toNat)
    case atStart => exact ⟨0, rfl, by omega, by rw [List.drop_zero, exceeds, len_ros, decide_eq_false (by omega), Bool.false_or], Below.refl _ _⟩
    case round =>
      obtain ⟨k, rfl, hk, hv, hbel⟩ := hrel
      have hsz := hbel.size
      by_cases hp : k < l.length
      · obtain ⟨b, off, x, rfl, hb, hd, hx, _, _⟩ := (hr.below hbel).at_ k hp
        rw [hd, ros_cons, List.any_cons] at hv
        clear hd
        by_cases h2 : d ≤ x.ro.depth
        · rw [decide_eq_true h2, Bool.true_or] at hv
          have HV := Lib.hid hv
          clear hv
          go_wp2_with (refine wpList_load_mid rfl 43 (.tmp 17) rfl b (off + k * 5) rfl _ _ hx Try.underlying43 rfl size_row ?_)
          go_ret
          exact ⟨ret_bool HV.out, hbel.alloc hsz _⟩
        · rw [decide_eq_false h2, Bool.false_or] at hv
          have HV := Lib.hid hv
          have h2' : decide (d ≤ x.ro.depth) = false := decide_eq_false h2
          clear hv
          go_wp2_with (refine wpList_load_mid rfl 43 (.tmp 17) rfl b (off + k * 5) rfl _ _ hx Try.underlying43 rfl size_row ?_)
          go_roundw
          case rel => exact ⟨k + 1, by go_num, by omega, HV.out, hbel.alloc hsz _⟩
          case measure => simp [intOf]; omega
      · rw [List.drop_eq_nil_of_le (by omega)] at hv
        have HV := Lib.hid hv
        clear hv
        go_wp2
        go_ret
        exact ⟨ret_bool HV.out, hbel⟩

theorem big_any (A : Option Addr) (c : Nat) (l : List Cw) (w : World) (hr : Rr w w.heap.size A l) (hc : l.length ≤ c) (hm : l.length ≤ 1000000) :
    Calls Try.prog 38 #[.slice A l.length c] w fun e w' => e = .returned (.bool (exceeds (ros l) 4096 60)) ∧ w = w' := by
  go_enter Try.func38, Try.ntmps38
  go_wp2
  go_loop [3] (fun i => ∃ k : Nat, i = .int .i64 k ∧ k ≤ l.length ∧ (decide (4096 < l.length) || (ros (l.drop k)).any fun x => decide (60 ≤ x.depth)) = exceeds (ros l) 4096 60) (fun i => l.length - (intOf i).toNat)
  case atStart => exact ⟨0, rfl, by omega, by rw [List.drop_zero, exceeds, len_ros]; congr 2; simp; omega⟩
  case round =>
    obtain ⟨k, rfl, hk, hv⟩ := hrel
    by_cases hp : k < l.length
    · obtain ⟨b, off, x, rfl, hb, hd, hx, _, _⟩ := hr.at_ k hp
      rw [hd, ros_cons, List.any_cons] at hv
      clear hd
      have hg := (range5 hx).1
      by_cases h2 : 60 ≤ x.ro.depth
      · rw [decide_eq_true h2, Bool.true_or, Bool.or_true] at hv
        have HV := Lib.hid hv
        clear hv hx
        go_wp2
        go_ret
        exact ⟨ret_bool HV.out, rfl⟩
      · rw [decide_eq_false h2, Bool.false_or] at hv
        have HV := Lib.hid hv
        have h2' : decide (60 ≤ x.ro.depth) = false := decide_eq_false h2
        clear hv hx
        go_wp2
        go_round
        case rel => exact ⟨k + 1, by go_num, by omega, HV.out⟩
        case measure => simp [intOf]; omega
    · rw [List.drop_eq_nil_of_le (by omega)] at hv
      have HV := Lib.hid hv
      clear hv
      go_wp2
      go_ret
      exact ⟨ret_bool (by rw [← HV.out]; simp [ros]; omega), rfl⟩

end Go.Proofs.Ytblefklfgaohfaa.Ro
