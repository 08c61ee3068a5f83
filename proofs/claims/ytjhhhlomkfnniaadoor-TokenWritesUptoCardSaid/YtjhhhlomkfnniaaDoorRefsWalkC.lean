/-
  Walks of stage 3: the value of digits (boltingref03.value, refs.numbered).
-/
import Derived.Test.YtjhhhlomkfnniaaDoorRefsWalkB
namespace Go.Proofs.YtjhhhlomkfnniaaDoor.Re
set_option linter.unusedSimpArgs false
set_option linter.unusedVariables false
open Go.RowKit Ba Rm

theorem min_int (x m : Int) (w : World) : ∀ ts t, (Builtin.min_ ts t #[.int .i64 x, .int .i64 m]).run Tryd.prog w = .ok (.int .i64 (min x m)) w := fun ts t => by
  rw [run_min_int2]
  congr 2
  split <;> omega
theorem prod_bound {n base : Int} (h0 : 0 ≤ n) (h1 : n ≤ 1114112) (hb : base = 10 ∨ base = 16) : 0 ≤ n * base ∧ n * base ≤ 17825792 := by
  rcases hb with rfl | rfl <;> omega
theorem ret_ib {a b : Int} {x y : Bool} (h : a = b) (k : x = y) : Ending.returned (.tuple #[.int .i64 a, .bool x]) = .returned (.tuple #[.int .i64 b, .bool y]) := by rw [h, k]
theorem val_stop {base n : Int} {c : UInt8} {r : List UInt8} (h : dig c < 0 ∨ base ≤ dig c) : val base n (c :: r) = none := by rw [val, if_pos h]
theorem val_on {base n : Int} {c : UInt8} {r : List UInt8} (h : ¬ (dig c < 0 ∨ base ≤ dig c)) : val base n (c :: r) = val base (min (n * base + dig c) 1114112) r := by rw [val, if_neg h]

set_option maxHeartbeats 1000000 in
theorem value_any (s : ByteArray) (base : Int) (hbase : base = 10 ∨ base = 16) (w : World) (hs : s.size ≤ 140737488355328) :
    Calls Tryd.prog 88 #[.string s, .int .i64 base] w fun e w' => e = .returned (.tuple #[.int .i64 ((val base 0 (L s)).getD 0), .bool ((val base 0 (L s)).isSome && decide (0 < s.size))]) ∧ w = w' := by
  obtain ⟨V, hV⟩ : ∃ V, val base 0 (L s) = V := ⟨_, rfl⟩
  rw [hV]
  go_enter Tryd.func88, Tryd.ntmps88
  go_wp2
  go_loop [6, 7] (fun v i => ∃ (k : Nat) (n : Int), i = .int .i64 k ∧ v = .int .i64 n ∧ k ≤ s.size ∧ 0 ≤ n ∧ n ≤ 1114112 ∧ val base n ((L s).drop k) = V) (fun _ i => s.size - (intOf i).toNat)
  case atStart => exact ⟨0, 0, rfl, rfl, Nat.zero_le _, Int.le_refl _, by omega, by rw [List.drop_zero]; exact hV⟩
  case round =>
    clear hV
    obtain ⟨k, n, rfl, rfl, hks, hn0, hn1, hc⟩ := hrel
    by_cases hp : k < s.size
    · rw [drop_cons s k hp] at hc
      have hdl := dig_le s[k]
      by_cases hd : dig s[k] < 0 ∨ base ≤ dig s[k]
      · rw [val_stop hd] at hc
        subst hc
        rcases hd with hd | hd
        · go_wp2_with (go_at_call 99; refine (refDigit_any s[k] _).mono ?_; rintro e w' ⟨rfl, rfl⟩)
          go_ret2
          exact ⟨rfl, rfl⟩
        · have hd0 : ¬ dig s[k] < 0 := by omega
          go_wp2_with (go_at_call 99; refine (refDigit_any s[k] _).mono ?_; rintro e w' ⟨rfl, rfl⟩)
          go_ret2
          exact ⟨rfl, rfl⟩
      · rw [val_on hd] at hc
        have hd0 : ¬ dig s[k] < 0 := by omega
        have hd1 : ¬ base ≤ dig s[k] := by omega
        have hpb := prod_bound hn0 hn1 hbase
        obtain ⟨p1, p2⟩ := hpb
        have hmin := min_int (n * base + dig s[k]) 1114112 w
        have HC := Lib.hid hc; clear hc hd
        go_wp2_with (go_at_call 99; refine (refDigit_any s[k] _).mono ?_; rintro e w' ⟨rfl, rfl⟩)
        go_round
        case rel => exact ⟨k + 1, _, by go_num, rfl, by omega, by omega, by omega, HC.out⟩
        case measure => simp [intOf]; omega
    · rw [drop_nil s k hp] at hc
      have hc' : V = some n := hc.symm
      subst hc'
      clear hc
      go_wp2
      go_ret2
      exact ⟨ret_ib rfl rfl, rfl⟩

/-- One character of a text that is ranged over: a byte below 128 is its own; any other one is no digit. -/
theorem get_at (s : ByteArray) (k : Nat) (h : k < s.size) : s.get! (k + 0) = s[k] := by
  show s.data[k]! = s.data[k]
  exact getElem!_pos s.data k h
theorem dec_small (s : ByteArray) (k : Nat) (h : k < s.size) (hc : s[k].toNat < 128) : Utf8.decode s k = (s[k].toNat, 1) := by
  unfold Utf8.decode
  simp only [get_at s k h, hc, if_true]
theorem dec_big (s : ByteArray) (k : Nat) (h : k < s.size) (hc : ¬ s[k].toNat < 128) : 128 ≤ (Utf8.decode s k).1 ∧ (Utf8.decode s k).1 ≤ 1114111 := by
  unfold Utf8.decode
  simp only [get_at s k h, hc, if_false]
  repeat' split
  all_goals simp only [Utf8.runeError, Utf8.valid, Bool.and_eq_true, Bool.or_eq_true, decide_eq_true_eq, ge_iff_le] at *
  all_goals omega

theorem below_iter (w : World) (s : ByteArray) (p : Nat) : Below w.heap.size w (w.iter s p) := (Below.refl _ _).alloc (Nat.le_refl _) _

set_option maxHeartbeats 1000000 in
theorem numbered_any (s : ByteArray) (base : Int) (hbase : base = 10 ∨ base = 16) (w : World) (hs : s.size ≤ 140737488355328) :
    Calls Tryd.prog 94 #[.string s, .int .i64 base] w fun e w' => e = .returned (.tuple #[.string (B ((numL base (L s)).getD [])), .bool (numL base (L s)).isSome]) ∧ Below w.heap.size w w' := by
  obtain ⟨V, hV⟩ : ∃ V, val base 0 (L s) = V := ⟨_, rfl⟩
  have hN : numL base (L s) = if L s = [] then none else V.map code := by unfold numL; rw [hV]
  have HN := Lib.hid hN; clear hN
  go_enter Tryd.func94, Tryd.ntmps94
  go_wp2
  go_loopw [6] (fun v w' => ∃ (k : Nat) (n : Int), w' = w.iter s k ∧ v = .int .i64 n ∧ k ≤ s.size ∧ 0 ≤ n ∧ n ≤ 1114112 ∧ val base n ((L s).drop k) = V) (fun _ w' => s.size - w'.iterPos w.heap.size)
  case atStart => exact ⟨0, 0, rfl, rfl, Nat.zero_le _, Int.le_refl _, by omega, by rw [List.drop_zero]; exact hV⟩
  case round =>
    clear hV
    obtain ⟨k, n, rfl, rfl, hks, hn0, hn1, hc⟩ := hrel
    by_cases hp : k < s.size
    · have hnx : ∀ ty, (Instr.next (.pointer (some ⟨w.heap.size, 0, none⟩)) true ty).run Tryd.prog (w.iter s k) = _ := fun ty => run_next_any w s k ty hp
      rw [drop_cons s k hp] at hc
      by_cases hsm : s[k].toNat < 128
      · rw [dec_small s k hp hsm] at hnx
        simp only [] at hnx
        have hdl := dig_le s[k]
        have hdq := dig_eq s[k]
        by_cases hd : dig s[k] < 0 ∨ base ≤ dig s[k]
        · rw [val_stop hd] at hc
          subst hc
          rcases hd with hd | hd
          · go_wp2_with (go_at_call 103; refine (digit_any s[k].toNat (by omega) (by omega) _).mono ?_; rw [hdq]; rintro e w' ⟨rfl, rfl⟩)
            go_ret2
            refine ⟨?_, below_iter _ _ _⟩
            rw [HN.out]
            split <;> rfl
          · have hd0 : ¬ dig s[k] < 0 := by omega
            go_wp2_with (go_at_call 103; refine (digit_any s[k].toNat (by omega) (by omega) _).mono ?_; rw [hdq]; rintro e w' ⟨rfl, rfl⟩)
            go_ret2
            refine ⟨?_, below_iter _ _ _⟩
            rw [HN.out]
            split <;> rfl
        · rw [val_on hd] at hc
          have hd0 : ¬ dig s[k] < 0 := by omega
          have hd1 : ¬ base ≤ dig s[k] := by omega
          have hpb := prod_bound hn0 hn1 hbase
          obtain ⟨p1, p2⟩ := hpb
          have hmin := min_int (n * base + dig s[k]) 1114112 (w.iter s (k + 1))
          have HC := Lib.hid hc; clear hc hd
          go_wp2_with (go_at_call 103; refine (digit_any s[k].toNat (by omega) (by omega) _).mono ?_; rw [hdq]; rintro e w' ⟨rfl, rfl⟩)
          go_roundw
          case rel => exact ⟨k + 1, _, rfl, rfl, by omega, by omega, by omega, HC.out⟩
          case measure => simp; omega
      · obtain ⟨hb1, hb2⟩ := dec_big s k hp hsm
        have hdq := digI_far (Utf8.decode s k).1 (by omega)
        have hdg : dig s[k] < 0 := by
          rw [← dig_eq, digI_far _ (by omega)]; decide
        rw [val_stop (.inl hdg)] at hc
        subst hc
        go_wp2_with (go_at_call 103; refine (digit_any (Utf8.decode s k).1 (by omega) (by omega) _).mono ?_; rw [hdq]; rintro e w' ⟨rfl, rfl⟩)
        go_ret2
        refine ⟨?_, below_iter _ _ _⟩
        rw [HN.out]
        split <;> rfl
    · have hnx : ∀ ty, (Instr.next (.pointer (some ⟨w.heap.size, 0, none⟩)) true ty).run Tryd.prog (w.iter s k) = _ := fun ty => run_next_end w s k ty hp
      rw [drop_nil s k hp] at hc
      have hc' : V = some n := hc.symm
      subst hc'
      clear hc
      by_cases h0 : 0 < s.size
      · have hie : s.toList.isEmpty = false := by simpa using ne_empty h0
        have hn2 := ne_empty h0
        have hL : ¬ L s = [] := by rw [← toList_L]; exact hn2
        go_wp2_with (go_at_call 104; refine (code_any n _ (WalkArith.wf_i64 (by omega))).mono ?_; rintro e w' ⟨rfl, rfl⟩)
        go_ret2
        refine ⟨?_, below_iter _ _ _⟩
        rw [HN.out, if_neg hL]
        rfl
      · have hL : L s = [] := List.eq_nil_of_length_eq_zero (by rw [size_L]; omega)
        have hie : s.toList.isEmpty = true := by rw [toList_L, hL]; rfl
        have hn2 : s.toList = [] := by rw [toList_L, hL]
        go_wp2
        go_ret2
        refine ⟨?_, below_iter _ _ _⟩
        rw [HN.out, if_pos hL]
        rfl

end Go.Proofs.YtjhhhlomkfnniaaDoor.Re
