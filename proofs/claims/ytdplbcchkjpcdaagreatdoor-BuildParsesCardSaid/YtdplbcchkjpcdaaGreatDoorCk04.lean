/-
  Walks of stage 3: the digits, has, end, bodyOf, kindOf.
  Walks of stage 3: the value of digits (boltingref03.value, refs.numbered).
  Walks of stage 3: the names (refs.Named over the package's table, boltingref03.Named).
  Walks of stage 3: what a reference's body stands for (refs.denoted, boltingref03.meant), the start of a text (refs.first), a text decoded (refs.Decode, boltingref03.Decode).
  Walks of stage 3: the start of a text (refs.first), a text decoded (refs.Decode, boltingref03.Decode).
  Walks of stage 3: a text decoded (refs.Decode, boltingref03.Decode).
-/
import Derived.Test.YtdplbcchkjpcdaaGreatDoorCk03
import Derived.BigQuiet
import Derived.Deep.QuietTactic
import Derived.Deep.MidRow
namespace Go.Proofs.YtdplbcchkjpcdaaGreatDoor.Re
set_option maxRecDepth 100000
set_option linter.unusedSimpArgs false
set_option linter.unusedVariables false
open Go.RowKit Ba Rm
def digI (x : Int) : Int := if 48 ≤ x ∧ x ≤ 57 then x - 48 else if 97 ≤ x ∧ x ≤ 102 then x - 87 else if 65 ≤ x ∧ x ≤ 70 then x - 55 else -1
theorem dig_eq (c : UInt8) : digI c.toNat = dig c := by
  unfold digI dig
  repeat' split
  all_goals omega
theorem digI_far (x : Int) (h : 128 ≤ x) : digI x = -1 := by
  unfold digI
  repeat' split
  all_goals omega
theorem seven (x : Int) : x < 48 ∨ (48 ≤ x ∧ x ≤ 57) ∨ (57 < x ∧ x < 65) ∨ (65 ≤ x ∧ x ≤ 70) ∨ (70 < x ∧ x < 97) ∨ (97 ≤ x ∧ x ≤ 102) ∨ 102 < x := by omega

set_option maxHeartbeats 1000000 in
theorem digit_any (r : Int) (h0 : 0 ≤ r) (h1 : r ≤ 1114111) (w : World) : Calls Tryz.prog 126 #[.int .i32 r] w fun e w' => e = .returned (.int .i64 (digI r)) ∧ w = w' := by
  rcases seven r with h | ⟨h, h'⟩ | ⟨h, h'⟩ | ⟨h, h'⟩ | ⟨h, h'⟩ | ⟨h, h'⟩ | h
  all_goals
    go_enter Tryz.func126, Tryz.ntmps126
    go_wp2
    go_ret
    refine ⟨ret_int ?_, rfl⟩
    unfold digI
    repeat' split
    all_goals omega

set_option maxHeartbeats 1000000 in
theorem refDigit_any (c : UInt8) (w : World) : Calls Tryz.prog 131 #[.int .u8 c.toNat] w fun e w' => e = .returned (.int .i64 (dig c)) ∧ w = w' := by
  rw [← dig_eq]
  have hc := c.toNat_lt
  generalize c.toNat = m at hc ⊢
  rcases seven m with h | ⟨h, h'⟩ | ⟨h, h'⟩ | ⟨h, h'⟩ | ⟨h, h'⟩ | ⟨h, h'⟩ | h
  all_goals
    go_enter Tryz.func131, Tryz.ntmps131
    go_wp2
    go_ret
    refine ⟨ret_int ?_, rfl⟩
    unfold digI
    repeat' split
    all_goals omega

/-- Where the next ; stands. -/
def endI (l : List UInt8) (k : Nat) : Int := match cutAt (l.drop k) with
  | some b => ((k + b.length : Nat) : Int)
  | none => -1
theorem endI_stop {l r : List UInt8} {k : Nat} (h : l.drop k = 59 :: r) : endI l k = k := by
  unfold endI
  rw [h]
  simp [cutAt]
theorem endI_on {l r : List UInt8} {k : Nat} {c : UInt8} (h : l.drop k = c :: r) (hr : l.drop (k + 1) = r) (hc : c ≠ 59) : endI l k = endI l (k + 1) := by
  unfold endI
  rw [h, hr, cutAt, if_neg hc]
  cases cutAt r with
  | none => rfl
  | some b => simp; omega
theorem endI_none {l : List UInt8} {k : Nat} (h : l.drop k = []) : endI l k = -1 := by
  unfold endI
  rw [h]
  rfl

theorem end_any (s : ByteArray) (m : Nat) (w : World) (hm : m ≤ s.size) (hs : s.size ≤ 140737488355328) : Calls Tryz.prog 103 #[.string s, .int .i64 m] w fun e w' => e = .returned (.int .i64 (endI (L s) m)) ∧ w = w' := by
  go_enter Tryz.func103, Tryz.ntmps103
  go_wp2
  go_loop [5] (fun i => ∃ k : Nat, i = .int .i64 k ∧ k ≤ s.size ∧ endI (L s) k = endI (L s) m) (fun i => s.size - (intOf i).toNat)
  case atStart => exact ⟨m, rfl, hm, rfl⟩
  case round =>
    obtain ⟨k, rfl, hks, hc⟩ := hrel
    by_cases hp : k < s.size
    · have hd := drop_cons s k hp
      by_cases he : s[k] = 59
      · have hb : (((s[k].toNat : Int)) == 59) = true := by rw [he]; rfl
        rw [he] at hd
        rw [endI_stop hd] at hc
        have HC := Lib.hid hc; clear hc hd he
        go_wp2
        go_ret
        exact ⟨ret_int HC.out, rfl⟩
      · have hb : (((s[k].toNat : Int)) == 59) = false := by
          have := u8_eq (a := s[k]) (b := 59)
          rw [show (((59 : UInt8).toNat : Int)) = 59 from rfl] at this
          rw [this]; simpa using he
        rw [endI_on hd rfl he] at hc
        have HC := Lib.hid hc; clear hc hd he
        go_wp2
        go_round
        case rel => exact ⟨k + 1, by go_num, by omega, HC.out⟩
        case measure => simp [intOf]; omega
    · rw [endI_none (drop_nil s k hp)] at hc
      have HC := Lib.hid hc; clear hc
      go_wp2
      go_ret
      exact ⟨ret_int HC.out, rfl⟩

theorem ret_sb {a b : ByteArray} {x y : Bool} (h : a = b) (k : x = y) : Ending.returned (.tuple #[.string a, .bool x]) = .returned (.tuple #[.string b, .bool y]) := by rw [h, k]
theorem u8_ne {a b : UInt8} (h : a ≠ b) : (((a.toNat : Int)) == (b.toNat : Int)) = false := by rw [u8_eq]; simpa using h

theorem bodyOf_any (s : ByteArray) (w : World) (hs : s.size ≤ 140737488355328) : Calls Tryz.prog 92 #[.string s] w fun e w' => e = .returned (.tuple #[.string (B ((bod (L s)).getD [])), .bool (bod (L s)).isSome]) ∧ w = w' := by
  go_enter Tryz.func92, Tryz.ntmps92
  go_wp2
  go_loop [7] (fun i => ∃ k : Nat, i = .int .i64 k ∧ k ≤ s.size ∧ bod (L s) = (bod ((L s).drop k)).map ((L s).take k ++ ·)) (fun i => s.size - (intOf i).toNat)
  case atStart => exact ⟨0, rfl, Nat.zero_le _, by rw [List.drop_zero, List.take_zero]; cases bod (L s) <;> rfl⟩
  case round =>
    obtain ⟨k, rfl, hks, hc⟩ := hrel
    by_cases hp : k < s.size
    · rw [drop_cons s k hp] at hc
      by_cases he : s[k] = 59
      · have hb : (((s[k].toNat : Int)) == 59) = true := by rw [he]; rfl
        rw [bod, if_pos he] at hc
        have HC := Lib.hid hc; clear hc he
        go_wp2
        go_ret2
        refine ⟨ret_sb ?_ ?_, rfl⟩
        · rw [HC.out]
          exact B_of (by rw [L_extract]; simp)
        · rw [HC.out]; rfl
      · have hb : (((s[k].toNat : Int)) == 59) = false := u8_ne (b := 59) he
        by_cases h8 : s[k] = 38
        · have hb8 : (((s[k].toNat : Int)) == 38) = true := by rw [h8]; rfl
          rw [bod, if_neg he, if_pos h8] at hc
          have HC := Lib.hid hc; clear hc he h8
          go_wp2
          go_ret2
          refine ⟨ret_sb ?_ ?_, rfl⟩
          · rw [HC.out]; rfl
          · rw [HC.out]; rfl
        · have hb8 : (((s[k].toNat : Int)) == 38) = false := u8_ne (b := 38) h8
          rw [bod, if_neg he, if_neg h8] at hc
          have HC := Lib.hid hc; clear hc he h8
          go_wp2
          go_round
          case rel =>
            refine ⟨k + 1, by go_num, by omega, ?_⟩
            rw [HC.out, take_snoc s k hp]
            cases bod ((L s).drop (k + 1)) <;> simp
          case measure => simp [intOf]; omega
    · rw [drop_nil s k hp] at hc
      have HC := Lib.hid hc; clear hc
      go_wp2
      go_ret2
      refine ⟨ret_sb ?_ ?_, rfl⟩
      · rw [HC.out]; rfl
      · rw [HC.out]; rfl

/-- A body's kind: by its name, decimal, hexadecimal. -/
def knd (l : List UInt8) : Int := if l.head? = some 35 then (if l[1]? = some 120 ∨ l[1]? = some 88 then 2 else 1) else 0
def rst (l : List UInt8) : List UInt8 := if l.head? = some 35 then (if l[1]? = some 120 ∨ l[1]? = some 88 then l.drop 2 else l.drop 1) else l
theorem L_at (s : ByteArray) (k : Nat) (h : k < s.size) : (L s)[k]? = some s[k] := by
  rw [List.getElem?_eq_getElem (by rw [size_L]; exact h)]; rfl
theorem L_far (s : ByteArray) (k : Nat) (h : ¬ k < s.size) : (L s)[k]? = none := List.getElem?_eq_none (by rw [size_L]; omega)
theorem head_at (s : ByteArray) : (L s).head? = (L s)[0]? := by rw [List.head?_eq_getElem?]
theorem empty_ne {s : ByteArray} (h : 0 < s.size) : (s.toList == (ByteArray.mk #[]).toList) = false := by
  rw [eq_of_toList, decide_eq_false_iff_not]
  intro e
  rw [e] at h
  exact absurd h (by decide)

theorem below_dN {N : Nat} {w0 w : World} (h : Below N w0 w) (n : Nat) : Below N w0 (w.drewN n) := ⟨h.1, h.2, h.3, h.4, h.5⟩
theorem ne_empty {s : ByteArray} (h : 0 < s.size) : ¬ s.toList = [] := fun e => by
  have : s.size = 0 := by rw [← size_L, ← toList_L, e]; rfl
  omega

set_option maxHeartbeats 1000000 in
theorem kindOf_any (s : ByteArray) (w : World) (hs : s.size ≤ 140737488355328) : Calls Tryz.prog 115 #[.string s] w fun e w' => e = .returned (.tuple #[.int .i64 (knd (L s)), .string (B (rst (L s)))]) ∧ Below w.heap.size w w' := by
  by_cases h0 : 0 < s.size
  · have he0 := empty_ne h0
    have hn0 := ne_empty h0
    have hie : s.toList.isEmpty = false := by simpa using hn0
    by_cases h35 : s[0] = 35
    · have hb : (((s[0].toNat : Int)) != 35) = false := by rw [h35]; rfl
      have hh : (L s).head? = some 35 := by rw [head_at, L_at s 0 h0, h35]
      by_cases hx : ∃ h1 : 1 < s.size, s[1] = 120 ∨ s[1] = 88
      · obtain ⟨h1, hx⟩ := hx
        have k1 : knd (L s) = 2 := by
          unfold knd
          rw [if_pos hh, L_at s 1 h1, if_pos (by simpa using hx)]
        have k2 : B (rst (L s)) = s.extract 2 s.size := by
          unfold rst
          rw [if_pos hh, L_at s 1 h1, if_pos (by simpa using hx), ← L_end, B_L]
        rw [k1, k2]
        clear k1 k2 hh h35
        rcases hx with hx | hx
        · have hb1 : (((s[1].toNat : Int)) == 120) = true := by rw [hx]; rfl
          clear hx
          have hz : (2 : Int) ≤ s.size := by omega
          go_enter Tryz.func115, Tryz.ntmps115
          go_wp2
          go_quiet (fail)
          go_wp2
          go_ret2
          exact ⟨rfl, below_dN (Below.refl _ _) _⟩
        · have hb1 : (((s[1].toNat : Int)) == 120) = false := by rw [hx]; rfl
          have hb2 : (((s[1].toNat : Int)) == 88) = true := by rw [hx]; rfl
          clear hx
          have hz : (2 : Int) ≤ s.size := by omega
          go_enter Tryz.func115, Tryz.ntmps115
          go_wp2
          go_quiet (fail)
          go_wp2
          go_ret2
          exact ⟨rfl, below_dN (Below.refl _ _) _⟩
      · have hx' : ¬ ((L s)[1]? = some 120 ∨ (L s)[1]? = some 88) := by
          intro e
          by_cases h1 : 1 < s.size
          · rw [L_at s 1 h1] at e
            exact hx ⟨h1, by simpa using e⟩
          · rw [L_far s 1 h1] at e
            simp at e
        have k1 : knd (L s) = 1 := by
          unfold knd
          rw [if_pos hh, if_neg hx']
        have k2 : B (rst (L s)) = s.extract 1 s.size := by
          unfold rst
          rw [if_pos hh, if_neg hx', ← L_end, B_L]
        rw [k1, k2]
        clear k1 k2 hh h35 hx'
        by_cases h1 : 1 < s.size
        · have hb1 : (((s[1].toNat : Int)) == 120) = false := u8_ne (b := 120) fun e => hx ⟨h1, .inl e⟩
          have hb2 : (((s[1].toNat : Int)) == 88) = false := u8_ne (b := 88) fun e => hx ⟨h1, .inr e⟩
          clear hx
          go_enter Tryz.func115, Tryz.ntmps115
          go_wp2
          go_quiet (fail)
          go_wp2
          go_ret2
          exact ⟨rfl, below_dN (Below.refl _ _) _⟩
        · clear hx
          go_enter Tryz.func115, Tryz.ntmps115
          go_wp2
          go_quiet (fail)
          go_wp2
          go_ret2
          exact ⟨rfl, below_dN (Below.refl _ _) _⟩
    · have hb : (((s[0].toNat : Int)) != 35) = true := by
        have := u8_ne (b := 35) h35
        rw [show (((35 : UInt8).toNat : Int)) = 35 from rfl] at this
        rw [bne, this]; rfl
      have hh : ¬ (L s).head? = some 35 := by rw [head_at, L_at s 0 h0]; simpa using h35
      have k1 : knd (L s) = 0 := by
        unfold knd
        rw [if_neg hh]
      have k2 : B (rst (L s)) = s := by
        unfold rst
        rw [if_neg hh, B_L]
      rw [k1, k2]
      clear k1 k2 hh h35
      go_enter Tryz.func115, Tryz.ntmps115
      go_wp2
      go_ret2
      exact ⟨rfl, Below.refl _ _⟩
  · obtain rfl : s = ByteArray.mk #[] := L_inj (by
      have : (L s).length = 0 := by rw [size_L]; omega
      exact List.eq_nil_of_length_eq_zero this)
    go_enter Tryz.func115, Tryz.ntmps115
    go_wp2
    go_ret2
    exact ⟨rfl, Below.refl _ _⟩

end Go.Proofs.YtdplbcchkjpcdaaGreatDoor.Re

namespace Go.Proofs.YtdplbcchkjpcdaaGreatDoor.Re
set_option maxRecDepth 100000
set_option linter.unusedSimpArgs false
set_option linter.unusedVariables false
open Go.RowKit Ba Rm
theorem min_int (x m : Int) (w : World) : ∀ ts t, (Builtin.min_ ts t #[.int .i64 x, .int .i64 m]).run Tryz.prog w = .ok (.int .i64 (min x m)) w := fun ts t => by
  rw [run_min_int2]
  congr 2
  split <;> omega
theorem prod_bound {n base : Int} (h0 : 0 ≤ n) (h1 : n ≤ 1114112) (hb : base = 10 ∨ base = 16) : 0 ≤ n * base ∧ n * base ≤ 17825792 := by
  rcases hb with rfl | rfl <;> omega
theorem ret_ib {a b : Int} {x y : Bool} (h : a = b) (k : x = y) : Ending.returned (.tuple #[.int .i64 a, .bool x]) = .returned (.tuple #[.int .i64 b, .bool y]) := by rw [h, k]
theorem val_stop {base n : Int} {c : UInt8} {r : List UInt8} (h : dig c < 0 ∨ base ≤ dig c) : val base n (c :: r) = none := by rw [val, if_pos h]
theorem val_on {base n : Int} {c : UInt8} {r : List UInt8} (h : ¬ (dig c < 0 ∨ base ≤ dig c)) : val base n (c :: r) = val base (min (n * base + dig c) 1114112) r := by rw [val, if_neg h]

set_option maxHeartbeats 1000000 in
theorem value_any (s : ByteArray) (base : Int) (hbase : base = 10 ∨ base = 16) (w : World) (hs : s.size ≤ 140737488355328) :
    Calls Tryz.prog 121 #[.string s, .int .i64 base] w fun e w' => e = .returned (.tuple #[.int .i64 ((val base 0 (L s)).getD 0), .bool ((val base 0 (L s)).isSome && decide (0 < s.size))]) ∧ w = w' := by
  obtain ⟨V, hV⟩ : ∃ V, val base 0 (L s) = V := ⟨_, rfl⟩
  rw [hV]
  go_enter Tryz.func121, Tryz.ntmps121
  go_wp2
  go_loop [6, 7] (fun v i => ∃ (k : Nat) (n : Int), i = .int .i64 k ∧ v = .int .i64 n ∧ k ≤ s.size ∧ 0 ≤ n ∧ n ≤ 1114112 ∧ val base n ((L s).drop k) = V) (fun _ i => s.size - (intOf i).toNat)
  case atStart => exact ⟨0, 0, rfl, rfl, Nat.zero_le _, Int.le_refl _, by omega, by rw [List.drop_zero]; exact hV⟩
  case round =>
    clear hV
    obtain ⟨k, n, rfl, rfl, hks, hn0, hn1, hc⟩ := hrel
    by_cases hp : k < s.size
    · rw [drop_cons s k hp] at hc
      have hdl := dig_le s[k]
      by_cases hd : dig s[k] < 0 ∨ base ≤ dig s[k]
      · rw [val_stop hd] at hc
        subst hc
        rcases hd with hd | hd
        · go_wp2_with (go_at_call 131; refine (refDigit_any s[k] _).mono ?_; rintro e w' ⟨rfl, rfl⟩)
          go_ret2
          exact ⟨rfl, rfl⟩
        · have hd0 : ¬ dig s[k] < 0 := by omega
          go_wp2_with (go_at_call 131; refine (refDigit_any s[k] _).mono ?_; rintro e w' ⟨rfl, rfl⟩)
          go_ret2
          exact ⟨rfl, rfl⟩
      · rw [val_on hd] at hc
        have hd0 : ¬ dig s[k] < 0 := by omega
        have hd1 : ¬ base ≤ dig s[k] := by omega
        have hpb := prod_bound hn0 hn1 hbase
        obtain ⟨p1, p2⟩ := hpb
        have hmin := min_int (n * base + dig s[k]) 1114112 w
        have HC := Lib.hid hc; clear hc hd
        go_wp2_with (go_at_call 131; refine (refDigit_any s[k] _).mono ?_; rintro e w' ⟨rfl, rfl⟩)
        go_round
        case rel => exact ⟨k + 1, _, by go_num, rfl, by omega, by omega, by omega, HC.out⟩
        case measure => simp [intOf]; omega
    · rw [drop_nil s k hp] at hc
      have hc' : V = some n := hc.symm
      subst hc'
      clear hc
      go_wp2
      go_ret2
      exact ⟨ret_ib rfl rfl, rfl⟩

/-- One character of a text that is ranged over: a byte below 128 is its own; any other one is no digit. -/
theorem get_at (s : ByteArray) (k : Nat) (h : k < s.size) : s.get! (k + 0) = s[k] := by
  show s.data[k]! = s.data[k]
  exact getElem!_pos s.data k h
theorem dec_small (s : ByteArray) (k : Nat) (h : k < s.size) (hc : s[k].toNat < 128) : Utf8.decode s k = (s[k].toNat, 1) := by
  unfold Utf8.decode
  simp only [get_at s k h, hc, if_true]
theorem dec_big (s : ByteArray) (k : Nat) (h : k < s.size) (hc : ¬ s[k].toNat < 128) : 128 ≤ (Utf8.decode s k).1 ∧ (Utf8.decode s k).1 ≤ 1114111 := by
  unfold Utf8.decode
  simp only [get_at s k h, hc, if_false]
  repeat' split
  all_goals simp only [Utf8.runeError, Utf8.valid, Bool.and_eq_true, Bool.or_eq_true, decide_eq_true_eq, ge_iff_le] at *
  all_goals omega

theorem below_iter (w : World) (s : ByteArray) (p : Nat) : Below w.heap.size w (w.iter s p) := (Below.refl _ _).alloc (Nat.le_refl _) _

set_option maxHeartbeats 1000000 in
theorem numbered_any (s : ByteArray) (base : Int) (hbase : base = 10 ∨ base = 16) (w : World) (hs : s.size ≤ 140737488355328) :
    Calls Tryz.prog 116 #[.string s, .int .i64 base] w fun e w' => e = .returned (.tuple #[.string (B ((numL base (L s)).getD [])), .bool (numL base (L s)).isSome]) ∧ Below w.heap.size w w' := by
  obtain ⟨V, hV⟩ : ∃ V, val base 0 (L s) = V := ⟨_, rfl⟩
  have hN : numL base (L s) = if L s = [] then none else V.map code := by unfold numL; rw [hV]
  have HN := Lib.hid hN; clear hN
  go_enter Tryz.func116, Tryz.ntmps116
  go_wp2
  go_loopw [6] (fun v w' => ∃ (k : Nat) (n : Int), w' = w.iter s k ∧ v = .int .i64 n ∧ k ≤ s.size ∧ 0 ≤ n ∧ n ≤ 1114112 ∧ val base n ((L s).drop k) = V) (fun _ w' => s.size - w'.iterPos w.heap.size)
  case atStart => exact ⟨0, 0, rfl, rfl, Nat.zero_le _, Int.le_refl _, by omega, by rw [List.drop_zero]; exact hV⟩
  case round =>
    clear hV
    obtain ⟨k, n, rfl, rfl, hks, hn0, hn1, hc⟩ := hrel
    by_cases hp : k < s.size
    · have hnx : ∀ ty, (Instr.next (.pointer (some ⟨w.heap.size, 0, none⟩)) true ty).run Tryz.prog (w.iter s k) = _ := fun ty => run_next_any w s k ty hp
      rw [drop_cons s k hp] at hc
      by_cases hsm : s[k].toNat < 128
      · rw [dec_small s k hp hsm] at hnx
        simp only [] at hnx
        have hdl := dig_le s[k]
        have hdq := dig_eq s[k]
        by_cases hd : dig s[k] < 0 ∨ base ≤ dig s[k]
        · rw [val_stop hd] at hc
          subst hc
          rcases hd with hd | hd
          · go_wp2_with (go_at_call 126; refine (digit_any s[k].toNat (by omega) (by omega) _).mono ?_; rw [hdq]; rintro e w' ⟨rfl, rfl⟩)
            go_ret2
            refine ⟨?_, below_iter _ _ _⟩
            rw [HN.out]
            split <;> rfl
          · have hd0 : ¬ dig s[k] < 0 := by omega
            go_wp2_with (go_at_call 126; refine (digit_any s[k].toNat (by omega) (by omega) _).mono ?_; rw [hdq]; rintro e w' ⟨rfl, rfl⟩)
            go_ret2
            refine ⟨?_, below_iter _ _ _⟩
            rw [HN.out]
            split <;> rfl
        · rw [val_on hd] at hc
          have hd0 : ¬ dig s[k] < 0 := by omega
          have hd1 : ¬ base ≤ dig s[k] := by omega
          have hpb := prod_bound hn0 hn1 hbase
          obtain ⟨p1, p2⟩ := hpb
          have hmin := min_int (n * base + dig s[k]) 1114112 (w.iter s (k + 1))
          have HC := Lib.hid hc; clear hc hd
          go_wp2_with (go_at_call 126; refine (digit_any s[k].toNat (by omega) (by omega) _).mono ?_; rw [hdq]; rintro e w' ⟨rfl, rfl⟩)
          go_roundw
          case rel => exact ⟨k + 1, _, rfl, rfl, by omega, by omega, by omega, HC.out⟩
          case measure => simp; omega
      · obtain ⟨hb1, hb2⟩ := dec_big s k hp hsm
        have hdq := digI_far (Utf8.decode s k).1 (by omega)
        have hdg : dig s[k] < 0 := by
          rw [← dig_eq, digI_far _ (by omega)]; decide
        rw [val_stop (.inl hdg)] at hc
        subst hc
        go_wp2_with (go_at_call 126; refine (digit_any (Utf8.decode s k).1 (by omega) (by omega) _).mono ?_; rw [hdq]; rintro e w' ⟨rfl, rfl⟩)
        go_ret2
        refine ⟨?_, below_iter _ _ _⟩
        rw [HN.out]
        split <;> rfl
    · have hnx : ∀ ty, (Instr.next (.pointer (some ⟨w.heap.size, 0, none⟩)) true ty).run Tryz.prog (w.iter s k) = _ := fun ty => run_next_end w s k ty hp
      rw [drop_nil s k hp] at hc
      have hc' : V = some n := hc.symm
      subst hc'
      clear hc
      by_cases h0 : 0 < s.size
      · have hie : s.toList.isEmpty = false := by simpa using ne_empty h0
        have hn2 := ne_empty h0
        have hL : ¬ L s = [] := by rw [← toList_L]; exact hn2
        go_wp2_with (go_at_call 127; refine (code_any n _ (WalkArith.wf_i64 (by omega))).mono ?_; rintro e w' ⟨rfl, rfl⟩)
        go_ret2
        refine ⟨?_, below_iter _ _ _⟩
        rw [HN.out, if_neg hL]
        rfl
      · have hL : L s = [] := List.eq_nil_of_length_eq_zero (by rw [size_L]; omega)
        have hie : s.toList.isEmpty = true := by rw [toList_L, hL]; rfl
        have hn2 : s.toList = [] := by rw [toList_L, hL]
        go_wp2
        go_ret2
        refine ⟨?_, below_iter _ _ _⟩
        rw [HN.out, if_pos hL]
        rfl

end Go.Proofs.YtdplbcchkjpcdaaGreatDoor.Re

namespace Go.Proofs.YtdplbcchkjpcdaaGreatDoor.Re
set_option maxRecDepth 100000
set_option linter.unusedSimpArgs false
set_option linter.unusedVariables false
open Go.RowKit Ba Rm
/-- The table's cells. -/
def cellsOf2 (t : List (List UInt8 × Nat)) : List Value := match t with
  | [] => []
  | p :: r => .string (B p.1) :: .int .i64 p.2 :: cellsOf2 r
theorem cellsOf2_drop (t : List (List UInt8 × Nat)) (k : Nat) : (cellsOf2 t).drop (2 * k) = cellsOf2 (t.drop k) := by
  induction t generalizing k with
  | nil => simp [cellsOf2]
  | cons p r ih =>
    cases k with
    | zero => rfl
    | succ k => rw [show 2 * (k + 1) = 2 * k + 1 + 1 from by omega, cellsOf2, List.drop_succ_cons, List.drop_succ_cons, ih, List.drop_succ_cons]
/-- In this world the package's table is as its text lays it. -/
def Tab (w : World) : Prop := w.rangeAt 0 0 (cellsOf2 tab) ∧ 0 < w.heap.size
theorem Tab.below {w w' : World} (h : Tab w) (hb : Below w.heap.size w w') : Tab w' := by
  refine ⟨fun j v hv => ?_, Nat.lt_of_lt_of_le h.2 hb.size⟩
  rw [hb.cell (p := ⟨0, 0 + j, none⟩) h.2]
  exact h.1 j v hv

theorem tabT_info : (Tryz.prog.info? 114).map (·.size) = some 48 := by kernel_rfl
theorem pairT_info : (Tryz.prog.info? 113).map (·.size) = some 2 := by kernel_rfl

theorem index_tab (w : World) (k : Nat) (p : List UInt8 × Nat) (r : List (List UInt8 × Nat)) (hk : k < 24) (h : tab.drop k = p :: r) : (Instr.index 114 (.agg (cellsOf2 tab).toArray) (.int .i64 k)).run Tryz.prog w = .ok (.agg #[.string (B p.1), .int .i64 p.2]) w := by
  have hx : ((cellsOf2 tab).drop (k * 2)).take 2 = [.string (B p.1), .int .i64 p.2] := by
    rw [Nat.mul_comm k 2, cellsOf2_drop, h]
    rfl
  have h0 : (0 : Int) ≤ k ∧ (k : Int) < (24 : Nat) := by omega
  cases hq : Tryz.prog.info? 113 with
  | none => have := pairT_info; rw [hq] at this; cases this
  | some i =>
    have hs : i.size = 2 := by have := pairT_info; rw [hq] at this; simpa using this
    simp [Instr.index, run_underlying Tryz.underlying114, run_underlying Tryz.underlying113, asIntOf, part, isAgg, sizeOf, typeInfo, hq, hs, h0, go_sem]
    rw [if_pos hk, hx]

theorem look_stop {p : List UInt8 × Nat} {r : List (List UInt8 × Nat)} {s : List UInt8} (h : p.1 = s) : Rm.look (p :: r) s = some (code p.2) := by rw [Rm.look, if_pos h]
theorem look_on {p : List UInt8 × Nat} {r : List (List UInt8 × Nat)} {s : List UInt8} (h : ¬ p.1 = s) : Rm.look (p :: r) s = Rm.look r s := by rw [Rm.look, if_neg h]
theorem tab_at (k : Nat) (h : k < 24) : ∃ p, p ∈ tab ∧ tab.drop k = p :: tab.drop (k + 1) := by
  have hl : k < tab.length := h
  exact ⟨tab[k], List.getElem_mem _, List.drop_eq_getElem_cons hl⟩
theorem tab_small : ∀ p ∈ tab, p.2 ≤ 8364 ∧ code p.2 = enc p.2 := by decide
theorem str_eqL (a : List UInt8) (s : ByteArray) : ((B a).toList == s.toList) = decide (a = L s) := by
  rw [toList_B, toList_L, Bool.eq_iff_iff, beq_iff_eq, decide_eq_true_iff]

set_option maxRecDepth 100000 in
set_option maxHeartbeats 1000000 in
theorem named_any (s : ByteArray) (w : World) (ht : Tab w) :
    Calls Tryz.prog 117 #[.string s] w fun e w' => e = .returned (.tuple #[.string (B ((Rm.look tab (L s)).getD [])), .bool (Rm.look tab (L s)).isSome]) ∧ Below w.heap.size w w' := by
  obtain ⟨V, hV⟩ : ∃ V, Rm.look tab (L s) = V := ⟨_, rfl⟩
  rw [hV]
  have hrg := ht.1
  have hln : (Tryz.prog.info? 114).map (·.size) = some (cellsOf2 tab).length := tabT_info.trans (by decide)
  have hix := fun (w : World) k p r => index_tab w k p r
  generalize cellsOf2 tab = cs at hrg hix hln
  have HR := Lib.hid hrg; clear hrg
  have HL := Lib.hid hln; clear hln
  have HI := Lib.hid hix; clear hix
  go_enter Tryz.func117, Tryz.ntmps117
  go_wp2_with (refine wpList_load_mid rfl 114 (.global 0) rfl 0 0 rfl cs _ HR.out Tryz.underlying114 rfl HL.out ?_)
  clear HR HL
  go_loopw [7] (fun i wr => ∃ k : Nat, i = .int .i64 k ∧ k ≤ 24 ∧ Rm.look (tab.drop k) (L s) = V ∧ Below w.heap.size w wr) (fun i _ => 24 - (intOf i).toNat)
  case atStart => exact ⟨0, rfl, by omega, hV, Below.refl _ _⟩
  case round =>
    clear hV
    obtain ⟨k, rfl, hk, hc, hbel⟩ := hrel
    by_cases hp : k < 24
    · obtain ⟨p, hpm, hpd⟩ := tab_at k hp
      have hix := HI.out wr k p _ hp hpd
      rw [hpd] at hc
      have hsz := hbel.size
      by_cases he : p.1 = L s
      · rw [look_stop he] at hc
        subst hc
        have hb : ((B p.1).toList == s.toList) = true := by rw [str_eqL]; exact decide_eq_true he
        have hp2 := (tab_small p hpm).1
        have hwf : (Lit.int .i64 (p.2 : Int)).wf = true := WalkArith.wf_i64 (by omega)
        clear he hpd hp2
        go_wp2_with (go_at_call 127; refine (code_any p.2 _ hwf).mono ?_; rintro e w' ⟨rfl, rfl⟩)
        go_ret2
        exact ⟨rfl, hbel.alloc hsz _⟩
      · rw [look_on he] at hc
        have hb : ((B p.1).toList == s.toList) = false := by rw [str_eqL]; exact decide_eq_false he
        have HC := Lib.hid hc
        clear he hpd hc
        go_wp2
        go_roundw
        case rel => exact ⟨k + 1, by go_num, by omega, HC.out, hbel.alloc hsz _⟩
        case measure => simp [intOf]; omega
    · have hc' : V = none := by
        rw [← hc, List.drop_eq_nil_of_le (by show 24 ≤ k; omega)]
        rfl
      subst hc'
      clear hc
      go_wp2
      go_ret2
      exact ⟨rfl, hbel⟩

/-- The reference's lists of the names and their numbers. -/
def nmCells : List Value := tab.map fun p => .string (B p.1)
def noCells : List Value := tab.map fun p => .int .i64 p.2
theorem names_any (w : World) : Calls Tryz.prog 133 #[] w fun e w' => e = .returned (.slice (some ⟨w.heap.size, 0, none⟩) 24 24) ∧ w' = w.alloc (.cells nmCells.toArray 9) := by
  go_enter Tryz.func133, Tryz.ntmps133
  go_wp2
  go_ret
  exact ⟨rfl, rfl⟩
theorem numbers_any (w : World) : Calls Tryz.prog 134 #[] w fun e w' => e = .returned (.slice (some ⟨w.heap.size, 0, none⟩) 24 24) ∧ w' = w.alloc (.cells noCells.toArray 3) := by
  go_enter Tryz.func134, Tryz.ntmps134
  go_wp2
  go_ret
  exact ⟨rfl, rfl⟩
theorem map_at {f : List UInt8 × Nat → Value} {k : Nat} {p : List UInt8 × Nat} {r : List (List UInt8 × Nat)} (h : tab.drop k = p :: r) : (tab.map f).toArray[k]? = some (f p) := by
  have e : tab[k]? = some p := by
    have := List.getElem?_drop (xs := tab) (i := k) (j := 0)
    rw [h] at this
    simpa using this.symm
  simp [e]

set_option maxRecDepth 100000 in
set_option maxHeartbeats 1000000 in
theorem refNamed_any (s : ByteArray) (w : World) :
    Calls Tryz.prog 123 #[.string s] w fun e w' => e = .returned (.tuple #[.string (B ((Rm.look tab (L s)).getD [])), .bool (Rm.look tab (L s)).isSome]) ∧ Below w.heap.size w w' := by
  obtain ⟨V, hV⟩ : ∃ V, Rm.look tab (L s) = V := ⟨_, rfl⟩
  rw [hV]
  have c1 : ∀ k p r, tab.drop k = p :: r → ((w.alloc (.cells nmCells.toArray 9)).alloc (.cells noCells.toArray 3)).cell? ⟨w.heap.size, k, none⟩ = some (.string (B p.1)) := fun k p r h => by
    rw [World.cell?_alloc_lt _ _ _ (by simp), World.cell?_alloc_mark]
    exact map_at h
  have c2 : ∀ k p r, tab.drop k = p :: r → ((w.alloc (.cells nmCells.toArray 9)).alloc (.cells noCells.toArray 3)).cell? ⟨w.heap.size + 1, k, none⟩ = some (.int .i64 p.2) := fun k p r h => by
    have e : w.heap.size + 1 = (w.alloc (.cells nmCells.toArray 9)).heap.size := by simp
    rw [e, World.cell?_alloc_mark]
    exact map_at h
  have hbel : Below w.heap.size w ((w.alloc (.cells nmCells.toArray 9)).alloc (.cells noCells.toArray 3)) := (below_new w _).alloc (by simp) _
  go_enter Tryz.func123, Tryz.ntmps123
  go_wp2_with fail
  refine (names_any w).mono ?_
  rintro e w1 ⟨rfl, rfl⟩
  go_wp2_with fail
  refine (numbers_any _).mono ?_
  rintro e w2 ⟨rfl, hw2⟩
  rw [← hw2] at c1 c2 hbel
  have hz : (w.alloc (.cells nmCells.toArray 9)).heap.size = w.heap.size + 1 := by simp
  rw [hz]
  have C1 := Lib.hid c1; have C2 := Lib.hid c2
  clear c1 c2 hw2 hz
  go_wp2
  go_loop [6] (fun i => ∃ k : Nat, i = .int .i64 k ∧ k ≤ 24 ∧ Rm.look (tab.drop k) (L s) = V) (fun i => 24 - (intOf i).toNat)
  case atStart => exact ⟨0, rfl, by omega, hV⟩
  case round =>
    clear hV
    obtain ⟨k, rfl, hk, hc⟩ := hrel
    by_cases hp : k < 24
    · obtain ⟨p, hpm, hpd⟩ := tab_at k hp
      have d1 := C1.out k p _ hpd
      have d2 := C2.out k p _ hpd
      rw [hpd] at hc
      by_cases he : p.1 = L s
      · rw [look_stop he] at hc
        subst hc
        have hb : ((B p.1).toList == s.toList) = true := by rw [str_eqL]; exact decide_eq_true he
        obtain ⟨hp2, hp3⟩ := tab_small p hpm
        have HP3 := Lib.hid hp3
        clear he hpd hp3
        go_wp2_with fail
        refine (char_any p.2 (by omega) _).mono ?_
        rintro e w3 ⟨rfl, hb3⟩
        go_wp2
        go_ret2
        refine ⟨ret_sb ?_ rfl, hbel.trans (hb3.mono hbel.size)⟩
        rw [Option.getD_some, HP3.out]
      · rw [look_on he] at hc
        have hb : ((B p.1).toList == s.toList) = false := by rw [str_eqL]; exact decide_eq_false he
        have HC := Lib.hid hc
        clear he hpd hc
        go_wp2
        go_round
        case rel => exact ⟨k + 1, by go_num, by omega, HC.out⟩
        case measure => simp [intOf]; omega
    · have hc' : V = none := by
        rw [← hc, List.drop_eq_nil_of_le (by show 24 ≤ k; omega)]
        rfl
      subst hc'
      clear hc
      go_wp2
      go_ret2
      exact ⟨rfl, hbel⟩

end Go.Proofs.YtdplbcchkjpcdaaGreatDoor.Re

namespace Go.Proofs.YtdplbcchkjpcdaaGreatDoor.Re
set_option maxRecDepth 100000
set_option linter.unusedSimpArgs false
set_option linter.unusedVariables false
open Go.RowKit Ba Rm
theorem meant_rst (l : List UInt8) : meant l = if knd l = 1 then numL 10 (rst l) else if knd l = 2 then numL 16 (rst l) else Rm.look tab (rst l) := by
  unfold meant knd rst
  repeat' split
  all_goals first | rfl | (exfalso; omega) | simp_all
theorem knd_three (l : List UInt8) : knd l = 1 ∨ knd l = 2 ∨ knd l = 0 := by
  unfold knd
  repeat' split
  all_goals simp
theorem rst_len (l : List UInt8) : (rst l).length ≤ l.length := by
  unfold rst
  repeat' split
  all_goals (try rw [List.length_drop]); omega

set_option maxHeartbeats 1000000 in
theorem denoted_any (s : ByteArray) (w : World) (ht : Tab w) (hs : s.size ≤ 140737488355328) :
    Calls Tryz.prog 93 #[.string s] w fun e w' => e = .returned (.tuple #[.string (B ((meant (L s)).getD [])), .bool (meant (L s)).isSome]) ∧ Below w.heap.size w w' := by
  have hm := meant_rst (L s)
  have hr : (B (rst (L s))).size ≤ 140737488355328 := by
    have := rst_len (L s)
    rw [size_L] at this
    rw [size_B]; omega
  have hk := kindOf_any s w hs
  have h3 := knd_three (L s)
  have hL := L_B (rst (L s))
  generalize meant (L s) = M at hm
  generalize B (rst (L s)) = t at hk hr hL
  rw [← hL] at hm
  generalize knd (L s) = K at hm hk h3
  clear hL
  rcases h3 with rfl | rfl | rfl
  · rw [if_pos rfl] at hm
    subst hm
    go_enter Tryz.func93, Tryz.ntmps93
    go_wp2_with fail
    refine hk.mono ?_
    clear hk
    rintro e w1 ⟨rfl, hb1⟩
    go_wp2_with fail
    refine (numbered_any t 10 (.inl rfl) w1 hr).mono ?_
    rintro e w2 ⟨rfl, hb2⟩
    go_wp2
    go_ret2
    exact ⟨rfl, bt hb1 hb2⟩
  · rw [if_neg (by decide), if_pos rfl] at hm
    subst hm
    go_enter Tryz.func93, Tryz.ntmps93
    go_wp2_with fail
    refine hk.mono ?_
    clear hk
    rintro e w1 ⟨rfl, hb1⟩
    go_wp2_with fail
    refine (numbered_any t 16 (.inr rfl) w1 hr).mono ?_
    rintro e w2 ⟨rfl, hb2⟩
    go_wp2
    go_ret2
    exact ⟨rfl, bt hb1 hb2⟩
  · rw [if_neg (by decide), if_neg (by decide)] at hm
    subst hm
    go_enter Tryz.func93, Tryz.ntmps93
    go_wp2_with fail
    refine hk.mono ?_
    clear hk
    rintro e w1 ⟨rfl, hb1⟩
    go_wp2_with fail
    refine (named_any t w1 (ht.below hb1)).mono ?_
    rintro e w2 ⟨rfl, hb2⟩
    go_wp2
    go_ret2
    exact ⟨rfl, bt hb1 hb2⟩

theorem num_parts (base : Int) (s : ByteArray) : (numL base (L s)).isSome = ((val base 0 (L s)).isSome && decide (0 < s.size)) ∧ ∀ t, numL base (L s) = some t → t = code ((val base 0 (L s)).getD 0) := by
  unfold numL
  by_cases h : L s = []
  · have : ¬ 0 < s.size := by rw [← size_L, h]; simp
    simp [h, this]
  · have : 0 < s.size := by rw [← size_L]; exact List.length_pos_iff.2 h
    rw [if_neg h]
    cases val base 0 (L s) with
    | none => simp
    | some n => simp [this]

theorem value1 (w : World) (t : ByteArray) (base : Int) (hbase : base = 10 ∨ base = 16) (hs : t.size ≤ 140737488355328) (n : Int) (ok : Bool) (h1 : (val base 0 (L t)).getD 0 = n) (h2 : ((val base 0 (L t)).isSome && decide (0 < t.size)) = ok) :
    Calls Tryz.prog 121 #[.string t, .int .i64 base] w fun e w' => e = .returned (.tuple #[.int .i64 n, .bool ok]) ∧ w = w' := by
  have k := value_any t base hbase w hs
  rw [h1, h2] at k
  exact k

set_option maxHeartbeats 2000000 in
theorem meant_any (s : ByteArray) (w : World) (hs : s.size ≤ 140737488355328) :
    Calls Tryz.prog 104 #[.string s] w fun e w' => (∃ x, e = .returned (.tuple #[.string x, .bool (meant (L s)).isSome]) ∧ ∀ t, meant (L s) = some t → x = B t) ∧ Below w.heap.size w w' := by
  by_cases h0 : 0 < s.size
  · by_cases h35 : s[0] = 35
    · have hb : (((s[0].toNat : Int)) == 35) = true := by rw [h35]; rfl
      have hh : (L s).head? = some 35 := by rw [head_at, L_at s 0 h0, h35]
      have hz1 : (1 : Int) ≤ s.size := by omega
      have hx1 : (s.extract 1 s.size).size ≤ 140737488355328 := Nat.le_trans (size_extract s 1 s.size) hs
      have hp1 := num_parts 10 (s.extract 1 s.size)
      obtain ⟨n1, hn1⟩ : ∃ n, (val 10 0 (L (s.extract 1 s.size))).getD 0 = n := ⟨_, rfl⟩
      obtain ⟨o1, ho1⟩ : ∃ o, ((val 10 0 (L (s.extract 1 s.size))).isSome && decide (0 < (s.extract 1 s.size).size)) = o := ⟨_, rfl⟩
      rw [hn1, ho1] at hp1
      have HP1 := Lib.hid hp1; have HN1 := Lib.hid hn1; have HO1 := Lib.hid ho1
      clear hp1 hn1 ho1
      by_cases hx : ∃ h1 : 1 < s.size, s[1] = 120 ∨ s[1] = 88
      · obtain ⟨h1, hx⟩ := hx
        have hm : meant (L s) = numL 16 (L (s.extract 2 s.size)) := by
          unfold meant
          rw [if_pos hh, L_at s 1 h1, if_pos (by simpa using hx), L_end]
        rw [hm]
        have hp := num_parts 16 (s.extract 2 s.size)
        obtain ⟨n2, hn2⟩ : ∃ n, (val 16 0 (L (s.extract 2 s.size))).getD 0 = n := ⟨_, rfl⟩
        obtain ⟨o2, ho2⟩ : ∃ o, ((val 16 0 (L (s.extract 2 s.size))).isSome && decide (0 < (s.extract 2 s.size).size)) = o := ⟨_, rfl⟩
        rw [hn2, ho2] at hp
        have HN2 := Lib.hid hn2; have HO2 := Lib.hid ho2
        clear hn2 ho2
        have hx2 : (s.extract 2 s.size).size ≤ 140737488355328 := Nat.le_trans (size_extract s 2 s.size) hs
        have hz2 : (2 : Int) ≤ s.size := by omega
        obtain ⟨q1, q2⟩ := hp
        rw [q1]
        have Q2 := Lib.hid q2
        clear q1 q2 hm hh h35
        rcases hx with hx | hx
        · have hb1 : (((s[1].toNat : Int)) == 120) = true := by rw [hx]; rfl
          clear hx
          go_enter Tryz.func104, Tryz.ntmps104
          go_wp2_with fail
          refine (value1 w _ 10 (.inl rfl) hx1 n1 o1 HN1.out HO1.out).mono ?_
          rintro e w1 ⟨rfl, rfl⟩
          go_wp2_with fail
          refine (value1 w _ 16 (.inr rfl) hx2 n2 o2 HN2.out HO2.out).mono ?_
          rintro e w1 ⟨rfl, rfl⟩
          go_wp2_with fail
          refine (refCode_any _ w).mono ?_
          rintro e w2 ⟨rfl, hb2⟩
          go_wp2
          go_ret2
          exact ⟨⟨_, rfl, fun t e => by rw [Q2.out t e]⟩, hb2⟩
        · have hb1 : (((s[1].toNat : Int)) == 120) = false := by rw [hx]; rfl
          have hb2 : (((s[1].toNat : Int)) == 88) = true := by rw [hx]; rfl
          clear hx
          go_enter Tryz.func104, Tryz.ntmps104
          go_wp2_with fail
          refine (value1 w _ 10 (.inl rfl) hx1 n1 o1 HN1.out HO1.out).mono ?_
          rintro e w1 ⟨rfl, rfl⟩
          go_wp2_with fail
          refine (value1 w _ 16 (.inr rfl) hx2 n2 o2 HN2.out HO2.out).mono ?_
          rintro e w1 ⟨rfl, rfl⟩
          go_wp2_with fail
          refine (refCode_any _ w).mono ?_
          rintro e w2 ⟨rfl, hb2⟩
          go_wp2
          go_ret2
          exact ⟨⟨_, rfl, fun t e => by rw [Q2.out t e]⟩, hb2⟩
      · have hx' : ¬ ((L s)[1]? = some 120 ∨ (L s)[1]? = some 88) := by
          intro e
          by_cases h1 : 1 < s.size
          · rw [L_at s 1 h1] at e
            exact hx ⟨h1, by simpa using e⟩
          · rw [L_far s 1 h1] at e
            simp at e
        have hm : meant (L s) = numL 10 (L (s.extract 1 s.size)) := by
          unfold meant
          rw [if_pos hh, if_neg hx', L_end]
        rw [hm]
        obtain ⟨q1, q2⟩ := HP1.out
        rw [q1]
        have Q2 := Lib.hid q2
        clear q1 q2 hm hh h35 hx'
        by_cases h1 : 1 < s.size
        · have hb1 : (((s[1].toNat : Int)) == 120) = false := u8_ne (b := 120) fun e => hx ⟨h1, .inl e⟩
          have hb2 : (((s[1].toNat : Int)) == 88) = false := u8_ne (b := 88) fun e => hx ⟨h1, .inr e⟩
          clear hx
          go_enter Tryz.func104, Tryz.ntmps104
          go_wp2_with fail
          refine (value1 w _ 10 (.inl rfl) hx1 n1 o1 HN1.out HO1.out).mono ?_
          rintro e w1 ⟨rfl, rfl⟩
          go_wp2_with fail
          refine (refCode_any _ w).mono ?_
          rintro e w2 ⟨rfl, hb2⟩
          go_wp2
          go_ret2
          exact ⟨⟨_, rfl, fun t e => by rw [Q2.out t e]⟩, hb2⟩
        · clear hx
          go_enter Tryz.func104, Tryz.ntmps104
          go_wp2_with fail
          refine (value1 w _ 10 (.inl rfl) hx1 n1 o1 HN1.out HO1.out).mono ?_
          rintro e w1 ⟨rfl, rfl⟩
          go_wp2_with fail
          refine (refCode_any _ w).mono ?_
          rintro e w2 ⟨rfl, hb2⟩
          go_wp2
          go_ret2
          exact ⟨⟨_, rfl, fun t e => by rw [Q2.out t e]⟩, hb2⟩
    · have hb : (((s[0].toNat : Int)) == 35) = false := u8_ne (b := 35) h35
      have hh : ¬ (L s).head? = some 35 := by rw [head_at, L_at s 0 h0]; simpa using h35
      have hm : meant (L s) = Rm.look tab (L s) := by
        unfold meant
        rw [if_neg hh]
      rw [hm]
      clear hm hh h35
      go_enter Tryz.func104, Tryz.ntmps104
      go_wp2_with fail
      refine (refNamed_any s w).mono ?_
      rintro e w2 ⟨rfl, hb2⟩
      go_wp2
      go_ret2
      exact ⟨⟨_, rfl, fun t e => by rw [e]; rfl⟩, hb2⟩
  · have hL : L s = [] := List.eq_nil_of_length_eq_zero (by rw [size_L]; omega)
    have hm : meant (L s) = Rm.look tab (L s) := by
      unfold meant
      rw [hL]; rfl
    rw [hm]
    clear hm hL
    go_enter Tryz.func104, Tryz.ntmps104
    go_wp2_with fail
    refine (refNamed_any s w).mono ?_
    rintro e w2 ⟨rfl, hb2⟩
    go_wp2
    go_ret2
    exact ⟨⟨_, rfl, fun t e => by rw [e]; rfl⟩, hb2⟩

end Go.Proofs.YtdplbcchkjpcdaaGreatDoor.Re

namespace Go.Proofs.YtdplbcchkjpcdaaGreatDoor.Re
set_option maxRecDepth 100000
set_option linter.unusedSimpArgs false
set_option linter.unusedVariables false
open Go.RowKit Ba Rm
theorem strCells_L (s : ByteArray) : Lib.strCells s = (L s).map bc := rfl
/-- append of a string's bytes onto bytes of the call's own. -/
theorem app_str {ops : Array Oper} {rest : List Oper} {o : Oper} {a : Act} {Q : Exit → Act → World → Prop} (w : World) (hgd : o.guard = none) (s x : Operand)
    (ho : o.op = .call { callee := .builtin .append, args := #[s, x], argTypes := #[74, 9] })
    (N : Nat) (v : Value) (l : List UInt8) (t : ByteArray) (hs : a.eval s = v) (hown : OwnB N w v l) (hx : a.eval x = .string t)
    (hl : l.length + t.size ≤ 140737488355328) (hN : N ≤ w.heap.size)
    (h : ∀ v' w', OwnB N w' v' (l ++ L t) → (∀ w0, Below N w0 w → Below N w0 w') → wpList Tryz.prog ops Q rest (a.put o.dst v') w') :
    wpList Tryz.prog ops Q (o :: rest) a w := by
  obtain ⟨i0, hi, hz0, hz1, hz2⟩ := info_parts info_u8
  refine Lib.wpList_append_own_string _ hgd s x 74 9 ho N 5 i0 Tryz.underlying74 Tryz.underlying9 hi hz0 hz1 hz2 v l.length (l.map bc) hs hown t hx (by unfold maxLen; omega) hl hN ?_
  intro v2 w2 hown2 hgrow2 _
  refine h v2 w2 ?_ fun w0 hb => hown.below hgrow2 hb hN
  rw [strCells_L] at hown2
  exact OwnB.appended hown2 (by rw [size_L])

theorem bodyOf1 (w : World) (s x : ByteArray) (ok : Bool) (hs : s.size ≤ 140737488355328) (h1 : B ((bod (L s)).getD []) = x) (h2 : (bod (L s)).isSome = ok) :
    Calls Tryz.prog 92 #[.string s] w fun e w' => e = .returned (.tuple #[.string x, .bool ok]) ∧ w = w' := by
  have k := bodyOf_any s w hs
  rw [h1, h2] at k
  exact k
theorem denoted1 (w : World) (s x : ByteArray) (ok : Bool) (ht : Tab w) (hs : s.size ≤ 140737488355328) (h1 : B ((meant (L s)).getD []) = x) (h2 : (meant (L s)).isSome = ok) :
    Calls Tryz.prog 93 #[.string s] w fun e w' => e = .returned (.tuple #[.string x, .bool ok]) ∧ Below w.heap.size w w' := by
  have k := denoted_any s w ht hs
  rw [h1, h2] at k
  exact k
theorem fst_amp {r : List UInt8} : fst (38 :: r) = (match bod r with | some b => (match meant b with | some t => (t, b.length + 2) | none => ([38], 1)) | none => ([38], 1)) := by
  rw [fst_cons, if_pos rfl, refAt_bod]
  cases bod r with
  | none => rfl
  | some b => cases hm : meant b <;> simp [hm]
theorem bod_len {r b : List UInt8} (h : bod r = some b) : b.length + 1 ≤ r.length := len_cut ((bod_cut r).1 b h)
theorem ext1 (s : ByteArray) (h : 0 < s.size) : s.extract 0 1 = B [s[0]] := B_of (by rw [L_extract, List.drop_zero, show 1 - 0 = 0 + 1 from rfl, take_snoc s 0 h]; rfl)

set_option maxHeartbeats 1000000 in
theorem first_any (s t : ByteArray) (n : Nat) (w : World) (ht : Tab w) (h0 : 0 < s.size) (hs : s.size ≤ 140737488355328) (h1 : B (fst (L s)).1 = t) (h2 : (fst (L s)).2 = n) :
    Calls Tryz.prog 54 #[.string s] w fun e w' => e = .returned (.tuple #[.string t, .int .i64 n]) ∧ Below w.heap.size w w' := by
  have hL : L s = s[0] :: (L s).drop 1 := by
    have := drop_cons s 0 h0
    rw [List.drop_zero] at this
    exact this
  have hz : (1 : Int) ≤ s.size := by omega
  by_cases h8 : s[0] = 38
  · have hb : (((s[0].toNat : Int)) == 38) = true := by rw [h8]; rfl
    rw [hL, h8, fst_amp] at h1 h2
    have hxs : (s.extract 1 s.size).size ≤ 140737488355328 := Nat.le_trans (size_extract s 1 s.size) hs
    have hxL := L_end s 1
    cases hbd : bod ((L s).drop 1) with
    | none =>
      rw [hbd] at h1 h2
      have e1 : t = s.extract 0 1 := by rw [← h1, ext1 s h0, h8]
      have e2 : n = 1 := h2.symm
      subst e1 e2
      have k1 : B ((bod (L (s.extract 1 s.size))).getD []) = B [] := by rw [hxL, hbd]; rfl
      have k2 : (bod (L (s.extract 1 s.size))).isSome = false := by rw [hxL, hbd]; rfl
      have K1 := Lib.hid k1; have K2 := Lib.hid k2
      clear k1 k2 hxL hbd hL h1 h2 h8
      go_enter Tryz.func54, Tryz.ntmps54
      go_wp2_with fail
      refine (bodyOf1 w _ _ _ hxs K1.out K2.out).mono ?_
      rintro e w1 ⟨rfl, rfl⟩
      go_wp2
      go_ret2
      exact ⟨rfl, Below.refl _ _⟩
    | some b =>
      rw [hbd] at h1 h2
      simp only at h1 h2
      have hbl := bod_len hbd
      rw [List.length_drop, size_L] at hbl
      have k1 : B ((bod (L (s.extract 1 s.size))).getD []) = B b := by rw [hxL, hbd]; rfl
      have k2 : (bod (L (s.extract 1 s.size))).isSome = true := by rw [hxL, hbd]; rfl
      have hbs : (B b).size ≤ 140737488355328 := by rw [size_B]; omega
      have hbz : (B b).size = b.length := size_B b
      have K1 := Lib.hid k1; have K2 := Lib.hid k2
      clear k1 k2 hxL hbd hL
      cases hm : meant b with
      | none =>
        rw [hm] at h1 h2
        have e1 : t = s.extract 0 1 := by rw [← h1, ext1 s h0, h8]
        have e2 : n = 1 := h2.symm
        subst e1 e2
        have j1 : B ((meant (L (B b))).getD []) = B [] := by rw [L_B, hm]; rfl
        have j2 : (meant (L (B b))).isSome = false := by rw [L_B, hm]; rfl
        have J1 := Lib.hid j1; have J2 := Lib.hid j2
        generalize B b = u at hbs hbz J1 J2 K1
        clear j1 j2 hm h1 h2 h8
        go_enter Tryz.func54, Tryz.ntmps54
        go_wp2_with fail
        refine (bodyOf1 w _ _ _ hxs K1.out K2.out).mono ?_
        rintro e w1 ⟨rfl, rfl⟩
        go_wp2_with fail
        refine (denoted1 w _ _ _ ht hbs J1.out J2.out).mono ?_
        rintro e w2 ⟨rfl, hb2⟩
        go_wp2
        go_ret2
        exact ⟨rfl, hb2⟩
      | some x =>
        rw [hm] at h1 h2
        simp only at h1 h2
        subst h1 h2
        have j1 : B ((meant (L (B b))).getD []) = B x := by rw [L_B, hm]; rfl
        have j2 : (meant (L (B b))).isSome = true := by rw [L_B, hm]; rfl
        have J1 := Lib.hid j1; have J2 := Lib.hid j2
        clear j1 j2 hm h8
        generalize B b = u at hbs hbz J1 J2 K1
        go_enter Tryz.func54, Tryz.ntmps54
        go_wp2_with fail
        refine (bodyOf1 w _ _ _ hxs K1.out K2.out).mono ?_
        rintro e w1 ⟨rfl, rfl⟩
        go_wp2_with fail
        refine (denoted1 w _ _ _ ht hbs J1.out J2.out).mono ?_
        rintro e w2 ⟨rfl, hb2⟩
        go_wp2
        go_ret2
        refine ⟨?_, hb2⟩
        simp
        omega
  · have hb : (((s[0].toNat : Int)) == 38) = false := u8_ne (b := 38) h8
    rw [hL, fst_byte _ h8] at h1 h2
    have e1 : t = s.extract 0 1 := by rw [← h1, ext1 s h0]
    have e2 : n = 1 := h2.symm
    subst e1 e2
    clear hL h1 h2 h8
    go_enter Tryz.func54, Tryz.ntmps54
    go_wp2
    go_ret2
    exact ⟨rfl, Below.refl _ _⟩

end Go.Proofs.YtdplbcchkjpcdaaGreatDoor.Re

namespace Go.Proofs.YtdplbcchkjpcdaaGreatDoor.Re
set_option maxRecDepth 100000
set_option linter.unusedSimpArgs false
set_option linter.unusedVariables false
open Go.RowKit Ba Rm
theorem dec_bound {acc l : List UInt8} {x : List UInt8} (h : acc ++ dec l = dec x) : acc.length + (dec l).length ≤ x.length := by
  have h1 := congrArg List.length h
  have h2 := len_dec x
  rw [List.length_append] at h1
  omega

set_option maxHeartbeats 1000000 in
theorem decode_any (s : ByteArray) (w : World) (ht : Tab w) (hs : s.size ≤ 140737488351232) :
    Calls Tryz.prog 23 #[.string s] w fun e w' => e = .returned (.string (B (dec (L s)))) ∧ Below w.heap.size w w' := by
  obtain ⟨i0, hi, hz0, hz1, hz2⟩ := info_parts info_u8
  go_enter Tryz.func23, Tryz.ntmps23
  go_wp2_with (at_make; refine wpList_make_own _ rfl (.const (.int .i64 0)) (.tmp 8) 74 rfl w.heap.size 5 i0 (.int .u8 0) 1 Tryz.underlying74 hi hz0 hz1 .i64 .i64 _ s.size rfl rfl rfl (by rw [hz2]; omega) (by unfold maxLen; omega) (Nat.le_refl _) ?_; intro w1 hown hgrow)
  have hb0 : Below w.heap.size w w1 := (Below.refl w.heap.size w).grown hgrow (Nat.le_refl _) (by simp)
  have ho0 : OwnB w.heap.size w1 (.slice (some ⟨w.heap.size, 0, none⟩) 0 s.size) [] := hown
  clear hown hgrow
  go_loopw [3, 4] (fun v i wr => ∃ (k : Nat) (acc : List UInt8), i = .int .i64 k ∧ k ≤ s.size ∧ OwnB w.heap.size wr v acc ∧ acc ++ dec ((L s).drop k) = dec (L s) ∧ Below w.heap.size w wr) (fun _ i _ => s.size - (intOf i).toNat)
  case atStart => exact ⟨0, [], rfl, Nat.zero_le _, ho0, by simp, hb0⟩
  case round =>
    clear ho0 hb0
    obtain ⟨k, acc, rfl, hks, hown, hc, hbel⟩ := hrel
    have hN := hbel.size
    by_cases hp : k < s.size
    · have hne : (L s).drop k ≠ [] := by rw [drop_cons s k hp]; exact List.cons_ne_nil _ _
      have hbd := dec_bound hc
      have hok := fst_ok _ hne
      rw [dec_step hne] at hc hbd
      have hxz : 0 < (s.extract k s.size).size := by rw [← size_L, L_end, List.length_drop, size_L]; omega
      have hxs : (s.extract k s.size).size ≤ 140737488355328 := Nat.le_trans (size_extract s k s.size) (by omega)
      obtain ⟨t, hT⟩ : ∃ t, B (fst (L (s.extract k s.size))).1 = t := ⟨_, rfl⟩
      obtain ⟨n, hn⟩ : ∃ n, (fst (L (s.extract k s.size))).2 = n := ⟨_, rfl⟩
      have hTL : (fst ((L s).drop k)).1 = L t := by rw [← hT, L_end, L_B]
      have hnn : (fst ((L s).drop k)).2 = n := by rw [← hn, L_end]
      rw [hTL, hnn, List.drop_drop] at hc
      rw [hTL, hnn] at hok
      rw [hTL, List.length_append, size_L, size_L] at hbd
      rw [List.length_drop, size_L, size_L] at hok
      obtain ⟨hn1, hn2, hn3⟩ := hok
      have hbt : acc.length + t.size ≤ 140737488355328 := by omega
      have HC := Lib.hid hc; have HT := Lib.hid hT; have HN := Lib.hid hn; have HX := Lib.hid hxz
      have hnc : (n : Int) ≤ 140737488355328 := by omega
      clear hc hT hn hTL hnn hbd hn3 hne hxz
      go_wp2_with fail
      refine (first_any _ t n wr (ht.below hbel) HX.out hxs HT.out HN.out).mono ?_
      rintro e w3 ⟨rfl, hb3⟩
      have hbel3 : Below w.heap.size w w3 := hbel.trans (hb3.mono hN)
      have hown3 : OwnB w.heap.size w3 _ acc := OwnB.keep hown hb3
      have hN3 := hbel3.size
      clear hown
      go_wp2_with (at_builtin; refine app_str w3 rfl (.tmp 21) (.tmp 22) rfl w.heap.size _ acc t rfl hown3 rfl hbt hN3 ?_; intro v4 w4 hown4 hk4)
      go_roundw
      case rel => exact ⟨k + n, acc ++ L t, by go_num, by omega, hown4, by rw [List.append_assoc]; exact HC.out, hk4 _ hbel3⟩
      case measure => simp [intOf]; omega
    · have hcv := hown.string
      rw [drop_nil s k hp, dec_nil, List.append_nil] at hc
      subst hc
      go_wp2
      go_ret
      exact ⟨rfl, hbel⟩

end Go.Proofs.YtdplbcchkjpcdaaGreatDoor.Re
