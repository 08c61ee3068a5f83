/-
  Walks of stage 3: the digits, has, end, bodyOf, kindOf.
-/
import Derived.Test.YtjhhhlomkfnniaaDoorRefsWalkA
import Derived.BigQuiet
import Derived.Deep.QuietTactic
namespace Go.Proofs.YtjhhhlomkfnniaaDoor.Re
set_option linter.unusedSimpArgs false
set_option linter.unusedVariables false
open Go.RowKit Ba Rm

def digI (x : Int) : Int := if 48 ≤ x ∧ x ≤ 57 then x - 48 else if 97 ≤ x ∧ x ≤ 102 then x - 87 else if 65 ≤ x ∧ x ≤ 70 then x - 55 else -1
theorem dig_eq (c : UInt8) : digI c.toNat = dig c := by
  unfold digI dig
  repeat' split
  all_goals omega
theorem digI_far (x : Int) (h : 128 ≤ x) : digI x = -1 := by
  unfold digI
  repeat' split
  all_goals omega
theorem seven (x : Int) : x < 48 ∨ (48 ≤ x ∧ x ≤ 57) ∨ (57 < x ∧ x < 65) ∨ (65 ≤ x ∧ x ≤ 70) ∨ (70 < x ∧ x < 97) ∨ (97 ≤ x ∧ x ≤ 102) ∨ 102 < x := by omega

set_option maxHeartbeats 1000000 in
theorem digit_any (r : Int) (h0 : 0 ≤ r) (h1 : r ≤ 1114111) (w : World) : Calls Tryd.prog 103 #[.int .i32 r] w fun e w' => e = .returned (.int .i64 (digI r)) ∧ w = w' := by
  rcases seven r with h | ⟨h, h'⟩ | ⟨h, h'⟩ | ⟨h, h'⟩ | ⟨h, h'⟩ | ⟨h, h'⟩ | h
  all_goals
    go_enter Tryd.func103, Tryd.ntmps103
    go_wp2
    go_ret
    refine ⟨ret_int ?_, rfl⟩
    unfold digI
    repeat' split
    all_goals omega

set_option maxHeartbeats 1000000 in
theorem refDigit_any (c : UInt8) (w : World) : Calls Tryd.prog 99 #[.int .u8 c.toNat] w fun e w' => e = .returned (.int .i64 (dig c)) ∧ w = w' := by
  rw [← dig_eq]
  have hc := c.toNat_lt
  generalize c.toNat = m at hc ⊢
  rcases seven m with h | ⟨h, h'⟩ | ⟨h, h'⟩ | ⟨h, h'⟩ | ⟨h, h'⟩ | ⟨h, h'⟩ | h
  all_goals
    go_enter Tryd.func99, Tryd.ntmps99
    go_wp2
    go_ret
    refine ⟨ret_int ?_, rfl⟩
    unfold digI
    repeat' split
    all_goals omega

/-- Where the next ; stands. -/
def endI (l : List UInt8) (k : Nat) : Int := match cutAt (l.drop k) with
  | some b => ((k + b.length : Nat) : Int)
  | none => -1
theorem endI_stop {l r : List UInt8} {k : Nat} (h : l.drop k = 59 :: r) : endI l k = k := by
  unfold endI
  rw [h]
  simp [cutAt]
theorem endI_on {l r : List UInt8} {k : Nat} {c : UInt8} (h : l.drop k = c :: r) (hr : l.drop (k + 1) = r) (hc : c ≠ 59) : endI l k = endI l (k + 1) := by
  unfold endI
  rw [h, hr, cutAt, if_neg hc]
  cases cutAt r with
  | none => rfl
  | some b => simp; omega
theorem endI_none {l : List UInt8} {k : Nat} (h : l.drop k = []) : endI l k = -1 := by
  unfold endI
  rw [h]
  rfl

theorem end_any (s : ByteArray) (m : Nat) (w : World) (hm : m ≤ s.size) (hs : s.size ≤ 140737488355328) : Calls Tryd.prog 72 #[.string s, .int .i64 m] w fun e w' => e = .returned (.int .i64 (endI (L s) m)) ∧ w = w' := by
  go_enter Tryd.func72, Tryd.ntmps72
  go_wp2
  go_loop [5] (fun i => ∃ k : Nat, i = .int .i64 k ∧ k ≤ s.size ∧ endI (L s) k = endI (L s) m) (fun i => s.size - (intOf i).toNat)
  case atStart => exact ⟨m, rfl, hm, rfl⟩
  case round =>
    obtain ⟨k, rfl, hks, hc⟩ := hrel
    by_cases hp : k < s.size
    · have hd := drop_cons s k hp
      by_cases he : s[k] = 59
      · have hb : (((s[k].toNat : Int)) == 59) = true := by rw [he]; rfl
        rw [he] at hd
        rw [endI_stop hd] at hc
        have HC := Lib.hid hc; clear hc hd he
        go_wp2
        go_ret
        exact ⟨ret_int HC.out, rfl⟩
      · have hb : (((s[k].toNat : Int)) == 59) = false := by
          have := u8_eq (a := s[k]) (b := 59)
          rw [show (((59 : UInt8).toNat : Int)) = 59 from rfl] at this
          rw [this]; simpa using he
        rw [endI_on hd rfl he] at hc
        have HC := Lib.hid hc; clear hc hd he
        go_wp2
        go_round
        case rel => exact ⟨k + 1, by go_num, by omega, HC.out⟩
        case measure => simp [intOf]; omega
    · rw [endI_none (drop_nil s k hp)] at hc
      have HC := Lib.hid hc; clear hc
      go_wp2
      go_ret
      exact ⟨ret_int HC.out, rfl⟩

theorem ret_sb {a b : ByteArray} {x y : Bool} (h : a = b) (k : x = y) : Ending.returned (.tuple #[.string a, .bool x]) = .returned (.tuple #[.string b, .bool y]) := by rw [h, k]
theorem u8_ne {a b : UInt8} (h : a ≠ b) : (((a.toNat : Int)) == (b.toNat : Int)) = false := by rw [u8_eq]; simpa using h

theorem bodyOf_any (s : ByteArray) (w : World) (hs : s.size ≤ 140737488355328) : Calls Tryd.prog 77 #[.string s] w fun e w' => e = .returned (.tuple #[.string (B ((bod (L s)).getD [])), .bool (bod (L s)).isSome]) ∧ w = w' := by
  go_enter Tryd.func77, Tryd.ntmps77
  go_wp2
  go_loop [7] (fun i => ∃ k : Nat, i = .int .i64 k ∧ k ≤ s.size ∧ bod (L s) = (bod ((L s).drop k)).map ((L s).take k ++ ·)) (fun i => s.size - (intOf i).toNat)
  case atStart => exact ⟨0, rfl, Nat.zero_le _, by rw [List.drop_zero, List.take_zero]; cases bod (L s) <;> rfl⟩
  case round =>
    obtain ⟨k, rfl, hks, hc⟩ := hrel
    by_cases hp : k < s.size
    · rw [drop_cons s k hp] at hc
      by_cases he : s[k] = 59
      · have hb : (((s[k].toNat : Int)) == 59) = true := by rw [he]; rfl
        rw [bod, if_pos he] at hc
        have HC := Lib.hid hc; clear hc he
        go_wp2
        go_ret2
        refine ⟨ret_sb ?_ ?_, rfl⟩
        · rw [HC.out]
          exact B_of (by rw [L_extract]; simp)
        · rw [HC.out]; rfl
      · have hb : (((s[k].toNat : Int)) == 59) = false := u8_ne (b := 59) he
        by_cases h8 : s[k] = 38
        · have hb8 : (((s[k].toNat : Int)) == 38) = true := by rw [h8]; rfl
          rw [bod, if_neg he, if_pos h8] at hc
          have HC := Lib.hid hc; clear hc he h8
          go_wp2
          go_ret2
          refine ⟨ret_sb ?_ ?_, rfl⟩
          · rw [HC.out]; rfl
          · rw [HC.out]; rfl
        · have hb8 : (((s[k].toNat : Int)) == 38) = false := u8_ne (b := 38) h8
          rw [bod, if_neg he, if_neg h8] at hc
          have HC := Lib.hid hc; clear hc he h8
          go_wp2
          go_round
          case rel =>
            refine ⟨k + 1, by go_num, by omega, ?_⟩
            rw [HC.out, take_snoc s k hp]
            cases bod ((L s).drop (k + 1)) <;> simp
          case measure => simp [intOf]; omega
    · rw [drop_nil s k hp] at hc
      have HC := Lib.hid hc; clear hc
      go_wp2
      go_ret2
      refine ⟨ret_sb ?_ ?_, rfl⟩
      · rw [HC.out]; rfl
      · rw [HC.out]; rfl

/-- A body's kind: by its name, decimal, hexadecimal. -/
def knd (l : List UInt8) : Int := if l.head? = some 35 then (if l[1]? = some 120 ∨ l[1]? = some 88 then 2 else 1) else 0
def rst (l : List UInt8) : List UInt8 := if l.head? = some 35 then (if l[1]? = some 120 ∨ l[1]? = some 88 then l.drop 2 else l.drop 1) else l
theorem L_at (s : ByteArray) (k : Nat) (h : k < s.size) : (L s)[k]? = some s[k] := by
  rw [List.getElem?_eq_getElem (by rw [size_L]; exact h)]; rfl
theorem L_far (s : ByteArray) (k : Nat) (h : ¬ k < s.size) : (L s)[k]? = none := List.getElem?_eq_none (by rw [size_L]; omega)
theorem head_at (s : ByteArray) : (L s).head? = (L s)[0]? := by rw [List.head?_eq_getElem?]
theorem ret_is {a b : ByteArray} {x y : Int} (k : x = y) (h : a = b) : Ending.returned (.tuple #[.int .i64 x, .string a]) = .returned (.tuple #[.int .i64 y, .string b]) := by rw [h, k]
theorem empty_ne {s : ByteArray} (h : 0 < s.size) : (s.toList == (ByteArray.mk #[]).toList) = false := by
  rw [eq_of_toList, decide_eq_false_iff_not]
  intro e
  rw [e] at h
  exact absurd h (by decide)

theorem below_dN {N : Nat} {w0 w : World} (h : Below N w0 w) (n : Nat) : Below N w0 (w.drewN n) := ⟨h.1, h.2, h.3, h.4, h.5⟩
theorem ne_empty {s : ByteArray} (h : 0 < s.size) : ¬ s.toList = [] := fun e => by
  have : s.size = 0 := by rw [← size_L, ← toList_L, e]; rfl
  omega

set_option maxHeartbeats 1000000 in
theorem kindOf_any (s : ByteArray) (w : World) (hs : s.size ≤ 140737488355328) : Calls Tryd.prog 93 #[.string s] w fun e w' => e = .returned (.tuple #[.int .i64 (knd (L s)), .string (B (rst (L s)))]) ∧ Below w.heap.size w w' := by
  by_cases h0 : 0 < s.size
  · have he0 := empty_ne h0
    have hn0 := ne_empty h0
    have hie : s.toList.isEmpty = false := by simpa using hn0
    by_cases h35 : s[0] = 35
    · have hb : (((s[0].toNat : Int)) != 35) = false := by rw [h35]; rfl
      have hh : (L s).head? = some 35 := by rw [head_at, L_at s 0 h0, h35]
      by_cases hx : ∃ h1 : 1 < s.size, s[1] = 120 ∨ s[1] = 88
      · obtain ⟨h1, hx⟩ := hx
        have k1 : knd (L s) = 2 := by
          unfold knd
          rw [if_pos hh, L_at s 1 h1, if_pos (by simpa using hx)]
        have k2 : B (rst (L s)) = s.extract 2 s.size := by
          unfold rst
          rw [if_pos hh, L_at s 1 h1, if_pos (by simpa using hx), ← L_end, B_L]
        rw [k1, k2]
        clear k1 k2 hh h35
        rcases hx with hx | hx
        · have hb1 : (((s[1].toNat : Int)) == 120) = true := by rw [hx]; rfl
          clear hx
          have hz : (2 : Int) ≤ s.size := by omega
          go_enter Tryd.func93, Tryd.ntmps93
          go_wp2
          go_quiet (fail)
          go_wp2
          go_ret2
          exact ⟨rfl, below_dN (Below.refl _ _) _⟩
        · have hb1 : (((s[1].toNat : Int)) == 120) = false := by rw [hx]; rfl
          have hb2 : (((s[1].toNat : Int)) == 88) = true := by rw [hx]; rfl
          clear hx
          have hz : (2 : Int) ≤ s.size := by omega
          go_enter Tryd.func93, Tryd.ntmps93
          go_wp2
          go_quiet (fail)
          go_wp2
          go_ret2
          exact ⟨rfl, below_dN (Below.refl _ _) _⟩
      · have hx' : ¬ ((L s)[1]? = some 120 ∨ (L s)[1]? = some 88) := by
          intro e
          by_cases h1 : 1 < s.size
          · rw [L_at s 1 h1] at e
            exact hx ⟨h1, by simpa using e⟩
          · rw [L_far s 1 h1] at e
            simp at e
        have k1 : knd (L s) = 1 := by
          unfold knd
          rw [if_pos hh, if_neg hx']
        have k2 : B (rst (L s)) = s.extract 1 s.size := by
          unfold rst
          rw [if_pos hh, if_neg hx', ← L_end, B_L]
        rw [k1, k2]
        clear k1 k2 hh h35 hx'
        by_cases h1 : 1 < s.size
        · have hb1 : (((s[1].toNat : Int)) == 120) = false := u8_ne (b := 120) fun e => hx ⟨h1, .inl e⟩
          have hb2 : (((s[1].toNat : Int)) == 88) = false := u8_ne (b := 88) fun e => hx ⟨h1, .inr e⟩
          clear hx
          go_enter Tryd.func93, Tryd.ntmps93
          go_wp2
          go_quiet (fail)
          go_wp2
          go_ret2
          exact ⟨rfl, below_dN (Below.refl _ _) _⟩
        · clear hx
          go_enter Tryd.func93, Tryd.ntmps93
          go_wp2
          go_quiet (fail)
          go_wp2
          go_ret2
          exact ⟨rfl, below_dN (Below.refl _ _) _⟩
    · have hb : (((s[0].toNat : Int)) != 35) = true := by
        have := u8_ne (b := 35) h35
        rw [show (((35 : UInt8).toNat : Int)) = 35 from rfl] at this
        rw [bne, this]; rfl
      have hh : ¬ (L s).head? = some 35 := by rw [head_at, L_at s 0 h0]; simpa using h35
      have k1 : knd (L s) = 0 := by
        unfold knd
        rw [if_neg hh]
      have k2 : B (rst (L s)) = s := by
        unfold rst
        rw [if_neg hh, B_L]
      rw [k1, k2]
      clear k1 k2 hh h35
      go_enter Tryd.func93, Tryd.ntmps93
      go_wp2
      go_ret2
      exact ⟨rfl, Below.refl _ _⟩
  · obtain rfl : s = ByteArray.mk #[] := L_inj (by
      have : (L s).length = 0 := by rw [size_L]; omega
      exact List.eq_nil_of_length_eq_zero this)
    go_enter Tryd.func93, Tryd.ntmps93
    go_wp2
    go_ret2
    exact ⟨rfl, Below.refl _ _⟩

end Go.Proofs.YtjhhhlomkfnniaaDoor.Re
