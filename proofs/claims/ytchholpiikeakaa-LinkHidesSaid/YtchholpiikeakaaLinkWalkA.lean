/-
  Walks of stage 9: link.digit, marked; boltingref09.digit.
-/
import Derived.Test.YtchholpiikeakaaLinkMath
import Derived.Test.YtchholpiikeakaaFoldLow
import Derived.Deep.RegionLaw
import Derived.Laws.BitsAllLaws
namespace Go.Proofs.Ytchholpiikeakaa.Lk
set_option maxRecDepth 100000
set_option linter.unusedSimpArgs false
set_option linter.unusedVariables false
open Go.RowKit Ba Fm Fo

theorem hb_of (c : UInt8) : hb c = ((decide ((48 : Int) ≤ c.toNat) && decide ((c.toNat : Int) ≤ 57)) || (decide ((97 : Int) ≤ c.toNat) && decide ((c.toNat : Int) ≤ 102)) || (decide ((65 : Int) ≤ c.toNat) && decide ((c.toNat : Int) ≤ 70))) := by
  unfold hb
  rw [Bool.eq_iff_iff]
  simp only [Bool.or_eq_true, Bool.and_eq_true, decide_eq_true_eq, UInt8.le_iff_toNat_le]
  have e48 : (48 : UInt8).toNat = 48 := rfl
  have e57 : (57 : UInt8).toNat = 57 := rfl
  have e65 : (65 : UInt8).toNat = 65 := rfl
  have e70 : (70 : UInt8).toNat = 70 := rfl
  have e97 : (97 : UInt8).toNat = 97 := rfl
  have e102 : (102 : UInt8).toNat = 102 := rfl
  rw [e48, e57, e65, e70, e97, e102]
  omega
theorem hv_of (c : UInt8) : (hv c : Int) = if (48 : Int) ≤ c.toNat ∧ (c.toNat : Int) ≤ 57 then (c.toNat : Int) - 48 else if (97 : Int) ≤ c.toNat ∧ (c.toNat : Int) ≤ 102 then (c.toNat : Int) - 87 else if (65 : Int) ≤ c.toNat ∧ (c.toNat : Int) ≤ 70 then (c.toNat : Int) - 55 else 0 := by
  unfold hv
  simp only [UInt8.le_iff_toNat_le]
  have e48 : (48 : UInt8).toNat = 48 := rfl
  have e57 : (57 : UInt8).toNat = 57 := rfl
  have e65 : (65 : UInt8).toNat = 65 := rfl
  have e70 : (70 : UInt8).toNat = 70 := rfl
  have e97 : (97 : UInt8).toNat = 97 := rfl
  have e102 : (102 : UInt8).toNat = 102 := rfl
  rw [e48, e57, e65, e70, e97, e102]
  split
  · rw [if_pos (by omega)]; omega
  split
  · rw [if_neg (by omega), if_pos (by omega)]; omega
  split
  · rw [if_neg (by omega), if_neg (by omega), if_pos (by omega)]; omega
  · rw [if_neg (by omega), if_neg (by omega), if_neg (by omega)]; rfl
theorem ret_digit {a b : Int} {p q : Bool} (h : a = b) (h' : p = q) : Ending.returned (.tuple #[.int .u8 a, .bool p]) = .returned (.tuple #[.int .u8 b, .bool q]) := by rw [h, h']

set_option maxHeartbeats 2000000 in
theorem digit_any (c : UInt8) (w : World) :
    Calls Try.prog 30 #[.int .u8 c.toNat] w fun e w' => e = .returned (.tuple #[.int .u8 (hv c : Int), .bool (hb c)]) ∧ w = w' := by
  have HB := Lib.hid (hb_of c)
  have HV := Lib.hid (hv_of c)
  have hc := c.toNat_lt
  by_cases h1 : (48 : Int) ≤ c.toNat <;> by_cases h2 : (c.toNat : Int) ≤ 57 <;> by_cases h3 : (97 : Int) ≤ c.toNat <;> by_cases h4 : (c.toNat : Int) ≤ 102 <;> by_cases h5 : (65 : Int) ≤ c.toNat <;> by_cases h6 : (c.toNat : Int) ≤ 70
  all_goals
    first
    | omega
    | (go_enter Try.func30, Try.ntmps30
       go_wp2
       go_ret2
       exact ⟨ret_digit (by rw [HV.out]; split <;> (try split) <;> (try split) <;> omega) (by rw [HB.out]; simp [h1, h2, h3, h4, h5, h6]), rfl⟩)
/-- A digit's number in the reference: below 0 it is none. -/
def rd (c : UInt8) : Int := if hb c = true then (hv c : Int) else -1
theorem refDigit_any (c : UInt8) (w : World) :
    Calls Try.prog 25 #[.int .u8 c.toNat] w fun e w' => e = .returned (.int .i64 (rd c)) ∧ w = w' := by
  have HB := Lib.hid (hb_of c)
  have HV := Lib.hid (hv_of c)
  have hc := c.toNat_lt
  by_cases h1 : (48 : Int) ≤ c.toNat <;> by_cases h2 : (c.toNat : Int) ≤ 57 <;> by_cases h3 : (97 : Int) ≤ c.toNat <;> by_cases h4 : (c.toNat : Int) ≤ 102 <;> by_cases h5 : (65 : Int) ≤ c.toNat <;> by_cases h6 : (c.toNat : Int) ≤ 70
  all_goals
    first
    | omega
    | (go_enter Try.func25, Try.ntmps25
       go_wp2
       go_ret
       refine ⟨ret_int ?_, rfl⟩
       unfold rd
       rw [HB.out, HV.out]
       simp [h1, h2, h3, h4, h5, h6]
       try omega)

theorem rd_yes {c : UInt8} (h : hb c = true) : rd c = hv c := by unfold rd; rw [if_pos h]
theorem rd_no {c : UInt8} (h : hb c = false) : rd c = -1 := by unfold rd; rw [if_neg (by rw [h]; exact Bool.false_ne_true)]

theorem mark_or : ∀ x, x < 16 → ∀ y, y < 16 → 16 * x ||| y = 16 * x + y := by decide +kernel
theorem mark_bits {x y : Nat} (hx : x ≤ 15) (hy : y ≤ 15) : bits .or .u8 ((x : Int) * 16) (y : Int) = ((16 * x + y : Nat) : Int) := by
  have e : (x : Int) * 16 = ((16 * x : Nat) : Int) := by omega
  rw [e, u8_or_nat _ _ (by omega) (by omega), mark_or x (by omega) y (by omega)]
theorem mark_nat {x y : Nat} (hx : x ≤ 15) (hy : y ≤ 15) : ((16 * x + y : Nat) : Int) = (((some (UInt8.ofNat (16 * x + y))).getD 0).toNat : Int) := by
  show _ = ((UInt8.ofNat (16 * x + y)).toNat : Int)
  rw [UInt8.toNat_ofNat']
  omega
theorem digit1 (c : UInt8) (w : World) (q : Bool) (h : hb c = q) : Calls Try.prog 30 #[.int .u8 c.toNat] w fun e w' => e = .returned (.tuple #[.int .u8 (hv c : Int), .bool q]) ∧ w = w' := by
  have k := digit_any c w
  rw [h] at k
  exact k

set_option maxHeartbeats 2000000 in
/-- What marked answers. -/
theorem marked1 (s : ByteArray) (w : World) (hs : s.size ≤ 140737488355328) (o : Option UInt8) (ho : mk (L s) = o) :
    Calls Try.prog 24 #[.string s] w fun e w' => e = .returned (.tuple #[.int .u8 ((o.getD 0).toNat : Int), .bool o.isSome]) ∧ w = w' := by
  by_cases h3 : s.size < 3
  · have hm : mk (L s) = none := by
      have hl := size_L s
      match hL : L s with
      | [] => rfl
      | [a] => rfl
      | [a, b] => rfl
      | a :: b :: c :: r => rw [hL] at hl; simp at hl; omega
    rw [hm] at ho
    subst ho
    clear hm
    go_enter Try.func24, Try.ntmps24
    go_wp2
    go_ret2
    exact ⟨rfl, rfl⟩
  · have hm : mk (L s) = if s[0] == 37 && (hb s[1] && hb s[2]) then some (UInt8.ofNat (16 * hv s[1] + hv s[2])) else none := by
      have e : L s = s[0] :: s[1] :: s[2] :: (L s).drop 3 := by
        have e0 := drop_cons s 0 (by omega)
        have e1 := drop_cons s 1 (by omega)
        have e2 := drop_cons s 2 (by omega)
        rw [List.drop_zero] at e0
        rw [e0, e1, e2]
        rfl
      rw [e]
      rfl
    rw [hm] at ho
    clear hm
    have e37 : ((s[0].toNat : Int) != 37) = !(s[0] == 37) := by rw [← u8_eq]; rfl
    cases h37 : s[0] == 37 with
    | false =>
      rw [h37] at e37 ho
      have HO := Lib.hid ho; clear ho h37
      go_enter Try.func24, Try.ntmps24
      go_wp2
      go_ret2
      exact ⟨by rw [← HO.out]; rfl, rfl⟩
    | true =>
      rw [h37] at e37 ho
      have l1 := hv_le s[1]
      have l2 := hv_le s[2]
      cases hb1 : hb s[1] with
      | false =>
        rw [hb1] at ho
        have HO := Lib.hid ho; have H1 := Lib.hid hb1; clear ho h37 hb1
        go_enter Try.func24, Try.ntmps24
        go_wp2_with fail
        refine (digit1 s[1] _ _ H1.out).mono ?_
        rintro e w' ⟨rfl, rfl⟩
        go_wp2_with fail
        refine (digit1 s[2] _ _ rfl).mono ?_
        rintro e w' ⟨rfl, rfl⟩
        go_wp2
        go_ret2
        exact ⟨by rw [← HO.out]; rfl, rfl⟩
      | true =>
        rw [hb1] at ho
        cases hb2 : hb s[2] with
        | false =>
          rw [hb2] at ho
          have HO := Lib.hid ho; have H1 := Lib.hid hb1; have H2 := Lib.hid hb2; clear ho h37 hb1 hb2
          go_enter Try.func24, Try.ntmps24
          go_wp2_with fail
          refine (digit1 s[1] _ _ H1.out).mono ?_
          rintro e w' ⟨rfl, rfl⟩
          go_wp2_with fail
          refine (digit1 s[2] _ _ H2.out).mono ?_
          rintro e w' ⟨rfl, rfl⟩
          go_wp2
          go_ret2
          exact ⟨by rw [← HO.out]; rfl, rfl⟩
        | true =>
          rw [hb2] at ho
          have HO := Lib.hid ho; have H1 := Lib.hid hb1; have H2 := Lib.hid hb2; clear ho h37 hb1 hb2
          go_enter Try.func24, Try.ntmps24
          go_wp2_with fail
          refine (digit1 s[1] _ _ H1.out).mono ?_
          rintro e w' ⟨rfl, rfl⟩
          go_wp2_with fail
          refine (digit1 s[2] _ _ H2.out).mono ?_
          rintro e w' ⟨rfl, rfl⟩
          go_wp2
          go_ret2
          exact ⟨ret_digit (by rw [mark_bits l1 l2, ← HO.out]; exact mark_nat l1 l2) (by rw [← HO.out]; rfl), rfl⟩

end Go.Proofs.Ytchholpiikeakaa.Lk
