/-
  Walks of stage 5: names.inElement, inAttr, every, Attr, Right.
-/
import Derived.Test.YtjhhhlomkfnniaaDoorFoldSpace
import Derived.Test.YtjhhhlomkfnniaaDoorNamesMath
namespace Go.Proofs.YtjhhhlomkfnniaaDoor.Na
set_option linter.unusedSimpArgs false
set_option linter.unusedVariables false
open Go.RowKit Ba Fm Fo Nm

theorem u8_range {c : UInt8} : (decide ((65 : UInt8) ≤ c) && decide (c ≤ 90)) = (decide ((65 : Int) ≤ c.toNat) && decide ((c.toNat : Int) ≤ 90)) := by
  rw [Bool.eq_iff_iff]
  simp only [Bool.and_eq_true, decide_eq_true_eq, UInt8.le_iff_toNat_le]
  have e65 : (65 : UInt8).toNat = 65 := rfl
  have e90 : (90 : UInt8).toNat = 90 := rfl
  rw [e65, e90]
  omega
theorem u8_small {c : UInt8} : small c = (decide ((97 : Int) ≤ c.toNat) && decide ((c.toNat : Int) ≤ 122)) := by
  unfold small
  rw [Bool.eq_iff_iff]
  simp only [Bool.and_eq_true, decide_eq_true_eq, UInt8.le_iff_toNat_le]
  have e65 : (97 : UInt8).toNat = 97 := rfl
  have e90 : (122 : UInt8).toNat = 122 := rfl
  rw [e65, e90]
  omega

def elBAll (s : ByteArray) : Bool := (L s).all elB
def atBAll (s : ByteArray) : Bool := (L s).all atB
theorem all_snoc (p : UInt8 → Bool) (s : ByteArray) (k : Nat) (h : k < s.size) : ((L s).take (k + 1)).all p = (((L s).take k).all p && p s[k]) := by
  rw [take_snoc s k h, List.all_append]; simp
theorem all_no (p : UInt8 → Bool) (s : ByteArray) (k : Nat) (h : k < s.size) (hb : p s[k] = false) : (L s).all p = false := by
  rw [List.all_eq_false]
  exact ⟨s[k], List.getElem_mem (by rw [size_L]; exact h), by simp [hb]⟩

set_option maxHeartbeats 1000000 in
theorem inElement_any (c : UInt8) (w : World) :
    Calls Tryd.prog 43 #[.int .u8 c.toNat] w fun e w' => e = .returned (.bool (elB c)) ∧ w = w' := by
  have e0 : ((c.toNat : Int) == 0) = (c == 0) := u8_eq (b := 0)
  have e47 : ((c.toNat : Int) == 47) = (c == 47) := u8_eq (b := 47)
  have e62 : ((c.toNat : Int) == 62) = (c == 62) := u8_eq (b := 62)
  have hr := u8_range (c := c)
  have he : elB c = !(sp c || (decide ((65 : UInt8) ≤ c) && decide (c ≤ 90)) || c == 0 || c == 47 || c == 62) := rfl
  rw [hr] at he
  obtain ⟨q, hq⟩ : ∃ q, elB c = q := ⟨_, rfl⟩
  rw [hq] at he ⊢
  clear hr hq
  cases h0 : (c == 0) <;> cases h47 : (c == 47) <;> cases h62 : (c == 62)
  all_goals
    rw [h0] at e0
    rw [h47] at e47
    rw [h62] at e62
    rw [h0, h47, h62] at he
    clear h0 h47 h62
  case false.false.false =>
    cases hs : sp c <;> by_cases h1 : (65 : Int) ≤ c.toNat <;> by_cases h2 : (c.toNat : Int) ≤ 90
    all_goals
      have HE := Lib.hid he; have HS := Lib.hid hs
      clear he hs
      first
      | omega
      | (go_enter Tryd.func43, Tryd.ntmps43
         go_wp2_with (go_at_call 71; refine (space_any c _).mono ?_; rw [HS.out]; rintro e w' ⟨rfl, rfl⟩)
         go_ret
         exact ⟨ret_bool (by rw [HE.out, HS.out]; simp [h1, h2]), rfl⟩)
  all_goals
    have HE := Lib.hid he
    clear he
    go_enter Tryd.func43, Tryd.ntmps43
    go_wp2
    go_ret
    exact ⟨ret_bool (by rw [HE.out]; simp), rfl⟩

set_option maxHeartbeats 1000000 in
theorem inAttr_any (c : UInt8) (w : World) :
    Calls Tryd.prog 42 #[.int .u8 c.toNat] w fun e w' => e = .returned (.bool (atB c)) ∧ w = w' := by
  have e34 : ((c.toNat : Int) == 34) = (c == 34) := u8_eq (b := 34)
  have e39 : ((c.toNat : Int) == 39) = (c == 39) := u8_eq (b := 39)
  have e60 : ((c.toNat : Int) == 60) = (c == 60) := u8_eq (b := 60)
  have e61 : ((c.toNat : Int) == 61) = (c == 61) := u8_eq (b := 61)
  have he : atB c = (elB c && !(c == 34 || c == 39 || c == 60 || c == 61)) := rfl
  obtain ⟨q, hq⟩ : ∃ q, atB c = q := ⟨_, rfl⟩
  rw [hq] at he ⊢
  clear hq
  cases h34 : (c == 34) <;> cases h39 : (c == 39) <;> cases h60 : (c == 60) <;> cases h61 : (c == 61)
  all_goals
    rw [h34] at e34
    rw [h39] at e39
    rw [h60] at e60
    rw [h61] at e61
    rw [h34, h39, h60, h61] at he
    clear h34 h39 h60 h61
    have HE := Lib.hid he
    clear he
    go_enter Tryd.func42, Tryd.ntmps42
    go_wp2_with (go_at_call 43; refine (inElement_any c _).mono ?_; rintro e w' ⟨rfl, rfl⟩)
    go_ret
    exact ⟨ret_bool (by rw [HE.out]; simp), rfl⟩

set_option maxHeartbeats 1000000 in
theorem every_el (s : ByteArray) (w : World) (hs : s.size ≤ 140737488355328) :
    Calls Tryd.prog 41 #[.string s, .func (.func 43) #[] #[]] w fun e w' => e = .returned (.bool (elBAll s)) ∧ w = w' := by
  go_enter Tryd.func41, Tryd.ntmps41
  go_wp2
  go_loop [8] (fun i => ∃ k : Nat, i = .int .i64 k ∧ k ≤ s.size ∧ ((L s).take k).all elB = true) (fun i => s.size - (intOf i).toNat)
  case atStart => exact ⟨0, rfl, Nat.zero_le _, by simp⟩
  case round =>
    obtain ⟨k, rfl, hks, hn⟩ := hrel
    by_cases hp : k < s.size
    · have hsn := all_snoc elB s k hp
      rw [hn] at hsn
      cases hb : elB s[k] with
      | true =>
        rw [hb] at hsn
        have HB := Lib.hid hb; have HS := Lib.hid hsn; clear hb hsn hn
        go_wp2_with (go_at_call 43; refine (inElement_any s[k] _).mono ?_; rw [HB.out]; rintro e w' ⟨rfl, rfl⟩)
        go_round
        case rel => exact ⟨k + 1, by go_num, by omega, HS.out⟩
        case measure => simp [intOf]; omega
      | false =>
        have hno : elBAll s = false := all_no elB s k hp hb
        have HB := Lib.hid hb; have HN := Lib.hid hno; clear hb hsn hn hno
        go_wp2_with (go_at_call 43; refine (inElement_any s[k] _).mono ?_; rw [HB.out]; rintro e w' ⟨rfl, rfl⟩)
        go_ret
        exact ⟨ret_bool HN.out.symm, rfl⟩
    · rw [List.take_of_length_le (by rw [size_L]; omega)] at hn
      have hn : elBAll s = true := hn
      have HN := Lib.hid hn; clear hn
      go_wp2
      go_ret
      exact ⟨ret_bool HN.out.symm, rfl⟩
set_option maxHeartbeats 1000000 in
theorem every_at (s : ByteArray) (w : World) (hs : s.size ≤ 140737488355328) :
    Calls Tryd.prog 41 #[.string s, .func (.func 42) #[] #[]] w fun e w' => e = .returned (.bool (atBAll s)) ∧ w = w' := by
  go_enter Tryd.func41, Tryd.ntmps41
  go_wp2
  go_loop [8] (fun i => ∃ k : Nat, i = .int .i64 k ∧ k ≤ s.size ∧ ((L s).take k).all atB = true) (fun i => s.size - (intOf i).toNat)
  case atStart => exact ⟨0, rfl, Nat.zero_le _, by simp⟩
  case round =>
    obtain ⟨k, rfl, hks, hn⟩ := hrel
    by_cases hp : k < s.size
    · have hsn := all_snoc atB s k hp
      rw [hn] at hsn
      cases hb : atB s[k] with
      | true =>
        rw [hb] at hsn
        have HB := Lib.hid hb; have HS := Lib.hid hsn; clear hb hsn hn
        go_wp2_with (go_at_call 42; refine (inAttr_any s[k] _).mono ?_; rw [HB.out]; rintro e w' ⟨rfl, rfl⟩)
        go_round
        case rel => exact ⟨k + 1, by go_num, by omega, HS.out⟩
        case measure => simp [intOf]; omega
      | false =>
        have hno : atBAll s = false := all_no atB s k hp hb
        have HB := Lib.hid hb; have HN := Lib.hid hno; clear hb hsn hn hno
        go_wp2_with (go_at_call 42; refine (inAttr_any s[k] _).mono ?_; rw [HB.out]; rintro e w' ⟨rfl, rfl⟩)
        go_ret
        exact ⟨ret_bool HN.out.symm, rfl⟩
    · rw [List.take_of_length_le (by rw [size_L]; omega)] at hn
      have hn : atBAll s = true := hn
      have HN := Lib.hid hn; clear hn
      go_wp2
      go_ret
      exact ⟨ret_bool HN.out.symm, rfl⟩

theorem nil_size {s : ByteArray} (h : s.toList = []) : s.size = 0 := by
  rw [toList_L] at h
  rw [← size_L, h]; rfl
theorem not_nil {s : ByteArray} (h : ¬ s.size = 0) : ¬ s.toList = [] := fun e => h (nil_size e)
theorem nil_of {s : ByteArray} (h : s.size = 0) : s.toList = [] := by
  rw [toList_L]
  exact List.eq_nil_of_length_eq_zero (by rw [size_L]; exact h)
theorem attrB_nil {s : ByteArray} (h : s.size = 0) : attrB s = false := by
  unfold attrB
  rw [← toList_L, nil_of h]; rfl
theorem rightB_nil {s : ByteArray} (h : s.size = 0) : rightB s = false := by
  unfold rightB
  rw [← toList_L, nil_of h]; rfl
theorem attrB_cons {s : ByteArray} (h : ¬ s.size = 0) : attrB s = atBAll s := by
  unfold attrB atBAll
  have := drop_cons s 0 (by omega)
  rw [List.drop_zero] at this
  rw [this]; rfl
theorem rightB_cons {s : ByteArray} (h : 0 < s.size) : rightB s = (small s[0] && elBAll s) := by
  unfold rightB elBAll
  have := drop_cons s 0 h
  rw [List.drop_zero] at this
  rw [this]; rfl

set_option maxHeartbeats 1000000 in
theorem attr_any (s : ByteArray) (w : World) (hs : s.size ≤ 140737488355328) :
    Calls Tryd.prog 22 #[.string s] w fun e w' => e = .returned (.bool (attrB s)) ∧ w = w' := by
  by_cases h0 : s.size = 0
  · rw [attrB_nil h0]
    have hn := nil_of h0
    clear h0
    go_enter Tryd.func22, Tryd.ntmps22
    go_wp2
    go_ret
    exact ⟨rfl, rfl⟩
  · rw [attrB_cons h0]
    have hn := not_nil h0
    clear h0
    go_enter Tryd.func22, Tryd.ntmps22
    go_wp2_with fail
    refine (every_at s w hs).mono ?_
    rintro e w' ⟨rfl, rfl⟩
    go_wp2
    go_ret
    exact ⟨ret_bool (by simp [hn]), rfl⟩
set_option maxHeartbeats 1000000 in
theorem right_any (s : ByteArray) (w : World) (hs : s.size ≤ 140737488355328) :
    Calls Tryd.prog 23 #[.string s] w fun e w' => e = .returned (.bool (rightB s)) ∧ w = w' := by
  by_cases h0 : s.size = 0
  · rw [rightB_nil h0]
    have hn := nil_of h0
    clear h0
    go_enter Tryd.func23, Tryd.ntmps23
    go_wp2
    go_ret
    exact ⟨rfl, rfl⟩
  · have hp : 0 < s.size := by omega
    have he := rightB_cons hp
    rw [u8_small] at he
    obtain ⟨q, hq⟩ : ∃ q, rightB s = q := ⟨_, rfl⟩
    rw [hq] at he ⊢
    have hn := not_nil h0
    clear h0 hq
    have HE := Lib.hid he
    clear he
    by_cases h1 : (97 : Int) ≤ s[0].toNat <;> by_cases h2 : (s[0].toNat : Int) ≤ 122
    all_goals
      go_enter Tryd.func23, Tryd.ntmps23
      go_wp2_with (go_at_call 41; refine (every_el s _ hs).mono ?_; rintro e w' ⟨rfl, rfl⟩)
      go_ret
      refine ⟨ret_bool ?_, rfl⟩
      rw [HE.out]
      by_cases g1 : (97 : Int) ≤ s[0].toNat
      · by_cases g2 : (s[0].toNat : Int) ≤ 122
        · rw [decide_eq_true g1, decide_eq_true g2]
          first | rfl | (simp [hn]; done) | (exfalso; omega)
        · rw [decide_eq_false g2, decide_eq_true g1]
          first | rfl | (exfalso; omega)
      · rw [decide_eq_false g1]
        first | rfl | (exfalso; omega)

end Go.Proofs.YtjhhhlomkfnniaaDoor.Na
