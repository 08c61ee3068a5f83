/-
  Walks of stage 5's law NamesEach: it returns true.
-/
import Derived.Test.YtjgnbmebmjecpaaNamesLawsA
namespace Go.Proofs.Ytjgnbmebmjecpaa.Na
set_option linter.unusedSimpArgs false
set_option linter.unusedVariables false
open Go.RowKit Ba Fm Fo Nm Sm

def smallHead (u : ByteArray) : Bool := match L u with | [] => false | c :: _ => small c
def atAcc (u : ByteArray) (k : Nat) : Bool := decide (0 < u.size) && ((L u).take k).all atB
def elAcc (u : ByteArray) (k : Nat) : Bool := smallHead u && ((L u).take k).all elB
theorem atAcc_succ (u : ByteArray) (k : Nat) (h : k < u.size) : atAcc u (k + 1) = (atAcc u k && atB u[k]) := by
  unfold atAcc; rw [all_snoc _ _ _ h, Bool.and_assoc]
theorem elAcc_succ (u : ByteArray) (k : Nat) (h : k < u.size) : elAcc u (k + 1) = (elAcc u k && elB u[k]) := by
  unfold elAcc; rw [all_snoc _ _ _ h, Bool.and_assoc]
theorem atAcc_all (u : ByteArray) : atAcc u u.size = attrB u := by
  unfold atAcc
  rw [List.take_of_length_le (by rw [size_L]; exact Nat.le_refl _)]
  by_cases h : u.size = 0
  · rw [attrB_nil h, decide_eq_false (by omega)]; rfl
  · rw [attrB_cons h, decide_eq_true (by omega), Bool.true_and]; rfl
theorem smallHead_pos {u : ByteArray} (h : 0 < u.size) : smallHead u = small u[0] := by
  unfold smallHead
  have := drop_cons u 0 h
  rw [List.drop_zero] at this
  rw [this]
theorem elAcc_all (u : ByteArray) : elAcc u u.size = rightB u := by
  unfold elAcc
  rw [List.take_of_length_le (by rw [size_L]; exact Nat.le_refl _)]
  by_cases h : u.size = 0
  · have : L u = [] := List.eq_nil_of_length_eq_zero (by rw [size_L]; exact h)
    rw [rightB_nil h]; unfold smallHead; rw [this]; rfl
  · rw [rightB_cons (by omega), smallHead_pos (by omega)]; rfl
theorem one_byte (u : ByteArray) (k : Nat) (h : k < u.size) : L (u.extract k (k + 1)) = [u[k]] := by
  rw [L_extract, drop_cons u k h]; simp
theorem attr_one (u : ByteArray) (k : Nat) (h : k < u.size) : attrB (u.extract k (k + 1)) = atB u[k] := by
  unfold attrB; rw [one_byte u k h]; show [u[k]].all atB = _; simp
theorem right_one (u : ByteArray) (k : Nat) (h : k < u.size) : rightB (⟨#[97]⟩ ++ u.extract k (k + 1)) = elB u[k] := by
  unfold rightB; rw [L_append, one_byte u k h]
  show (small 97 && [97, u[k]].all elB) = _
  simp [show small 97 = true from rfl, show elB 97 = true from rfl]

set_option maxRecDepth 100000 in
set_option maxHeartbeats 8000000 in
theorem law_each (s : ByteArray) (hs : s.size ≤ 140737488351232) (w : World) :
    Calls Try.prog 9 #[.string s] w fun e w' => e = .returned (.bool true) ∧ Below w.heap.size w w' := by
  obtain ⟨k1, hk1, hk2, -, hmin⟩ := min_any s.size 200 200 rfl w
  obtain ⟨u, hu⟩ : ∃ u, s.extract 0 k1 = u := ⟨_, rfl⟩
  have hus : u.size = k1 := by rw [← hu]; exact size_take s k1 hk1
  have hul : u.size ≤ 200 := by omega
  have HU := Lib.hid hu
  clear hu hus
  go_enter Try.func9, Try.ntmps9
  go_wp2
  rw [HU.out]
  clear hmin
  by_cases h0 : u.size = 0
  · have hn : u.toList = [] := nil_of h0
    have hA0 : atAcc u 0 = false := by unfold atAcc; rw [decide_eq_false (by omega)]; rfl
    have hE0 : elAcc u 0 = false := by
      unfold elAcc smallHead
      have : L u = [] := List.eq_nil_of_length_eq_zero (by rw [size_L]; exact h0)
      rw [this]; rfl
    have HA := Lib.hid hA0; have HE := Lib.hid hE0
    clear hA0 hE0 h0
    go_quiet (fail)
    have hbq := below_dN (Below.refl w.heap.size w) nq
    go_wp2
    go_loop [3, 4, 5] (fun p q i => ∃ (k : Nat) (a b : Bool), p = .bool a ∧ q = .bool b ∧ i = .int .i64 k ∧ k ≤ u.size ∧ atAcc u k = a ∧ elAcc u k = b) (fun _ _ i => u.size - (intOf i).toNat)
    case atStart => exact ⟨0, _, _, rfl, rfl, rfl, Nat.zero_le _, HA.out, HE.out⟩
    case round =>
      obtain ⟨k, a, b, rfl, rfl, rfl, hks, ha, hb⟩ := hrel
      have HA1 := Lib.hid ha; have HB1 := Lib.hid hb
      clear ha hb HA HE
      by_cases hp : k < u.size
      · have hat := atAcc_succ u k hp
        have hel := elAcc_succ u k hp
        rw [HA1.out] at hat
        rw [HB1.out] at hel
        obtain ⟨c1, hc1⟩ : ∃ q, atB u[k] = q := ⟨_, rfl⟩
        obtain ⟨c2, hc2⟩ : ∃ q, elB u[k] = q := ⟨_, rfl⟩
        have h1 := (attr_one u k hp).trans hc1
        have h2 := (right_one u k hp).trans hc2
        rw [hc1] at hat
        rw [hc2] at hel
        have z1 : (u.extract k (k + 1)).size ≤ 200 := Nat.le_trans (size_extract u k (k + 1)) hul
        have z2 : ((⟨#[97]⟩ : ByteArray) ++ u.extract k (k + 1)).size ≤ 140737488355328 := by rw [size_append]; have : (⟨#[97]⟩ : ByteArray).size = 1 := rfl; omega
        have z3 : (⟨#[97]⟩ : ByteArray).size + (u.extract k (k + 1)).size ≤ 201 := by have : (⟨#[97]⟩ : ByteArray).size = 1 := rfl; omega
        have HAT := Lib.hid hat; have HEL := Lib.hid hel; have K1 := Lib.hid h1; have K2 := Lib.hid h2
        clear hat hel h1 h2 hc1 hc2 HA1 HB1
        obtain ⟨z, hz⟩ : ∃ z, (⟨#[97]⟩ : ByteArray) ++ u.extract k (k + 1) = z := ⟨_, rfl⟩
        obtain ⟨y, hy⟩ : ∃ z, u.extract k (k + 1) = z := ⟨_, rfl⟩
        have HZ := Lib.hid hz; have HY := Lib.hid hy
        have k1 := K1.out; have k2 := K2.out
        rw [hz] at k2 z2
        rw [hy] at k1
        have z1' : y.size ≤ 200 := by rw [← hy]; exact z1
        have K1' := Lib.hid k1; have K2' := Lib.hid k2
        clear hz hy k1 k2 K1 K2
        cases a <;> cases b
        case false.false =>
          go_wp2
          go_round
          case rel => exact ⟨k + 1, _, _, rfl, rfl, by go_num, by omega, HAT.out, HEL.out⟩
          case measure => simp [intOf]; omega
        case false.true =>
          go_wp2_with fail
          rw [HZ.out]
          refine (right1 _ z c2 z2 K2'.out).mono ?_
          rintro e w1 ⟨rfl, rfl⟩
          go_wp2
          go_round
          case rel => exact ⟨k + 1, _, _, rfl, rfl, by go_num, by omega, HAT.out, HEL.out⟩
          case measure => simp [intOf]; omega
        case true.false =>
          go_wp2_with fail
          rw [HY.out]
          refine (attr1 _ y c1 (by omega) K1'.out).mono ?_
          rintro e w1 ⟨rfl, rfl⟩
          go_wp2
          go_round
          case rel => exact ⟨k + 1, _, _, rfl, rfl, by go_num, by omega, HAT.out, HEL.out⟩
          case measure => simp [intOf]; omega
        case true.true =>
          go_wp2_with fail
          rw [HY.out]
          refine (attr1 _ y c1 (by omega) K1'.out).mono ?_
          rintro e w1 ⟨rfl, rfl⟩
          go_wp2_with fail
          rw [HZ.out]
          refine (right1 _ z c2 z2 K2'.out).mono ?_
          rintro e w1 ⟨rfl, rfl⟩
          go_wp2
          go_round
          case rel => exact ⟨k + 1, _, _, rfl, rfl, by go_num, by omega, HAT.out, HEL.out⟩
          case measure => simp [intOf]; omega
      · have hke : k = u.size := by omega
        have hfa : attrB u = a := by rw [← atAcc_all, ← hke]; exact HA1.out
        have hfb : rightB u = b := by rw [← elAcc_all, ← hke]; exact HB1.out
        have FA := Lib.hid hfa; have FB := Lib.hid hfb
        clear hke hfa hfb HA1 HB1
        go_wp2_with fail
        refine (attr1 _ u a (by omega) FA.out).mono ?_
        rintro e w1 ⟨rfl, rfl⟩
        go_wp2_with fail
        refine (right1 _ u b (by omega) FB.out).mono ?_
        rintro e w1 ⟨rfl, rfl⟩
        go_wp2_with fail
        refine (fixed_any _).mono ?_
        rintro e w10 ⟨rfl, hb10⟩
        go_wp2
        go_ret
        exact ⟨rfl, bt hbq hb10⟩
  · have h1 : 0 < u.size := by omega
    have hn : ¬ u.toList = [] := not_nil h0
    have hn2 : (!u.toList.isEmpty) = true := by simp [hn]
    have hA0 : atAcc u 0 = true := by unfold atAcc; rw [decide_eq_true h1]; rfl
    have hE0 : elAcc u 0 = small u[0] := by unfold elAcc; rw [smallHead_pos h1]; simp
    rw [u8_small] at hE0
    clear h0
    by_cases g1 : (97 : Int) ≤ u[0].toNat
    · by_cases g2 : (u[0].toNat : Int) ≤ 122
      · rw [decide_eq_true g1, decide_eq_true g2] at hE0
        have d1 : decide ((97 : Int) ≤ u[0].toNat) = true := decide_eq_true g1
        have d2 : decide ((u[0].toNat : Int) ≤ 122) = true := decide_eq_true g2
        have HA := Lib.hid hA0; have HE := Lib.hid hE0
        clear hA0 hE0 g1 g2
        go_quiet (fail)
        have hbq := below_dN (Below.refl w.heap.size w) nq
        go_wp2
        go_loop [3, 4, 5] (fun p q i => ∃ (k : Nat) (a b : Bool), p = .bool a ∧ q = .bool b ∧ i = .int .i64 k ∧ k ≤ u.size ∧ atAcc u k = a ∧ elAcc u k = b) (fun _ _ i => u.size - (intOf i).toNat)
        case atStart => exact ⟨0, _, _, rfl, rfl, rfl, Nat.zero_le _, HA.out, HE.out⟩
        case round =>
          obtain ⟨k, a, b, rfl, rfl, rfl, hks, ha, hb⟩ := hrel
          have HA1 := Lib.hid ha; have HB1 := Lib.hid hb
          clear ha hb HA HE
          by_cases hp : k < u.size
          · have hat := atAcc_succ u k hp
            have hel := elAcc_succ u k hp
            rw [HA1.out] at hat
            rw [HB1.out] at hel
            obtain ⟨c1, hc1⟩ : ∃ q, atB u[k] = q := ⟨_, rfl⟩
            obtain ⟨c2, hc2⟩ : ∃ q, elB u[k] = q := ⟨_, rfl⟩
            have h1 := (attr_one u k hp).trans hc1
            have h2 := (right_one u k hp).trans hc2
            rw [hc1] at hat
            rw [hc2] at hel
            have z1 : (u.extract k (k + 1)).size ≤ 200 := Nat.le_trans (size_extract u k (k + 1)) hul
            have z2 : ((⟨#[97]⟩ : ByteArray) ++ u.extract k (k + 1)).size ≤ 140737488355328 := by rw [size_append]; have : (⟨#[97]⟩ : ByteArray).size = 1 := rfl; omega
            have z3 : (⟨#[97]⟩ : ByteArray).size + (u.extract k (k + 1)).size ≤ 201 := by have : (⟨#[97]⟩ : ByteArray).size = 1 := rfl; omega
            have HAT := Lib.hid hat; have HEL := Lib.hid hel; have K1 := Lib.hid h1; have K2 := Lib.hid h2
            clear hat hel h1 h2 hc1 hc2 HA1 HB1
            obtain ⟨z, hz⟩ : ∃ z, (⟨#[97]⟩ : ByteArray) ++ u.extract k (k + 1) = z := ⟨_, rfl⟩
            obtain ⟨y, hy⟩ : ∃ z, u.extract k (k + 1) = z := ⟨_, rfl⟩
            have HZ := Lib.hid hz; have HY := Lib.hid hy
            have k1 := K1.out; have k2 := K2.out
            rw [hz] at k2 z2
            rw [hy] at k1
            have z1' : y.size ≤ 200 := by rw [← hy]; exact z1
            have K1' := Lib.hid k1; have K2' := Lib.hid k2
            clear hz hy k1 k2 K1 K2
            cases a <;> cases b
            case false.false =>
              go_wp2
              go_round
              case rel => exact ⟨k + 1, _, _, rfl, rfl, by go_num, by omega, HAT.out, HEL.out⟩
              case measure => simp [intOf]; omega
            case false.true =>
              go_wp2_with fail
              rw [HZ.out]
              refine (right1 _ z c2 z2 K2'.out).mono ?_
              rintro e w1 ⟨rfl, rfl⟩
              go_wp2
              go_round
              case rel => exact ⟨k + 1, _, _, rfl, rfl, by go_num, by omega, HAT.out, HEL.out⟩
              case measure => simp [intOf]; omega
            case true.false =>
              go_wp2_with fail
              rw [HY.out]
              refine (attr1 _ y c1 (by omega) K1'.out).mono ?_
              rintro e w1 ⟨rfl, rfl⟩
              go_wp2
              go_round
              case rel => exact ⟨k + 1, _, _, rfl, rfl, by go_num, by omega, HAT.out, HEL.out⟩
              case measure => simp [intOf]; omega
            case true.true =>
              go_wp2_with fail
              rw [HY.out]
              refine (attr1 _ y c1 (by omega) K1'.out).mono ?_
              rintro e w1 ⟨rfl, rfl⟩
              go_wp2_with fail
              rw [HZ.out]
              refine (right1 _ z c2 z2 K2'.out).mono ?_
              rintro e w1 ⟨rfl, rfl⟩
              go_wp2
              go_round
              case rel => exact ⟨k + 1, _, _, rfl, rfl, by go_num, by omega, HAT.out, HEL.out⟩
              case measure => simp [intOf]; omega
          · have hke : k = u.size := by omega
            have hfa : attrB u = a := by rw [← atAcc_all, ← hke]; exact HA1.out
            have hfb : rightB u = b := by rw [← elAcc_all, ← hke]; exact HB1.out
            have FA := Lib.hid hfa; have FB := Lib.hid hfb
            clear hke hfa hfb HA1 HB1
            go_wp2_with fail
            refine (attr1 _ u a (by omega) FA.out).mono ?_
            rintro e w1 ⟨rfl, rfl⟩
            go_wp2_with fail
            refine (right1 _ u b (by omega) FB.out).mono ?_
            rintro e w1 ⟨rfl, rfl⟩
            go_wp2_with fail
            refine (fixed_any _).mono ?_
            rintro e w10 ⟨rfl, hb10⟩
            go_wp2
            go_ret
            exact ⟨rfl, bt hbq hb10⟩
      · rw [decide_eq_true g1, decide_eq_false g2] at hE0
        have d1 : decide ((97 : Int) ≤ u[0].toNat) = true := decide_eq_true g1
        have d2 : decide ((u[0].toNat : Int) ≤ 122) = false := decide_eq_false g2
        have HA := Lib.hid hA0; have HE := Lib.hid hE0
        clear hA0 hE0 g1 g2
        go_quiet (fail)
        have hbq := below_dN (Below.refl w.heap.size w) nq
        go_wp2
        go_loop [3, 4, 5] (fun p q i => ∃ (k : Nat) (a b : Bool), p = .bool a ∧ q = .bool b ∧ i = .int .i64 k ∧ k ≤ u.size ∧ atAcc u k = a ∧ elAcc u k = b) (fun _ _ i => u.size - (intOf i).toNat)
        case atStart => exact ⟨0, _, _, rfl, rfl, rfl, Nat.zero_le _, HA.out, HE.out⟩
        case round =>
          obtain ⟨k, a, b, rfl, rfl, rfl, hks, ha, hb⟩ := hrel
          have HA1 := Lib.hid ha; have HB1 := Lib.hid hb
          clear ha hb HA HE
          by_cases hp : k < u.size
          · have hat := atAcc_succ u k hp
            have hel := elAcc_succ u k hp
            rw [HA1.out] at hat
            rw [HB1.out] at hel
            obtain ⟨c1, hc1⟩ : ∃ q, atB u[k] = q := ⟨_, rfl⟩
            obtain ⟨c2, hc2⟩ : ∃ q, elB u[k] = q := ⟨_, rfl⟩
            have h1 := (attr_one u k hp).trans hc1
            have h2 := (right_one u k hp).trans hc2
            rw [hc1] at hat
            rw [hc2] at hel
            have z1 : (u.extract k (k + 1)).size ≤ 200 := Nat.le_trans (size_extract u k (k + 1)) hul
            have z2 : ((⟨#[97]⟩ : ByteArray) ++ u.extract k (k + 1)).size ≤ 140737488355328 := by rw [size_append]; have : (⟨#[97]⟩ : ByteArray).size = 1 := rfl; omega
            have z3 : (⟨#[97]⟩ : ByteArray).size + (u.extract k (k + 1)).size ≤ 201 := by have : (⟨#[97]⟩ : ByteArray).size = 1 := rfl; omega
            have HAT := Lib.hid hat; have HEL := Lib.hid hel; have K1 := Lib.hid h1; have K2 := Lib.hid h2
            clear hat hel h1 h2 hc1 hc2 HA1 HB1
            obtain ⟨z, hz⟩ : ∃ z, (⟨#[97]⟩ : ByteArray) ++ u.extract k (k + 1) = z := ⟨_, rfl⟩
            obtain ⟨y, hy⟩ : ∃ z, u.extract k (k + 1) = z := ⟨_, rfl⟩
            have HZ := Lib.hid hz; have HY := Lib.hid hy
            have k1 := K1.out; have k2 := K2.out
            rw [hz] at k2 z2
            rw [hy] at k1
            have z1' : y.size ≤ 200 := by rw [← hy]; exact z1
            have K1' := Lib.hid k1; have K2' := Lib.hid k2
            clear hz hy k1 k2 K1 K2
            cases a <;> cases b
            case false.false =>
              go_wp2
              go_round
              case rel => exact ⟨k + 1, _, _, rfl, rfl, by go_num, by omega, HAT.out, HEL.out⟩
              case measure => simp [intOf]; omega
            case false.true =>
              go_wp2_with fail
              rw [HZ.out]
              refine (right1 _ z c2 z2 K2'.out).mono ?_
              rintro e w1 ⟨rfl, rfl⟩
              go_wp2
              go_round
              case rel => exact ⟨k + 1, _, _, rfl, rfl, by go_num, by omega, HAT.out, HEL.out⟩
              case measure => simp [intOf]; omega
            case true.false =>
              go_wp2_with fail
              rw [HY.out]
              refine (attr1 _ y c1 (by omega) K1'.out).mono ?_
              rintro e w1 ⟨rfl, rfl⟩
              go_wp2
              go_round
              case rel => exact ⟨k + 1, _, _, rfl, rfl, by go_num, by omega, HAT.out, HEL.out⟩
              case measure => simp [intOf]; omega
            case true.true =>
              go_wp2_with fail
              rw [HY.out]
              refine (attr1 _ y c1 (by omega) K1'.out).mono ?_
              rintro e w1 ⟨rfl, rfl⟩
              go_wp2_with fail
              rw [HZ.out]
              refine (right1 _ z c2 z2 K2'.out).mono ?_
              rintro e w1 ⟨rfl, rfl⟩
              go_wp2
              go_round
              case rel => exact ⟨k + 1, _, _, rfl, rfl, by go_num, by omega, HAT.out, HEL.out⟩
              case measure => simp [intOf]; omega
          · have hke : k = u.size := by omega
            have hfa : attrB u = a := by rw [← atAcc_all, ← hke]; exact HA1.out
            have hfb : rightB u = b := by rw [← elAcc_all, ← hke]; exact HB1.out
            have FA := Lib.hid hfa; have FB := Lib.hid hfb
            clear hke hfa hfb HA1 HB1
            go_wp2_with fail
            refine (attr1 _ u a (by omega) FA.out).mono ?_
            rintro e w1 ⟨rfl, rfl⟩
            go_wp2_with fail
            refine (right1 _ u b (by omega) FB.out).mono ?_
            rintro e w1 ⟨rfl, rfl⟩
            go_wp2_with fail
            refine (fixed_any _).mono ?_
            rintro e w10 ⟨rfl, hb10⟩
            go_wp2
            go_ret
            exact ⟨rfl, bt hbq hb10⟩
    · rw [decide_eq_false g1] at hE0
      have d1 : decide ((97 : Int) ≤ u[0].toNat) = false := decide_eq_false g1
      have HA := Lib.hid hA0; have HE := Lib.hid hE0
      clear hA0 hE0 g1
      go_quiet (fail)
      have hbq := below_dN (Below.refl w.heap.size w) nq
      go_wp2
      go_loop [3, 4, 5] (fun p q i => ∃ (k : Nat) (a b : Bool), p = .bool a ∧ q = .bool b ∧ i = .int .i64 k ∧ k ≤ u.size ∧ atAcc u k = a ∧ elAcc u k = b) (fun _ _ i => u.size - (intOf i).toNat)
      case atStart => exact ⟨0, _, _, rfl, rfl, rfl, Nat.zero_le _, HA.out, HE.out⟩
      case round =>
        obtain ⟨k, a, b, rfl, rfl, rfl, hks, ha, hb⟩ := hrel
        have HA1 := Lib.hid ha; have HB1 := Lib.hid hb
        clear ha hb HA HE
        by_cases hp : k < u.size
        · have hat := atAcc_succ u k hp
          have hel := elAcc_succ u k hp
          rw [HA1.out] at hat
          rw [HB1.out] at hel
          obtain ⟨c1, hc1⟩ : ∃ q, atB u[k] = q := ⟨_, rfl⟩
          obtain ⟨c2, hc2⟩ : ∃ q, elB u[k] = q := ⟨_, rfl⟩
          have h1 := (attr_one u k hp).trans hc1
          have h2 := (right_one u k hp).trans hc2
          rw [hc1] at hat
          rw [hc2] at hel
          have z1 : (u.extract k (k + 1)).size ≤ 200 := Nat.le_trans (size_extract u k (k + 1)) hul
          have z2 : ((⟨#[97]⟩ : ByteArray) ++ u.extract k (k + 1)).size ≤ 140737488355328 := by rw [size_append]; have : (⟨#[97]⟩ : ByteArray).size = 1 := rfl; omega
          have z3 : (⟨#[97]⟩ : ByteArray).size + (u.extract k (k + 1)).size ≤ 201 := by have : (⟨#[97]⟩ : ByteArray).size = 1 := rfl; omega
          have HAT := Lib.hid hat; have HEL := Lib.hid hel; have K1 := Lib.hid h1; have K2 := Lib.hid h2
          clear hat hel h1 h2 hc1 hc2 HA1 HB1
          obtain ⟨z, hz⟩ : ∃ z, (⟨#[97]⟩ : ByteArray) ++ u.extract k (k + 1) = z := ⟨_, rfl⟩
          obtain ⟨y, hy⟩ : ∃ z, u.extract k (k + 1) = z := ⟨_, rfl⟩
          have HZ := Lib.hid hz; have HY := Lib.hid hy
          have k1 := K1.out; have k2 := K2.out
          rw [hz] at k2 z2
          rw [hy] at k1
          have z1' : y.size ≤ 200 := by rw [← hy]; exact z1
          have K1' := Lib.hid k1; have K2' := Lib.hid k2
          clear hz hy k1 k2 K1 K2
          cases a <;> cases b
          case false.false =>
            go_wp2
            go_round
            case rel => exact ⟨k + 1, _, _, rfl, rfl, by go_num, by omega, HAT.out, HEL.out⟩
            case measure => simp [intOf]; omega
          case false.true =>
            go_wp2_with fail
            rw [HZ.out]
            refine (right1 _ z c2 z2 K2'.out).mono ?_
            rintro e w1 ⟨rfl, rfl⟩
            go_wp2
            go_round
            case rel => exact ⟨k + 1, _, _, rfl, rfl, by go_num, by omega, HAT.out, HEL.out⟩
            case measure => simp [intOf]; omega
          case true.false =>
            go_wp2_with fail
            rw [HY.out]
            refine (attr1 _ y c1 (by omega) K1'.out).mono ?_
            rintro e w1 ⟨rfl, rfl⟩
            go_wp2
            go_round
            case rel => exact ⟨k + 1, _, _, rfl, rfl, by go_num, by omega, HAT.out, HEL.out⟩
            case measure => simp [intOf]; omega
          case true.true =>
            go_wp2_with fail
            rw [HY.out]
            refine (attr1 _ y c1 (by omega) K1'.out).mono ?_
            rintro e w1 ⟨rfl, rfl⟩
            go_wp2_with fail
            rw [HZ.out]
            refine (right1 _ z c2 z2 K2'.out).mono ?_
            rintro e w1 ⟨rfl, rfl⟩
            go_wp2
            go_round
            case rel => exact ⟨k + 1, _, _, rfl, rfl, by go_num, by omega, HAT.out, HEL.out⟩
            case measure => simp [intOf]; omega
        · have hke : k = u.size := by omega
          have hfa : attrB u = a := by rw [← atAcc_all, ← hke]; exact HA1.out
          have hfb : rightB u = b := by rw [← elAcc_all, ← hke]; exact HB1.out
          have FA := Lib.hid hfa; have FB := Lib.hid hfb
          clear hke hfa hfb HA1 HB1
          go_wp2_with fail
          refine (attr1 _ u a (by omega) FA.out).mono ?_
          rintro e w1 ⟨rfl, rfl⟩
          go_wp2_with fail
          refine (right1 _ u b (by omega) FB.out).mono ?_
          rintro e w1 ⟨rfl, rfl⟩
          go_wp2_with fail
          refine (fixed_any _).mono ?_
          rintro e w10 ⟨rfl, hb10⟩
          go_wp2
          go_ret
          exact ⟨rfl, bt hbq hb10⟩

end Go.Proofs.Ytjgnbmebmjecpaa.Na
