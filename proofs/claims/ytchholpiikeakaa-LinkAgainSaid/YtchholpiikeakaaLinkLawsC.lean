/-
  Walk of stage 9's law LinkAgain: it returns true.
-/
import Derived.Test.YtchholpiikeakaaLinkFixed
namespace Go.Proofs.Ytchholpiikeakaa.Lk
set_option maxRecDepth 100000
set_option linter.unusedSimpArgs false
set_option linter.unusedVariables false
open Go.RowKit Ba Fm Fo

set_option maxHeartbeats 4000000 in
theorem law_again9 (s : ByteArray) (hs : s.size ≤ 140737488351232) (w : World) :
    Calls Try.prog 6 #[.string s] w fun e w' => e = .returned (.bool true) ∧ Below w.heap.size w w' := by
  obtain ⟨k, hk1, hk2, -, hmin1⟩ := cut_any s.size 1000 1000 rfl w
  obtain ⟨u, hu⟩ : ∃ u, s.extract 0 k = u := ⟨_, rfl⟩
  have hus : u.size ≤ 1000 := by rw [← hu]; exact Nat.le_trans (cut_le s k) hk2
  have hul : u.size ≤ 140737488355328 := by omega
  obtain ⟨t, ht⟩ : ∃ t, B (stripL (L u)) = t := ⟨_, rfl⟩
  have hL : L t = stripL (L u) := by rw [← ht, L_B]
  have htl : t.size ≤ 1000 := by rw [← size_L, hL]; exact Nat.le_trans (strip_len _) (by rw [size_L]; exact hus)
  have htl' : t.size ≤ 140737488355328 := by omega
  have htt : B (stripL (L t)) = t := by rw [hL, strip_strip, ht]
  have hinn : ∀ c ∈ L t, inn c = false := by rw [hL]; exact strip_inn _
  have hends : L t = [] ∨ ((∃ c m, L t = c :: m ∧ edge c = false) ∧ ∃ m c, L t = m ++ [c] ∧ edge c = false) := by rw [hL]; exact strip_ends _
  obtain ⟨p, hp⟩ : ∃ p, B (pct (L u)) = p := ⟨_, rfl⟩
  have hpl : p.size ≤ u.size := by rw [← hp, size_B, ← size_L u]; exact pct_len _ _ (Nat.le_refl _)
  have hplain : (∀ c ∈ L u, (c == 37) = false) → p = u := fun h => by rw [← hp, pct_plain h, B_L]
  have HU := Lib.hid hu; have HT := Lib.hid ht; have HTT := Lib.hid htt; have HIN := Lib.hid hinn; have HE := Lib.hid hends; have HP := Lib.hid hp; have HPL := Lib.hid hplain
  clear hu ht hL htt hinn hends hp hplain
  go_enter Try.func6, Try.ntmps6
  go_wp2_with fail
  simp only [HU.out]
  refine (strip1 u w hul t HT.out).mono ?_
  rintro e w1 ⟨rfl, b1⟩
  clear hmin1
  have HB1 := Lib.hid b1; clear b1
  go_wp2
  go_loop [4, 5] (fun v i => ∃ (k : Nat) (q : Bool), v = .bool q ∧ i = .int .i64 k ∧ k ≤ u.size ∧ (q = true → ∀ c ∈ (L u).take k, (c == 37) = false)) (fun _ i => u.size - (intOf i).toNat)
  case atStart => exact ⟨0, true, rfl, rfl, Nat.zero_le _, fun _ c hc => by cases hc⟩
  case round =>
    obtain ⟨j, q, rfl, rfl, hj, hall⟩ := hrel
    by_cases hlt : j < u.size
    · have e37 : ((u[j].toNat : Int) != 37) = !(u[j] == 37) := by rw [← u8_eq]; rfl
      cases q with
      | false =>
        clear hall e37
        go_wp2
        go_round
        case rel => exact ⟨j + 1, false, rfl, by go_num, by omega, fun h => by cases h⟩
        case measure => simp [intOf]; omega
      | true =>
        cases h37 : u[j] == 37 with
        | true =>
          rw [h37] at e37
          clear hall h37
          go_wp2
          go_round
          case rel => exact ⟨j + 1, false, rfl, by go_num, by omega, fun h => by cases h⟩
          case measure => simp [intOf]; omega
        | false =>
          rw [h37] at e37
          have hn : ∀ c ∈ (L u).take (j + 1), (c == 37) = false := by
            rw [take_snoc u j hlt]
            intro c hc
            rcases List.mem_append.1 hc with h | h
            · exact hall rfl c h
            · rw [List.mem_singleton.1 h]; exact h37
          have HN := Lib.hid hn
          clear hall h37 hn
          go_wp2
          go_round
          case rel => exact ⟨j + 1, true, rfl, by go_num, by omega, fun _ => HN.out⟩
          case measure => simp [intOf]; omega
    · rw [List.take_of_length_le (by rw [size_L]; omega)] at hall
      have hq : q = true → p = u := fun h => HPL.out (hall h)
      have HQ := Lib.hid hq
      clear hall hq
      go_wp2
      go_loop [6] (fun i => ∃ k : Nat, i = .int .i64 k ∧ k ≤ t.size) (fun i => t.size - (intOf i).toNat)
      case atStart => exact ⟨0, rfl, Nat.zero_le _⟩
      case round =>
        obtain ⟨m, rfl, hm⟩ := hrel
        by_cases hmt : m < t.size
        · have hin := HIN.out t[m] (by
            have : t[m] = (L t)[m]'(by rw [size_L]; exact hmt) := rfl
            rw [this]
            exact List.getElem_mem _)
          unfold inn at hin
          simp only [Bool.or_eq_false_iff] at hin
          have e9 : ((t[m].toNat : Int) == 9) = (t[m] == 9) := u8_eq (b := 9)
          have e10 : ((t[m].toNat : Int) == 10) = (t[m] == 10) := u8_eq (b := 10)
          have e13 : ((t[m].toNat : Int) == 13) = (t[m] == 13) := u8_eq (b := 13)
          rw [hin.1.1] at e9
          rw [hin.1.2] at e10
          rw [hin.2] at e13
          clear hin
          go_wp2
          go_round
          case rel => exact ⟨m + 1, by go_num, by omega⟩
          case measure => simp [intOf]; omega
        · have hdec : decide (p.size ≤ u.size) = true := decide_eq_true hpl
          have hdec' : decide ((p.size : Int) ≤ (u.size : Int)) = true := decide_eq_true (by omega)
          rcases HE.out with h0 | ⟨⟨c, x, hc, hce⟩, y, d, hd, hde⟩
          · have ht0 : t = ⟨#[]⟩ := L_inj h0
            have htl0 : t.toList = [] := by rw [toList_L]; exact h0
            have HT0 := Lib.hid ht0
            clear h0 ht0
            cases q with
            | false =>
              go_wp2_with fail
              refine (strip1 t w1 htl' t HTT.out).mono ?_
              rintro e w2 ⟨rfl, b2⟩
              go_wp2_with fail
              refine (percent1 u w2 hul p HP.out).mono ?_
              rintro e w3 ⟨rfl, b3⟩
              go_wp2_with fail
              refine (fixed9_any w3).mono ?_
              rintro e w4 ⟨rfl, b4⟩
              go_wp2
              go_ret
              exact ⟨rfl, bt HB1.out (bt b2 (bt b3 b4))⟩
            | true =>
              have hpu := HQ.out rfl
              subst hpu
              go_wp2_with fail
              refine (strip1 t w1 htl' t HTT.out).mono ?_
              rintro e w2 ⟨rfl, b2⟩
              go_wp2_with fail
              refine (percent1 p w2 hul p HP.out).mono ?_
              rintro e w3 ⟨rfl, b3⟩
              go_wp2_with fail
              refine (percent1 p w3 hul p HP.out).mono ?_
              rintro e w4 ⟨rfl, b4⟩
              go_wp2_with fail
              refine (fixed9_any w4).mono ?_
              rintro e w5 ⟨rfl, b5⟩
              go_wp2
              go_ret
              exact ⟨rfl, bt HB1.out (bt b2 (bt b3 (bt b4 b5)))⟩
          · have hts0 : 0 < t.size := by rw [← size_L, hc]; simp
            have htl0 : t.toList.isEmpty = false := by rw [toList_L, hc]; rfl
            have g0 : t[0] = c := by
              have e : (L t)[0]'(by rw [size_L]; exact hts0) = c := by simp only [hc, List.getElem_cons_zero]
              exact e
            have g1 : t[t.size - 1] = d := by
              have hy : y.length = t.size - 1 := by
                have := congrArg List.length hd
                rw [size_L, List.length_append, List.length_singleton] at this
                omega
              have e : (L t)[t.size - 1]'(by rw [size_L]; omega) = d := by simp only [hd]; rw [List.getElem_append_right (by omega)]; simp [hy]
              exact e
            obtain ⟨n, hn⟩ : ∃ n, t.size = n + 1 := ⟨t.size - 1, by omega⟩
            have hn1 : t.size - 1 = n := by omega
            have hnt : n < t.size := by omega
            have g2 : t[n] = d := by simp only [hn1] at g1; exact g1
            have hc0 := edge_of t[0]
            rw [g0, hce, ← g0] at hc0
            have hd0 := edge_of t[n]
            rw [g2, hde, ← g2] at hd0
            have h1 : 32 < (t[0].toNat : Int) := by have := of_decide_eq_false hc0.symm; omega
            have h2 : 32 < (t[n].toNat : Int) := by have := of_decide_eq_false hd0.symm; omega
            have hsub : (t.size : Int) - 1 = (n : Int) := by omega
            clear hc hd g0 g1 g2 hc0 hd0 hce hde hn1
            have HNN := Lib.hid hn; clear hn
            cases q with
            | false =>
              go_wp2_with fail
              refine (strip1 t w1 htl' t HTT.out).mono ?_
              rintro e w2 ⟨rfl, b2⟩
              go_wp2_with fail
              refine (percent1 u w2 hul p HP.out).mono ?_
              rintro e w3 ⟨rfl, b3⟩
              go_wp2_with fail
              refine (fixed9_any w3).mono ?_
              rintro e w4 ⟨rfl, b4⟩
              go_wp2
              go_ret
              exact ⟨rfl, bt HB1.out (bt b2 (bt b3 b4))⟩
            | true =>
              have hpu := HQ.out rfl
              subst hpu
              go_wp2_with fail
              refine (strip1 t w1 htl' t HTT.out).mono ?_
              rintro e w2 ⟨rfl, b2⟩
              go_wp2_with fail
              refine (percent1 p w2 hul p HP.out).mono ?_
              rintro e w3 ⟨rfl, b3⟩
              go_wp2_with fail
              refine (percent1 p w3 hul p HP.out).mono ?_
              rintro e w4 ⟨rfl, b4⟩
              go_wp2_with fail
              refine (fixed9_any w4).mono ?_
              rintro e w5 ⟨rfl, b5⟩
              go_wp2
              go_ret
              exact ⟨rfl, bt HB1.out (bt b2 (bt b3 (bt b4 b5)))⟩

end Go.Proofs.Ytchholpiikeakaa.Lk
