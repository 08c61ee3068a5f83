/-
  The laws of stage 4, walked: Takes.
-/
import Derived.Test.YtblefklfgaohfaaRowTree
namespace Go.Proofs.Ytblefklfgaohfaa.Ro
set_option linter.unusedVariables false
set_option linter.unusedSimpArgs false
open Go.RowKit Ba

set_option maxRecDepth 100000 in
set_option maxHeartbeats 4000000 in
theorem law_takes (v : Value) (n : Int) (l : List Cw) (w : World) (hv : Rv w v l) (ht : (txt (ros l)).length ≤ 1000000000) :
    Calls Try.prog 10 #[v, .int .i64 n] w fun e w' => e = .returned (.bool true) ∧ Below w.heap.size w w' := by
  go_enter Try.func10, Try.ntmps10
  go_wp2_with fail
  refine (bound1 v l w hv).mono ?_
  rintro e w1 ⟨v1, x, rfl, _, hv1, hx, h60, hf, hh, hb1⟩
  have htx : (txt (ros x)).length ≤ 1000000000 := by rw [hx]; exact Nat.le_trans (txt_bounded _) ht
  have HV1 := Lib.hid hv1
  clear hx hv ht hv1
  obtain ⟨C, hC⟩ : ∃ C, check (ros x) = C := ⟨_, rfl⟩
  have HC := Lib.hid hC
  clear hC
  go_wp2_with fail
  refine (check1 v1 x w1 C HV1.out (by omega) HC.out).mono ?_
  rintro e w2 ⟨rfl, hb2⟩
  have HV2 := Lib.hid (HV1.out.below hb2)
  have HB2 := Lib.hid (bt hb1 hb2)
  clear hb1 hb2 HV1
  by_cases hc0 : C = 0
  · subst hc0
    obtain ⟨A1, c1, hvA, _⟩ := HV2.out
    subst hvA
    by_cases hn0 : x.length = 0
    · have z1 : ((x.length : Int) == 0) = true := beq_iff_eq.2 (by omega)
      go_wp2_with fail
      refine (fixed_any w2).mono ?_
      rintro e w3 ⟨rfl, hb3⟩
      go_wp2
      go_ret
      exact ⟨rfl, bt HB2.out hb3⟩
    · have hpos : 0 < x.length := by omega
      have z1 : ((x.length : Int) == 0) = false := beq_eq_false_iff_ne.2 (by omega)
      obtain ⟨m, hm1, hm2⟩ := and_small n 65535 16 (by decide) (by decide)
      rw [show ((65535 : Nat) : Int) = 65535 from rfl] at hm2
      obtain ⟨k, hk⟩ : ∃ k : Nat, k = m % x.length := ⟨_, rfl⟩
      have hkk : (m : Int) % (x.length : Int) = k := by rw [hk]; rfl
      have hkl : k < x.length := by rw [hk]; exact Nat.mod_lt _ hpos
      clear hk hn0
      have hk' : k < (ros x).length := by rw [len_ros]; exact hkl
      have hr := (check_parts HC.out).2
      have HR := Lib.hid hr
      obtain ⟨p, hp⟩ : ∃ p, takeAt (ros x) k = p := ⟨_, rfl⟩
      obtain ⟨d, hd⟩ : ∃ p, dropAt (ros x) k = p := ⟨_, rfl⟩
      obtain ⟨E, hE⟩ : ∃ E, endAt (ros x) k = E := ⟨_, rfl⟩
      obtain ⟨T, hT⟩ : ∃ E, B (textAt (ros x) k) = E := ⟨_, rfl⟩
      have hpl : p.length = E - k ∧ k < E ∧ E ≤ x.length := by
        have := end_le hk'
        rw [len_ros] at this
        rw [← hp, len_take hk', ← hE, endAt_of hk']
        exact ⟨rfl, this⟩
      have hdl : d.length = x.length - p.length := by rw [← hd, len_drop hk', hp, len_ros]
      have hpf : Few p := by rw [← hp]; exact few_take hf k
      have hdf : Few d := by rw [← hd]; exact few_drop hf k
      have hpc : check p = 0 := by rw [← hp]; exact (check_take HC.out hk').1
      have hdc : check d = 0 := by rw [← hd]; exact (check_take HC.out hk').2
      have hpk : kidsAt p (-1) = [0] := by rw [← hp]; exact kids_take hr (by rw [len_ros]; omega) hk'
      have hpt : B (textAt p 0) = T := by rw [← hp, text_take hk', hT]
      have hptx : (txt p).length ≤ 1000000000 := by
        rw [← hp]
        show (txt (deeper _ _)).length ≤ _
        rw [txt_deeper]
        exact Nat.le_trans (txt_cut _ _ _) htx
      have HP := Lib.hid hp; have HD := Lib.hid hd; have HE := Lib.hid hE; have HT := Lib.hid hT; have HPC := Lib.hid hpc; have HDC := Lib.hid hdc; have HPK := Lib.hid hpk; have HPT := Lib.hid hpt
      obtain ⟨hpl1, hpl2, hpl3⟩ := hpl
      have HPL := Lib.hid hpl1; have HDL := Lib.hid hdl
      clear hp hd hE hT hpc hdc hpk hpt hr hpl1 hdl
      go_wp2_with fail
      rw [hkk]
      clear hkk hm2
      refine (take1 _ x k w2 p HV2.out (by omega) hkl hf HR.out HP.out).mono ?_
      rintro e w3 ⟨u3, y3, rfl, _, hy3, hl3, hu3, hb3⟩
      have HY3 := Lib.hid hy3; have HL3 := Lib.hid hl3; have HU3 := Lib.hid hu3
      have HV3 := Lib.hid (HV2.out.below hb3)
      have HB3 := Lib.hid (bt HB2.out hb3)
      clear hy3 hl3 hu3 hb3 HV2 HB2
      go_wp2_with fail
      refine (drop1 _ x k w3 d HV3.out (by omega) hkl hf HR.out HD.out).mono ?_
      rintro e w4 ⟨u4, y4, rfl, _, hy4, hl4, hu4, hb4⟩
      have HY4 := Lib.hid hy4; have HL4 := Lib.hid hl4; have HU4 := Lib.hid hu4
      have HV4 := Lib.hid (HV3.out.below hb4)
      have HW4 := Lib.hid (HU3.out.below hb4)
      have HB4 := Lib.hid (bt HB3.out hb4)
      clear hy4 hl4 hu4 hb4 HV3 HB3 HU3
      have g3 : y3.length ≤ 60 := by have := HL3.out; have := HPL.out; omega
      have g4 : y4.length ≤ 60 := by have := HL4.out; have := HDL.out; omega
      go_wp2_with fail
      refine (check1 u3 y3 w4 0 HW4.out (by omega) (by rw [HY3.out]; exact HPC.out)).mono ?_
      rintro e w5 ⟨rfl, hb5⟩
      have HV5 := Lib.hid (HV4.out.below hb5)
      have HW5 := Lib.hid (HW4.out.below hb5)
      have HX5 := Lib.hid (HU4.out.below hb5)
      have HB5 := Lib.hid (bt HB4.out hb5)
      clear hb5 HV4 HW4 HU4 HB4
      go_wp2_with fail
      refine (check1 u4 y4 w5 0 HX5.out (by omega) (by rw [HY4.out]; exact HDC.out)).mono ?_
      rintro e w6 ⟨rfl, hb6⟩
      have HV6 := Lib.hid (HV5.out.below hb6)
      have HW6 := Lib.hid (HW5.out.below hb6)
      have HX6 := Lib.hid (HX5.out.below hb6)
      have HB6 := Lib.hid (bt HB5.out hb6)
      clear hb6 HV5 HW5 HX5 HB5
      go_wp2_with fail
      refine (kids1 u3 y3 (-1) w6 [0] HW6.out (by omega) (by rw [HY3.out]; exact (check_parts HPC.out).2) (by rw [HY3.out]; exact HPK.out)).mono ?_
      rintro e w7 ⟨u7, rfl, hn7, hb7⟩
      obtain ⟨A7, c7, rfl⟩ : ∃ A c, u7 = .slice A 1 c := own_sl hn7
      have HV7 := Lib.hid (HV6.out.below hb7)
      have HW7 := Lib.hid (HW6.out.below hb7)
      have HB7 := Lib.hid (bt HB6.out hb7)
      obtain ⟨A3, c3, hu3, _⟩ := HW7.out
      obtain ⟨A4, c4, hu4, _⟩ := HX6.out
      subst hu3 hu4
      clear hb7 hn7 HV6 HW6 HX6 HB6
      have q1 : (((y3.length : Nat) : Int) == ((E : Nat) : Int) - ((k : Nat) : Int)) = true := beq_iff_eq.2 (by have := HL3.out; have := HPL.out; omega)
      have q2 : (((y4.length : Nat) : Int) == ((x.length : Nat) : Int) - ((y3.length : Nat) : Int)) = true := beq_iff_eq.2 (by have := HL3.out; have := HL4.out; have := HPL.out; have := HDL.out; omega)
      have q3 : (0 : Int) ≤ (E : Int) - (k : Int) := by omega
      go_wp2_with fail
      refine (end1 _ x k w7 E HV7.out (by omega) HE.out).mono ?_
      rintro e w8 ⟨rfl, rfl⟩
      go_wp2_with fail
      refine (text1 _ y3 0 w7 T HW7.out (by omega) (by rw [HY3.out]; exact hptx) (by rw [HY3.out]; exact HPT.out)).mono ?_
      rintro e w8 ⟨rfl, hb8⟩
      have HV8 := Lib.hid (HV7.out.below hb8)
      have HB8 := Lib.hid (bt HB7.out hb8)
      clear hb8 HV7 HW7 HB7
      go_wp2_with fail
      refine (text1 _ x k w8 T HV8.out (by omega) htx HT.out).mono ?_
      rintro e w9 ⟨rfl, hb9⟩
      have HB9 := Lib.hid (bt HB8.out hb9)
      clear hb9 HV8 HB8
      go_wp2_with fail
      refine (fixed_any w9).mono ?_
      rintro e w10 ⟨rfl, hb10⟩
      go_wp2
      go_ret
      exact ⟨rfl, bt HB9.out hb10⟩
  · have n1 : (C != 0) = true := by simpa using hc0
    have n2 : (C == 0) = false := by simpa using hc0
    go_wp2_with fail
    refine (fixed_any w2).mono ?_
    rintro e w3 ⟨rfl, hb3⟩
    go_wp2
    go_ret
    exact ⟨rfl, bt HB2.out hb3⟩

end Go.Proofs.Ytblefklfgaohfaa.Ro
