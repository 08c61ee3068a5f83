/-
  The laws of stage 4, walked: Places.
-/
import Derived.Test.YtblefklfgaohfaaRowConv
namespace Go.Proofs.Ytblefklfgaohfaa.Ro
set_option linter.unusedVariables false
set_option linter.unusedSimpArgs false
open Go.RowKit Ba

set_option maxRecDepth 100000 in
set_option maxHeartbeats 4000000 in
theorem law_places (v : Value) (i : Int) (l : List Cw) (w : World) (hv : Rv w v l) (ht : (txt (ros l)).length ≤ 1000000000) :
    Calls Try.prog 4 #[v, .int .i64 i] w fun e w' => e = .returned (.bool true) ∧ Below w.heap.size w w' := by
  go_enter Try.func4, Try.ntmps4
  go_wp2_with fail
  refine (bound1 v l w hv).mono ?_
  rintro e w1 ⟨v1, x, rfl, _, hv1, hx, h60, _, _, hb1⟩
  have htx : (txt (ros x)).length ≤ 1000000000 := by rw [hx]; exact Nat.le_trans (txt_bounded _) ht
  have HV1 := Lib.hid hv1
  clear hx hv ht hv1
  obtain ⟨R, hR⟩ : ∃ R, right (ros x) = R := ⟨_, rfl⟩
  have HR := Lib.hid hR
  clear hR
  go_wp2_with fail
  refine (refRight1 v1 x w1 R HV1.out (by omega) HR.out).mono ?_
  rintro e w2 ⟨rfl, hb2⟩
  have HV2 := Lib.hid (HV1.out.below hb2)
  have HB2 := Lib.hid (bt hb1 hb2)
  clear hb1 hb2 HV1
  cases R with
  | false =>
    go_wp2_with fail
    refine (fixed_any w2).mono ?_
    rintro e w3 ⟨rfl, hb3⟩
    go_wp2
    go_ret
    exact ⟨rfl, bt HB2.out hb3⟩
  | true =>
    obtain ⟨E, hE⟩ : ∃ E, endAt (ros x) i = E := ⟨_, rfl⟩
    obtain ⟨P, hP⟩ : ∃ E, parent (ros x) i = E := ⟨_, rfl⟩
    obtain ⟨K, hK⟩ : ∃ E, kidsAt (ros x) i = E := ⟨_, rfl⟩
    obtain ⟨T, hT⟩ : ∃ E, B (textAt (ros x) i) = E := ⟨_, rfl⟩
    have HE := Lib.hid hE; have HP := Lib.hid hP; have HK := Lib.hid hK; have HT := Lib.hid hT
    clear hE hP hK hT
    go_wp2_with fail
    refine (end1 v1 x i w2 E HV2.out (by omega) HE.out).mono ?_
    rintro e w3 ⟨rfl, rfl⟩
    go_wp2_with fail
    refine (refEnd1 v1 x i w2 E HV2.out (by omega) HE.out).mono ?_
    rintro e w3 ⟨rfl, hb3⟩
    have HV3 := Lib.hid (HV2.out.below hb3)
    have HB3 := Lib.hid (bt HB2.out hb3)
    clear hb3 HV2 HB2
    go_wp2_with fail
    refine (parent1 v1 x i w3 P HV3.out (by omega) HP.out).mono ?_
    rintro e w4 ⟨rfl, hb4⟩
    have HV4 := Lib.hid (HV3.out.below hb4)
    have HB4 := Lib.hid (bt HB3.out hb4)
    clear hb4 HV3 HB3
    go_wp2_with fail
    refine (refParent1 v1 x i w4 P HV4.out (by omega) HR.out HP.out).mono ?_
    rintro e w5 ⟨rfl, hb5⟩
    have HV5 := Lib.hid (HV4.out.below hb5)
    have HB5 := Lib.hid (bt HB4.out hb5)
    clear hb5 HV4 HB4
    go_wp2_with fail
    refine (kids1 v1 x i w5 K HV5.out (by omega) HR.out HK.out).mono ?_
    rintro e w6 ⟨u6, rfl, hn6, hb6⟩
    have HN6 := Lib.hid hn6
    have HV6 := Lib.hid (HV5.out.below hb6)
    have HB6 := Lib.hid (bt HB5.out hb6)
    clear hb6 HV5 HB5 hn6
    go_wp2_with fail
    refine (refKids1 v1 x i w6 K HV6.out (by omega) HR.out HK.out).mono ?_
    rintro e w7 ⟨u7, rfl, hn7, hb7⟩
    have HN7 := Lib.hid hn7
    have HN67 := Lib.hid (HN6.out.below hb7)
    have HV7 := Lib.hid (HV6.out.below hb7)
    have HB7 := Lib.hid (bt HB6.out hb7)
    clear hb7 HV6 HB6 hn7 HN6
    go_wp2_with fail
    refine (nums1 u6 u7 K w7 _ _ HN67.out HN7.out).mono ?_
    rintro e w8 ⟨rfl, hb8⟩
    have HV8 := Lib.hid (HV7.out.below hb8)
    have HB8 := Lib.hid (bt HB7.out hb8)
    clear hb8 HV7 HB7 HN7 HN67
    go_wp2_with fail
    refine (text1 v1 x i w8 T HV8.out (by omega) htx HT.out).mono ?_
    rintro e w9 ⟨rfl, hb9⟩
    have HV9 := Lib.hid (HV8.out.below hb9)
    have HB9 := Lib.hid (bt HB8.out hb9)
    clear hb9 HV8 HB8
    go_wp2_with fail
    refine (refText1 v1 x i w9 T HV9.out (by omega) htx HT.out).mono ?_
    rintro e w10 ⟨rfl, hb10⟩
    have HB10 := Lib.hid (bt HB9.out hb10)
    clear hb10 HV9 HB9
    go_wp2_with fail
    refine (fixed_any w10).mono ?_
    rintro e w11 ⟨rfl, hb11⟩
    go_wp2
    go_ret
    exact ⟨rfl, bt HB10.out hb11⟩

end Go.Proofs.Ytblefklfgaohfaa.Ro
