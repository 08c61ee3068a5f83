/-
  Walks of stage 15's laws HeaderTwice, HeaderOn, HeaderLess: each returns true.
-/
import Derived.Test.YthgpjhblbpiagaaHeadLaw
namespace Go.Proofs.Ythgpjhblbpiagaa.He
set_option maxRecDepth 100000
set_option linter.unusedSimpArgs false
set_option linter.unusedVariables false
open Go.RowKit Ba Fm Fo Go.Maps

def kA : ByteArray := ⟨#[116, 114, 117, 115, 116, 101, 100, 45, 116, 121, 112, 101, 115, 32, 42, 32, 39, 97, 108, 108, 111, 119, 45, 100, 117, 112, 108, 105, 99, 97, 116, 101, 115, 39]⟩
def jA : Gd := ⟨false, false, [], true, true⟩
theorem parse_a : parseM kA false = jA := by kernel_rfl
def kB : ByteArray := ⟨#[116, 114, 117, 115, 116, 101, 100, 45, 116, 121, 112, 101, 115, 32, 42]⟩
def jB : Gd := ⟨false, false, [], true, false⟩
theorem parse_b : parseM kB false = jB := by kernel_rfl
def kC : ByteArray := ⟨#[]⟩
def jC : Gd := ⟨false, false, [], true, true⟩
theorem parse_c : parseM kC false = jC := by kernel_rfl
def kD : ByteArray := ⟨#[116, 114, 117, 115, 116, 101, 100, 45, 116, 121, 112, 101, 115, 32, 39, 110, 111, 110, 101, 39]⟩
def jD : Gd := ⟨false, false, [], false, false⟩
theorem parse_d : parseM kD false = jD := by kernel_rfl
theorem allow_open (s : Bool) (u : ByteArray) (h : Int) (q : Bool) (hq : mayB u = q) (ht : s = true ∨ h ≤ 0) : allowB ⟨false, false, [], true, s⟩ u h = q := by
  unfold allowB
  rw [hq]
  rcases ht with rfl | ht
  · simp
  · rw [decide_eq_true ht]; simp
theorem allow_once (u : ByteArray) : allowB jB u 1 = false := by
  unfold allowB jB
  simp
theorem allow_none (u : ByteArray) (h : Int) : allowB jD u h = false := by
  unfold allowB jD
  simp [isIn]

set_option maxHeartbeats 8000000 in
theorem law_twice (s : ByteArray) (hs : s.size ≤ 140737488351232) (w : World) :
    Calls Try.prog 9 #[.string s] w fun e w' => e = .returned (.bool true) ∧ Below w.heap.size w w' := by
  obtain ⟨k, hk1, hk2, -, hmink⟩ := cut_any s.size 100 100 rfl w
  obtain ⟨u, hu⟩ : ∃ u, s.extract 0 k = u := ⟨_, rfl⟩
  have hus : u.size ≤ 100 := by rw [← hu]; exact Nat.le_trans (cut_le s k) hk2
  have HU := Lib.hid hu; clear hu
  obtain ⟨q, hq⟩ : ∃ q, mayB u = q := ⟨_, rfl⟩
  have HQ := Lib.hid hq; clear hq
  go_enter Try.func9, Try.ntmps9
  go_wp2_with fail
  simp only [HU.out]
  clear hmink
  refine (parse1 kA false w (by decide) jA parse_a).mono ?_
  rintro e vw1 ⟨Aa, ca, rfl, ho, hb⟩
  rw [show gV jA (.slice Aa (Gd.names jA).length ca) = .agg #[.bool false, .bool false, .slice Aa 0 ca, .bool true, .bool true] from rfl]
  have hk := kb_new ho
  have hbw := below_box hb (.cells #[.bool false, .bool false, .slice Aa 0 ca, .bool true, .bool true] 26)
  go_upto_region 3 with (fail)
  obtain ⟨w1, hW⟩ : ∃ W, vw1.alloc (.cells #[.bool false, .bool false, .slice Aa 0 ca, .bool true, .bool true] 26) = W := ⟨_, rfl⟩
  obtain ⟨ba, hbb⟩ : ∃ b, vw1.heap.size = b := ⟨_, rfl⟩
  have hk2 : Kb w1 ba jA (.slice Aa 0 ca) := by rw [← hW, ← hbb]; exact hk
  rw [hW] at hbw
  rw [hW, hbb]
  have Ha_w1 := Lib.hid hk2
  have hB_w1 : Below w.heap.size w w1 := hbw
  have HB_w1 := Lib.hid hB_w1; clear hB_w1
  clear hk hk2 hbw hW hbb ho hb
  go_wp2_with fail
  refine (parse1 kB false w1 (by decide) jB parse_b).mono ?_
  rintro e vw2 ⟨Ab, cb, rfl, ho, hb⟩
  rw [show gV jB (.slice Ab (Gd.names jB).length cb) = .agg #[.bool false, .bool false, .slice Ab 0 cb, .bool true, .bool false] from rfl]
  have hk := kb_new ho
  have hbw := below_box hb (.cells #[.bool false, .bool false, .slice Ab 0 cb, .bool true, .bool false] 26)
  go_upto_region 4 with (fail)
  obtain ⟨w2, hW⟩ : ∃ W, vw2.alloc (.cells #[.bool false, .bool false, .slice Ab 0 cb, .bool true, .bool false] 26) = W := ⟨_, rfl⟩
  obtain ⟨bb, hbb⟩ : ∃ b, vw2.heap.size = b := ⟨_, rfl⟩
  have hk2 : Kb w2 bb jB (.slice Ab 0 cb) := by rw [← hW, ← hbb]; exact hk
  rw [hW] at hbw
  rw [hW, hbb]
  have Hb_w2 := Lib.hid hk2
  have ha_w2 : Kb w2 ba jA (.slice Aa 0 ca) := Ha_w1.out.on hbw
  have Ha_w2 := Lib.hid ha_w2; clear ha_w2
  have hB_w2 : Below w.heap.size w w2 := bt HB_w1.out hbw
  have HB_w2 := Lib.hid hB_w2; clear hB_w2
  clear hk hk2 hbw hW hbb ho hb
  go_wp2_with fail
  refine (parse1 kC false w2 (by decide) jC parse_c).mono ?_
  rintro e vw3 ⟨Ac, cc, rfl, ho, hb⟩
  rw [show gV jC (.slice Ac (Gd.names jC).length cc) = .agg #[.bool false, .bool false, .slice Ac 0 cc, .bool true, .bool true] from rfl]
  have hk := kb_new ho
  have hbw := below_box hb (.cells #[.bool false, .bool false, .slice Ac 0 cc, .bool true, .bool true] 26)
  go_upto_region 5 with (fail)
  obtain ⟨w3, hW⟩ : ∃ W, vw3.alloc (.cells #[.bool false, .bool false, .slice Ac 0 cc, .bool true, .bool true] 26) = W := ⟨_, rfl⟩
  obtain ⟨bc, hbb⟩ : ∃ b, vw3.heap.size = b := ⟨_, rfl⟩
  have hk2 : Kb w3 bc jC (.slice Ac 0 cc) := by rw [← hW, ← hbb]; exact hk
  rw [hW] at hbw
  rw [hW, hbb]
  have Hc_w3 := Lib.hid hk2
  have ha_w3 : Kb w3 ba jA (.slice Aa 0 ca) := Ha_w2.out.on hbw
  have Ha_w3 := Lib.hid ha_w3; clear ha_w3
  have hb_w3 : Kb w3 bb jB (.slice Ab 0 cb) := Hb_w2.out.on hbw
  have Hb_w3 := Lib.hid hb_w3; clear hb_w3
  have hB_w3 : Below w.heap.size w w3 := bt HB_w2.out hbw
  have HB_w3 := Lib.hid hB_w3; clear hB_w3
  clear hk hk2 hbw hW hbb ho hb
  go_wp2_with fail
  refine (parse1 kD false w3 (by decide) jD parse_d).mono ?_
  rintro e vw4 ⟨Ad, cd, rfl, ho, hb⟩
  rw [show gV jD (.slice Ad (Gd.names jD).length cd) = .agg #[.bool false, .bool false, .slice Ad 0 cd, .bool false, .bool false] from rfl]
  have hk := kb_new ho
  have hbw := below_box hb (.cells #[.bool false, .bool false, .slice Ad 0 cd, .bool false, .bool false] 26)
  go_upto_region 6 with (fail)
  obtain ⟨w4, hW⟩ : ∃ W, vw4.alloc (.cells #[.bool false, .bool false, .slice Ad 0 cd, .bool false, .bool false] 26) = W := ⟨_, rfl⟩
  obtain ⟨bd, hbb⟩ : ∃ b, vw4.heap.size = b := ⟨_, rfl⟩
  have hk2 : Kb w4 bd jD (.slice Ad 0 cd) := by rw [← hW, ← hbb]; exact hk
  rw [hW] at hbw
  rw [hW, hbb]
  have Hd_w4 := Lib.hid hk2
  have ha_w4 : Kb w4 ba jA (.slice Aa 0 ca) := Ha_w3.out.on hbw
  have Ha_w4 := Lib.hid ha_w4; clear ha_w4
  have hb_w4 : Kb w4 bb jB (.slice Ab 0 cb) := Hb_w3.out.on hbw
  have Hb_w4 := Lib.hid hb_w4; clear hb_w4
  have hc_w4 : Kb w4 bc jC (.slice Ac 0 cc) := Hc_w3.out.on hbw
  have Hc_w4 := Lib.hid hc_w4; clear hc_w4
  have hB_w4 : Below w.heap.size w w4 := bt HB_w3.out hbw
  have HB_w4 := Lib.hid hB_w4; clear hB_w4
  clear hk hk2 hbw hW hbb ho hb
  obtain ⟨xa0, xa1, xa2, xa3, xa4⟩ := (show w4.cell? ⟨ba, 0, none⟩ = some (.bool false) ∧ w4.cell? ⟨ba, 1, none⟩ = some (.bool false) ∧ w4.cell? ⟨ba, 2, none⟩ = some (.slice Aa 0 ca) ∧ w4.cell? ⟨ba, 3, none⟩ = some (.bool true) ∧ w4.cell? ⟨ba, 4, none⟩ = some (.bool true) from Ha_w4.out.at5)
  obtain ⟨xb0, xb1, xb2, xb3, xb4⟩ := (show w4.cell? ⟨bb, 0, none⟩ = some (.bool false) ∧ w4.cell? ⟨bb, 1, none⟩ = some (.bool false) ∧ w4.cell? ⟨bb, 2, none⟩ = some (.slice Ab 0 cb) ∧ w4.cell? ⟨bb, 3, none⟩ = some (.bool true) ∧ w4.cell? ⟨bb, 4, none⟩ = some (.bool false) from Hb_w4.out.at5)
  obtain ⟨xc0, xc1, xc2, xc3, xc4⟩ := (show w4.cell? ⟨bc, 0, none⟩ = some (.bool false) ∧ w4.cell? ⟨bc, 1, none⟩ = some (.bool false) ∧ w4.cell? ⟨bc, 2, none⟩ = some (.slice Ac 0 cc) ∧ w4.cell? ⟨bc, 3, none⟩ = some (.bool true) ∧ w4.cell? ⟨bc, 4, none⟩ = some (.bool true) from Hc_w4.out.at5)
  obtain ⟨xd0, xd1, xd2, xd3, xd4⟩ := (show w4.cell? ⟨bd, 0, none⟩ = some (.bool false) ∧ w4.cell? ⟨bd, 1, none⟩ = some (.bool false) ∧ w4.cell? ⟨bd, 2, none⟩ = some (.slice Ad 0 cd) ∧ w4.cell? ⟨bd, 3, none⟩ = some (.bool false) ∧ w4.cell? ⟨bd, 4, none⟩ = some (.bool false) from Hd_w4.out.at5)
  go_wp2_with fail
  refine (allows1 _ jA u 0 w4 (show Gv w4 w4.heap.size (.agg #[.bool false, .bool false, .slice Aa 0 ca, .bool true, .bool true]) jA from Ha_w4.out.gv) (by omega) (by first | decide | omega) q (allow_open _ u _ q HQ.out (by first | exact .inl rfl | exact .inr (by decide)))).mono ?_
  rintro e w5 ⟨rfl, hb⟩
  clear xa0 xa1 xa2 xa3 xa4
  clear xb0 xb1 xb2 xb3 xb4
  clear xc0 xc1 xc2 xc3 xc4
  clear xd0 xd1 xd2 xd3 xd4
  have ha_w5 : Kb w5 ba jA (.slice Aa 0 ca) := Ha_w4.out.on hb
  have Ha_w5 := Lib.hid ha_w5; clear ha_w5
  have hb_w5 : Kb w5 bb jB (.slice Ab 0 cb) := Hb_w4.out.on hb
  have Hb_w5 := Lib.hid hb_w5; clear hb_w5
  have hc_w5 : Kb w5 bc jC (.slice Ac 0 cc) := Hc_w4.out.on hb
  have Hc_w5 := Lib.hid hc_w5; clear hc_w5
  have hd_w5 : Kb w5 bd jD (.slice Ad 0 cd) := Hd_w4.out.on hb
  have Hd_w5 := Lib.hid hd_w5; clear hd_w5
  have hB_w5 : Below w.heap.size w w5 := bt HB_w4.out hb
  have HB_w5 := Lib.hid hB_w5; clear hB_w5
  obtain ⟨xa0, xa1, xa2, xa3, xa4⟩ := (show w5.cell? ⟨ba, 0, none⟩ = some (.bool false) ∧ w5.cell? ⟨ba, 1, none⟩ = some (.bool false) ∧ w5.cell? ⟨ba, 2, none⟩ = some (.slice Aa 0 ca) ∧ w5.cell? ⟨ba, 3, none⟩ = some (.bool true) ∧ w5.cell? ⟨ba, 4, none⟩ = some (.bool true) from Ha_w5.out.at5)
  obtain ⟨xb0, xb1, xb2, xb3, xb4⟩ := (show w5.cell? ⟨bb, 0, none⟩ = some (.bool false) ∧ w5.cell? ⟨bb, 1, none⟩ = some (.bool false) ∧ w5.cell? ⟨bb, 2, none⟩ = some (.slice Ab 0 cb) ∧ w5.cell? ⟨bb, 3, none⟩ = some (.bool true) ∧ w5.cell? ⟨bb, 4, none⟩ = some (.bool false) from Hb_w5.out.at5)
  obtain ⟨xc0, xc1, xc2, xc3, xc4⟩ := (show w5.cell? ⟨bc, 0, none⟩ = some (.bool false) ∧ w5.cell? ⟨bc, 1, none⟩ = some (.bool false) ∧ w5.cell? ⟨bc, 2, none⟩ = some (.slice Ac 0 cc) ∧ w5.cell? ⟨bc, 3, none⟩ = some (.bool true) ∧ w5.cell? ⟨bc, 4, none⟩ = some (.bool true) from Hc_w5.out.at5)
  obtain ⟨xd0, xd1, xd2, xd3, xd4⟩ := (show w5.cell? ⟨bd, 0, none⟩ = some (.bool false) ∧ w5.cell? ⟨bd, 1, none⟩ = some (.bool false) ∧ w5.cell? ⟨bd, 2, none⟩ = some (.slice Ad 0 cd) ∧ w5.cell? ⟨bd, 3, none⟩ = some (.bool false) ∧ w5.cell? ⟨bd, 4, none⟩ = some (.bool false) from Hd_w5.out.at5)
  clear hb
  go_wp2_with fail
  refine (allows1 _ jA u 1 w5 (show Gv w5 w5.heap.size (.agg #[.bool false, .bool false, .slice Aa 0 ca, .bool true, .bool true]) jA from Ha_w5.out.gv) (by omega) (by first | decide | omega) q (allow_open _ u _ q HQ.out (by first | exact .inl rfl | exact .inr (by decide)))).mono ?_
  rintro e w6 ⟨rfl, hb⟩
  clear xa0 xa1 xa2 xa3 xa4
  clear xb0 xb1 xb2 xb3 xb4
  clear xc0 xc1 xc2 xc3 xc4
  clear xd0 xd1 xd2 xd3 xd4
  have ha_w6 : Kb w6 ba jA (.slice Aa 0 ca) := Ha_w5.out.on hb
  have Ha_w6 := Lib.hid ha_w6; clear ha_w6
  have hb_w6 : Kb w6 bb jB (.slice Ab 0 cb) := Hb_w5.out.on hb
  have Hb_w6 := Lib.hid hb_w6; clear hb_w6
  have hc_w6 : Kb w6 bc jC (.slice Ac 0 cc) := Hc_w5.out.on hb
  have Hc_w6 := Lib.hid hc_w6; clear hc_w6
  have hd_w6 : Kb w6 bd jD (.slice Ad 0 cd) := Hd_w5.out.on hb
  have Hd_w6 := Lib.hid hd_w6; clear hd_w6
  have hB_w6 : Below w.heap.size w w6 := bt HB_w5.out hb
  have HB_w6 := Lib.hid hB_w6; clear hB_w6
  obtain ⟨xa0, xa1, xa2, xa3, xa4⟩ := (show w6.cell? ⟨ba, 0, none⟩ = some (.bool false) ∧ w6.cell? ⟨ba, 1, none⟩ = some (.bool false) ∧ w6.cell? ⟨ba, 2, none⟩ = some (.slice Aa 0 ca) ∧ w6.cell? ⟨ba, 3, none⟩ = some (.bool true) ∧ w6.cell? ⟨ba, 4, none⟩ = some (.bool true) from Ha_w6.out.at5)
  obtain ⟨xb0, xb1, xb2, xb3, xb4⟩ := (show w6.cell? ⟨bb, 0, none⟩ = some (.bool false) ∧ w6.cell? ⟨bb, 1, none⟩ = some (.bool false) ∧ w6.cell? ⟨bb, 2, none⟩ = some (.slice Ab 0 cb) ∧ w6.cell? ⟨bb, 3, none⟩ = some (.bool true) ∧ w6.cell? ⟨bb, 4, none⟩ = some (.bool false) from Hb_w6.out.at5)
  obtain ⟨xc0, xc1, xc2, xc3, xc4⟩ := (show w6.cell? ⟨bc, 0, none⟩ = some (.bool false) ∧ w6.cell? ⟨bc, 1, none⟩ = some (.bool false) ∧ w6.cell? ⟨bc, 2, none⟩ = some (.slice Ac 0 cc) ∧ w6.cell? ⟨bc, 3, none⟩ = some (.bool true) ∧ w6.cell? ⟨bc, 4, none⟩ = some (.bool true) from Hc_w6.out.at5)
  obtain ⟨xd0, xd1, xd2, xd3, xd4⟩ := (show w6.cell? ⟨bd, 0, none⟩ = some (.bool false) ∧ w6.cell? ⟨bd, 1, none⟩ = some (.bool false) ∧ w6.cell? ⟨bd, 2, none⟩ = some (.slice Ad 0 cd) ∧ w6.cell? ⟨bd, 3, none⟩ = some (.bool false) ∧ w6.cell? ⟨bd, 4, none⟩ = some (.bool false) from Hd_w6.out.at5)
  clear hb
  have hqq : (q == q) = true := by cases q <;> rfl
  go_wp2_with fail
  refine (allows1 _ jB u 0 w6 (show Gv w6 w6.heap.size (.agg #[.bool false, .bool false, .slice Ab 0 cb, .bool true, .bool false]) jB from Hb_w6.out.gv) (by omega) (by first | decide | omega) q (allow_open _ u _ q HQ.out (by first | exact .inl rfl | exact .inr (by decide)))).mono ?_
  rintro e w7 ⟨rfl, hb⟩
  clear xa0 xa1 xa2 xa3 xa4
  clear xb0 xb1 xb2 xb3 xb4
  clear xc0 xc1 xc2 xc3 xc4
  clear xd0 xd1 xd2 xd3 xd4
  have ha_w7 : Kb w7 ba jA (.slice Aa 0 ca) := Ha_w6.out.on hb
  have Ha_w7 := Lib.hid ha_w7; clear ha_w7
  have hb_w7 : Kb w7 bb jB (.slice Ab 0 cb) := Hb_w6.out.on hb
  have Hb_w7 := Lib.hid hb_w7; clear hb_w7
  have hc_w7 : Kb w7 bc jC (.slice Ac 0 cc) := Hc_w6.out.on hb
  have Hc_w7 := Lib.hid hc_w7; clear hc_w7
  have hd_w7 : Kb w7 bd jD (.slice Ad 0 cd) := Hd_w6.out.on hb
  have Hd_w7 := Lib.hid hd_w7; clear hd_w7
  have hB_w7 : Below w.heap.size w w7 := bt HB_w6.out hb
  have HB_w7 := Lib.hid hB_w7; clear hB_w7
  obtain ⟨xa0, xa1, xa2, xa3, xa4⟩ := (show w7.cell? ⟨ba, 0, none⟩ = some (.bool false) ∧ w7.cell? ⟨ba, 1, none⟩ = some (.bool false) ∧ w7.cell? ⟨ba, 2, none⟩ = some (.slice Aa 0 ca) ∧ w7.cell? ⟨ba, 3, none⟩ = some (.bool true) ∧ w7.cell? ⟨ba, 4, none⟩ = some (.bool true) from Ha_w7.out.at5)
  obtain ⟨xb0, xb1, xb2, xb3, xb4⟩ := (show w7.cell? ⟨bb, 0, none⟩ = some (.bool false) ∧ w7.cell? ⟨bb, 1, none⟩ = some (.bool false) ∧ w7.cell? ⟨bb, 2, none⟩ = some (.slice Ab 0 cb) ∧ w7.cell? ⟨bb, 3, none⟩ = some (.bool true) ∧ w7.cell? ⟨bb, 4, none⟩ = some (.bool false) from Hb_w7.out.at5)
  obtain ⟨xc0, xc1, xc2, xc3, xc4⟩ := (show w7.cell? ⟨bc, 0, none⟩ = some (.bool false) ∧ w7.cell? ⟨bc, 1, none⟩ = some (.bool false) ∧ w7.cell? ⟨bc, 2, none⟩ = some (.slice Ac 0 cc) ∧ w7.cell? ⟨bc, 3, none⟩ = some (.bool true) ∧ w7.cell? ⟨bc, 4, none⟩ = some (.bool true) from Hc_w7.out.at5)
  obtain ⟨xd0, xd1, xd2, xd3, xd4⟩ := (show w7.cell? ⟨bd, 0, none⟩ = some (.bool false) ∧ w7.cell? ⟨bd, 1, none⟩ = some (.bool false) ∧ w7.cell? ⟨bd, 2, none⟩ = some (.slice Ad 0 cd) ∧ w7.cell? ⟨bd, 3, none⟩ = some (.bool false) ∧ w7.cell? ⟨bd, 4, none⟩ = some (.bool false) from Hd_w7.out.at5)
  clear hb
  go_wp2_with fail
  refine (allows1 _ jB u 1 w7 (show Gv w7 w7.heap.size (.agg #[.bool false, .bool false, .slice Ab 0 cb, .bool true, .bool false]) jB from Hb_w7.out.gv) (by omega) (by first | decide | omega) false (allow_once u)).mono ?_
  rintro e w8 ⟨rfl, hb⟩
  clear xa0 xa1 xa2 xa3 xa4
  clear xb0 xb1 xb2 xb3 xb4
  clear xc0 xc1 xc2 xc3 xc4
  clear xd0 xd1 xd2 xd3 xd4
  have ha_w8 : Kb w8 ba jA (.slice Aa 0 ca) := Ha_w7.out.on hb
  have Ha_w8 := Lib.hid ha_w8; clear ha_w8
  have hb_w8 : Kb w8 bb jB (.slice Ab 0 cb) := Hb_w7.out.on hb
  have Hb_w8 := Lib.hid hb_w8; clear hb_w8
  have hc_w8 : Kb w8 bc jC (.slice Ac 0 cc) := Hc_w7.out.on hb
  have Hc_w8 := Lib.hid hc_w8; clear hc_w8
  have hd_w8 : Kb w8 bd jD (.slice Ad 0 cd) := Hd_w7.out.on hb
  have Hd_w8 := Lib.hid hd_w8; clear hd_w8
  have hB_w8 : Below w.heap.size w w8 := bt HB_w7.out hb
  have HB_w8 := Lib.hid hB_w8; clear hB_w8
  obtain ⟨xa0, xa1, xa2, xa3, xa4⟩ := (show w8.cell? ⟨ba, 0, none⟩ = some (.bool false) ∧ w8.cell? ⟨ba, 1, none⟩ = some (.bool false) ∧ w8.cell? ⟨ba, 2, none⟩ = some (.slice Aa 0 ca) ∧ w8.cell? ⟨ba, 3, none⟩ = some (.bool true) ∧ w8.cell? ⟨ba, 4, none⟩ = some (.bool true) from Ha_w8.out.at5)
  obtain ⟨xb0, xb1, xb2, xb3, xb4⟩ := (show w8.cell? ⟨bb, 0, none⟩ = some (.bool false) ∧ w8.cell? ⟨bb, 1, none⟩ = some (.bool false) ∧ w8.cell? ⟨bb, 2, none⟩ = some (.slice Ab 0 cb) ∧ w8.cell? ⟨bb, 3, none⟩ = some (.bool true) ∧ w8.cell? ⟨bb, 4, none⟩ = some (.bool false) from Hb_w8.out.at5)
  obtain ⟨xc0, xc1, xc2, xc3, xc4⟩ := (show w8.cell? ⟨bc, 0, none⟩ = some (.bool false) ∧ w8.cell? ⟨bc, 1, none⟩ = some (.bool false) ∧ w8.cell? ⟨bc, 2, none⟩ = some (.slice Ac 0 cc) ∧ w8.cell? ⟨bc, 3, none⟩ = some (.bool true) ∧ w8.cell? ⟨bc, 4, none⟩ = some (.bool true) from Hc_w8.out.at5)
  obtain ⟨xd0, xd1, xd2, xd3, xd4⟩ := (show w8.cell? ⟨bd, 0, none⟩ = some (.bool false) ∧ w8.cell? ⟨bd, 1, none⟩ = some (.bool false) ∧ w8.cell? ⟨bd, 2, none⟩ = some (.slice Ad 0 cd) ∧ w8.cell? ⟨bd, 3, none⟩ = some (.bool false) ∧ w8.cell? ⟨bd, 4, none⟩ = some (.bool false) from Hd_w8.out.at5)
  clear hb
  go_wp2_with fail
  refine (allows1 _ jC u 1 w8 (show Gv w8 w8.heap.size (.agg #[.bool false, .bool false, .slice Ac 0 cc, .bool true, .bool true]) jC from Hc_w8.out.gv) (by omega) (by first | decide | omega) q (allow_open _ u _ q HQ.out (by first | exact .inl rfl | exact .inr (by decide)))).mono ?_
  rintro e w9 ⟨rfl, hb⟩
  clear xa0 xa1 xa2 xa3 xa4
  clear xb0 xb1 xb2 xb3 xb4
  clear xc0 xc1 xc2 xc3 xc4
  clear xd0 xd1 xd2 xd3 xd4
  have ha_w9 : Kb w9 ba jA (.slice Aa 0 ca) := Ha_w8.out.on hb
  have Ha_w9 := Lib.hid ha_w9; clear ha_w9
  have hb_w9 : Kb w9 bb jB (.slice Ab 0 cb) := Hb_w8.out.on hb
  have Hb_w9 := Lib.hid hb_w9; clear hb_w9
  have hc_w9 : Kb w9 bc jC (.slice Ac 0 cc) := Hc_w8.out.on hb
  have Hc_w9 := Lib.hid hc_w9; clear hc_w9
  have hd_w9 : Kb w9 bd jD (.slice Ad 0 cd) := Hd_w8.out.on hb
  have Hd_w9 := Lib.hid hd_w9; clear hd_w9
  have hB_w9 : Below w.heap.size w w9 := bt HB_w8.out hb
  have HB_w9 := Lib.hid hB_w9; clear hB_w9
  obtain ⟨xa0, xa1, xa2, xa3, xa4⟩ := (show w9.cell? ⟨ba, 0, none⟩ = some (.bool false) ∧ w9.cell? ⟨ba, 1, none⟩ = some (.bool false) ∧ w9.cell? ⟨ba, 2, none⟩ = some (.slice Aa 0 ca) ∧ w9.cell? ⟨ba, 3, none⟩ = some (.bool true) ∧ w9.cell? ⟨ba, 4, none⟩ = some (.bool true) from Ha_w9.out.at5)
  obtain ⟨xb0, xb1, xb2, xb3, xb4⟩ := (show w9.cell? ⟨bb, 0, none⟩ = some (.bool false) ∧ w9.cell? ⟨bb, 1, none⟩ = some (.bool false) ∧ w9.cell? ⟨bb, 2, none⟩ = some (.slice Ab 0 cb) ∧ w9.cell? ⟨bb, 3, none⟩ = some (.bool true) ∧ w9.cell? ⟨bb, 4, none⟩ = some (.bool false) from Hb_w9.out.at5)
  obtain ⟨xc0, xc1, xc2, xc3, xc4⟩ := (show w9.cell? ⟨bc, 0, none⟩ = some (.bool false) ∧ w9.cell? ⟨bc, 1, none⟩ = some (.bool false) ∧ w9.cell? ⟨bc, 2, none⟩ = some (.slice Ac 0 cc) ∧ w9.cell? ⟨bc, 3, none⟩ = some (.bool true) ∧ w9.cell? ⟨bc, 4, none⟩ = some (.bool true) from Hc_w9.out.at5)
  obtain ⟨xd0, xd1, xd2, xd3, xd4⟩ := (show w9.cell? ⟨bd, 0, none⟩ = some (.bool false) ∧ w9.cell? ⟨bd, 1, none⟩ = some (.bool false) ∧ w9.cell? ⟨bd, 2, none⟩ = some (.slice Ad 0 cd) ∧ w9.cell? ⟨bd, 3, none⟩ = some (.bool false) ∧ w9.cell? ⟨bd, 4, none⟩ = some (.bool false) from Hd_w9.out.at5)
  clear hb
  go_wp2_with fail
  refine (allows1 _ jD u 0 w9 (show Gv w9 w9.heap.size (.agg #[.bool false, .bool false, .slice Ad 0 cd, .bool false, .bool false]) jD from Hd_w9.out.gv) (by omega) (by first | decide | omega) false (allow_none u 0)).mono ?_
  rintro e w10 ⟨rfl, hb⟩
  clear xa0 xa1 xa2 xa3 xa4
  clear xb0 xb1 xb2 xb3 xb4
  clear xc0 xc1 xc2 xc3 xc4
  clear xd0 xd1 xd2 xd3 xd4
  have ha_w10 : Kb w10 ba jA (.slice Aa 0 ca) := Ha_w9.out.on hb
  have Ha_w10 := Lib.hid ha_w10; clear ha_w10
  have hb_w10 : Kb w10 bb jB (.slice Ab 0 cb) := Hb_w9.out.on hb
  have Hb_w10 := Lib.hid hb_w10; clear hb_w10
  have hc_w10 : Kb w10 bc jC (.slice Ac 0 cc) := Hc_w9.out.on hb
  have Hc_w10 := Lib.hid hc_w10; clear hc_w10
  have hd_w10 : Kb w10 bd jD (.slice Ad 0 cd) := Hd_w9.out.on hb
  have Hd_w10 := Lib.hid hd_w10; clear hd_w10
  have hB_w10 : Below w.heap.size w w10 := bt HB_w9.out hb
  have HB_w10 := Lib.hid hB_w10; clear hB_w10
  obtain ⟨xa0, xa1, xa2, xa3, xa4⟩ := (show w10.cell? ⟨ba, 0, none⟩ = some (.bool false) ∧ w10.cell? ⟨ba, 1, none⟩ = some (.bool false) ∧ w10.cell? ⟨ba, 2, none⟩ = some (.slice Aa 0 ca) ∧ w10.cell? ⟨ba, 3, none⟩ = some (.bool true) ∧ w10.cell? ⟨ba, 4, none⟩ = some (.bool true) from Ha_w10.out.at5)
  obtain ⟨xb0, xb1, xb2, xb3, xb4⟩ := (show w10.cell? ⟨bb, 0, none⟩ = some (.bool false) ∧ w10.cell? ⟨bb, 1, none⟩ = some (.bool false) ∧ w10.cell? ⟨bb, 2, none⟩ = some (.slice Ab 0 cb) ∧ w10.cell? ⟨bb, 3, none⟩ = some (.bool true) ∧ w10.cell? ⟨bb, 4, none⟩ = some (.bool false) from Hb_w10.out.at5)
  obtain ⟨xc0, xc1, xc2, xc3, xc4⟩ := (show w10.cell? ⟨bc, 0, none⟩ = some (.bool false) ∧ w10.cell? ⟨bc, 1, none⟩ = some (.bool false) ∧ w10.cell? ⟨bc, 2, none⟩ = some (.slice Ac 0 cc) ∧ w10.cell? ⟨bc, 3, none⟩ = some (.bool true) ∧ w10.cell? ⟨bc, 4, none⟩ = some (.bool true) from Hc_w10.out.at5)
  obtain ⟨xd0, xd1, xd2, xd3, xd4⟩ := (show w10.cell? ⟨bd, 0, none⟩ = some (.bool false) ∧ w10.cell? ⟨bd, 1, none⟩ = some (.bool false) ∧ w10.cell? ⟨bd, 2, none⟩ = some (.slice Ad 0 cd) ∧ w10.cell? ⟨bd, 3, none⟩ = some (.bool false) ∧ w10.cell? ⟨bd, 4, none⟩ = some (.bool false) from Hd_w10.out.at5)
  clear hb
  go_wp2_with fail
  refine (fixed15_any w10).mono ?_
  rintro e w11 ⟨rfl, hb⟩
  go_wp2
  go_ret
  exact ⟨rfl, bt HB_w10.out hb⟩

/-- A loop over the bytes of a text finds a semicolon, or none. -/
theorem no59 {u : ByteArray} (h : ∀ c ∈ (L u).take u.size, ¬ c = 59) : ∀ c ∈ L u, ¬ c = 59 := by
  rw [List.take_of_length_le (by rw [size_L]; exact Nat.le_refl _)] at h
  exact h
def kR : ByteArray := ⟨#[114, 101, 113, 117, 105, 114, 101, 45, 116, 114, 117, 115, 116, 101, 100, 45, 116, 121, 112, 101, 115, 45, 102, 111, 114, 32]⟩
def kS : ByteArray := ⟨#[32, 39, 115, 99, 114, 105, 112, 116, 39]⟩
def kX : ByteArray := ⟨#[120, 32]⟩
theorem L_on (u : ByteArray) : L (kR ++ u ++ kS) = bR ++ 32 :: (L u ++ 32 :: bS) := by
  rw [L_append, L_append]
  show ((bR ++ [32]) ++ L u) ++ (32 :: bS) = _
  simp
theorem L_off (u : ByteArray) : L (kX ++ u) = [120] ++ 32 :: L u := by
  rw [L_append]
  rfl
theorem allow_a1 : allowB ⟨false, false, [], true, false⟩ ⟨#[97]⟩ 0 = true := by kernel_rfl

set_option maxHeartbeats 8000000 in
theorem law_on (s : ByteArray) (r : Bool) (hs : s.size ≤ 140737488351232) (w : World) :
    Calls Try.prog 8 #[.string s, .bool r] w fun e w' => e = .returned (.bool true) ∧ Below w.heap.size w w' := by
  obtain ⟨k, hk1, hk2, -, hmink⟩ := cut_any s.size 200 200 rfl w
  obtain ⟨u, hu⟩ : ∃ u, s.extract 0 k = u := ⟨_, rfl⟩
  have hus : u.size ≤ 200 := by rw [← hu]; exact Nat.le_trans (cut_le s k) hk2
  have HU := Lib.hid hu; clear hu
  have hrr : (r == r) = true := by cases r <;> rfl
  go_enter Try.func8, Try.ntmps8
  go_wp2
  simp only [HU.out]
  clear hmink
  go_loop [5] (fun i => ∃ j : Nat, i = .int .i64 j ∧ j ≤ u.size ∧ ∀ c ∈ (L u).take j, ¬ c = 59) (fun i => u.size - (intOf i).toNat)
  case atStart => exact ⟨0, rfl, Nat.zero_le _, fun c hc => by cases hc⟩
  case round =>
    obtain ⟨j, rfl, hj, hn⟩ := hrel
    by_cases hp : j < u.size
    · have e59 : ((u[j].toNat : Int) == 59) = (u[j] == 59) := u8_eq (b := 59)
      by_cases h59 : u[j] = 59
      · rw [beq_iff_eq.2 h59] at e59
        clear hn h59
        go_wp2_with fail
        refine (fixed15_any w).mono ?_
        rintro e w1 ⟨rfl, hb⟩
        go_wp2
        go_ret
        exact ⟨rfl, hb⟩
      · have hn2 : ∀ c ∈ (L u).take (j + 1), ¬ c = 59 := by
          rw [take_snoc u j hp]
          intro c hc
          rcases List.mem_append.1 hc with h | h
          · exact hn c h
          · rw [List.mem_singleton.1 h]; exact h59
        rw [beq_eq_false_iff_ne.2 h59] at e59
        have HN := Lib.hid hn2
        clear hn h59 hn2
        go_wp2
        go_round
        case rel => exact ⟨j + 1, by go_num, by omega, HN.out⟩
        case measure => simp [intOf]; omega
    · obtain rfl : j = u.size := by omega
      have hall := no59 hn
      obtain ⟨z, hz⟩ : ∃ z, kR ++ u ++ kS = z := ⟨_, rfl⟩
      obtain ⟨y, hy⟩ : ∃ y, kX ++ u = y := ⟨_, rfl⟩
      have hzs : z.size ≤ 1000000 := by rw [← hz, size_append, size_append]; have : kR.size = 26 := rfl; have : kS.size = 9 := rfl; omega
      have hys : y.size ≤ 1000000 := by rw [← hy, size_append]; have : kX.size = 2 := rfl; omega
      have hpz : parseM z r = ⟨true, r, [], true, true⟩ := by rw [← hz]; exact on_yes _ hall _ (L_on u) r
      have hpy : parseM y r = ⟨false, r, [], true, true⟩ := by rw [← hy]; exact on_no _ hall _ (L_off u) r
      unfold kR kS at hz
      unfold kX at hy
      have HZ := Lib.hid hz; have HY := Lib.hid hy; have HPZ := Lib.hid hpz; have HPY := Lib.hid hpy; have HZS := Lib.hid hzs; have HYS := Lib.hid hys
      clear hz hy hpz hpy hzs hys hall hn
      go_wp2_with fail
      rw [HZ.out]
      refine (parse1 z r w HZS.out (⟨true, r, [], true, true⟩ : Gd) HPZ.out).mono ?_
      rintro e vw1 ⟨Aa, ca, rfl, ho, hb⟩
      rw [show gV (⟨true, r, [], true, true⟩ : Gd) (.slice Aa (Gd.names (⟨true, r, [], true, true⟩ : Gd)).length ca) = .agg #[.bool true, .bool r, .slice Aa 0 ca, .bool true, .bool true] from rfl]
      have hk := kb_new ho
      have hbw := below_box hb (.cells #[.bool true, .bool r, .slice Aa 0 ca, .bool true, .bool true] 26)
      go_upto_region 8 with (fail)
      obtain ⟨w1, hW⟩ : ∃ W, vw1.alloc (.cells #[.bool true, .bool r, .slice Aa 0 ca, .bool true, .bool true] 26) = W := ⟨_, rfl⟩
      obtain ⟨ba, hbb⟩ : ∃ b, vw1.heap.size = b := ⟨_, rfl⟩
      have hk2 : Kb w1 ba (⟨true, r, [], true, true⟩ : Gd) (.slice Aa 0 ca) := by rw [← hW, ← hbb]; exact hk
      rw [hW] at hbw
      rw [hW, hbb]
      have Ha_w1 := Lib.hid hk2
      have hB_w1 : Below w.heap.size w w1 := hbw
      have HB_w1 := Lib.hid hB_w1; clear hB_w1
      clear hk hk2 hbw hW hbb ho hb
      go_wp2_with fail
      rw [HY.out]
      refine (parse1 y r w1 HYS.out (⟨false, r, [], true, true⟩ : Gd) HPY.out).mono ?_
      rintro e vw2 ⟨Ab, cb, rfl, ho, hb⟩
      rw [show gV (⟨false, r, [], true, true⟩ : Gd) (.slice Ab (Gd.names (⟨false, r, [], true, true⟩ : Gd)).length cb) = .agg #[.bool false, .bool r, .slice Ab 0 cb, .bool true, .bool true] from rfl]
      have hk := kb_new ho
      have hbw := below_box hb (.cells #[.bool false, .bool r, .slice Ab 0 cb, .bool true, .bool true] 26)
      go_upto_region 9 with (fail)
      obtain ⟨w2, hW⟩ : ∃ W, vw2.alloc (.cells #[.bool false, .bool r, .slice Ab 0 cb, .bool true, .bool true] 26) = W := ⟨_, rfl⟩
      obtain ⟨bb, hbb⟩ : ∃ b, vw2.heap.size = b := ⟨_, rfl⟩
      have hk2 : Kb w2 bb (⟨false, r, [], true, true⟩ : Gd) (.slice Ab 0 cb) := by rw [← hW, ← hbb]; exact hk
      rw [hW] at hbw
      rw [hW, hbb]
      have Hb_w2 := Lib.hid hk2
      have ha_w2 : Kb w2 ba (⟨true, r, [], true, true⟩ : Gd) (.slice Aa 0 ca) := Ha_w1.out.on hbw
      have Ha_w2 := Lib.hid ha_w2; clear ha_w2
      have hB_w2 : Below w.heap.size w w2 := bt HB_w1.out hbw
      have HB_w2 := Lib.hid hB_w2; clear hB_w2
      clear hk hk2 hbw hW hbb ho hb
      obtain ⟨xa0, xa1, xa2, xa3, xa4⟩ := (show w2.cell? ⟨ba, 0, none⟩ = some (.bool true) ∧ w2.cell? ⟨ba, 1, none⟩ = some (.bool r) ∧ w2.cell? ⟨ba, 2, none⟩ = some (.slice Aa 0 ca) ∧ w2.cell? ⟨ba, 3, none⟩ = some (.bool true) ∧ w2.cell? ⟨ba, 4, none⟩ = some (.bool true) from Ha_w2.out.at5)
      obtain ⟨xb0, xb1, xb2, xb3, xb4⟩ := (show w2.cell? ⟨bb, 0, none⟩ = some (.bool false) ∧ w2.cell? ⟨bb, 1, none⟩ = some (.bool r) ∧ w2.cell? ⟨bb, 2, none⟩ = some (.slice Ab 0 cb) ∧ w2.cell? ⟨bb, 3, none⟩ = some (.bool true) ∧ w2.cell? ⟨bb, 4, none⟩ = some (.bool true) from Hb_w2.out.at5)
      go_wp2_with fail
      refine (allows1 _ ⟨false, false, [], true, false⟩ ⟨#[97]⟩ 0 w2 (show Gv w2 w2.heap.size (.agg #[.bool false, .bool false, .slice none 0 0, .bool true, .bool false]) ⟨false, false, [], true, false⟩ from ⟨none, 0, rfl, Nat.le_refl _, fun _ => rfl, Rd.nil _ _ _⟩) (by decide) (by decide) true allow_a1).mono ?_
      rintro e w3 ⟨rfl, hb⟩
      have hb3 := bt HB_w2.out hb
      clear hb
      clear xa0 xa1 xa2 xa3 xa4
      clear xb0 xb1 xb2 xb3 xb4
      go_wp2_with fail
      refine (fixed15_any w3).mono ?_
      rintro e w4 ⟨rfl, hb⟩
      go_wp2
      go_ret
      exact ⟨rfl, bt hb3 hb⟩

def kT : ByteArray := ⟨#[116, 114, 117, 115, 116, 101, 100, 45, 116, 121, 112, 101, 115, 32]⟩
def kT2 : ByteArray := ⟨#[32, 59, 9, 84, 114, 117, 115, 116, 101, 100, 45, 84, 89, 80, 69, 83, 10]⟩
def kE : ByteArray := ⟨#[32, 59, 32, 59]⟩
def kM : ByteArray := ⟨#[59, 116, 114, 117, 115, 116, 101, 100, 45, 116, 121, 112, 101, 115, 32]⟩
theorem less_s (u m : ByteArray) (hm : ∀ c ∈ L m, ¬ c = 59) (r : Bool) : parseM (kT2 ++ u ++ kE) r = parseM (kT ++ u) r ∧ parseM (kT ++ u ++ kM ++ m) r = parseM (kT ++ u) r := by
  obtain ⟨h1, h2⟩ := less (L u) (L m) hm
  have e0 : L (kT ++ u) = bT ++ 32 :: L u := by
    rw [L_append]
    show (bT ++ [32]) ++ L u = _
    simp
  have e1 : L (kT2 ++ u ++ kE) = 32 :: 59 :: 9 :: (bG ++ 10 :: (L u ++ [32, 59, 32, 59])) := by
    rw [L_append, L_append]
    show (32 :: 59 :: 9 :: (bG ++ [10])) ++ L u ++ [32, 59, 32, 59] = _
    simp
  have e2 : L (kT ++ u ++ kM ++ m) = bT ++ 32 :: (L u ++ 59 :: (bT ++ 32 :: L m)) := by
    rw [L_append, L_append, e0]
    show bT ++ 32 :: L u ++ (59 :: (bT ++ [32])) ++ L m = _
    simp
  unfold parseM
  rw [parts_L, parts_L, parts_L, e0, e1, e2, h1, h2]
  exact ⟨rfl, rfl⟩
theorem len_guard (s : ByteArray) (r : Bool) : (parseM s r).names.length ≤ s.size := by
  unfold parseM guardD
  have key : ∀ (ds : List (List ByteArray)) (g : Gd), g.names.length ≤ s.size → (∀ d ∈ ds, d.length ≤ s.size) → (ds.foldl stepG g).names.length ≤ s.size := by
    intro ds
    induction ds with
    | nil => intro g h _; exact h
    | cons d ds ih =>
      intro g h hd
      rw [List.foldl_cons]
      refine ih _ ?_ fun x hx => hd x (by simp [hx])
      unfold stepG
      split
      · exact h
      · split
        · have h1 := len_namesF d.tail []
          have h2 := hd d (by simp)
          have h3 : (namesM d.tail).length ≤ d.tail.length := by unfold namesM; simpa using h1
          rw [List.length_tail] at h3
          show (namesM d.tail).length ≤ _
          omega
        · exact h
  exact key _ _ (Nat.zero_le _) fun d hd => (words_small s d hd).1

set_option maxHeartbeats 8000000 in
theorem law_less (s more : ByteArray) (r : Bool) (hs : s.size ≤ 140737488351232) (hm0 : more.size ≤ 140737488351232) (w : World) :
    Calls Try.prog 5 #[.string s, .string more, .bool r] w fun e w' => e = .returned (.bool true) ∧ Below w.heap.size w w' := by
  obtain ⟨k, hk1, hk2, -, hmink⟩ := cut_any s.size 200 200 rfl w
  obtain ⟨u, hu⟩ : ∃ u, s.extract 0 k = u := ⟨_, rfl⟩
  have hus : u.size ≤ 200 := by rw [← hu]; exact Nat.le_trans (cut_le s k) hk2
  have HU := Lib.hid hu; clear hu
  obtain ⟨p, hp1, hp2, -, hminp⟩ := cut_any more.size 200 200 rfl w
  obtain ⟨m, hm⟩ : ∃ m, more.extract 0 p = m := ⟨_, rfl⟩
  have hms : m.size ≤ 200 := by rw [← hm]; exact Nat.le_trans (cut_le more p) hp2
  have HM := Lib.hid hm; clear hm
  go_enter Try.func5, Try.ntmps5
  go_wp2
  simp only [HU.out, HM.out]
  clear hmink hminp
  go_loop [7] (fun i => ∃ j : Nat, i = .int .i64 j ∧ j ≤ m.size ∧ ∀ c ∈ (L m).take j, ¬ c = 59) (fun i => m.size - (intOf i).toNat)
  case atStart => exact ⟨0, rfl, Nat.zero_le _, fun c hc => by cases hc⟩
  case round =>
    obtain ⟨j, rfl, hj, hn⟩ := hrel
    by_cases hp : j < m.size
    · have e59 : ((m[j].toNat : Int) == 59) = (m[j] == 59) := u8_eq (b := 59)
      by_cases h59 : m[j] = 59
      · rw [beq_iff_eq.2 h59] at e59
        clear hn h59
        go_wp2_with fail
        refine (fixed15_any w).mono ?_
        rintro e w1 ⟨rfl, hb⟩
        go_wp2
        go_ret
        exact ⟨rfl, hb⟩
      · have hn2 : ∀ c ∈ (L m).take (j + 1), ¬ c = 59 := by
          rw [take_snoc m j hp]
          intro c hc
          rcases List.mem_append.1 hc with h | h
          · exact hn c h
          · rw [List.mem_singleton.1 h]; exact h59
        rw [beq_eq_false_iff_ne.2 h59] at e59
        have HN := Lib.hid hn2
        clear hn h59 hn2
        go_wp2
        go_round
        case rel => exact ⟨j + 1, by go_num, by omega, HN.out⟩
        case measure => simp [intOf]; omega
    · obtain rfl : j = m.size := by omega
      have hall := no59 hn
      obtain ⟨l1, l2⟩ := less_s u m hall r
      obtain ⟨x, hx⟩ : ∃ x, kT ++ u = x := ⟨_, rfl⟩
      obtain ⟨y, hy⟩ : ∃ y, kT2 ++ u ++ kE = y := ⟨_, rfl⟩
      obtain ⟨z, hz⟩ : ∃ z, x ++ kM ++ m = z := ⟨_, rfl⟩
      have s1 : kT.size = 14 := rfl
      have s2 : kT2.size = 17 := rfl
      have s3 : kE.size = 4 := rfl
      have s4 : kM.size = 15 := rfl
      have hxs : x.size ≤ 1000 := by rw [← hx, size_append]; omega
      have hys : y.size ≤ 1000000 := by rw [← hy, size_append, size_append]; omega
      have hzs : z.size ≤ 1000000 := by rw [← hz, size_append, size_append]; omega
      rw [hx] at l1 l2
      rw [hy] at l1
      rw [hz] at l2
      obtain ⟨g, hg⟩ : ∃ g, parseM x r = g := ⟨_, rfl⟩
      have hgl : g.names.length ≤ 1000 := by rw [← hg]; exact Nat.le_trans (len_guard x r) hxs
      rw [hg] at l1 l2
      obtain ⟨on, rep, names, any, twice⟩ := g
      obtain ⟨n, hnl⟩ : ∃ n, names.length = n := ⟨_, rfl⟩
      unfold kT at hx
      unfold kT2 kE at hy
      unfold kM at hz
      have HX := Lib.hid hx; have HY := Lib.hid hy; have HZ := Lib.hid hz; have HL1 := Lib.hid l1; have HL2 := Lib.hid l2; have HG := Lib.hid hg; have HGL := Lib.hid hgl; have HNL := Lib.hid hnl; have HYS := Lib.hid hys; have HZS := Lib.hid hzs
      clear hx hy hz l1 l2 hg hgl hnl hall hn s1 s2 s3 s4 hys hzs
      go_wp2_with fail
      rw [HX.out]
      refine (parse1 x r w (by omega) (⟨on, rep, names, any, twice⟩ : Gd) HG.out).mono ?_
      rintro e vw1 ⟨Aa, ca, rfl, ho, hb⟩
      rw [show gV (⟨on, rep, names, any, twice⟩ : Gd) (.slice Aa (Gd.names (⟨on, rep, names, any, twice⟩ : Gd)).length ca) = .agg #[.bool on, .bool rep, .slice Aa names.length ca, .bool any, .bool twice] from rfl]
      have hk := kb_new ho
      have hbw := below_box hb (.cells #[.bool on, .bool rep, .slice Aa names.length ca, .bool any, .bool twice] 26)
      go_upto_region 9 with (fail)
      obtain ⟨w1, hW⟩ : ∃ W, vw1.alloc (.cells #[.bool on, .bool rep, .slice Aa names.length ca, .bool any, .bool twice] 26) = W := ⟨_, rfl⟩
      obtain ⟨ba, hbb⟩ : ∃ b, vw1.heap.size = b := ⟨_, rfl⟩
      have hk2 : Kb w1 ba (⟨on, rep, names, any, twice⟩ : Gd) (.slice Aa names.length ca) := by rw [← hW, ← hbb]; exact hk
      rw [hW] at hbw
      rw [hW, hbb]
      have Ha_w1 := Lib.hid hk2
      have hB_w1 : Below w.heap.size w w1 := hbw
      have HB_w1 := Lib.hid hB_w1; clear hB_w1
      clear hk hk2 hbw hW hbb ho hb
      go_wp2_with fail
      rw [HY.out]
      refine (parse1 y r w1 HYS.out (⟨on, rep, names, any, twice⟩ : Gd) HL1.out).mono ?_
      rintro e vw2 ⟨Ab, cb, rfl, ho, hb⟩
      rw [show gV (⟨on, rep, names, any, twice⟩ : Gd) (.slice Ab (Gd.names (⟨on, rep, names, any, twice⟩ : Gd)).length cb) = .agg #[.bool on, .bool rep, .slice Ab names.length cb, .bool any, .bool twice] from rfl]
      have hk := kb_new ho
      have hbw := below_box hb (.cells #[.bool on, .bool rep, .slice Ab names.length cb, .bool any, .bool twice] 26)
      go_upto_region 10 with (fail)
      obtain ⟨w2, hW⟩ : ∃ W, vw2.alloc (.cells #[.bool on, .bool rep, .slice Ab names.length cb, .bool any, .bool twice] 26) = W := ⟨_, rfl⟩
      obtain ⟨bb, hbb⟩ : ∃ b, vw2.heap.size = b := ⟨_, rfl⟩
      have hk2 : Kb w2 bb (⟨on, rep, names, any, twice⟩ : Gd) (.slice Ab names.length cb) := by rw [← hW, ← hbb]; exact hk
      rw [hW] at hbw
      rw [hW, hbb]
      have Hb_w2 := Lib.hid hk2
      have ha_w2 : Kb w2 ba (⟨on, rep, names, any, twice⟩ : Gd) (.slice Aa names.length ca) := Ha_w1.out.on hbw
      have Ha_w2 := Lib.hid ha_w2; clear ha_w2
      have hB_w2 : Below w.heap.size w w2 := bt HB_w1.out hbw
      have HB_w2 := Lib.hid hB_w2; clear hB_w2
      clear hk hk2 hbw hW hbb ho hb
      go_wp2_with fail
      rw [HX.out, HZ.out]
      refine (parse1 z r w2 HZS.out (⟨on, rep, names, any, twice⟩ : Gd) HL2.out).mono ?_
      rintro e vw3 ⟨Ad, cd, rfl, ho, hb⟩
      rw [show gV (⟨on, rep, names, any, twice⟩ : Gd) (.slice Ad (Gd.names (⟨on, rep, names, any, twice⟩ : Gd)).length cd) = .agg #[.bool on, .bool rep, .slice Ad names.length cd, .bool any, .bool twice] from rfl]
      have hk := kb_new ho
      have hbw := below_box hb (.cells #[.bool on, .bool rep, .slice Ad names.length cd, .bool any, .bool twice] 26)
      go_upto_region 11 with (fail)
      obtain ⟨w3, hW⟩ : ∃ W, vw3.alloc (.cells #[.bool on, .bool rep, .slice Ad names.length cd, .bool any, .bool twice] 26) = W := ⟨_, rfl⟩
      obtain ⟨bd, hbb⟩ : ∃ b, vw3.heap.size = b := ⟨_, rfl⟩
      have hk2 : Kb w3 bd (⟨on, rep, names, any, twice⟩ : Gd) (.slice Ad names.length cd) := by rw [← hW, ← hbb]; exact hk
      rw [hW] at hbw
      rw [hW, hbb]
      have Hd_w3 := Lib.hid hk2
      have ha_w3 : Kb w3 ba (⟨on, rep, names, any, twice⟩ : Gd) (.slice Aa names.length ca) := Ha_w2.out.on hbw
      have Ha_w3 := Lib.hid ha_w3; clear ha_w3
      have hb_w3 : Kb w3 bb (⟨on, rep, names, any, twice⟩ : Gd) (.slice Ab names.length cb) := Hb_w2.out.on hbw
      have Hb_w3 := Lib.hid hb_w3; clear hb_w3
      have hB_w3 : Below w.heap.size w w3 := bt HB_w2.out hbw
      have HB_w3 := Lib.hid hB_w3; clear hB_w3
      clear hk hk2 hbw hW hbb ho hb
      obtain ⟨xa0, xa1, xa2, xa3, xa4⟩ := (show w3.cell? ⟨ba, 0, none⟩ = some (.bool on) ∧ w3.cell? ⟨ba, 1, none⟩ = some (.bool rep) ∧ w3.cell? ⟨ba, 2, none⟩ = some (.slice Aa names.length ca) ∧ w3.cell? ⟨ba, 3, none⟩ = some (.bool any) ∧ w3.cell? ⟨ba, 4, none⟩ = some (.bool twice) from Ha_w3.out.at5)
      obtain ⟨xb0, xb1, xb2, xb3, xb4⟩ := (show w3.cell? ⟨bb, 0, none⟩ = some (.bool on) ∧ w3.cell? ⟨bb, 1, none⟩ = some (.bool rep) ∧ w3.cell? ⟨bb, 2, none⟩ = some (.slice Ab names.length cb) ∧ w3.cell? ⟨bb, 3, none⟩ = some (.bool any) ∧ w3.cell? ⟨bb, 4, none⟩ = some (.bool twice) from Hb_w3.out.at5)
      obtain ⟨xd0, xd1, xd2, xd3, xd4⟩ := (show w3.cell? ⟨bd, 0, none⟩ = some (.bool on) ∧ w3.cell? ⟨bd, 1, none⟩ = some (.bool rep) ∧ w3.cell? ⟨bd, 2, none⟩ = some (.slice Ad names.length cd) ∧ w3.cell? ⟨bd, 3, none⟩ = some (.bool any) ∧ w3.cell? ⟨bd, 4, none⟩ = some (.bool twice) from Hd_w3.out.at5)
      go_wp2_with fail
      refine (same15_any _ _ (⟨on, rep, names, any, twice⟩ : Gd) w3 (show Gv w3 w3.heap.size (.agg #[.bool on, .bool rep, .slice Aa names.length ca, .bool any, .bool twice]) _ from Ha_w3.out.gv) (show Gv w3 w3.heap.size (.agg #[.bool on, .bool rep, .slice Ab names.length cb, .bool any, .bool twice]) _ from Hb_w3.out.gv) (show names.length ≤ 8796093022208 from Nat.le_trans HGL.out (by decide))).mono ?_
      rintro e w4 ⟨rfl, hb⟩
      clear xa0 xa1 xa2 xa3 xa4
      clear xb0 xb1 xb2 xb3 xb4
      clear xd0 xd1 xd2 xd3 xd4
      have ha_w4 : Kb w4 ba (⟨on, rep, names, any, twice⟩ : Gd) (.slice Aa names.length ca) := Ha_w3.out.on hb
      have Ha_w4 := Lib.hid ha_w4; clear ha_w4
      have hb_w4 : Kb w4 bb (⟨on, rep, names, any, twice⟩ : Gd) (.slice Ab names.length cb) := Hb_w3.out.on hb
      have Hb_w4 := Lib.hid hb_w4; clear hb_w4
      have hd_w4 : Kb w4 bd (⟨on, rep, names, any, twice⟩ : Gd) (.slice Ad names.length cd) := Hd_w3.out.on hb
      have Hd_w4 := Lib.hid hd_w4; clear hd_w4
      have hB_w4 : Below w.heap.size w w4 := bt HB_w3.out hb
      have HB_w4 := Lib.hid hB_w4; clear hB_w4
      obtain ⟨xa0, xa1, xa2, xa3, xa4⟩ := (show w4.cell? ⟨ba, 0, none⟩ = some (.bool on) ∧ w4.cell? ⟨ba, 1, none⟩ = some (.bool rep) ∧ w4.cell? ⟨ba, 2, none⟩ = some (.slice Aa names.length ca) ∧ w4.cell? ⟨ba, 3, none⟩ = some (.bool any) ∧ w4.cell? ⟨ba, 4, none⟩ = some (.bool twice) from Ha_w4.out.at5)
      obtain ⟨xb0, xb1, xb2, xb3, xb4⟩ := (show w4.cell? ⟨bb, 0, none⟩ = some (.bool on) ∧ w4.cell? ⟨bb, 1, none⟩ = some (.bool rep) ∧ w4.cell? ⟨bb, 2, none⟩ = some (.slice Ab names.length cb) ∧ w4.cell? ⟨bb, 3, none⟩ = some (.bool any) ∧ w4.cell? ⟨bb, 4, none⟩ = some (.bool twice) from Hb_w4.out.at5)
      obtain ⟨xd0, xd1, xd2, xd3, xd4⟩ := (show w4.cell? ⟨bd, 0, none⟩ = some (.bool on) ∧ w4.cell? ⟨bd, 1, none⟩ = some (.bool rep) ∧ w4.cell? ⟨bd, 2, none⟩ = some (.slice Ad names.length cd) ∧ w4.cell? ⟨bd, 3, none⟩ = some (.bool any) ∧ w4.cell? ⟨bd, 4, none⟩ = some (.bool twice) from Hd_w4.out.at5)
      clear hb
      go_wp2_with fail
      refine (same15_any _ _ (⟨on, rep, names, any, twice⟩ : Gd) w4 (show Gv w4 w4.heap.size (.agg #[.bool on, .bool rep, .slice Aa names.length ca, .bool any, .bool twice]) _ from Ha_w4.out.gv) (show Gv w4 w4.heap.size (.agg #[.bool on, .bool rep, .slice Ad names.length cd, .bool any, .bool twice]) _ from Hd_w4.out.gv) (show names.length ≤ 8796093022208 from Nat.le_trans HGL.out (by decide))).mono ?_
      rintro e w5 ⟨rfl, hb⟩
      clear xa0 xa1 xa2 xa3 xa4
      clear xb0 xb1 xb2 xb3 xb4
      clear xd0 xd1 xd2 xd3 xd4
      have ha_w5 : Kb w5 ba (⟨on, rep, names, any, twice⟩ : Gd) (.slice Aa names.length ca) := Ha_w4.out.on hb
      have Ha_w5 := Lib.hid ha_w5; clear ha_w5
      have hb_w5 : Kb w5 bb (⟨on, rep, names, any, twice⟩ : Gd) (.slice Ab names.length cb) := Hb_w4.out.on hb
      have Hb_w5 := Lib.hid hb_w5; clear hb_w5
      have hd_w5 : Kb w5 bd (⟨on, rep, names, any, twice⟩ : Gd) (.slice Ad names.length cd) := Hd_w4.out.on hb
      have Hd_w5 := Lib.hid hd_w5; clear hd_w5
      have hB_w5 : Below w.heap.size w w5 := bt HB_w4.out hb
      have HB_w5 := Lib.hid hB_w5; clear hB_w5
      obtain ⟨xa0, xa1, xa2, xa3, xa4⟩ := (show w5.cell? ⟨ba, 0, none⟩ = some (.bool on) ∧ w5.cell? ⟨ba, 1, none⟩ = some (.bool rep) ∧ w5.cell? ⟨ba, 2, none⟩ = some (.slice Aa names.length ca) ∧ w5.cell? ⟨ba, 3, none⟩ = some (.bool any) ∧ w5.cell? ⟨ba, 4, none⟩ = some (.bool twice) from Ha_w5.out.at5)
      obtain ⟨xb0, xb1, xb2, xb3, xb4⟩ := (show w5.cell? ⟨bb, 0, none⟩ = some (.bool on) ∧ w5.cell? ⟨bb, 1, none⟩ = some (.bool rep) ∧ w5.cell? ⟨bb, 2, none⟩ = some (.slice Ab names.length cb) ∧ w5.cell? ⟨bb, 3, none⟩ = some (.bool any) ∧ w5.cell? ⟨bb, 4, none⟩ = some (.bool twice) from Hb_w5.out.at5)
      obtain ⟨xd0, xd1, xd2, xd3, xd4⟩ := (show w5.cell? ⟨bd, 0, none⟩ = some (.bool on) ∧ w5.cell? ⟨bd, 1, none⟩ = some (.bool rep) ∧ w5.cell? ⟨bd, 2, none⟩ = some (.slice Ad names.length cd) ∧ w5.cell? ⟨bd, 3, none⟩ = some (.bool any) ∧ w5.cell? ⟨bd, 4, none⟩ = some (.bool twice) from Hd_w5.out.at5)
      clear hb
      clear xa0 xa1 xa2 xa3 xa4
      clear xb0 xb1 xb2 xb3 xb4
      clear xd0 xd1 xd2 xd3 xd4
      go_wp2_with fail
      refine (fixed15_any w5).mono ?_
      rintro e w6 ⟨rfl, hb⟩
      go_wp2
      go_ret
      exact ⟨rfl, bt HB_w5.out hb⟩

end Go.Proofs.Ythgpjhblbpiagaa.He
