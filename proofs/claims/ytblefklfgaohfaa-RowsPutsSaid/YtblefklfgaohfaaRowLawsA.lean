/-
  The laws of stage 4, walked: Checks.
-/
import Derived.Test.YtblefklfgaohfaaRowOpen
namespace Go.Proofs.Ytblefklfgaohfaa.Ro
set_option linter.unusedVariables false
set_option linter.unusedSimpArgs false
open Go.RowKit Ba

theorem few_bounded (l : List Ro) : Few (bounded l) := fun x hx => by
  obtain ⟨y, _, rfl⟩ := List.mem_map.1 hx
  show (y.attrs.take 8).length ≤ 1000000
  rw [List.length_take]
  omega
theorem held_bounded {l : List Ro} (h : Held l) : Held (bounded l) := fun x hx => by
  obtain ⟨y, hy, rfl⟩ := List.mem_map.1 hx
  exact h y (List.mem_of_mem_take hy)
theorem short_bounded (l : List Ro) : (bounded l).length ≤ 60 := by
  rw [bounded, List.length_map, List.length_take]
  omega

set_option maxRecDepth 100000 in
set_option maxHeartbeats 2000000 in
theorem checks_any (A B : Option Addr) (ca cb : Nat) (a b : List Cw) (w : World) (hra : Rr w w.heap.size A a) (hrb : Rr w w.heap.size B b) (hca : a.length ≤ ca) (hcb : b.length ≤ cb) (hma : ca ≤ maxLen) (hmb : cb ≤ maxLen) (hh : Held (ros a)) :
    Calls Try.prog 3 #[.slice A a.length ca, .slice B b.length cb] w fun e w' => e = .returned (.bool true) ∧ Below w.heap.size w w' := by
  go_enter Try.func3, Try.ntmps3
  go_wp2_with fail
  refine (bound_any A ca a w hra hca hma).mono ?_
  rintro e w1 ⟨v1, x, rfl, ho1, _, hx, hb1⟩
  obtain ⟨A1, c1, rfl, hc1, _, _, hR1⟩ := ho1.form
  have hlx : x.length ≤ 60 := by rw [← len_ros, hx]; exact short_bounded _
  have hfx : Few (ros x) := by rw [hx]; exact few_bounded _
  have hhx : Held (ros x) := by rw [hx]; exact held_bounded hh
  have HB1 := Lib.hid hb1; have HR1 := Lib.hid hR1; have HFX := Lib.hid hfx; have HHX := Lib.hid hhx
  have HRB := Lib.hid ((hrb.below hb1).more hb1.size)
  clear ho1 hx hb1 hR1 hfx hhx hra hrb hh
  go_wp2_with fail
  refine (bound_any B cb b w1 HRB.out hcb hmb).mono ?_
  rintro e w2 ⟨v2, y, rfl, ho2, _, hy, hb2⟩
  obtain ⟨A2, c2, rfl, hc2, _, _, hR2⟩ := ho2.form
  have hly : y.length ≤ 60 := by rw [← len_ros, hy]; exact short_bounded _
  have HB2 := Lib.hid (bt HB1.out hb2); have HRy2 := Lib.hid hR2
  have HRx2 := Lib.hid ((HR1.out.below hb2).more hb2.size)
  clear ho2 hy hb2 hR2 HR1 HRB HB1
  go_wp2_with fail
  refine (fixed_any w2).mono ?_
  rintro e w3 ⟨rfl, hb3⟩
  have HB3 := Lib.hid (bt HB2.out hb3)
  have HRx3 := Lib.hid ((HRx2.out.below hb3).more hb3.size)
  have HRy3 := Lib.hid ((HRy2.out.below hb3).more hb3.size)
  clear hb3 HB2 HRx2 HRy2
  obtain ⟨C, hC⟩ : ∃ C, check (ros x) = C := ⟨_, rfl⟩
  have h4 := Check_any A1 c1 x w3 HRx3.out hc1 (by omega)
  rw [hC] at h4
  have H4 := Lib.hid h4
  have HC := Lib.hid hC
  clear h4 hC
  go_wp2_with fail
  refine H4.out.mono ?_
  rintro e w4 ⟨rfl, hb4⟩
  have HB4 := Lib.hid (bt HB3.out hb4)
  have HRx4 := Lib.hid ((HRx3.out.below hb4).more hb4.size)
  have HRy4 := Lib.hid ((HRy3.out.below hb4).more hb4.size)
  clear hb4 HB3 HRx3 HRy3 H4
  have h5 := refCheck_any A1 c1 x w4 HRx4.out hc1 (by omega)
  rw [HC.out] at h5
  have H5 := Lib.hid h5
  clear h5
  go_wp2_with fail
  refine H5.out.mono ?_
  rintro e w5 ⟨rfl, hb5⟩
  have HB5 := Lib.hid (bt HB4.out hb5)
  have HRx5 := Lib.hid ((HRx4.out.below hb5).more hb5.size)
  have HRy5 := Lib.hid ((HRy4.out.below hb5).more hb5.size)
  clear hb5 HB4 HRx4 HRy4 H5
  obtain ⟨S, hS⟩ : ∃ S, decide (ros x = ros y) = S := ⟨_, rfl⟩
  have h6 := Same_any A1 A2 c1 c2 x y w5 HRx5.out HRy5.out hc1 hc2 (by omega) (by omega)
  rw [hS] at h6
  have H6 := Lib.hid h6; have HS := Lib.hid hS
  clear h6 hS
  go_wp2_with fail
  refine H6.out.mono ?_
  rintro e w6 ⟨rfl, hb6⟩
  have HB6 := Lib.hid (bt HB5.out hb6)
  have HRx6 := Lib.hid ((HRx5.out.below hb6).more hb6.size)
  have HRy6 := Lib.hid ((HRy5.out.below hb6).more hb6.size)
  clear hb6 HB5 HRx5 HRy5 H6
  have h7 := refSame_any A1 A2 c1 c2 x y w6 HRx6.out HRy6.out hc1 hc2 (by omega) (by omega)
  rw [HS.out] at h7
  have H7 := Lib.hid h7
  clear h7
  go_wp2_with fail
  refine H7.out.mono ?_
  rintro e w7 ⟨rfl, hb7⟩
  have HB7 := Lib.hid (bt HB6.out hb7)
  have HRx7 := Lib.hid ((HRx6.out.below hb7).more hb7.size)
  clear hb7 HB6 HRx6 HRy6 H7
  have hSS : (S == S) = true := by simp
  go_wp2_with fail
  refine (Moved_any A1 c1 x 0 w7 HRx7.out hc1 (by omega) HFX.out HHX.out.fits).mono ?_
  rintro e w8 ⟨v8, z, rfl, ho8, _, hz, hb8⟩
  obtain ⟨A8, c8, rfl, hc8, _, _, hR8⟩ := ho8.form
  rw [deeper_zero] at hz
  have hlz : z.length = x.length := by rw [← len_ros, hz, len_ros]
  have hlz2 : z.length ≤ 60 := by rw [hlz]; exact hlx
  have HB8 := Lib.hid (bt HB7.out hb8)
  have h9 := Same_any A1 A8 c1 c8 x z w8 ((HRx7.out.below hb8).more hb8.size) hR8 hc1 hc8 (by omega) (by omega)
  rw [decide_eq_true hz.symm] at h9
  have H9 := Lib.hid h9
  clear hz hlz ho8 hb8 hR8 h9 HB7 HRx7
  go_wp2_with fail
  refine H9.out.mono ?_
  rintro e w9 ⟨rfl, hb9⟩
  go_wp2
  go_ret
  exact ⟨rfl, bt HB8.out hb9⟩

theorem law_checks (v0 v1 : Value) (a b : List Cw) (w : World) (h0 : Rv w v0 a) (h1 : Rv w v1 b) (_ _ : True) :
    Calls Try.prog 3 #[v0, v1] w fun e w' => e = .returned (.bool true) ∧ Below w.heap.size w w' := by
  obtain ⟨A, ca, rfl, hca, hma, hra, hh⟩ := h0
  obtain ⟨B, cb, rfl, hcb, hmb, hrb, _⟩ := h1
  exact checks_any A B ca cb a b w hra hrb hca hcb hma hmb hh

end Go.Proofs.Ytblefklfgaohfaa.Ro
