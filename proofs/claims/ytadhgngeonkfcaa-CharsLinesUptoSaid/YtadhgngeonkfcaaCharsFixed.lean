/-
  Walk of stage 1: boltinglaw01.fixed: the calls whose answers the document fixes: it returns true.
-/
import Derived.Test.YtadhgngeonkfcaaCharsWalkG
namespace Go.Proofs.Ytadhgngeonkfcaa.Ch
open Go.RowKit

theorem x1 : B (dL (L ⟨#[97, 255, 98, 0]⟩)) = ⟨#[97, 239, 191, 189, 98, 239, 191, 189]⟩ := by kernel_rfl
theorem x1' : (dL (L ⟨#[97, 255, 98, 0]⟩)).length = 8 := by kernel_rfl
theorem x2 : B (ln false (L ⟨#[13, 10, 13]⟩)) = ⟨#[10, 10]⟩ := by kernel_rfl
theorem x3 : B (smp (L ⟨#[104, 195, 164, 195, 159]⟩) (2 : Int).toNat) = ⟨#[104, 195, 164]⟩ := by kernel_rfl
theorem x4 : rL (L ⟨#[104, 195, 164]⟩) = true := by kernel_rfl
theorem x5 : rL (L ⟨#[195]⟩) = false := by kernel_rfl
theorem x6 : cL (L ⟨#[104, 195, 164, 255]⟩) = 3 := by kernel_rfl
theorem x7 : B (ln false (dL (L ⟨#[255, 13]⟩))) = ⟨#[239, 191, 189, 10]⟩ := by kernel_rfl
theorem x7' : (dL (L ⟨#[255, 13]⟩)).length = 4 := by kernel_rfl
theorem small {n k : Nat} (h : n = k) (hk : k ≤ 140737488355328) : n ≤ 140737488355328 := by omega

set_option maxRecDepth 100000 in
set_option maxHeartbeats 1000000 in
theorem fixed_any (w : World) : Calls Try.prog 12 #[] w fun e w' => e = .returned (.bool true) ∧ Below w.heap.size w w' := by
  go_enter Try.func12, Try.ntmps12
  go_wp2_with fail
  refine (decode_any ⟨#[97, 255, 98, 0]⟩ _ (by decide) (small x1' (by decide))).mono ?_
  rintro e w1 ⟨rfl, hb1⟩
  rw [x1]
  go_wp2_with fail
  refine (lines_any ⟨#[13, 10, 13]⟩ _ (by decide)).mono ?_
  rintro e w2 ⟨rfl, hb2⟩
  rw [x2]
  go_wp2_with fail
  refine (sample_any ⟨#[104, 195, 164, 195, 159]⟩ 2 _ (by decide)).mono ?_
  rintro e w3 ⟨rfl, hb3⟩
  rw [x3]
  go_wp2_with fail
  refine (right_any ⟨#[104, 195, 164]⟩ _ (by decide)).mono ?_
  rintro e w4 ⟨rfl, hb4⟩
  rw [x4]
  go_wp2_with fail
  refine (right_any ⟨#[195]⟩ _ (by decide)).mono ?_
  rintro e w5 ⟨rfl, hb5⟩
  rw [x5]
  go_wp2_with fail
  refine (count_any ⟨#[104, 195, 164, 255]⟩ _ (by decide)).mono ?_
  rintro e w6 ⟨rfl, hb6⟩
  rw [x6]
  go_wp2_with fail
  refine (ready_any ⟨#[255, 13]⟩ _ (by decide) (small x7' (by decide))).mono ?_
  rintro e w7 ⟨rfl, hb7⟩
  rw [x7]
  go_wp2
  go_ret
  have s1 := hb1.size
  have s2 := hb2.size
  have s3 := hb3.size
  have s4 := hb4.size
  have s5 := hb5.size
  have s6 := hb6.size
  exact ⟨rfl, (((((hb1.trans (hb2.mono (by omega))).trans (hb3.mono (by omega))).trans (hb4.mono (by omega))).trans (hb5.mono (by omega))).trans (hb6.mono (by omega))).trans (hb7.mono (by omega))⟩

end Go.Proofs.Ytadhgngeonkfcaa.Ch
