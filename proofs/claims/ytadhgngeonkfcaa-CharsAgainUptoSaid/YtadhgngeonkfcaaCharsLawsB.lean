/-
  Walks of stage 1's laws CharsDecodes, CharsLines, CharsLonger: each returns true, for every string of at most 2^45 bytes.
-/
import Derived.Test.YtadhgngeonkfcaaCharsLawsA
namespace Go.Proofs.Ytadhgngeonkfcaa.Ch
open Go.RowKit

set_option maxRecDepth 100000 in
set_option maxHeartbeats 1000000 in
theorem law_decodes (s : ByteArray) (hs : s.size ≤ 140737488351232) (hk : s.size ≤ 1048576) (w : World) :
    Calls Try.prog 3 #[.string s] w fun e w' => e = .returned (.bool true) ∧ Below w.heap.size w w' := by
  have hdl := len_dL (L s)
  rw [size_L] at hdl
  go_enter Try.func3, Try.ntmps3
  go_wp2_with fail
  refine (refSample_any s 0 _ (by omega) (by decide)).mono ?_
  rintro e w1 ⟨rfl, rfl⟩
  go_wp2_with fail
  refine (fixed_any _).mono ?_
  rintro e w1 ⟨rfl, hb1⟩
  go_wp2_with fail
  refine (decode_any s _ (by omega) (by omega)).mono ?_
  rintro e w2 ⟨rfl, hb2⟩
  go_wp2_with fail
  refine (refDecode_any s _ (by omega) (by omega)).mono ?_
  rintro e w3 ⟨rfl, hb3⟩
  go_wp2_with fail
  refine (right_any s _ (by unfold maxLen; omega)).mono ?_
  rintro e w4 ⟨rfl, hb4⟩
  go_wp2_with fail
  refine (refRight_any s _ (by omega)).mono ?_
  rintro e w5 ⟨rfl, rfl⟩
  go_wp2_with fail
  refine (count_any s _ (by unfold maxLen; omega)).mono ?_
  rintro e w6 ⟨rfl, hb6⟩
  go_wp2
  go_ret
  exact ⟨rfl, bt (bt (bt (bt hb1 hb2) hb3) hb4) hb6⟩

set_option maxRecDepth 100000 in
set_option maxHeartbeats 1000000 in
theorem law_lines (s : ByteArray) (hs : s.size ≤ 140737488351232) (hk : s.size ≤ 1048576) (w : World) :
    Calls Try.prog 4 #[.string s] w fun e w' => e = .returned (.bool true) ∧ Below w.heap.size w w' := by
  have hdl := len_dL (L s)
  rw [size_L] at hdl
  go_enter Try.func4, Try.ntmps4
  go_wp2_with fail
  refine (fixed_any _).mono ?_
  rintro e w1 ⟨rfl, hb1⟩
  go_wp2_with fail
  refine (lines_any s _ (by omega)).mono ?_
  rintro e w2 ⟨rfl, hb2⟩
  go_wp2_with fail
  refine (refLines_any s _ (by omega)).mono ?_
  rintro e w3 ⟨rfl, hb3⟩
  go_wp2_with fail
  refine (ready_any s _ (by omega) (by omega)).mono ?_
  rintro e w4 ⟨rfl, hb4⟩
  go_wp2_with fail
  refine (refReady_any s _ (by omega) (by omega)).mono ?_
  rintro e w5 ⟨rfl, hb5⟩
  go_wp2
  go_ret
  exact ⟨rfl, bt (bt (bt (bt hb1 hb2) hb3) hb4) hb5⟩

set_option maxRecDepth 100000 in
set_option maxHeartbeats 1000000 in
theorem law_longer (s : ByteArray) (hs : s.size ≤ 140737488351232) (hk : s.size ≤ 1048576) (w : World) :
    Calls Try.prog 10 #[.string s] w fun e w' => e = .returned (.bool true) ∧ Below w.heap.size w w' := by
  have hdl := len_dL (L s)
  have hcl := cL_le (L s)
  have hln := ln_len false (L s)
  rw [size_L] at hdl hcl hln
  obtain ⟨hc1, hc2⟩ := hcl
  have hcd := cL_dL (L s)
  have hsd := size_B (dL (L s))
  have hsn := size_B (ln false (L s))
  have hd1 : (B (dL (L s))).size ≤ 3 * s.size := by omega
  have hn1 : (B (ln false (L s))).size ≤ s.size := by omega
  have hcd' : cL (L (B (dL (L s)))) = cL (L s) := by rw [L_B]; exact hcd
  have HD := Lib.hid hcd'
  clear hsd hsn hcd hcd'
  go_enter Try.func10, Try.ntmps10
  go_wp2_with fail
  refine (count_any s _ (by unfold maxLen; omega)).mono ?_
  rintro e w1 ⟨rfl, hb1⟩
  go_wp2_with fail
  refine (decode_any s _ (by omega) (by omega)).mono ?_
  rintro e w2 ⟨rfl, hb2⟩
  go_wp2_with fail
  refine (count_any (B (dL (L s))) _ (by unfold maxLen; omega)).mono ?_
  rw [HD.out]
  rintro e w3 ⟨rfl, hb3⟩
  go_wp2_with fail
  refine (decode_any s _ (by omega) (by omega)).mono ?_
  rintro e w4 ⟨rfl, hb4⟩
  go_wp2_with fail
  refine (lines_any s _ (by omega)).mono ?_
  rintro e w5 ⟨rfl, hb5⟩
  go_wp2_with fail
  refine (fixed_any _).mono ?_
  rintro e w6 ⟨rfl, hb6⟩
  go_wp2
  go_ret
  exact ⟨rfl, bt (bt (bt (bt (bt hb1 hb2) hb3) hb4) hb5) hb6⟩

end Go.Proofs.Ytadhgngeonkfcaa.Ch
