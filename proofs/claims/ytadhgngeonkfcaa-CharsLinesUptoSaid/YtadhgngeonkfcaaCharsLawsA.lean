/-
  Walks of stage 1's laws CharsSamples and CharsParts: each returns true, for every string of at most 2^47 - 4096 bytes and every int.
-/
import Derived.Test.YtadhgngeonkfcaaCharsFixed
namespace Go.Proofs.Ytadhgngeonkfcaa.Ch
open Go.RowKit

theorem bt {w w1 w2 : World} (h1 : Below w.heap.size w w1) (h2 : Below w1.heap.size w1 w2) : Below w.heap.size w w2 := h1.trans (h2.mono h1.size)
theorem cL_wf (l : List UInt8) (h : l.length ≤ 140737488355328) : (Lit.int .i64 (cL l)).wf = true := by
  have := (cL_le l).1
  simp [Lit.wf, IntKind.min, IntKind.bits, IntKind.signed]
  omega

set_option maxRecDepth 100000 in
set_option maxHeartbeats 1000000 in
theorem law_samples (s : ByteArray) (n : Int) (hs : s.size ≤ 140737488351232) (hn : (Lit.int .i64 n).wf = true) (w : World) :
    Calls Try.prog 5 #[.string s, .int .i64 n] w fun e w' => e = .returned (.bool true) ∧ Below w.heap.size w w' := by
  go_enter Try.func5, Try.ntmps5
  go_wp2_with fail
  refine (refSample_any s n _ (by omega) hn).mono ?_
  rintro e w1 ⟨rfl, rfl⟩
  go_wp2_with fail
  refine (fixed_any _).mono ?_
  rintro e w1 ⟨rfl, hb1⟩
  go_wp2_with fail
  refine (sample_any s n _ hn).mono ?_
  rintro e w2 ⟨rfl, hb2⟩
  go_wp2
  go_ret
  exact ⟨rfl, bt hb1 hb2⟩

set_option maxRecDepth 100000 in
set_option maxHeartbeats 1000000 in
theorem law_parts (s : ByteArray) (n : Int) (hs : s.size ≤ 140737488351232) (hn : (Lit.int .i64 n).wf = true) (w : World) :
    Calls Try.prog 8 #[.string s, .int .i64 n] w fun e w' => e = .returned (.bool true) ∧ Below w.heap.size w w' := by
  have hn1 : -9223372036854775808 ≤ n ∧ n ≤ 9223372036854775807 := by simpa [Lit.wf, IntKind.min, IntKind.bits, IntKind.signed] using hn
  obtain ⟨hnl, hnh⟩ := hn1
  obtain ⟨v, hv⟩ := smp_pre (L s) n.toNat
  have hct := cL_smp (L s) n.toNat
  have hall := smp_all (L s) (cL (L s)) (Nat.le_refl _)
  have hcl := (cL_le (L s)).1
  rw [size_L] at hcl
  have hlen := congrArg List.length hv
  rw [List.length_append, size_L] at hlen
  have hall' : B (smp (L s) (cL (L s) : Int).toNat) = s := by rw [Int.toNat_natCast, hall]; exact (B_of rfl).symm
  have hsz : (B (smp (L s) n.toNat)).size = (smp (L s) n.toNat).length := size_B _
  have hts : (B (smp (L s) n.toNat)).size ≤ s.size := by omega
  have hex : s.extract 0 (B (smp (L s) n.toNat)).size = B (smp (L s) n.toNat) := B_of (by
    rw [L_extract, hsz]; simp only [List.drop_zero, Nat.sub_zero]
    exact (congrArg (List.take _) hv).trans List.take_left)
  have hcn : (cL (L (B (smp (L s) n.toNat))) : Int) = max 0 (min n (cL (L s))) := by rw [L_B, hct]; omega
  have hcw : (Lit.int .i64 (cL (L s))).wf = true := cL_wf _ (by rw [size_L]; omega)
  go_enter Try.func8, Try.ntmps8
  go_wp2_with fail
  refine (sample_any s n _ hn).mono ?_
  rintro e w1 ⟨rfl, hb1⟩
  generalize B (smp (L s) n.toNat) = t at *
  have hlt : decide (s.size < t.size) = false := by simpa using hts
  have HA := Lib.hid hall'
  clear hall' hsz hlen hall hct hv hn
  by_cases h1 : (cL (L s) : Int) < n
  · by_cases h2 : 0 < cL (L s)
    · have hne : ((cL (L t) : Int) != (cL (L s) : Int)) = false := by rw [hcn, bne_eq_false_iff_eq]; omega
      clear hcn
      go_wp2_with fail
      refine (count_any t _ (by unfold maxLen; omega)).mono ?_
      rintro e w2 ⟨rfl, hb2⟩
      go_wp2_with fail
      refine (count_any s _ (by unfold maxLen; omega)).mono ?_
      rintro e w3 ⟨rfl, hb3⟩
      go_wp2_with fail
      refine (count_any s _ (by unfold maxLen; omega)).mono ?_
      rintro e w4 ⟨rfl, hb4⟩
      go_wp2_with fail
      refine (sample_any s _ _ hcw).mono ?_
      rw [HA.out]
      rintro e w5 ⟨rfl, hb5⟩
      go_wp2_with fail
      refine (fixed_any _).mono ?_
      rintro e w6 ⟨rfl, hb6⟩
      go_wp2
      go_ret
      exact ⟨rfl, bt (bt (bt (bt (bt hb1 hb2) hb3) hb4) hb5) hb6⟩
    · have hne : ((cL (L t) : Int) != (0 : Int)) = false := by rw [hcn, bne_eq_false_iff_eq]; omega
      clear hcn
      go_wp2_with fail
      refine (count_any t _ (by unfold maxLen; omega)).mono ?_
      rintro e w2 ⟨rfl, hb2⟩
      go_wp2_with fail
      refine (count_any s _ (by unfold maxLen; omega)).mono ?_
      rintro e w3 ⟨rfl, hb3⟩
      go_wp2_with fail
      refine (count_any s _ (by unfold maxLen; omega)).mono ?_
      rintro e w4 ⟨rfl, hb4⟩
      go_wp2_with fail
      refine (sample_any s _ _ hcw).mono ?_
      rw [HA.out]
      rintro e w5 ⟨rfl, hb5⟩
      go_wp2_with fail
      refine (fixed_any _).mono ?_
      rintro e w6 ⟨rfl, hb6⟩
      go_wp2
      go_ret
      exact ⟨rfl, bt (bt (bt (bt (bt hb1 hb2) hb3) hb4) hb5) hb6⟩
  · by_cases h2 : 0 < n
    · have hne : ((cL (L t) : Int) != n) = false := by rw [hcn, bne_eq_false_iff_eq]; omega
      clear hcn
      go_wp2_with fail
      refine (count_any t _ (by unfold maxLen; omega)).mono ?_
      rintro e w2 ⟨rfl, hb2⟩
      go_wp2_with fail
      refine (count_any s _ (by unfold maxLen; omega)).mono ?_
      rintro e w3 ⟨rfl, hb3⟩
      go_wp2_with fail
      refine (count_any s _ (by unfold maxLen; omega)).mono ?_
      rintro e w4 ⟨rfl, hb4⟩
      go_wp2_with fail
      refine (sample_any s _ _ hcw).mono ?_
      rw [HA.out]
      rintro e w5 ⟨rfl, hb5⟩
      go_wp2_with fail
      refine (fixed_any _).mono ?_
      rintro e w6 ⟨rfl, hb6⟩
      go_wp2
      go_ret
      exact ⟨rfl, bt (bt (bt (bt (bt hb1 hb2) hb3) hb4) hb5) hb6⟩
    · have hne : ((cL (L t) : Int) != (0 : Int)) = false := by rw [hcn, bne_eq_false_iff_eq]; omega
      clear hcn
      go_wp2_with fail
      refine (count_any t _ (by unfold maxLen; omega)).mono ?_
      rintro e w2 ⟨rfl, hb2⟩
      go_wp2_with fail
      refine (count_any s _ (by unfold maxLen; omega)).mono ?_
      rintro e w3 ⟨rfl, hb3⟩
      go_wp2_with fail
      refine (count_any s _ (by unfold maxLen; omega)).mono ?_
      rintro e w4 ⟨rfl, hb4⟩
      go_wp2_with fail
      refine (sample_any s _ _ hcw).mono ?_
      rw [HA.out]
      rintro e w5 ⟨rfl, hb5⟩
      go_wp2_with fail
      refine (fixed_any _).mono ?_
      rintro e w6 ⟨rfl, hb6⟩
      go_wp2
      go_ret
      exact ⟨rfl, bt (bt (bt (bt (bt hb1 hb2) hb3) hb4) hb5) hb6⟩

end Go.Proofs.Ytadhgngeonkfcaa.Ch
