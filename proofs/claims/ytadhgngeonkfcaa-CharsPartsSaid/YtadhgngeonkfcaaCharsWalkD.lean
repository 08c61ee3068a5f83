/-
  Walks of stage 1: the document's own answers (boltingref01): in, Size, Right, Sample, Decode, Lines, Ready: each returns what the plain function of CharsSpec says.
-/
import Derived.Test.YtadhgngeonkfcaaCharsWalkC
namespace Go.Proofs.Ytadhgngeonkfcaa.Ch
open Go.RowKit

def innI (s : ByteArray) (a lo hi : Int) : Bool := decide (a.toNat < s.size) && (decide (lo ≤ (at' (L s) a.toNat : Int)) && decide ((at' (L s) a.toNat : Int) ≤ hi))

theorem at_eq (s : ByteArray) (k : Nat) (h : k < s.size) : at' (L s) k = s[k].toNat := by
  unfold at'
  rw [List.getD_eq_getElem?_getD, List.getElem?_eq_getElem (by rw [size_L]; exact h)]
  rfl

theorem innI_of (s : ByteArray) (k : Nat) (h : k < s.size) (lo hi : Int) : innI s k lo hi = (decide (lo ≤ (s[k].toNat : Int)) && decide ((s[k].toNat : Int) ≤ hi)) := by
  unfold innI
  rw [Int.toNat_natCast, at_eq s k h]
  simp [h]

set_option maxHeartbeats 400000 in
theorem in_any (s : ByteArray) (a lo hi : Int) (w : World) (h0 : 0 ≤ a) :
    Calls Try.prog 25 #[.string s, .int .i64 a, .int .i64 lo, .int .i64 hi] w fun e w' => e = .returned (.bool (innI s a lo hi)) ∧ w = w' := by
  obtain ⟨k, rfl⟩ := Int.eq_ofNat_of_zero_le h0
  by_cases hk : k < s.size
  · have hb := s[k].toNat_lt
    by_cases hl : lo ≤ (s[k].toNat : Int)
    · go_enter Try.func25, Try.ntmps25
      go_wp2
      go_ret
      refine ⟨ret_bool ?_, rfl⟩
      rw [innI_of s k hk]
      simp [hl]
    · go_enter Try.func25, Try.ntmps25
      go_wp2
      go_ret
      refine ⟨ret_bool ?_, rfl⟩
      rw [innI_of s k hk]
      have hl' : ¬ lo ≤ (s[k].toNat : Int) := by omega
      simp [hl']
  · go_enter Try.func25, Try.ntmps25
    go_wp2
    go_ret
    refine ⟨ret_bool ?_, rfl⟩
    simp [innI, hk]

theorem at_drop (s : ByteArray) (k j : Nat) : at' ((L s).drop k) j = at' (L s) (k + j) := by
  unfold at'
  rw [List.getD_eq_getElem?_getD, List.getD_eq_getElem?_getD, List.getElem?_drop]

theorem inn_drop (s : ByteArray) (k j : Nat) (lo hi : Nat) (a : Int) (ha : a = (k : Int) + j) : innI s a lo hi = inn ((L s).drop k) j lo hi := by
  unfold innI inn
  rw [at_drop, show a.toNat = k + j from by omega, List.length_drop, size_L]
  congr 1
  · rw [Bool.eq_iff_iff]; simp only [decide_eq_true_iff]; omega
  · congr 1
    · rw [Bool.eq_iff_iff]; simp only [decide_eq_true_iff]; omega
    · rw [Bool.eq_iff_iff]; simp only [decide_eq_true_iff]; omega

/-- 'sz', of a byte c and four answers. -/
def szOf (c : Nat) (a1 a2 b d : Bool) : Nat :=
  if c < 128 then 1
  else if (decide (0xc2 ≤ c) && decide (c ≤ 0xdf)) && a1 then 2
  else if !a2 || !b then 0
  else if decide (0xe0 ≤ c) && decide (c ≤ 0xef) then 3
  else if (decide (0xf0 ≤ c) && decide (c ≤ 0xf4)) && d then 4
  else 0

theorem sz_of (s : ByteArray) (k c : Nat) (h : k < s.size) (hc : s[k].toNat = c) (lo hi : Int) (hlo : lo = low c) (hhi : hi = high c) : sz ((L s).drop k) = szOf c (innI s (k + 1) 128 191) (innI s (k + 1) lo hi) (innI s (k + 2) 128 191) (innI s (k + 3) 128 191) := by
  have e0 : at' ((L s).drop k) 0 = c := by rw [at_drop, Nat.add_zero, at_eq s k h, hc]
  have i1 := inn_drop s k 1 128 191 (k + 1) rfl
  have i1' := inn_drop s k 1 (low c) (high c) (k + 1) rfl
  have i2 := inn_drop s k 2 128 191 (k + 2) rfl
  have i3 := inn_drop s k 3 128 191 (k + 3) rfl
  subst hlo hhi
  unfold sz szOf
  rw [e0]
  rw [← i1, ← i1', ← i2, ← i3]
  rfl

theorem low_no (c : Nat) (h : c ≠ 0xe0) (h' : c ≠ 0xf0) : low c = 128 := by simp [low, h, h']
theorem high_no (c : Nat) (h : c ≠ 0xed) (h' : c ≠ 0xf4) : high c = 191 := by simp [high, h, h']

end Go.Proofs.Ytadhgngeonkfcaa.Ch
