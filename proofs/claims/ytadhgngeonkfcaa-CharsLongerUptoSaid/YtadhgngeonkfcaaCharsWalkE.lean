/-
  Walks of stage 1: boltingref01.Size: it returns what the plain function 'sz' says of the bytes from the place on.
-/
import Derived.Test.YtadhgngeonkfcaaCharsWalkD
namespace Go.Proofs.Ytadhgngeonkfcaa.Ch
open Go.RowKit
set_option linter.unusedVariables false

/-- The way behind the first two tests: what is asked first has said no. -/
def Rest (s : ByteArray) (k c : Nat) (lo hi : Int) (w : World) : Prop :=
  Calls Try.prog 23 #[.string s, .int .i64 k] w fun e w' => e = .returned (.int .i64 (szOf c (innI s (k + 1) 128 191) (innI s (k + 1) lo hi) (innI s (k + 2) 128 191) (innI s (k + 3) 128 191))) ∧ w = w'

set_option maxRecDepth 100000 in
set_option maxHeartbeats 1000000 in
theorem size_one (s : ByteArray) (k c : Nat) (lo hi : Int) (w : World) (h : k < s.size) (hc : s[k].toNat = c) (hs : s.size ≤ 9223372036854775800) (hlt : c < 128) : Rest s k c lo hi w := by
  unfold Rest
  have hv : szOf c (innI s (k + 1) 128 191) (innI s (k + 1) lo hi) (innI s (k + 2) 128 191) (innI s (k + 3) 128 191) = 1 := by unfold szOf; rw [if_pos hlt]
  rw [hv]
  clear hv
  go_enter Try.func23, Try.ntmps23
  go_wp2
  go_ret
  exact ⟨rfl, rfl⟩

set_option maxRecDepth 100000 in
set_option maxHeartbeats 1000000 in
theorem size_two (s : ByteArray) (k c : Nat) (lo hi : Int) (w : World) (h : k < s.size) (hc : s[k].toNat = c) (hs : s.size ≤ 9223372036854775800) (h1 : 0xc2 ≤ c) (h2 : c ≤ 0xdf) (hlo : lo = 128) (hhi : hi = 191) : Rest s k c lo hi w := by
  subst hlo hhi
  unfold Rest
  cases hi1 : innI s (k + 1) 128 191 with
  | true =>
    have hv : ∀ b d, szOf c true true b d = 2 := by intro b d; unfold szOf; rw [if_neg (by omega), if_pos (by simp <;> omega)]
    rw [hv]
    clear hv
    go_enter Try.func23, Try.ntmps23
    go_wp2_with (go_at_call 25; refine (in_any _ _ _ _ _ (by omega)).mono ?_; rintro e w' ⟨rfl, rfl⟩)
    go_ret
    exact ⟨rfl, rfl⟩
  | false =>
    have hv : ∀ b d, szOf c false false b d = 0 := by intro b d; unfold szOf; rw [if_neg (by omega), if_neg (by simp), if_pos (by simp)]
    rw [hv]
    clear hv
    go_enter Try.func23, Try.ntmps23
    go_wp2_with (go_at_call 25; refine (in_any _ _ _ _ _ (by omega)).mono ?_; rintro e w' ⟨rfl, rfl⟩)
    go_ret
    exact ⟨rfl, rfl⟩

set_option maxRecDepth 100000 in
set_option maxHeartbeats 2000000 in
theorem size_e0 (s : ByteArray) (k : Nat) (w : World) (h : k < s.size) (hc : s[k].toNat = 0xe0) (hs : s.size ≤ 9223372036854775800) : Rest s k 0xe0 0xa0 191 w := by
  unfold Rest
  cases hi1 : innI s (k + 1) 0xa0 191 with
  | false =>
    have hv : ∀ a b d, szOf 0xe0 a false b d = 0 := by intro a b d; unfold szOf; rw [if_neg (by omega), if_neg (by simp <;> omega), if_pos (by simp)]
    rw [hv]
    clear hv
    go_enter Try.func23, Try.ntmps23
    go_wp2_with (go_at_call 25; refine (in_any _ _ _ _ _ (by omega)).mono ?_; rintro e w' ⟨rfl, rfl⟩)
    go_ret
    exact ⟨rfl, rfl⟩
  | true =>
  cases hi2 : innI s (k + 2) 128 191 with
  | false =>
    have hv : ∀ a d, szOf 0xe0 a true false d = 0 := by intro a d; unfold szOf; rw [if_neg (by omega), if_neg (by simp <;> omega), if_pos (by simp)]
    rw [hv]
    clear hv
    go_enter Try.func23, Try.ntmps23
    go_wp2_with (go_at_call 25; refine (in_any _ _ _ _ _ (by omega)).mono ?_; rintro e w' ⟨rfl, rfl⟩)
    go_ret
    exact ⟨rfl, rfl⟩
  | true =>
    have hv : ∀ a d, szOf 0xe0 a true true d = 3 := by intro a d; unfold szOf; rw [if_neg (by omega), if_neg (by simp <;> omega), if_neg (by simp), if_pos (by simp <;> omega)]
    rw [hv]
    clear hv
    go_enter Try.func23, Try.ntmps23
    go_wp2_with (go_at_call 25; refine (in_any _ _ _ _ _ (by omega)).mono ?_; rintro e w' ⟨rfl, rfl⟩)
    go_ret
    exact ⟨rfl, rfl⟩

set_option maxRecDepth 100000 in
set_option maxHeartbeats 2000000 in
theorem size_ed (s : ByteArray) (k : Nat) (w : World) (h : k < s.size) (hc : s[k].toNat = 0xed) (hs : s.size ≤ 9223372036854775800) : Rest s k 0xed 128 0x9f w := by
  unfold Rest
  cases hi1 : innI s (k + 1) 128 0x9f with
  | false =>
    have hv : ∀ a b d, szOf 0xed a false b d = 0 := by intro a b d; unfold szOf; rw [if_neg (by omega), if_neg (by simp <;> omega), if_pos (by simp)]
    rw [hv]
    clear hv
    go_enter Try.func23, Try.ntmps23
    go_wp2_with (go_at_call 25; refine (in_any _ _ _ _ _ (by omega)).mono ?_; rintro e w' ⟨rfl, rfl⟩)
    go_ret
    exact ⟨rfl, rfl⟩
  | true =>
  cases hi2 : innI s (k + 2) 128 191 with
  | false =>
    have hv : ∀ a d, szOf 0xed a true false d = 0 := by intro a d; unfold szOf; rw [if_neg (by omega), if_neg (by simp <;> omega), if_pos (by simp)]
    rw [hv]
    clear hv
    go_enter Try.func23, Try.ntmps23
    go_wp2_with (go_at_call 25; refine (in_any _ _ _ _ _ (by omega)).mono ?_; rintro e w' ⟨rfl, rfl⟩)
    go_ret
    exact ⟨rfl, rfl⟩
  | true =>
    have hv : ∀ a d, szOf 0xed a true true d = 3 := by intro a d; unfold szOf; rw [if_neg (by omega), if_neg (by simp <;> omega), if_neg (by simp), if_pos (by simp <;> omega)]
    rw [hv]
    clear hv
    go_enter Try.func23, Try.ntmps23
    go_wp2_with (go_at_call 25; refine (in_any _ _ _ _ _ (by omega)).mono ?_; rintro e w' ⟨rfl, rfl⟩)
    go_ret
    exact ⟨rfl, rfl⟩

set_option maxRecDepth 100000 in
set_option maxHeartbeats 2000000 in
theorem size_f0 (s : ByteArray) (k : Nat) (w : World) (h : k < s.size) (hc : s[k].toNat = 0xf0) (hs : s.size ≤ 9223372036854775800) : Rest s k 0xf0 0x90 191 w := by
  unfold Rest
  cases hi1 : innI s (k + 1) 0x90 191 with
  | false =>
    have hv : ∀ a b d, szOf 0xf0 a false b d = 0 := by intro a b d; unfold szOf; rw [if_neg (by omega), if_neg (by simp <;> omega), if_pos (by simp)]
    rw [hv]
    clear hv
    go_enter Try.func23, Try.ntmps23
    go_wp2_with (go_at_call 25; refine (in_any _ _ _ _ _ (by omega)).mono ?_; rintro e w' ⟨rfl, rfl⟩)
    go_ret
    exact ⟨rfl, rfl⟩
  | true =>
  cases hi2 : innI s (k + 2) 128 191 with
  | false =>
    have hv : ∀ a d, szOf 0xf0 a true false d = 0 := by intro a d; unfold szOf; rw [if_neg (by omega), if_neg (by simp <;> omega), if_pos (by simp)]
    rw [hv]
    clear hv
    go_enter Try.func23, Try.ntmps23
    go_wp2_with (go_at_call 25; refine (in_any _ _ _ _ _ (by omega)).mono ?_; rintro e w' ⟨rfl, rfl⟩)
    go_ret
    exact ⟨rfl, rfl⟩
  | true =>
  cases hi3 : innI s (k + 3) 128 191 with
  | true =>
    have hv : ∀ a, szOf 0xf0 a true true true = 4 := by intro a; unfold szOf; rw [if_neg (by omega), if_neg (by simp <;> omega), if_neg (by simp), if_neg (by simp <;> omega), if_pos (by simp <;> omega)]
    rw [hv]
    clear hv
    go_enter Try.func23, Try.ntmps23
    go_wp2_with (go_at_call 25; refine (in_any _ _ _ _ _ (by omega)).mono ?_; rintro e w' ⟨rfl, rfl⟩)
    go_ret
    exact ⟨rfl, rfl⟩
  | false =>
    have hv : ∀ a, szOf 0xf0 a true true false = 0 := by intro a; unfold szOf; rw [if_neg (by omega), if_neg (by simp <;> omega), if_neg (by simp), if_neg (by simp <;> omega), if_neg (by simp)]
    rw [hv]
    clear hv
    go_enter Try.func23, Try.ntmps23
    go_wp2_with (go_at_call 25; refine (in_any _ _ _ _ _ (by omega)).mono ?_; rintro e w' ⟨rfl, rfl⟩)
    go_ret
    exact ⟨rfl, rfl⟩

set_option maxRecDepth 100000 in
set_option maxHeartbeats 2000000 in
theorem size_f4 (s : ByteArray) (k : Nat) (w : World) (h : k < s.size) (hc : s[k].toNat = 0xf4) (hs : s.size ≤ 9223372036854775800) : Rest s k 0xf4 128 0x8f w := by
  unfold Rest
  cases hi1 : innI s (k + 1) 128 0x8f with
  | false =>
    have hv : ∀ a b d, szOf 0xf4 a false b d = 0 := by intro a b d; unfold szOf; rw [if_neg (by omega), if_neg (by simp <;> omega), if_pos (by simp)]
    rw [hv]
    clear hv
    go_enter Try.func23, Try.ntmps23
    go_wp2_with (go_at_call 25; refine (in_any _ _ _ _ _ (by omega)).mono ?_; rintro e w' ⟨rfl, rfl⟩)
    go_ret
    exact ⟨rfl, rfl⟩
  | true =>
  cases hi2 : innI s (k + 2) 128 191 with
  | false =>
    have hv : ∀ a d, szOf 0xf4 a true false d = 0 := by intro a d; unfold szOf; rw [if_neg (by omega), if_neg (by simp <;> omega), if_pos (by simp)]
    rw [hv]
    clear hv
    go_enter Try.func23, Try.ntmps23
    go_wp2_with (go_at_call 25; refine (in_any _ _ _ _ _ (by omega)).mono ?_; rintro e w' ⟨rfl, rfl⟩)
    go_ret
    exact ⟨rfl, rfl⟩
  | true =>
  cases hi3 : innI s (k + 3) 128 191 with
  | true =>
    have hv : ∀ a, szOf 0xf4 a true true true = 4 := by intro a; unfold szOf; rw [if_neg (by omega), if_neg (by simp <;> omega), if_neg (by simp), if_neg (by simp <;> omega), if_pos (by simp <;> omega)]
    rw [hv]
    clear hv
    go_enter Try.func23, Try.ntmps23
    go_wp2_with (go_at_call 25; refine (in_any _ _ _ _ _ (by omega)).mono ?_; rintro e w' ⟨rfl, rfl⟩)
    go_ret
    exact ⟨rfl, rfl⟩
  | false =>
    have hv : ∀ a, szOf 0xf4 a true true false = 0 := by intro a; unfold szOf; rw [if_neg (by omega), if_neg (by simp <;> omega), if_neg (by simp), if_neg (by simp <;> omega), if_neg (by simp)]
    rw [hv]
    clear hv
    go_enter Try.func23, Try.ntmps23
    go_wp2_with (go_at_call 25; refine (in_any _ _ _ _ _ (by omega)).mono ?_; rintro e w' ⟨rfl, rfl⟩)
    go_ret
    exact ⟨rfl, rfl⟩

set_option maxRecDepth 100000 in
set_option maxHeartbeats 2000000 in
theorem size_3 (s : ByteArray) (k : Nat) (c : Nat) (w : World) (h : k < s.size) (hc : s[k].toNat = c) (hs : s.size ≤ 9223372036854775800) (h1 : 0xe0 < c) (h2 : c ≤ 0xef) (h3 : c < 0xed ∨ 0xed < c) : Rest s k c 128 191 w := by
  unfold Rest
  cases hi1 : innI s (k + 1) 128 191 with
  | false =>
    have hv : ∀ a b d, szOf c a false b d = 0 := by intro a b d; unfold szOf; rw [if_neg (by omega), if_neg (by simp <;> omega), if_pos (by simp)]
    rw [hv]
    clear hv
    go_enter Try.func23, Try.ntmps23
    go_wp2_with (go_at_call 25; refine (in_any _ _ _ _ _ (by omega)).mono ?_; rintro e w' ⟨rfl, rfl⟩)
    go_ret
    exact ⟨rfl, rfl⟩
  | true =>
  cases hi2 : innI s (k + 2) 128 191 with
  | false =>
    have hv : ∀ a d, szOf c a true false d = 0 := by intro a d; unfold szOf; rw [if_neg (by omega), if_neg (by simp <;> omega), if_pos (by simp)]
    rw [hv]
    clear hv
    go_enter Try.func23, Try.ntmps23
    go_wp2_with (go_at_call 25; refine (in_any _ _ _ _ _ (by omega)).mono ?_; rintro e w' ⟨rfl, rfl⟩)
    go_ret
    exact ⟨rfl, rfl⟩
  | true =>
    have hv : ∀ a d, szOf c a true true d = 3 := by intro a d; unfold szOf; rw [if_neg (by omega), if_neg (by simp <;> omega), if_neg (by simp), if_pos (by simp <;> omega)]
    rw [hv]
    clear hv
    go_enter Try.func23, Try.ntmps23
    go_wp2_with (go_at_call 25; refine (in_any _ _ _ _ _ (by omega)).mono ?_; rintro e w' ⟨rfl, rfl⟩)
    go_ret
    exact ⟨rfl, rfl⟩

set_option maxRecDepth 100000 in
set_option maxHeartbeats 2000000 in
theorem size_4 (s : ByteArray) (k : Nat) (c : Nat) (w : World) (h : k < s.size) (hc : s[k].toNat = c) (hs : s.size ≤ 9223372036854775800) (h1 : 0xf0 < c) (h2 : c < 0xf4) : Rest s k c 128 191 w := by
  unfold Rest
  cases hi1 : innI s (k + 1) 128 191 with
  | false =>
    have hv : ∀ a b d, szOf c a false b d = 0 := by intro a b d; unfold szOf; rw [if_neg (by omega), if_neg (by simp <;> omega), if_pos (by simp)]
    rw [hv]
    clear hv
    go_enter Try.func23, Try.ntmps23
    go_wp2_with (go_at_call 25; refine (in_any _ _ _ _ _ (by omega)).mono ?_; rintro e w' ⟨rfl, rfl⟩)
    go_ret
    exact ⟨rfl, rfl⟩
  | true =>
  cases hi2 : innI s (k + 2) 128 191 with
  | false =>
    have hv : ∀ a d, szOf c a true false d = 0 := by intro a d; unfold szOf; rw [if_neg (by omega), if_neg (by simp <;> omega), if_pos (by simp)]
    rw [hv]
    clear hv
    go_enter Try.func23, Try.ntmps23
    go_wp2_with (go_at_call 25; refine (in_any _ _ _ _ _ (by omega)).mono ?_; rintro e w' ⟨rfl, rfl⟩)
    go_ret
    exact ⟨rfl, rfl⟩
  | true =>
  cases hi3 : innI s (k + 3) 128 191 with
  | true =>
    have hv : ∀ a, szOf c a true true true = 4 := by intro a; unfold szOf; rw [if_neg (by omega), if_neg (by simp <;> omega), if_neg (by simp), if_neg (by simp <;> omega), if_pos (by simp <;> omega)]
    rw [hv]
    clear hv
    go_enter Try.func23, Try.ntmps23
    go_wp2_with (go_at_call 25; refine (in_any _ _ _ _ _ (by omega)).mono ?_; rintro e w' ⟨rfl, rfl⟩)
    go_ret
    exact ⟨rfl, rfl⟩
  | false =>
    have hv : ∀ a, szOf c a true true false = 0 := by intro a; unfold szOf; rw [if_neg (by omega), if_neg (by simp <;> omega), if_neg (by simp), if_neg (by simp <;> omega), if_neg (by simp)]
    rw [hv]
    clear hv
    go_enter Try.func23, Try.ntmps23
    go_wp2_with (go_at_call 25; refine (in_any _ _ _ _ _ (by omega)).mono ?_; rintro e w' ⟨rfl, rfl⟩)
    go_ret
    exact ⟨rfl, rfl⟩

set_option maxRecDepth 100000 in
set_option maxHeartbeats 2000000 in
theorem size_0a (s : ByteArray) (k : Nat) (c : Nat) (w : World) (h : k < s.size) (hc : s[k].toNat = c) (hs : s.size ≤ 9223372036854775800) (h1 : 128 ≤ c) (h2 : c < 0xc2) (hb : c < 256) : Rest s k c 128 191 w := by
  unfold Rest
  cases hi1 : innI s (k + 1) 128 191 with
  | false =>
    have hv : ∀ a b d, szOf c a false b d = 0 := by intro a b d; unfold szOf; rw [if_neg (by omega), if_neg (by simp <;> omega), if_pos (by simp)]
    rw [hv]
    clear hv
    go_enter Try.func23, Try.ntmps23
    go_wp2_with (go_at_call 25; refine (in_any _ _ _ _ _ (by omega)).mono ?_; rintro e w' ⟨rfl, rfl⟩)
    go_ret
    exact ⟨rfl, rfl⟩
  | true =>
  cases hi2 : innI s (k + 2) 128 191 with
  | false =>
    have hv : ∀ a d, szOf c a true false d = 0 := by intro a d; unfold szOf; rw [if_neg (by omega), if_neg (by simp <;> omega), if_pos (by simp)]
    rw [hv]
    clear hv
    go_enter Try.func23, Try.ntmps23
    go_wp2_with (go_at_call 25; refine (in_any _ _ _ _ _ (by omega)).mono ?_; rintro e w' ⟨rfl, rfl⟩)
    go_ret
    exact ⟨rfl, rfl⟩
  | true =>
    have hv : ∀ a d, szOf c a true true d = 0 := by intro a d; unfold szOf; rw [if_neg (by omega), if_neg (by simp <;> omega), if_neg (by simp), if_neg (by simp <;> omega), if_neg (by simp <;> omega)]
    rw [hv]
    clear hv
    go_enter Try.func23, Try.ntmps23
    go_wp2_with (go_at_call 25; refine (in_any _ _ _ _ _ (by omega)).mono ?_; rintro e w' ⟨rfl, rfl⟩)
    go_ret
    exact ⟨rfl, rfl⟩

set_option maxRecDepth 100000 in
set_option maxHeartbeats 2000000 in
theorem size_0b (s : ByteArray) (k : Nat) (c : Nat) (w : World) (h : k < s.size) (hc : s[k].toNat = c) (hs : s.size ≤ 9223372036854775800) (h1 : 128 ≤ c) (h2 : 0xf4 < c) (hb : c < 256) : Rest s k c 128 191 w := by
  unfold Rest
  cases hi1 : innI s (k + 1) 128 191 with
  | false =>
    have hv : ∀ a b d, szOf c a false b d = 0 := by intro a b d; unfold szOf; rw [if_neg (by omega), if_neg (by simp <;> omega), if_pos (by simp)]
    rw [hv]
    clear hv
    go_enter Try.func23, Try.ntmps23
    go_wp2_with (go_at_call 25; refine (in_any _ _ _ _ _ (by omega)).mono ?_; rintro e w' ⟨rfl, rfl⟩)
    go_ret
    exact ⟨rfl, rfl⟩
  | true =>
  cases hi2 : innI s (k + 2) 128 191 with
  | false =>
    have hv : ∀ a d, szOf c a true false d = 0 := by intro a d; unfold szOf; rw [if_neg (by omega), if_neg (by simp <;> omega), if_pos (by simp)]
    rw [hv]
    clear hv
    go_enter Try.func23, Try.ntmps23
    go_wp2_with (go_at_call 25; refine (in_any _ _ _ _ _ (by omega)).mono ?_; rintro e w' ⟨rfl, rfl⟩)
    go_ret
    exact ⟨rfl, rfl⟩
  | true =>
    have hv : ∀ a d, szOf c a true true d = 0 := by intro a d; unfold szOf; rw [if_neg (by omega), if_neg (by simp <;> omega), if_neg (by simp), if_neg (by simp <;> omega), if_neg (by simp <;> omega)]
    rw [hv]
    clear hv
    go_enter Try.func23, Try.ntmps23
    go_wp2_with (go_at_call 25; refine (in_any _ _ _ _ _ (by omega)).mono ?_; rintro e w' ⟨rfl, rfl⟩)
    go_ret
    exact ⟨rfl, rfl⟩

theorem size_any (s : ByteArray) (k : Nat) (w : World) (h : k < s.size) (hs : s.size ≤ 9223372036854775800) :
    Calls Try.prog 23 #[.string s, .int .i64 k] w fun e w' => e = .returned (.int .i64 (sz ((L s).drop k))) ∧ w = w' := by
  obtain ⟨c, hc⟩ : ∃ c, s[k].toNat = c := ⟨_, rfl⟩
  have hb := s[k].toNat_lt
  rw [hc] at hb
  have go : ∀ lo hi : Int, lo = low c → hi = high c → Rest s k c lo hi w → Calls Try.prog 23 #[.string s, .int .i64 k] w fun e w' => e = .returned (.int .i64 (sz ((L s).drop k))) ∧ w = w' := by
    intro lo hi hlo hhi hr
    rw [sz_of s k c h hc lo hi hlo hhi]
    exact hr
  by_cases c1 : c < 128
  · exact go _ _ rfl rfl (size_one s k c _ _ w h hc hs c1)
  by_cases c2 : 0xc2 ≤ c ∧ c ≤ 0xdf
  · exact go _ _ rfl rfl (size_two s k c _ _ w h hc hs c2.1 c2.2 (by rw [low_no c (by omega) (by omega)]; rfl) (by rw [high_no c (by omega) (by omega)]; rfl))
  by_cases e0 : c = 0xe0
  · subst e0; exact go 0xa0 191 (by simp [low]) (by simp [high]) (size_e0 s k w h hc hs)
  by_cases e1 : c = 0xed
  · subst e1; exact go 128 0x9f (by simp [low]) (by simp [high]) (size_ed s k w h hc hs)
  by_cases f0 : c = 0xf0
  · subst f0; exact go 0x90 191 (by simp [low]) (by simp [high]) (size_f0 s k w h hc hs)
  by_cases f4 : c = 0xf4
  · subst f4; exact go 128 0x8f (by simp [low]) (by simp [high]) (size_f4 s k w h hc hs)
  have go' := go 128 191 (by rw [low_no c e0 f0]; rfl) (by rw [high_no c e1 f4]; rfl)
  by_cases c3 : 0xe0 < c ∧ c ≤ 0xef
  · exact go' (size_3 s k c w h hc hs c3.1 c3.2 (by omega))
  by_cases c4 : 0xf0 < c ∧ c < 0xf4
  · exact go' (size_4 s k c w h hc hs c4.1 c4.2)
  by_cases c5 : c < 0xc2
  · exact go' (size_0a s k c w h hc hs (by omega) c5 (by omega))
  · exact go' (size_0b s k c w h hc hs (by omega) (by omega) (by omega))

end Go.Proofs.Ytadhgngeonkfcaa.Ch
