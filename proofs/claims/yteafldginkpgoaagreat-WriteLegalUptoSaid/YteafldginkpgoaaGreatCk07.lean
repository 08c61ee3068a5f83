/-
  Walks of stage 1: the document's own answers (boltingref01): in, Size, Right, Sample, Decode, Lines, Ready: each returns what the plain function of CharsSpec says.
  Walks of stage 1: boltingref01.Size: it returns what the plain function 'sz' says of the bytes from the place on.
  Walks of stage 1: boltingref01.Right and boltingref01.Sample: each returns what the plain function of CharsSpec says.
  Walks of stage 5: names.inElement, inAttr, every, Right, Attr, and the document's bad, May.
  boltingref02.Equal, of slices that read as one list.
  boltingref02.Is, of a list that rises.
  Walk of stage 5: boltinglaw05.fixed: the calls whose answers the document fixes: it returns true.
  Walks of stage 5: bolting/boltingref05.Closes: what an element closes, and what ends the search.
  Walks of stage 5: bolting/boltingref05.Walls: what an element closes, and what ends the search.
  Small laws for the statements' own texts: min of a length, a mask of an int, a cut's size. For every stage from 5 on.
  Walks of stage 5's laws NamesKinds, NamesMay, NamesCloses: each returns true.
  Walks of stage 8's reference: at, has, Clean, attrs.
  Walks of stage 6: boltingref06.Same.
  Stage 6: slices that read as tokens; the calls whose answers the document fixes.
  Walks of stage 6's laws TokenEnds: it returns true.
  Walks of stage 6's laws TokenComments, TokenRaw: each returns true.
  Tokens in boxes, attributes of the call's own beside them.
  Walk of stage 6's law TokenBack: it returns true. Ahead of it: what a start tag of names that may be, an end tag, and texts around a tag come back as.
  Stage 8, in plain words: legal trees are such as come back.
  Stage 8, in plain words: the reference's test of a legal tree, node by node, is the one that goes row by row.
  Stage 8, in plain words: the elements around a node, by its parents; what an element has, by its kids.
  Walks of stage 8's reference: around.
  Stage 4, plain: kids, one behind the other; each row is the kid of its parent alone.
  Walks of stage 7: the document's own Found, closed, para, opened, Nested.
-/
import Derived.Test.YteafldginkpgoaaGreatCk06
import Derived.Test.YteafldginkpgoaaGreatCk05
import Derived.Test.YteafldginkpgoaaGreatCk02
import Derived.Test.YteafldginkpgoaaGreatCk01
import Derived.Deep.CutRange
import Derived.Deep.RegionHeld3
import Derived.Deep.CutBlock
import Derived.Deep.DeepCutAuto
import Derived.Test.YteafldginkpgoaaGreatCk03
import Derived.Test.YteafldginkpgoaaGreatCk04
namespace Go.Proofs.YteafldginkpgoaaGreat.Ch
set_option maxRecDepth 100000
set_option linter.unusedSimpArgs false
set_option linter.unusedVariables false
open Go.RowKit
def innI (s : ByteArray) (a lo hi : Int) : Bool := decide (a.toNat < s.size) && (decide (lo ≤ (at' (L s) a.toNat : Int)) && decide ((at' (L s) a.toNat : Int) ≤ hi))

theorem at_eq (s : ByteArray) (k : Nat) (h : k < s.size) : at' (L s) k = s[k].toNat := by
  unfold at'
  rw [List.getD_eq_getElem?_getD, List.getElem?_eq_getElem (by rw [size_L]; exact h)]
  rfl

theorem innI_of (s : ByteArray) (k : Nat) (h : k < s.size) (lo hi : Int) : innI s k lo hi = (decide (lo ≤ (s[k].toNat : Int)) && decide ((s[k].toNat : Int) ≤ hi)) := by
  unfold innI
  rw [Int.toNat_natCast, at_eq s k h]
  simp [h]

set_option maxHeartbeats 400000 in
theorem in_any (s : ByteArray) (a lo hi : Int) (w : World) (h0 : 0 ≤ a) :
    Calls Tryz.prog 93 #[.string s, .int .i64 a, .int .i64 lo, .int .i64 hi] w fun e w' => e = .returned (.bool (innI s a lo hi)) ∧ w = w' := by
  obtain ⟨k, rfl⟩ := Int.eq_ofNat_of_zero_le h0
  by_cases hk : k < s.size
  · have hb := s[k].toNat_lt
    by_cases hl : lo ≤ (s[k].toNat : Int)
    · go_enter Tryz.func93, Tryz.ntmps93
      go_wp2
      go_ret
      refine ⟨ret_bool ?_, rfl⟩
      rw [innI_of s k hk]
      simp [hl]
    · go_enter Tryz.func93, Tryz.ntmps93
      go_wp2
      go_ret
      refine ⟨ret_bool ?_, rfl⟩
      rw [innI_of s k hk]
      have hl' : ¬ lo ≤ (s[k].toNat : Int) := by omega
      simp [hl']
  · go_enter Tryz.func93, Tryz.ntmps93
    go_wp2
    go_ret
    refine ⟨ret_bool ?_, rfl⟩
    simp [innI, hk]

theorem at_drop (s : ByteArray) (k j : Nat) : at' ((L s).drop k) j = at' (L s) (k + j) := by
  unfold at'
  rw [List.getD_eq_getElem?_getD, List.getD_eq_getElem?_getD, List.getElem?_drop]

theorem inn_drop (s : ByteArray) (k j : Nat) (lo hi : Nat) (a : Int) (ha : a = (k : Int) + j) : innI s a lo hi = inn ((L s).drop k) j lo hi := by
  unfold innI inn
  rw [at_drop, show a.toNat = k + j from by omega, List.length_drop, size_L]
  congr 1
  · rw [Bool.eq_iff_iff]; simp only [decide_eq_true_iff]; omega
  · congr 1
    · rw [Bool.eq_iff_iff]; simp only [decide_eq_true_iff]; omega
    · rw [Bool.eq_iff_iff]; simp only [decide_eq_true_iff]; omega

/-- 'sz', of a byte c and four answers. -/
def szOf (c : Nat) (a1 a2 b d : Bool) : Nat :=
  if c < 128 then 1
  else if (decide (0xc2 ≤ c) && decide (c ≤ 0xdf)) && a1 then 2
  else if !a2 || !b then 0
  else if decide (0xe0 ≤ c) && decide (c ≤ 0xef) then 3
  else if (decide (0xf0 ≤ c) && decide (c ≤ 0xf4)) && d then 4
  else 0

theorem sz_of (s : ByteArray) (k c : Nat) (h : k < s.size) (hc : s[k].toNat = c) (lo hi : Int) (hlo : lo = low c) (hhi : hi = high c) : sz ((L s).drop k) = szOf c (innI s (k + 1) 128 191) (innI s (k + 1) lo hi) (innI s (k + 2) 128 191) (innI s (k + 3) 128 191) := by
  have e0 : at' ((L s).drop k) 0 = c := by rw [at_drop, Nat.add_zero, at_eq s k h, hc]
  have i1 := inn_drop s k 1 128 191 (k + 1) rfl
  have i1' := inn_drop s k 1 (low c) (high c) (k + 1) rfl
  have i2 := inn_drop s k 2 128 191 (k + 2) rfl
  have i3 := inn_drop s k 3 128 191 (k + 3) rfl
  subst hlo hhi
  unfold sz szOf
  rw [e0]
  rw [← i1, ← i1', ← i2, ← i3]
  rfl

theorem low_no (c : Nat) (h : c ≠ 0xe0) (h' : c ≠ 0xf0) : low c = 128 := by simp [low, h, h']
theorem high_no (c : Nat) (h : c ≠ 0xed) (h' : c ≠ 0xf4) : high c = 191 := by simp [high, h, h']

end Go.Proofs.YteafldginkpgoaaGreat.Ch

namespace Go.Proofs.YteafldginkpgoaaGreat.Ch
set_option maxRecDepth 100000
set_option linter.unusedSimpArgs false
open Go.RowKit
set_option linter.unusedVariables false

/-- The way behind the first two tests: what is asked first has said no. -/
def Rest (s : ByteArray) (k c : Nat) (lo hi : Int) (w : World) : Prop :=
  Calls Tryz.prog 77 #[.string s, .int .i64 k] w fun e w' => e = .returned (.int .i64 (szOf c (innI s (k + 1) 128 191) (innI s (k + 1) lo hi) (innI s (k + 2) 128 191) (innI s (k + 3) 128 191))) ∧ w = w'

set_option maxRecDepth 100000 in
set_option maxHeartbeats 1000000 in
theorem size_one (s : ByteArray) (k c : Nat) (lo hi : Int) (w : World) (h : k < s.size) (hc : s[k].toNat = c) (hs : s.size ≤ 9223372036854775800) (hlt : c < 128) : Rest s k c lo hi w := by
  unfold Rest
  have hv : szOf c (innI s (k + 1) 128 191) (innI s (k + 1) lo hi) (innI s (k + 2) 128 191) (innI s (k + 3) 128 191) = 1 := by unfold szOf; rw [if_pos hlt]
  rw [hv]
  clear hv
  go_enter Tryz.func77, Tryz.ntmps77
  go_wp2
  go_ret
  exact ⟨rfl, rfl⟩

set_option maxRecDepth 100000 in
set_option maxHeartbeats 1000000 in
theorem size_two (s : ByteArray) (k c : Nat) (lo hi : Int) (w : World) (h : k < s.size) (hc : s[k].toNat = c) (hs : s.size ≤ 9223372036854775800) (h1 : 0xc2 ≤ c) (h2 : c ≤ 0xdf) (hlo : lo = 128) (hhi : hi = 191) : Rest s k c lo hi w := by
  subst hlo hhi
  unfold Rest
  cases hi1 : innI s (k + 1) 128 191 with
  | true =>
    have hv : ∀ b d, szOf c true true b d = 2 := by intro b d; unfold szOf; rw [if_neg (by omega), if_pos (by simp <;> omega)]
    rw [hv]
    clear hv
    go_enter Tryz.func77, Tryz.ntmps77
    go_wp2_with (go_at_call 93; refine (in_any _ _ _ _ _ (by omega)).mono ?_; rintro e w' ⟨rfl, rfl⟩)
    go_ret
    exact ⟨rfl, rfl⟩
  | false =>
    have hv : ∀ b d, szOf c false false b d = 0 := by intro b d; unfold szOf; rw [if_neg (by omega), if_neg (by simp), if_pos (by simp)]
    rw [hv]
    clear hv
    go_enter Tryz.func77, Tryz.ntmps77
    go_wp2_with (go_at_call 93; refine (in_any _ _ _ _ _ (by omega)).mono ?_; rintro e w' ⟨rfl, rfl⟩)
    go_ret
    exact ⟨rfl, rfl⟩

set_option maxRecDepth 100000 in
set_option maxHeartbeats 2000000 in
theorem size_e0 (s : ByteArray) (k : Nat) (w : World) (h : k < s.size) (hc : s[k].toNat = 0xe0) (hs : s.size ≤ 9223372036854775800) : Rest s k 0xe0 0xa0 191 w := by
  unfold Rest
  cases hi1 : innI s (k + 1) 0xa0 191 with
  | false =>
    have hv : ∀ a b d, szOf 0xe0 a false b d = 0 := by intro a b d; unfold szOf; rw [if_neg (by omega), if_neg (by simp <;> omega), if_pos (by simp)]
    rw [hv]
    clear hv
    go_enter Tryz.func77, Tryz.ntmps77
    go_wp2_with (go_at_call 93; refine (in_any _ _ _ _ _ (by omega)).mono ?_; rintro e w' ⟨rfl, rfl⟩)
    go_ret
    exact ⟨rfl, rfl⟩
  | true =>
  cases hi2 : innI s (k + 2) 128 191 with
  | false =>
    have hv : ∀ a d, szOf 0xe0 a true false d = 0 := by intro a d; unfold szOf; rw [if_neg (by omega), if_neg (by simp <;> omega), if_pos (by simp)]
    rw [hv]
    clear hv
    go_enter Tryz.func77, Tryz.ntmps77
    go_wp2_with (go_at_call 93; refine (in_any _ _ _ _ _ (by omega)).mono ?_; rintro e w' ⟨rfl, rfl⟩)
    go_ret
    exact ⟨rfl, rfl⟩
  | true =>
    have hv : ∀ a d, szOf 0xe0 a true true d = 3 := by intro a d; unfold szOf; rw [if_neg (by omega), if_neg (by simp <;> omega), if_neg (by simp), if_pos (by simp <;> omega)]
    rw [hv]
    clear hv
    go_enter Tryz.func77, Tryz.ntmps77
    go_wp2_with (go_at_call 93; refine (in_any _ _ _ _ _ (by omega)).mono ?_; rintro e w' ⟨rfl, rfl⟩)
    go_ret
    exact ⟨rfl, rfl⟩

set_option maxRecDepth 100000 in
set_option maxHeartbeats 2000000 in
theorem size_ed (s : ByteArray) (k : Nat) (w : World) (h : k < s.size) (hc : s[k].toNat = 0xed) (hs : s.size ≤ 9223372036854775800) : Rest s k 0xed 128 0x9f w := by
  unfold Rest
  cases hi1 : innI s (k + 1) 128 0x9f with
  | false =>
    have hv : ∀ a b d, szOf 0xed a false b d = 0 := by intro a b d; unfold szOf; rw [if_neg (by omega), if_neg (by simp <;> omega), if_pos (by simp)]
    rw [hv]
    clear hv
    go_enter Tryz.func77, Tryz.ntmps77
    go_wp2_with (go_at_call 93; refine (in_any _ _ _ _ _ (by omega)).mono ?_; rintro e w' ⟨rfl, rfl⟩)
    go_ret
    exact ⟨rfl, rfl⟩
  | true =>
  cases hi2 : innI s (k + 2) 128 191 with
  | false =>
    have hv : ∀ a d, szOf 0xed a true false d = 0 := by intro a d; unfold szOf; rw [if_neg (by omega), if_neg (by simp <;> omega), if_pos (by simp)]
    rw [hv]
    clear hv
    go_enter Tryz.func77, Tryz.ntmps77
    go_wp2_with (go_at_call 93; refine (in_any _ _ _ _ _ (by omega)).mono ?_; rintro e w' ⟨rfl, rfl⟩)
    go_ret
    exact ⟨rfl, rfl⟩
  | true =>
    have hv : ∀ a d, szOf 0xed a true true d = 3 := by intro a d; unfold szOf; rw [if_neg (by omega), if_neg (by simp <;> omega), if_neg (by simp), if_pos (by simp <;> omega)]
    rw [hv]
    clear hv
    go_enter Tryz.func77, Tryz.ntmps77
    go_wp2_with (go_at_call 93; refine (in_any _ _ _ _ _ (by omega)).mono ?_; rintro e w' ⟨rfl, rfl⟩)
    go_ret
    exact ⟨rfl, rfl⟩

set_option maxRecDepth 100000 in
set_option maxHeartbeats 2000000 in
theorem size_f0 (s : ByteArray) (k : Nat) (w : World) (h : k < s.size) (hc : s[k].toNat = 0xf0) (hs : s.size ≤ 9223372036854775800) : Rest s k 0xf0 0x90 191 w := by
  unfold Rest
  cases hi1 : innI s (k + 1) 0x90 191 with
  | false =>
    have hv : ∀ a b d, szOf 0xf0 a false b d = 0 := by intro a b d; unfold szOf; rw [if_neg (by omega), if_neg (by simp <;> omega), if_pos (by simp)]
    rw [hv]
    clear hv
    go_enter Tryz.func77, Tryz.ntmps77
    go_wp2_with (go_at_call 93; refine (in_any _ _ _ _ _ (by omega)).mono ?_; rintro e w' ⟨rfl, rfl⟩)
    go_ret
    exact ⟨rfl, rfl⟩
  | true =>
  cases hi2 : innI s (k + 2) 128 191 with
  | false =>
    have hv : ∀ a d, szOf 0xf0 a true false d = 0 := by intro a d; unfold szOf; rw [if_neg (by omega), if_neg (by simp <;> omega), if_pos (by simp)]
    rw [hv]
    clear hv
    go_enter Tryz.func77, Tryz.ntmps77
    go_wp2_with (go_at_call 93; refine (in_any _ _ _ _ _ (by omega)).mono ?_; rintro e w' ⟨rfl, rfl⟩)
    go_ret
    exact ⟨rfl, rfl⟩
  | true =>
  cases hi3 : innI s (k + 3) 128 191 with
  | true =>
    have hv : ∀ a, szOf 0xf0 a true true true = 4 := by intro a; unfold szOf; rw [if_neg (by omega), if_neg (by simp <;> omega), if_neg (by simp), if_neg (by simp <;> omega), if_pos (by simp <;> omega)]
    rw [hv]
    clear hv
    go_enter Tryz.func77, Tryz.ntmps77
    go_wp2_with (go_at_call 93; refine (in_any _ _ _ _ _ (by omega)).mono ?_; rintro e w' ⟨rfl, rfl⟩)
    go_ret
    exact ⟨rfl, rfl⟩
  | false =>
    have hv : ∀ a, szOf 0xf0 a true true false = 0 := by intro a; unfold szOf; rw [if_neg (by omega), if_neg (by simp <;> omega), if_neg (by simp), if_neg (by simp <;> omega), if_neg (by simp)]
    rw [hv]
    clear hv
    go_enter Tryz.func77, Tryz.ntmps77
    go_wp2_with (go_at_call 93; refine (in_any _ _ _ _ _ (by omega)).mono ?_; rintro e w' ⟨rfl, rfl⟩)
    go_ret
    exact ⟨rfl, rfl⟩

set_option maxRecDepth 100000 in
set_option maxHeartbeats 2000000 in
theorem size_f4 (s : ByteArray) (k : Nat) (w : World) (h : k < s.size) (hc : s[k].toNat = 0xf4) (hs : s.size ≤ 9223372036854775800) : Rest s k 0xf4 128 0x8f w := by
  unfold Rest
  cases hi1 : innI s (k + 1) 128 0x8f with
  | false =>
    have hv : ∀ a b d, szOf 0xf4 a false b d = 0 := by intro a b d; unfold szOf; rw [if_neg (by omega), if_neg (by simp <;> omega), if_pos (by simp)]
    rw [hv]
    clear hv
    go_enter Tryz.func77, Tryz.ntmps77
    go_wp2_with (go_at_call 93; refine (in_any _ _ _ _ _ (by omega)).mono ?_; rintro e w' ⟨rfl, rfl⟩)
    go_ret
    exact ⟨rfl, rfl⟩
  | true =>
  cases hi2 : innI s (k + 2) 128 191 with
  | false =>
    have hv : ∀ a d, szOf 0xf4 a true false d = 0 := by intro a d; unfold szOf; rw [if_neg (by omega), if_neg (by simp <;> omega), if_pos (by simp)]
    rw [hv]
    clear hv
    go_enter Tryz.func77, Tryz.ntmps77
    go_wp2_with (go_at_call 93; refine (in_any _ _ _ _ _ (by omega)).mono ?_; rintro e w' ⟨rfl, rfl⟩)
    go_ret
    exact ⟨rfl, rfl⟩
  | true =>
  cases hi3 : innI s (k + 3) 128 191 with
  | true =>
    have hv : ∀ a, szOf 0xf4 a true true true = 4 := by intro a; unfold szOf; rw [if_neg (by omega), if_neg (by simp <;> omega), if_neg (by simp), if_neg (by simp <;> omega), if_pos (by simp <;> omega)]
    rw [hv]
    clear hv
    go_enter Tryz.func77, Tryz.ntmps77
    go_wp2_with (go_at_call 93; refine (in_any _ _ _ _ _ (by omega)).mono ?_; rintro e w' ⟨rfl, rfl⟩)
    go_ret
    exact ⟨rfl, rfl⟩
  | false =>
    have hv : ∀ a, szOf 0xf4 a true true false = 0 := by intro a; unfold szOf; rw [if_neg (by omega), if_neg (by simp <;> omega), if_neg (by simp), if_neg (by simp <;> omega), if_neg (by simp)]
    rw [hv]
    clear hv
    go_enter Tryz.func77, Tryz.ntmps77
    go_wp2_with (go_at_call 93; refine (in_any _ _ _ _ _ (by omega)).mono ?_; rintro e w' ⟨rfl, rfl⟩)
    go_ret
    exact ⟨rfl, rfl⟩

set_option maxRecDepth 100000 in
set_option maxHeartbeats 2000000 in
theorem size_3 (s : ByteArray) (k : Nat) (c : Nat) (w : World) (h : k < s.size) (hc : s[k].toNat = c) (hs : s.size ≤ 9223372036854775800) (h1 : 0xe0 < c) (h2 : c ≤ 0xef) (h3 : c < 0xed ∨ 0xed < c) : Rest s k c 128 191 w := by
  unfold Rest
  cases hi1 : innI s (k + 1) 128 191 with
  | false =>
    have hv : ∀ a b d, szOf c a false b d = 0 := by intro a b d; unfold szOf; rw [if_neg (by omega), if_neg (by simp <;> omega), if_pos (by simp)]
    rw [hv]
    clear hv
    go_enter Tryz.func77, Tryz.ntmps77
    go_wp2_with (go_at_call 93; refine (in_any _ _ _ _ _ (by omega)).mono ?_; rintro e w' ⟨rfl, rfl⟩)
    go_ret
    exact ⟨rfl, rfl⟩
  | true =>
  cases hi2 : innI s (k + 2) 128 191 with
  | false =>
    have hv : ∀ a d, szOf c a true false d = 0 := by intro a d; unfold szOf; rw [if_neg (by omega), if_neg (by simp <;> omega), if_pos (by simp)]
    rw [hv]
    clear hv
    go_enter Tryz.func77, Tryz.ntmps77
    go_wp2_with (go_at_call 93; refine (in_any _ _ _ _ _ (by omega)).mono ?_; rintro e w' ⟨rfl, rfl⟩)
    go_ret
    exact ⟨rfl, rfl⟩
  | true =>
    have hv : ∀ a d, szOf c a true true d = 3 := by intro a d; unfold szOf; rw [if_neg (by omega), if_neg (by simp <;> omega), if_neg (by simp), if_pos (by simp <;> omega)]
    rw [hv]
    clear hv
    go_enter Tryz.func77, Tryz.ntmps77
    go_wp2_with (go_at_call 93; refine (in_any _ _ _ _ _ (by omega)).mono ?_; rintro e w' ⟨rfl, rfl⟩)
    go_ret
    exact ⟨rfl, rfl⟩

set_option maxRecDepth 100000 in
set_option maxHeartbeats 2000000 in
theorem size_4 (s : ByteArray) (k : Nat) (c : Nat) (w : World) (h : k < s.size) (hc : s[k].toNat = c) (hs : s.size ≤ 9223372036854775800) (h1 : 0xf0 < c) (h2 : c < 0xf4) : Rest s k c 128 191 w := by
  unfold Rest
  cases hi1 : innI s (k + 1) 128 191 with
  | false =>
    have hv : ∀ a b d, szOf c a false b d = 0 := by intro a b d; unfold szOf; rw [if_neg (by omega), if_neg (by simp <;> omega), if_pos (by simp)]
    rw [hv]
    clear hv
    go_enter Tryz.func77, Tryz.ntmps77
    go_wp2_with (go_at_call 93; refine (in_any _ _ _ _ _ (by omega)).mono ?_; rintro e w' ⟨rfl, rfl⟩)
    go_ret
    exact ⟨rfl, rfl⟩
  | true =>
  cases hi2 : innI s (k + 2) 128 191 with
  | false =>
    have hv : ∀ a d, szOf c a true false d = 0 := by intro a d; unfold szOf; rw [if_neg (by omega), if_neg (by simp <;> omega), if_pos (by simp)]
    rw [hv]
    clear hv
    go_enter Tryz.func77, Tryz.ntmps77
    go_wp2_with (go_at_call 93; refine (in_any _ _ _ _ _ (by omega)).mono ?_; rintro e w' ⟨rfl, rfl⟩)
    go_ret
    exact ⟨rfl, rfl⟩
  | true =>
  cases hi3 : innI s (k + 3) 128 191 with
  | true =>
    have hv : ∀ a, szOf c a true true true = 4 := by intro a; unfold szOf; rw [if_neg (by omega), if_neg (by simp <;> omega), if_neg (by simp), if_neg (by simp <;> omega), if_pos (by simp <;> omega)]
    rw [hv]
    clear hv
    go_enter Tryz.func77, Tryz.ntmps77
    go_wp2_with (go_at_call 93; refine (in_any _ _ _ _ _ (by omega)).mono ?_; rintro e w' ⟨rfl, rfl⟩)
    go_ret
    exact ⟨rfl, rfl⟩
  | false =>
    have hv : ∀ a, szOf c a true true false = 0 := by intro a; unfold szOf; rw [if_neg (by omega), if_neg (by simp <;> omega), if_neg (by simp), if_neg (by simp <;> omega), if_neg (by simp)]
    rw [hv]
    clear hv
    go_enter Tryz.func77, Tryz.ntmps77
    go_wp2_with (go_at_call 93; refine (in_any _ _ _ _ _ (by omega)).mono ?_; rintro e w' ⟨rfl, rfl⟩)
    go_ret
    exact ⟨rfl, rfl⟩

set_option maxRecDepth 100000 in
set_option maxHeartbeats 2000000 in
theorem size_0a (s : ByteArray) (k : Nat) (c : Nat) (w : World) (h : k < s.size) (hc : s[k].toNat = c) (hs : s.size ≤ 9223372036854775800) (h1 : 128 ≤ c) (h2 : c < 0xc2) (hb : c < 256) : Rest s k c 128 191 w := by
  unfold Rest
  cases hi1 : innI s (k + 1) 128 191 with
  | false =>
    have hv : ∀ a b d, szOf c a false b d = 0 := by intro a b d; unfold szOf; rw [if_neg (by omega), if_neg (by simp <;> omega), if_pos (by simp)]
    rw [hv]
    clear hv
    go_enter Tryz.func77, Tryz.ntmps77
    go_wp2_with (go_at_call 93; refine (in_any _ _ _ _ _ (by omega)).mono ?_; rintro e w' ⟨rfl, rfl⟩)
    go_ret
    exact ⟨rfl, rfl⟩
  | true =>
  cases hi2 : innI s (k + 2) 128 191 with
  | false =>
    have hv : ∀ a d, szOf c a true false d = 0 := by intro a d; unfold szOf; rw [if_neg (by omega), if_neg (by simp <;> omega), if_pos (by simp)]
    rw [hv]
    clear hv
    go_enter Tryz.func77, Tryz.ntmps77
    go_wp2_with (go_at_call 93; refine (in_any _ _ _ _ _ (by omega)).mono ?_; rintro e w' ⟨rfl, rfl⟩)
    go_ret
    exact ⟨rfl, rfl⟩
  | true =>
    have hv : ∀ a d, szOf c a true true d = 0 := by intro a d; unfold szOf; rw [if_neg (by omega), if_neg (by simp <;> omega), if_neg (by simp), if_neg (by simp <;> omega), if_neg (by simp <;> omega)]
    rw [hv]
    clear hv
    go_enter Tryz.func77, Tryz.ntmps77
    go_wp2_with (go_at_call 93; refine (in_any _ _ _ _ _ (by omega)).mono ?_; rintro e w' ⟨rfl, rfl⟩)
    go_ret
    exact ⟨rfl, rfl⟩

set_option maxRecDepth 100000 in
set_option maxHeartbeats 2000000 in
theorem size_0b (s : ByteArray) (k : Nat) (c : Nat) (w : World) (h : k < s.size) (hc : s[k].toNat = c) (hs : s.size ≤ 9223372036854775800) (h1 : 128 ≤ c) (h2 : 0xf4 < c) (hb : c < 256) : Rest s k c 128 191 w := by
  unfold Rest
  cases hi1 : innI s (k + 1) 128 191 with
  | false =>
    have hv : ∀ a b d, szOf c a false b d = 0 := by intro a b d; unfold szOf; rw [if_neg (by omega), if_neg (by simp <;> omega), if_pos (by simp)]
    rw [hv]
    clear hv
    go_enter Tryz.func77, Tryz.ntmps77
    go_wp2_with (go_at_call 93; refine (in_any _ _ _ _ _ (by omega)).mono ?_; rintro e w' ⟨rfl, rfl⟩)
    go_ret
    exact ⟨rfl, rfl⟩
  | true =>
  cases hi2 : innI s (k + 2) 128 191 with
  | false =>
    have hv : ∀ a d, szOf c a true false d = 0 := by intro a d; unfold szOf; rw [if_neg (by omega), if_neg (by simp <;> omega), if_pos (by simp)]
    rw [hv]
    clear hv
    go_enter Tryz.func77, Tryz.ntmps77
    go_wp2_with (go_at_call 93; refine (in_any _ _ _ _ _ (by omega)).mono ?_; rintro e w' ⟨rfl, rfl⟩)
    go_ret
    exact ⟨rfl, rfl⟩
  | true =>
    have hv : ∀ a d, szOf c a true true d = 0 := by intro a d; unfold szOf; rw [if_neg (by omega), if_neg (by simp <;> omega), if_neg (by simp), if_neg (by simp <;> omega), if_neg (by simp <;> omega)]
    rw [hv]
    clear hv
    go_enter Tryz.func77, Tryz.ntmps77
    go_wp2_with (go_at_call 93; refine (in_any _ _ _ _ _ (by omega)).mono ?_; rintro e w' ⟨rfl, rfl⟩)
    go_ret
    exact ⟨rfl, rfl⟩

theorem size_any (s : ByteArray) (k : Nat) (w : World) (h : k < s.size) (hs : s.size ≤ 9223372036854775800) :
    Calls Tryz.prog 77 #[.string s, .int .i64 k] w fun e w' => e = .returned (.int .i64 (sz ((L s).drop k))) ∧ w = w' := by
  obtain ⟨c, hc⟩ : ∃ c, s[k].toNat = c := ⟨_, rfl⟩
  have hb := s[k].toNat_lt
  rw [hc] at hb
  have go : ∀ lo hi : Int, lo = low c → hi = high c → Rest s k c lo hi w → Calls Tryz.prog 77 #[.string s, .int .i64 k] w fun e w' => e = .returned (.int .i64 (sz ((L s).drop k))) ∧ w = w' := by
    intro lo hi hlo hhi hr
    rw [sz_of s k c h hc lo hi hlo hhi]
    exact hr
  by_cases c1 : c < 128
  · exact go _ _ rfl rfl (size_one s k c _ _ w h hc hs c1)
  by_cases c2 : 0xc2 ≤ c ∧ c ≤ 0xdf
  · exact go _ _ rfl rfl (size_two s k c _ _ w h hc hs c2.1 c2.2 (by rw [low_no c (by omega) (by omega)]; rfl) (by rw [high_no c (by omega) (by omega)]; rfl))
  by_cases e0 : c = 0xe0
  · subst e0; exact go 0xa0 191 (by simp [low]) (by simp [high]) (size_e0 s k w h hc hs)
  by_cases e1 : c = 0xed
  · subst e1; exact go 128 0x9f (by simp [low]) (by simp [high]) (size_ed s k w h hc hs)
  by_cases f0 : c = 0xf0
  · subst f0; exact go 0x90 191 (by simp [low]) (by simp [high]) (size_f0 s k w h hc hs)
  by_cases f4 : c = 0xf4
  · subst f4; exact go 128 0x8f (by simp [low]) (by simp [high]) (size_f4 s k w h hc hs)
  have go' := go 128 191 (by rw [low_no c e0 f0]; rfl) (by rw [high_no c e1 f4]; rfl)
  by_cases c3 : 0xe0 < c ∧ c ≤ 0xef
  · exact go' (size_3 s k c w h hc hs c3.1 c3.2 (by omega))
  by_cases c4 : 0xf0 < c ∧ c < 0xf4
  · exact go' (size_4 s k c w h hc hs c4.1 c4.2)
  by_cases c5 : c < 0xc2
  · exact go' (size_0a s k c w h hc hs (by omega) c5 (by omega))
  · exact go' (size_0b s k c w h hc hs (by omega) (by omega) (by omega))

end Go.Proofs.YteafldginkpgoaaGreat.Ch

namespace Go.Proofs.YteafldginkpgoaaGreat.Ch
set_option maxRecDepth 100000
set_option linter.unusedSimpArgs false
set_option linter.unusedVariables false
open Go.RowKit
set_option maxHeartbeats 400000 in
theorem refRight_any (s : ByteArray) (w : World) (hs : s.size ≤ 9223372036854775800) :
    Calls Tryz.prog 53 #[.string s] w fun e w' => e = .returned (.bool (rL (L s))) ∧ w = w' := by
  go_enter Tryz.func53, Tryz.ntmps53
  go_wp2
  go_loopw [3, 4] (fun i _ wr => ∃ k : Nat, i = .int .i64 k ∧ k ≤ s.size ∧ rL ((L s).drop k) = rL (L s) ∧ w = wr) (fun i _ _ => s.size - (intOf i).toNat)
  case atStart => exact ⟨0, rfl, Nat.zero_le _, by simp, rfl⟩
  case round =>
    obtain ⟨k, rfl, hks, hc, rfl⟩ := hrel
    by_cases hp : k < s.size
    · have hne := drop_ne s k hp
      have hr := rL_sz _ hne
      have hle := sz_le _ hne
      rw [List.length_drop, size_L] at hle
      rw [hr, List.drop_drop] at hc
      clear hne hr
      by_cases hz : sz ((L s).drop k) = 0
      · have hzb : ((sz ((L s).drop k) : Int) == 0) = true := by rw [hz]; rfl
        rw [if_pos hz] at hc
        have HC := Lib.hid hc; clear hc hz
        go_wp2_with (go_at_call 77; refine (size_any s k _ hp hs).mono ?_; rintro e w' ⟨rfl, rfl⟩)
        go_ret
        exact ⟨ret_bool HC.out, rfl⟩
      · have hzb : ((sz ((L s).drop k) : Int) == 0) = false := by simpa using hz
        rw [if_neg hz] at hc
        have hzp : 1 ≤ sz ((L s).drop k) := by omega
        have HC := Lib.hid hc; clear hc hz
        go_wp2_with (go_at_call 77; refine (size_any s k _ hp hs).mono ?_; rintro e w' ⟨rfl, rfl⟩)
        go_roundw
        case rel => exact ⟨k + sz ((L s).drop k), by go_num, by omega, HC.out, by trivial⟩
        case measure => simp [intOf]; omega
    · rw [drop_nil s k hp, rL_nil] at hc
      have HC := Lib.hid hc; clear hc
      go_wp2
      go_ret
      exact ⟨ret_bool HC.out, rfl⟩

end Go.Proofs.YteafldginkpgoaaGreat.Ch

namespace Go.Proofs.YteafldginkpgoaaGreat.Na
set_option maxRecDepth 100000
set_option linter.unusedSimpArgs false
set_option linter.unusedVariables false
open Go.RowKit Ba Fm Fo Nm
theorem bad_eq (c : UInt8) (at_ : Bool) : (if at_ = true then atB c else elB c) = !(sp c || (decide ((65 : Int) ≤ c.toNat) && decide ((c.toNat : Int) ≤ 90)) || c == 0 || c == 47 || c == 62 || (at_ && (c == 34 || c == 39 || c == 60 || c == 61))) := by
  unfold atB elB
  rw [← u8_range]
  cases at_ <;> cases sp c <;> cases (decide ((65 : UInt8) ≤ c) && decide (c ≤ 90)) <;> cases (c == 0) <;> cases (c == 47) <;> cases (c == 62) <;> cases (c == 34) <;> cases (c == 39) <;> cases (c == 60) <;> cases (c == 61) <;> rfl

/-- One byte that no name has. -/
def badB (c : UInt8) (a : Bool) : Bool := !(if a = true then atB c else elB c)

set_option maxHeartbeats 4000000 in
theorem bad_any (c : UInt8) (a : Bool) (w : World) :
    Calls Tryz.prog 54 #[.int .u8 c.toNat, .bool a] w fun e w' => e = .returned (.bool (badB c a)) ∧ w = w' := by
  have e0 : ((c.toNat : Int) == 0) = (c == 0) := u8_eq (b := 0)
  have e47 : ((c.toNat : Int) == 47) = (c == 47) := u8_eq (b := 47)
  have e62 : ((c.toNat : Int) == 62) = (c == 62) := u8_eq (b := 62)
  have e34 : ((c.toNat : Int) == 34) = (c == 34) := u8_eq (b := 34)
  have e39 : ((c.toNat : Int) == 39) = (c == 39) := u8_eq (b := 39)
  have e60 : ((c.toNat : Int) == 60) = (c == 60) := u8_eq (b := 60)
  have e61 : ((c.toNat : Int) == 61) = (c == 61) := u8_eq (b := 61)
  have he : badB c a = (sp c || (decide ((65 : Int) ≤ c.toNat) && decide ((c.toNat : Int) ≤ 90)) || c == 0 || c == 47 || c == 62 || (a && (c == 34 || c == 39 || c == 60 || c == 61))) := by unfold badB; rw [bad_eq, Bool.not_not]
  obtain ⟨q, hq⟩ : ∃ q, badB c a = q := ⟨_, rfl⟩
  rw [hq] at he ⊢
  clear hq
  obtain ⟨b0, h0⟩ : ∃ b, (c == 0) = b := ⟨_, rfl⟩
  obtain ⟨b47, h47⟩ : ∃ b, (c == 47) = b := ⟨_, rfl⟩
  obtain ⟨b62, h62⟩ : ∃ b, (c == 62) = b := ⟨_, rfl⟩
  obtain ⟨b34, h34⟩ : ∃ b, (c == 34) = b := ⟨_, rfl⟩
  obtain ⟨b39, h39⟩ : ∃ b, (c == 39) = b := ⟨_, rfl⟩
  obtain ⟨b60, h60⟩ : ∃ b, (c == 60) = b := ⟨_, rfl⟩
  obtain ⟨b61, h61⟩ : ∃ b, (c == 61) = b := ⟨_, rfl⟩
  rw [h0] at e0
  rw [h47] at e47
  rw [h62] at e62
  rw [h34] at e34
  rw [h39] at e39
  rw [h60] at e60
  rw [h61] at e61
  rw [h0, h47, h62, h34, h39, h60, h61] at he
  clear h0 h47 h62 h34 h39 h60 h61
  obtain ⟨g, hg⟩ : ∃ g, sp c = g := ⟨_, rfl⟩
  obtain ⟨r1, hr1⟩ : ∃ r, decide ((65 : Int) ≤ c.toNat) = r := ⟨_, rfl⟩
  obtain ⟨r2, hr2⟩ : ∃ r, decide ((c.toNat : Int) ≤ 90) = r := ⟨_, rfl⟩
  rw [hg, hr1, hr2] at he
  have HG := Lib.hid hg; have HE := Lib.hid he
  clear hg he
  cases g with
  | true =>
    go_enter Tryz.func54, Tryz.ntmps54
    go_wp2_with (go_at_call 78; refine (refSpace_any c _).mono ?_; rw [HG.out]; rintro e w' ⟨rfl, rfl⟩)
    go_ret
    exact ⟨ret_bool (by rw [HE.out]; simp), rfl⟩
  | false =>
    go_enter Tryz.func54, Tryz.ntmps54
    go_wp2_with (go_at_call 78; refine (refSpace_any c _).mono ?_; rw [HG.out]; rintro e w' ⟨rfl, rfl⟩)
    all_goals
      go_ret
      exact ⟨ret_bool (by rw [HE.out]; simp [*]), rfl⟩

/-- No byte is bad. -/
def noBad (s : ByteArray) (a : Bool) : Bool := (L s).all fun c => !badB c a
def mayB (s : ByteArray) (a : Bool) : Bool := if a = true then attrB s else rightB s
theorem noBad_eq (s : ByteArray) (a : Bool) : noBad s a = if a = true then atBAll s else elBAll s := by
  unfold noBad badB atBAll elBAll
  cases a <;> simp
theorem may_nil {s : ByteArray} (a : Bool) (h : s.size = 0) : mayB s a = false := by
  unfold mayB
  rw [attrB_nil h, rightB_nil h]
  cases a <;> rfl
theorem may_cons {s : ByteArray} (a : Bool) (h : 0 < s.size) : mayB s a = (noBad s a && (a || (decide ((97 : Int) ≤ s[0].toNat) && decide ((s[0].toNat : Int) ≤ 122)))) := by
  rw [noBad_eq, ← u8_small]
  unfold mayB
  rw [attrB_cons (by omega), rightB_cons h]
  cases a
  · simp [Bool.and_comm]
  · simp

set_option maxHeartbeats 2000000 in
theorem may_any (s : ByteArray) (a : Bool) (w : World) (hs : s.size ≤ 140737488355328) :
    Calls Tryz.prog 22 #[.string s, .bool a] w fun e w' => e = .returned (.bool (mayB s a)) ∧ w = w' := by
  go_enter Tryz.func22, Tryz.ntmps22
  go_wp2
  go_loop [5] (fun i => ∃ k : Nat, i = .int .i64 k ∧ k ≤ s.size ∧ ((L s).take k).all (fun c => !badB c a) = true) (fun i => s.size - (intOf i).toNat)
  case atStart => exact ⟨0, rfl, Nat.zero_le _, by simp⟩
  case round =>
    obtain ⟨k, rfl, hks, hn⟩ := hrel
    by_cases hp : k < s.size
    · have hsn := all_snoc (fun c => !badB c a) s k hp
      rw [hn] at hsn
      cases hb : badB s[k] a with
      | false =>
        rw [hb] at hsn
        have HB := Lib.hid hb; have HS := Lib.hid hsn; clear hb hsn hn
        go_wp2_with (go_at_call 54; refine (bad_any s[k] a _).mono ?_; rw [HB.out]; rintro e w' ⟨rfl, rfl⟩)
        go_round
        case rel => exact ⟨k + 1, by go_num, by omega, HS.out⟩
        case measure => simp [intOf]; omega
      | true =>
        have hno : noBad s a = false := all_no (fun c => !badB c a) s k hp (by rw [hb]; rfl)
        have hm : mayB s a = false := by rw [may_cons a (by omega), hno]; rfl
        have HB := Lib.hid hb; have HN := Lib.hid hm; clear hb hsn hn hno hm
        go_wp2_with (go_at_call 54; refine (bad_any s[k] a _).mono ?_; rw [HB.out]; rintro e w' ⟨rfl, rfl⟩)
        go_ret
        exact ⟨ret_bool HN.out.symm, rfl⟩
    · rw [List.take_of_length_le (by rw [size_L]; omega)] at hn
      by_cases h0 : s.size = 0
      · have hm := may_nil a h0
        have HN := Lib.hid hm; clear hn hm
        have hd : decide ((0 : Int) < (s.size : Int)) = false := decide_eq_false (by omega)
        go_wp2
        go_ret
        exact ⟨ret_bool HN.out.symm, rfl⟩
      · have h1 : 0 < s.size := by omega
        have hm := may_cons a h1
        rw [show noBad s a = true from hn, Bool.true_and] at hm
        obtain ⟨r1, hr1⟩ : ∃ r, decide ((97 : Int) ≤ s[0].toNat) = r := ⟨_, rfl⟩
        obtain ⟨r2, hr2⟩ : ∃ r, decide ((s[0].toNat : Int) ≤ 122) = r := ⟨_, rfl⟩
        rw [hr1, hr2] at hm
        have HM := Lib.hid hm
        clear hm hn h0
        go_wp2
        all_goals
          go_ret
          exact ⟨ret_bool (by have hm := HM.out; clear hr1 hr2; simp_all), rfl⟩

end Go.Proofs.YteafldginkpgoaaGreat.Na

namespace Go.Proofs.YteafldginkpgoaaGreat.Fo
set_option linter.unusedSimpArgs false
set_option linter.unusedVariables false
open Go.RowKit Ba Fm
end Go.Proofs.YteafldginkpgoaaGreat.Fo

namespace Go.Proofs.YteafldginkpgoaaGreat.Fo
set_option linter.unusedSimpArgs false
set_option linter.unusedVariables false
open Go.RowKit Ba Fm
end Go.Proofs.YteafldginkpgoaaGreat.Fo

namespace Go.Proofs.YteafldginkpgoaaGreat.Na
set_option maxRecDepth 100000
set_option linter.unusedSimpArgs false
set_option linter.unusedVariables false
open Go.RowKit Ba Fm Fo Nm
theorem x1 : isIn ⟨#[98, 114]⟩ voidL = true := by kernel_rfl
theorem x2 : isIn ⟨#[98]⟩ voidL = false := by kernel_rfl
theorem x3 : isIn ⟨#[115, 99, 114, 105, 112, 116]⟩ rawL = true := by kernel_rfl
theorem x4 : isIn ⟨#[116, 105, 116, 108, 101]⟩ softL = true := by kernel_rfl
theorem x5 : isIn ⟨#[112]⟩ blockL = true := by kernel_rfl
end Go.Proofs.YteafldginkpgoaaGreat.Na

namespace Go.Proofs.YteafldginkpgoaaGreat.Na
set_option maxRecDepth 100000
set_option linter.unusedSimpArgs false
set_option linter.unusedVariables false
open Go.RowKit Ba Fm Fo Nm
set_option maxRecDepth 100000 in
set_option maxHeartbeats 4000000 in
theorem refCloses_any (s : ByteArray) (w : World) : Calls Tryz.prog 80 #[.string s] w fun e w' => ∃ v, e = .returned v ∧ Sown w.heap.size w' v (closesL s) ∧ Below w.heap.size w w' := by
  by_cases h0 : s = n_li
  · obtain ⟨⟨f0, f1, f2, f3, f4, f5, f6, f7, f8, f9, f10⟩, hcl, hwl, htb, hbl⟩ := own_li h0
    rw [hcl]
    have hb := below_one w (.cells ([n_li].map sc).toArray 9)
    have hs := sown_lit w [n_li] (by decide)
    have HX := Lib.hid h0; have HTB := Lib.hid htb
    clear h0 hcl hwl htb hbl
    go_enter Tryz.func80, Tryz.ntmps80
    rw [← HX.out] at hs hb
    rw [← HX.out]
    go_wp2
    go_ret
    exact ⟨_, rfl, hs, hb⟩
  by_cases h1 : s = n_dd
  · obtain ⟨⟨f0, f1, f2, f3, f4, f5, f6, f7, f8, f9, f10⟩, hcl, hwl, htb, hbl⟩ := own_dd h1
    rw [hcl]
    have hb := below_one w (.cells ([n_dd, n_dt].map sc).toArray 9)
    have hs := sown_lit w [n_dd, n_dt] (by decide)
    have HX := Lib.hid h1; have HTB := Lib.hid htb
    clear h0 h1 hcl hwl htb hbl
    go_enter Tryz.func80, Tryz.ntmps80
    go_wp2
    go_ret
    exact ⟨_, rfl, hs, hb⟩
  by_cases h2 : s = n_dt
  · obtain ⟨⟨f0, f1, f2, f3, f4, f5, f6, f7, f8, f9, f10⟩, hcl, hwl, htb, hbl⟩ := own_dt h2
    rw [hcl]
    have hb := below_one w (.cells ([n_dd, n_dt].map sc).toArray 9)
    have hs := sown_lit w [n_dd, n_dt] (by decide)
    have HX := Lib.hid h2; have HTB := Lib.hid htb
    clear h0 h1 h2 hcl hwl htb hbl
    go_enter Tryz.func80, Tryz.ntmps80
    go_wp2
    go_ret
    exact ⟨_, rfl, hs, hb⟩
  by_cases h3 : s = n_option
  · obtain ⟨⟨f0, f1, f2, f3, f4, f5, f6, f7, f8, f9, f10⟩, hcl, hwl, htb, hbl⟩ := own_option h3
    rw [hcl]
    have hb := below_one w (.cells ([n_option].map sc).toArray 9)
    have hs := sown_lit w [n_option] (by decide)
    have HX := Lib.hid h3; have HTB := Lib.hid htb
    clear h0 h1 h2 h3 hcl hwl htb hbl
    go_enter Tryz.func80, Tryz.ntmps80
    rw [← HX.out] at hs hb
    rw [← HX.out]
    go_wp2
    go_ret
    exact ⟨_, rfl, hs, hb⟩
  by_cases h4 : s = n_optgroup
  · obtain ⟨⟨f0, f1, f2, f3, f4, f5, f6, f7, f8, f9, f10⟩, hcl, hwl, htb, hbl⟩ := own_optgroup h4
    rw [hcl]
    have hb := below_one w (.cells ([n_optgroup, n_option].map sc).toArray 9)
    have hs := sown_lit w [n_optgroup, n_option] (by decide)
    have HX := Lib.hid h4; have HTB := Lib.hid htb
    clear h0 h1 h2 h3 h4 hcl hwl htb hbl
    go_enter Tryz.func80, Tryz.ntmps80
    go_wp2
    go_ret
    exact ⟨_, rfl, hs, hb⟩
  by_cases h5 : s = n_tr
  · obtain ⟨⟨f0, f1, f2, f3, f4, f5, f6, f7, f8, f9, f10⟩, hcl, hwl, htb, hbl⟩ := own_tr h5
    rw [hcl]
    have hb := below_one w (.cells ([n_td, n_th, n_tr].map sc).toArray 9)
    have hs := sown_lit w [n_td, n_th, n_tr] (by decide)
    have HX := Lib.hid h5; have HTB := Lib.hid htb
    clear h0 h1 h2 h3 h4 h5 hcl hwl htb hbl
    go_enter Tryz.func80, Tryz.ntmps80
    go_wp2
    go_ret
    exact ⟨_, rfl, hs, hb⟩
  by_cases h6 : s = n_td
  · obtain ⟨⟨f0, f1, f2, f3, f4, f5, f6, f7, f8, f9, f10⟩, hcl, hwl, htb, hbl⟩ := own_td h6
    rw [hcl]
    have hb := below_one w (.cells ([n_td, n_th].map sc).toArray 9)
    have hs := sown_lit w [n_td, n_th] (by decide)
    have HX := Lib.hid h6; have HTB := Lib.hid htb
    clear h0 h1 h2 h3 h4 h5 h6 hcl hwl htb hbl
    go_enter Tryz.func80, Tryz.ntmps80
    go_wp2
    go_ret
    exact ⟨_, rfl, hs, hb⟩
  by_cases h7 : s = n_th
  · obtain ⟨⟨f0, f1, f2, f3, f4, f5, f6, f7, f8, f9, f10⟩, hcl, hwl, htb, hbl⟩ := own_th h7
    rw [hcl]
    have hb := below_one w (.cells ([n_td, n_th].map sc).toArray 9)
    have hs := sown_lit w [n_td, n_th] (by decide)
    have HX := Lib.hid h7; have HTB := Lib.hid htb
    clear h0 h1 h2 h3 h4 h5 h6 h7 hcl hwl htb hbl
    go_enter Tryz.func80, Tryz.ntmps80
    go_wp2
    go_ret
    exact ⟨_, rfl, hs, hb⟩
  by_cases h8 : s = n_tbody
  · obtain ⟨⟨f0, f1, f2, f3, f4, f5, f6, f7, f8, f9, f10⟩, hcl, hwl, htb, hbl⟩ := own_tbody h8
    rw [hcl]
    have hb := below_one w (.cells ([n_tbody, n_td, n_tfoot, n_th, n_thead, n_tr].map sc).toArray 9)
    have hs := sown_lit w [n_tbody, n_td, n_tfoot, n_th, n_thead, n_tr] (by decide)
    have HX := Lib.hid h8; have HTB := Lib.hid htb
    clear h0 h1 h2 h3 h4 h5 h6 h7 h8 hcl hwl htb hbl
    go_enter Tryz.func80, Tryz.ntmps80
    go_wp2_with fail
    refine (refTable_any w).mono ?_
    rintro e w1 ⟨v1, rfl, ho1, hb1⟩
    go_wp2_with fail
    refine (hasS w1 v1 tableL s (sv_own ho1) (by decide)).mono ?_
    rintro e w2 ⟨rfl, rfl⟩
    rw [HTB.out]
    go_wp2_with fail
    refine (refTable_any w1).mono ?_
    rintro e w2 ⟨v2, rfl, ho2, hb2⟩
    go_wp2
    go_ret
    exact ⟨v2, rfl, ho2.mono hb1.size, bt hb1 hb2⟩
  by_cases h9 : s = n_tfoot
  · obtain ⟨⟨f0, f1, f2, f3, f4, f5, f6, f7, f8, f9, f10⟩, hcl, hwl, htb, hbl⟩ := own_tfoot h9
    rw [hcl]
    have hb := below_one w (.cells ([n_tbody, n_td, n_tfoot, n_th, n_thead, n_tr].map sc).toArray 9)
    have hs := sown_lit w [n_tbody, n_td, n_tfoot, n_th, n_thead, n_tr] (by decide)
    have HX := Lib.hid h9; have HTB := Lib.hid htb
    clear h0 h1 h2 h3 h4 h5 h6 h7 h8 h9 hcl hwl htb hbl
    go_enter Tryz.func80, Tryz.ntmps80
    go_wp2_with fail
    refine (refTable_any w).mono ?_
    rintro e w1 ⟨v1, rfl, ho1, hb1⟩
    go_wp2_with fail
    refine (hasS w1 v1 tableL s (sv_own ho1) (by decide)).mono ?_
    rintro e w2 ⟨rfl, rfl⟩
    rw [HTB.out]
    go_wp2_with fail
    refine (refTable_any w1).mono ?_
    rintro e w2 ⟨v2, rfl, ho2, hb2⟩
    go_wp2
    go_ret
    exact ⟨v2, rfl, ho2.mono hb1.size, bt hb1 hb2⟩
  by_cases h10 : s = n_thead
  · obtain ⟨⟨f0, f1, f2, f3, f4, f5, f6, f7, f8, f9, f10⟩, hcl, hwl, htb, hbl⟩ := own_thead h10
    rw [hcl]
    have hb := below_one w (.cells ([n_tbody, n_td, n_tfoot, n_th, n_thead, n_tr].map sc).toArray 9)
    have hs := sown_lit w [n_tbody, n_td, n_tfoot, n_th, n_thead, n_tr] (by decide)
    have HX := Lib.hid h10; have HTB := Lib.hid htb
    clear h0 h1 h2 h3 h4 h5 h6 h7 h8 h9 h10 hcl hwl htb hbl
    go_enter Tryz.func80, Tryz.ntmps80
    go_wp2_with fail
    refine (refTable_any w).mono ?_
    rintro e w1 ⟨v1, rfl, ho1, hb1⟩
    go_wp2_with fail
    refine (hasS w1 v1 tableL s (sv_own ho1) (by decide)).mono ?_
    rintro e w2 ⟨rfl, rfl⟩
    rw [HTB.out]
    go_wp2_with fail
    refine (refTable_any w1).mono ?_
    rintro e w2 ⟨v2, rfl, ho2, hb2⟩
    go_wp2
    go_ret
    exact ⟨v2, rfl, ho2.mono hb1.size, bt hb1 hb2⟩
  obtain ⟨⟨f0, f1, f2, f3, f4, f5, f6, f7, f8, f9, f10⟩, hcl, hwl, htb⟩ := own_none h0 h1 h2 h3 h4 h5 h6 h7 h8 h9 h10
  clear h0 h1 h2 h3 h4 h5 h6 h7 h8 h9 h10
  rw [hcl]
  have HTB := Lib.hid htb
  clear htb
  clear hcl hwl
  obtain ⟨q, hq⟩ : ∃ q, isIn s blockL = q := ⟨_, rfl⟩
  rw [hq]
  have HQ := Lib.hid hq
  clear hq
  cases q with
  | true =>
    rw [if_pos rfl]
    go_enter Tryz.func80, Tryz.ntmps80
    go_wp2_with fail
    refine (refTable_any w).mono ?_
    rintro e w1 ⟨v1, rfl, ho1, hb1⟩
    go_wp2_with fail
    refine (hasS w1 v1 tableL s (sv_own ho1) (by decide)).mono ?_
    rintro e w2 ⟨rfl, rfl⟩
    rw [HTB.out]
    go_wp2_with fail
    refine (refBlock_any w1).mono ?_
    rintro e w2 ⟨v2, rfl, ho2, hb2⟩
    go_wp2_with fail
    refine (hasS w2 v2 blockL s (sv_own ho2) (by decide)).mono ?_
    rintro e w3 ⟨rfl, rfl⟩
    rw [HQ.out]
    have hb12 := bt hb1 hb2
    have hb3 := below_one w2 (.cells ([n_p].map sc).toArray 9)
    have hs3 := sown_lit w2 [n_p] (by decide)
    go_wp2
    go_ret
    exact ⟨_, rfl, hs3.mono hb12.size, bt hb12 hb3⟩
    | false =>
    rw [if_neg (by decide)]
    go_enter Tryz.func80, Tryz.ntmps80
    go_wp2_with fail
    refine (refTable_any w).mono ?_
    rintro e w1 ⟨v1, rfl, ho1, hb1⟩
    go_wp2_with fail
    refine (hasS w1 v1 tableL s (sv_own ho1) (by decide)).mono ?_
    rintro e w2 ⟨rfl, rfl⟩
    rw [HTB.out]
    go_wp2_with fail
    refine (refBlock_any w1).mono ?_
    rintro e w2 ⟨v2, rfl, ho2, hb2⟩
    go_wp2_with fail
    refine (hasS w2 v2 blockL s (sv_own ho2) (by decide)).mono ?_
    rintro e w3 ⟨rfl, rfl⟩
    rw [HQ.out]
    have hb12 := bt hb1 hb2
    have hb3 := below_one w2 (.cells (([] : List ByteArray).map sc).toArray 9)
    have hs3 := sown_lit w2 [] (by decide)
    go_wp2
    go_ret
    exact ⟨_, rfl, hs3.mono hb12.size, bt hb12 hb3⟩

end Go.Proofs.YteafldginkpgoaaGreat.Na

namespace Go.Proofs.YteafldginkpgoaaGreat.Na
set_option maxRecDepth 100000
set_option linter.unusedSimpArgs false
set_option linter.unusedVariables false
open Go.RowKit Ba Fm Fo Nm
set_option maxRecDepth 100000 in
set_option maxHeartbeats 4000000 in
theorem refWalls_any (s : ByteArray) (w : World) : Calls Tryz.prog 81 #[.string s] w fun e w' => ∃ v, e = .returned v ∧ Sown w.heap.size w' v (wallsL s) ∧ Below w.heap.size w w' := by
  by_cases h0 : s = n_li
  · obtain ⟨⟨f0, f1, f2, f3, f4, f5, f6, f7, f8, f9, f10⟩, hcl, hwl, htb, hbl⟩ := own_li h0
    rw [hwl]
    have hb := below_one w (.cells ([n_menu, n_ol, n_template, n_ul].map sc).toArray 9)
    have hs := sown_lit w [n_menu, n_ol, n_template, n_ul] (by decide)
    have HX := Lib.hid h0; have HTB := Lib.hid htb
    clear h0 hcl hwl htb hbl
    go_enter Tryz.func81, Tryz.ntmps81
    go_wp2
    go_ret
    exact ⟨_, rfl, hs, hb⟩
  by_cases h1 : s = n_dd
  · obtain ⟨⟨f0, f1, f2, f3, f4, f5, f6, f7, f8, f9, f10⟩, hcl, hwl, htb, hbl⟩ := own_dd h1
    rw [hwl]
    have hb := below_one w (.cells ([n_dl, n_template].map sc).toArray 9)
    have hs := sown_lit w [n_dl, n_template] (by decide)
    have HX := Lib.hid h1; have HTB := Lib.hid htb
    clear h0 h1 hcl hwl htb hbl
    go_enter Tryz.func81, Tryz.ntmps81
    go_wp2
    go_ret
    exact ⟨_, rfl, hs, hb⟩
  by_cases h2 : s = n_dt
  · obtain ⟨⟨f0, f1, f2, f3, f4, f5, f6, f7, f8, f9, f10⟩, hcl, hwl, htb, hbl⟩ := own_dt h2
    rw [hwl]
    have hb := below_one w (.cells ([n_dl, n_template].map sc).toArray 9)
    have hs := sown_lit w [n_dl, n_template] (by decide)
    have HX := Lib.hid h2; have HTB := Lib.hid htb
    clear h0 h1 h2 hcl hwl htb hbl
    go_enter Tryz.func81, Tryz.ntmps81
    go_wp2
    go_ret
    exact ⟨_, rfl, hs, hb⟩
  by_cases h3 : s = n_option
  · obtain ⟨⟨f0, f1, f2, f3, f4, f5, f6, f7, f8, f9, f10⟩, hcl, hwl, htb, hbl⟩ := own_option h3
    rw [hwl]
    have hb := below_one w (.cells ([n_select, n_template].map sc).toArray 9)
    have hs := sown_lit w [n_select, n_template] (by decide)
    have HX := Lib.hid h3; have HTB := Lib.hid htb
    clear h0 h1 h2 h3 hcl hwl htb hbl
    go_enter Tryz.func81, Tryz.ntmps81
    go_wp2
    go_ret
    exact ⟨_, rfl, hs, hb⟩
  by_cases h4 : s = n_optgroup
  · obtain ⟨⟨f0, f1, f2, f3, f4, f5, f6, f7, f8, f9, f10⟩, hcl, hwl, htb, hbl⟩ := own_optgroup h4
    rw [hwl]
    have hb := below_one w (.cells ([n_select, n_template].map sc).toArray 9)
    have hs := sown_lit w [n_select, n_template] (by decide)
    have HX := Lib.hid h4; have HTB := Lib.hid htb
    clear h0 h1 h2 h3 h4 hcl hwl htb hbl
    go_enter Tryz.func81, Tryz.ntmps81
    go_wp2
    go_ret
    exact ⟨_, rfl, hs, hb⟩
  by_cases h5 : s = n_tr
  · obtain ⟨⟨f0, f1, f2, f3, f4, f5, f6, f7, f8, f9, f10⟩, hcl, hwl, htb, hbl⟩ := own_tr h5
    rw [hwl]
    have hb := below_one w (.cells ([n_table, n_template].map sc).toArray 9)
    have hs := sown_lit w [n_table, n_template] (by decide)
    have HX := Lib.hid h5; have HTB := Lib.hid htb
    clear h0 h1 h2 h3 h4 h5 hcl hwl htb hbl
    go_enter Tryz.func81, Tryz.ntmps81
    go_wp2_with fail
    refine (refTable_any w).mono ?_
    rintro e w1 ⟨v1, rfl, ho1, hb1⟩
    go_wp2_with fail
    refine (hasS w1 v1 tableL s (sv_own ho1) (by decide)).mono ?_
    rintro e w2 ⟨rfl, rfl⟩
    rw [HTB.out]
    have hb3 := below_one w1 (.cells ([n_table, n_template].map sc).toArray 9)
    have hs3 := sown_lit w1 [n_table, n_template] (by decide)
    go_wp2
    go_ret
    exact ⟨_, rfl, hs3.mono hb1.size, bt hb1 hb3⟩
  by_cases h6 : s = n_td
  · obtain ⟨⟨f0, f1, f2, f3, f4, f5, f6, f7, f8, f9, f10⟩, hcl, hwl, htb, hbl⟩ := own_td h6
    rw [hwl]
    have hb := below_one w (.cells ([n_table, n_template].map sc).toArray 9)
    have hs := sown_lit w [n_table, n_template] (by decide)
    have HX := Lib.hid h6; have HTB := Lib.hid htb
    clear h0 h1 h2 h3 h4 h5 h6 hcl hwl htb hbl
    go_enter Tryz.func81, Tryz.ntmps81
    go_wp2_with fail
    refine (refTable_any w).mono ?_
    rintro e w1 ⟨v1, rfl, ho1, hb1⟩
    go_wp2_with fail
    refine (hasS w1 v1 tableL s (sv_own ho1) (by decide)).mono ?_
    rintro e w2 ⟨rfl, rfl⟩
    rw [HTB.out]
    have hb3 := below_one w1 (.cells ([n_table, n_template].map sc).toArray 9)
    have hs3 := sown_lit w1 [n_table, n_template] (by decide)
    go_wp2
    go_ret
    exact ⟨_, rfl, hs3.mono hb1.size, bt hb1 hb3⟩
  by_cases h7 : s = n_th
  · obtain ⟨⟨f0, f1, f2, f3, f4, f5, f6, f7, f8, f9, f10⟩, hcl, hwl, htb, hbl⟩ := own_th h7
    rw [hwl]
    have hb := below_one w (.cells ([n_table, n_template].map sc).toArray 9)
    have hs := sown_lit w [n_table, n_template] (by decide)
    have HX := Lib.hid h7; have HTB := Lib.hid htb
    clear h0 h1 h2 h3 h4 h5 h6 h7 hcl hwl htb hbl
    go_enter Tryz.func81, Tryz.ntmps81
    go_wp2_with fail
    refine (refTable_any w).mono ?_
    rintro e w1 ⟨v1, rfl, ho1, hb1⟩
    go_wp2_with fail
    refine (hasS w1 v1 tableL s (sv_own ho1) (by decide)).mono ?_
    rintro e w2 ⟨rfl, rfl⟩
    rw [HTB.out]
    have hb3 := below_one w1 (.cells ([n_table, n_template].map sc).toArray 9)
    have hs3 := sown_lit w1 [n_table, n_template] (by decide)
    go_wp2
    go_ret
    exact ⟨_, rfl, hs3.mono hb1.size, bt hb1 hb3⟩
  by_cases h8 : s = n_tbody
  · obtain ⟨⟨f0, f1, f2, f3, f4, f5, f6, f7, f8, f9, f10⟩, hcl, hwl, htb, hbl⟩ := own_tbody h8
    rw [hwl]
    have hb := below_one w (.cells ([n_table, n_template].map sc).toArray 9)
    have hs := sown_lit w [n_table, n_template] (by decide)
    have HX := Lib.hid h8; have HTB := Lib.hid htb
    clear h0 h1 h2 h3 h4 h5 h6 h7 h8 hcl hwl htb hbl
    go_enter Tryz.func81, Tryz.ntmps81
    go_wp2_with fail
    refine (refTable_any w).mono ?_
    rintro e w1 ⟨v1, rfl, ho1, hb1⟩
    go_wp2_with fail
    refine (hasS w1 v1 tableL s (sv_own ho1) (by decide)).mono ?_
    rintro e w2 ⟨rfl, rfl⟩
    rw [HTB.out]
    have hb3 := below_one w1 (.cells ([n_table, n_template].map sc).toArray 9)
    have hs3 := sown_lit w1 [n_table, n_template] (by decide)
    go_wp2
    go_ret
    exact ⟨_, rfl, hs3.mono hb1.size, bt hb1 hb3⟩
  by_cases h9 : s = n_tfoot
  · obtain ⟨⟨f0, f1, f2, f3, f4, f5, f6, f7, f8, f9, f10⟩, hcl, hwl, htb, hbl⟩ := own_tfoot h9
    rw [hwl]
    have hb := below_one w (.cells ([n_table, n_template].map sc).toArray 9)
    have hs := sown_lit w [n_table, n_template] (by decide)
    have HX := Lib.hid h9; have HTB := Lib.hid htb
    clear h0 h1 h2 h3 h4 h5 h6 h7 h8 h9 hcl hwl htb hbl
    go_enter Tryz.func81, Tryz.ntmps81
    go_wp2_with fail
    refine (refTable_any w).mono ?_
    rintro e w1 ⟨v1, rfl, ho1, hb1⟩
    go_wp2_with fail
    refine (hasS w1 v1 tableL s (sv_own ho1) (by decide)).mono ?_
    rintro e w2 ⟨rfl, rfl⟩
    rw [HTB.out]
    have hb3 := below_one w1 (.cells ([n_table, n_template].map sc).toArray 9)
    have hs3 := sown_lit w1 [n_table, n_template] (by decide)
    go_wp2
    go_ret
    exact ⟨_, rfl, hs3.mono hb1.size, bt hb1 hb3⟩
  by_cases h10 : s = n_thead
  · obtain ⟨⟨f0, f1, f2, f3, f4, f5, f6, f7, f8, f9, f10⟩, hcl, hwl, htb, hbl⟩ := own_thead h10
    rw [hwl]
    have hb := below_one w (.cells ([n_table, n_template].map sc).toArray 9)
    have hs := sown_lit w [n_table, n_template] (by decide)
    have HX := Lib.hid h10; have HTB := Lib.hid htb
    clear h0 h1 h2 h3 h4 h5 h6 h7 h8 h9 h10 hcl hwl htb hbl
    go_enter Tryz.func81, Tryz.ntmps81
    go_wp2_with fail
    refine (refTable_any w).mono ?_
    rintro e w1 ⟨v1, rfl, ho1, hb1⟩
    go_wp2_with fail
    refine (hasS w1 v1 tableL s (sv_own ho1) (by decide)).mono ?_
    rintro e w2 ⟨rfl, rfl⟩
    rw [HTB.out]
    have hb3 := below_one w1 (.cells ([n_table, n_template].map sc).toArray 9)
    have hs3 := sown_lit w1 [n_table, n_template] (by decide)
    go_wp2
    go_ret
    exact ⟨_, rfl, hs3.mono hb1.size, bt hb1 hb3⟩
  obtain ⟨⟨f0, f1, f2, f3, f4, f5, f6, f7, f8, f9, f10⟩, hcl, hwl, htb⟩ := own_none h0 h1 h2 h3 h4 h5 h6 h7 h8 h9 h10
  clear h0 h1 h2 h3 h4 h5 h6 h7 h8 h9 h10
  rw [hwl]
  have HTB := Lib.hid htb
  clear htb
  clear hcl hwl
  go_enter Tryz.func81, Tryz.ntmps81
  go_wp2_with fail
  refine (refTable_any w).mono ?_
  rintro e w1 ⟨v1, rfl, ho1, hb1⟩
  go_wp2_with fail
  refine (hasS w1 v1 tableL s (sv_own ho1) (by decide)).mono ?_
  rintro e w2 ⟨rfl, rfl⟩
  rw [HTB.out]
  have hb3 := below_one w1 (.cells ([n_button, n_caption, n_table, n_td, n_template, n_th].map sc).toArray 9)
  have hs3 := sown_lit w1 [n_button, n_caption, n_table, n_td, n_template, n_th] (by decide)
  go_wp2
  go_ret
  exact ⟨_, rfl, hs3.mono hb1.size, bt hb1 hb3⟩

end Go.Proofs.YteafldginkpgoaaGreat.Na

namespace Go.Proofs.YteafldginkpgoaaGreat.Sm
set_option maxRecDepth 100000
set_option linter.unusedSimpArgs false
set_option linter.unusedVariables false
open Go.RowKit Ba
theorem min_any (x : Nat) (m : Nat) (M : Int) (hM : M = m) (w : World) : ∃ k : Nat, k ≤ x ∧ k ≤ m ∧ k = min x m ∧ ∀ ts t, (Builtin.min_ ts t #[.int .i64 x, .int .i64 M]).run Tryz.prog w = .ok (.int .i64 k) w := by
  refine ⟨min x m, by omega, by omega, rfl, fun ts t => ?_⟩
  rw [run_min_int2]
  congr 2
  split <;> omega
end Go.Proofs.YteafldginkpgoaaGreat.Sm

namespace Go.Proofs.YteafldginkpgoaaGreat.Na
set_option maxRecDepth 100000
set_option linter.unusedSimpArgs false
set_option linter.unusedVariables false
open Go.RowKit Ba Fm Fo Nm
theorem may1 (w : World) (s : ByteArray) (a q : Bool) (hs : s.size ≤ 140737488355328) (h : mayB s a = q) : Calls Tryz.prog 22 #[.string s, .bool a] w fun e w' => e = .returned (.bool q) ∧ w = w' := by
  have k := may_any s a w hs
  rw [h] at k
  exact k

end Go.Proofs.YteafldginkpgoaaGreat.Na

namespace Go.Proofs.YteafldginkpgoaaGreat.Wr
set_option maxRecDepth 100000
set_option linter.unusedSimpArgs false
set_option linter.unusedVariables false
open Go.RowKit Ba Fm Fo Nm Wm
open Ro (At Ro Cw ros rowO rowV below_new range2 range5 cells)
open Tm (pre)
open Ch (rL)
theorem pre_sub8 (s t : ByteArray) (i : Nat) : ((s.extract i (i + t.size)).toList == t.toList) = pre (L t) ((L s).drop i) := by
  rw [eq_of_toList]
  unfold pre
  refine decide_eq_decide.2 ?_
  rw [size_L]
  constructor
  · intro e
    have := congrArg L e
    rwa [L_extract, show i + t.size - i = t.size from by omega] at this
  · intro e
    apply L_inj
    rwa [L_extract, show i + t.size - i = t.size from by omega]
theorem pre_past8 (s t : ByteArray) (i : Nat) (h : ¬ i + t.size ≤ s.size) (ht : 0 < t.size) : pre (L t) ((L s).drop i) = false := by
  unfold pre
  refine decide_eq_false fun e => ?_
  have := congrArg List.length e
  rw [List.length_take, List.length_drop, size_L, size_L] at this
  omega
set_option maxHeartbeats 1000000 in
theorem refAt8 (s t : ByteArray) (i : Nat) (w : World) (hs : s.size ≤ 140737488355328) (hi : i ≤ 140737488355428) (ht : t.size ≤ 100) (ht0 : 0 < t.size) (q : Bool) (hq : pre (L t) ((L s).drop i) = q) :
    Calls Tryz.prog 21 #[.string s, .int .i64 i, .string t] w fun e w' => e = .returned (.bool q) ∧ w = w' := by
  by_cases hp : i + t.size ≤ s.size
  · have hd : decide ((i : Int) + (t.size : Int) ≤ s.size) = true := decide_eq_true (by omega)
    have he := pre_sub8 s t i
    rw [hq] at he
    clear hq
    go_enter Tryz.func21, Tryz.ntmps21
    go_wp2
    go_ret
    exact ⟨rfl, rfl⟩
  · have hd : decide ((i : Int) + (t.size : Int) ≤ s.size) = false := decide_eq_false (by omega)
    rw [pre_past8 s t i hp ht0] at hq
    subst hq
    go_enter Tryz.func21, Tryz.ntmps21
    go_wp2
    go_ret
    exact ⟨rfl, rfl⟩
set_option maxHeartbeats 1000000 in
theorem refHasT (s t : ByteArray) (w : World) (hs : s.size ≤ 140737488355328) (ht : t.size ≤ 100) (ht0 : 0 < t.size) (q : Bool) (hq : sub (L t) (L s) = q) :
    Calls Tryz.prog 20 #[.string s, .string t] w fun e w' => e = .returned (.bool q) ∧ w = w' := by
  have HQ := Lib.hid hq
  clear hq
  go_enter Tryz.func20, Tryz.ntmps20
  go_wp2
  go_loop [5] (fun i => ∃ k : Nat, i = .int .i64 k ∧ k ≤ s.size ∧ sub (L t) ((L s).drop k) = q) (fun i => s.size - (intOf i).toNat)
  case atStart => exact ⟨0, rfl, Nat.zero_le _, by rw [List.drop_zero]; exact HQ.out⟩
  case round =>
    obtain ⟨k, rfl, hk, hn⟩ := hrel
    by_cases hp : k < s.size
    · have hst := sub_step (L t) s k hp
      rw [hn] at hst
      obtain ⟨b, hb⟩ : ∃ b, pre (L t) ((L s).drop k) = b := ⟨_, rfl⟩
      rw [hb] at hst
      have HST := Lib.hid hst; have HB := Lib.hid hb
      clear hst hb hn
      go_wp2_with fail
      refine (refAt8 s t k w hs (by omega) ht ht0 b HB.out).mono ?_
      rintro e w' ⟨rfl, rfl⟩
      cases b with
      | true =>
        go_wp2
        go_ret
        exact ⟨ret_bool (by rw [HST.out]; rfl), rfl⟩
      | false =>
        go_wp2
        go_round
        case rel => exact ⟨k + 1, by go_num, by omega, by rw [HST.out]; rfl⟩
        case measure => simp [intOf]; omega
    · rw [sub_end _ s k hp] at hn
      subst hn
      go_wp2
      go_ret
      exact ⟨rfl, rfl⟩

theorem sub_byte (a : UInt8) (s : ByteArray) (k : Nat) (h : k < s.size) : sub [a] ((L s).drop k) = ((s[k] == a) || sub [a] ((L s).drop (k + 1))) := by
  rw [sub_step [a] s k h, drop_cons s k h]
  congr 1
  unfold pre
  show decide ([s[k]] = [a]) = _
  by_cases e : s[k] = a
  · rw [e]; simp
  · rw [beq_eq_false_iff_ne.2 e]
    simp [e]
set_option maxHeartbeats 1000000 in
theorem refClean1 (s : ByteArray) (w : World) (hs : s.size ≤ 140737488355328) (q : Bool) (hq : cleanB (L s) = q) :
    Calls Tryz.prog 19 #[.string s] w fun e w' => e = .returned (.bool q) ∧ w = w' := by
  have HQ := Lib.hid hq
  clear hq
  go_enter Tryz.func19, Tryz.ntmps19
  go_wp2
  go_loop [3] (fun i => ∃ k : Nat, i = .int .i64 k ∧ k ≤ s.size ∧ (rL (L s) && !sub [0] ((L s).drop k) && !sub [13] ((L s).drop k)) = q) (fun i => s.size - (intOf i).toNat)
  case atStart => exact ⟨0, rfl, Nat.zero_le _, by rw [List.drop_zero]; exact HQ.out⟩
  case round =>
    obtain ⟨k, rfl, hk, hn⟩ := hrel
    by_cases hp : k < s.size
    · have h0 := sub_byte 0 s k hp
      have h13 := sub_byte 13 s k hp
      rw [h0, h13] at hn
      have g0 : ((s[k].toNat : Int) == 0) = (s[k] == 0) := u8_eq (b := 0)
      have g13 : ((s[k].toNat : Int) == 13) = (s[k] == 13) := u8_eq (b := 13)
      obtain ⟨a, ha⟩ : ∃ a, (s[k] == 0) = a := ⟨_, rfl⟩
      obtain ⟨b, hb⟩ : ∃ b, (s[k] == 13) = b := ⟨_, rfl⟩
      rw [ha, hb] at hn
      rw [ha] at g0
      rw [hb] at g13
      have HN := Lib.hid hn
      clear hn h0 h13 ha hb
      cases a with
      | true =>
        go_wp2
        go_ret
        exact ⟨ret_bool (by rw [← HN.out]; simp), rfl⟩
      | false =>
        cases b with
        | true =>
          go_wp2
          go_ret
          exact ⟨ret_bool (by rw [← HN.out]; simp), rfl⟩
        | false =>
          go_wp2
          go_round
          case rel => exact ⟨k + 1, by go_num, by omega, by rw [← HN.out]; rfl⟩
          case measure => simp [intOf]; omega
    · rw [sub_end _ s k hp, sub_end _ s k hp] at hn
      have HN := Lib.hid hn
      clear hn
      go_wp2_with fail
      refine (Ch.refRight_any s w (by omega)).mono ?_
      rintro e w' ⟨rfl, rfl⟩
      go_wp2
      go_ret
      exact ⟨ret_bool (by rw [← HN.out]; simp), rfl⟩

set_option maxRecDepth 100000 in
set_option maxHeartbeats 2000000 in
theorem refAttrs1 (A : Option Addr) (c : Nat) (l : List At) (N : Nat) (w : World) (hr : Ro.Ra w N A l) (hl : l.length ≤ 10000000) (hz : ∀ a ∈ l, a.name.size ≤ 10000000 ∧ a.value.size ≤ 10000000) (q : Bool) (hq : l.all attB = q) :
    Calls Tryz.prog 27 #[.slice A l.length c] w fun e w' => e = .returned (.bool q) ∧ w = w' := by
  have HR := Lib.hid hr; have HQ := Lib.hid hq; have HZ := Lib.hid hz
  clear hr hq hz
  go_enter Tryz.func27, Tryz.ntmps27
  go_wp2
  go_loop [3] (fun i => ∃ k : Nat, i = .int .i64 k ∧ k ≤ l.length ∧ (l.drop k).all attB = q) (fun i => l.length - (intOf i).toNat)
  case atStart => exact ⟨0, rfl, Nat.zero_le _, by rw [List.drop_zero]; exact HQ.out⟩
  case round =>
    obtain ⟨k, rfl, hk, hn⟩ := hrel
    by_cases hp : k < l.length
    · obtain ⟨b0, off0, y, hA, hb0, hdy, hry, hym⟩ := Ro.Ra.at_ HR.out k hp
      have hst := all_step l k hp
      have hy : l[k] = y := by
        rw [List.drop_eq_getElem_cons hp] at hdy
        injection hdy
      rw [hn, hy] at hst
      obtain ⟨z1, z2⟩ := HZ.out y (by rw [← hy]; exact List.getElem_mem _)
      have z3 : y.name.size ≤ 140737488355328 := by omega
      have z4 : y.value.size ≤ 140737488355328 := by omega
      obtain ⟨a, ha⟩ : ∃ a, attrB y.name = a := ⟨_, rfl⟩
      obtain ⟨d, hd⟩ : ∃ d, cleanB (L y.name) = d := ⟨_, rfl⟩
      obtain ⟨e0, he0⟩ : ∃ e0, cleanB (L y.value) = e0 := ⟨_, rfl⟩
      unfold attB at hst
      rw [ha, hd, he0] at hst
      obtain ⟨f0, f1⟩ := range2 hry
      have HST := Lib.hid hst; have HA := Lib.hid (show Na.mayB y.name true = a from ha); have HD := Lib.hid hd; have HE := Lib.hid he0
      subst hA
      clear hst ha hd he0 hdy hry hym hy hn
      go_wp2_with fail
      refine (Na.may1 _ y.name true a z3 HA.out).mono ?_
      rintro e w1 ⟨rfl, rfl⟩
      cases a with
      | false =>
        go_wp2
        go_ret
        exact ⟨ret_bool (by rw [HST.out]; rfl), rfl⟩
      | true =>
        go_wp2_with fail
        refine (refClean1 y.name _ z3 d HD.out).mono ?_
        rintro e w2 ⟨rfl, rfl⟩
        cases d with
        | false =>
          go_wp2
          go_ret
          exact ⟨ret_bool (by rw [HST.out]; rfl), rfl⟩
        | true =>
          go_wp2_with fail
          refine (refClean1 y.value _ z4 e0 HE.out).mono ?_
          rintro e w3 ⟨rfl, rfl⟩
          cases e0 with
          | false =>
            go_wp2
            go_ret
            exact ⟨ret_bool (by rw [HST.out]; rfl), rfl⟩
          | true =>
            go_wp2
            go_round
            case rel => exact ⟨k + 1, by go_num, by omega, by rw [HST.out]; rfl⟩
            case measure => simp [intOf]; omega
    · rw [List.drop_of_length_le (by omega), List.all_nil] at hn
      subst hn
      go_wp2
      go_ret
      exact ⟨rfl, rfl⟩

end Go.Proofs.YteafldginkpgoaaGreat.Wr

namespace Go.Proofs.YteafldginkpgoaaGreat.To
set_option linter.unusedSimpArgs false
set_option linter.unusedVariables false
open Go.RowKit Ba Fm Fo Tm
open Ro (At acells len_acells below_new Sh Ra acells_one info_attr range2 range5)
theorem dec_cons {α : Type} [DecidableEq α] {x y : α} {r s : List α} {V : Bool} (h : decide (x :: r = y :: s) = V) : (x = y → decide (r = s) = V) ∧ (¬ x = y → V = false) := by
  constructor
  · intro e
    rw [← h, e]
    simp
  · intro e
    rw [← h]
    exact decide_eq_false fun e2 => e (by injection e2)
theorem neq_L {a b : ByteArray} (h : ¬ a = b) : (a.toList == b.toList) = false := by rw [eq_of_toList]; exact decide_eq_false h
theorem range5z {w : World} {b : Nat} {x : Tw} (h : w.rangeAt b 0 (cells x)) : w.cell? ⟨b, 0, none⟩ = some (.int .i64 x.tk.kind) ∧ w.cell? ⟨b, 1, none⟩ = some (.string x.tk.name) ∧ w.cell? ⟨b, 2, none⟩ = some (.string x.tk.data) ∧ w.cell? ⟨b, 3, none⟩ = some (.slice x.A x.tk.attrs.length x.c) ∧ w.cell? ⟨b, 4, none⟩ = some (.bool x.tk.self) :=
  ⟨h 0 _ rfl, h 1 _ rfl, h 2 _ rfl, h 3 _ rfl, h 4 _ rfl⟩

end Go.Proofs.YteafldginkpgoaaGreat.To

namespace Go.Proofs.YteafldginkpgoaaGreat.To
set_option linter.unusedSimpArgs false
set_option linter.unusedVariables false
open Go.RowKit Ba Fm Fo Tm
open Ro (At acells len_acells below_new Sh Ra acells_one info_attr range2 range5 flat_at flat_len)
open Re (Tab)
/-- A value reads as tokens. -/
def Tv (w : World) (V : Value) (t : List Tk) : Prop := ∃ A c l, V = .slice A t.length c ∧ t.length ≤ c ∧ Rr w w.heap.size A l ∧ tks l = t
theorem Tv.below {w w' : World} {V : Value} {t : List Tk} (h : Tv w V t) (hb : Below w.heap.size w w') : Tv w' V t := by
  obtain ⟨A, c, l, e, hc, hr, ht⟩ := h
  exact ⟨A, c, l, e, hc, (hr.below hb).more hb.size, ht⟩
end Go.Proofs.YteafldginkpgoaaGreat.To

namespace Go.Proofs.YteafldginkpgoaaGreat.To
set_option linter.unusedSimpArgs false
set_option linter.unusedVariables false
open Go.RowKit Ba Fm Fo Tm Sm
open Re (Tab)
end Go.Proofs.YteafldginkpgoaaGreat.To

namespace Go.Proofs.YteafldginkpgoaaGreat.To
set_option linter.unusedSimpArgs false
set_option linter.unusedVariables false
open Go.RowKit Ba Fm Fo Tm Sm
open Ro (range5)
open Re (Tab)
/-- A slice that reads as one token, opened. -/
theorem Tv.one {w : World} {V : Value} {t : Tk} (h : Tv w V [t]) : ∃ b off c x, V = .slice (some ⟨b, off, none⟩) 1 c ∧ 1 ≤ c ∧ x.tk = t ∧ b < w.heap.size ∧ w.rangeAt b off (cells x) := by
  obtain ⟨A, c, l, rfl, hc, hr, ht⟩ := h
  have hl : l.length = 1 := by rw [← len_tks, ht]; rfl
  obtain ⟨b, off, e, hb, hcells⟩ := hr.1 (by omega)
  match l, hl with
  | [x], _ =>
    refine ⟨b, off, c, x, by rw [e]; rfl, hc, by injection ht, hb, ?_⟩
    have := hcells 0 (by simp)
    simpa using this

end Go.Proofs.YteafldginkpgoaaGreat.To

namespace Go.Proofs.YteafldginkpgoaaGreat.To
set_option linter.unusedSimpArgs false
set_option linter.unusedVariables false
open Go.RowKit Ba Fm Fo Tm
open Ro (below_new At acells len_acells Sh Ra range2)
theorem Aw.below {N : Nat} {w w' : World} {A : Option Addr} {c : Nat} {l : List At} (h : Aw N w (.slice A l.length c) l) (hb : Below w.heap.size w w') : Aw N w' (.slice A l.length c) l := Fr.below (h.fr 0 ⟨#[]⟩ ⟨#[]⟩ false) hb
theorem Aw.ra {N : Nat} {w : World} {A : Option Addr} {c : Nat} {l : List At} (h : Aw N w (.slice A l.length c) l) : Ra w w.heap.size A l := (Fr.att (h.fr 0 ⟨#[]⟩ ⟨#[]⟩ false)).2.2.2.1
end Go.Proofs.YteafldginkpgoaaGreat.To

namespace Go.Proofs.YteafldginkpgoaaGreat.Tm
set_option linter.unusedVariables false
set_option linter.unusedSimpArgs false
open Ba Fm Rm Nm
open Ro (At)
end Go.Proofs.YteafldginkpgoaaGreat.Tm

namespace Go.Proofs.YteafldginkpgoaaGreat.To
set_option linter.unusedSimpArgs false
set_option linter.unusedVariables false
open Go.RowKit Ba Fm Fo Tm Sm Nm
open Ro (below_new At acells len_acells Sh Ra range2)
open Re (Tab)
end Go.Proofs.YteafldginkpgoaaGreat.To

namespace Go.Proofs.YteafldginkpgoaaGreat.Wm
set_option linter.unusedVariables false
set_option linter.unusedSimpArgs false
open Ba Fm Rm Nm Bm
open Ro (At Ro)
open Tm (pre comm cend lead trail isEnd nmOk asOk softOr rawB softB)
theorem last_snoc (s : List ByteArray) (n : ByteArray) : lastN (s ++ [n]) = n := by
  unfold lastN
  rw [List.getLastD_eq_getLast?, List.getLast?_append]; rfl
end Go.Proofs.YteafldginkpgoaaGreat.Wm

namespace Go.Proofs.YteafldginkpgoaaGreat.Wm
set_option linter.unusedVariables false
set_option linter.unusedSimpArgs false
open Ba Fm Rm Nm Bm
open Ro (At Ro)
open Wr (rest)
/-- What a row may be by itself, in the reference's words. -/
def rowR (x : Ro) : Bool := cleanB (L x.data) && (x.kind != 2 || noteB (L x.data)) && (x.kind != 0 || (nameB x.name && x.attrs.all attB))
/-- What its parent asks of a row. -/
def wPar (x : Ro) (s : List ByteArray) : Bool :=
  if isIn (lastN s) voidL = true then false
  else if isIn (lastN s) rawL = true then x.kind == 1 && plainB (L x.data)
  else if isIn (lastN s) softL = true then x.kind == 1
  else true
/-- What an element asks of what it has. -/
def innerB (x : Ro) (k : List Ro) : Bool :=
  if isIn x.name voidL = true then k.isEmpty
  else if isIn x.name rawL = true then (match k with | [] => true | [y] => y.kind == 1 && plainB (L y.data) | _ => false)
  else if isIn x.name softL = true then (match k with | [] => true | [y] => y.kind == 1 | _ => false)
  else true
/-- The reference's test of trees within these elements. -/
def refR (s : List ByteArray) : List Ro → Bool
  | [] => true
  | x :: r => rowR x && (x.kind != 0 || (nestedB x.name s && innerB x (inn x r))) && (refR (s ++ [x.name]) (inn x r) && refR s (beh x r))
  termination_by l => l.length
  decreasing_by
    · have := len_parts x r
      simp only [List.length_cons]; omega
    · have := len_parts x r
      simp only [List.length_cons]; omega
theorem ref_nil (s : List ByteArray) : refR s [] = true := by rw [refR]
theorem ref_cons (s : List ByteArray) (x : Ro) (r : List Ro) : refR s (x :: r) = (rowR x && (x.kind != 0 || (nestedB x.name s && innerB x (inn x r))) && (refR (s ++ [x.name]) (inn x r) && refR s (beh x r))) := by rw [refR]
/-- What the parent asks of all roots. -/
def parR (s : List ByteArray) (l : List Ro) : Bool := l.all fun x => (x.depth != (s.length : Int)) || wPar x s

theorem tw_app8 {α : Type} {p : α → Bool} : ∀ {a b : List α}, (∀ z, b.head? = some z → p z = false) → (a ++ b).takeWhile p = a.takeWhile p
  | [], b, h => by
    cases b with
    | nil => rfl
    | cons z t => rw [List.nil_append, List.takeWhile_cons, if_neg (by rw [h z rfl]; simp)]; rfl
  | x :: a, b, h => by
    rw [List.cons_append, List.takeWhile_cons, List.takeWhile_cons, tw_app8 h]
theorem leg_cons (s : List ByteArray) (x : Ro) (r : List Ro) : legB s (x :: r) = (rowB x && withB x (s.take x.depth.toNat) && legB (pathStep s x) r) := by
  rw [legB]
  unfold pathStep
  split <;> rename_i h
  · rfl
  · rw [List.append_nil]
theorem leg_app : ∀ (s : List ByteArray) (a b : List Ro), legB s (a ++ b) = (legB s a && legB (pathFrom s a) b)
  | s, [], b => rfl
  | s, x :: a, b => by
    rw [List.cons_append, leg_cons, leg_cons, leg_app (pathStep s x) a b, ← Bool.and_assoc]
    rfl
theorem path_keep : ∀ (l : List Ro) (p : List ByteArray) (d : Nat), (∀ y ∈ l, (d : Int) ≤ y.depth) → d ≤ p.length → (pathFrom p l).take d = p.take d ∧ d ≤ (pathFrom p l).length
  | [], p, d, _, hd => ⟨rfl, hd⟩
  | x :: r, p, d, h, hd => by
    have hx := h x List.mem_cons_self
    have hl : d ≤ (p.take x.depth.toNat).length := by rw [List.length_take]; omega
    obtain ⟨i1, i2⟩ := path_keep r (pathStep p x) d (fun y hy => h y (List.mem_cons_of_mem _ hy)) (by unfold pathStep; rw [List.length_append]; omega)
    refine ⟨?_, i2⟩
    show (pathFrom (pathStep p x) r).take d = _
    rw [i1]
    unfold pathStep
    rw [List.take_append_of_le_length hl, List.take_take, Nat.min_eq_left (by omega)]
theorem row_same {x : Ro} (h : Ro.okRow x = true) : rowB x = rowR x := by
  have hc : cleanB [] = true := by decide
  unfold rowB rowR
  rcases kinds h with h0 | h1 | h2
  · have hd : L x.data = [] := by
      rw [(raw_row h h0).1]
    rw [if_pos h0, hd, hc, h0]
    simp
  · rw [if_neg (by rw [h1]; decide), if_neg (by rw [h1]; decide), h1]
    simp
  · rw [if_neg (by rw [h2]; decide), if_pos h2, h2]
    simp [Bool.and_comm]
theorem with_same (x : Ro) (s : List ByteArray) : withB x s = (wPar x s && (x.kind != 0 || nestedB x.name s)) := by
  unfold withB wPar
  split
  · rfl
  · split
    · by_cases h : x.kind = 1
      · rw [h]; simp
      · rw [beq_eq_false_iff_ne.2 h]; rfl
    · split
      · by_cases h : x.kind = 1
        · rw [h]; simp
        · rw [beq_eq_false_iff_ne.2 h]; rfl
      · rw [Bool.true_and]
theorem last_app (s : List ByteArray) (n : ByteArray) : lastN (s ++ [n]) = n := by
  unfold lastN
  rw [List.getLastD_eq_getLast?, List.getLast?_append]
  rfl
theorem calm_app : ∀ {a b : List Ro}, calm (a ++ b) → calm a ∧ calm b
  | [], b, h => ⟨trivial, h⟩
  | y :: a, b, h => by
    obtain ⟨c1, c2, c3⟩ := h
    obtain ⟨k1, k2⟩ := calm_app c3
    refine ⟨⟨c1, fun z hz => c2 z ?_, k1⟩, k2⟩
    cases a with
    | nil => cases hz
    | cons u v => exact hz
/-- What roots of a forest are. -/
theorem root_depth {d : Int} {y : Ro} {t : List Ro} (hr : Ro.rightFrom (d + 1) (y :: t) = true) (hd : ∀ z ∈ y :: t, d < z.depth) : y.depth = d + 1 ∧ (y.kind ≠ 0 → ∀ z, t.head? = some z → z.depth = d + 1) := by
  have h1 := hd y List.mem_cons_self
  rw [Ro.rightFrom] at hr
  simp only [Bool.and_eq_true, decide_eq_true_eq] at hr
  obtain ⟨⟨⟨r1, r2⟩, r3⟩, r4⟩ := hr
  refine ⟨by omega, fun hk z hz => ?_⟩
  cases t with
  | nil => cases hz
  | cons u v =>
    injection hz with hz
    subst hz
    rw [if_neg hk, Ro.rightFrom] at r4
    simp only [Bool.and_eq_true, decide_eq_true_eq] at r4
    have := hd u (List.mem_cons_of_mem _ List.mem_cons_self)
    omega
theorem par_inner (x : Ro) (s : List ByteArray) (K : List Ro) (hx : x.depth = (s.length : Int)) (hr : Ro.rightFrom (x.depth + 1) K = true) (hd : ∀ z ∈ K, x.depth < z.depth) (hc : calm K) : parR (s ++ [x.name]) K = innerB x K := by
  have hl : (((s ++ [x.name]).length : Nat) : Int) = x.depth + 1 := by rw [List.length_append]; show ((s.length + 1 : Nat) : Int) = _; omega
  unfold parR innerB wPar
  rw [last_app, hl]
  by_cases h1 : isIn x.name voidL = true
  · rw [if_pos h1]
    simp only [h1, if_true]
    cases K with
    | nil => rfl
    | cons y t =>
      have := (root_depth hr hd).1
      simp [this]
  rw [if_neg h1]
  simp only [if_neg h1]
  have two : ∀ y z t, K = y :: z :: t → y.kind = 1 → z.depth = x.depth + 1 ∧ z.kind ≠ 1 := fun y z t e hy => by
    subst e
    obtain ⟨a1, a2⟩ := root_depth hr hd
    have hz := a2 (by omega) z rfl
    exact ⟨hz, fun hz1 => hc.2.1 z rfl ⟨hy, hz1, by omega⟩⟩
  by_cases h2 : isIn x.name rawL = true
  · rw [if_pos h2]
    simp only [if_pos h2]
    rcases K with _ | ⟨y, _ | ⟨z, t⟩⟩
    · rfl
    · simp [(root_depth hr hd).1]
    · have hy := (root_depth hr hd).1
      rw [List.all_cons, List.all_cons]
      by_cases hk : y.kind = 1
      · obtain ⟨e1, e2⟩ := two y z t rfl hk
        rw [beq_eq_false_iff_ne.2 e2, e1]
        simp
      · rw [beq_eq_false_iff_ne.2 hk, hy]
        simp
  rw [if_neg h2]
  simp only [if_neg h2]
  by_cases h3 : isIn x.name softL = true
  · rw [if_pos h3]
    simp only [if_pos h3]
    rcases K with _ | ⟨y, _ | ⟨z, t⟩⟩
    · rfl
    · simp [(root_depth hr hd).1]
    · have hy := (root_depth hr hd).1
      rw [List.all_cons, List.all_cons]
      by_cases hk : y.kind = 1
      · obtain ⟨e1, e2⟩ := two y z t rfl hk
        rw [beq_eq_false_iff_ne.2 e2, e1]
        simp
      · rw [beq_eq_false_iff_ne.2 hk, hy]
        simp
  · rw [if_neg h3]
    simp only [if_neg h3]
    simp

theorem leg_ref (n : Nat) : ∀ (s p : List ByteArray) (l : List Ro), l.length ≤ n → (∀ y ∈ l, (s.length : Int) ≤ y.depth) → Ro.rightFrom s.length l = true → calm l → p.take s.length = s → s.length ≤ p.length → legB p l = (refR s l && parR s l) := by
  induction n with
  | zero =>
    intro s p l h _ _ _ _ _
    obtain rfl : l = [] := List.eq_nil_of_length_eq_zero (by omega)
    rw [ref_nil]; rfl
  | succ n ih =>
    intro s p l h hd hr hn hp hpl
    cases l with
    | nil => rw [ref_nil]; rfl
    | cons x r =>
      have hx := hd x List.mem_cons_self
      rw [Ro.rightFrom] at hr
      simp only [Bool.and_eq_true, decide_eq_true_eq] at hr
      obtain ⟨⟨⟨r1, r2⟩, r3⟩, r4⟩ := hr
      have hdep : x.depth = (s.length : Int) := by omega
      have hto : x.depth.toNat = s.length := by omega
      have hlen := len_parts x r
      rw [List.length_cons] at h
      have hib := inn_beh x r
      have hinn : ∀ y ∈ inn x r, x.depth < y.depth := fun y hy => by
        have := mem_tw _ _ y hy
        unfold deep at this
        simpa using this
      have hbd : ∀ y ∈ beh x r, (s.length : Int) ≤ y.depth := fun y hy => hd y (List.mem_cons_of_mem _ (by rw [← hib]; exact List.mem_append_right _ hy))
      have hbh : ∀ y, (beh x r).head? = some y → y.depth ≤ (s.length : Int) := fun y hy => by
        have : deep x.depth y = false := Ro.stops (deep x.depth) r y (by rw [← Wr.dw_drop]; exact hy)
        unfold deep at this
        have := of_decide_eq_false this
        omega
      have hcr : calm r := hn.2.2
      rw [← hib] at hcr r4
      obtain ⟨ci, cb⟩ := calm_app hcr
      rw [Ro.right_append, Bool.and_eq_true] at r4
      have hbr : Ro.rightFrom s.length (beh x r) = true := Ro.right_head r4.2 hbh
      have hps : pathStep p x = s ++ (if x.kind = 0 then [x.name] else []) := by
        unfold pathStep
        rw [hto, hp]
      have hpl2 : s.length ≤ (pathStep p x).length := by rw [hps, List.length_append]; omega
      obtain ⟨k1, k2⟩ := path_keep (inn x r) (pathStep p x) s.length (fun y hy => by have := hinn y hy; omega) hpl2
      have hpb : (pathFrom (pathStep p x) (inn x r)).take s.length = s := by
        rw [k1, hps, List.take_append_of_le_length (Nat.le_refl _), List.take_of_length_le (Nat.le_refl _)]
      have hB := ih s _ (beh x r) (by omega) hbd hbr cb hpb k2
      have hpar : parR s (x :: r) = (wPar x s && parR s (beh x r)) := by
        have h1 : parR s r = (parR s (inn x r) && parR s (beh x r)) := by
          conv => lhs; rw [← hib]
          unfold parR
          rw [List.all_append]
        have h2 : parR s (inn x r) = true := by
          unfold parR
          rw [List.all_eq_true]
          intro y hy
          have := hinn y hy
          rw [bne_iff_ne.2 (show y.depth ≠ (s.length : Int) by omega)]
          rfl
        have h3 : parR s (x :: r) = (((x.depth != (s.length : Int)) || wPar x s) && parR s r) := rfl
        rw [h3, h1, h2, hdep]
        simp
      rw [leg_cons, hto, hp, row_same r3, with_same, ref_cons, hpar]
      have hsplit : legB (pathStep p x) r = (legB (pathStep p x) (inn x r) && legB (pathFrom (pathStep p x) (inn x r)) (beh x r)) := by
        conv => lhs; rw [← hib]
        exact leg_app _ _ _
      rw [hsplit, hB]
      by_cases h0 : x.kind = 0
      · rw [if_pos h0] at hps r4
        have hI := ih (s ++ [x.name]) (pathStep p x) (inn x r) (by omega) (fun y hy => by have := hinn y hy; rw [List.length_append]; show ((s.length + 1 : Nat) : Int) ≤ _; omega) (by
          have e : (((s ++ [x.name]).length : Nat) : Int) = x.depth + 1 := by rw [List.length_append]; show ((s.length + 1 : Nat) : Int) = _; omega
          rw [e]; exact r4.1) ci (by rw [hps, List.take_of_length_le (Nat.le_refl _)]) (by rw [hps]; exact Nat.le_refl _)
        rw [hI, par_inner x s (inn x r) hdep r4.1 hinn ci, h0]
        generalize rowR x = a
        generalize wPar x s = b
        generalize nestedB x.name s = c
        generalize innerB x (inn x r) = d
        generalize refR (s ++ [x.name]) (inn x r) = e
        generalize refR s (beh x r) = f
        generalize parR s (beh x r) = g
        revert a b c d e f g
        decide
      · rw [if_neg h0] at r4
        have hin : inn x r = [] := by
          cases hi : inn x r with
          | nil => rfl
          | cons y t =>
            exfalso
            have e3 := hinn y (by rw [hi]; exact List.mem_cons_self)
            have e2 := r4.1
            rw [hi, Ro.rightFrom] at e2
            simp only [Bool.and_eq_true, decide_eq_true_eq] at e2
            omega
        rw [hin, ref_nil, bne_iff_ne.2 h0]
        have : legB (pathStep p x) [] = true := rfl
        rw [this]
        generalize rowR x = a
        generalize wPar x s = b
        generalize refR s (beh x r) = f
        generalize parR s (beh x r) = g
        revert a b f g
        simp
/-- Row by row and node by node are one. -/
theorem leg_same {l : List Ro} (hr : Ro.right l = true) (hc : calm l) : legB [] l = refR [] l := by
  have h := leg_ref l.length [] [] l (Nat.le_refl _) (depth_right hr) hr hc rfl (Nat.le_refl _)
  rw [h]
  have : parR [] l = true := by
    unfold parR
    rw [List.all_eq_true]
    intro y _
    have hw : wPar y [] = true := rfl
    rw [hw, Bool.or_true]
  rw [this, Bool.and_true]

/-- What is asked of one node within these elements, with what it has. -/
def nodeR (y : Ro) (S : List ByteArray) (K : List Ro) : Bool := rowR y && (y.kind != 0 || (nestedB y.name S && innerB y K))
theorem path_app (p : List ByteArray) (a b : List Ro) : pathFrom p (a ++ b) = pathFrom (pathFrom p a) b := by unfold pathFrom; rw [List.foldl_append]
theorem ref_iff (n : Nat) : ∀ (s p : List ByteArray) (l : List Ro), l.length ≤ n → (∀ y ∈ l, (s.length : Int) ≤ y.depth) → Ro.rightFrom s.length l = true → p.take s.length = s → s.length ≤ p.length →
    (refR s l = true ↔ ∀ (k : Nat) (y : Ro), l[k]? = some y → nodeR y ((pathFrom p (l.take k)).take y.depth.toNat) (rest l y.depth (k + 1)) = true) := by
  induction n with
  | zero =>
    intro s p l h _ _ _ _
    obtain rfl : l = [] := List.eq_nil_of_length_eq_zero (by omega)
    rw [ref_nil]
    exact ⟨(fun _ k y hy => by cases hy), fun _ => rfl⟩
  | succ n ih =>
    intro s p l h hd hr hp hpl
    cases l with
    | nil =>
      rw [ref_nil]
      exact ⟨(fun _ k y hy => by cases hy), fun _ => rfl⟩
    | cons x r =>
      have hx := hd x List.mem_cons_self
      rw [Ro.rightFrom] at hr
      simp only [Bool.and_eq_true, decide_eq_true_eq] at hr
      obtain ⟨⟨⟨r1, r2⟩, r3⟩, r4⟩ := hr
      have hdep : x.depth = (s.length : Int) := by omega
      have hto : x.depth.toNat = s.length := by omega
      have hlen := len_parts x r
      rw [List.length_cons] at h
      have hib := inn_beh x r
      have hinn : ∀ y ∈ inn x r, x.depth < y.depth := fun y hy => by
        have := mem_tw _ _ y hy
        unfold deep at this
        simpa using this
      have hbd : ∀ y ∈ beh x r, (s.length : Int) ≤ y.depth := fun y hy => hd y (List.mem_cons_of_mem _ (by rw [← hib]; exact List.mem_append_right _ hy))
      have hstop : ∀ z, (beh x r).head? = some z → deep x.depth z = false := fun z hz => Ro.stops (deep x.depth) r z (by rw [← Wr.dw_drop]; exact hz)
      have hbh : ∀ y, (beh x r).head? = some y → y.depth ≤ (s.length : Int) := fun y hy => by
        have := hstop y hy
        unfold deep at this
        have := of_decide_eq_false this
        omega
      rw [← hib] at r4
      rw [Ro.right_append, Bool.and_eq_true] at r4
      have hbr : Ro.rightFrom s.length (beh x r) = true := Ro.right_head r4.2 hbh
      have hps : pathStep p x = s ++ (if x.kind = 0 then [x.name] else []) := by
        unfold pathStep
        rw [hto, hp]
      have hpl2 : s.length ≤ (pathStep p x).length := by rw [hps, List.length_append]; omega
      obtain ⟨k1, k2⟩ := path_keep (inn x r) (pathStep p x) s.length (fun y hy => by have := hinn y hy; omega) hpl2
      have hpb : (pathFrom (pathStep p x) (inn x r)).take s.length = s := by
        rw [k1, hps, List.take_append_of_le_length (Nat.le_refl _), List.take_of_length_le (Nat.le_refl _)]
      have hB := ih s _ (beh x r) (by omega) hbd hbr hpb k2
      have hI : refR (s ++ [x.name]) (inn x r) = true ↔ ∀ (k : Nat) (y : Ro), (inn x r)[k]? = some y → nodeR y ((pathFrom (pathStep p x) ((inn x r).take k)).take y.depth.toNat) (rest (inn x r) y.depth (k + 1)) = true := by
        by_cases h0 : x.kind = 0
        · rw [if_pos h0] at hps r4
          exact ih (s ++ [x.name]) (pathStep p x) (inn x r) (by omega) (fun y hy => by have := hinn y hy; rw [List.length_append]; show ((s.length + 1 : Nat) : Int) ≤ _; omega) (by
            have e : (((s ++ [x.name]).length : Nat) : Int) = x.depth + 1 := by rw [List.length_append]; show ((s.length + 1 : Nat) : Int) = _; omega
            rw [e]; exact r4.1) (by rw [hps, List.take_of_length_le (Nat.le_refl _)]) (by rw [hps]; exact Nat.le_refl _)
        · rw [if_neg h0] at r4
          have hin : inn x r = [] := by
            cases hi : inn x r with
            | nil => rfl
            | cons y t =>
              exfalso
              have e3 := hinn y (by rw [hi]; exact List.mem_cons_self)
              have e2 := r4.1
              rw [hi, Ro.rightFrom] at e2
              simp only [Bool.and_eq_true, decide_eq_true_eq] at e2
              omega
          rw [hin, ref_nil]
          exact ⟨(fun _ k y hy => by cases hy), fun _ => rfl⟩
      -- the three kinds of places
      have c0 : ∀ y, (x :: r)[0]? = some y → nodeR y ((pathFrom p ((x :: r).take 0)).take y.depth.toNat) (rest (x :: r) y.depth (0 + 1)) = nodeR x s (inn x r) := fun y hy => by
        have hy : some x = some y := hy
        injection hy with hy
        subst hy
        have e : (pathFrom p ((x :: r).take 0)).take x.depth.toNat = s := by rw [hto]; exact hp
        rw [e]; rfl
      have c1 : ∀ (j : Nat) (y : Ro), (inn x r)[j]? = some y → (x :: r)[j + 1]? = some y ∧ nodeR y ((pathFrom p ((x :: r).take (j + 1))).take y.depth.toNat) (rest (x :: r) y.depth (j + 1 + 1)) = nodeR y ((pathFrom (pathStep p x) ((inn x r).take j)).take y.depth.toNat) (rest (inn x r) y.depth (j + 1)) := fun j y hyi => by
        have hj := (List.getElem?_eq_some_iff.1 hyi).1
        have hyd := hinn y (List.mem_of_getElem? hyi)
        have hrj : r[j]? = some y := by rw [← hib, List.getElem?_append_left hj]; exact hyi
        have ht : r.take j = (inn x r).take j := by
          conv => lhs; rw [← hib]
          rw [List.take_append_of_le_length (by omega)]
        have hp1 : pathFrom p ((x :: r).take (j + 1)) = pathFrom (pathStep p x) ((inn x r).take j) := by rw [← ht]; rfl
        have hdr : r.drop (j + 1) = (inn x r).drop (j + 1) ++ beh x r := by
          conv => lhs; rw [← hib]
          rw [List.drop_append, show j + 1 - (inn x r).length = 0 by omega, List.drop_zero]
        have hre : rest (x :: r) y.depth (j + 1 + 1) = rest (inn x r) y.depth (j + 1) := by
          show (r.drop (j + 1)).takeWhile (deep y.depth) = _
          rw [hdr, tw_app8 fun z hz => by
            have := hstop z hz
            unfold deep at this ⊢
            have := of_decide_eq_false this
            exact decide_eq_false (by omega)]
          rfl
        exact ⟨hrj, by rw [hp1, hre]⟩
      have c2 : ∀ (m : Nat) (y : Ro), (beh x r)[m]? = some y → (x :: r)[(inn x r).length + m + 1]? = some y ∧ nodeR y ((pathFrom p ((x :: r).take ((inn x r).length + m + 1))).take y.depth.toNat) (rest (x :: r) y.depth ((inn x r).length + m + 1 + 1)) = nodeR y ((pathFrom (pathFrom (pathStep p x) (inn x r)) ((beh x r).take m)).take y.depth.toNat) (rest (beh x r) y.depth (m + 1)) := fun m y hyb => by
        have hrj : r[(inn x r).length + m]? = some y := by rw [← hib, List.getElem?_append_right (by rw [hib]; omega), hib, Nat.add_sub_cancel_left]; exact hyb
        have ht : r.take ((inn x r).length + m) = inn x r ++ (beh x r).take m := by
          conv => lhs; rw [← hib]
          rw [List.take_append, hib, List.take_of_length_le (by omega), Nat.add_sub_cancel_left]
        have hp1 : pathFrom p ((x :: r).take ((inn x r).length + m + 1)) = pathFrom (pathFrom (pathStep p x) (inn x r)) ((beh x r).take m) := by
          rw [← path_app, ← ht]; rfl
        have hdr : r.drop ((inn x r).length + m + 1) = (beh x r).drop (m + 1) := by
          conv => lhs; rw [← hib]
          rw [List.drop_append, hib, List.drop_eq_nil_of_le (by omega), List.nil_append]
          congr 1
          omega
        have hre : rest (x :: r) y.depth ((inn x r).length + m + 1 + 1) = rest (beh x r) y.depth (m + 1) := by
          show (r.drop ((inn x r).length + m + 1)).takeWhile (deep y.depth) = _
          rw [hdr]; rfl
        exact ⟨hrj, by rw [hp1, hre]⟩
      have hcons : refR s (x :: r) = (nodeR x s (inn x r) && (refR (s ++ [x.name]) (inn x r) && refR s (beh x r))) := ref_cons s x r
      rw [hcons, Bool.and_eq_true, Bool.and_eq_true, hI, hB]
      constructor
      · rintro ⟨a0, a1, a2⟩ k y hy
        cases k with
        | zero => rw [c0 y hy]; exact a0
        | succ j =>
          have hrj : r[j]? = some y := hy
          by_cases hj : j < (inn x r).length
          · have hyi : (inn x r)[j]? = some y := by rw [← hib, List.getElem?_append_left hj] at hrj; exact hrj
            rw [(c1 j y hyi).2]; exact a1 j y hyi
          · have hyb : (beh x r)[j - (inn x r).length]? = some y := by rw [← hib, List.getElem?_append_right (by omega)] at hrj; exact hrj
            have e : (inn x r).length + (j - (inn x r).length) = j := by omega
            have := (c2 _ y hyb).2
            rw [e] at this
            rw [this]; exact a2 _ y hyb
      · intro a
        refine ⟨by rw [← c0 x rfl]; exact a 0 x rfl, fun j y hy => ?_, fun m y hy => ?_⟩
        · obtain ⟨b1, b2⟩ := c1 j y hy
          rw [← b2]; exact a _ y b1
        · obtain ⟨b1, b2⟩ := c2 m y hy
          rw [← b2]; exact a _ y b1

end Go.Proofs.YteafldginkpgoaaGreat.Wm

namespace Go.Proofs.YteafldginkpgoaaGreat.Wm
set_option linter.unusedVariables false
set_option linter.unusedSimpArgs false
open Ba Fm Rm Nm Bm
open Ro (At Ro kidsFrom)
open Wr (rest)
theorem path_len : ∀ (l : List Ro) (m : Int) (p : List ByteArray), m ≤ p.length → Ro.rightFrom m l = true → ∀ (k : Nat) (y : Ro), l[k]? = some y → 0 ≤ y.depth ∧ y.depth ≤ (pathFrom p (l.take k)).length
  | [], m, p, _, _, k, y, hy => by cases hy
  | x :: r, m, p, hm, hr, k, y, hy => by
    rw [Ro.rightFrom] at hr
    simp only [Bool.and_eq_true, decide_eq_true_eq] at hr
    obtain ⟨⟨⟨r1, r2⟩, r3⟩, r4⟩ := hr
    cases k with
    | zero =>
      have hy : some x = some y := hy
      injection hy with hy
      subst hy
      refine ⟨by omega, ?_⟩
      show x.depth ≤ (p.length : Int)
      omega
    | succ j =>
      refine path_len r _ (pathStep p x) ?_ r4 j y hy
      unfold pathStep
      rw [List.length_append, List.length_take]
      split <;> rename_i h
      · show _ ≤ ((_ + 1 : Nat) : Int); omega
      · show _ ≤ ((_ + 0 : Nat) : Int); omega
theorem step_next : ∀ (l : List Ro) (m : Int), Ro.rightFrom m l = true → ∀ (k : Nat) (x z : Ro), l[k]? = some x → l[k + 1]? = some z → z.depth ≤ if x.kind = 0 then x.depth + 1 else x.depth
  | [], m, _, k, x, z, hx, _ => by cases hx
  | a :: r, m, hr, k, x, z, hx, hz => by
    rw [Ro.rightFrom] at hr
    simp only [Bool.and_eq_true, decide_eq_true_eq] at hr
    obtain ⟨_, r4⟩ := hr
    cases k with
    | zero =>
      have hx : some a = some x := hx
      injection hx with hx
      subst hx
      cases r with
      | nil => cases hz
      | cons b t =>
        have hz : some b = some z := hz
        injection hz with hz
        subst hz
        rw [Ro.rightFrom] at r4
        simp only [Bool.and_eq_true, decide_eq_true_eq] at r4
        exact r4.1.1.2
    | succ j => exact step_next r _ r4 j x z hx hz
theorem up_spec8 (l : List Ro) (d : Int) : ∀ n : Nat, -1 ≤ Ro.up l d n ∧ Ro.up l d n < n ∧ (0 ≤ Ro.up l d n → Ro.dep l (Ro.up l d n) < d) ∧ ∀ j : Nat, Ro.up l d n < j → j < n → d ≤ Ro.dep l j
  | 0 => ⟨Int.le_refl _, by show (-1 : Int) < 0; omega, fun h => by have h : (0 : Int) ≤ -1 := h; omega, fun j _ h => absurd h (by omega)⟩
  | n + 1 => by
    obtain ⟨h1, h2, h3, h4⟩ := up_spec8 l d n
    by_cases hlt : Ro.dep l n < d
    · have e : Ro.up l d (n + 1) = n := if_pos hlt
      rw [e]
      exact ⟨by omega, by omega, fun _ => hlt, fun j ha hb => by omega⟩
    · have e : Ro.up l d (n + 1) = Ro.up l d n := if_neg hlt
      rw [e]
      refine ⟨h1, by omega, h3, fun j ha hb => ?_⟩
      by_cases hj : j = n
      · subst hj; omega
      · exact h4 j ha (by omega)
/-- The elements around a node: none, or its parent's and the parent's name. -/
theorem path_up {l : List Ro} (hr : Ro.right l = true) {k : Nat} {y : Ro} (hy : l[k]? = some y) :
    (Ro.up l y.depth k < 0 → (pathFrom [] (l.take k)).take y.depth.toNat = []) ∧
    ∀ p : Nat, Ro.up l y.depth k = (p : Int) → ∃ x, l[p]? = some x ∧ p < k ∧ (pathFrom [] (l.take k)).take y.depth.toNat = (pathFrom [] (l.take p)).take x.depth.toNat ++ [x.name] := by
  have hkl := (List.getElem?_eq_some_iff.1 hy).1
  obtain ⟨u1, u2, u3, u4⟩ := up_spec8 l y.depth k
  have hlen := path_len l 0 [] (Int.le_refl _) hr
  obtain ⟨y0, y1⟩ := hlen k y hy
  constructor
  · intro hneg
    have hz : y.depth = 0 := by
      cases k with
      | zero => have : y.depth ≤ ((pathFrom [] (l.take 0)).length : Int) := y1; have e : (pathFrom [] (l.take 0)).length = 0 := rfl; omega
      | succ j =>
        have h0 : 0 < l.length := by omega
        have hx : l[0]? = some l[0] := List.getElem?_eq_getElem h0
        have h1 := (hlen 0 _ hx).2
        have e : (pathFrom [] (l.take 0)).length = 0 := rfl
        have h2 := u4 0 (by omega) (by omega)
        have h3 := Ro.dep_at hx
        have h3 : Ro.dep l ((0 : Nat) : Int) = l[0].depth := h3
        omega
    rw [hz]; rfl
  · intro p hp
    have hpk : p < k := by omega
    have hpl : p < l.length := by omega
    have hx : l[p]? = some l[p] := List.getElem?_eq_getElem hpl
    refine ⟨l[p], hx, hpk, ?_⟩
    obtain ⟨x, hxe⟩ : ∃ x, l[p] = x := ⟨_, rfl⟩
    rw [hxe] at hx ⊢
    have hdx : x.depth < y.depth := by
      have h := u3 (by omega)
      rw [hp, Ro.dep_at hx] at h
      exact h
    obtain ⟨x0, x1⟩ := hlen p x hx
    have hp1 : p + 1 < l.length + 1 := by omega
    have hn : ∃ z, l[p + 1]? = some z ∧ y.depth ≤ z.depth := by
      by_cases e : p + 1 = k
      · exact ⟨y, by rw [e]; exact hy, Int.le_refl _⟩
      · have hl1 : p + 1 < l.length := by omega
        have hz : l[p + 1]? = some l[p + 1] := List.getElem?_eq_getElem hl1
        have h := u4 (p + 1) (by omega) (by omega)
        rw [Ro.dep_at hz] at h
        exact ⟨_, hz, h⟩
    obtain ⟨z, hz, hzd⟩ := hn
    have hst := step_next l 0 hr p x z hx hz
    have hk0 : x.kind = 0 := by
      by_cases e : x.kind = 0
      · exact e
      · rw [if_neg e] at hst; omega
    rw [if_pos hk0] at hst
    have hyd : y.depth = x.depth + 1 := by omega
    have htk : l.take k = l.take (p + 1) ++ (l.take k).drop (p + 1) := by
      have h := List.take_append_drop (p + 1) (l.take k)
      rw [List.take_take, Nat.min_eq_left (by omega)] at h
      exact h.symm
    have hQ : pathFrom [] (l.take (p + 1)) = (pathFrom [] (l.take p)).take x.depth.toNat ++ [x.name] := by
      rw [List.take_succ_eq_append_getElem hpl, pathFrom_snoc, hxe]
      unfold pathStep
      rw [if_pos hk0]
    have hql : (pathFrom [] (l.take (p + 1))).length = y.depth.toNat := by
      rw [hQ, List.length_append, List.length_take]
      show _ + 1 = _
      omega
    have hmid : ∀ v ∈ (l.take k).drop (p + 1), (y.depth.toNat : Int) ≤ v.depth := fun v hv => by
      obtain ⟨i, hi, he⟩ := List.getElem_of_mem hv
      rw [List.length_drop, List.length_take] at hi
      have hvi : l[p + 1 + i]? = some v := by
        rw [List.getElem_drop, List.getElem_take] at he
        rw [← he]
        exact List.getElem?_eq_getElem (by omega)
      have h := u4 (p + 1 + i) (by omega) (by omega)
      rw [Ro.dep_at hvi] at h
      omega
    obtain ⟨k1, k2⟩ := path_keep ((l.take k).drop (p + 1)) (pathFrom [] (l.take (p + 1))) y.depth.toNat hmid (by omega)
    rw [htk, path_app, k1, ← hQ, List.take_of_length_le (by omega)]

/-- The kids of an element, by what it has. -/
theorem kids_form {d : Int} {k : Nat} {K : List Ro} (hr : Ro.rightFrom (d + 1) K = true) (hd : ∀ z ∈ K, d < z.depth) :
    (K = [] ∧ kidsFrom (d + 1) k K = []) ∨ (∃ z, K = [z] ∧ kidsFrom (d + 1) k K = [k]) ∨ ∃ z u t q, K = z :: u :: t ∧ kidsFrom (d + 1) k K = k :: q ∧ (z.kind = 1 → q ≠ []) := by
  rcases K with _ | ⟨z, _ | ⟨u, t⟩⟩
  · exact .inl ⟨rfl, rfl⟩
  · have := (root_depth hr hd).1
    exact .inr (.inl ⟨z, rfl, by rw [kidsFrom, if_pos this, kidsFrom]⟩)
  · obtain ⟨h1, h2⟩ := root_depth hr hd
    refine .inr (.inr ⟨z, u, t, _, rfl, by rw [kidsFrom, if_pos h1], fun hk => ?_⟩)
    have hu := h2 (by omega) u rfl
    rw [kidsFrom, if_pos hu]
    simp

end Go.Proofs.YteafldginkpgoaaGreat.Wm

namespace Go.Proofs.YteafldginkpgoaaGreat.Wr
set_option maxRecDepth 100000
set_option linter.unusedSimpArgs false
set_option linter.unusedVariables false
open Go.RowKit Ba Fm Fo Nm Wm Bm
open Ro (At Ro Cw ros rowO rowV below_new range2 range5 cells Rv)
/-- The elements around node k. -/
def pathAt (l : List Ro) (k : Nat) (d : Int) : List ByteArray := (pathFrom [] (l.take k)).take d.toNat
theorem dep_row {l : List Ro} {k : Nat} {y : Ro} (hy : l[k]? = some y) (hk : k < l.length) : Ro.parent l (k : Int) = Ro.up l y.depth k := by
  unfold Ro.parent
  have hh : Ro.hasRow l k = true := by unfold Ro.hasRow; exact decide_eq_true ⟨by omega, by omega⟩
  rw [hh, if_pos rfl, Ro.dep_at hy, Int.toNat_natCast]
set_option maxRecDepth 100000 in
set_option maxHeartbeats 2000000 in
theorem around1 (n : Nat) : ∀ (v : Value) (x : List Cw) (k : Nat) (y : Ro) (w : World) (q : List ByteArray), k ≤ n → Rv w v x → x.length ≤ 1000 → Ro.right (ros x) = true → (ros x)[k]? = some y → pathAt (ros x) k y.depth = q →
    Calls Tryz.prog 26 #[v, .int .i64 k] w fun e w' => ∃ u, e = .returned u ∧ Sown w.heap.size w' u q ∧ Below w.heap.size w w' := by
  induction n using Nat.strongRecOn with
  | ind n ih =>
    intro v x k y w q hkn h hl hr hy hq
    have hkl : k < (ros x).length := (List.getElem?_eq_some_iff.1 hy).1
    rw [Ro.len_ros] at hkl
    obtain ⟨A, c, rfl, hc, hm, hrr, hh⟩ := id h
    have hpar := dep_row hy (by rw [Ro.len_ros]; exact hkl)
    obtain ⟨u1, u2⟩ := path_up hr hy
    obtain ⟨p, hp⟩ : ∃ p, Ro.parent (ros x) (k : Int) = p := ⟨_, rfl⟩
    rw [← hpar, hp] at u1 u2
    have HV := Lib.hid h; have HR := Lib.hid hr; have HP := Lib.hid hp; have HRR := Lib.hid hrr; have HQ := Lib.hid hq; have U1 := Lib.hid u1; have U2 := Lib.hid u2
    clear h hr hp hrr hq u1 u2 hpar hh
    go_enter Tryz.func26, Tryz.ntmps26
    go_wp2_with fail
    refine (Ro.refParent1 _ x k w p HV.out hl HR.out HP.out).mono ?_
    rintro e w1 ⟨rfl, hb1⟩
    have HB1 := Lib.hid hb1
    clear hb1
    by_cases hneg : p < 0
    · have hd : decide (p < 0) = true := decide_eq_true hneg
      have hq0 : q = [] := by rw [← HQ.out]; exact U1.out hneg
      subst hq0
      clear hneg
      go_wp2
      go_ret
      exact ⟨_, rfl, (Sown.made w1).mono HB1.out.size, bt HB1.out (below_new w1 _)⟩
    · obtain ⟨j, rfl⟩ : ∃ j : Nat, p = (j : Int) := ⟨p.toNat, by omega⟩
      have hd : decide ((j : Int) < 0) = false := decide_eq_false hneg
      obtain ⟨z, hz, hjk, hpath⟩ := U2.out j rfl
      have hjl : j < x.length := by omega
      obtain ⟨b, off, yc, hA, hb, hdy, hyy, hya, hym⟩ := Ro.Rr.at_ HRR.out j hjl
      have hzy : yc.ro = z := by
        have := ros_get hdy
        rw [hz] at this
        injection this with this
        exact this.symm
      obtain ⟨c0, c1, c2, c3, c4⟩ := range5 hyy
      obtain ⟨q1, hq1⟩ : ∃ q1, pathAt (ros x) j z.depth = q1 := ⟨_, rfl⟩
      have hqq : q = q1 ++ [yc.ro.name] := by
        rw [← HQ.out, ← hq1, hzy]
        exact hpath
      have hq1l : q1.length ≤ 1000000 := by
        have hd := Ro.right_deep HR.out (by rw [Ro.len_ros]; exact hl) z (List.mem_of_getElem? hz)
        rw [← hq1]
        unfold pathAt
        rw [List.length_take]
        omega
      subst hA
      have HQ1 := Lib.hid hq1; have C2 := Lib.hid c2; have HZ := Lib.hid hz; have HQQ := Lib.hid hqq
      clear hneg hpath hdy hyy hya hym hzy c0 c1 c2 c3 c4 hq1 hz hqq
      go_wp2_with fail
      refine (ih j (by omega) _ x j z w1 q1 (Nat.le_refl _) (HV.out.below HB1.out) hl HR.out HZ.out HQ1.out).mono ?_
      rintro e w2 ⟨u2, rfl, ho2, hb2⟩
      have HO2 := Lib.hid ho2; have HB2 := Lib.hid (bt HB1.out hb2)
      have hcell := ((bt HB1.out hb2).cell (p := ⟨b, off + j * 5 + 2, none⟩) hb).trans C2.out
      have hjd : decide (j < x.length) = true := decide_eq_true hjl
      have hbd : (q1.length + 1) * 16 ≤ 140737488355328 := by omega
      clear ho2 hb2
      obtain ⟨A2, cc2, rfl, hc2, hm2, hr2⟩ := HO2.out.form
      have HOM := Lib.hid (HO2.out.mono HB1.out.size)
      clear hr2
      go_wp2_with (at_builtin; refine app_one w2 rfl (.tmp 16) (.tmp 22) rfl w.heap.size _ q1 yc.ro.name rfl HOM.out rfl hbd HB2.out.size ?_; intro v6 w6 hown6 hk6 _)
      go_ret
      exact ⟨v6, rfl, by rw [HQQ.out]; exact hown6, hk6 _ HB2.out⟩

end Go.Proofs.YteafldginkpgoaaGreat.Wr

namespace Go.Proofs.YteafldginkpgoaaGreat.Ro
set_option linter.unusedVariables false
set_option linter.unusedSimpArgs false
open Go.RowKit Ba
/-- All depths are at least d, and where something stands, the first is just d. -/
def Forest (d : Int) (r : List Ro) : Prop := (∀ y ∈ r, d ≤ y.depth) ∧ ∀ y, r.head? = some y → y.depth = d
/-- How many rows the first tree has besides its root. -/
def more (d : Int) (r : List Ro) : Nat := (r.takeWhile fun y => decide (d < y.depth)).length
theorem forest_next {d : Int} {x : Ro} {r : List Ro} (h : Forest d (x :: r)) : x.depth = d ∧ Forest d (r.drop (more d r)) ∧ more d r ≤ r.length := by
  refine ⟨h.2 x rfl, ⟨fun y hy => h.1 y (List.mem_cons_of_mem _ (List.mem_of_mem_drop hy)), fun y hy => ?_⟩, (List.takeWhile_sublist _).length_le⟩
  have h1 := stops (fun y : Ro => decide (d < y.depth)) r y hy
  have h2 := h.1 y (List.mem_cons_of_mem _ (List.mem_of_mem_drop (i := more d r) (List.mem_of_mem_head? hy)))
  simp at h1
  omega
theorem kids_skip (d : Int) : ∀ (n : Nat) (r : List Ro) (k : Nat), (∀ y ∈ r.take n, d < y.depth) → n ≤ r.length → kidsFrom d k r = kidsFrom d (k + n) (r.drop n)
  | 0, r, k, _, _ => rfl
  | n + 1, [], k, _, h => absurd h (by simp)
  | n + 1, x :: r, k, h, hn => by
    have h0 := h x (by simp)
    rw [kids_miss (by omega), kids_skip d n r (k + 1) (fun y hy => h y (by rw [List.take_succ_cons]; exact List.mem_cons_of_mem _ hy)) (by simpa using hn)]
    rw [show k + 1 + n = k + (n + 1) by omega, List.drop_succ_cons]
theorem kids_forest {d : Int} {x : Ro} {r : List Ro} (h : Forest d (x :: r)) (k : Nat) : kidsFrom d k (x :: r) = k :: kidsFrom d (k + 1 + more d r) (r.drop (more d r)) := by
  obtain ⟨h1, _, h3⟩ := forest_next h
  rw [kids_hit h1, kids_skip d (more d r) r (k + 1) (fun y hy => by
    have := takes (fun y : Ro => decide (d < y.depth)) r y hy
    simpa using this) h3]

end Go.Proofs.YteafldginkpgoaaGreat.Ro

namespace Go.Proofs.YteafldginkpgoaaGreat.Bu
set_option maxRecDepth 100000
set_option linter.unusedVariables false
set_option linter.unusedSimpArgs false
open Go.RowKit Ba Fm Fo Nm Bm
theorem Sv.up3 {w w' : World} {v : Value} {l : List ByteArray} (h : Sv w w.heap.size v l) (hb : Below w.heap.size w w') : Sv w' w'.heap.size v l := (h.below hb (Nat.le_refl _)).more hb.size
theorem refHas1 (V : Value) (l : List ByteArray) (s : ByteArray) (w : World) (h : Sv w w.heap.size V l) (hl : l.length ≤ 1000) (q : Bool) (hq : isIn s l = q) :
    Calls Tryz.prog 23 #[V, .string s] w fun e w' => e = .returned (.bool q) ∧ w = w' := by
  obtain ⟨A, c, rfl, _, _, hr⟩ := h
  subst hq
  exact has_any A c w.heap.size l s w hr (by omega)
theorem idx_hit {ns ws o : List ByteArray} {k : Nat} (hk : k < o.length) (h : isIn o[k] ns = true) : idx ns ws (o.take (k + 1)) = k := by
  unfold idx
  rw [found_hit (List.getElem?_eq_getElem hk) h]
  show ((o.take k).reverse.length : Int) = k
  rw [List.length_reverse, List.length_take]
  omega
theorem idx_wall {ns ws o : List ByteArray} {k : Nat} (hk : k < o.length) (h : isIn o[k] ns = false) (h' : isIn o[k] ws = true) : idx ns ws (o.take (k + 1)) = -1 := by
  unfold idx
  rw [found_wall (List.getElem?_eq_getElem hk) h h']
theorem idx_past {ns ws o : List ByteArray} {k : Nat} (hk : k < o.length) (h : isIn o[k] ns = false) (h' : isIn o[k] ws = false) : idx ns ws (o.take (k + 1)) = idx ns ws (o.take k) := by
  unfold idx
  rw [found_past (List.getElem?_eq_getElem hk) h h']

set_option maxRecDepth 100000 in
set_option maxHeartbeats 1000000 in
theorem refFound_any (A : Option Addr) (c : Nat) (V1 V2 : Value) (l ns ws : List ByteArray) (w : World) (hm : l.length ≤ 1000000) (hr : Rd w w.heap.size A l) (h1 : Sv w w.heap.size V1 ns) (h2 : Sv w w.heap.size V2 ws) (hn1 : ns.length ≤ 1000) (hn2 : ws.length ≤ 1000) :
    Calls Tryz.prog 94 #[.slice A l.length c, V1, V2] w fun e w' => e = .returned (.int .i64 (idx ns ws l)) ∧ w = w' := by
  obtain ⟨q, hq⟩ : ∃ q, idx ns ws l = q := ⟨_, rfl⟩
  rw [hq]
  have h0 : idx ns ws (l.take l.length) = q := by rw [List.take_length]; exact hq
  have HV1 := Lib.hid h1; have HV2 := Lib.hid h2; have H0 := Lib.hid h0
  clear h1 h2 hq h0
  go_enter Tryz.func94, Tryz.ntmps94
  go_wp2
  go_loop [7] (fun v => ∃ (k : Nat) (i : Int), v = .int .i64 i ∧ i + 1 = k ∧ k ≤ l.length ∧ idx ns ws (l.take k) = q) (fun v => (intOf v + 1).toNat)
  case atStart => exact ⟨l.length, _, rfl, by omega, Nat.le_refl _, H0.out⟩
  case round =>
    obtain ⟨k, i, rfl, hi, hk, hix⟩ := hrel
    by_cases hp : 0 < k
    · obtain ⟨m, rfl⟩ : ∃ m, k = m + 1 := ⟨k - 1, by omega⟩
      obtain rfl : i = (m : Int) := by omega
      have hml : m < l.length := by omega
      obtain ⟨b, off, rfl, hb, hc⟩ := hr (by omega)
      have hcell := hc m hml
      have hge : decide ((0 : Int) ≤ (m : Int)) = true := decide_eq_true (by omega)
      clear hr hc
      cases hx : isIn l[m] ns with
      | true =>
        rw [idx_hit hml hx] at hix
        have HIX := Lib.hid hix; have HX := Lib.hid hx
        clear hix hx
        go_wp2_with fail
        refine (refHas1 V1 ns _ w HV1.out hn1 true HX.out).mono ?_
        rintro e w1 ⟨rfl, rfl⟩
        go_wp2
        go_ret
        exact ⟨by rw [← HIX.out]; rfl, rfl⟩
      | false =>
      cases hy : isIn l[m] ws with
      | true =>
        rw [idx_wall hml hx hy] at hix
        have HIX := Lib.hid hix; have HX := Lib.hid hx; have HY := Lib.hid hy
        clear hix hx hy
        go_wp2_with fail
        refine (refHas1 V1 ns _ w HV1.out hn1 false HX.out).mono ?_
        rintro e w1 ⟨rfl, rfl⟩
        go_wp2_with fail
        refine (refHas1 V2 ws _ w HV2.out hn2 true HY.out).mono ?_
        rintro e w1 ⟨rfl, rfl⟩
        go_wp2
        go_ret
        exact ⟨by rw [← HIX.out]; rfl, rfl⟩
      | false =>
        rw [idx_past hml hx hy] at hix
        have HIX := Lib.hid hix; have HX := Lib.hid hx; have HY := Lib.hid hy
        clear hix hx hy
        go_wp2_with fail
        refine (refHas1 V1 ns _ w HV1.out hn1 false HX.out).mono ?_
        rintro e w1 ⟨rfl, rfl⟩
        go_wp2_with fail
        refine (refHas1 V2 ws _ w HV2.out hn2 false HY.out).mono ?_
        rintro e w1 ⟨rfl, rfl⟩
        go_wp2
        go_round
        case rel => exact ⟨m, _, rfl, by omega, by omega, HIX.out⟩
        case measure => simp [intOf]
    · obtain rfl : k = 0 := by omega
      obtain rfl : i = -1 := by omega
      have HIX := Lib.hid hix
      clear hix
      go_wp2
      go_ret
      exact ⟨by rw [← HIX.out]; rfl, rfl⟩

theorem refFound1 (V V1 V2 : Value) (l ns ws : List ByteArray) (w : World) (hm : l.length ≤ 1000000) (A : Option Addr) (c : Nat) (hV : V = .slice A l.length c) (hr : Rd w w.heap.size A l) (h1 : Sv w w.heap.size V1 ns) (h2 : Sv w w.heap.size V2 ws) (hn1 : ns.length ≤ 1000) (hn2 : ws.length ≤ 1000) (i : Int) (hi : idx ns ws l = i) :
    Calls Tryz.prog 94 #[V, V1, V2] w fun e w' => e = .returned (.int .i64 i) ∧ w = w' := by
  subst hV; subst hi
  exact refFound_any A c V1 V2 l ns ws w hm hr h1 h2 hn1 hn2

set_option maxRecDepth 100000 in
set_option maxHeartbeats 1000000 in
theorem refClosed_any (V V1 V2 : Value) (l ns ws : List ByteArray) (w : World) (hm : l.length ≤ 1000000) (h0 : Sv w w.heap.size V l) (h1 : Sv w w.heap.size V1 ns) (h2 : Sv w w.heap.size V2 ws) (hn1 : ns.length ≤ 1000) (hn2 : ws.length ≤ 1000) :
    Calls Tryz.prog 79 #[V, V1, V2] w fun e w' => ∃ v, e = .returned v ∧ Sown w.heap.size w' v (closedS ns ws l.reverse).reverse ∧ Below w.heap.size w w' := by
  obtain ⟨A, c, rfl, hc, hA, hr⟩ := h0
  have HV1 := Lib.hid h1; have HV2 := Lib.hid h2; have HR := Lib.hid hr
  clear h1 h2 hr
  obtain ⟨i, hi⟩ : ∃ i, idx ns ws l = i := ⟨_, rfl⟩
  go_enter Tryz.func79, Tryz.ntmps79
  go_wp2_with fail
  refine (refFound1 _ V1 V2 l ns ws w hm A c rfl HR.out HV1.out HV2.out hn1 hn2 i hi).mono ?_
  rintro e w1 ⟨rfl, rfl⟩
  have HI := Lib.hid hi
  clear hi
  go_wp2
  go_loop [0, 7] (fun v x => ∃ (k : Nat) (j : Int), v = .slice A k c ∧ x = .int .i64 j ∧ k ≤ l.length ∧ idx ns ws (l.take k) = j ∧ closedS ns ws (l.take k).reverse = closedS ns ws l.reverse) (fun v _ => lenOf v)
  case atStart => exact ⟨l.length, i, rfl, rfl, Nat.le_refl _, by rw [List.take_length]; exact HI.out, by rw [List.take_length]⟩
  case round =>
    obtain ⟨k, j, rfl, rfl, hk, hj, hcl⟩ := hrel
    rcases idx_take (ns := ns) (ws := ws) (o := l.take k) with ⟨e1, e2⟩ | ⟨m, e1, hmk, e2⟩
    · rw [hj] at e1
      subst e1
      rw [closedS_no e2] at hcl
      have hfin : (closedS ns ws l.reverse).reverse = l.take k := by rw [← hcl, List.reverse_reverse]
      have HFIN := Lib.hid hfin
      have hkl : (l.take k).length = k := by rw [List.length_take]; omega
      have hs0 := Sown.made w
      have HS0 := Lib.hid hs0; have HKL := Lib.hid hkl
      clear hcl hj e2 hs0 hkl hfin
      go_wp2_with (at_builtin; refine app_all _ rfl (.tmp 21) (.tmp 22) rfl w.heap.size _ [] (l.take k) A c w.heap.size rfl HS0.out (by rw [HKL.out]; rfl) hA ((HR.out.take k).below (below_one w _) (Nat.le_refl _)) (by rw [HKL.out]; simp; omega) (by simp) ?_; intro v' w' hown' hk' _)
      go_ret
      exact ⟨v', rfl, by rw [HFIN.out]; exact hown', hk' w (below_one w _)⟩
    · rw [hj] at e1
      subst e1
      have hlk : (l.take k).length = k := by rw [List.length_take]; omega
      rw [hlk] at hmk
      have et : (l.take k).take m = l.take m := by rw [List.take_take, Nat.min_eq_left (by omega)]
      rw [closedS_yes e2, et] at hcl
      have hge : decide ((0 : Int) ≤ (m : Int)) = true := decide_eq_true (by omega)
      have hml : (l.take m).length = m := by rw [List.length_take]; omega
      obtain ⟨i2, hi2⟩ : ∃ i, idx ns ws (l.take m) = i := ⟨_, rfl⟩
      have HC := Lib.hid hcl; have HML := Lib.hid hml; have HI2 := Lib.hid hi2
      clear hcl hj e2 hml hi2 et hlk
      have hm0 : (0 : Int) ≤ (m : Int) := by omega
      have hmc : (m : Int) ≤ (c : Int) := by omega
      go_wp2_with fail
      refine (refFound1 _ V1 V2 (l.take m) ns ws w (by rw [HML.out]; omega) A c (by rw [HML.out]) (HR.out.take m) HV1.out HV2.out hn1 hn2 i2 HI2.out).mono ?_
      rintro e w4 ⟨rfl, rfl⟩
      go_wp2
      go_round
      case rel => exact ⟨m, i2, rfl, rfl, by omega, HI2.out, HC.out⟩
      case measure => simp [lenOf]; omega

theorem para1 (n : ByteArray) (w : World) (q : Bool) (hq : para n = q) : Calls Tryz.prog 82 #[.string n] w fun e w' => e = .returned (.bool q) ∧ w = w' := by
  cases q with
  | true =>
    rcases para_true hq with q1 | ⟨q1, q2⟩ | ⟨q1, q2, q3⟩
    all_goals
      clear hq
      go_enter Tryz.func82, Tryz.ntmps82
      go_wp2
      go_ret
      exact ⟨rfl, rfl⟩
  | false =>
    obtain ⟨q1, q2, q3⟩ := para_false hq
    clear hq
    go_enter Tryz.func82, Tryz.ntmps82
    go_wp2
    go_ret
    exact ⟨rfl, rfl⟩

set_option maxRecDepth 100000 in
set_option maxHeartbeats 1000000 in
theorem refOpened_any (V : Value) (l : List ByteArray) (n : ByteArray) (w : World) (hm : l.length ≤ 1000000) (h0 : Sv w w.heap.size V l) :
    Calls Tryz.prog 55 #[V, .string n] w fun e w' => ∃ v, e = .returned v ∧ Sown w.heap.size w' v (openedS n l.reverse).reverse ∧ Below w.heap.size w w' := by
  have hL1 := closes_len n
  have hL2 := walls_len n
  have HV := Lib.hid h0
  clear h0
  go_enter Tryz.func55, Tryz.ntmps55
  go_wp2_with fail
  refine (Na.refCloses_any n w).mono ?_
  rintro e w1 ⟨V1, rfl, s1, b1⟩
  go_wp2_with fail
  refine (Na.refWalls_any n w1).mono ?_
  rintro e w2 ⟨V2, rfl, s2, b2⟩
  have B2 := bt b1 b2
  have v1 : Sv w2 w2.heap.size V1 (closesL n) := sv_own (s1.below b2 (Nat.le_refl _))
  go_wp2_with fail
  refine (refClosed_any V V1 V2 l (closesL n) (wallsL n) w2 hm ((HV.out.below B2 (Nat.le_refl _)).more B2.size) v1 (sv_own s2) hL1 hL2).mono ?_
  rintro e w3 ⟨V3, rfl, s3, b3⟩
  have B3 := bt B2 b3
  obtain ⟨o, ho⟩ : ∃ o, (closedS (closesL n) (wallsL n) l.reverse).reverse = o := ⟨_, rfl⟩
  rw [ho] at s3
  have hor : closedS (closesL n) (wallsL n) l.reverse = o.reverse := by rw [← ho, List.reverse_reverse]
  have hol : o.length ≤ 1000000 := by
    rw [← ho, List.length_reverse]
    have := (closedS_end (closesL n) (wallsL n) l.reverse).2.length_le
    rw [List.length_reverse] at this
    omega
  have HS3 := Lib.hid s3; have HB3 := Lib.hid B3; have HOR := Lib.hid hor
  have hsz := B2.size
  clear s1 s2 s3 b1 b2 b3 B2 B3 v1 ho hor HV
  cases hp : para n with
  | true =>
    have HO := Lib.hid (opened_yes hp l.reverse)
    go_wp2_with fail
    refine (para1 n w3 true hp).mono ?_
    rintro e w4 ⟨rfl, rfl⟩
    go_wp2_with fail
    refine (Na.refWalls_any n_p (w3.alloc (.cells #[.string n_p] 9))).mono ?_
    rintro e w5 ⟨V5, rfl, s5, b5⟩
    have hb5 := bt (below_one w3 (.cells #[.string n_p] 9)) b5
    have v3 : Sv w5 w5.heap.size V3 o := Sv.up3 (sv_own HS3.out) hb5
    have vp : Sv w5 w5.heap.size (.slice (some ⟨w3.heap.size, 0, none⟩) 1 1) [n_p] := Sv.up3 (sv_lit w3 [n_p]) b5
    go_wp2_with fail
    refine (refClosed_any V3 _ V5 o [n_p] (wallsL n_p) w5 hol v3 vp (sv_own s5) (by simp) (walls_len _)).mono ?_
    rintro e w6 ⟨V6, rfl, s6, b6⟩
    have HS6 := Lib.hid s6; have HB6 := Lib.hid (bt HB3.out (bt hb5 b6))
    have hz5 := hb5.size
    have hz3 := HB3.out.size
    clear s5 b5 hb5 v3 vp s6 b6
    go_wp2
    go_ret
    refine ⟨V6, rfl, ?_, HB6.out⟩
    rw [HO.out, HOR.out]
    exact HS6.out.mono (by omega)
  | false =>
    have HO := Lib.hid (opened_no hp l.reverse)
    go_wp2_with fail
    refine (para1 n w3 false hp).mono ?_
    rintro e w4 ⟨rfl, rfl⟩
    go_wp2
    go_ret
    refine ⟨V3, rfl, ?_, HB3.out⟩
    rw [HO.out, HOR.out, List.reverse_reverse]
    exact HS3.out.mono hsz

theorem refNested_any (n : ByteArray) (V : Value) (l : List ByteArray) (w : World) (hm : l.length ≤ 1000000) (h : Sv w w.heap.size V l) (q : Bool) (hq : nestedB n l = q) :
    Calls Tryz.prog 25 #[.string n, V] w fun e w' => e = .returned (.bool q) ∧ Below w.heap.size w w' := by
  have HV := Lib.hid h
  obtain ⟨A, c, rfl, hc, _, hr⟩ := h
  go_enter Tryz.func25, Tryz.ntmps25
  go_wp2_with fail
  refine (refOpened_any _ l n w hm HV.out).mono ?_
  rintro e w1 ⟨v, rfl, hs, b1⟩
  obtain ⟨A2, c2, hv, _⟩ := hs.form
  subst hv
  obtain ⟨k, hk⟩ : ∃ k, (openedS n l.reverse).reverse.length = k := ⟨_, rfl⟩
  rw [hk]
  have he : ((k : Int) == (l.length : Int)) = q := by
    rw [← hq, nestedB, ← hk, List.length_reverse, Bool.eq_iff_iff, beq_iff_eq, decide_eq_true_iff]
    omega
  have HB := Lib.hid b1
  clear b1 hs hq hk
  go_wp2
  go_ret
  exact ⟨rfl, HB.out⟩

end Go.Proofs.YteafldginkpgoaaGreat.Bu
