/-
  Walks of stage 1: boltingref01.Right and boltingref01.Sample: each returns what the plain function of CharsSpec says.
-/
import Derived.Test.YtadhgngeonkfcaaCharsWalkE
namespace Go.Proofs.Ytadhgngeonkfcaa.Ch
open Go.RowKit

set_option maxHeartbeats 400000 in
theorem refRight_any (s : ByteArray) (w : World) (hs : s.size ≤ 9223372036854775800) :
    Calls Try.prog 16 #[.string s] w fun e w' => e = .returned (.bool (rL (L s))) ∧ w = w' := by
  go_enter Try.func16, Try.ntmps16
  go_wp2
  go_loopw [3, 4] (fun i _ wr => ∃ k : Nat, i = .int .i64 k ∧ k ≤ s.size ∧ rL ((L s).drop k) = rL (L s) ∧ w = wr) (fun i _ _ => s.size - (intOf i).toNat)
  case atStart => exact ⟨0, rfl, Nat.zero_le _, by simp, rfl⟩
  case round =>
    obtain ⟨k, rfl, hks, hc, rfl⟩ := hrel
    by_cases hp : k < s.size
    · have hne := drop_ne s k hp
      have hr := rL_sz _ hne
      have hle := sz_le _ hne
      rw [List.length_drop, size_L] at hle
      rw [hr, List.drop_drop] at hc
      clear hne hr
      by_cases hz : sz ((L s).drop k) = 0
      · have hzb : ((sz ((L s).drop k) : Int) == 0) = true := by rw [hz]; rfl
        rw [if_pos hz] at hc
        have HC := Lib.hid hc; clear hc hz
        go_wp2_with (go_at_call 23; refine (size_any s k _ hp hs).mono ?_; rintro e w' ⟨rfl, rfl⟩)
        go_ret
        exact ⟨ret_bool HC.out, rfl⟩
      · have hzb : ((sz ((L s).drop k) : Int) == 0) = false := by simpa using hz
        rw [if_neg hz] at hc
        have hzp : 1 ≤ sz ((L s).drop k) := by omega
        have HC := Lib.hid hc; clear hc hz
        go_wp2_with (go_at_call 23; refine (size_any s k _ hp hs).mono ?_; rintro e w' ⟨rfl, rfl⟩)
        go_roundw
        case rel => exact ⟨k + sz ((L s).drop k), by go_num, by omega, HC.out, by trivial⟩
        case measure => simp [intOf]; omega
    · rw [drop_nil s k hp, rL_nil] at hc
      have HC := Lib.hid hc; clear hc
      go_wp2
      go_ret
      exact ⟨ret_bool HC.out, rfl⟩

theorem ret_si {a b : ByteArray} {k : IntKind} {x y : Int} (h : a = b) (h' : x = y) : Ending.returned (.tuple #[.string a, .int k x]) = .returned (.tuple #[.string b, .int k y]) := by rw [h, h']

theorem mx (e z : Nat) : ((e : Int) + if 1 < (z : Int) then (z : Int) else 1) = ((e + max 1 z : Nat) : Int) := by
  split <;> omega

set_option maxRecDepth 100000 in
set_option maxHeartbeats 1000000 in
theorem refSample_any (s : ByteArray) (n : Int) (w : World) (hs : s.size ≤ 9223372036854775800) (hn : (Lit.int .i64 n).wf = true) :
    Calls Try.prog 11 #[.string s, .int .i64 n] w fun e w' => e = .returned (.tuple #[.string (B (smp (L s) n.toNat)), .int .i64 (cL (L s))]) ∧ w = w' := by
  have hn1 : -9223372036854775808 ≤ n ∧ n ≤ 9223372036854775807 := by simpa [Lit.wf, IntKind.min, IntKind.bits, IntKind.signed] using hn
  obtain ⟨hnl, hnh⟩ := hn1
  have hcl := (cL_le (L s)).1
  have hsl := size_L s
  have hcs : cL (L s) ≤ s.size := by omega
  clear hcl hsl
  go_enter Try.func11, Try.ntmps11
  go_wp2
  go_loopw [6, 7, 8] (fun vk ve vi wr => ∃ k e i : Nat, vk = .int .i64 k ∧ ve = .int .i64 e ∧ vi = .int .i64 i ∧ i ≤ s.size ∧ e ≤ s.size ∧ k + cL ((L s).drop i) = cL (L s) ∧ (k ≤ n.toNat → e = i) ∧ (L s).take e ++ smp ((L s).drop i) (n.toNat - k) = smp (L s) n.toNat ∧ w = wr) (fun _ _ vi _ => s.size - (intOf vi).toNat)
  case atStart => exact ⟨0, 0, 0, rfl, rfl, rfl, Nat.zero_le _, Nat.zero_le _, by simp, fun _ => rfl, by simp, rfl⟩
  case round =>
    obtain ⟨k, e, i, rfl, rfl, rfl, his, hes, hc, hei, ht, rfl⟩ := hrel
    by_cases hp : i < s.size
    · have hne := drop_ne s i hp
      have hle := sz_le _ hne
      have hsd := sz_dec _ hne
      rw [List.length_drop, size_L] at hle
      rw [cL_step _ hne, hsd, List.drop_drop] at hc
      have hk1 : k + 1 ≤ s.size := by omega
      by_cases hkn : (k : Int) < n
      · obtain rfl : e = i := hei (by omega)
        rw [show n.toNat - k = (n.toNat - (k + 1)) + 1 from by omega, smp_step _ hne, hsd, List.drop_drop, ← List.append_assoc, ← List.take_add] at ht
        have HC := Lib.hid hc; have HT := Lib.hid ht; have HE := Lib.hid hei
        clear hc ht hei hne hsd
        go_wp2_with (go_at_call 23; refine (size_any s e _ hp hs).mono ?_; rintro e w' ⟨rfl, rfl⟩)
        go_roundw
        case rel => exact ⟨k + 1, e + max 1 (sz ((L s).drop e)), e + max 1 (sz ((L s).drop e)), by go_num, by rw [mx], by rw [mx], by omega, by omega, by have := HC.out; omega, fun _ => rfl, HT.out, by trivial⟩
        case measure => rw [mx]; simp [intOf]; omega
      · rw [show n.toNat - k = 0 from by omega, smp_zero] at ht
        have ht' : (L s).take e ++ smp ((L s).drop (i + max 1 (sz ((L s).drop i)))) (n.toNat - (k + 1)) = smp (L s) n.toNat := by
          rw [show n.toNat - (k + 1) = 0 from by omega, smp_zero]; exact ht
        have HC := Lib.hid hc; have HT := Lib.hid ht'
        clear hc ht hei hne hsd ht'
        go_wp2_with (go_at_call 23; refine (size_any s i _ hp hs).mono ?_; rintro e w' ⟨rfl, rfl⟩)
        go_roundw
        case rel => exact ⟨k + 1, e, i + max 1 (sz ((L s).drop i)), by go_num, rfl, by rw [mx], by omega, by omega, by have := HC.out; omega, fun _ => by omega, HT.out, by trivial⟩
        case measure => rw [mx]; simp [intOf]; omega
    · rw [drop_nil s i hp, cL_nil] at hc
      rw [drop_nil s i hp, smp_nil, List.append_nil] at ht
      have HC := Lib.hid hc; have HT := Lib.hid ht; have HE := Lib.hid hei
      clear hc ht hei
      go_wp2
      go_ret2
      have h1 : s.extract 0 e = B (smp (L s) n.toNat) := B_of (by rw [L_extract, ← HT.out]; simp)
      have h2 : k = cL (L s) := by have := HC.out; omega
      exact ⟨ret_si h1 (by rw [h2]), rfl⟩

theorem cell_three_new (w : World) (a b c : Value) (t : TypeId) : ∀ j u, [a, b, c][j]? = some u → (w.alloc (.cells #[a, b, c] t)).cell? ((⟨w.heap.size, 0, none⟩ : Addr).add j) = some u := by
  intro j u hj
  match j, hj with
  | 0, hj => simp at hj; subst hj; simp [Addr.add]
  | 1, hj => simp at hj; subst hj; simp [Addr.add]
  | 2, hj => simp at hj; subst hj; simp [Addr.add]
  | j + 3, hj => simp at hj

end Go.Proofs.Ytadhgngeonkfcaa.Ch
