/-
  fold.Words and boltingref02.Words, over FoldLow.
-/
import Derived.Test.YthgpjhblbpiagaaFoldLow
namespace Go.Proofs.Ythgpjhblbpiagaa.Fo
set_option maxRecDepth 100000
set_option linter.unusedSimpArgs false
set_option linter.unusedVariables false
open Go.RowKit Ba Fm

/-- The words of a string. -/
def wds (s : ByteArray) : List ByteArray := (wL [] (L s)).map B
theorem len_wds (s : ByteArray) : (wds s).length ≤ s.size := by
  unfold wds
  rw [List.length_map]
  have := (len_wL (L s) []).2 rfl
  rw [size_L] at this
  exact this

def cut (s : ByteArray) (st k : Nat) : List UInt8 := ((L s).drop st).take (k - st)
theorem cut_self (s : ByteArray) (k : Nat) : cut s k k = [] := by unfold cut; rw [Nat.sub_self, List.take_zero]
theorem cut_succ (s : ByteArray) (st k : Nat) (h1 : st ≤ k) (h2 : k < s.size) : cut s st (k + 1) = cut s st k ++ [s[k]] := by
  unfold cut
  have e : k + 1 - st = (k - st) + 1 := by omega
  rw [e, List.take_succ_eq_append_getElem (by rw [List.length_drop, size_L]; omega)]
  congr 2
  rw [List.getElem_drop]
  have : st + (k - st) = k := by omega
  simp only [this]
  rfl
theorem cut_ne (s : ByteArray) (st k : Nat) (h1 : st < k) (h2 : k ≤ s.size) : cut s st k ≠ [] := by
  intro e
  have := congrArg List.length e
  unfold cut at this
  rw [List.length_take, List.length_drop, size_L] at this
  simp at this
  omega
theorem extract_cut (s : ByteArray) (st k : Nat) : s.extract st k = B (cut s st k) := B_of (L_extract s st k)

theorem bdw {acc : List ByteArray} {r : List ByteArray} {x : ByteArray} {s : ByteArray} (h : (acc ++ [x]) ++ r = wds s) (hs : s.size ≤ 1000000) : (acc.length + 1) * 16 ≤ 140737488355328 := by
  have h1 := congrArg List.length h
  rw [List.length_append, List.length_append] at h1
  have h2 := len_wds s
  simp at h1
  omega

set_option maxHeartbeats 1000000 in
theorem words_any (s : ByteArray) (w : World) (hs : s.size ≤ 1000000) :
    Calls Try.prog 26 #[.string s] w fun e w' => ∃ v, e = .returned v ∧ Sown w.heap.size w' v (wds s) ∧ Below w.heap.size w w' := by
  go_enter Try.func26, Try.ntmps26
  go_wp2
  go_loopw [3, 4, 8] (fun v st i wr => ∃ (a k : Nat) (acc : List ByteArray), st = .int .i64 a ∧ i = .int .i64 k ∧ a ≤ k ∧ k ≤ s.size ∧ Sown w.heap.size wr v acc ∧ acc ++ (wL (cut s a k) ((L s).drop k)).map B = wds s ∧ Below w.heap.size w wr) (fun _ _ i _ => s.size - (intOf i).toNat)
  case atStart => exact ⟨0, 0, [], rfl, rfl, Nat.le_refl _, Nat.zero_le _, Sown.nil _ _, by rw [cut_self]; rfl, Below.refl _ _⟩
  case round =>
    obtain ⟨a, k, acc, rfl, rfl, hak, hks, hown, hc, hbel⟩ := hrel
    have hN := hbel.size
    by_cases hp : k < s.size
    · rw [drop_cons s k hp] at hc
      cases hsp : sp s[k] with
      | false =>
        rw [wL_no _ _ hsp, ← cut_succ s a k hak hp] at hc
        have HC := Lib.hid hc; have HS := Lib.hid hsp; clear hc hsp
        go_wp2_with (go_at_call 34; refine (space_any s[k] _).mono ?_; rw [HS.out]; rintro e w' ⟨rfl, rfl⟩)
        go_roundw
        case rel => exact ⟨a, k + 1, acc, rfl, by go_num, by omega, by omega, hown, HC.out, hbel⟩
        case measure => simp [intOf]; omega
      | true =>
        by_cases hlt : a < k
        · rw [wL_sp _ hsp (cut_ne s a k hlt hks), List.map_cons, ← List.singleton_append, ← List.append_assoc, ← cut_self s (k + 1)] at hc
          have hbd := bdw hc hs
          have HC := Lib.hid hc; have HS := Lib.hid hsp; clear hc hsp
          have he := extract_cut s a k
          have HE := Lib.hid he; clear he
          go_wp2_with (first | (go_at_call 34; refine (space_any s[k] _).mono ?_; rw [HS.out]; rintro e w' ⟨rfl, rfl⟩) | (at_builtin; refine app_one wr rfl (.tmp 19) (.tmp 24) rfl w.heap.size _ acc (s.extract a k) rfl hown rfl hbd hN ?_; intro v2 w2 hown2 hk2 _))
          go_roundw
          case rel => exact ⟨k + 1, k + 1, acc ++ [B (cut s a k)], by go_num, by go_num, by omega, by omega, by rw [← HE.out]; exact hown2, HC.out, hk2 _ hbel⟩
          case measure => simp [intOf]; omega
        · obtain rfl : a = k := by omega
          rw [cut_self, wL_sp0 _ hsp, ← cut_self s (a + 1)] at hc
          have HC := Lib.hid hc; have HS := Lib.hid hsp; clear hc hsp
          go_wp2_with (go_at_call 34; refine (space_any s[a] _).mono ?_; rw [HS.out]; rintro e w' ⟨rfl, rfl⟩)
          go_roundw
          case rel => exact ⟨a + 1, a + 1, acc, by go_num, by go_num, by omega, by omega, hown, HC.out, hbel⟩
          case measure => simp [intOf]; omega
    · rw [drop_nil s k hp] at hc
      obtain rfl : k = s.size := by omega
      by_cases hlt : a < s.size
      · rw [wL_endp (cut_ne s a _ hlt hks), List.map_cons, List.map_nil] at hc
        have hbd := bdw (r := []) (by rw [List.append_nil]; exact hc) hs
        have HC := Lib.hid hc; clear hc
        have he := extract_cut s a s.size
        have HE := Lib.hid he; clear he
        go_wp2_with (at_builtin; refine app_one wr rfl (.tmp 33) (.tmp 37) rfl w.heap.size _ acc (s.extract a s.size) rfl hown rfl hbd hN ?_; intro v2 w2 hown2 hk2 _)
        go_ret
        exact ⟨v2, rfl, by rw [← HC.out, ← HE.out]; exact hown2, hk2 _ hbel⟩
      · obtain rfl : a = s.size := by omega
        rw [cut_self, wL_end0, List.map_nil, List.append_nil] at hc
        have HC := Lib.hid hc; clear hc
        go_wp2
        go_ret
        exact ⟨_, rfl, by rw [← HC.out]; exact hown, hbel⟩

theorem full_B {l : List UInt8} (h : l ≠ []) : (B l).toList.isEmpty = false ∧ ¬ (B l).toList = [] := by
  rw [toList_B]
  cases l with
  | nil => exact absurd rfl h
  | cons c l => exact ⟨rfl, by simp⟩
theorem empty_B : (B []).toList.isEmpty = true ∧ (B []).toList = [] := by rw [toList_B]; exact ⟨rfl, rfl⟩

set_option maxHeartbeats 1000000 in
theorem refWords_any (s : ByteArray) (w : World) (hs : s.size ≤ 1000000) :
    Calls Try.prog 20 #[.string s] w fun e w' => ∃ v, e = .returned v ∧ Sown w.heap.size w' v (wds s) ∧ Below w.heap.size w w' := by
  have ho0 := Sown.made w
  go_enter Try.func20, Try.ntmps20
  go_wp2
  go_loopw [3, 4, 5] (fun v x i wr => ∃ (k : Nat) (cur : List UInt8) (acc : List ByteArray), x = .string (B cur) ∧ i = .int .i64 k ∧ k ≤ s.size ∧ cur.length ≤ k ∧ Sown w.heap.size wr v acc ∧ acc ++ (wL cur ((L s).drop k)).map B = wds s ∧ Below w.heap.size w wr) (fun _ _ i _ => s.size - (intOf i).toNat)
  case atStart => exact ⟨0, [], [], rfl, rfl, Nat.zero_le _, Nat.le_refl _, ho0, rfl, (Below.refl _ _).alloc (Nat.le_refl _) _⟩
  case round =>
    clear ho0
    obtain ⟨k, cur, acc, rfl, rfl, hks, hcl, hown, hc, hbel⟩ := hrel
    have hN := hbel.size
    by_cases hp : k < s.size
    · rw [drop_cons s k hp] at hc
      cases hsp : sp s[k] with
      | false =>
        rw [wL_no _ _ hsp] at hc
        have HC := Lib.hid hc; have HS := Lib.hid hsp; clear hc hsp
        have he : s.extract k (k + 1) = B [s[k]] := by
          have := extract_cut s k (k + 1)
          rw [cut_succ s k k (Nat.le_refl _) hp, cut_self, List.nil_append] at this
          exact this
        have hsz : (B cur).size + (s.extract k (k + 1)).size ≤ 9223372036854775807 := by rw [size_B, he, size_B]; simp; omega
        have HE := Lib.hid he; clear he
        go_wp2_with (go_at_call 31; refine (refSpace_any s[k] _).mono ?_; rw [HS.out]; rintro e w' ⟨rfl, rfl⟩)
        go_roundw
        case rel => exact ⟨k + 1, cur ++ [s[k]], acc, by rw [HE.out, B_append], by go_num, by omega, by simp; omega, hown, HC.out, hbel⟩
        case measure => simp [intOf]; omega
      | true =>
        by_cases hn : cur = []
        · subst hn
          rw [wL_sp0 _ hsp] at hc
          have HC := Lib.hid hc; have HS := Lib.hid hsp; clear hc hsp
          obtain ⟨hem, hem'⟩ := empty_B
          go_wp2_with (go_at_call 31; refine (refSpace_any s[k] _).mono ?_; rw [HS.out]; rintro e w' ⟨rfl, rfl⟩)
          go_roundw
          case rel => exact ⟨k + 1, [], acc, rfl, by go_num, by omega, Nat.zero_le _, hown, HC.out, hbel⟩
          case measure => simp [intOf]; omega
        · rw [wL_sp _ hsp hn, List.map_cons, ← List.singleton_append, ← List.append_assoc] at hc
          have hbd := bdw hc hs
          obtain ⟨hem, hem'⟩ := full_B hn
          have HC := Lib.hid hc; have HS := Lib.hid hsp; clear hc hsp hn
          go_wp2_with (first | (go_at_call 31; refine (refSpace_any s[k] _).mono ?_; rw [HS.out]; rintro e w' ⟨rfl, rfl⟩) | (at_builtin; refine app_one wr rfl (.tmp 27) (.tmp 29) rfl w.heap.size _ acc (B cur) rfl hown rfl hbd hN ?_; intro v2 w2 hown2 hk2 _))
          go_roundw
          case rel => exact ⟨k + 1, [], acc ++ [B cur], rfl, by go_num, by omega, Nat.zero_le _, hown2, HC.out, hk2 _ hbel⟩
          case measure => simp [intOf]; omega
    · rw [drop_nil s k hp] at hc
      by_cases hn : cur = []
      · subst hn
        rw [wL_end0, List.map_nil, List.append_nil] at hc
        have HC := Lib.hid hc; clear hc
        obtain ⟨hem, hem'⟩ := empty_B
        go_wp2
        go_ret
        exact ⟨_, rfl, by rw [← HC.out]; exact hown, hbel⟩
      · rw [wL_endp hn, List.map_cons, List.map_nil] at hc
        have hbd := bdw (r := []) (by rw [List.append_nil]; exact hc) hs
        obtain ⟨hem, hem'⟩ := full_B hn
        have HC := Lib.hid hc; clear hc hn
        go_wp2_with (at_builtin; refine app_one wr rfl (.tmp 33) (.tmp 35) rfl w.heap.size _ acc (B cur) rfl hown rfl hbd hN ?_; intro v2 w2 hown2 hk2 _)
        go_ret
        exact ⟨v2, rfl, by rw [← HC.out]; exact hown2, hk2 _ hbel⟩

end Go.Proofs.Ythgpjhblbpiagaa.Fo
