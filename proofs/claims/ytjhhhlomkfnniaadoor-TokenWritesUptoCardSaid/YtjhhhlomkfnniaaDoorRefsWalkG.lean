/-
  Walks of stage 3: a text decoded (refs.Decode, boltingref03.Decode).
-/
import Derived.Test.YtjhhhlomkfnniaaDoorRefsWalkF
namespace Go.Proofs.YtjhhhlomkfnniaaDoor.Re
set_option linter.unusedSimpArgs false
set_option linter.unusedVariables false
open Go.RowKit Ba Rm

theorem dec_bound {acc l : List UInt8} {x : List UInt8} (h : acc ++ dec l = dec x) : acc.length + (dec l).length ≤ x.length := by
  have h1 := congrArg List.length h
  have h2 := len_dec x
  rw [List.length_append] at h1
  omega

set_option maxHeartbeats 1000000 in
theorem decode_any (s : ByteArray) (w : World) (ht : Tab w) (hs : s.size ≤ 140737488351232) :
    Calls Tryd.prog 32 #[.string s] w fun e w' => e = .returned (.string (B (dec (L s)))) ∧ Below w.heap.size w w' := by
  obtain ⟨i0, hi, hz0, hz1, hz2⟩ := info_parts info_u8
  go_enter Tryd.func32, Tryd.ntmps32
  go_wp2_with (at_make; refine wpList_make_own _ rfl (.const (.int .i64 0)) (.tmp 8) 51 rfl w.heap.size 5 i0 (.int .u8 0) 1 Tryd.underlying51 hi hz0 hz1 .i64 .i64 _ s.size rfl rfl rfl (by rw [hz2]; omega) (by unfold maxLen; omega) (Nat.le_refl _) ?_; intro w1 hown hgrow)
  have hb0 : Below w.heap.size w w1 := (Below.refl w.heap.size w).grown hgrow (Nat.le_refl _) (by simp)
  have ho0 : Own w.heap.size w1 (.slice (some ⟨w.heap.size, 0, none⟩) 0 s.size) [] := hown
  clear hown hgrow
  go_loopw [3, 4] (fun v i wr => ∃ (k : Nat) (acc : List UInt8), i = .int .i64 k ∧ k ≤ s.size ∧ Own w.heap.size wr v acc ∧ acc ++ dec ((L s).drop k) = dec (L s) ∧ Below w.heap.size w wr) (fun _ i _ => s.size - (intOf i).toNat)
  case atStart => exact ⟨0, [], rfl, Nat.zero_le _, ho0, by simp, hb0⟩
  case round =>
    clear ho0 hb0
    obtain ⟨k, acc, rfl, hks, hown, hc, hbel⟩ := hrel
    have hN := hbel.size
    by_cases hp : k < s.size
    · have hne : (L s).drop k ≠ [] := by rw [drop_cons s k hp]; exact List.cons_ne_nil _ _
      have hbd := dec_bound hc
      have hok := fst_ok _ hne
      rw [dec_step hne] at hc hbd
      have hxz : 0 < (s.extract k s.size).size := by rw [← size_L, L_end, List.length_drop, size_L]; omega
      have hxs : (s.extract k s.size).size ≤ 140737488355328 := Nat.le_trans (size_extract s k s.size) (by omega)
      obtain ⟨t, hT⟩ : ∃ t, B (fst (L (s.extract k s.size))).1 = t := ⟨_, rfl⟩
      obtain ⟨n, hn⟩ : ∃ n, (fst (L (s.extract k s.size))).2 = n := ⟨_, rfl⟩
      have hTL : (fst ((L s).drop k)).1 = L t := by rw [← hT, L_end, L_B]
      have hnn : (fst ((L s).drop k)).2 = n := by rw [← hn, L_end]
      rw [hTL, hnn, List.drop_drop] at hc
      rw [hTL, hnn] at hok
      rw [hTL, List.length_append, size_L, size_L] at hbd
      rw [List.length_drop, size_L, size_L] at hok
      obtain ⟨hn1, hn2, hn3⟩ := hok
      have hbt : acc.length + t.size ≤ 140737488355328 := by omega
      have HC := Lib.hid hc; have HT := Lib.hid hT; have HN := Lib.hid hn; have HX := Lib.hid hxz
      have hnc : (n : Int) ≤ 140737488355328 := by omega
      clear hc hT hn hTL hnn hbd hn3 hne hxz
      go_wp2_with fail
      refine (first_any _ t n wr (ht.below hbel) HX.out hxs HT.out HN.out).mono ?_
      rintro e w3 ⟨rfl, hb3⟩
      have hbel3 : Below w.heap.size w w3 := hbel.trans (hb3.mono hN)
      have hown3 : Own w.heap.size w3 _ acc := Own.keep hown hb3
      have hN3 := hbel3.size
      clear hown
      go_wp2_with (at_builtin; refine app_str w3 rfl (.tmp 21) (.tmp 22) rfl w.heap.size _ acc t rfl hown3 rfl hbt hN3 ?_; intro v4 w4 hown4 hk4)
      go_roundw
      case rel => exact ⟨k + n, acc ++ L t, by go_num, by omega, hown4, by rw [List.append_assoc]; exact HC.out, hk4 _ hbel3⟩
      case measure => simp [intOf]; omega
    · have hcv := hown.string
      rw [drop_nil s k hp, dec_nil, List.append_nil] at hc
      subst hc
      go_wp2
      go_ret
      exact ⟨rfl, hbel⟩

end Go.Proofs.YtjhhhlomkfnniaaDoor.Re
