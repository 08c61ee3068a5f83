/-
  Walks of stage 3: a text decoded by the reference (boltingref03.Decode).
-/
import Derived.Test.YtjhhhlomkfnniaaDoorRefsWalkG
namespace Go.Proofs.YtjhhhlomkfnniaaDoor.Re
set_option linter.unusedSimpArgs false
set_option linter.unusedVariables false
open Go.RowKit Ba Rm

theorem cut_take {r b : List UInt8} (h : cutAt r = some b) : r.take b.length = b := by
  induction r generalizing b with
  | nil => cases h
  | cons c r ih =>
    unfold cutAt at h
    split at h
    · injection h with h; rw [← h]; rfl
    · cases hc : cutAt r with
      | none => simp [hc] at h
      | some x =>
        simp [hc] at h
        rw [← h, List.length_cons, List.take_succ_cons, ih hc]
theorem endI_amp {l r : List UInt8} {k : Nat} (h : l.drop k = 38 :: r) (hr : l.drop (k + 1) = r) : endI l k = (match cutAt r with | some b => ((k + 1 + b.length : Nat) : Int) | none => -1) := by
  rw [endI_on h hr (by decide)]
  unfold endI
  rw [hr]
  cases cutAt r <;> rfl
theorem end1 (w : World) (s : ByteArray) (m : Nat) (n : Int) (hm : m ≤ s.size) (hs : s.size ≤ 140737488355328) (h : endI (L s) m = n) :
    Calls Tryd.prog 72 #[.string s, .int .i64 m] w fun e w' => e = .returned (.int .i64 n) ∧ w = w' := by
  have k := end_any s m w hm hs
  rw [h] at k
  exact k
theorem meant1 (w : World) (s : ByteArray) (M : Option (List UInt8)) (ok : Bool) (hs : s.size ≤ 140737488355328) (h1 : meant (L s) = M) (h2 : M.isSome = ok) :
    Calls Tryd.prog 73 #[.string s] w fun e w' => (∃ x, e = .returned (.tuple #[.string x, .bool ok]) ∧ ∀ t, M = some t → x = B t) ∧ Below w.heap.size w w' := by
  have k := meant_any s w hs
  rw [h1, h2] at k
  exact k

set_option maxHeartbeats 2000000 in
theorem refDecode_any (s : ByteArray) (w : World) (hs : s.size ≤ 140737488351232) :
    Calls Tryd.prog 46 #[.string s] w fun e w' => e = .returned (.string (B (dec (L s)))) ∧ Below w.heap.size w w' := by
  have ho0 := Own.made w
  have hb0 := below_new w (.cells #[] 5)
  go_enter Tryd.func46, Tryd.ntmps46
  go_wp2
  go_loopw [3, 4] (fun v i wr => ∃ (k : Nat) (acc : List UInt8), i = .int .i64 k ∧ k ≤ s.size ∧ Own w.heap.size wr v acc ∧ acc ++ dec ((L s).drop k) = dec (L s) ∧ Below w.heap.size w wr) (fun _ i _ => s.size - (intOf i).toNat)
  case atStart => exact ⟨0, [], rfl, Nat.zero_le _, ho0, by simp, hb0⟩
  case round =>
    clear ho0 hb0
    obtain ⟨k, acc, rfl, hks, hown, hc, hbel⟩ := hrel
    have hN := hbel.size
    by_cases hp : k < s.size
    · have hd := drop_cons s k hp
      have hbd := dec_bound hc
      rw [size_L] at hbd
      have hl1 : acc.length + 1 ≤ 140737488355328 := by omega
      have hne : (L s).drop k ≠ [] := by rw [hd]; exact List.cons_ne_nil _ _
      rw [dec_step hne] at hc hbd
      clear hne
      by_cases h8 : s[k] = 38
      · have hb : (((s[k].toNat : Int)) == 38) = true := by rw [h8]; rfl
        rw [hd, h8, fst_cons, if_pos rfl] at hc hbd
        rw [h8] at hd
        have he := endI_amp hd rfl
        unfold refAt at hc hbd
        cases hcut : cutAt ((L s).drop (k + 1)) with
        | none =>
          rw [hcut] at hc he
          simp only [List.drop_succ_cons, List.drop_zero] at hc he
          have HC := Lib.hid hc; have HE := Lib.hid he
          have hk8 : (38 : UInt8) = s[k] := h8.symm
          have HK := Lib.hid hk8
          clear hc he hbd hd hcut h8 hk8
          go_wp2_with fail
          refine (end1 wr s k (-1) (by omega) (by omega) HE.out).mono ?_
          rintro e w3 ⟨rfl, rfl⟩
          go_wp2_with (at_builtin; refine app_byte wr rfl (.tmp 37) (.tmp 41) rfl w.heap.size _ acc s[k] rfl hown rfl hl1 hN ?_; intro v4 w4 hown4 hk4)
          go_roundw
          case rel => exact ⟨k + 1, acc ++ [s[k]], by go_num, by omega, hown4, by rw [List.append_assoc, ← HK.out]; exact HC.out, hk4 _ hbel⟩
          case measure => simp [intOf]; omega
        | some b =>
          rw [hcut] at hc he hbd
          simp only at hc he hbd
          have hbl := len_cut hcut
          rw [List.length_drop, size_L] at hbl
          have hxL : L (s.extract (k + 1) (k + 1 + b.length)) = b := by
            rw [L_extract, Nat.add_sub_cancel_left, cut_take hcut]
          have hxs : (s.extract (k + 1) (k + 1 + b.length)).size ≤ 140737488355328 := Nat.le_trans (size_extract s _ _) (by omega)
          obtain ⟨M, hM⟩ : ∃ M, meant b = M := ⟨_, rfl⟩
          rw [hM] at hc hbd
          have hxM : meant (L (s.extract (k + 1) (k + 1 + b.length))) = M := by rw [hxL, hM]
          have HE := Lib.hid he
          clear he hxL hcut
          cases M with
          | none =>
            simp only [Option.map_none, List.drop_succ_cons, List.drop_zero] at hc
            have HC := Lib.hid hc; have HM := Lib.hid hxM
            have hk8 : (38 : UInt8) = s[k] := h8.symm
            have HK := Lib.hid hk8
            clear hc hxM hbd hd h8 hk8 hM
            go_wp2_with fail
            refine (end1 wr s k _ (by omega) (by omega) HE.out).mono ?_
            rintro e w3 ⟨rfl, rfl⟩
            go_wp2_with fail
            refine (meant1 wr _ none false hxs HM.out rfl).mono ?_
            rintro e w3 ⟨⟨x, rfl, hx⟩, hb3⟩
            clear hx
            have hbel3 : Below w.heap.size w w3 := hbel.trans (hb3.mono hN)
            have hown3 : Own w.heap.size w3 _ acc := Own.keep hown hb3
            have hN3 := hbel3.size
            clear hown
            go_wp2_with (at_builtin; refine app_byte w3 rfl (.tmp 37) (.tmp 41) rfl w.heap.size _ acc s[k] rfl hown3 rfl hl1 hN3 ?_; intro v4 w4 hown4 hk4)
            go_roundw
            case rel => exact ⟨k + 1, acc ++ [s[k]], by go_num, by omega, hown4, by rw [List.append_assoc, ← HK.out]; exact HC.out, hk4 _ hbel3⟩
            case measure => simp [intOf]; omega
          | some t =>
            simp only [Option.map_some] at hc hbd
            have hdd : (38 :: (L s).drop (k + 1)).drop (b.length + 2) = (L s).drop (k + 1 + b.length + 1) := by
              rw [show b.length + 2 = (b.length + 1) + 1 from rfl, List.drop_succ_cons, List.drop_drop]
              congr 1
            rw [hdd] at hc
            rw [List.length_append] at hbd
            have hbt : acc.length + (B t).size ≤ 140737488355328 := by rw [size_B]; omega
            have HC := Lib.hid hc; have HM := Lib.hid hxM
            clear hc hxM hbd hd h8 hM hdd
            go_wp2_with fail
            refine (end1 wr s k _ (by omega) (by omega) HE.out).mono ?_
            rintro e w3 ⟨rfl, rfl⟩
            go_wp2_with fail
            refine (meant1 wr _ (some t) true hxs HM.out rfl).mono ?_
            rintro e w3 ⟨⟨x, rfl, hx⟩, hb3⟩
            obtain rfl := hx t rfl
            clear hx
            have hbel3 : Below w.heap.size w w3 := hbel.trans (hb3.mono hN)
            have hown3 : Own w.heap.size w3 _ acc := Own.keep hown hb3
            have hN3 := hbel3.size
            clear hown
            have hLt := L_B t
            generalize B t = u at hbt hLt
            go_wp2_with (at_builtin; refine app_str w3 rfl (.tmp 32) (.tmp 33) rfl w.heap.size _ acc u rfl hown3 rfl hbt hN3 ?_; intro v4 w4 hown4 hk4)
            go_roundw
            case rel => exact ⟨k + 1 + b.length + 1, acc ++ L u, by go_num, by omega, hown4, by rw [List.append_assoc, hLt]; exact HC.out, hk4 _ hbel3⟩
            case measure => simp [intOf]; omega
      · have hb : (((s[k].toNat : Int)) == 38) = false := u8_ne (b := 38) h8
        rw [hd, fst_byte _ h8] at hc
        simp only [List.drop_succ_cons, List.drop_zero] at hc
        have HC := Lib.hid hc
        clear hc hbd hd h8
        go_wp2_with (at_builtin; refine app_byte wr rfl (.tmp 37) (.tmp 41) rfl w.heap.size _ acc s[k] rfl hown rfl hl1 hN ?_; intro v4 w4 hown4 hk4)
        go_roundw
        case rel => exact ⟨k + 1, acc ++ [s[k]], by go_num, by omega, hown4, by rw [List.append_assoc]; exact HC.out, hk4 _ hbel⟩
        case measure => simp [intOf]; omega
    · have hcv := hown.string
      rw [drop_nil s k hp, dec_nil, List.append_nil] at hc
      subst hc
      go_wp2
      go_ret
      exact ⟨rfl, hbel⟩

end Go.Proofs.YtjhhhlomkfnniaaDoor.Re
