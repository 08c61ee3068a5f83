/-
  Walks of stage 3: a text written out (refs.escaped, Text, Value, boltingref03.Write).
-/
import Derived.Test.YtjhhhlomkfnniaaDoorRefsWalkH
namespace Go.Proofs.YtjhhhlomkfnniaaDoor.Re
set_option linter.unusedSimpArgs false
set_option linter.unusedVariables false
open Go.RowKit Ba Rm

set_option maxRecDepth 100000 in
set_option maxHeartbeats 4000000 in
theorem escaped_false (s : ByteArray) (w : World) (hs : s.size ≤ 10000000) :
    Calls Tryd.prog 86 #[.string s, .bool false] w fun e w' => e = .returned (.string (B (esc false (L s)))) ∧ Below w.heap.size w w' := by
  have hle := (len_esc false (L s)).2.1
  rw [size_L] at hle
  obtain ⟨i0, hi, hz0, hz1, hz2⟩ := info_parts info_u8
  go_enter Tryd.func86, Tryd.ntmps86
  go_wp2_with (at_make; refine wpList_make_own _ rfl (.const (.int .i64 0)) (.tmp 9) 51 rfl w.heap.size 5 i0 (.int .u8 0) 1 Tryd.underlying51 hi hz0 hz1 .i64 .i64 _ s.size rfl rfl rfl (by rw [hz2]; omega) (by unfold maxLen; omega) (Nat.le_refl _) ?_; intro w1 hown hgrow)
  have hb0 : Below w.heap.size w w1 := (Below.refl w.heap.size w).grown hgrow (Nat.le_refl _) (by simp)
  have ho0 : Own w.heap.size w1 (.slice (some ⟨w.heap.size, 0, none⟩) 0 s.size) [] := hown
  clear hown hgrow
  go_loopw [5, 6] (fun v i wr => ∃ (k : Nat) (acc : List UInt8), i = .int .i64 k ∧ k ≤ s.size ∧ Own w.heap.size wr v acc ∧ acc ++ esc false ((L s).drop k) = esc false (L s) ∧ Below w.heap.size w wr) (fun _ i _ => s.size - (intOf i).toNat)
  case atStart => exact ⟨0, [], rfl, Nat.zero_le _, ho0, by simp, hb0⟩
  case round =>
    clear ho0 hb0
    obtain ⟨k, acc, rfl, hks, hown, hc, hbel⟩ := hrel
    have hN := hbel.size
    have hal : acc.length ≤ 60000000 := by
      have := congrArg List.length hc
      rw [List.length_append] at this
      omega
    have hl1 : acc.length + 1 ≤ 140737488355328 := by omega
    have hl6 : ∀ t : ByteArray, t.size ≤ 6 → acc.length + t.size ≤ 140737488355328 := fun t h => by omega
    clear hle hal
    by_cases hp : k < s.size
    · rw [drop_cons s k hp] at hc
      by_cases h38 : s[k] = 38
      · have hb38 : (((s[k].toNat : Int)) == 38) = true := by rw [h38]; rfl
        have hb60 : (((s[k].toNat : Int)) == 60) = false := by rw [h38]; rfl
        have hb62 : (((s[k].toNat : Int)) == 62) = false := by rw [h38]; rfl
        have hb34 : (((s[k].toNat : Int)) == 34) = false := by rw [h38]; rfl
        have hb194 : (((s[k].toNat : Int)) == 194) = false := by rw [h38]; rfl
        rw [esc_byte _ (fun e => absurd (h38.symm.trans e.1) (by decide)), h38, show e1 false 38 = L ⟨#[38, 97, 109, 112, 59]⟩ from rfl] at hc
        have HC := Lib.hid hc; clear hc h38
        go_wp2_with (at_builtin; refine app_str wr rfl (.tmp 27) (.const (.string ⟨#[38, 97, 109, 112, 59]⟩)) rfl w.heap.size _ acc ⟨#[38, 97, 109, 112, 59]⟩ rfl hown rfl (hl6 _ (by decide)) hN ?_; intro v4 w4 hown4 hk4)
        go_roundw
        case rel => exact ⟨k + 1, _, by go_num, by omega, hown4, by rw [List.append_assoc]; exact HC.out, hk4 _ hbel⟩
        case measure => simp [intOf]; omega
      by_cases h60 : s[k] = 60
      · have hb38 : (((s[k].toNat : Int)) == 38) = false := by rw [h60]; rfl
        have hb60 : (((s[k].toNat : Int)) == 60) = true := by rw [h60]; rfl
        have hb62 : (((s[k].toNat : Int)) == 62) = false := by rw [h60]; rfl
        have hb34 : (((s[k].toNat : Int)) == 34) = false := by rw [h60]; rfl
        have hb194 : (((s[k].toNat : Int)) == 194) = false := by rw [h60]; rfl
        rw [esc_byte _ (fun e => absurd (h60.symm.trans e.1) (by decide)), h60, show e1 false 60 = L ⟨#[38, 108, 116, 59]⟩ from rfl] at hc
        have HC := Lib.hid hc; clear hc h60
        go_wp2_with (at_builtin; refine app_str wr rfl (.tmp 32) (.const (.string ⟨#[38, 108, 116, 59]⟩)) rfl w.heap.size _ acc ⟨#[38, 108, 116, 59]⟩ rfl hown rfl (hl6 _ (by decide)) hN ?_; intro v4 w4 hown4 hk4)
        go_roundw
        case rel => exact ⟨k + 1, _, by go_num, by omega, hown4, by rw [List.append_assoc]; exact HC.out, hk4 _ hbel⟩
        case measure => simp [intOf]; omega
      by_cases h62 : s[k] = 62
      · have hb38 : (((s[k].toNat : Int)) == 38) = false := by rw [h62]; rfl
        have hb60 : (((s[k].toNat : Int)) == 60) = false := by rw [h62]; rfl
        have hb62 : (((s[k].toNat : Int)) == 62) = true := by rw [h62]; rfl
        have hb34 : (((s[k].toNat : Int)) == 34) = false := by rw [h62]; rfl
        have hb194 : (((s[k].toNat : Int)) == 194) = false := by rw [h62]; rfl
        rw [esc_byte _ (fun e => absurd (h62.symm.trans e.1) (by decide)), h62, show e1 false 62 = L ⟨#[38, 103, 116, 59]⟩ from rfl] at hc
        have HC := Lib.hid hc; clear hc h62
        go_wp2_with (at_builtin; refine app_str wr rfl (.tmp 37) (.const (.string ⟨#[38, 103, 116, 59]⟩)) rfl w.heap.size _ acc ⟨#[38, 103, 116, 59]⟩ rfl hown rfl (hl6 _ (by decide)) hN ?_; intro v4 w4 hown4 hk4)
        go_roundw
        case rel => exact ⟨k + 1, _, by go_num, by omega, hown4, by rw [List.append_assoc]; exact HC.out, hk4 _ hbel⟩
        case measure => simp [intOf]; omega
      by_cases h34 : s[k] = 34
      · have hb38 : (((s[k].toNat : Int)) == 38) = false := by rw [h34]; rfl
        have hb60 : (((s[k].toNat : Int)) == 60) = false := by rw [h34]; rfl
        have hb62 : (((s[k].toNat : Int)) == 62) = false := by rw [h34]; rfl
        have hb34 : (((s[k].toNat : Int)) == 34) = true := by rw [h34]; rfl
        have hb194 : (((s[k].toNat : Int)) == 194) = false := by rw [h34]; rfl
        rw [esc_byte _ (fun e => absurd (h34.symm.trans e.1) (by decide)), show e1 false s[k] = [s[k]] from by rw [h34]; rfl] at hc
        have HC := Lib.hid hc; clear hc h34
        go_wp2_with (at_builtin; refine app_byte wr rfl (.tmp 20) (.tmp 22) rfl w.heap.size _ acc s[k] rfl hown rfl hl1 hN ?_; intro v4 w4 hown4 hk4)
        go_roundw
        case rel => exact ⟨k + 1, acc ++ [s[k]], by go_num, by omega, hown4, by rw [List.append_assoc]; exact HC.out, hk4 _ hbel⟩
        case measure => simp [intOf]; omega
      have he1 : e1 false s[k] = [s[k]] := by simp [e1, h38, h60, h62, h34]
      have hb38 : (((s[k].toNat : Int)) == 38) = false := u8_ne (b := 38) h38
      have hb60 : (((s[k].toNat : Int)) == 60) = false := u8_ne (b := 60) h60
      have hb62 : (((s[k].toNat : Int)) == 62) = false := u8_ne (b := 62) h62
      have hb34 : (((s[k].toNat : Int)) == 34) = false := u8_ne (b := 34) h34
      clear h38 h60 h62 h34
      by_cases h194 : s[k] = 194
      · have hb194 : (((s[k].toNat : Int)) == 194) = true := by rw [h194]; rfl
        by_cases hk1 : k + 1 < s.size
        · have hd1 := drop_cons s (k + 1) hk1
          by_cases h160 : s[k + 1] = 160
          · have hb160 : (((s[k + 1].toNat : Int)) == 160) = true := by rw [h160]; rfl
            rw [hd1, h194, h160, esc_nbsp, show ([38, 110, 98, 115, 112, 59] : List UInt8) = L ⟨#[38, 110, 98, 115, 112, 59]⟩ from rfl] at hc
            have HC := Lib.hid hc; clear hc hd1 h194 h160 he1
            go_wp2_with (at_builtin; refine app_str wr rfl (.tmp 64) (.const (.string ⟨#[38, 110, 98, 115, 112, 59]⟩)) rfl w.heap.size _ acc ⟨#[38, 110, 98, 115, 112, 59]⟩ rfl hown rfl (hl6 _ (by decide)) hN ?_; intro v4 w4 hown4 hk4)
            go_roundw
            case rel => exact ⟨k + 2, _, by go_num, by omega, hown4, by rw [List.append_assoc]; exact HC.out, hk4 _ hbel⟩
            case measure => simp [intOf]; omega
          · have hb160 : (((s[k + 1].toNat : Int)) == 160) = false := u8_ne (b := 160) h160
            rw [esc_byte _ (by rw [hd1]; intro e; simp at e; exact h160 e.2), he1] at hc
            have HC := Lib.hid hc; clear hc hd1 h194 h160 he1
            go_wp2_with (at_builtin; refine app_byte wr rfl (.tmp 20) (.tmp 22) rfl w.heap.size _ acc s[k] rfl hown rfl hl1 hN ?_; intro v4 w4 hown4 hk4)
            go_roundw
            case rel => exact ⟨k + 1, acc ++ [s[k]], by go_num, by omega, hown4, by rw [List.append_assoc]; exact HC.out, hk4 _ hbel⟩
            case measure => simp [intOf]; omega
        · rw [esc_byte _ (by rw [drop_nil s (k + 1) hk1]; intro e; simp at e), he1] at hc
          have HC := Lib.hid hc; clear hc h194 he1
          go_wp2_with (at_builtin; refine app_byte wr rfl (.tmp 20) (.tmp 22) rfl w.heap.size _ acc s[k] rfl hown rfl hl1 hN ?_; intro v4 w4 hown4 hk4)
          go_roundw
          case rel => exact ⟨k + 1, acc ++ [s[k]], by go_num, by omega, hown4, by rw [List.append_assoc]; exact HC.out, hk4 _ hbel⟩
          case measure => simp [intOf]; omega
      · have hb194 : (((s[k].toNat : Int)) == 194) = false := u8_ne (b := 194) h194
        rw [esc_byte _ (fun e => h194 e.1), he1] at hc
        have HC := Lib.hid hc; clear hc h194 he1
        go_wp2_with (at_builtin; refine app_byte wr rfl (.tmp 20) (.tmp 22) rfl w.heap.size _ acc s[k] rfl hown rfl hl1 hN ?_; intro v4 w4 hown4 hk4)
        go_roundw
        case rel => exact ⟨k + 1, acc ++ [s[k]], by go_num, by omega, hown4, by rw [List.append_assoc]; exact HC.out, hk4 _ hbel⟩
        case measure => simp [intOf]; omega
    · have hcv := hown.string
      rw [drop_nil s k hp, esc_nil, List.append_nil] at hc
      subst hc
      clear hl6
      go_wp2
      go_ret
      exact ⟨rfl, hbel⟩

set_option maxRecDepth 100000 in
set_option maxHeartbeats 4000000 in
theorem escaped_true (s : ByteArray) (w : World) (hs : s.size ≤ 10000000) :
    Calls Tryd.prog 86 #[.string s, .bool true] w fun e w' => e = .returned (.string (B (esc true (L s)))) ∧ Below w.heap.size w w' := by
  have hle := (len_esc true (L s)).2.1
  rw [size_L] at hle
  obtain ⟨i0, hi, hz0, hz1, hz2⟩ := info_parts info_u8
  go_enter Tryd.func86, Tryd.ntmps86
  go_wp2_with (at_make; refine wpList_make_own _ rfl (.const (.int .i64 0)) (.tmp 9) 51 rfl w.heap.size 5 i0 (.int .u8 0) 1 Tryd.underlying51 hi hz0 hz1 .i64 .i64 _ s.size rfl rfl rfl (by rw [hz2]; omega) (by unfold maxLen; omega) (Nat.le_refl _) ?_; intro w1 hown hgrow)
  have hb0 : Below w.heap.size w w1 := (Below.refl w.heap.size w).grown hgrow (Nat.le_refl _) (by simp)
  have ho0 : Own w.heap.size w1 (.slice (some ⟨w.heap.size, 0, none⟩) 0 s.size) [] := hown
  clear hown hgrow
  go_loopw [5, 6] (fun v i wr => ∃ (k : Nat) (acc : List UInt8), i = .int .i64 k ∧ k ≤ s.size ∧ Own w.heap.size wr v acc ∧ acc ++ esc true ((L s).drop k) = esc true (L s) ∧ Below w.heap.size w wr) (fun _ i _ => s.size - (intOf i).toNat)
  case atStart => exact ⟨0, [], rfl, Nat.zero_le _, ho0, by simp, hb0⟩
  case round =>
    clear ho0 hb0
    obtain ⟨k, acc, rfl, hks, hown, hc, hbel⟩ := hrel
    have hN := hbel.size
    have hal : acc.length ≤ 60000000 := by
      have := congrArg List.length hc
      rw [List.length_append] at this
      omega
    have hl1 : acc.length + 1 ≤ 140737488355328 := by omega
    have hl6 : ∀ t : ByteArray, t.size ≤ 6 → acc.length + t.size ≤ 140737488355328 := fun t h => by omega
    clear hle hal
    by_cases hp : k < s.size
    · rw [drop_cons s k hp] at hc
      by_cases h38 : s[k] = 38
      · have hb38 : (((s[k].toNat : Int)) == 38) = true := by rw [h38]; rfl
        have hb60 : (((s[k].toNat : Int)) == 60) = false := by rw [h38]; rfl
        have hb62 : (((s[k].toNat : Int)) == 62) = false := by rw [h38]; rfl
        have hb34 : (((s[k].toNat : Int)) == 34) = false := by rw [h38]; rfl
        have hb194 : (((s[k].toNat : Int)) == 194) = false := by rw [h38]; rfl
        rw [esc_byte _ (fun e => absurd (h38.symm.trans e.1) (by decide)), h38, show e1 true 38 = L ⟨#[38, 97, 109, 112, 59]⟩ from rfl] at hc
        have HC := Lib.hid hc; clear hc h38
        go_wp2_with (at_builtin; refine app_str wr rfl (.tmp 27) (.const (.string ⟨#[38, 97, 109, 112, 59]⟩)) rfl w.heap.size _ acc ⟨#[38, 97, 109, 112, 59]⟩ rfl hown rfl (hl6 _ (by decide)) hN ?_; intro v4 w4 hown4 hk4)
        go_roundw
        case rel => exact ⟨k + 1, _, by go_num, by omega, hown4, by rw [List.append_assoc]; exact HC.out, hk4 _ hbel⟩
        case measure => simp [intOf]; omega
      by_cases h60 : s[k] = 60
      · have hb38 : (((s[k].toNat : Int)) == 38) = false := by rw [h60]; rfl
        have hb60 : (((s[k].toNat : Int)) == 60) = true := by rw [h60]; rfl
        have hb62 : (((s[k].toNat : Int)) == 62) = false := by rw [h60]; rfl
        have hb34 : (((s[k].toNat : Int)) == 34) = false := by rw [h60]; rfl
        have hb194 : (((s[k].toNat : Int)) == 194) = false := by rw [h60]; rfl
        rw [esc_byte _ (fun e => absurd (h60.symm.trans e.1) (by decide)), h60, show e1 true 60 = L ⟨#[38, 108, 116, 59]⟩ from rfl] at hc
        have HC := Lib.hid hc; clear hc h60
        go_wp2_with (at_builtin; refine app_str wr rfl (.tmp 32) (.const (.string ⟨#[38, 108, 116, 59]⟩)) rfl w.heap.size _ acc ⟨#[38, 108, 116, 59]⟩ rfl hown rfl (hl6 _ (by decide)) hN ?_; intro v4 w4 hown4 hk4)
        go_roundw
        case rel => exact ⟨k + 1, _, by go_num, by omega, hown4, by rw [List.append_assoc]; exact HC.out, hk4 _ hbel⟩
        case measure => simp [intOf]; omega
      by_cases h62 : s[k] = 62
      · have hb38 : (((s[k].toNat : Int)) == 38) = false := by rw [h62]; rfl
        have hb60 : (((s[k].toNat : Int)) == 60) = false := by rw [h62]; rfl
        have hb62 : (((s[k].toNat : Int)) == 62) = true := by rw [h62]; rfl
        have hb34 : (((s[k].toNat : Int)) == 34) = false := by rw [h62]; rfl
        have hb194 : (((s[k].toNat : Int)) == 194) = false := by rw [h62]; rfl
        rw [esc_byte _ (fun e => absurd (h62.symm.trans e.1) (by decide)), h62, show e1 true 62 = L ⟨#[38, 103, 116, 59]⟩ from rfl] at hc
        have HC := Lib.hid hc; clear hc h62
        go_wp2_with (at_builtin; refine app_str wr rfl (.tmp 37) (.const (.string ⟨#[38, 103, 116, 59]⟩)) rfl w.heap.size _ acc ⟨#[38, 103, 116, 59]⟩ rfl hown rfl (hl6 _ (by decide)) hN ?_; intro v4 w4 hown4 hk4)
        go_roundw
        case rel => exact ⟨k + 1, _, by go_num, by omega, hown4, by rw [List.append_assoc]; exact HC.out, hk4 _ hbel⟩
        case measure => simp [intOf]; omega
      by_cases h34 : s[k] = 34
      · have hb38 : (((s[k].toNat : Int)) == 38) = false := by rw [h34]; rfl
        have hb60 : (((s[k].toNat : Int)) == 60) = false := by rw [h34]; rfl
        have hb62 : (((s[k].toNat : Int)) == 62) = false := by rw [h34]; rfl
        have hb34 : (((s[k].toNat : Int)) == 34) = true := by rw [h34]; rfl
        have hb194 : (((s[k].toNat : Int)) == 194) = false := by rw [h34]; rfl
        rw [esc_byte _ (fun e => absurd (h34.symm.trans e.1) (by decide)), h34, show e1 true 34 = L ⟨#[38, 113, 117, 111, 116, 59]⟩ from rfl] at hc
        have HC := Lib.hid hc; clear hc h34
        go_wp2_with (at_builtin; refine app_str wr rfl (.tmp 45) (.const (.string ⟨#[38, 113, 117, 111, 116, 59]⟩)) rfl w.heap.size _ acc ⟨#[38, 113, 117, 111, 116, 59]⟩ rfl hown rfl (hl6 _ (by decide)) hN ?_; intro v4 w4 hown4 hk4)
        go_roundw
        case rel => exact ⟨k + 1, _, by go_num, by omega, hown4, by rw [List.append_assoc]; exact HC.out, hk4 _ hbel⟩
        case measure => simp [intOf]; omega
      have he1 : e1 true s[k] = [s[k]] := by simp [e1, h38, h60, h62, h34]
      have hb38 : (((s[k].toNat : Int)) == 38) = false := u8_ne (b := 38) h38
      have hb60 : (((s[k].toNat : Int)) == 60) = false := u8_ne (b := 60) h60
      have hb62 : (((s[k].toNat : Int)) == 62) = false := u8_ne (b := 62) h62
      have hb34 : (((s[k].toNat : Int)) == 34) = false := u8_ne (b := 34) h34
      clear h38 h60 h62 h34
      by_cases h194 : s[k] = 194
      · have hb194 : (((s[k].toNat : Int)) == 194) = true := by rw [h194]; rfl
        by_cases hk1 : k + 1 < s.size
        · have hd1 := drop_cons s (k + 1) hk1
          by_cases h160 : s[k + 1] = 160
          · have hb160 : (((s[k + 1].toNat : Int)) == 160) = true := by rw [h160]; rfl
            rw [hd1, h194, h160, esc_nbsp, show ([38, 110, 98, 115, 112, 59] : List UInt8) = L ⟨#[38, 110, 98, 115, 112, 59]⟩ from rfl] at hc
            have HC := Lib.hid hc; clear hc hd1 h194 h160 he1
            go_wp2_with (at_builtin; refine app_str wr rfl (.tmp 64) (.const (.string ⟨#[38, 110, 98, 115, 112, 59]⟩)) rfl w.heap.size _ acc ⟨#[38, 110, 98, 115, 112, 59]⟩ rfl hown rfl (hl6 _ (by decide)) hN ?_; intro v4 w4 hown4 hk4)
            go_roundw
            case rel => exact ⟨k + 2, _, by go_num, by omega, hown4, by rw [List.append_assoc]; exact HC.out, hk4 _ hbel⟩
            case measure => simp [intOf]; omega
          · have hb160 : (((s[k + 1].toNat : Int)) == 160) = false := u8_ne (b := 160) h160
            rw [esc_byte _ (by rw [hd1]; intro e; simp at e; exact h160 e.2), he1] at hc
            have HC := Lib.hid hc; clear hc hd1 h194 h160 he1
            go_wp2_with (at_builtin; refine app_byte wr rfl (.tmp 20) (.tmp 22) rfl w.heap.size _ acc s[k] rfl hown rfl hl1 hN ?_; intro v4 w4 hown4 hk4)
            go_roundw
            case rel => exact ⟨k + 1, acc ++ [s[k]], by go_num, by omega, hown4, by rw [List.append_assoc]; exact HC.out, hk4 _ hbel⟩
            case measure => simp [intOf]; omega
        · rw [esc_byte _ (by rw [drop_nil s (k + 1) hk1]; intro e; simp at e), he1] at hc
          have HC := Lib.hid hc; clear hc h194 he1
          go_wp2_with (at_builtin; refine app_byte wr rfl (.tmp 20) (.tmp 22) rfl w.heap.size _ acc s[k] rfl hown rfl hl1 hN ?_; intro v4 w4 hown4 hk4)
          go_roundw
          case rel => exact ⟨k + 1, acc ++ [s[k]], by go_num, by omega, hown4, by rw [List.append_assoc]; exact HC.out, hk4 _ hbel⟩
          case measure => simp [intOf]; omega
      · have hb194 : (((s[k].toNat : Int)) == 194) = false := u8_ne (b := 194) h194
        rw [esc_byte _ (fun e => h194 e.1), he1] at hc
        have HC := Lib.hid hc; clear hc h194 he1
        go_wp2_with (at_builtin; refine app_byte wr rfl (.tmp 20) (.tmp 22) rfl w.heap.size _ acc s[k] rfl hown rfl hl1 hN ?_; intro v4 w4 hown4 hk4)
        go_roundw
        case rel => exact ⟨k + 1, acc ++ [s[k]], by go_num, by omega, hown4, by rw [List.append_assoc]; exact HC.out, hk4 _ hbel⟩
        case measure => simp [intOf]; omega
    · have hcv := hown.string
      rw [drop_nil s k hp, esc_nil, List.append_nil] at hc
      subst hc
      clear hl6
      go_wp2
      go_ret
      exact ⟨rfl, hbel⟩

theorem text_any (s : ByteArray) (w : World) (hs : s.size ≤ 10000000) : Calls Tryd.prog 67 #[.string s] w fun e w' => e = .returned (.string (B (esc false (L s)))) ∧ Below w.heap.size w w' := by
  go_enter Tryd.func67, Tryd.ntmps67
  go_wp2_with fail
  refine (escaped_false s w hs).mono ?_
  rintro e w1 ⟨rfl, hb1⟩
  go_wp2
  go_ret
  exact ⟨rfl, hb1⟩
theorem valueOf_any (s : ByteArray) (w : World) (hs : s.size ≤ 10000000) : Calls Tryd.prog 87 #[.string s] w fun e w' => e = .returned (.string (B (esc true (L s)))) ∧ Below w.heap.size w w' := by
  go_enter Tryd.func87, Tryd.ntmps87
  go_wp2_with fail
  refine (escaped_true s w hs).mono ?_
  rintro e w1 ⟨rfl, hb1⟩
  go_wp2
  go_ret
  exact ⟨rfl, hb1⟩

end Go.Proofs.YtjhhhlomkfnniaaDoor.Re
