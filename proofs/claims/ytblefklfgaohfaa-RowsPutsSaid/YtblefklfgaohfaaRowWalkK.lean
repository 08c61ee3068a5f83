/-
  Walks of stage 4: joined, Text, textsEnd; boltingref04.Text.
-/
import Derived.Test.YtblefklfgaohfaaRowWalkJ
import Derived.Test.YtblefklfgaohfaaRowText
import Derived.Test.YtblefklfgaohfaaBytes
namespace Go.Proofs.Ytblefklfgaohfaa.Ro
set_option linter.unusedVariables false
set_option linter.unusedSimpArgs false
open Go.RowKit Ba

theorem txt_at {l : List Cw} {k : Nat} {x : Cw} (h : l.drop k = x :: l.drop (k + 1)) : txt (ros (l.take (k + 1))) = txt (ros (l.take k)) ++ txt [x.ro] := by
  rw [take_at h, ros_append, txt_append]
  rfl

set_option maxRecDepth 100000 in
theorem joined_any (A : Option Addr) (c : Nat) (l : List Cw) (w : World) (hr : Rr w w.heap.size A l) (hc : l.length ≤ c) (hm : l.length ≤ 1000000) (ht : (txt (ros l)).length ≤ 1000000000) :
    Calls Try.prog 45 #[.slice A l.length c] w fun e w' => e = .returned (.string (B (txt (ros l)))) ∧ Below w.heap.size w w' := by
  go_enter Try.func45, Try.ntmps45
  go_wp2
  go_loopw [3, 8] (fun v i wr => ∃ k : Nat, i = .int .i64 k ∧ k ≤ l.length ∧ Own w.heap.size wr v (txt (ros (l.take k))) ∧ Below w.heap.size w wr) (fun _ i _ => l.length - (intOf i).toNat)
  case atStart => exact ⟨0, rfl, by omega, Own.nil _ _, Below.refl _ _⟩
  case round =>
    obtain ⟨k, rfl, hk, hown, hbel⟩ := hrel
    have hsz := hbel.size
    by_cases hp : k < l.length
    · obtain ⟨b, off, x, rfl, hb, hdx, hx, _, _⟩ := (hr.below hbel).at_ k hp
      have htx := txt_at hdx
      have hb1 := hbel.alloc hsz (rowO x)
      cases h1 : x.ro.kind == 1 with
      | true =>
        rw [txt_text (beq_iff_eq.1 h1)] at htx
        have hl2 := congrArg List.length htx
        rw [List.length_append, size_L] at hl2
        have hl3 := txt_take (ros l) (k + 1)
        rw [ros_take] at hl3
        have hle : (txt (ros (l.take k))).length + x.ro.data.size ≤ 140737488355328 := by omega
        have HT := Lib.hid htx; have HO := Lib.hid hown; have HB := Lib.hid hb1; have HL := Lib.hid hle
        clear htx hdx hown hb1 hl2 hl3 hle
        go_wp2_with (first
          | (refine wpList_load_mid rfl 43 (.tmp 10) rfl b (off + k * 5) rfl _ _ hx Try.underlying43 rfl size_row ?_)
          | (at_builtin; refine app_strb _ rfl (.tmp 15) (.tmp 17) rfl w.heap.size _ _ x.ro.data rfl (HO.out.alloc _) rfl HL.out (by simp; omega) ?_; intro v3 w3 ho3 hk3))
        go_roundw
        case rel => exact ⟨k + 1, by go_num, by omega, by rw [HT.out]; exact ho3, hk3 w HB.out⟩
        case measure => simp [intOf]; omega
      | false =>
        rw [txt_other (beq_eq_false_iff_ne.1 h1), List.append_nil] at htx
        have HT := Lib.hid htx; have HO := Lib.hid hown; have HB := Lib.hid hb1
        clear htx hdx hown hb1
        go_wp2_with (refine wpList_load_mid rfl 43 (.tmp 10) rfl b (off + k * 5) rfl _ _ hx Try.underlying43 rfl size_row ?_)
        go_roundw
        case rel => exact ⟨k + 1, by go_num, by omega, by rw [HT.out]; exact HO.out.alloc _, HB.out⟩
        case measure => simp [intOf]; omega
    · rw [List.take_of_length_le (by omega)] at hown
      have hstr := hown.string
      go_wp2
      go_ret
      exact ⟨rfl, hbel⟩

set_option maxRecDepth 100000 in
theorem Text_any (A : Option Addr) (c : Nat) (l : List Cw) (i : Int) (w : World) (hr : Rr w w.heap.size A l) (hc : l.length ≤ c) (hm : l.length ≤ 1000000) (ht : (txt (ros l)).length ≤ 1000000000) :
    Calls Try.prog 26 #[.slice A l.length c, .int .i64 i] w fun e w' => e = .returned (.string (B (textAt (ros l) i))) ∧ Below w.heap.size w w' := by
  by_cases h1 : i = -1
  · subst h1
    go_enter Try.func26, Try.ntmps26
    go_wp2_with fail
    refine (joined_any A c l w hr hc hm ht).mono ?_
    rintro e w1 ⟨rfl, hb1⟩
    go_wp2
    go_ret
    exact ⟨rfl, hb1⟩
  · have h1' : (i == -1) = false := beq_eq_false_iff_ne.2 h1
    by_cases h : 0 ≤ i ∧ i < l.length
    · rw [textAt, if_neg h1, hasRow_yes h.1 h.2, if_pos rfl]
      obtain ⟨h2, h3⟩ := h
      obtain ⟨j, rfl⟩ := Int.eq_ofNat_of_zero_le h2
      have e1 := endOf_le (ros l) j (by rw [len_ros]; exact h3)
      have e2 := endOf_ge (ros l) j
      rw [len_ros] at e1
      obtain ⟨E, hE⟩ : ∃ E, endOf (ros l) j = E := ⟨_, rfl⟩
      rw [hE] at e1 e2 ⊢
      have HE := Lib.hid hE
      clear h1 hE
      have e3 : j ≤ E := by omega
      go_enter Try.func26, Try.ntmps26
      go_wp2_with fail
      refine (hasYes_any A _ c j w hc h2 h3).mono ?_
      rintro e w1 ⟨rfl, rfl⟩
      go_wp2_with fail
      refine (endOf_any A c l j w hr hc hm (by omega) h3).mono ?_
      rintro e w1 ⟨rfl, rfl⟩
      rw [HE.out]
      have hpart := hr.mid j E c e3 e1 hc (by omega)
      have hlen := len_part l j E e1
      have hros := ros_part l j E
      obtain ⟨m, hmd⟩ : ∃ m, (l.take E).drop j = m := ⟨_, rfl⟩
      rw [hmd] at hpart hlen hros
      have htm : (txt (ros m)).length ≤ 1000000000 := by
        rw [hros]
        have q1 := txt_drop ((ros l).take E) j
        have q2 := txt_take (ros l) E
        omega
      have HP := Lib.hid hpart; have HR := Lib.hid hros; have HL := Lib.hid hlen
      have hml : m.length ≤ c - j := by omega
      have hml2 : m.length ≤ 1000000 := by omega
      clear hmd hpart hros hlen
      go_wp2_with fail
      rw [← HL.out]
      refine (joined_any _ (c - j) m w HP.out hml hml2 htm).mono ?_
      rintro e w1 ⟨rfl, hb1⟩
      go_wp2
      go_ret
      exact ⟨ret_str (by rw [HR.out]; rfl), hb1⟩
    · rw [textAt, if_neg h1, hasRow_no h, if_neg (by decide)]
      clear h1
      go_enter Try.func26, Try.ntmps26
      go_wp2_with fail
      refine (hasNo_any A _ c i w hc h).mono ?_
      rintro e w1 ⟨rfl, rfl⟩
      go_wp2
      go_ret
      exact ⟨rfl, Below.refl _ _⟩

theorem txt_step {l : List Cw} {f k : Nat} {x : Cw} (hf : f ≤ k) (h : l.drop k = x :: l.drop (k + 1)) : txt (ros ((l.take (k + 1)).drop f)) = txt (ros ((l.take k).drop f)) ++ txt [x.ro] := by
  have hk : k < l.length := by
    rcases Nat.lt_or_ge k l.length with h1 | h1
    · exact h1
    · rw [List.drop_eq_nil_of_le h1] at h; cases h
  rw [take_at h, List.drop_append_of_le_length (by rw [List.length_take]; omega), ros_append, txt_append]
  rfl
theorem txt_part (l : List Ro) (f k : Nat) : (txt ((l.take k).drop f)).length ≤ (txt l).length := Nat.le_trans (txt_drop _ _) (txt_take _ _)
theorem B_step (a : List UInt8) (s : ByteArray) : B a ++ s = B (a ++ L s) := by
  have := B_append a (L s)
  rwa [B_L] at this

set_option maxRecDepth 100000 in
set_option maxHeartbeats 1000000 in
theorem refText_any (A : Option Addr) (c : Nat) (l : List Cw) (i : Int) (w : World) (hr : Rr w w.heap.size A l) (hc : l.length ≤ c) (hm : l.length ≤ 1000000) (ht : (txt (ros l)).length ≤ 1000000000) :
    Calls Try.prog 27 #[.slice A l.length c, .int .i64 i] w fun e w' => e = .returned (.string (B (textAt (ros l) i))) ∧ Below w.heap.size w w' := by
  by_cases h1 : i < -1
  · have e : textAt (ros l) i = [] := by rw [textAt, if_neg (by omega), hasRow_no (by omega), if_neg (by decide)]
    rw [e]
    have h2 : decide (0 ≤ i) = false := decide_eq_false (by omega)
    have h3 : decide (-1 ≤ i) = false := decide_eq_false (by omega)
    clear e
    go_enter Try.func27, Try.ntmps27
    go_wp2
    go_loop [5, 8] (fun s v => s = .string ⟨#[]⟩ ∧ v = .int .i64 0) (fun _ _ => 0)
    case atStart => exact ⟨rfl, rfl⟩
    case round =>
      obtain ⟨rfl, rfl⟩ := hrel
      go_wp2
      all_goals (go_ret; exact ⟨rfl, Below.refl _ _⟩)
  · have h1' : -1 ≤ i := by omega
    by_cases h2 : i = -1
    · subst h2
      have e : textAt (ros l) (-1) = txt (ros l) := rfl
      rw [e]
      clear e
      go_enter Try.func27, Try.ntmps27
      go_wp2
      go_loop [5, 8] (fun s v => ∃ k : Nat, v = .int .i64 k ∧ k ≤ l.length ∧ s = .string (B (txt (ros ((l.take k).drop 0))))) (fun _ v => l.length - (intOf v).toNat)
      case atStart => exact ⟨0, rfl, by omega, rfl⟩
      case round =>
        obtain ⟨k, rfl, hk, rfl⟩ := hrel
        by_cases hp : k < l.length
        · obtain ⟨b, off, x, rfl, hb, hdx, hx, _, _⟩ := hr.at_ k hp
          have g1 := (range5 hx).2.1
          have g3 := (range5 hx).2.2.2.1
          have htx := txt_step (Nat.zero_le k) hdx
          have hl3 := txt_part (ros l) 0 (k + 1)
          rw [← ros_part, htx, List.length_append] at hl3
          cases h3 : x.ro.kind == 1 with
          | true =>
            rw [txt_text (beq_iff_eq.1 h3)] at htx hl3
            have htx2 : B (txt (ros ((l.take k).drop 0))) ++ x.ro.data = B (txt (ros ((l.take (k + 1)).drop 0))) := by rw [B_step, htx]
            have hsz : (B (txt (ros ((l.take k).drop 0)))).size + x.ro.data.size ≤ 140737488351232 := by rw [size_B, ← size_L x.ro.data]; omega
            obtain ⟨S, hS⟩ : ∃ S, B (txt (ros ((l.take k).drop 0))) = S := ⟨_, rfl⟩
            rw [hS] at htx2 hsz ⊢
            have HT := Lib.hid htx2
            clear htx htx2 hdx hx hl3 hS
            go_wp2
            go_round
            case rel => exact ⟨k + 1, by go_num, by omega, by rw [HT.out]⟩
            case measure => simp [intOf]; omega
          | false =>
            rw [txt_other (beq_eq_false_iff_ne.1 h3), List.append_nil] at htx
            have HT := Lib.hid htx
            clear htx hdx hx hl3
            go_wp2
            go_round
            case rel => exact ⟨k + 1, by go_num, by omega, by rw [HT.out]⟩
            case measure => simp [intOf]; omega
        · go_wp2
          go_ret
          exact ⟨ret_str (by rw [List.take_of_length_le (by omega)]), Below.refl _ _⟩
    · have h0 : 0 ≤ i := by omega
      obtain ⟨j, rfl⟩ := Int.eq_ofNat_of_zero_le h0
      clear h2 h1 h1'
      have hmin := fun w => min_any j l.length (l.length : Int) rfl (min j l.length) rfl w
      by_cases h3 : j < l.length
      · have e1 := endOf_le (ros l) j (by rw [len_ros]; omega)
        have e2 := endOf_ge (ros l) j
        rw [len_ros] at e1
        have e3 : textAt (ros l) j = txt (ros ((l.take (endOf (ros l) j)).drop j)) := by
          rw [textAt, if_neg (by omega), hasRow_yes (by omega) (by omega), if_pos rfl, ros_part]
          rfl
        rw [e3]
        have hE0 := endAt_yes (l := l) (i := j) (by omega) (by omega)
        obtain ⟨E, hE⟩ : ∃ E, endOf (ros l) j = E := ⟨_, rfl⟩
        rw [hE] at e1 e2 hE0 ⊢
        rw [Nat.min_eq_left (Nat.le_of_lt h3)] at hmin
        have HE := Lib.hid hE0
        clear hE e3 hE0
        have e4 : j ≤ E := by omega
        go_enter Try.func27, Try.ntmps27
        go_wp2_with fail
        refine (refEnd_any A c l j w hr hc hm).mono ?_
        rintro e w1 ⟨rfl, n, rfl⟩
        rw [HE.out]
        clear hmin
        go_wp2
        go_loop [5, 8] (fun s v => ∃ k : Nat, v = .int .i64 k ∧ j ≤ k ∧ k ≤ E ∧ s = .string (B (txt (ros ((l.take k).drop j))))) (fun _ v => E - (intOf v).toNat)
        case atStart => exact ⟨j, rfl, by omega, e4, by rw [List.drop_eq_nil_of_le (by rw [List.length_take]; omega)]; rfl⟩
        case round =>
          obtain ⟨k, rfl, hjk, hk, rfl⟩ := hrel
          by_cases hp : k < E
          · obtain ⟨b, off, x, rfl, hb, hdx, hx, _, _⟩ := (hr.drewN n).at_ k (by omega)
            have g1 := (range5 hx).2.1
            have g3 := (range5 hx).2.2.2.1
            have htx := txt_step hjk hdx
            have hl3 := txt_part (ros l) j (k + 1)
            rw [← ros_part, htx, List.length_append] at hl3
            cases h5 : x.ro.kind == 1 with
            | true =>
              rw [txt_text (beq_iff_eq.1 h5)] at htx hl3
              have htx2 : B (txt (ros ((l.take k).drop j))) ++ x.ro.data = B (txt (ros ((l.take (k + 1)).drop j))) := by rw [B_step, htx]
              have hsz : (B (txt (ros ((l.take k).drop j)))).size + x.ro.data.size ≤ 140737488351232 := by rw [size_B, ← size_L x.ro.data]; omega
              obtain ⟨S, hS⟩ : ∃ S, B (txt (ros ((l.take k).drop j))) = S := ⟨_, rfl⟩
              rw [hS] at htx2 hsz ⊢
              have HT := Lib.hid htx2
              clear htx htx2 hdx hx hl3 hS
              go_wp2
              go_round
              case rel => exact ⟨k + 1, by go_num, by omega, by omega, by rw [HT.out]⟩
              case measure => simp [intOf]; omega
            | false =>
              rw [txt_other (beq_eq_false_iff_ne.1 h5), List.append_nil] at htx
              have HT := Lib.hid htx
              clear htx hdx hx hl3
              go_wp2
              go_round
              case rel => exact ⟨k + 1, by go_num, by omega, by omega, by rw [HT.out]⟩
              case measure => simp [intOf]; omega
          · obtain rfl : k = E := by omega
            go_wp2
            go_ret
            exact ⟨rfl, below_dN (Below.refl _ _) n⟩
      · have e3 : textAt (ros l) j = [] := by rw [textAt, if_neg (by omega), hasRow_no (by omega), if_neg (by decide)]
        rw [e3]
        have hE0 := endAt_no (l := l) (i := j) (by omega)
        rw [Nat.min_eq_right (by omega)] at hmin
        have HE := Lib.hid hE0
        clear e3 hE0
        go_enter Try.func27, Try.ntmps27
        go_wp2_with fail
        refine (refEnd_any A c l j w hr hc hm).mono ?_
        rintro e w1 ⟨rfl, n, rfl⟩
        rw [HE.out]
        clear hmin
        go_wp2
        go_loop [5, 8] (fun s v => s = .string ⟨#[]⟩ ∧ v = .int .i64 l.length) (fun _ _ => 0)
        case atStart => exact ⟨rfl, rfl⟩
        case round =>
          obtain ⟨rfl, rfl⟩ := hrel
          go_wp2
          all_goals (go_ret; exact ⟨rfl, below_dN (Below.refl _ _) n⟩)

end Go.Proofs.Ytblefklfgaohfaa.Ro
