/-
  Walks of stage 15: header.inName, valid, among, divided; boltingref15.May, pieces.
-/
import Derived.Test.YthgpjhblbpiagaaHeadMath
import Derived.Test.YthgpjhblbpiagaaRefHas
namespace Go.Proofs.Ythgpjhblbpiagaa.He
set_option maxRecDepth 100000
set_option linter.unusedSimpArgs false
set_option linter.unusedVariables false
open Go.RowKit Ba Fm Fo

theorem letter1 (c : UInt8) (w : World) (q : Bool) (h : lr c = q) : Calls Try.prog 37 #[.int .u8 c.toNat] w fun e w' => e = .returned (.bool q) ∧ w = w' := by
  have k := letter_any c w
  rw [h] at k
  exact k
theorem refLetter1 (c : UInt8) (w : World) (q : Bool) (h : lr c = q) : Calls Try.prog 32 #[.int .u8 c.toNat] w fun e w' => e = .returned (.bool q) ∧ w = w' := by
  have k := refLetter_any c w
  rw [h] at k
  exact k

set_option maxHeartbeats 4000000 in
theorem inName_any (c : UInt8) (w : World) :
    Calls Try.prog 36 #[.int .u8 c.toNat] w fun e w' => e = .returned (.bool (okc c)) ∧ w = w' := by
  have e45 : ((c.toNat : Int) == 45) = (c == 45) := u8_eq (b := 45)
  have e35 : ((c.toNat : Int) == 35) = (c == 35) := u8_eq (b := 35)
  have e61 : ((c.toNat : Int) == 61) = (c == 61) := u8_eq (b := 61)
  have e95 : ((c.toNat : Int) == 95) = (c == 95) := u8_eq (b := 95)
  have e47 : ((c.toNat : Int) == 47) = (c == 47) := u8_eq (b := 47)
  have e64 : ((c.toNat : Int) == 64) = (c == 64) := u8_eq (b := 64)
  have e46 : ((c.toNat : Int) == 46) = (c == 46) := u8_eq (b := 46)
  have e37 : ((c.toNat : Int) == 37) = (c == 37) := u8_eq (b := 37)
  have hv : okc c = (mark c || (lr c || digit c)) := rfl
  unfold mark digit at hv
  have HV := Lib.hid hv; clear hv
  cases h45 : (c == 45) with
  | true =>
    rw [h45] at e45
    have H45 := Lib.hid h45; clear h45 e35 e61 e95 e47 e64 e46 e37
    go_enter Try.func36, Try.ntmps36
    go_wp2
    go_ret
    exact ⟨ret_bool (by rw [HV.out, H45.out]; simp), rfl⟩
  | false =>
    rw [h45] at e45
    have H45 := Lib.hid h45; clear h45
    cases h35 : (c == 35) with
    | true =>
      rw [h35] at e35
      have H35 := Lib.hid h35; clear h35 e61 e95 e47 e64 e46 e37
      go_enter Try.func36, Try.ntmps36
      go_wp2
      go_ret
      exact ⟨ret_bool (by rw [HV.out, H45.out, H35.out]; simp), rfl⟩
    | false =>
      rw [h35] at e35
      have H35 := Lib.hid h35; clear h35
      cases h61 : (c == 61) with
      | true =>
        rw [h61] at e61
        have H61 := Lib.hid h61; clear h61 e95 e47 e64 e46 e37
        go_enter Try.func36, Try.ntmps36
        go_wp2
        go_ret
        exact ⟨ret_bool (by rw [HV.out, H45.out, H35.out, H61.out]; simp), rfl⟩
      | false =>
        rw [h61] at e61
        have H61 := Lib.hid h61; clear h61
        cases h95 : (c == 95) with
        | true =>
          rw [h95] at e95
          have H95 := Lib.hid h95; clear h95 e47 e64 e46 e37
          go_enter Try.func36, Try.ntmps36
          go_wp2
          go_ret
          exact ⟨ret_bool (by rw [HV.out, H45.out, H35.out, H61.out, H95.out]; simp), rfl⟩
        | false =>
          rw [h95] at e95
          have H95 := Lib.hid h95; clear h95
          cases h47 : (c == 47) with
          | true =>
            rw [h47] at e47
            have H47 := Lib.hid h47; clear h47 e64 e46 e37
            go_enter Try.func36, Try.ntmps36
            go_wp2
            go_ret
            exact ⟨ret_bool (by rw [HV.out, H45.out, H35.out, H61.out, H95.out, H47.out]; simp), rfl⟩
          | false =>
            rw [h47] at e47
            have H47 := Lib.hid h47; clear h47
            cases h64 : (c == 64) with
            | true =>
              rw [h64] at e64
              have H64 := Lib.hid h64; clear h64 e46 e37
              go_enter Try.func36, Try.ntmps36
              go_wp2
              go_ret
              exact ⟨ret_bool (by rw [HV.out, H45.out, H35.out, H61.out, H95.out, H47.out, H64.out]; simp), rfl⟩
            | false =>
              rw [h64] at e64
              have H64 := Lib.hid h64; clear h64
              cases h46 : (c == 46) with
              | true =>
                rw [h46] at e46
                have H46 := Lib.hid h46; clear h46 e37
                go_enter Try.func36, Try.ntmps36
                go_wp2
                go_ret
                exact ⟨ret_bool (by rw [HV.out, H45.out, H35.out, H61.out, H95.out, H47.out, H64.out, H46.out]; simp), rfl⟩
              | false =>
                rw [h46] at e46
                have H46 := Lib.hid h46; clear h46
                cases h37 : (c == 37) with
                | true =>
                  rw [h37] at e37
                  have H37 := Lib.hid h37; clear h37 
                  go_enter Try.func36, Try.ntmps36
                  go_wp2
                  go_ret
                  exact ⟨ret_bool (by rw [HV.out, H45.out, H35.out, H61.out, H95.out, H47.out, H64.out, H46.out, H37.out]; simp), rfl⟩
                | false =>
                  rw [h37] at e37
                  have H37 := Lib.hid h37; clear h37
                  obtain ⟨q, hq⟩ : ∃ q, lr c = q := ⟨_, rfl⟩
                  have HQ := Lib.hid hq; clear hq
                  cases q with
                  | true =>
                    go_enter Try.func36, Try.ntmps36
                    go_wp2_with fail
                    refine (letter1 c _ _ HQ.out).mono ?_
                    rintro e w1 ⟨rfl, rfl⟩
                    go_wp2
                    go_ret
                    exact ⟨ret_bool (by rw [HV.out, HQ.out]; simp), rfl⟩
                  | false =>
                    by_cases h48 : (48 : Int) ≤ c.toNat <;> by_cases h57 : (c.toNat : Int) ≤ 57
                    all_goals first | omega | skip
                    all_goals
                      have H48 := Lib.hid h48; have H57 := Lib.hid h57
                      go_enter Try.func36, Try.ntmps36
                      go_wp2_with fail
                      refine (letter1 c _ _ HQ.out).mono ?_
                      rintro e w1 ⟨rfl, rfl⟩
                      go_wp2
                      go_ret
                      exact ⟨ret_bool (by rw [HV.out, HQ.out, H45.out, H35.out, H61.out, H95.out, H47.out, H64.out, H46.out, H37.out]; simp [H48.out, H57.out]), rfl⟩

set_option maxHeartbeats 1000000 in
theorem valid_any (s : ByteArray) (w : World) (hs : s.size ≤ 140737488355328) :
    Calls Try.prog 30 #[.string s] w fun e w' => e = .returned (.bool (mayB s)) ∧ w = w' := by
  have hem : s.toList.isEmpty = !decide (L s ≠ []) := by rw [toList_L]; cases L s <;> rfl
  go_enter Try.func30, Try.ntmps30
  go_wp2
  go_loop [6] (fun i => ∃ k : Nat, i = .int .i64 k ∧ k ≤ s.size ∧ ((L s).take k).all okc = true) (fun i => s.size - (intOf i).toNat)
  case atStart => exact ⟨0, rfl, Nat.zero_le _, rfl⟩
  case round =>
    obtain ⟨k, rfl, hks, ha⟩ := hrel
    have HA := Lib.hid ha; clear ha
    by_cases hp : k < s.size
    · have hok : ∀ (w : World) (q : Bool), okc s[k] = q → Calls Try.prog 36 #[.int .u8 s[k].toNat] w fun e w' => e = .returned (.bool q) ∧ w = w' := fun w q h => by
        have := inName_any s[k] w
        rw [h] at this
        exact this
      have HOK := Lib.hid hok; clear hok
      obtain ⟨q, hq⟩ : ∃ q, okc s[k] = q := ⟨_, rfl⟩
      have HQ := Lib.hid hq; clear hq
      cases q with
      | true =>
        go_wp2_with fail
        refine (HOK.out _ _ HQ.out).mono ?_
        rintro e w1 ⟨rfl, rfl⟩
        go_wp2
        go_round
        case rel => exact ⟨k + 1, by go_num, by omega, by rw [take_snoc s k hp, List.all_append, HA.out]; simp [HQ.out]⟩
        case measure => simp [intOf]; omega
      | false =>
        go_wp2_with fail
        refine (HOK.out _ _ HQ.out).mono ?_
        rintro e w1 ⟨rfl, rfl⟩
        go_wp2
        go_ret
        exact ⟨ret_bool (mayB_bad (c := s[k]) (List.getElem_mem (l := L s) (by rw [size_L]; exact hp)) HQ.out).symm, rfl⟩
    · have hall : (L s).all okc = true := by
        have := HA.out
        rwa [List.take_of_length_le (by rw [size_L]; omega)] at this
      have HAL := Lib.hid hall; clear hall
      obtain ⟨q, hq⟩ : ∃ q, decide (L s ≠ []) = q := ⟨_, rfl⟩
      rw [hq] at hem
      have HQ := Lib.hid hq; clear hq
      cases q with
      | true =>
        go_wp2
        go_ret
        exact ⟨ret_bool (by unfold mayB; rw [HAL.out, HQ.out]; rfl), rfl⟩
      | false =>
        go_wp2
        go_ret
        exact ⟨ret_bool (by unfold mayB; rw [HAL.out, HQ.out]; rfl), rfl⟩
theorem valid1 (s : ByteArray) (w : World) (hs : s.size ≤ 140737488355328) (q : Bool) (h : mayB s = q) : Calls Try.prog 30 #[.string s] w fun e w' => e = .returned (.bool q) ∧ w = w' := by
  have k := valid_any s w hs
  rw [h] at k
  exact k

set_option maxHeartbeats 400000 in
theorem among_any (A : Option Addr) (c N : Nat) (l : List ByteArray) (s : ByteArray) (w : World) (hr : Rd w N A l) (hl : l.length ≤ 8796093022208) :
    Calls Try.prog 28 #[.slice A l.length c, .string s] w fun e w' => e = .returned (.bool (isIn s l)) ∧ w = w' := by
  go_enter Try.func28, Try.ntmps28
  go_wp2
  go_loop [9] (fun i => ∃ k : Nat, i = .int .i64 k ∧ k ≤ l.length ∧ ¬ s ∈ l.take k) (fun i => l.length - (intOf i).toNat)
  case atStart => exact ⟨0, rfl, Nat.zero_le _, by simp⟩
  case round =>
    obtain ⟨k, rfl, hks, hn⟩ := hrel
    have HN := Lib.hid hn; clear hn
    by_cases hp : k < l.length
    · obtain ⟨b, off, rfl, _, hc⟩ := hr (by omega)
      have hcell := hc k hp
      clear hc hr
      have heq := eq_of_toList (a := l[k]) (b := s)
      by_cases he : l[k] = s
      · rw [decide_eq_true he] at heq
        have HE := Lib.hid he; clear he
        go_wp2
        go_ret
        exact ⟨ret_bool (isIn_yes (by have := HE.out; rw [← this]; exact List.getElem_mem _)).symm, rfl⟩
      · rw [decide_eq_false he] at heq
        have HE := Lib.hid he; clear he
        go_wp2
        go_round
        case rel => exact ⟨k + 1, by go_num, by omega, has_snoc l s k hp HN.out HE.out⟩
        case measure => simp [intOf]; omega
    · go_wp2
      go_ret
      refine ⟨ret_bool (isIn_no ?_).symm, rfl⟩
      have := HN.out
      rwa [List.take_of_length_le (by omega)] at this

theorem bdp {acc : List ByteArray} {r : List ByteArray} {x : ByteArray} {s : ByteArray} (h : acc ++ x :: r = pcs s) (hs : s.size ≤ 1000000) : (acc.length + 1) * 16 ≤ 140737488355328 := by
  have h1 := congrArg List.length h
  rw [List.length_append, List.length_cons] at h1
  have h2 := len_pcs s
  omega

set_option maxHeartbeats 1000000 in
theorem divided_any (s : ByteArray) (w : World) (hs : s.size ≤ 1000000) :
    Calls Try.prog 25 #[.string s] w fun e w' => ∃ v, e = .returned v ∧ Sown w.heap.size w' v (pcs s) ∧ Below w.heap.size w w' := by
  go_enter Try.func25, Try.ntmps25
  go_wp2
  go_loopw [3, 4, 8] (fun v st i wr => ∃ (a k : Nat) (acc : List ByteArray), st = .int .i64 a ∧ i = .int .i64 k ∧ a ≤ k ∧ k ≤ s.size ∧ Sown w.heap.size wr v acc ∧ acc ++ (pL (cut s a k) ((L s).drop k)).map B = pcs s ∧ Below w.heap.size w wr) (fun _ _ i _ => s.size - (intOf i).toNat)
  case atStart => exact ⟨0, 0, [], rfl, rfl, Nat.le_refl _, Nat.zero_le _, Sown.nil _ _, by rw [cut_self]; rfl, Below.refl _ _⟩
  case round =>
    obtain ⟨a, k, acc, rfl, rfl, hak, hks, hown, hc, hbel⟩ := hrel
    have hN := hbel.size
    by_cases hp : k < s.size
    · rw [drop_cons s k hp] at hc
      have e59 : ((s[k].toNat : Int) == 59) = (s[k] == 59) := u8_eq (b := 59)
      by_cases hsp : s[k] = 59
      · rw [pL_semi _ _ hsp, List.map_cons] at hc
        have hbd := bdp hc hs
        rw [beq_iff_eq.2 hsp] at e59
        rw [← cut_self s (k + 1), ← List.singleton_append, ← List.append_assoc] at hc
        have HC := Lib.hid hc; clear hc hsp
        have he := extract_cut s a k
        have HE := Lib.hid he; clear he
        go_wp2_with (at_builtin; refine app_one wr rfl (.tmp 15) (.tmp 20) rfl w.heap.size _ acc (s.extract a k) rfl hown rfl hbd hN ?_; intro v2 w2 hown2 hk2 _)
        go_roundw
        case rel => exact ⟨k + 1, k + 1, acc ++ [B (cut s a k)], by go_num, by go_num, by omega, by omega, by rw [← HE.out]; exact hown2, HC.out, hk2 _ hbel⟩
        case measure => simp [intOf]; omega
      · rw [pL_no _ _ hsp, ← cut_succ s a k hak hp] at hc
        rw [beq_eq_false_iff_ne.2 hsp] at e59
        have HC := Lib.hid hc; clear hc hsp
        go_wp2
        go_roundw
        case rel => exact ⟨a, k + 1, acc, rfl, by go_num, by omega, by omega, hown, HC.out, hbel⟩
        case measure => simp [intOf]; omega
    · rw [drop_nil s k hp] at hc
      obtain rfl : k = s.size := by omega
      rw [pL_end, List.map_cons, List.map_nil] at hc
      have hbd := bdp hc hs
      have HC := Lib.hid hc; clear hc
      have he := extract_cut s a s.size
      have HE := Lib.hid he; clear he
      go_wp2_with (at_builtin; refine app_one wr rfl (.tmp 25) (.tmp 29) rfl w.heap.size _ acc (s.extract a s.size) rfl hown rfl hbd hN ?_; intro v2 w2 hown2 hk2 _)
      go_ret
      exact ⟨v2, rfl, by rw [← HC.out, ← HE.out]; exact hown2, hk2 _ hbel⟩

set_option maxHeartbeats 1000000 in
theorem pieces_any (s : ByteArray) (w : World) (hs : s.size ≤ 1000000) :
    Calls Try.prog 21 #[.string s] w fun e w' => ∃ v, e = .returned v ∧ Sown w.heap.size w' v (pcs s) ∧ Below w.heap.size w w' := by
  have ho0 := Sown.made w
  go_enter Try.func21, Try.ntmps21
  go_wp2
  go_loopw [3, 4, 5] (fun v st i wr => ∃ (a k : Nat) (acc : List ByteArray), st = .int .i64 a ∧ i = .int .i64 k ∧ a ≤ k ∧ k ≤ s.size ∧ Sown w.heap.size wr v acc ∧ acc ++ (pL (cut s a k) ((L s).drop k)).map B = pcs s ∧ Below w.heap.size w wr) (fun _ _ i _ => s.size - (intOf i).toNat)
  case atStart => exact ⟨0, 0, [], rfl, rfl, Nat.le_refl _, Nat.zero_le _, ho0, by rw [cut_self]; rfl, (Below.refl _ _).alloc (Nat.le_refl _) _⟩
  case round =>
    clear ho0
    obtain ⟨a, k, acc, rfl, rfl, hak, hks, hown, hc, hbel⟩ := hrel
    have hN := hbel.size
    by_cases hp : k < s.size
    · rw [drop_cons s k hp] at hc
      have e59 : ((s[k].toNat : Int) == 59) = (s[k] == 59) := u8_eq (b := 59)
      by_cases hsp : s[k] = 59
      · rw [pL_semi _ _ hsp, List.map_cons] at hc
        have hbd := bdp hc hs
        rw [beq_iff_eq.2 hsp] at e59
        rw [← cut_self s (k + 1), ← List.singleton_append, ← List.append_assoc] at hc
        have HC := Lib.hid hc; clear hc hsp
        have he := extract_cut s a k
        have HE := Lib.hid he; clear he
        go_wp2_with (at_builtin; refine app_one wr rfl (.tmp 17) (.tmp 22) rfl w.heap.size _ acc (s.extract a k) rfl hown rfl hbd hN ?_; intro v2 w2 hown2 hk2 _)
        go_roundw
        case rel => exact ⟨k + 1, k + 1, acc ++ [B (cut s a k)], by go_num, by go_num, by omega, by omega, by rw [← HE.out]; exact hown2, HC.out, hk2 _ hbel⟩
        case measure => simp [intOf]; omega
      · rw [pL_no _ _ hsp, ← cut_succ s a k hak hp] at hc
        rw [beq_eq_false_iff_ne.2 hsp] at e59
        have HC := Lib.hid hc; clear hc hsp
        go_wp2
        go_roundw
        case rel => exact ⟨a, k + 1, acc, rfl, by go_num, by omega, by omega, hown, HC.out, hbel⟩
        case measure => simp [intOf]; omega
    · rw [drop_nil s k hp] at hc
      obtain rfl : k = s.size := by omega
      rw [pL_end, List.map_cons, List.map_nil] at hc
      have hbd := bdp hc hs
      have HC := Lib.hid hc; clear hc
      have he := extract_cut s a s.size
      have HE := Lib.hid he; clear he
      go_wp2_with (at_builtin; refine app_one wr rfl (.tmp 26) (.tmp 30) rfl w.heap.size _ acc (s.extract a s.size) rfl hown rfl hbd hN ?_; intro v2 w2 hown2 hk2 _)
      go_ret
      exact ⟨v2, rfl, by rw [← HC.out, ← HE.out]; exact hown2, hk2 _ hbel⟩

theorem okc_of (c : UInt8) : okc c = (mark c || lr c || digit c) := by unfold okc; rw [Bool.or_assoc]

set_option maxHeartbeats 8000000 in
theorem may_any (s : ByteArray) (w : World) (hs : s.size ≤ 140737488355328) :
    Calls Try.prog 23 #[.string s] w fun e w' => e = .returned (.bool (mayB s)) ∧ w = w' := by
  go_enter Try.func23, Try.ntmps23
  go_wp2
  go_loop [3] (fun i => ∃ k : Nat, i = .int .i64 k ∧ k ≤ s.size ∧ ((L s).take k).all okc = true) (fun i => s.size - (intOf i).toNat)
  case atStart => exact ⟨0, rfl, Nat.zero_le _, rfl⟩
  case round =>
    obtain ⟨k, rfl, hks, ha⟩ := hrel
    have HA := Lib.hid ha; clear ha
    by_cases hp : k < s.size
    · have hmem : s[k] ∈ L s := List.getElem_mem (l := L s) (by rw [size_L]; exact hp)
      have hsn := take_snoc s k hp
      have HM := Lib.hid hmem; have HSN := Lib.hid hsn; clear hmem hsn
      have hv : okc s[k] = (mark s[k] || (lr s[k] || digit s[k])) := rfl
      unfold mark digit at hv
      have HV := Lib.hid hv; clear hv
      obtain ⟨c, hcc⟩ : ∃ c, s[k] = c := ⟨_, rfl⟩
      have e45 : ((s[k].toNat : Int) == 45) = (s[k] == 45) := u8_eq (b := 45)
      have e35 : ((s[k].toNat : Int) == 35) = (s[k] == 35) := u8_eq (b := 35)
      have e61 : ((s[k].toNat : Int) == 61) = (s[k] == 61) := u8_eq (b := 61)
      have e95 : ((s[k].toNat : Int) == 95) = (s[k] == 95) := u8_eq (b := 95)
      have e47 : ((s[k].toNat : Int) == 47) = (s[k] == 47) := u8_eq (b := 47)
      have e64 : ((s[k].toNat : Int) == 64) = (s[k] == 64) := u8_eq (b := 64)
      have e46 : ((s[k].toNat : Int) == 46) = (s[k] == 46) := u8_eq (b := 46)
      have e37 : ((s[k].toNat : Int) == 37) = (s[k] == 37) := u8_eq (b := 37)
      obtain ⟨q, hq⟩ : ∃ q, lr s[k] = q := ⟨_, rfl⟩
      have HQ := Lib.hid hq; clear hq hcc
      cases h45 : (s[k] == 45) with
      | true =>
        rw [h45] at e45
        have H45 := Lib.hid h45; clear h45
        clear e35 e61 e95 e47 e64 e46 e37
        cases q with
        | true =>
          go_wp2_with fail
          refine (refLetter1 s[k] _ _ HQ.out).mono ?_
          rintro e w1 ⟨rfl, rfl⟩
          go_wp2
          go_round
          case rel => exact ⟨k + 1, by go_num, by omega, by rw [HSN.out, List.all_append, HA.out]; simp [HV.out, HQ.out]⟩
          case measure => simp [intOf]; omega
        | false =>
          by_cases h48 : (48 : Int) ≤ s[k].toNat <;> by_cases h57 : (s[k].toNat : Int) ≤ 57
          all_goals
            have H48 := Lib.hid h48; have H57 := Lib.hid h57
            go_wp2_with fail
            refine (refLetter1 s[k] _ _ HQ.out).mono ?_
            rintro e w1 ⟨rfl, rfl⟩
            go_wp2
            go_round
            case rel => exact ⟨k + 1, by go_num, by omega, by rw [HSN.out, List.all_append, HA.out]; simp [HV.out, H45.out]⟩
            case measure => simp [intOf]; omega
      | false =>
        rw [h45] at e45
        have H45 := Lib.hid h45; clear h45
        cases h35 : (s[k] == 35) with
        | true =>
          rw [h35] at e35
          have H35 := Lib.hid h35; clear h35
          clear e61 e95 e47 e64 e46 e37
          cases q with
          | true =>
            go_wp2_with fail
            refine (refLetter1 s[k] _ _ HQ.out).mono ?_
            rintro e w1 ⟨rfl, rfl⟩
            go_wp2
            go_round
            case rel => exact ⟨k + 1, by go_num, by omega, by rw [HSN.out, List.all_append, HA.out]; simp [HV.out, HQ.out]⟩
            case measure => simp [intOf]; omega
          | false =>
            by_cases h48 : (48 : Int) ≤ s[k].toNat <;> by_cases h57 : (s[k].toNat : Int) ≤ 57
            all_goals
              have H48 := Lib.hid h48; have H57 := Lib.hid h57
              go_wp2_with fail
              refine (refLetter1 s[k] _ _ HQ.out).mono ?_
              rintro e w1 ⟨rfl, rfl⟩
              go_wp2
              go_round
              case rel => exact ⟨k + 1, by go_num, by omega, by rw [HSN.out, List.all_append, HA.out]; simp [HV.out, H45.out, H35.out]⟩
              case measure => simp [intOf]; omega
        | false =>
          rw [h35] at e35
          have H35 := Lib.hid h35; clear h35
          cases h61 : (s[k] == 61) with
          | true =>
            rw [h61] at e61
            have H61 := Lib.hid h61; clear h61
            clear e95 e47 e64 e46 e37
            cases q with
            | true =>
              go_wp2_with fail
              refine (refLetter1 s[k] _ _ HQ.out).mono ?_
              rintro e w1 ⟨rfl, rfl⟩
              go_wp2
              go_round
              case rel => exact ⟨k + 1, by go_num, by omega, by rw [HSN.out, List.all_append, HA.out]; simp [HV.out, HQ.out]⟩
              case measure => simp [intOf]; omega
            | false =>
              by_cases h48 : (48 : Int) ≤ s[k].toNat <;> by_cases h57 : (s[k].toNat : Int) ≤ 57
              all_goals
                have H48 := Lib.hid h48; have H57 := Lib.hid h57
                go_wp2_with fail
                refine (refLetter1 s[k] _ _ HQ.out).mono ?_
                rintro e w1 ⟨rfl, rfl⟩
                go_wp2
                go_round
                case rel => exact ⟨k + 1, by go_num, by omega, by rw [HSN.out, List.all_append, HA.out]; simp [HV.out, H45.out, H35.out, H61.out]⟩
                case measure => simp [intOf]; omega
          | false =>
            rw [h61] at e61
            have H61 := Lib.hid h61; clear h61
            cases h95 : (s[k] == 95) with
            | true =>
              rw [h95] at e95
              have H95 := Lib.hid h95; clear h95
              clear e47 e64 e46 e37
              cases q with
              | true =>
                go_wp2_with fail
                refine (refLetter1 s[k] _ _ HQ.out).mono ?_
                rintro e w1 ⟨rfl, rfl⟩
                go_wp2
                go_round
                case rel => exact ⟨k + 1, by go_num, by omega, by rw [HSN.out, List.all_append, HA.out]; simp [HV.out, HQ.out]⟩
                case measure => simp [intOf]; omega
              | false =>
                by_cases h48 : (48 : Int) ≤ s[k].toNat <;> by_cases h57 : (s[k].toNat : Int) ≤ 57
                all_goals
                  have H48 := Lib.hid h48; have H57 := Lib.hid h57
                  go_wp2_with fail
                  refine (refLetter1 s[k] _ _ HQ.out).mono ?_
                  rintro e w1 ⟨rfl, rfl⟩
                  go_wp2
                  go_round
                  case rel => exact ⟨k + 1, by go_num, by omega, by rw [HSN.out, List.all_append, HA.out]; simp [HV.out, H45.out, H35.out, H61.out, H95.out]⟩
                  case measure => simp [intOf]; omega
            | false =>
              rw [h95] at e95
              have H95 := Lib.hid h95; clear h95
              cases h47 : (s[k] == 47) with
              | true =>
                rw [h47] at e47
                have H47 := Lib.hid h47; clear h47
                clear e64 e46 e37
                cases q with
                | true =>
                  go_wp2_with fail
                  refine (refLetter1 s[k] _ _ HQ.out).mono ?_
                  rintro e w1 ⟨rfl, rfl⟩
                  go_wp2
                  go_round
                  case rel => exact ⟨k + 1, by go_num, by omega, by rw [HSN.out, List.all_append, HA.out]; simp [HV.out, HQ.out]⟩
                  case measure => simp [intOf]; omega
                | false =>
                  by_cases h48 : (48 : Int) ≤ s[k].toNat <;> by_cases h57 : (s[k].toNat : Int) ≤ 57
                  all_goals
                    have H48 := Lib.hid h48; have H57 := Lib.hid h57
                    go_wp2_with fail
                    refine (refLetter1 s[k] _ _ HQ.out).mono ?_
                    rintro e w1 ⟨rfl, rfl⟩
                    go_wp2
                    go_round
                    case rel => exact ⟨k + 1, by go_num, by omega, by rw [HSN.out, List.all_append, HA.out]; simp [HV.out, H45.out, H35.out, H61.out, H95.out, H47.out]⟩
                    case measure => simp [intOf]; omega
              | false =>
                rw [h47] at e47
                have H47 := Lib.hid h47; clear h47
                cases h64 : (s[k] == 64) with
                | true =>
                  rw [h64] at e64
                  have H64 := Lib.hid h64; clear h64
                  clear e46 e37
                  cases q with
                  | true =>
                    go_wp2_with fail
                    refine (refLetter1 s[k] _ _ HQ.out).mono ?_
                    rintro e w1 ⟨rfl, rfl⟩
                    go_wp2
                    go_round
                    case rel => exact ⟨k + 1, by go_num, by omega, by rw [HSN.out, List.all_append, HA.out]; simp [HV.out, HQ.out]⟩
                    case measure => simp [intOf]; omega
                  | false =>
                    by_cases h48 : (48 : Int) ≤ s[k].toNat <;> by_cases h57 : (s[k].toNat : Int) ≤ 57
                    all_goals
                      have H48 := Lib.hid h48; have H57 := Lib.hid h57
                      go_wp2_with fail
                      refine (refLetter1 s[k] _ _ HQ.out).mono ?_
                      rintro e w1 ⟨rfl, rfl⟩
                      go_wp2
                      go_round
                      case rel => exact ⟨k + 1, by go_num, by omega, by rw [HSN.out, List.all_append, HA.out]; simp [HV.out, H45.out, H35.out, H61.out, H95.out, H47.out, H64.out]⟩
                      case measure => simp [intOf]; omega
                | false =>
                  rw [h64] at e64
                  have H64 := Lib.hid h64; clear h64
                  cases h46 : (s[k] == 46) with
                  | true =>
                    rw [h46] at e46
                    have H46 := Lib.hid h46; clear h46
                    clear e37
                    cases q with
                    | true =>
                      go_wp2_with fail
                      refine (refLetter1 s[k] _ _ HQ.out).mono ?_
                      rintro e w1 ⟨rfl, rfl⟩
                      go_wp2
                      go_round
                      case rel => exact ⟨k + 1, by go_num, by omega, by rw [HSN.out, List.all_append, HA.out]; simp [HV.out, HQ.out]⟩
                      case measure => simp [intOf]; omega
                    | false =>
                      by_cases h48 : (48 : Int) ≤ s[k].toNat <;> by_cases h57 : (s[k].toNat : Int) ≤ 57
                      all_goals
                        have H48 := Lib.hid h48; have H57 := Lib.hid h57
                        go_wp2_with fail
                        refine (refLetter1 s[k] _ _ HQ.out).mono ?_
                        rintro e w1 ⟨rfl, rfl⟩
                        go_wp2
                        go_round
                        case rel => exact ⟨k + 1, by go_num, by omega, by rw [HSN.out, List.all_append, HA.out]; simp [HV.out, H45.out, H35.out, H61.out, H95.out, H47.out, H64.out, H46.out]⟩
                        case measure => simp [intOf]; omega
                  | false =>
                    rw [h46] at e46
                    have H46 := Lib.hid h46; clear h46
                    cases h37 : (s[k] == 37) with
                    | true =>
                      rw [h37] at e37
                      have H37 := Lib.hid h37; clear h37
                      cases q with
                      | true =>
                        go_wp2_with fail
                        refine (refLetter1 s[k] _ _ HQ.out).mono ?_
                        rintro e w1 ⟨rfl, rfl⟩
                        go_wp2
                        go_round
                        case rel => exact ⟨k + 1, by go_num, by omega, by rw [HSN.out, List.all_append, HA.out]; simp [HV.out, HQ.out]⟩
                        case measure => simp [intOf]; omega
                      | false =>
                        by_cases h48 : (48 : Int) ≤ s[k].toNat <;> by_cases h57 : (s[k].toNat : Int) ≤ 57
                        all_goals
                          have H48 := Lib.hid h48; have H57 := Lib.hid h57
                          go_wp2_with fail
                          refine (refLetter1 s[k] _ _ HQ.out).mono ?_
                          rintro e w1 ⟨rfl, rfl⟩
                          go_wp2
                          go_round
                          case rel => exact ⟨k + 1, by go_num, by omega, by rw [HSN.out, List.all_append, HA.out]; simp [HV.out, H45.out, H35.out, H61.out, H95.out, H47.out, H64.out, H46.out, H37.out]⟩
                          case measure => simp [intOf]; omega
                    | false =>
                      rw [h37] at e37
                      have H37 := Lib.hid h37; clear h37
                      cases q with
                      | true =>
                        go_wp2_with fail
                        refine (refLetter1 s[k] _ _ HQ.out).mono ?_
                        rintro e w1 ⟨rfl, rfl⟩
                        go_wp2
                        go_round
                        case rel => exact ⟨k + 1, by go_num, by omega, by rw [HSN.out, List.all_append, HA.out]; simp [HV.out, HQ.out]⟩
                        case measure => simp [intOf]; omega
                      | false =>
                        by_cases h48 : (48 : Int) ≤ s[k].toNat <;> by_cases h57 : (s[k].toNat : Int) ≤ 57
                        all_goals
                          have H48 := Lib.hid h48; have H57 := Lib.hid h57
                          go_wp2_with fail
                          refine (refLetter1 s[k] _ _ HQ.out).mono ?_
                          rintro e w1 ⟨rfl, rfl⟩
                          go_wp2
                          first
                          | (go_ret; exact ⟨ret_bool (mayB_bad HM.out (by rw [HV.out, HQ.out, H45.out, H35.out, H61.out, H95.out, H47.out, H64.out, H46.out, H37.out]; simp [H48.out, H57.out])).symm, rfl⟩)
                          | (go_round; (case rel => exact ⟨k + 1, by go_num, by omega, by rw [HSN.out, List.all_append, HA.out]; simp [HV.out, H48.out, H57.out]⟩); (case measure => simp [intOf]; omega))
    · have hall : (L s).all okc = true := by
        have := HA.out
        rwa [List.take_of_length_le (by rw [size_L]; omega)] at this
      have HAL := Lib.hid hall; clear hall
      by_cases h0 : 0 < s.size
      · have hne : decide (L s ≠ []) = true := decide_eq_true fun e => by
          have := size_L s
          rw [e] at this
          simp at this
          omega
        have HNE := Lib.hid hne; clear hne
        go_wp2
        go_ret
        exact ⟨ret_bool (by unfold mayB; rw [HAL.out, HNE.out]; simp), rfl⟩
      · have hne : decide (L s ≠ []) = false := decide_eq_false (not_not_intro (List.eq_nil_of_length_eq_zero (by rw [size_L]; omega)))
        have HNE := Lib.hid hne; clear hne
        go_wp2
        go_ret
        exact ⟨ret_bool (by unfold mayB; rw [HAL.out, HNE.out]; simp), rfl⟩
theorem may1 (s : ByteArray) (w : World) (hs : s.size ≤ 140737488355328) (q : Bool) (h : mayB s = q) : Calls Try.prog 23 #[.string s] w fun e w' => e = .returned (.bool q) ∧ w = w' := by
  have k := may_any s w hs
  rw [h] at k
  exact k

end Go.Proofs.Ythgpjhblbpiagaa.He
