/-
  Walks of stage 1's laws CharsAgain, CharsJoins, CharsPlain: each returns true.
-/
import Derived.Test.YtadhgngeonkfcaaCharsLawsB
namespace Go.Proofs.Ytadhgngeonkfcaa.Ch
open Go.RowKit

theorem get_of_mem (t : ByteArray) (k : Nat) (h : k < t.size) : t[k] ∈ L t := by
  rw [show t[k] = (L t)[k]'(by rw [size_L]; exact h) from rfl]
  exact List.getElem_mem _

theorem byte_ne {a b : UInt8} (h : a ≠ b) : ((a.toNat : Int) == b.toNat) = false := by
  simpa using fun e => h (u8_ext (by omega))

set_option maxRecDepth 100000 in
set_option maxHeartbeats 1000000 in
theorem law_again (s : ByteArray) (hs : s.size ≤ 140737488351232) (hk : s.size ≤ 1048576) (w : World) :
    Calls Try.prog 6 #[.string s] w fun e w' => e = .returned (.bool true) ∧ Below w.heap.size w w' := by
  have hdl := len_dL (L s)
  rw [size_L] at hdl
  have h1 := right_dL (L s)
  have h2 := dL_dL (L s)
  have h3 := ready_right (L s)
  have h4 := ready_ready (L s)
  have h5 := ln_ln (L s)
  have h6 := no13 (dL (L s)) false
  have h7 := no0_ready (L s)
  have hrl := ln_len false (dL (L s))
  have hnl := ln_len false (L s)
  rw [size_L] at hnl
  obtain ⟨d, hd⟩ : ∃ d, B (dL (L s)) = d := ⟨_, rfl⟩
  obtain ⟨r, hr⟩ : ∃ r, B (ln false (dL (L s))) = r := ⟨_, rfl⟩
  obtain ⟨n, hn⟩ : ∃ n, B (ln false (L s)) = n := ⟨_, rfl⟩
  have eld : L d = dL (L s) := by rw [← hd, L_B]
  have elr : L r = ln false (dL (L s)) := by rw [← hr, L_B]
  have eln : L n = ln false (L s) := by rw [← hn, L_B]
  have szd : d.size ≤ 3145728 := by rw [← size_L, eld]; omega
  have szr : r.size ≤ 3145728 := by rw [← size_L, elr]; omega
  have szn : n.size ≤ 3145728 := by rw [← size_L, eln]; omega
  have q1 : rL (L d) = true := by rw [eld]; exact h1
  have q2 : B (dL (L d)) = d := by rw [eld, h2, hd]
  have q2' : (dL (L d)).length ≤ 140737488355328 := by rw [eld, h2]; omega
  have q3 : rL (L r) = true := by rw [elr]; exact h3
  have q4 : B (ln false (dL (L r))) = r := by rw [elr, h4, hr]
  have q4' : (dL (L r)).length ≤ 140737488355328 := by
    have := len_dL (L r); rw [size_L] at this; omega
  have q5 : B (ln false (L n)) = n := by rw [eln, h5, hn]
  have q6 : ∀ k (h : k < r.size), ((r[k].toNat : Int) == 0) = false ∧ ((r[k].toNat : Int) == 13) = false := by
    intro k h
    have m := get_of_mem r k h
    rw [elr] at m
    exact ⟨byte_ne (b := 0) fun e => h7 (e ▸ m), byte_ne (b := 13) fun e => h6 (e ▸ m)⟩
  have D := Lib.hid hd; have R := Lib.hid hr; have N := Lib.hid hn
  have Q1 := Lib.hid q1; have Q2 := Lib.hid q2; have Q3 := Lib.hid q3; have Q4 := Lib.hid q4; have Q5 := Lib.hid q5; have Q6 := Lib.hid q6
  clear hd hr hn q1 q2 q3 q4 q5 q6 eld elr eln h1 h2 h3 h4 h5 h6 h7 hrl hnl
  go_enter Try.func6, Try.ntmps6
  go_wp2_with fail
  refine (decode_any s _ (by omega) (by omega)).mono ?_
  rw [D.out]
  rintro e w1 ⟨rfl, hb1⟩
  go_wp2_with fail
  refine (ready_any s _ (by omega) (by omega)).mono ?_
  rw [R.out]
  rintro e w2 ⟨rfl, hb2⟩
  go_wp2_with fail
  refine (right_any d _ (by unfold maxLen; omega)).mono ?_
  rw [Q1.out]
  rintro e w3 ⟨rfl, hb3⟩
  go_wp2_with fail
  refine (decode_any d _ (by omega) q2').mono ?_
  rw [Q2.out]
  rintro e w4 ⟨rfl, hb4⟩
  go_wp2_with fail
  refine (right_any r _ (by unfold maxLen; omega)).mono ?_
  rw [Q3.out]
  rintro e w5 ⟨rfl, hb5⟩
  go_wp2_with fail
  refine (ready_any r _ (by omega) q4').mono ?_
  rw [Q4.out]
  rintro e w6 ⟨rfl, hb6⟩
  go_wp2_with fail
  refine (lines_any s _ (by omega)).mono ?_
  rw [N.out]
  rintro e w7 ⟨rfl, hb7⟩
  go_wp2_with fail
  refine (lines_any n _ (by omega)).mono ?_
  rw [Q5.out]
  rintro e w8 ⟨rfl, hb8⟩
  go_wp2_with fail
  refine (lines_any s _ (by omega)).mono ?_
  rw [N.out]
  rintro e w9 ⟨rfl, hb9⟩
  go_wp2_with fail
  have hb : Below w.heap.size w w9 := bt (bt (bt (bt (bt (bt (bt (bt hb1 hb2) hb3) hb4) hb5) hb6) hb7) hb8) hb9
  clear hb1 hb2 hb3 hb4 hb5 hb6 hb7 hb8 hb9
  go_loopw [5] (fun i wr => ∃ k : Nat, k ≤ r.size ∧ i = .int .i64 k ∧ w9 = wr) (fun i _ => r.size - (intOf i).toNat)
  case atStart => exact ⟨0, Nat.zero_le _, rfl, rfl⟩
  case round =>
    obtain ⟨k, hkr, rfl, rfl⟩ := hrel
    by_cases hp : k < r.size
    · obtain ⟨g0, g13⟩ := Q6.out k hp
      go_wp2
      go_roundw
      case rel => exact ⟨k + 1, by omega, by go_num, by trivial⟩
      case measure => simp [intOf]; omega
    · go_wp2_with fail
      refine (fixed_any _).mono ?_
      rintro e w10 ⟨rfl, hb10⟩
      go_wp2
      go_ret
      exact ⟨rfl, bt hb hb10⟩

set_option maxRecDepth 100000 in
set_option maxHeartbeats 1000000 in
theorem law_plain (s : ByteArray) (hs : s.size ≤ 140737488351232) (w : World) :
    Calls Try.prog 9 #[.string s] w fun e w' => e = .returned (.bool true) ∧ Below w.heap.size w w' := by
  have hm : s.size ≤ maxLen := by unfold maxLen; omega
  go_enter Try.func9, Try.ntmps9
  go_wp2
  go_loopw [3] (fun i wr => ∃ k : Nat, k ≤ s.size ∧ i = .int .i64 k ∧ plain ((L s).take k) ∧ w = wr) (fun i _ => s.size - (intOf i).toNat)
  case atStart => exact ⟨0, Nat.zero_le _, rfl, by intro x hx; simp at hx, rfl⟩
  case round =>
    obtain ⟨k, hks, rfl, hpl, rfl⟩ := hrel
    have HP := Lib.hid hpl; clear hpl
    by_cases hp : k < s.size
    · have hlt := s[k].toNat_lt
      by_cases c0 : s[k] = 0
      · have g0 : ((s[k].toNat : Int) == 0) = true := by rw [c0]; rfl
        clear c0 hlt
        go_wp2_with (go_at_call 12; refine (fixed_any _).mono ?_; rintro e w' ⟨rfl, hb⟩)
        go_ret
        exact ⟨rfl, hb⟩
      have g0 : ((s[k].toNat : Int) == 0) = false := byte_ne (b := 0) c0
      by_cases c13 : s[k] = 13
      · have g13 : ((s[k].toNat : Int) == 13) = true := by rw [c13]; rfl
        clear c13 c0 hlt
        go_wp2_with (go_at_call 12; refine (fixed_any _).mono ?_; rintro e w' ⟨rfl, hb⟩)
        go_ret
        exact ⟨rfl, hb⟩
      have g13 : ((s[k].toNat : Int) == 13) = false := byte_ne (b := 13) c13
      by_cases c127 : 127 < s[k].toNat
      · have g127 : decide ((127 : Int) < (s[k].toNat : Int)) = true := by simpa using (by omega : (127 : Int) < (s[k].toNat : Int))
        clear c13 c0 hlt
        go_wp2_with (go_at_call 12; refine (fixed_any _).mono ?_; rintro e w' ⟨rfl, hb⟩)
        go_ret
        exact ⟨rfl, hb⟩
      have hnx : plain ((L s).take (k + 1)) := by
        rw [List.take_succ_eq_append_getElem (by rw [size_L]; exact hp)]
        intro x hx
        rcases List.mem_append.1 hx with hx | hx
        · exact HP.out x hx
        · have : x = s[k] := List.mem_singleton.1 hx
          rw [this]
          exact ⟨by omega, c0, c13⟩
      have g127 : decide ((127 : Int) < (s[k].toNat : Int)) = false := by simpa using (by omega : (s[k].toNat : Int) ≤ 127)
      clear c13 c0 HP
      have HN := Lib.hid hnx; clear hnx
      go_wp2
      go_roundw
      case rel => exact ⟨k + 1, by omega, by go_num, HN.out, by trivial⟩
      case measure => simp [intOf]; omega
    · have hpl : plain (L s) := by
        have := HP.out
        rwa [List.take_of_length_le (by rw [size_L]; omega)] at this
      have h1 := plain_rL _ hpl
      have h2 := plain_dL _ hpl
      have h3 := plain_ln _ hpl
      have h4 := plain_cL _ hpl
      have hBs : B (L s) = s := (B_of rfl).symm
      have q2 : B (ln false (dL (L s))) = s := by rw [h2, h3, hBs]
      have q2' : (dL (L s)).length ≤ 140737488355328 := by rw [h2, size_L]; omega
      have q3 : cL (L s) = s.size := by rw [h4, size_L]
      have q4 : B (smp (L s) (s.size : Int).toNat) = s := by rw [Int.toNat_natCast, ← q3, smp_all _ _ (Nat.le_refl _), hBs]
      have hw : (Lit.int .i64 (s.size : Int)).wf = true := by rw [← q3]; exact cL_wf _ (by rw [size_L]; omega)
      have Q1 := Lib.hid h1; have Q2 := Lib.hid q2; have Q3 := Lib.hid q3; have Q4 := Lib.hid q4
      clear h1 h2 h3 h4 hBs q2 q3 q4 hpl HP
      go_wp2_with fail
      refine (right_any s _ hm).mono ?_
      rw [Q1.out]
      rintro e w1 ⟨rfl, hb1⟩
      go_wp2_with fail
      refine (ready_any s _ (by omega) q2').mono ?_
      rw [Q2.out]
      rintro e w2 ⟨rfl, hb2⟩
      go_wp2_with fail
      refine (count_any s _ hm).mono ?_
      rw [Q3.out]
      rintro e w3 ⟨rfl, hb3⟩
      go_wp2_with fail
      refine (sample_any s _ _ hw).mono ?_
      rw [Q4.out]
      rintro e w4 ⟨rfl, hb4⟩
      go_wp2_with fail
      refine (fixed_any _).mono ?_
      rintro e w5 ⟨rfl, hb5⟩
      go_wp2
      go_ret
      exact ⟨rfl, bt (bt (bt (bt hb1 hb2) hb3) hb4) hb5⟩

theorem L_append (a b : ByteArray) : L (a ++ b) = L a ++ L b := by
  obtain ⟨⟨x⟩⟩ := a
  obtain ⟨⟨y⟩⟩ := b
  rfl
theorem size_append (a b : ByteArray) : (a ++ b).size = a.size + b.size := by rw [← size_L, L_append, List.length_append, size_L, size_L]
theorem B_append (a b : List UInt8) : B a ++ B b = B (a ++ b) := B_of (by rw [L_append, L_B, L_B])

set_option maxRecDepth 100000 in
set_option maxHeartbeats 1000000 in
theorem law_joins (a b : ByteArray) (ha : a.size ≤ 140737488351232) (hb : b.size ≤ 140737488351232) (hk : a.size + b.size ≤ 1048576) (w : World) :
    Calls Try.prog 7 #[.string a, .string b] w fun e w' => e = .returned (.bool true) ∧ Below w.heap.size w w' := by
  have ma : a.size ≤ maxLen := by unfold maxLen; omega
  have mb : b.size ≤ maxLen := by unfold maxLen; omega
  cases hra : rL (L a) with
  | false =>
    have HA := Lib.hid hra; clear hra
    go_enter Try.func7, Try.ntmps7
    go_wp2_with fail
    refine (right_any a _ ma).mono ?_
    rw [HA.out]
    rintro e w1 ⟨rfl, hb1⟩
    go_wp2_with fail
    refine (fixed_any _).mono ?_
    rintro e w2 ⟨rfl, hb2⟩
    go_wp2
    go_ret
    exact ⟨rfl, bt hb1 hb2⟩
  | true =>
  cases hrb : rL (L b) with
  | false =>
    have HA := Lib.hid hra; clear hra
    have HB := Lib.hid hrb; clear hrb
    go_enter Try.func7, Try.ntmps7
    go_wp2_with fail
    refine (right_any a _ ma).mono ?_
    rw [HA.out]
    rintro e w1 ⟨rfl, hb1⟩
    go_wp2_with fail
    refine (right_any b _ mb).mono ?_
    rw [HB.out]
    rintro e w2 ⟨rfl, hb2⟩
    go_wp2_with fail
    refine (fixed_any _).mono ?_
    rintro e w3 ⟨rfl, hb3⟩
    go_wp2
    go_ret
    exact ⟨rfl, bt (bt hb1 hb2) hb3⟩
  | true =>
    obtain ⟨j1, j2, j3⟩ := joins (L a) (L b) hra
    rw [hrb] at j1
    have la := len_dL (L a)
    have lb := len_dL (L b)
    have ca := (cL_le (L a)).1
    have cb := (cL_le (L b)).1
    rw [size_L] at la lb ca cb
    obtain ⟨c, hc⟩ : ∃ c, a ++ b = c := ⟨_, rfl⟩
    have ec : L c = L a ++ L b := by rw [← hc, L_append]
    have sc : c.size ≤ 1048576 := by rw [← hc, size_append]; exact hk
    have q1 : rL (L c) = true := by rw [ec]; exact j1
    have q2 : B (dL (L c)) = B (dL (L a)) ++ B (dL (L b)) := by rw [ec, j2, B_append]
    have q2' : (dL (L c)).length ≤ 140737488355328 := by rw [ec, j2, List.length_append]; omega
    have q3 : cL (L c) = cL (L a) + cL (L b) := by rw [ec, j3]
    have sd : (B (dL (L a))).size + (B (dL (L b))).size ≤ 140737488355328 := by rw [size_B, size_B]; omega
    have HC := Lib.hid hc; have Q1 := Lib.hid q1; have Q2 := Lib.hid q2; have Q3 := Lib.hid q3
    have HA := Lib.hid hra; have HB := Lib.hid hrb
    clear hc q1 q2 q3 hra hrb ec j1 j2 j3
    go_enter Try.func7, Try.ntmps7
    go_wp2_with fail
    refine (right_any a _ ma).mono ?_
    rw [HA.out]
    rintro e w1 ⟨rfl, hb1⟩
    go_wp2_with fail
    refine (right_any b _ mb).mono ?_
    rw [HB.out]
    rintro e w2 ⟨rfl, hb2⟩
    go_wp2_with fail
    rw [HC.out]
    refine (right_any c _ (by unfold maxLen; omega)).mono ?_
    rw [Q1.out]
    rintro e w3 ⟨rfl, hb3⟩
    go_wp2_with fail
    rw [HC.out]
    refine (decode_any c _ (by omega) q2').mono ?_
    rw [Q2.out]
    rintro e w4 ⟨rfl, hb4⟩
    go_wp2_with fail
    refine (decode_any a _ (by omega) (by omega)).mono ?_
    rintro e w5 ⟨rfl, hb5⟩
    go_wp2_with fail
    refine (decode_any b _ (by omega) (by omega)).mono ?_
    rintro e w6 ⟨rfl, hb6⟩
    go_wp2_with fail
    rw [HC.out]
    refine (count_any c _ (by unfold maxLen; omega)).mono ?_
    rw [Q3.out]
    rintro e w7 ⟨rfl, hb7⟩
    go_wp2_with fail
    refine (count_any a _ ma).mono ?_
    rintro e w8 ⟨rfl, hb8⟩
    go_wp2_with fail
    refine (count_any b _ mb).mono ?_
    rintro e w9 ⟨rfl, hb9⟩
    go_wp2_with fail
    refine (fixed_any _).mono ?_
    rintro e w10 ⟨rfl, hb10⟩
    go_wp2
    go_ret
    exact ⟨rfl, bt (bt (bt (bt (bt (bt (bt (bt (bt hb1 hb2) hb3) hb4) hb5) hb6) hb7) hb8) hb9) hb10⟩

end Go.Proofs.Ytadhgngeonkfcaa.Ch
