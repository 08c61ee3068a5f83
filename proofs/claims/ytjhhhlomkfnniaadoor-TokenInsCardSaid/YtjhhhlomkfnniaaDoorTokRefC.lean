/-
  Walks of stage 6's reference: known, inside, comment, other, told.
-/
import Derived.Test.YtjhhhlomkfnniaaDoorTokRefB
namespace Go.Proofs.YtjhhhlomkfnniaaDoor.To
set_option linter.unusedSimpArgs false
set_option linter.unusedVariables false
open Go.RowKit Ba Fm Fo Tm
open Rm (dec)
open Ro (below_new At acells len_acells Sh Ra range2)
open Re (Tab)

theorem known_no (n : ByteArray) : Tm.known [] n = false := rfl
theorem known_hit {l : List At} {n : ByteArray} {k : Nat} {x : At} {r : List At} (h : l.drop k = x :: r) (he : x.name = n) : Tm.known l n = true := by
  unfold Tm.known
  rw [List.any_eq_true]
  refine ⟨x, List.mem_of_mem_drop (by rw [h]; exact List.mem_cons_self), decide_eq_true he⟩

set_option maxHeartbeats 1000000 in
theorem refKnown_any (A : Option Addr) (c N : Nat) (l : List At) (n : ByteArray) (w : World) (hr : Ra w N A l) (hl : l.length ≤ 1000000000) (b : Bool) (hb : Tm.known l n = b) :
    Calls Tryd.prog 52 #[.slice A l.length c, .string n] w fun e w' => e = .returned (.bool b) ∧ w = w' := by
  go_enter Tryd.func52, Tryd.ntmps52
  go_wp2
  go_loop [5] (fun i => ∃ k : Nat, i = .int .i64 k ∧ k ≤ l.length ∧ Tm.known (l.drop k) n = b) (fun i => l.length - (intOf i).toNat)
  case atStart => exact ⟨0, rfl, Nat.zero_le _, by rw [List.drop_zero]; exact hb⟩
  case round =>
    clear hb
    obtain ⟨k, rfl, hks, hn⟩ := hrel
    by_cases hp : k < l.length
    · obtain ⟨bl, off, x, rfl, hbN, hd, hc, _⟩ := hr.at_ k hp
      obtain ⟨c0, c1⟩ := range2 hc
      rw [hd] at hn
      have heq := eq_of_toList (a := x.name) (b := n)
      have hklt : decide ((k : Int) < l.length) = true := decide_eq_true (by omega)
      by_cases he : x.name = n
      · rw [decide_eq_true he] at heq
        have hn : b = true := by rw [← hn]; unfold Tm.known; simp [he]
        have HN := Lib.hid hn; have HE := Lib.hid he; clear hn he hd hr hc
        go_wp2
        go_ret
        exact ⟨ret_bool HN.out.symm, rfl⟩
      · rw [decide_eq_false he] at heq
        have hn : Tm.known (l.drop (k + 1)) n = b := by rw [← hn]; unfold Tm.known; simp [he]
        have HN := Lib.hid hn; have HE := Lib.hid he; clear hn he hd hr hc
        go_wp2
        go_round
        case rel => exact ⟨k + 1, by go_num, by omega, HN.out⟩
        case measure => simp [intOf]; omega
    · have hklt : decide ((k : Int) < l.length) = false := decide_eq_false (by omega)
      rw [List.drop_eq_nil_of_le (by omega)] at hn
      have hn : b = false := hn.symm
      have HN := Lib.hid hn; clear hn
      go_wp2
      go_ret
      exact ⟨ret_bool HN.out.symm, rfl⟩

/-- What an end tag of a name is, by the reference. -/
theorem isEnd_at (s n : ByteArray) (k : Nat) (h : k + 2 + n.size < s.size) (hnl : lowL (L n) = L n) :
    isEnd (L n) ((L s).drop k) = (pre [60, 47] ((L s).drop k) && (decide (lowL (L (s.extract (k + 2) (k + 2 + n.size))) = L n) && en s[k + 2 + n.size])) := by
  unfold isEnd
  rw [Bool.and_assoc, List.drop_drop, List.drop_drop, L_extract, show k + 2 + n.size - (k + 2) = n.size from by omega, size_L, hnl]
  rw [show k + (2 + n.size) = k + 2 + n.size from by omega, drop_cons s _ h]
  rfl
theorem isEnd_past (s n : ByteArray) (k : Nat) (h : ¬ k + 2 + n.size < s.size) : isEnd (L n) ((L s).drop k) = false := by
  unfold isEnd
  rw [List.drop_drop, List.drop_drop, size_L, drop_nil s (k + (2 + n.size)) (by omega)]
  simp [by1]

set_option maxRecDepth 100000 in
set_option maxHeartbeats 4000000 in
theorem inside_any (s n : ByteArray) (i : Nat) (w : World) (hs : s.size ≤ 140737488351232) (hi : i ≤ s.size) (hn : n.size ≤ 140737488351232) (hnl : lowL (L n) = L n) :
    Calls Tryd.prog 45 #[.string s, .int .i64 i, .string n] w fun e w' => ∃ m : Nat, e = .returned (.int .i64 m) ∧ m ≤ s.size ∧ i ≤ m ∧ s.extract i m = B (lead (isEnd (L n)) ((L s).drop i)) ∧ (L s).drop m = trail (isEnd (L n)) ((L s).drop i) ∧ Below w.heap.size w w' := by
  have hs' : s.size ≤ 140737488355328 := by omega
  go_enter Tryd.func45, Tryd.ntmps45
  go_wp2
  go_loopw [7] (fun i' wr => ∃ k : Nat, i' = .int .i64 k ∧ Far (isEnd (L n)) s i k ∧ Below w.heap.size w wr) (fun i' _ => s.size - (intOf i').toNat)
  case atStart => exact ⟨i, rfl, .start hi, Below.refl _ _⟩
  case round =>
    obtain ⟨k, rfl, hf, hbw⟩ := hrel
    have hk := hf.2.1
    have hik := hf.1
    by_cases hp : k < s.size
    · have hlt : decide ((k : Int) < s.size) = true := decide_eq_true (by omega)
      by_cases he : k + 2 + n.size < s.size
      · have hee : decide ((k : Int) + 2 + (n.size : Int) < s.size) = true := decide_eq_true (by omega)
        have hend := isEnd_at s n k he hnl
        have i1 : (0 : Int) ≤ (k : Int) + 2 := by omega
        have i2 : (k : Int) + 2 ≤ (k : Int) + 2 + (n.size : Int) := by omega
        have i3 : (k : Int) + 2 + (n.size : Int) ≤ (s.size : Int) := by omega
        obtain ⟨q1, hq1⟩ : ∃ q, pre [60, 47] ((L s).drop k) = q := ⟨_, rfl⟩
        have hsz : (s.extract (k + 2) (k + 2 + n.size)).size ≤ 140737488355328 := Nat.le_trans (size_extract _ _ _) hs'
        obtain ⟨q2, hq2⟩ : ∃ q, decide (lowL (L (s.extract (k + 2) (k + 2 + n.size))) = L n) = q := ⟨_, rfl⟩
        obtain ⟨q3, hq3⟩ : ∃ q, en s[k + 2 + n.size] = q := ⟨_, rfl⟩
        rw [hq1, hq2, hq3] at hend
        have heq : ((B (lowL (L (s.extract (k + 2) (k + 2 + n.size))))).toList == n.toList) = q2 := by
          rw [eq_of_toList, ← hq2]
          refine decide_eq_decide.2 ⟨fun e => ?_, fun e => ?_⟩
          · have := congrArg L e
            rwa [L_B] at this
          · rw [e, B_L]
        have H1 := Lib.hid hq1; have H3 := Lib.hid hq3; clear hq1 hq2 hq3
        cases q1 with
        | false =>
          have hfn := hf.next hp hend
          have HF := Lib.hid hfn; have HB := Lib.hid hbw; clear hfn hf hbw hend
          go_wp2_with (first | (go_at_call 25; refine (refAt1 s _ k _ [60, 47] false hs' (by omega) (by decide) (by decide) rfl H1.out).mono ?_; rintro e w' ⟨rfl, rfl⟩) | (go_at_call 49; refine (Fo.refLower_any _ _ hsz).mono ?_; rintro e w4 ⟨rfl, hb4⟩) | (go_at_call 48; refine (stops_any _ _).mono ?_; rw [H3.out]; rintro e w' ⟨rfl, rfl⟩))
          go_roundw
          case rel => exact ⟨k + 1, by go_num, HF.out, HB.out⟩
          case measure => simp [intOf]; omega
        | true =>
          cases q2 with
          | false =>
            have hfn := hf.next hp hend
            have HF := Lib.hid hfn; have HB := Lib.hid hbw; clear hfn hf hbw hend
            go_wp2_with (first | (go_at_call 25; refine (refAt1 s _ k _ [60, 47] true hs' (by omega) (by decide) (by decide) rfl H1.out).mono ?_; rintro e w' ⟨rfl, rfl⟩) | (go_at_call 49; refine (Fo.refLower_any _ _ hsz).mono ?_; rintro e w4 ⟨rfl, hb4⟩) | (go_at_call 48; refine (stops_any _ _).mono ?_; rw [H3.out]; rintro e w' ⟨rfl, rfl⟩))
            go_roundw
            case rel => exact ⟨k + 1, by go_num, HF.out, bt HB.out hb4⟩
            case measure => simp [intOf]; omega
          | true =>
            cases q3 with
            | false =>
              have hfn := hf.next hp hend
              have HF := Lib.hid hfn; have HB := Lib.hid hbw; clear hfn hf hbw hend
              go_wp2_with (first | (go_at_call 25; refine (refAt1 s _ k _ [60, 47] true hs' (by omega) (by decide) (by decide) rfl H1.out).mono ?_; rintro e w' ⟨rfl, rfl⟩) | (go_at_call 49; refine (Fo.refLower_any _ _ hsz).mono ?_; rintro e w4 ⟨rfl, hb4⟩) | (go_at_call 48; refine (stops_any _ _).mono ?_; rw [H3.out]; rintro e w' ⟨rfl, rfl⟩))
              go_roundw
              case rel => exact ⟨k + 1, by go_num, HF.out, bt HB.out hb4⟩
              case measure => simp [intOf]; omega
            | true =>
              have hd := hf.done (.inl hend)
              have HD := Lib.hid hd; have HB := Lib.hid hbw; clear hf hd hbw hend
              go_wp2_with (first | (go_at_call 25; refine (refAt1 s _ k _ [60, 47] true hs' (by omega) (by decide) (by decide) rfl H1.out).mono ?_; rintro e w' ⟨rfl, rfl⟩) | (go_at_call 49; refine (Fo.refLower_any _ _ hsz).mono ?_; rintro e w4 ⟨rfl, hb4⟩) | (go_at_call 48; refine (stops_any _ _).mono ?_; rw [H3.out]; rintro e w' ⟨rfl, rfl⟩))
              go_ret
              exact ⟨k, rfl, hk, hik, HD.out.1, HD.out.2, bt HB.out hb4⟩
      · have hee : decide ((k : Int) + 2 + (n.size : Int) < s.size) = false := decide_eq_false (by omega)
        have hfn := hf.next hp (isEnd_past s n k he)
        have HF := Lib.hid hfn; have HB := Lib.hid hbw; clear hfn hf hbw
        go_wp2
        go_roundw
        case rel => exact ⟨k + 1, by go_num, HF.out, HB.out⟩
        case measure => simp [intOf]; omega
    · have hlt : decide ((k : Int) < s.size) = false := decide_eq_false (by omega)
      have hd := hf.done (.inr hp)
      obtain rfl : k = s.size := by omega
      have HD := Lib.hid hd; have HB := Lib.hid hbw; clear hf hd hbw
      go_wp2
      go_ret
      exact ⟨s.size, rfl, Nat.le_refl _, hik, HD.out.1, HD.out.2, HB.out⟩

end Go.Proofs.YtjhhhlomkfnniaaDoor.To
