/-
  Walks of stage 6's reference: known, inside, comment, other, told.
  Walks of stage 6's reference: comment, other, told.
  Walks of stage 6's reference: alone, note.
  Walks of stage 6's reference: note.
  Walks of stage 6's reference: tag.
  What begins at a place, as the reference asks.
-/
import Derived.Test.YtdplbcchkjpcdaaGreatDoorCk11
import Derived.Test.YtdplbcchkjpcdaaGreatDoorCk01
import Derived.Test.YtdplbcchkjpcdaaGreatDoorCk10
namespace Go.Proofs.YtdplbcchkjpcdaaGreatDoor.To
set_option maxRecDepth 100000
set_option linter.unusedSimpArgs false
set_option linter.unusedVariables false
open Go.RowKit Ba Fm Fo Tm
open Rm (dec)
open Ro (below_new At acells len_acells Sh Ra range2)
open Re (Tab)
set_option maxHeartbeats 1000000 in
theorem refKnown_any (A : Option Addr) (c N : Nat) (l : List At) (n : ByteArray) (w : World) (hr : Ra w N A l) (hl : l.length ≤ 1000000000) (b : Bool) (hb : Tm.known l n = b) :
    Calls Tryz.prog 78 #[.slice A l.length c, .string n] w fun e w' => e = .returned (.bool b) ∧ w = w' := by
  go_enter Tryz.func78, Tryz.ntmps78
  go_wp2
  go_loop [5] (fun i => ∃ k : Nat, i = .int .i64 k ∧ k ≤ l.length ∧ Tm.known (l.drop k) n = b) (fun i => l.length - (intOf i).toNat)
  case atStart => exact ⟨0, rfl, Nat.zero_le _, by rw [List.drop_zero]; exact hb⟩
  case round =>
    clear hb
    obtain ⟨k, rfl, hks, hn⟩ := hrel
    by_cases hp : k < l.length
    · obtain ⟨bl, off, x, rfl, hbN, hd, hc, _⟩ := hr.at_ k hp
      obtain ⟨c0, c1⟩ := range2 hc
      rw [hd] at hn
      have heq := eq_of_toList (a := x.name) (b := n)
      have hklt : decide ((k : Int) < l.length) = true := decide_eq_true (by omega)
      by_cases he : x.name = n
      · rw [decide_eq_true he] at heq
        have hn : b = true := by rw [← hn]; unfold Tm.known; simp [he]
        have HN := Lib.hid hn; have HE := Lib.hid he; clear hn he hd hr hc
        go_wp2
        go_ret
        exact ⟨ret_bool HN.out.symm, rfl⟩
      · rw [decide_eq_false he] at heq
        have hn : Tm.known (l.drop (k + 1)) n = b := by rw [← hn]; unfold Tm.known; simp [he]
        have HN := Lib.hid hn; have HE := Lib.hid he; clear hn he hd hr hc
        go_wp2
        go_round
        case rel => exact ⟨k + 1, by go_num, by omega, HN.out⟩
        case measure => simp [intOf]; omega
    · have hklt : decide ((k : Int) < l.length) = false := decide_eq_false (by omega)
      rw [List.drop_eq_nil_of_le (by omega)] at hn
      have hn : b = false := hn.symm
      have HN := Lib.hid hn; clear hn
      go_wp2
      go_ret
      exact ⟨ret_bool HN.out.symm, rfl⟩

/-- What an end tag of a name is, by the reference. -/
theorem isEnd_at (s n : ByteArray) (k : Nat) (h : k + 2 + n.size < s.size) (hnl : lowL (L n) = L n) :
    isEnd (L n) ((L s).drop k) = (pre [60, 47] ((L s).drop k) && (decide (lowL (L (s.extract (k + 2) (k + 2 + n.size))) = L n) && en s[k + 2 + n.size])) := by
  unfold isEnd
  rw [Bool.and_assoc, List.drop_drop, List.drop_drop, L_extract, show k + 2 + n.size - (k + 2) = n.size from by omega, size_L, hnl]
  rw [show k + (2 + n.size) = k + 2 + n.size from by omega, drop_cons s _ h]
  rfl
theorem isEnd_past (s n : ByteArray) (k : Nat) (h : ¬ k + 2 + n.size < s.size) : isEnd (L n) ((L s).drop k) = false := by
  unfold isEnd
  rw [List.drop_drop, List.drop_drop, size_L, drop_nil s (k + (2 + n.size)) (by omega)]
  simp [by1]

set_option maxRecDepth 100000 in
set_option maxHeartbeats 4000000 in
theorem inside_any (s n : ByteArray) (i : Nat) (w : World) (hs : s.size ≤ 140737488351232) (hi : i ≤ s.size) (hn : n.size ≤ 140737488351232) (hnl : lowL (L n) = L n) :
    Calls Tryz.prog 71 #[.string s, .int .i64 i, .string n] w fun e w' => ∃ m : Nat, e = .returned (.int .i64 m) ∧ m ≤ s.size ∧ i ≤ m ∧ s.extract i m = B (lead (isEnd (L n)) ((L s).drop i)) ∧ (L s).drop m = trail (isEnd (L n)) ((L s).drop i) ∧ Below w.heap.size w w' := by
  have hs' : s.size ≤ 140737488355328 := by omega
  go_enter Tryz.func71, Tryz.ntmps71
  go_wp2
  go_loopw [7] (fun i' wr => ∃ k : Nat, i' = .int .i64 k ∧ Far (isEnd (L n)) s i k ∧ Below w.heap.size w wr) (fun i' _ => s.size - (intOf i').toNat)
  case atStart => exact ⟨i, rfl, .start hi, Below.refl _ _⟩
  case round =>
    obtain ⟨k, rfl, hf, hbw⟩ := hrel
    have hk := hf.2.1
    have hik := hf.1
    by_cases hp : k < s.size
    · have hlt : decide ((k : Int) < s.size) = true := decide_eq_true (by omega)
      by_cases he : k + 2 + n.size < s.size
      · have hee : decide ((k : Int) + 2 + (n.size : Int) < s.size) = true := decide_eq_true (by omega)
        have hend := isEnd_at s n k he hnl
        have i1 : (0 : Int) ≤ (k : Int) + 2 := by omega
        have i2 : (k : Int) + 2 ≤ (k : Int) + 2 + (n.size : Int) := by omega
        have i3 : (k : Int) + 2 + (n.size : Int) ≤ (s.size : Int) := by omega
        obtain ⟨q1, hq1⟩ : ∃ q, pre [60, 47] ((L s).drop k) = q := ⟨_, rfl⟩
        have hsz : (s.extract (k + 2) (k + 2 + n.size)).size ≤ 140737488355328 := Nat.le_trans (size_extract _ _ _) hs'
        obtain ⟨q2, hq2⟩ : ∃ q, decide (lowL (L (s.extract (k + 2) (k + 2 + n.size))) = L n) = q := ⟨_, rfl⟩
        obtain ⟨q3, hq3⟩ : ∃ q, en s[k + 2 + n.size] = q := ⟨_, rfl⟩
        rw [hq1, hq2, hq3] at hend
        have heq : ((B (lowL (L (s.extract (k + 2) (k + 2 + n.size))))).toList == n.toList) = q2 := by
          rw [eq_of_toList, ← hq2]
          refine decide_eq_decide.2 ⟨fun e => ?_, fun e => ?_⟩
          · have := congrArg L e
            rwa [L_B] at this
          · rw [e, B_L]
        have H1 := Lib.hid hq1; have H3 := Lib.hid hq3; clear hq1 hq2 hq3
        cases q1 with
        | false =>
          have hfn := hf.next hp hend
          have HF := Lib.hid hfn; have HB := Lib.hid hbw; clear hfn hf hbw hend
          go_wp2_with (first | (go_at_call 36; refine (refAt1 s _ k _ [60, 47] false hs' (by omega) (by decide) (by decide) rfl H1.out).mono ?_; rintro e w' ⟨rfl, rfl⟩) | (go_at_call 75; refine (Fo.refLower_any _ _ hsz).mono ?_; rintro e w4 ⟨rfl, hb4⟩) | (go_at_call 74; refine (stops_any _ _).mono ?_; rw [H3.out]; rintro e w' ⟨rfl, rfl⟩))
          go_roundw
          case rel => exact ⟨k + 1, by go_num, HF.out, HB.out⟩
          case measure => simp [intOf]; omega
        | true =>
          cases q2 with
          | false =>
            have hfn := hf.next hp hend
            have HF := Lib.hid hfn; have HB := Lib.hid hbw; clear hfn hf hbw hend
            go_wp2_with (first | (go_at_call 36; refine (refAt1 s _ k _ [60, 47] true hs' (by omega) (by decide) (by decide) rfl H1.out).mono ?_; rintro e w' ⟨rfl, rfl⟩) | (go_at_call 75; refine (Fo.refLower_any _ _ hsz).mono ?_; rintro e w4 ⟨rfl, hb4⟩) | (go_at_call 74; refine (stops_any _ _).mono ?_; rw [H3.out]; rintro e w' ⟨rfl, rfl⟩))
            go_roundw
            case rel => exact ⟨k + 1, by go_num, HF.out, bt HB.out hb4⟩
            case measure => simp [intOf]; omega
          | true =>
            cases q3 with
            | false =>
              have hfn := hf.next hp hend
              have HF := Lib.hid hfn; have HB := Lib.hid hbw; clear hfn hf hbw hend
              go_wp2_with (first | (go_at_call 36; refine (refAt1 s _ k _ [60, 47] true hs' (by omega) (by decide) (by decide) rfl H1.out).mono ?_; rintro e w' ⟨rfl, rfl⟩) | (go_at_call 75; refine (Fo.refLower_any _ _ hsz).mono ?_; rintro e w4 ⟨rfl, hb4⟩) | (go_at_call 74; refine (stops_any _ _).mono ?_; rw [H3.out]; rintro e w' ⟨rfl, rfl⟩))
              go_roundw
              case rel => exact ⟨k + 1, by go_num, HF.out, bt HB.out hb4⟩
              case measure => simp [intOf]; omega
            | true =>
              have hd := hf.done (.inl hend)
              have HD := Lib.hid hd; have HB := Lib.hid hbw; clear hf hd hbw hend
              go_wp2_with (first | (go_at_call 36; refine (refAt1 s _ k _ [60, 47] true hs' (by omega) (by decide) (by decide) rfl H1.out).mono ?_; rintro e w' ⟨rfl, rfl⟩) | (go_at_call 75; refine (Fo.refLower_any _ _ hsz).mono ?_; rintro e w4 ⟨rfl, hb4⟩) | (go_at_call 74; refine (stops_any _ _).mono ?_; rw [H3.out]; rintro e w' ⟨rfl, rfl⟩))
              go_ret
              exact ⟨k, rfl, hk, hik, HD.out.1, HD.out.2, bt HB.out hb4⟩
      · have hee : decide ((k : Int) + 2 + (n.size : Int) < s.size) = false := decide_eq_false (by omega)
        have hfn := hf.next hp (isEnd_past s n k he)
        have HF := Lib.hid hfn; have HB := Lib.hid hbw; clear hfn hf hbw
        go_wp2
        go_roundw
        case rel => exact ⟨k + 1, by go_num, HF.out, HB.out⟩
        case measure => simp [intOf]; omega
    · have hlt : decide ((k : Int) < s.size) = false := decide_eq_false (by omega)
      have hd := hf.done (.inr hp)
      obtain rfl : k = s.size := by omega
      have HD := Lib.hid hd; have HB := Lib.hid hbw; clear hf hd hbw
      go_wp2
      go_ret
      exact ⟨s.size, rfl, Nat.le_refl _, hik, HD.out.1, HD.out.2, HB.out⟩

end Go.Proofs.YtdplbcchkjpcdaaGreatDoor.To

namespace Go.Proofs.YtdplbcchkjpcdaaGreatDoor.Rm
set_option maxRecDepth 100000
open Ba
theorem enc_ne (n : Nat) : enc n ≠ [] := by
  unfold enc
  repeat' split
  all_goals simp
theorem code_ne (n : Int) : code n ≠ [] := by
  unfold code
  split
  · simp
  · split
    · simp
    · exact enc_ne _
theorem meant_ne {s t : List UInt8} (h : meant s = some t) : t ≠ [] := by
  unfold meant at h
  split at h
  · split at h
    · obtain ⟨h1, n, rfl⟩ := numL_some h
      exact code_ne n
    · obtain ⟨h1, n, rfl⟩ := numL_some h
      exact code_ne n
  · obtain ⟨n, h1, rfl⟩ := look_some h
    exact code_ne _
theorem fst_ne {l : List UInt8} (h : l ≠ []) : (fst l).1 ≠ [] := by
  cases l with
  | nil => exact absurd rfl h
  | cons c r =>
    rw [fst_cons]
    split
    · cases hr : refAt r with
      | none => simp
      | some p =>
        obtain ⟨t, k⟩ := p
        unfold refAt at hr
        cases hc : cutAt r with
        | none => rw [hc] at hr; cases hr
        | some b =>
          rw [hc] at hr
          simp only at hr
          cases hm : meant b with
          | none => rw [hm] at hr; cases hr
          | some x =>
            rw [hm] at hr
            simp only [Option.map_some, Option.some.injEq, Prod.mk.injEq] at hr
            obtain ⟨rfl, rfl⟩ := hr
            exact meant_ne hm
    · simp
theorem dec_ne {l : List UInt8} (h : l ≠ []) : dec l ≠ [] := by
  rw [dec_step h]
  intro e
  exact fst_ne h (List.append_eq_nil_iff.1 e).1
end Go.Proofs.YtdplbcchkjpcdaaGreatDoor.Rm

namespace Go.Proofs.YtdplbcchkjpcdaaGreatDoor.To
set_option maxRecDepth 100000
set_option linter.unusedSimpArgs false
set_option linter.unusedVariables false
open Go.RowKit Ba Fm Fo Tm
open Rm (dec dec_ne)
open Ro (below_new At acells len_acells Sh Ra range2)
open Re (Tab)
/-- A search, place by place. -/
theorem far_of {p : List UInt8 → Bool} {s : ByteArray} {k m : Nat} (hkm : k ≤ m) (hm : m ≤ s.size) (h : ∀ j, k ≤ j → j < m → p ((L s).drop j) = false) : Far p s k m := by
  induction m with
  | zero =>
    obtain rfl : k = 0 := by omega
    exact .start hm
  | succ m ih =>
    by_cases e : k = m + 1
    · rw [e]; exact .start hm
    · exact (ih (by omega) (by omega) (fun j h1 h2 => h j h1 (by omega))).next (by omega) (h m (by omega) (by omega))
theorem other_any (s : ByteArray) (i : Nat) (w : World) (hs : s.size ≤ 140737488351232) (hi : i ≤ s.size) :
    Calls Tryz.prog 80 #[.string s, .int .i64 i] w fun e w' => ∃ n : Nat, e = .returned (.tuple #[.string (B (closed ((L s).drop i)).1), .int .i64 n]) ∧ n ≤ s.size ∧ i ≤ n ∧ (i < s.size → i < n) ∧ (L s).drop n = (closed ((L s).drop i)).2 ∧ w = w' := by
  have hs' : s.size ≤ 140737488355328 := by omega
  go_enter Tryz.func80, Tryz.ntmps80
  go_wp2_with fail
  refine (find_any s _ i w hs' hi (by decide) (by decide)).mono ?_
  rintro e w' ⟨q, rfl, hf, hstop, -, rfl⟩
  have hpe : pre (L ⟨#[62]⟩) = by1 gt := funext fun l => pre_one 62 l
  rw [hpe] at hf hstop
  obtain ⟨hq1, hq2⟩ := hf.done hstop
  have hqle := hf.2.1
  have hiq := hf.1
  have i0 : (0 : Int) ≤ (i : Int) := by omega
  have i1 : (i : Int) ≤ (q : Int) := by omega
  have i2 : (q : Int) ≤ (s.size : Int) := by omega
  obtain ⟨j, hj1, hj2, hj3, hmin⟩ := Sm.min_any s.size (q + 1) ((q : Int) + 1) (by omega) w
  have HQ1 := Lib.hid hq1; have HQ2 := Lib.hid hq2; have HJ := Lib.hid hj3; clear hf hstop hq1 hq2 hpe hj3
  go_wp2
  go_ret2
  refine ⟨j, ?_, hj1, ?_, ?_, ?_, rfl⟩
  · rw [HQ1.out]; rfl
  · have := HJ.out; omega
  · intro h; have := HJ.out; omega
  · show _ = (trail (by1 gt) _).drop 1
    rw [← HQ2.out, List.drop_drop]
    have := HJ.out
    by_cases h : q + 1 ≤ s.size
    · rw [show j = q + 1 from by omega]
    · rw [drop_nil s j (by omega), drop_nil s (q + 1) (by omega)]

set_option maxHeartbeats 2000000 in
theorem refComment_any (s : ByteArray) (i : Nat) (w : World) (hs : s.size ≤ 140737488351232) (hi : i ≤ s.size) :
    Calls Tryz.prog 79 #[.string s, .int .i64 i] w fun e w' => ∃ n : Nat, e = .returned (.tuple #[.string (B (comm ((L s).drop i)).1), .int .i64 n]) ∧ n ≤ s.size ∧ i ≤ n ∧ (L s).drop n = (comm ((L s).drop i)).2 ∧ w = w' := by
  have hs' : s.size ≤ 140737488355328 := by omega
  cases h1 : pre [62] ((L s).drop i) with
  | true =>
    have hc := comm_gt h1
    have hl := pre_len h1
    rw [List.length_drop, size_L] at hl
    have H1 := Lib.hid h1; have HC := Lib.hid hc; have HL := Lib.hid hl; clear h1 hc hl
    go_enter Tryz.func79, Tryz.ntmps79
    go_wp2_with fail
    refine (refAt1 s _ i w [62] true hs' (by omega) (by decide) (by decide) rfl H1.out).mono ?_
    rintro e w' ⟨rfl, rfl⟩
    go_wp2
    go_ret2
    have hl := HL.out
    simp at hl
    refine ⟨i + 1, ?_, by omega, by omega, ?_, rfl⟩
    · rw [HC.out]; rfl
    · rw [HC.out, List.drop_drop]
  | false =>
  cases h2 : pre [45, 62] ((L s).drop i) with
  | true =>
    have hc := comm_dash h1 h2
    have hl := pre_len h2
    rw [List.length_drop, size_L] at hl
    have H1 := Lib.hid h1; have H2 := Lib.hid h2; have HC := Lib.hid hc; have HL := Lib.hid hl; clear h1 h2 hc hl
    go_enter Tryz.func79, Tryz.ntmps79
    go_wp2_with fail
    refine (refAt1 s _ i w [62] false hs' (by omega) (by decide) (by decide) rfl H1.out).mono ?_
    rintro e w' ⟨rfl, rfl⟩
    go_wp2_with fail
    refine (refAt1 s _ i w [45, 62] true hs' (by omega) (by decide) (by decide) rfl H2.out).mono ?_
    rintro e w' ⟨rfl, rfl⟩
    go_wp2
    go_ret2
    have hl := HL.out
    simp at hl
    refine ⟨i + 2, ?_, by omega, by omega, ?_, rfl⟩
    · rw [HC.out]; rfl
    · rw [HC.out, List.drop_drop]
  | false =>
    have hc := comm_on h1 h2
    have H1 := Lib.hid h1; have H2 := Lib.hid h2; have HC := Lib.hid hc; clear h1 h2 hc
    go_enter Tryz.func79, Tryz.ntmps79
    go_wp2_with fail
    refine (refAt1 s _ i w [62] false hs' (by omega) (by decide) (by decide) rfl H1.out).mono ?_
    rintro e w' ⟨rfl, rfl⟩
    go_wp2_with fail
    refine (refAt1 s _ i w [45, 62] false hs' (by omega) (by decide) (by decide) rfl H2.out).mono ?_
    rintro e w' ⟨rfl, rfl⟩
    go_wp2_with fail
    refine (find_any s _ i w hs' hi (by decide) (by decide)).mono ?_
    rintro e w' ⟨a, rfl, hfa, hsa, hna, rfl⟩
    have HNA := Lib.hid hna; have HSA := Lib.hid hsa; clear hna hsa
    go_wp2_with fail
    refine (find_any s _ i w hs' hi (by decide) (by decide)).mono ?_
    rintro e w' ⟨b, rfl, hfb, hsb, hnb, rfl⟩
    have hla : L ⟨#[45, 45, 62]⟩ = [45, 45, 62] := rfl
    have hlb : L ⟨#[45, 45, 33, 62]⟩ = [45, 45, 33, 62] := rfl
    have hsa := HSA.out
    have hna := HNA.out
    rw [hla] at hsa hna
    rw [hlb] at hsb hnb
    have hal := hfa.2.1; have hbl := hfb.2.1; have hia := hfa.1; have hib := hfb.1
    have hfar : Far cend s i (min a b) := far_of (by omega) (by omega) (fun j j1 j2 => by
      unfold cend
      rw [hna j j1 (by omega), hnb j j1 (by omega)]; rfl)
    have i0 : (0 : Int) ≤ (i : Int) := by omega
    have i1 : (i : Int) ≤ (a : Int) := by omega
    have i2 : (a : Int) ≤ (s.size : Int) := by omega
    have i3 : (i : Int) ≤ (b : Int) := by omega
    have i4 : (b : Int) ≤ (s.size : Int) := by omega
    clear HNA HSA hla hlb hfa hfb
    by_cases hab : a ≤ b
    · rw [show min a b = a from by omega] at hfar
      have hd := hfar.done (by
        rcases hsa with h | h
        · left; unfold cend; rw [h]; rfl
        · exact .inr h)
      have habi : decide ((a : Int) ≤ (b : Int)) = true := decide_eq_true (by omega)
      obtain ⟨j, hj1, hj2, hj3, hmin⟩ := Sm.min_any s.size (a + 3) ((a : Int) + 3) (by omega) w
      have HD := Lib.hid hd; have HJ := Lib.hid hj3; have HSA := Lib.hid hsa; clear hd hj3 hsa hsb hna hnb hfar
      go_wp2
      go_ret2
      have hj := HJ.out
      refine ⟨j, ?_, hj1, by omega, ?_, rfl⟩
      · rw [HC.out, HD.out.1]; rfl
      · rw [HC.out]
        show _ = (trail cend _).drop _
        rw [← HD.out.2]
        rcases HSA.out with h | h
        · rw [if_pos h, List.drop_drop]
          have hl := pre_len h
          rw [List.length_drop, size_L] at hl
          simp at hl
          rw [show j = a + 3 from by omega]
        · rw [drop_nil s j (by omega), drop_nil s a h, List.drop_nil]
    · rw [show min a b = b from by omega] at hfar
      have hb : pre [45, 45, 33, 62] ((L s).drop b) = true := hsb.resolve_right (by omega)
      have hd := hfar.done (.inl (by unfold cend; rw [hb, Bool.or_true]))
      have hnb2 := hna b hib (by omega)
      have habi : decide ((a : Int) ≤ (b : Int)) = false := decide_eq_false (by omega)
      have hl := pre_len hb
      rw [List.length_drop, size_L] at hl
      simp at hl
      have HD := Lib.hid hd; have HN := Lib.hid hnb2; clear hd hnb2 hsa hsb hna hnb hfar hb
      go_wp2
      go_ret2
      refine ⟨b + 4, ?_, by omega, by omega, ?_, rfl⟩
      · rw [HC.out, HD.out.1]; rfl
      · rw [HC.out]
        show _ = (trail cend _).drop _
        rw [← HD.out.2, if_neg (by rw [HN.out]; simp), List.drop_drop]

theorem Ot.add {N : Nat} {w w' : World} {v v' : Value} {l : List Tw} {y : Tw} (ho : Ot N w v l) (hy : Fr N w y) (hw : Ow N w' v' (l ++ [y])) (hf : ∀ z, Fr N w z → Fr N w' z) : Ot N w' v' (l ++ [y]) :=
  ⟨hw.1, fun x hx => by
    rcases List.mem_append.1 hx with hx | hx
    · exact hf x (ho.2 x hx)
    · rw [List.mem_singleton.1 hx]; exact hf y hy⟩

theorem g_first {w w1 w2 : World} {row : Option Nat} (h : Below w.heap.size w w1) (hg : w1.grownBy w2 row) (hr : ∀ j, row = some j → j < w.heap.size) : w.grownBy w2 row :=
  ⟨hg.os.trans h.os, hg.tape.trans h.tape, hg.output.trans h.output, Nat.le_trans h.size hg.size, fun i hi hne => (hg.block i (Nat.lt_of_lt_of_le hi h.size) hne).trans (h.block i hi)⟩

set_option maxRecDepth 100000 in
set_option maxHeartbeats 2000000 in
theorem told_any (N : Nat) (v : Value) (l : List Tw) (u : ByteArray) (w : World) (ho : Ot N w v l) (hN : N ≤ w.heap.size) (hu : u.size ≤ 140737488351232) (hl : l.length ≤ 4000000000) :
    Calls Tryz.prog 38 #[v, .string u] w fun e w' => ∃ v' l', e = .returned v' ∧ Ot N w' v' l' ∧ tks l' = tks l ++ txt (dec (L u)) ∧ l'.length ≤ l.length + 1 ∧ w.heap.size ≤ w'.heap.size ∧ w.grownBy w' v.ownBlock ∧ ∀ w0, Below N w0 w → Below N w0 w' := by
  by_cases hp : 0 < u.size
  · have hne := L_ne hp
    have he : u.toList.isEmpty = false := by rw [toList_L]; simpa using hne
    have hd : dec (L u) ≠ [] := dec_ne hne
    have HO := Lib.hid ho; have HD := Lib.hid hd; clear ho hne hd
    go_enter Tryz.func38, Tryz.ntmps38
    go_wp2_with fail
    refine (Re.refDecode_any u w hu).mono ?_
    rintro e w1 ⟨rfl, hb1⟩
    obtain ⟨d, hd⟩ : ∃ d, B (dec (L u)) = d := ⟨_, rfl⟩
    rw [hd]
    have ho1 := HO.out.below hb1
    have hfr : Fr N w1 ⟨⟨0, ⟨#[]⟩, d, [], false⟩, none, 0⟩ := fr_none N w1 _ rfl
    have hZ : N ≤ w1.heap.size := Nat.le_trans hN hb1.size
    have HO1 := Lib.hid ho1; have HF := Lib.hid hfr; have HDD := Lib.hid hd; have HB1 := Lib.hid hb1; clear ho1 hfr hd hb1
    go_wp2_with (at_builtin; refine app_tok2 w1 rfl (.tmp 7) (.tmp 11) rfl N v l ⟨⟨0, ⟨#[]⟩, d, [], false⟩, none, 0⟩ rfl HO1.out.ow HF.out.att HF.out.ap w1.heap.size rfl rfl hl hZ ?_; intro v4 w4 how hk hf hg; obtain ⟨A4, cc4, rfl⟩ := form1 how; have HK := Lib.hid hk; have HFF := Lib.hid hf; have HG := Lib.hid hg; have HOW := Lib.hid how; clear hk hf hg how)
    go_ret
    refine ⟨_, _, rfl, Ot.add HO1.out HF.out HOW.out HFF.out, ?_, by simp, Nat.le_trans HB1.out.size HG.out.size, g_first HB1.out HG.out (fun j hj => (World.ownsRow.lt HO.out.1 j hj).2), fun w0 h0 => HK.out w0 (h0.trans (HB1.out.mono hN))⟩
    rw [tks_append]
    unfold txt
    rw [if_neg HD.out, ← HDD.out]
    rfl
  · have hd := isEmpty_L hp
    have he : u.toList.isEmpty = true := by rw [toList_L, hd]; rfl
    have hD : txt (dec (L u)) = [] := by rw [hd]; unfold txt; rw [if_pos Rm.dec_nil]
    have HO := Lib.hid ho; have HD := Lib.hid hD; clear ho hd hD
    go_enter Tryz.func38, Tryz.ntmps38
    go_wp2
    go_ret
    exact ⟨_, l, rfl, HO.out, by rw [HD.out, List.append_nil], by omega, Nat.le_refl _, World.grownBy.refl _ _, fun _ h => h⟩

end Go.Proofs.YtdplbcchkjpcdaaGreatDoor.To

namespace Go.Proofs.YtdplbcchkjpcdaaGreatDoor.To
set_option maxRecDepth 100000
set_option linter.unusedSimpArgs false
set_option linter.unusedVariables false
open Go.RowKit Ba Fm Fo Tm Nm Na
open Rm (dec dec_ne)
open Ro (below_new At acells len_acells Sh Ra range2)
open Re (Tab)
theorem ext_len {s : ByteArray} {i m : Nat} {x : List UInt8} (hi : i ≤ m) (hm : m ≤ s.size) (h : s.extract i m = B x) : x.length = m - i := by
  have := congrArg ByteArray.size h
  rw [size_B, ← size_L, L_extract, List.length_take, List.length_drop, size_L] at this
  omega
theorem alone_low {nm : ByteArray} (h : rawB (L nm) = true ∨ softB (L nm) = true) : lowL (L nm) = L nm := by
  have hall : ∀ x ∈ rawL ++ softL, lowL (L x) = L x := by decide
  have hm : B (L nm) ∈ rawL ++ softL := by
    rcases h with h | h
    · exact List.mem_append_left _ (isIn_of h)
    · exact List.mem_append_right _ (isIn_of h)
  have := hall _ hm
  rwa [L_B] at this

set_option maxRecDepth 100000 in
set_option maxHeartbeats 4000000 in
theorem alone_none (N : Nat) (v : Value) (s nm : ByteArray) (i : Nat) (w : World) (h1 : isIn nm rawL = false) (h2 : isIn nm softL = false) :
    Calls Tryz.prog 35 #[v, .string s, .int .i64 i, .string nm] w fun e w' => e = .returned (.tuple #[v, .int .i64 i]) ∧ Below w.heap.size w w' := by
  have H1 := Lib.hid h1; have H2 := Lib.hid h2; clear h1 h2
  go_enter Tryz.func35, Tryz.ntmps35
  go_wp2_with fail
  refine (refRaw_any w).mono ?_
  rintro e w1 ⟨v1, rfl, ho1, b1⟩
  go_wp2_with fail
  refine (hasS w1 v1 rawL nm (sv_own ho1) (by decide)).mono ?_
  rw [H1.out]
  rintro e w' ⟨rfl, rfl⟩
  go_wp2_with fail
  refine (refSoft_any w1).mono ?_
  rintro e w2 ⟨v2, rfl, ho2, b2⟩
  go_wp2_with fail
  refine (hasS w2 v2 softL nm (sv_own ho2) (by decide)).mono ?_
  rw [H2.out]
  rintro e w' ⟨rfl, rfl⟩
  have B2 := Lib.hid (bt b1 b2); clear b1 b2 ho1 ho2
  go_wp2
  go_ret2
  exact ⟨rfl, B2.out⟩

theorem keep2 {N : Nat} {w w1 : World} (h : Below w.heap.size w w1) (hN : N ≤ w.heap.size) : N ≤ w1.heap.size ∧ ∀ w0, Below N w0 w → Below N w0 w1 := ⟨Nat.le_trans hN h.size, fun w0 h0 => h0.trans (h.mono hN)⟩

set_option maxRecDepth 100000 in
set_option maxHeartbeats 4000000 in
theorem alone_raw (N : Nat) (v : Value) (l : List Tw) (s nm : ByteArray) (i : Nat) (w : World) (ho : Ot N w v l) (hN : N ≤ w.heap.size) (hs : s.size ≤ 140737488351232) (hi : i ≤ s.size) (hn : nm.size ≤ 140737488351232) (hl : l.length ≤ 4000000000) (h1 : isIn nm rawL = true) (h2 : isIn nm softL = false) :
    Calls Tryz.prog 35 #[v, .string s, .int .i64 i, .string nm] w fun e w' => ∃ v' l' n, e = .returned (.tuple #[v', .int .i64 ((n : Nat) : Int)]) ∧ Ot N w' v' l' ∧ tks l' = tks l ++ txt (lead (isEnd (L nm)) ((L s).drop i)) ∧ n ≤ s.size ∧ i ≤ n ∧ (L s).drop n = trail (isEnd (L nm)) ((L s).drop i) ∧ l'.length ≤ l.length + 1 ∧ w.heap.size ≤ w'.heap.size ∧ ∀ w0, Below N w0 w → Below N w0 w' := by
  have hnl := alone_low (nm := nm) (.inl (by unfold rawB; rw [B_L]; exact h1))
  have H1 := Lib.hid h1; have H2 := Lib.hid h2; have HO := Lib.hid ho; have HNL := Lib.hid hnl; clear h1 h2 ho hnl
  go_enter Tryz.func35, Tryz.ntmps35
  go_wp2_with fail
  refine (refRaw_any w).mono ?_
  rintro e w1 ⟨v1, rfl, ho1, b1⟩
  go_wp2_with fail
  refine (hasS w1 v1 rawL nm (sv_own ho1) (by decide)).mono ?_
  rw [H1.out]
  rintro e w' ⟨rfl, rfl⟩
  go_wp2_with fail
  refine (inside_any s nm i w1 hs hi hn HNL.out).mono ?_
  rintro e w2 ⟨m, rfl, hm, him, hx, hd, b2⟩
  have B2 := bt b1 b2
  have i0 : (0 : Int) ≤ (i : Int) := by omega
  have i1 : (i : Int) ≤ (m : Int) := by omega
  have i2 : (m : Int) ≤ (s.size : Int) := by omega
  have hlen := ext_len him hm hx
  have HX := Lib.hid hx; have HD := Lib.hid hd; have HLEN := Lib.hid hlen; clear hx hd b1 b2 ho1 hlen
  have HB2 := Lib.hid B2; clear B2
  go_wp2_with fail
  refine (refSoft_any w2).mono ?_
  rintro e w3 ⟨v3, rfl, ho3, b3⟩
  go_wp2_with fail
  refine (hasS w3 v3 softL nm (sv_own ho3) (by decide)).mono ?_
  rw [H2.out]
  rintro e w' ⟨rfl, rfl⟩
  have hb3 := bt HB2.out b3
  have hot := HO.out.below hb3
  obtain ⟨hZ, hbel⟩ := keep2 hb3 hN
  have hsz := hb3.size
  have HOT := Lib.hid hot; have HBEL := Lib.hid hbel; clear ho3 b3 hb3 hot hbel HB2
  by_cases hq : i < m
  · have hgt : decide ((m : Int) > (i : Int)) = true := decide_eq_true (by omega)
    have hfr : Fr N w3 ⟨⟨0, ⟨#[]⟩, s.extract i m, [], false⟩, none, 0⟩ := fr_none N w3 _ rfl
    have hne : lead (isEnd (L nm)) ((L s).drop i) ≠ [] := fun e => by
      have := HLEN.out
      rw [e] at this
      simp at this
      omega
    have HF := Lib.hid hfr; have HNE := Lib.hid hne; clear hfr hne
    go_wp2_with (at_builtin; refine app_tok2 w3 rfl (.tmp 40) (.tmp 43) rfl N v l ⟨⟨0, ⟨#[]⟩, s.extract i m, [], false⟩, none, 0⟩ rfl HOT.out.ow HF.out.att HF.out.ap w3.heap.size rfl rfl hl hZ ?_; intro v4 w4 how hk hf hg; obtain ⟨A4, cc4, rfl⟩ := form1 how; have HK := Lib.hid hk; have HFF := Lib.hid hf; have HG := Lib.hid hg; have HOW := Lib.hid how; clear hk hf hg how)
    go_ret2
    refine ⟨_, _, m, rfl, Ot.add HOT.out HF.out HOW.out HFF.out, ?_, hm, him, HD.out, by simp, Nat.le_trans hsz HG.out.size, fun w0 h0 => HK.out w0 (HBEL.out w0 h0)⟩
    rw [tks_append]
    unfold txt
    rw [if_neg HNE.out]
    show _ = _ ++ [(⟨0, B [], B (lead _ _), [], false⟩ : Tk)]
    rw [← HX.out]
    rfl
  · have hgt : decide ((m : Int) > (i : Int)) = false := decide_eq_false (by omega)
    have hne : lead (isEnd (L nm)) ((L s).drop i) = [] := List.eq_nil_of_length_eq_zero (by have := HLEN.out; omega)
    have HNE := Lib.hid hne; clear hne
    go_wp2
    go_ret2
    refine ⟨_, l, m, rfl, HOT.out, ?_, hm, him, HD.out, by omega, hsz, HBEL.out⟩
    rw [HNE.out]
    unfold txt
    rw [if_pos rfl, List.append_nil]

set_option maxRecDepth 100000 in
set_option maxHeartbeats 4000000 in
theorem alone_soft (N : Nat) (v : Value) (l : List Tw) (s nm : ByteArray) (i : Nat) (w : World) (ho : Ot N w v l) (hN : N ≤ w.heap.size) (hs : s.size ≤ 140737488351232) (hi : i ≤ s.size) (hn : nm.size ≤ 140737488351232) (hl : l.length ≤ 4000000000) (h1 : isIn nm rawL = false) (h2 : isIn nm softL = true) :
    Calls Tryz.prog 35 #[v, .string s, .int .i64 i, .string nm] w fun e w' => ∃ v' l' n, e = .returned (.tuple #[v', .int .i64 ((n : Nat) : Int)]) ∧ Ot N w' v' l' ∧ tks l' = tks l ++ txt (dec (lead (isEnd (L nm)) ((L s).drop i))) ∧ n ≤ s.size ∧ i ≤ n ∧ (L s).drop n = trail (isEnd (L nm)) ((L s).drop i) ∧ l'.length ≤ l.length + 1 ∧ w.heap.size ≤ w'.heap.size ∧ ∀ w0, Below N w0 w → Below N w0 w' := by
  have hnl := alone_low (nm := nm) (.inr (by unfold softB; rw [B_L]; exact h2))
  have H1 := Lib.hid h1; have H2 := Lib.hid h2; have HO := Lib.hid ho; have HNL := Lib.hid hnl; clear h1 h2 ho hnl
  go_enter Tryz.func35, Tryz.ntmps35
  go_wp2_with fail
  refine (refRaw_any w).mono ?_
  rintro e w1 ⟨v1, rfl, ho1, b1⟩
  go_wp2_with fail
  refine (hasS w1 v1 rawL nm (sv_own ho1) (by decide)).mono ?_
  rw [H1.out]
  rintro e w' ⟨rfl, rfl⟩
  go_wp2_with fail
  refine (refSoft_any w1).mono ?_
  rintro e w12 ⟨v2, rfl, ho2, b12⟩
  go_wp2_with fail
  refine (hasS w12 v2 softL nm (sv_own ho2) (by decide)).mono ?_
  rw [H2.out]
  rintro e w' ⟨rfl, rfl⟩
  go_wp2_with fail
  refine (inside_any s nm i w12 hs hi hn HNL.out).mono ?_
  rintro e w2 ⟨m, rfl, hm, him, hx, hd, b2⟩
  have B2 := bt (bt b1 b12) b2
  have i0 : (0 : Int) ≤ (i : Int) := by omega
  have i1 : (i : Int) ≤ (m : Int) := by omega
  have i2 : (m : Int) ≤ (s.size : Int) := by omega
  have hlen := ext_len him hm hx
  have HX := Lib.hid hx; have HD := Lib.hid hd; have HLEN := Lib.hid hlen; clear hx hd b1 b2 ho1 hlen ho2 b12
  have HB2 := Lib.hid B2; clear B2
  go_wp2_with fail
  refine (refSoft_any w2).mono ?_
  rintro e w3 ⟨v3, rfl, ho3, b3⟩
  go_wp2_with fail
  refine (hasS w3 v3 softL nm (sv_own ho3) (by decide)).mono ?_
  rw [H2.out]
  rintro e w' ⟨rfl, rfl⟩
  go_wp2_with fail
  refine (Re.refDecode_any (s.extract i m) w3 (Nat.le_trans (size_extract _ _ _) hs)).mono ?_
  rintro e w4 ⟨rfl, b4⟩
  rw [HX.out, L_B]
  obtain ⟨dd, hdd⟩ : ∃ d, B (dec (lead (isEnd (L nm)) ((L s).drop i))) = d := ⟨_, rfl⟩
  rw [hdd]
  have hb3 := bt (bt HB2.out b3) b4
  have hot := HO.out.below hb3
  obtain ⟨hZ, hbel⟩ := keep2 hb3 hN
  have hsz := hb3.size
  have HOT := Lib.hid hot; have HBEL := Lib.hid hbel; have HDD := Lib.hid hdd; clear ho3 b3 hb3 hot hbel HB2 b4 hdd
  by_cases hq : i < m
  · have hgt : decide ((m : Int) > (i : Int)) = true := decide_eq_true (by omega)
    have hfr : Fr N w4 ⟨⟨0, ⟨#[]⟩, dd, [], false⟩, none, 0⟩ := fr_none N w4 _ rfl
    have hne : dec (lead (isEnd (L nm)) ((L s).drop i)) ≠ [] := dec_ne fun e => by
      have := HLEN.out
      rw [e] at this
      simp at this
      omega
    have HF := Lib.hid hfr; have HNE := Lib.hid hne; clear hfr hne
    go_wp2_with (at_builtin; refine app_tok2 w4 rfl (.tmp 40) (.tmp 43) rfl N v l ⟨⟨0, ⟨#[]⟩, dd, [], false⟩, none, 0⟩ rfl HOT.out.ow HF.out.att HF.out.ap w4.heap.size rfl rfl hl hZ ?_; intro v4 w5 how hk hf hg; obtain ⟨A4, cc4, rfl⟩ := form1 how; have HK := Lib.hid hk; have HFF := Lib.hid hf; have HG := Lib.hid hg; have HOW := Lib.hid how; clear hk hf hg how)
    go_ret2
    refine ⟨_, _, m, rfl, Ot.add HOT.out HF.out HOW.out HFF.out, ?_, hm, him, HD.out, by simp, Nat.le_trans hsz HG.out.size, fun w0 h0 => HK.out w0 (HBEL.out w0 h0)⟩
    rw [tks_append]
    unfold txt
    rw [if_neg HNE.out, ← HDD.out]
    rfl
  · have hgt : decide ((m : Int) > (i : Int)) = false := decide_eq_false (by omega)
    have hne : lead (isEnd (L nm)) ((L s).drop i) = [] := List.eq_nil_of_length_eq_zero (by have := HLEN.out; omega)
    have HNE := Lib.hid hne; clear hne
    go_wp2
    go_ret2
    refine ⟨_, l, m, rfl, HOT.out, ?_, hm, him, HD.out, by omega, hsz, HBEL.out⟩
    rw [HNE.out]
    unfold txt
    rw [if_pos Rm.dec_nil, List.append_nil]

theorem raw_soft (nm : ByteArray) (h : isIn nm rawL = true) : isIn nm softL = false := by
  have hall : ∀ x ∈ rawL, isIn x softL = false := by decide
  exact hall _ (isIn_of h)

theorem alone_any (N : Nat) (v : Value) (l : List Tw) (s nm : ByteArray) (i : Nat) (w : World) (ho : Ot N w v l) (hN : N ≤ w.heap.size) (hs : s.size ≤ 140737488351232) (hi : i ≤ s.size) (hn : nm.size ≤ 140737488351232) (hl : l.length ≤ 4000000000) :
    Calls Tryz.prog 35 #[v, .string s, .int .i64 i, .string nm] w fun e w' => ∃ v' l' n, e = .returned (.tuple #[v', .int .i64 ((n : Nat) : Int)]) ∧ Ot N w' v' l' ∧ tks l' = tks l ++ (cont (L nm) ((L s).drop i)).1 ∧ n ≤ s.size ∧ i ≤ n ∧ (L s).drop n = (cont (L nm) ((L s).drop i)).2 ∧ l'.length ≤ l.length + 1 ∧ w.heap.size ≤ w'.heap.size ∧ ∀ w0, Below N w0 w → Below N w0 w' := by
  have er : rawB (L nm) = isIn nm rawL := by unfold rawB; rw [B_L]
  have es : softB (L nm) = isIn nm softL := by unfold softB; rw [B_L]
  cases h1 : isIn nm rawL with
  | true =>
    rw [cont_r (er.trans h1)]
    exact alone_raw N v l s nm i w ho hN hs hi hn hl h1 (raw_soft nm h1)
  | false =>
    cases h2 : isIn nm softL with
    | true =>
      rw [cont_s (er.trans h1) (es.trans h2)]
      exact alone_soft N v l s nm i w ho hN hs hi hn hl h1 h2
    | false =>
      rw [cont_n (by unfold softOr; rw [er, es, h1, h2]; rfl)]
      refine (alone_none N v s nm i w h1 h2).mono ?_
      rintro e w' ⟨rfl, hb⟩
      obtain ⟨hZ, hbel⟩ := keep2 hb hN
      exact ⟨v, l, i, rfl, ho.below hb, by rw [List.append_nil], hi, Nat.le_refl _, rfl, by omega, hb.size, hbel⟩

end Go.Proofs.YtdplbcchkjpcdaaGreatDoor.To

namespace Go.Proofs.YtdplbcchkjpcdaaGreatDoor.To
set_option maxRecDepth 100000
set_option linter.unusedSimpArgs false
set_option linter.unusedVariables false
open Go.RowKit Ba Fm Fo Tm Nm Na
open Rm (dec dec_ne)
open Ro (below_new At acells len_acells Sh Ra range2)
open Re (Tab)
/-- Is this the beginning of a doctype? -/
def doc9 (s : ByteArray) (i : Nat) : Bool := decide (i + 9 ≤ s.size) && (decide (lowL (L (s.extract i (i + 9))) = [60, 33, 100, 111, 99, 116, 121, 112, 101]) && !by1 lr ((L s).drop (i + 9)))

/-- What begins at a place with < and is no tag: its kind, its text, and the rest. -/
def noted (s : ByteArray) (i : Nat) : Option (Int × ByteArray × List UInt8) :=
  if pre [60, 33, 45, 45] ((L s).drop i) = true then some (3, B (comm ((L s).drop (i + 4))).1, (comm ((L s).drop (i + 4))).2)
  else if doc9 s i = true then some (4, B (trimL (closed ((L s).drop (i + 9))).1), (closed ((L s).drop (i + 9))).2)
  else if pre [60, 33] ((L s).drop i) = true ∨ (pre [60, 47] ((L s).drop i) = true ∧ i + 2 < s.size) then some (3, B (closed ((L s).drop (i + 2))).1, (closed ((L s).drop (i + 2))).2)
  else if pre [60, 63] ((L s).drop i) = true then some (3, B (closed ((L s).drop (i + 1))).1, (closed ((L s).drop (i + 1))).2)
  else none

set_option maxRecDepth 100000 in
set_option maxHeartbeats 4000000 in
theorem note_any (s : ByteArray) (i : Nat) (w : World) (hs : s.size ≤ 140737488351232) (hi : i < s.size) :
    Calls Tryz.prog 40 #[.string s, .int .i64 i] w fun e w' => ∃ (k : Int) (d : ByteArray) (n : Nat), e = .returned (.tuple #[.agg #[.int .i64 k, .string ⟨#[]⟩, .string d, .slice none 0 0, .bool false], .int .i64 n]) ∧ Below w.heap.size w w' ∧
      (∀ x, noted s i = some x → x = (k, d, (L s).drop n) ∧ n ≤ s.size ∧ i < n) ∧ (noted s i = none → n = i) := by
  have hs' : s.size ≤ 140737488355328 := by omega
  obtain ⟨Z, hZ⟩ : ∃ n, noted s i = n := ⟨_, rfl⟩
  have hno : noted s i = Z := hZ
  unfold noted at hno
  rw [hZ]
  clear hZ
  go_enter Tryz.func40, Tryz.ntmps40
  go_wp2_with fail
  generalize hW1 : (w.alloc (.cells #[.int .i64 0, .string ⟨#[]⟩, .string ⟨#[]⟩, .slice none 0 0, .bool false] 44)).alloc (.cells #[.int .i64 3, .string ⟨#[]⟩, .string ⟨#[]⟩, .slice none 0 0, .bool false] 44) = W1
  have hx0 : Tb W1 w.heap.size (T0 0 ⟨#[]⟩) := by rw [← hW1]; exact (Tb.new w (T0 0 ⟨#[]⟩)).below (below_new _ _)
  obtain ⟨g1, hg1⟩ : ∃ g, (w.alloc (.cells #[.int .i64 0, .string ⟨#[]⟩, .string ⟨#[]⟩, .slice none 0 0, .bool false] 44)).heap.size = g := ⟨_, rfl⟩
  have hx1 : Tb W1 g1 (T0 3 ⟨#[]⟩) := by rw [← hW1, ← hg1]; exact Tb.new _ (T0 3 ⟨#[]⟩)
  have hbw : Below w.heap.size w W1 := by rw [← hW1]; exact bt (below_new w _) (below_new _ _)
  have hg1' : w.heap.size + 1 = g1 := by rw [← hg1]; simp
  rw [hg1']
  obtain ⟨g0, hg0⟩ : ∃ g, w.heap.size = g := ⟨_, rfl⟩
  have hgl : w.heap.size ≤ g1 := by omega
  have hne' : g0 ≠ g1 := by omega
  rw [hg0] at hx0 ⊢
  have HX0 := Lib.hid hx0; have HX1 := Lib.hid hx1; have HBW := Lib.hid hbw; have HG0 := Lib.hid hg0; have HGL := Lib.hid hgl
  clear hx0 hx1 hbw hg0 hgl hW1 hg1 hg1'
  cases h1 : pre [60, 33, 45, 45] ((L s).drop i) with
  | true =>
    rw [h1, if_pos rfl] at hno
    have hl := pre_len h1
    rw [List.length_drop, size_L] at hl
    have hi4 : i + 4 ≤ s.size := by simp at hl; omega
    have H1 := Lib.hid h1; clear h1 hl
    refine (refAt1 s _ i W1 [60, 33, 45, 45] true hs' (by omega) (by decide) (by decide) rfl H1.out).mono ?_
    rintro e w' ⟨rfl, rfl⟩
    go_wp2_with fail
    refine (refComment_any s (i + 4) W1 hs hi4).mono ?_
    rintro e w' ⟨n, rfl, hn, hin0, hd, rfl⟩
    have hin : i < n := by omega
    obtain ⟨dd, hdd⟩ : ∃ d, B (comm ((L s).drop (i + 4))).1 = d := ⟨_, rfl⟩
    rw [hdd] at hno
    rw [hdd]
    rw [← hd] at hno
    have hx1 := HX1.out.set2 dd
    obtain ⟨y0, y1, y2, y3, y4⟩ := HX1.out.z
    obtain ⟨k0, k1, k2, k3, k4⟩ := (show Tb _ _ (T0 3 dd) from hx1).z
    obtain ⟨r0, r1, r2, r3, r4⟩ := HX0.out.z
    have q0 := HX0.out.f 0; have q1 := HX0.out.f 1; have q2 := HX0.out.f 2; have q3 := HX0.out.f 3; have q4 := HX0.out.f 4; have p2 := HX1.out.f 2
    have HNO := Lib.hid hno; clear hno hx1 hd hdd
    go_wp2
    refine bodyPost_ret (v := .tuple #[.agg #[.int .i64 3, .string ⟨#[]⟩, .string dd, .slice none 0 0, .bool false], .int .i64 (n : Int)]) ?_ rfl ⟨3, dd, n, rfl, ?_, ?_, ?_⟩
    · have hf := Tb.over0 (HX0.out.other hne' (b := g1) (j := 2) (.string dd)) 3 dd
      obtain ⟨z0, z1, z2, z3, z4⟩ := hf.z
      simp [results, Tryz.results40, go_sem, z0, z1, z2, z3, z4]
    · exact below_over (HBW.out.setCell HGL.out _) (Nat.le_of_eq HG0.out) _ _ _ _ _
    · intro x hx
      rw [← HNO.out] at hx
      injection hx with hx
      subst hx
      exact ⟨rfl, hn, hin⟩
    · intro h
      rw [← HNO.out] at h
      cases h
  | false =>
    rw [h1, if_neg (by simp)] at hno
    have H1 := Lib.hid h1; clear h1
    refine (refAt1 s _ i W1 [60, 33, 45, 45] false hs' (by omega) (by decide) (by decide) rfl H1.out).mono ?_
    rintro e w' ⟨rfl, rfl⟩
    go_upto_region 6 with fail
    go_cut [49] from 29 to 49 (fun c wx => c = .bool (doc9 s i) ∧ Below W1.heap.size W1 wx)
    case first =>
      by_cases h9 : i + 9 ≤ s.size
      · have h9b : decide ((i : Int) + 9 ≤ s.size) = true := decide_eq_true (by omega)
        have i0 : (0 : Int) ≤ (i : Int) := by omega
        have i1 : (i : Int) ≤ (i : Int) + 9 := by omega
        have i2 : (i : Int) + 9 ≤ (s.size : Int) := by omega
        obtain ⟨q2, hq2⟩ : ∃ q, decide (lowL (L (s.extract i (i + 9))) = [60, 33, 100, 111, 99, 116, 121, 112, 101]) = q := ⟨_, rfl⟩
        obtain ⟨q3, hq3⟩ : ∃ q, by1 lr ((L s).drop (i + 9)) = q := ⟨_, rfl⟩
        have hdo : doc9 s i = (q2 && !q3) := by unfold doc9; rw [hq2, hq3, decide_eq_true h9, Bool.true_and]
        have heq : ((B (lowL (L (s.extract i (i + 9))))).toList == [60, 33, 100, 111, 99, 116, 121, 112, 101]) = q2 := by
          rw [toList_L, L_B, ← hq2, Bool.eq_iff_iff, beq_iff_eq, decide_eq_true_iff]
        have hsz : (s.extract i (i + 9)).size ≤ 140737488355328 := Nat.le_trans (size_extract _ _ _) hs'
        have HQ3 := Lib.hid hq3; have HDO := Lib.hid hdo; clear hq2 hq3 hdo hno
        cases q2 <;> cases q3
        all_goals
          go_wp2_with fail
          refine (Fo.refLower_any _ _ hsz).mono ?_
          rintro e w4 ⟨rfl, hb4⟩
          go_wp2_with (go_at_call 37; refine (letterAt_any s (i + 9) _ _ hs' HQ3.out).mono ?_; rintro e w' ⟨rfl, rfl⟩)
          go_meet
          exact ⟨by rw [HDO.out]; rfl, hb4⟩
      · have h9b : decide ((i : Int) + 9 ≤ s.size) = false := decide_eq_false (by omega)
        have hdo : doc9 s i = false := by unfold doc9; rw [decide_eq_false h9]; rfl
        have HDO := Lib.hid hdo; clear hdo hno
        go_wp2_with fail
        go_meet
        exact ⟨by rw [HDO.out], Below.refl _ _⟩
    case rest =>
      obtain ⟨rfl, hbx⟩ := hcut
      have hx0' := HX0.out.below hbx; have hx1' := HX1.out.below hbx
      have hbw' := HBW.out.trans (hbx.mono HBW.out.size)
      have HX0 := Lib.hid hx0'; have HX1 := Lib.hid hx1'; have HBW := Lib.hid hbw'; clear hx0' hx1' hbw' hbx
      cases hdoc : doc9 s i with
      | true =>
        rw [hdoc] at hno
        have HDOC := Lib.hid hdoc; clear hdoc
        rw [if_pos rfl] at hno
        have hi9 : i + 9 ≤ s.size := by
          have h9 := HDOC.out
          unfold doc9 at h9
          rw [Bool.and_eq_true] at h9
          exact of_decide_eq_true h9.1
        go_wp2_with fail
        refine (other_any s (i + 9) _ hs hi9).mono ?_
        rintro e w' ⟨n, rfl, hn, hin0, hin1, hd, rfl⟩
        have hin : i < n := by omega
        have hcs : (B (closed ((L s).drop (i + 9))).1).size ≤ 140737488355328 := by
          rw [size_B]
          have := sum_closed ((L s).drop (i + 9))
          rw [List.length_drop, size_L] at this
          omega
        go_wp2_with fail
        refine (Fo.refTrim_any _ _ hcs).mono ?_
        rw [L_B]
        rintro e w' ⟨rfl, rfl⟩
        obtain ⟨dd, hdd⟩ : ∃ d, B (trimL (closed ((L s).drop (i + 9))).1) = d := ⟨_, rfl⟩
        rw [hdd] at hno
        rw [hdd]
        rw [← hd] at hno
        obtain ⟨y0, y1, y2, y3, y4⟩ := HX1.out.z
        obtain ⟨r0, r1, r2, r3, r4⟩ := HX0.out.z
        have q0 := HX0.out.f 0; have q1 := HX0.out.f 1; have q2 := HX0.out.f 2; have q3 := HX0.out.f 3; have q4 := HX0.out.f 4; have p2 := HX1.out.f 2
        have HNO := Lib.hid hno; clear hno hd hdd hcs
        go_wp2
        refine bodyPost_ret (v := .tuple #[.agg #[.int .i64 4, .string ⟨#[]⟩, .string dd, .slice none 0 0, .bool false], .int .i64 (n : Int)]) ?_ rfl ⟨4, dd, n, rfl, ?_, ?_, ?_⟩
        · have hf := Tb.over0 HX0.out 4 dd
          obtain ⟨z0, z1, z2, z3, z4⟩ := hf.z
          simp [results, Tryz.results40, go_sem, z0, z1, z2, z3, z4]
        · exact below_over (HBW.out) (Nat.le_of_eq HG0.out) _ _ _ _ _
        · intro x hx
          rw [← HNO.out] at hx
          injection hx with hx
          subst hx
          exact ⟨rfl, hn, hin⟩
        · intro h
          rw [← HNO.out] at h
          cases h
      | false =>
        rw [hdoc, if_neg (by simp)] at hno
        clear hdoc
        cases h3 : pre [60, 33] ((L s).drop i) with
        | true =>
          rw [if_pos (.inl h3)] at hno
          have hl := pre_len h3
          rw [List.length_drop, size_L] at hl
          have hi2 : i + 2 ≤ s.size := by simp at hl; omega
          have H3 := Lib.hid h3; clear h3 hl
          go_wp2_with fail
          refine (refAt1 s _ i _ [60, 33] true hs' (by omega) (by decide) (by decide) rfl H3.out).mono ?_
          rintro e w' ⟨rfl, rfl⟩
          go_wp2_with fail
          refine (other_any s (i + 2) _ hs (by omega)).mono ?_
          rintro e w' ⟨n, rfl, hn, hin0, hin1, hd, rfl⟩
          have hin : i < n := by omega
          obtain ⟨dd, hdd⟩ : ∃ d, B (closed ((L s).drop (i + 2))).1 = d := ⟨_, rfl⟩
          rw [hdd] at hno
          rw [hdd]
          rw [← hd] at hno
          have hx1 := HX1.out.set2 dd
          obtain ⟨y0, y1, y2, y3, y4⟩ := HX1.out.z
          obtain ⟨r0, r1, r2, r3, r4⟩ := HX0.out.z
          have q0 := HX0.out.f 0; have q1 := HX0.out.f 1; have q2 := HX0.out.f 2; have q3 := HX0.out.f 3; have q4 := HX0.out.f 4; have p2 := HX1.out.f 2
          obtain ⟨k0, k1, k2, k3, k4⟩ := (show Tb _ _ (T0 3 dd) from hx1).z
          have HNO := Lib.hid hno; clear hno hx1 hd hdd
          go_wp2
          refine bodyPost_ret (v := .tuple #[.agg #[.int .i64 3, .string ⟨#[]⟩, .string dd, .slice none 0 0, .bool false], .int .i64 (n : Int)]) ?_ rfl ⟨3, dd, n, rfl, ?_, ?_, ?_⟩
          · have hf := Tb.over0 (HX0.out.other hne' (b := g1) (j := 2) (.string dd)) 3 dd
            obtain ⟨z0, z1, z2, z3, z4⟩ := hf.z
            simp [results, Tryz.results40, go_sem, z0, z1, z2, z3, z4]
          · exact below_over (HBW.out.setCell HGL.out _) (Nat.le_of_eq HG0.out) _ _ _ _ _
          · intro x hx
            rw [← HNO.out] at hx
            injection hx with hx
            subst hx
            exact ⟨rfl, hn, hin⟩
          · intro h
            rw [← HNO.out] at h
            cases h
        | false =>
          have H3 := Lib.hid h3
          cases h4 : pre [60, 47] ((L s).drop i) with
          | true =>
            have H4 := Lib.hid h4
            by_cases h5 : i + 2 < s.size
            · have h5b : decide ((i : Int) + 2 < s.size) = true := decide_eq_true (by omega)
              rw [if_pos (.inr ⟨h4, h5⟩)] at hno
              clear h3 h4
              go_wp2_with fail
              refine (refAt1 s _ i _ [60, 33] false hs' (by omega) (by decide) (by decide) rfl H3.out).mono ?_
              rintro e w' ⟨rfl, rfl⟩
              go_wp2_with fail
              refine (refAt1 s _ i _ [60, 47] true hs' (by omega) (by decide) (by decide) rfl H4.out).mono ?_
              rintro e w' ⟨rfl, rfl⟩
              go_wp2_with fail
              refine (other_any s (i + 2) _ hs (by omega)).mono ?_
              rintro e w' ⟨n, rfl, hn, hin0, hin1, hd, rfl⟩
              have hin : i < n := by omega
              obtain ⟨dd, hdd⟩ : ∃ d, B (closed ((L s).drop (i + 2))).1 = d := ⟨_, rfl⟩
              rw [hdd] at hno
              rw [hdd]
              rw [← hd] at hno
              have hx1 := HX1.out.set2 dd
              obtain ⟨y0, y1, y2, y3, y4⟩ := HX1.out.z
              obtain ⟨r0, r1, r2, r3, r4⟩ := HX0.out.z
              have q0 := HX0.out.f 0; have q1 := HX0.out.f 1; have q2 := HX0.out.f 2; have q3 := HX0.out.f 3; have q4 := HX0.out.f 4; have p2 := HX1.out.f 2
              obtain ⟨k0, k1, k2, k3, k4⟩ := (show Tb _ _ (T0 3 dd) from hx1).z
              have HNO := Lib.hid hno; clear hno hx1 hd hdd
              go_wp2
              refine bodyPost_ret (v := .tuple #[.agg #[.int .i64 3, .string ⟨#[]⟩, .string dd, .slice none 0 0, .bool false], .int .i64 (n : Int)]) ?_ rfl ⟨3, dd, n, rfl, ?_, ?_, ?_⟩
              · have hf := Tb.over0 (HX0.out.other hne' (b := g1) (j := 2) (.string dd)) 3 dd
                obtain ⟨z0, z1, z2, z3, z4⟩ := hf.z
                simp [results, Tryz.results40, go_sem, z0, z1, z2, z3, z4]
              · exact below_over (HBW.out.setCell HGL.out _) (Nat.le_of_eq HG0.out) _ _ _ _ _
              · intro x hx
                rw [← HNO.out] at hx
                injection hx with hx
                subst hx
                exact ⟨rfl, hn, hin⟩
              · intro h
                rw [← HNO.out] at h
                cases h
            · have h5b : decide ((i : Int) + 2 < s.size) = false := decide_eq_false (by omega)
              rw [if_neg (by rw [h3]; rintro (h | h); cases h; exact h5 h.2)] at hno
              clear h3 h4
              go_wp2_with fail
              refine (refAt1 s _ i _ [60, 33] false hs' (by omega) (by decide) (by decide) rfl H3.out).mono ?_
              rintro e w' ⟨rfl, rfl⟩
              go_wp2_with fail
              refine (refAt1 s _ i _ [60, 47] true hs' (by omega) (by decide) (by decide) rfl H4.out).mono ?_
              rintro e w' ⟨rfl, rfl⟩
              cases h6 : pre [60, 63] ((L s).drop i) with
              | true =>
                rw [h6, if_pos rfl] at hno
                have hl := pre_len h6
                rw [List.length_drop, size_L] at hl
                have hi2 : i + 1 < s.size := by simp at hl; omega
                have H6 := Lib.hid h6; clear h6 hl
                go_wp2_with fail
                refine (refAt1 s _ i _ [60, 63] true hs' (by omega) (by decide) (by decide) rfl H6.out).mono ?_
                rintro e w' ⟨rfl, rfl⟩
                go_wp2_with fail
                refine (other_any s (i + 1) _ hs (by omega)).mono ?_
                rintro e w' ⟨n, rfl, hn, hin0, hin1, hd, rfl⟩
                have hin : i < n := by omega
                obtain ⟨dd, hdd⟩ : ∃ d, B (closed ((L s).drop (i + 1))).1 = d := ⟨_, rfl⟩
                rw [hdd] at hno
                rw [hdd]
                rw [← hd] at hno
                have hx1 := HX1.out.set2 dd
                obtain ⟨y0, y1, y2, y3, y4⟩ := HX1.out.z
                obtain ⟨r0, r1, r2, r3, r4⟩ := HX0.out.z
                have q0 := HX0.out.f 0; have q1 := HX0.out.f 1; have q2 := HX0.out.f 2; have q3 := HX0.out.f 3; have q4 := HX0.out.f 4; have p2 := HX1.out.f 2
                obtain ⟨k0, k1, k2, k3, k4⟩ := (show Tb _ _ (T0 3 dd) from hx1).z
                have HNO := Lib.hid hno; clear hno hx1 hd hdd
                go_wp2
                refine bodyPost_ret (v := .tuple #[.agg #[.int .i64 3, .string ⟨#[]⟩, .string dd, .slice none 0 0, .bool false], .int .i64 (n : Int)]) ?_ rfl ⟨3, dd, n, rfl, ?_, ?_, ?_⟩
                · have hf := Tb.over0 (HX0.out.other hne' (b := g1) (j := 2) (.string dd)) 3 dd
                  obtain ⟨z0, z1, z2, z3, z4⟩ := hf.z
                  simp [results, Tryz.results40, go_sem, z0, z1, z2, z3, z4]
                · exact below_over (HBW.out.setCell HGL.out _) (Nat.le_of_eq HG0.out) _ _ _ _ _
                · intro x hx
                  rw [← HNO.out] at hx
                  injection hx with hx
                  subst hx
                  exact ⟨rfl, hn, hin⟩
                · intro h
                  rw [← HNO.out] at h
                  cases h
              | false =>
                rw [h6, if_neg (by simp)] at hno
                have H6 := Lib.hid h6; clear h6
                go_wp2_with fail
                refine (refAt1 s _ i _ [60, 63] false hs' (by omega) (by decide) (by decide) rfl H6.out).mono ?_
                rintro e w' ⟨rfl, rfl⟩
                obtain ⟨y0, y1, y2, y3, y4⟩ := HX1.out.z
                obtain ⟨r0, r1, r2, r3, r4⟩ := HX0.out.z
                have q0 := HX0.out.f 0; have q1 := HX0.out.f 1; have q2 := HX0.out.f 2; have q3 := HX0.out.f 3; have q4 := HX0.out.f 4; have p2 := HX1.out.f 2
                have HNO := Lib.hid hno; clear hno
                go_wp2
                refine bodyPost_ret (v := .tuple #[.agg #[.int .i64 3, .string ⟨#[]⟩, .string ⟨#[]⟩, .slice none 0 0, .bool false], .int .i64 (i : Int)]) ?_ rfl ⟨3, ⟨#[]⟩, i, rfl, ?_, ?_, ?_⟩
                · have hf := Tb.over0 HX0.out 3 ⟨#[]⟩
                  obtain ⟨z0, z1, z2, z3, z4⟩ := hf.z
                  simp [results, Tryz.results40, go_sem, z0, z1, z2, z3, z4]
                · exact below_over (HBW.out) (Nat.le_of_eq HG0.out) _ _ _ _ _
                · intro x hx
                  rw [← HNO.out] at hx
                  cases hx
                · intro h
                  rfl
          | false =>
            have H4 := Lib.hid h4
            rw [if_neg (by rw [h3, h4]; simp)] at hno
            clear h3 h4
            go_wp2_with fail
            refine (refAt1 s _ i _ [60, 33] false hs' (by omega) (by decide) (by decide) rfl H3.out).mono ?_
            rintro e w' ⟨rfl, rfl⟩
            go_wp2_with fail
            refine (refAt1 s _ i _ [60, 47] false hs' (by omega) (by decide) (by decide) rfl H4.out).mono ?_
            rintro e w' ⟨rfl, rfl⟩
            cases h6 : pre [60, 63] ((L s).drop i) with
            | true =>
              rw [h6, if_pos rfl] at hno
              have hl := pre_len h6
              rw [List.length_drop, size_L] at hl
              have hi2 : i + 1 < s.size := by simp at hl; omega
              have H6 := Lib.hid h6; clear h6 hl
              go_wp2_with fail
              refine (refAt1 s _ i _ [60, 63] true hs' (by omega) (by decide) (by decide) rfl H6.out).mono ?_
              rintro e w' ⟨rfl, rfl⟩
              go_wp2_with fail
              refine (other_any s (i + 1) _ hs (by omega)).mono ?_
              rintro e w' ⟨n, rfl, hn, hin0, hin1, hd, rfl⟩
              have hin : i < n := by omega
              obtain ⟨dd, hdd⟩ : ∃ d, B (closed ((L s).drop (i + 1))).1 = d := ⟨_, rfl⟩
              rw [hdd] at hno
              rw [hdd]
              rw [← hd] at hno
              have hx1 := HX1.out.set2 dd
              obtain ⟨y0, y1, y2, y3, y4⟩ := HX1.out.z
              obtain ⟨r0, r1, r2, r3, r4⟩ := HX0.out.z
              have q0 := HX0.out.f 0; have q1 := HX0.out.f 1; have q2 := HX0.out.f 2; have q3 := HX0.out.f 3; have q4 := HX0.out.f 4; have p2 := HX1.out.f 2
              obtain ⟨k0, k1, k2, k3, k4⟩ := (show Tb _ _ (T0 3 dd) from hx1).z
              have HNO := Lib.hid hno; clear hno hx1 hd hdd
              go_wp2
              refine bodyPost_ret (v := .tuple #[.agg #[.int .i64 3, .string ⟨#[]⟩, .string dd, .slice none 0 0, .bool false], .int .i64 (n : Int)]) ?_ rfl ⟨3, dd, n, rfl, ?_, ?_, ?_⟩
              · have hf := Tb.over0 (HX0.out.other hne' (b := g1) (j := 2) (.string dd)) 3 dd
                obtain ⟨z0, z1, z2, z3, z4⟩ := hf.z
                simp [results, Tryz.results40, go_sem, z0, z1, z2, z3, z4]
              · exact below_over (HBW.out.setCell HGL.out _) (Nat.le_of_eq HG0.out) _ _ _ _ _
              · intro x hx
                rw [← HNO.out] at hx
                injection hx with hx
                subst hx
                exact ⟨rfl, hn, hin⟩
              · intro h
                rw [← HNO.out] at h
                cases h
            | false =>
              rw [h6, if_neg (by simp)] at hno
              have H6 := Lib.hid h6; clear h6
              go_wp2_with fail
              refine (refAt1 s _ i _ [60, 63] false hs' (by omega) (by decide) (by decide) rfl H6.out).mono ?_
              rintro e w' ⟨rfl, rfl⟩
              obtain ⟨y0, y1, y2, y3, y4⟩ := HX1.out.z
              obtain ⟨r0, r1, r2, r3, r4⟩ := HX0.out.z
              have q0 := HX0.out.f 0; have q1 := HX0.out.f 1; have q2 := HX0.out.f 2; have q3 := HX0.out.f 3; have q4 := HX0.out.f 4; have p2 := HX1.out.f 2
              have HNO := Lib.hid hno; clear hno
              go_wp2
              refine bodyPost_ret (v := .tuple #[.agg #[.int .i64 3, .string ⟨#[]⟩, .string ⟨#[]⟩, .slice none 0 0, .bool false], .int .i64 (i : Int)]) ?_ rfl ⟨3, ⟨#[]⟩, i, rfl, ?_, ?_, ?_⟩
              · have hf := Tb.over0 HX0.out 3 ⟨#[]⟩
                obtain ⟨z0, z1, z2, z3, z4⟩ := hf.z
                simp [results, Tryz.results40, go_sem, z0, z1, z2, z3, z4]
              · exact below_over (HBW.out) (Nat.le_of_eq HG0.out) _ _ _ _ _
              · intro x hx
                rw [← HNO.out] at hx
                cases hx
              · intro h
                rfl

end Go.Proofs.YtdplbcchkjpcdaaGreatDoor.To

namespace Go.Proofs.YtdplbcchkjpcdaaGreatDoor.To
set_option maxRecDepth 100000
set_option linter.unusedSimpArgs false
set_option linter.unusedVariables false
open Go.RowKit Ba Fm Fo Tm Nm Na
open Rm (dec dec_ne)
open Ro (below_new At acells len_acells Sh Ra range2)
open Re (Tab)
/-- Is a slash directly ahead of a place, behind another one? -/
def sfAt (s : ByteArray) (m k : Nat) : Bool := decide (m < k) && by1 (is 47) ((L s).drop (k - 1))
theorem sfAt_self (s : ByteArray) (m : Nat) : sfAt s m m = false := by unfold sfAt; simp
theorem sfAt_next (s : ByteArray) (m k : Nat) (hmk : m ≤ k) (hk : k < s.size) : sfAt s m (k + 1) = (s[k] == 47) := by
  unfold sfAt
  rw [decide_eq_true (by omega), Bool.true_and, Nat.add_sub_cancel, drop_cons s k hk]
  rfl

/-- What the loop over a tag's attributes has come to, by the reference. -/
structure Tl (w wr : World) (g0 g1 : Nat) (s nm : ByteArray) (m0 m : Nat) (A : Option Addr) (c : Nat) (l : List At) : Prop where
  m_le : m ≤ s.size
  m0_le : m0 ≤ m
  b0 : Tb wr g0 (T0 0 ⟨#[]⟩)
  b1 : Tb wr g1 ⟨⟨0, nm, ⟨#[]⟩, l, false⟩, A, c⟩
  own : Aw w.heap.size wr (.slice A l.length c) l
  bel : Below w.heap.size w wr
  eq : attrs false [] ((L s).drop m0) = attrs false l ((L s).drop m)
  few : l.length ≤ m
theorem Tl.below {w wr w' : World} {g0 g1 m0 m c : Nat} {s nm : ByteArray} {A : Option Addr} {l : List At} (h : Tl w wr g0 g1 s nm m0 m A c l) (hb : Below wr.heap.size wr w') : Tl w w' g0 g1 s nm m0 m A c l :=
  ⟨h.m_le, h.m0_le, h.b0.below hb, h.b1.below hb, h.own.below hb, h.bel.trans (hb.mono h.bel.size), h.eq, h.few⟩
set_option maxRecDepth 100000 in
set_option maxHeartbeats 8000000 in
theorem refTag_any (s : ByteArray) (i : Nat) (w : World) (hs : s.size ≤ 1000000) (hi : i ≤ s.size) :
    Calls Tryz.prog 39 #[.string s, .int .i64 i] w fun e w' => ∃ (x : Tw) (n : Nat), e = .returned (.tuple #[tokV x, .int .i64 n]) ∧ Below w.heap.size w w' ∧
      ((n ≤ s.size ∧ i < n ∧ Fr w.heap.size w' x ∧ ∃ l sf, attrs false [] (from_ en ((L s).drop i)) = some (l, sf, (L s).drop n) ∧ x.tk = ⟨0, B (lowL (upTo en ((L s).drop i))), ⟨#[]⟩, l, sf⟩) ∨
       (n = s.size + 1 ∧ attrs false [] (from_ en ((L s).drop i)) = none)) := by
  have hs' : s.size ≤ 140737488355328 := by omega
  have hs2 : s.size ≤ 140737488351232 := by omega
  go_enter Tryz.func39, Tryz.ntmps39
  go_upto_block 0 with fail
  generalize hW1 : w.alloc (.cells #[.int .i64 0, .string ⟨#[]⟩, .string ⟨#[]⟩, .slice none 0 0, .bool false] 44) = W1
  have hx0 : Tb W1 w.heap.size (T0 0 ⟨#[]⟩) := by rw [← hW1]; exact Tb.new w (T0 0 ⟨#[]⟩)
  have hbw : Below w.heap.size w W1 := by rw [← hW1]; exact below_new w _
  have HX0 := Lib.hid hx0; have HBW := Lib.hid hbw; clear hx0 hbw hW1
  go_cut [6] from 12 to 24 (fun k wx => ∃ m : Nat, k = .int .i64 m ∧ m ≤ s.size ∧ i ≤ m ∧ (L s).drop m = from_ en ((L s).drop i) ∧ s.extract i m = B (upTo en ((L s).drop i)) ∧ wx = W1)
  case first =>
    go_wp2_with fail
    go_loop [6] (fun k => ∃ m : Nat, k = .int .i64 m ∧ Far (by1 en) s i m) (fun k => s.size - (intOf k).toNat)
    case atStart => exact ⟨i, rfl, .start hi⟩
    case round =>
      obtain ⟨m, rfl, hf⟩ := hrel
      have hm := hf.2.1
      have him := hf.1
      by_cases hp : m < s.size
      · have hlt : decide ((m : Int) < s.size) = true := decide_eq_true (by omega)
        cases hen : en s[m] with
        | true =>
          have hd := hf.done (.inl (by1_at _ s m hp true hen))
          have HD := Lib.hid hd; have HE := Lib.hid hen; clear hf hd hen
          go_wp2_with (go_at_call 74; refine (stops_any s[m] _).mono ?_; rw [HE.out]; rintro e w' ⟨rfl, rfl⟩)
          go_meet
          exact ⟨m, rfl, hm, him, HD.out.2, HD.out.1, rfl⟩
        | false =>
          have hn := hf.next hp (by1_at _ s m hp false hen)
          have HN := Lib.hid hn; have HE := Lib.hid hen; clear hf hn hen
          go_wp2_with (go_at_call 74; refine (stops_any s[m] _).mono ?_; rw [HE.out]; rintro e w' ⟨rfl, rfl⟩)
          go_round
          case rel => exact ⟨m + 1, by go_num, HN.out⟩
          case measure => simp [intOf]; omega
      · have hlt : decide ((m : Int) < s.size) = false := decide_eq_false (by omega)
        have hd := hf.done (.inr hp)
        have HD := Lib.hid hd; clear hf hd
        go_wp2
        go_meet
        exact ⟨m, rfl, hm, him, HD.out.2, HD.out.1, rfl⟩
  case rest =>
    obtain ⟨m0, rfl, hm0, him0, hd0, hx, rfl⟩ := hcut
    have hsx : (s.extract i m0).size ≤ 140737488355328 := Nat.le_trans (size_extract _ _ _) hs'
    have i0 : (0 : Int) ≤ (i : Int) := by omega
    have i1 : (i : Int) ≤ (m0 : Int) := by omega
    have i2 : (m0 : Int) ≤ (s.size : Int) := by omega
    have HD0 := Lib.hid hd0; have HX := Lib.hid hx; clear hd0 hx
    go_wp2_with fail
    refine (Fo.refLower_any _ _ hsx).mono ?_
    rw [HX.out, L_B]
    rintro e w4 ⟨rfl, hb4⟩
    obtain ⟨nm, hnm⟩ : ∃ n, B (lowL (upTo en ((L s).drop i))) = n := ⟨_, rfl⟩
    rw [hnm]
    have hx4 := HX0.out.below hb4
    have hb4' := HBW.out.trans (hb4.mono HBW.out.size)
    have hz4 := hx4.lt
    have hnew : Tb (w4.alloc (.cells #[.int .i64 0, .string nm, .string ⟨#[]⟩, .slice none 0 0, .bool false] 44)) w4.heap.size ⟨⟨0, nm, ⟨#[]⟩, [], false⟩, none, 0⟩ := Tb.new w4 ⟨⟨0, nm, ⟨#[]⟩, [], false⟩, none, 0⟩
    have hx5 : Tb (w4.alloc (.cells #[.int .i64 0, .string nm, .string ⟨#[]⟩, .slice none 0 0, .bool false] 44)) w.heap.size (T0 0 ⟨#[]⟩) := hx4.below (below_new w4 _)
    have hb5 := bt hb4' (below_new w4 (.cells #[.int .i64 0, .string nm, .string ⟨#[]⟩, .slice none 0 0, .bool false] 44))
    have hgl : w.heap.size < w4.heap.size := hz4
    have HNM := Lib.hid hnm; have HN1 := Lib.hid hnew; have HX5 := Lib.hid hx5; have HB5 := Lib.hid hb5
    clear hx4 hb4 hb4' hz4 hnm hnew hx5 hb5 HX HX0 HBW
    go_wp2_with fail
    obtain ⟨g0, hg0⟩ : ∃ g, w.heap.size = g := ⟨_, rfl⟩
    obtain ⟨g1, hg1⟩ : ∃ g, w4.heap.size = g := ⟨_, rfl⟩
    have hst : Tl w (w4.alloc (.cells #[.int .i64 0, .string nm, .string ⟨#[]⟩, .slice none 0 0, .bool false] 44)) g0 g1 s nm m0 m0 none 0 [] :=
      ⟨hm0, Nat.le_refl _, by rw [← hg0]; exact HX5.out, by rw [← hg1]; exact HN1.out, Aw.nil _ _, HB5.out, rfl, Nat.zero_le _⟩
    have hne : g0 ≠ g1 := by omega
    have hgl' : w.heap.size ≤ g1 := by omega
    have HG0 := Lib.hid hg0; have HGL := Lib.hid hgl'
    rw [hg0, hg1]
    rw [hg0, hg1] at hgl
    clear hg0 hg1 hgl' HX5 HN1 HB5
    generalize w4.alloc (.cells #[.int .i64 0, .string nm, .string ⟨#[]⟩, .slice none 0 0, .bool false] 44) = W5 at *
    go_loopw [6] (fun v6 wr => ∃ m l A c, v6 = .int .i64 ((m : Nat) : Int) ∧ Tl w wr g0 g1 s nm m0 m A c l) (fun v6 _ => s.size - (intOf v6).toNat)
    case atStart => exact ⟨m0, [], none, 0, rfl, hst⟩
    case round =>
      clear hst
      obtain ⟨m, l, A, c, rfl, ht⟩ := hrel
      have hm := ht.m_le
      have hm00 := ht.m0_le
      have HT := Lib.hid ht; clear ht
      go_upto_block 4 with fail
      go_cut [6] from 31 to 100 (fun k wx => ∃ m2 : Nat, k = .int .i64 m2 ∧ m ≤ m2 ∧ m2 ≤ s.size ∧ attrs false l ((L s).drop m) = attrs (sfAt s m m2) l ((L s).drop m2) ∧ (m2 < s.size → ∀ h : m2 < s.size, s[m2] ≠ 47 ∧ sp s[m2] = false) ∧ wx = wr)
      case first =>
        go_wp2_with fail
        go_loop [6] (fun k => ∃ m2 : Nat, k = .int .i64 m2 ∧ m ≤ m2 ∧ m2 ≤ s.size ∧ attrs false l ((L s).drop m) = attrs (sfAt s m m2) l ((L s).drop m2)) (fun k => s.size - (intOf k).toNat)
        case atStart => exact ⟨m, rfl, Nat.le_refl _, hm, by rw [sfAt_self]⟩
        case round =>
          obtain ⟨m2, rfl, hmm, hm2, he⟩ := hrel
          by_cases hp : m2 < s.size
          · have hlt : decide ((m2 : Int) < s.size) = true := decide_eq_true (by omega)
            have e47 : ((s[m2].toNat : Int) == 47) = (s[m2] == 47) := u8_eq (b := 47)
            have hsn := sfAt_next s m m2 hmm hp
            cases hsp : sp s[m2] with
            | true =>
              have h62 : s[m2] ≠ 62 := fun e => by rw [e] at hsp; exact absurd hsp (by decide)
              rw [drop_cons s m2 hp, attrs_skip _ _ _ h62 (.inr hsp), ← hsn] at he
              have HE := Lib.hid he; have HS := Lib.hid hsp; clear he hsp hsn h62 e47
              go_wp2_with (go_at_call 76; refine (refSpace_any s[m2] _).mono ?_; rw [HS.out]; rintro e w' ⟨rfl, rfl⟩)
              go_round
              case rel => exact ⟨m2 + 1, by go_num, by omega, by omega, HE.out⟩
              case measure => simp [intOf]; omega
            | false =>
              cases h47 : (s[m2] == 47) with
              | true =>
                rw [h47] at e47
                have e := beq_iff_eq.1 h47
                have h62 : s[m2] ≠ 62 := fun e' => by rw [e] at e'; exact absurd e' (by decide)
                rw [drop_cons s m2 hp, attrs_skip _ _ _ h62 (.inl e), ← hsn] at he
                have HE := Lib.hid he; have HS := Lib.hid hsp; clear he hsp hsn h62 h47 e
                go_wp2_with (go_at_call 76; refine (refSpace_any s[m2] _).mono ?_; rw [HS.out]; rintro e w' ⟨rfl, rfl⟩)
                go_round
                case rel => exact ⟨m2 + 1, by go_num, by omega, by omega, HE.out⟩
                case measure => simp [intOf]; omega
              | false =>
                rw [h47] at e47
                have hno : s[m2] ≠ 47 := by simpa using h47
                have HE := Lib.hid he; have HS := Lib.hid hsp; have HNO := Lib.hid hno; clear he hsp hsn hno h47
                go_wp2_with (go_at_call 76; refine (refSpace_any s[m2] _).mono ?_; rw [HS.out]; rintro e w' ⟨rfl, rfl⟩)
                go_meet
                exact ⟨m2, rfl, hmm, hm2, HE.out, fun _ _ => ⟨HNO.out, HS.out⟩, rfl⟩
          · have hlt : decide ((m2 : Int) < s.size) = false := decide_eq_false (by omega)
            have HE := Lib.hid he; clear he
            go_wp2
            go_meet
            exact ⟨m2, rfl, hmm, hm2, HE.out, fun h => absurd h hp, rfl⟩
      case rest =>
        obtain ⟨m2, rfl, hmm, hm2, he, hstop, rfl⟩ := hcut
        by_cases hp : m2 < s.size
        · have hge : decide ((m2 : Int) ≥ s.size) = false := decide_eq_false (by omega)
          obtain ⟨hn47, hnsp⟩ := hstop hp hp
          have e62 : ((s[m2].toNat : Int) == 62) = (s[m2] == 62) := u8_eq (b := 62)
          by_cases h62 : s[m2] = 62
          · rw [drop_cons s m2 hp, h62, attrs_end] at he
            rw [h62] at e62
            have e62 : ((s[m2].toNat : Int) == 62) = true := by rw [h62]; rfl
            by_cases hgt : m < m2
            · have hgtb : decide ((m2 : Int) > (m : Int)) = true := decide_eq_true (by omega)
              have hi1 : m2 - 1 < s.size := by omega
              have e47 : ((s[m2 - 1].toNat : Int) == 47) = (s[m2 - 1] == 47) := u8_eq (b := 47)
              have hsf : sfAt s m m2 = (s[m2 - 1] == 47) := by unfold sfAt; rw [decide_eq_true hgt, Bool.true_and, drop_cons s (m2 - 1) hi1]; rfl
              rw [hsf] at he
              obtain ⟨sf, hsfe⟩ : ∃ q, (s[m2 - 1] == 47) = q := ⟨_, rfl⟩
              rw [hsfe] at he e47
              have j0 : (0 : Int) ≤ (m2 : Int) - 1 := by omega
              have j1 : (m2 : Int) - 1 < (s.size : Int) := by omega
              have HE := Lib.hid he; clear he hsf hsfe hstop hn47 hnsp h62
              obtain ⟨y0, y1, y2, y3, y4⟩ := HT.out.b1.t
              obtain ⟨r0, r1, r2, r3, r4⟩ := HT.out.b0.z
              have q0 := HT.out.b0.f 0; have q1 := HT.out.b0.f 1; have q2 := HT.out.b0.f 2; have q3 := HT.out.b0.f 3; have q4 := HT.out.b0.f 4; have p4 := HT.out.b1.f 4; have p3 := HT.out.b1.f 3
              have hx1 := HT.out.b1.set4 sf
              obtain ⟨k0, k1, k2, k3, k4⟩ := (show Tb _ _ ⟨⟨0, nm, ⟨#[]⟩, l, sf⟩, A, c⟩ from hx1).t
              clear hx1
              go_wp2
              refine bodyPost_ret (v := .tuple #[tokV ⟨⟨0, nm, ⟨#[]⟩, l, sf⟩, A, c⟩, .int .i64 ((m2 + 1 : Nat) : Int)]) ?_ rfl ⟨⟨⟨0, nm, ⟨#[]⟩, l, sf⟩, A, c⟩, m2 + 1, rfl, ?_, ?_⟩
              · have hf := Tb.overT (HT.out.b0.other hne (b := g1) (j := 4) (.bool sf)) nm l sf A c
                obtain ⟨z0, z1, z2, z3, z4⟩ := hf.t
                simp [results, Tryz.results39, go_sem, z0, z1, z2, z3, z4]
              · exact below_over (HT.out.bel.setCell HGL.out _) (Nat.le_of_eq HG0.out) _ _ _ _ _
              · left
                refine ⟨by omega, by omega, ?_, l, sf, ?_, by rw [HNM.out]⟩
                · exact Aw.fr (Aw.over (HT.out.own.boxes HT.out.b1 (j := 4) (.bool sf)) (HT.out.b0.other hne (b := g1) (j := 4) (.bool sf)) nm l sf A c) _ _ _ _
                · rw [← HD0.out, HT.out.eq, HE.out]
            · have hgtb : decide ((m2 : Int) > (m : Int)) = false := decide_eq_false (by omega)
              have hsf : sfAt s m m2 = false := by rw [show m2 = m from by omega]; exact sfAt_self s m
              rw [hsf] at he
              have HE := Lib.hid he; clear he hsf hstop hn47 hnsp h62
              obtain ⟨y0, y1, y2, y3, y4⟩ := HT.out.b1.t
              obtain ⟨r0, r1, r2, r3, r4⟩ := HT.out.b0.z
              have q0 := HT.out.b0.f 0; have q1 := HT.out.b0.f 1; have q2 := HT.out.b0.f 2; have q3 := HT.out.b0.f 3; have q4 := HT.out.b0.f 4; have p4 := HT.out.b1.f 4; have p3 := HT.out.b1.f 3
              have hx1 := HT.out.b1.set4 false
              obtain ⟨k0, k1, k2, k3, k4⟩ := (show Tb _ _ ⟨⟨0, nm, ⟨#[]⟩, l, false⟩, A, c⟩ from hx1).t
              clear hx1
              go_wp2
              refine bodyPost_ret (v := .tuple #[tokV ⟨⟨0, nm, ⟨#[]⟩, l, false⟩, A, c⟩, .int .i64 ((m2 + 1 : Nat) : Int)]) ?_ rfl ⟨⟨⟨0, nm, ⟨#[]⟩, l, false⟩, A, c⟩, m2 + 1, rfl, ?_, ?_⟩
              · have hf := Tb.overT (HT.out.b0.other hne (b := g1) (j := 4) (.bool false)) nm l false A c
                obtain ⟨z0, z1, z2, z3, z4⟩ := hf.t
                simp [results, Tryz.results39, go_sem, z0, z1, z2, z3, z4]
              · exact below_over (HT.out.bel.setCell HGL.out _) (Nat.le_of_eq HG0.out) _ _ _ _ _
              · left
                refine ⟨by omega, by omega, ?_, l, false, ?_, by rw [HNM.out]⟩
                · exact Aw.fr (Aw.over (HT.out.own.boxes HT.out.b1 (j := 4) (.bool false)) (HT.out.b0.other hne (b := g1) (j := 4) (.bool false)) nm l false A c) _ _ _ _
                · rw [← HD0.out, HT.out.eq, HE.out]
          · have h62b : (s[m2] == 62) = false := by simpa using h62
            rw [h62b] at e62
            clear h62b
            have hcon := drop_cons s m2 hp
            rw [hcon, attrs_attr _ _ _ h62 (by rw [hnsp]; simpa using hn47)] at he
            have hnl := len_name s[m2] ((L s).drop (m2 + 1))
            rw [List.length_drop, size_L] at hnl
            have HE := Lib.hid he; have HC := Lib.hid hcon; have HNL := Lib.hid hnl; clear he hcon hstop hn47 hnsp h62 hnl
            go_wp2_with fail
            refine (refAttr_any s m2 s[m2] ((L s).drop (m2 + 1)) _ hs2 hp HC.out).mono ?_
            rintro e w6 ⟨a, n, rfl, hfound, hb6⟩
            have hT7 := (HT.out.below hb6).below (below_new w6 (.cells #[.string a.name, .string a.value] 66))
            have hbx := Bx.new w6 a.name a.value
            have HT7 := Lib.hid hT7; have HB := Lib.hid hbx; have HT6 := Lib.hid (HT.out.below hb6); clear hT7 hbx hb6 HT
            rcases hfound with ⟨hn, hin, hxa, hdn⟩ | ⟨hn, h0⟩
            · have hgt : decide ((n : Int) > (s.size : Int)) = false := decide_eq_false (by omega)
              have hnm2 : a.name.size ≤ maxLen := by
                rw [hxa]; have := HNL.out; unfold maxLen; omega
              have he := HE.out
              rw [← hxa, ← hdn] at he
              obtain ⟨q, hq⟩ : ∃ q, Tm.known l a.name = q := ⟨_, rfl⟩
              have hra := HT7.out.own.ra
              have hfew := HT7.out.few
              obtain ⟨y0, y1, y2, y3, y4⟩ := HT7.out.b1.t
              have p3 := HT7.out.b1.f 3
              have x0 := HB.out.c0; have x1 := HB.out.c1
              have HE2 := Lib.hid he; have HQ := Lib.hid hq; have HRA := Lib.hid hra; have HNM2 := Lib.hid hnm2; clear he hq hra hxa hdn HE hnm2
              go_wp2_with fail
              obtain ⟨g9, hg9⟩ : ∃ g, w6.heap.size = g := ⟨_, rfl⟩
              rw [hg9] at HB x0 x1 ⊢
              clear hg9 HT6
              generalize w6.alloc (.cells #[.string a.name, .string a.value] 66) = W7 at *
              refine (refKnown_any A c _ l a.name _ HRA.out (by omega) q HQ.out).mono ?_
              rintro e w' ⟨rfl, rfl⟩
              cases q with
              | true =>
                go_wp2
                go_roundw
                case rel =>
                  have hp2 : put l a = l := by unfold put; rw [if_pos HQ.out]
                  have he := HE2.out
                  rw [hp2] at he
                  have h7 := HT7.out
                  exact ⟨n, l, A, c, rfl, hn, by omega, h7.b0, h7.b1, h7.own, h7.bel, by rw [h7.eq, he], by omega⟩
                case measure => simp [intOf]; omega
              | false =>
                have hl4 : l.length ≤ 4000000000 := by omega
                have hT8 := HT7.out
                have hZ : w.heap.size ≤ W7.heap.size := hT8.bel.size
                have HZ := Lib.hid hZ
                clear hT8 hZ
                go_wp2_with (at_builtin; refine app_attr W7 rfl (.tmp 95) (.tmp 97) rfl w.heap.size (.slice A l.length c) l a rfl HT7.out.own HNM2.out W7.heap.size rfl rfl hl4 HZ.out ?_; intro v7 w7 hw7 hg7; obtain ⟨A7, c7, rfl⟩ := hw7.form; have hb17 := HT7.out.b1.off HT7.out.own hg7; have g3 := hb17.f 3; have g33 := hb17.t.2.2.2.1; have HW7 := Lib.hid hw7; have HG7 := Lib.hid hg7; have HB17 := Lib.hid hb17; clear hw7 hg7 hb17 y0 y1 y2 y3 y4 p3 x0 x1)
                go_roundw
                case rel =>
                  have hp2 : put l a = l ++ [a] := by unfold put; rw [if_neg (by rw [HQ.out]; simp)]
                  have he := HE2.out
                  rw [hp2] at he
                  have h7 := HT7.out
                  have hbel := h7.bel.grown HG7.out h7.bel.size (fun k hk => (World.ownsRow.lt h7.own.1 k hk).1)
                  refine ⟨n, l ++ [a], A7, c7, rfl, hn, by omega, ?_, ?_, ?_, hbel.setCell HGL.out _, by rw [h7.eq, he], by rw [List.length_append]; simp; omega⟩
                  · exact (h7.b0.off h7.own HG7.out).other hne _
                  · have h3 := HB17.out.set3 A7 c7 (l ++ [a])
                    rw [List.length_append] at h3
                    exact h3
                  · exact HW7.out.boxes HB17.out _
                case measure => simp [intOf]; omega
            · have hgt : decide ((n : Int) > (s.size : Int)) = true := decide_eq_true (by omega)
              have he := HE.out
              rw [h0, attrs_nil] at he
              have HT := HT7
              have HE := Lib.hid he; clear he h0
              obtain rfl : n = s.size + 1 := hn
              obtain ⟨y0, y1, y2, y3, y4⟩ := HT.out.b1.t
              obtain ⟨r0, r1, r2, r3, r4⟩ := HT.out.b0.z
              have q0 := HT.out.b0.f 0; have q1 := HT.out.b0.f 1; have q2 := HT.out.b0.f 2; have q3 := HT.out.b0.f 3; have q4 := HT.out.b0.f 4; have p4 := HT.out.b1.f 4; have p3 := HT.out.b1.f 3
              go_wp2
              refine bodyPost_ret (v := .tuple #[tokV ⟨⟨0, nm, ⟨#[]⟩, l, false⟩, A, c⟩, .int .i64 ((s.size + 1 : Nat) : Int)]) ?_ rfl ⟨⟨⟨0, nm, ⟨#[]⟩, l, false⟩, A, c⟩, s.size + 1, rfl, ?_, ?_⟩
              · have hf := Tb.overT HT.out.b0 nm l false A c
                obtain ⟨z0, z1, z2, z3, z4⟩ := hf.t
                simp [results, Tryz.results39, go_sem, z0, z1, z2, z3, z4]
              · exact below_over (HT.out.bel) (Nat.le_of_eq HG0.out) _ _ _ _ _
              · right
                refine ⟨rfl, ?_⟩
                rw [← HD0.out, HT.out.eq, HE.out]
        · have hge : decide ((m2 : Int) ≥ s.size) = true := decide_eq_true (by omega)
          rw [drop_nil s m2 hp, attrs_nil] at he
          have HE := Lib.hid he; clear he hstop
          obtain ⟨y0, y1, y2, y3, y4⟩ := HT.out.b1.t
          obtain ⟨r0, r1, r2, r3, r4⟩ := HT.out.b0.z
          have q0 := HT.out.b0.f 0; have q1 := HT.out.b0.f 1; have q2 := HT.out.b0.f 2; have q3 := HT.out.b0.f 3; have q4 := HT.out.b0.f 4; have p4 := HT.out.b1.f 4; have p3 := HT.out.b1.f 3
          go_wp2
          refine bodyPost_ret (v := .tuple #[tokV ⟨⟨0, nm, ⟨#[]⟩, l, false⟩, A, c⟩, .int .i64 ((s.size + 1 : Nat) : Int)]) ?_ rfl ⟨⟨⟨0, nm, ⟨#[]⟩, l, false⟩, A, c⟩, s.size + 1, rfl, ?_, ?_⟩
          · have hf := Tb.overT HT.out.b0 nm l false A c
            obtain ⟨z0, z1, z2, z3, z4⟩ := hf.t
            simp [results, Tryz.results39, go_sem, z0, z1, z2, z3, z4]
          · exact below_over (HT.out.bel) (Nat.le_of_eq HG0.out) _ _ _ _ _
          · right
            refine ⟨rfl, ?_⟩
            rw [← HD0.out, HT.out.eq, HE.out]

end Go.Proofs.YtdplbcchkjpcdaaGreatDoor.To

namespace Go.Proofs.YtdplbcchkjpcdaaGreatDoor.To
set_option linter.unusedSimpArgs false
set_option linter.unusedVariables false
open Go.RowKit Ba Fm Fo Tm Nm Na
open Rm (dec dec_ne)
open Ro (below_new At acells len_acells Sh Ra range2)
open Re (Tab)
theorem marked_one (r : List UInt8) : marked r = 4 ∨ marked r = 5 ∨ marked r = 6 := by
  unfold marked
  split
  · exact .inl rfl
  · split
    · exact .inr (.inl rfl)
    · exact .inr (.inr rfl)
theorem lr_33 : lr 33 = false := by decide
theorem lr_47 : lr 47 = false := by decide
theorem lr_62 : lr 62 = false := by decide
theorem lr_63 : lr 63 = false := by decide

/-- What begins, by the texts that stand there. -/
theorem beg_facts (X : List UInt8) (n : Nat) (h : Tm.begun X = n) :
    n ≤ 6 ∧
    (n = 1 → pre [60] X = true ∧ by1 lr (X.drop 1) = true ∧ pre [60, 47] X = false) ∧
    (n = 2 → pre [60] X = true ∧ by1 lr (X.drop 1) = false ∧ pre [60, 47] X = true ∧ by1 lr (X.drop 2) = true) ∧
    (n = 3 → pre [60] X = true ∧ by1 lr (X.drop 1) = false ∧ pre [60, 47] X = true ∧ by1 lr (X.drop 2) = false ∧ pre [60, 47, 62] X = true) ∧
    (4 ≤ n → pre [60] X = true ∧ by1 lr (X.drop 1) = false ∧ (pre [60, 47] X = true → by1 lr (X.drop 2) = false) ∧ pre [60, 47, 62] X = false) ∧
    (n = 0 → (pre [60] X = true → by1 lr (X.drop 1) = false) ∧ (pre [60, 47] X = true → by1 lr (X.drop 2) = false) ∧ pre [60, 47, 62] X = false) := by
  match X with
  | [] =>
    obtain rfl : n = 0 := h.symm
    simp [pre_none, by1]
  | [a] =>
    obtain rfl : n = 0 := by
      rw [← h]
      show (if a = 60 then 0 else 0) = 0
      split <;> rfl
    simp [pre_cons, pre_none, by1]
  | a :: c :: r =>
    rw [To.begun_two] at h
    by_cases ha : a = 60
    · rw [if_pos ha] at h
      subst ha
      cases hl : lr c with
      | true =>
        rw [hl, if_pos rfl] at h
        subst h
        have h47 : c ≠ 47 := fun e => by rw [e, lr_47] at hl; cases hl
        simp [pre_cons, pre_nil, by1, hl, h47]
      | false =>
        rw [hl, if_neg (by simp)] at h
        by_cases h47 : c = 47
        · subst h47
          rw [if_pos rfl] at h
          cases r with
          | nil =>
            obtain rfl : n = 0 := h.symm
            simp [pre_cons, pre_nil, pre_none, by1, lr_47]
          | cons d q =>
            have h : (if lr d = true then 2 else if d = 62 then 3 else 6) = n := h
            cases hd : lr d with
            | true =>
              rw [hd, if_pos rfl] at h
              subst h
              have h62 : d ≠ 62 := fun e => by rw [e, lr_62] at hd; cases hd
              simp [pre_cons, pre_nil, by1, lr_47, hd]
            | false =>
              rw [hd, if_neg (by simp)] at h
              by_cases h62 : d = 62
              · subst h62
                rw [if_pos rfl] at h
                subst h
                simp [pre_cons, pre_nil, by1, lr_47, lr_62]
              · rw [if_neg h62] at h
                subst h
                simp [pre_cons, pre_nil, by1, lr_47, hd, h62]
        · rw [if_neg h47] at h
          by_cases h33 : c = 33
          · subst h33
            rw [if_pos rfl] at h
            rcases marked_one r with e | e | e <;> rw [e] at h <;> subst h <;> simp [pre_cons, pre_nil, by1, lr_33]
          · rw [if_neg h33] at h
            by_cases h63 : c = 63
            · subst h63
              rw [if_pos rfl] at h
              subst h
              simp [pre_cons, pre_nil, by1, lr_63]
            · rw [if_neg h63] at h
              subst h
              simp [pre_cons, pre_nil, by1, hl, h47]
    · rw [if_neg ha] at h
      subst h
      simp [pre_cons, pre_nil, by1, ha]

theorem low_33 {c : UInt8} (h : low c = 33) : c = 33 := by
  by_cases hu : 65 ≤ c ∧ c ≤ 90
  · have : (low c).toNat = c.toNat + 32 := by
      unfold low
      rw [if_pos hu, UInt8.toNat_add]
      have := UInt8.le_iff_toNat_le.1 hu.2
      have e90 : UInt8.toNat 90 = 90 := rfl
      simp
      omega
    rw [h] at this
    have e33 : UInt8.toNat 33 = 33 := rfl
    have := UInt8.le_iff_toNat_le.1 hu.1
    have e65 : UInt8.toNat 65 = 65 := rfl
    omega
  · unfold low at h
    rwa [if_neg hu] at h
/-- A doctype begins here. -/
theorem doc9_mark (s : ByteArray) (i : Nat) (r : List UInt8) (h : (L s).drop i = 60 :: 33 :: r) : doc9 s i = (decide (lowL (r.take 7) = [100, 111, 99, 116, 121, 112, 101]) && !by1 lr (r.drop 7)) := by
  have hlen := congrArg List.length h
  rw [List.length_drop, size_L] at hlen
  simp only [List.length_cons] at hlen
  unfold doc9
  rw [L_extract, show i + 9 - i = 9 from by omega, h]
  have e1 : lowL ((60 :: 33 :: r).take 9) = 60 :: 33 :: lowL (r.take 7) := rfl
  have e2 : (L s).drop (i + 9) = r.drop 7 := by
    rw [← List.drop_drop, h]; rfl
  rw [e1, e2]
  by_cases hd : lowL (r.take 7) = [100, 111, 99, 116, 121, 112, 101]
  · have hl := congrArg List.length hd
    rw [len_lowL, List.length_take] at hl
    simp only [List.length_cons, List.length_nil] at hl
    rw [hd, decide_eq_true (show i + 9 ≤ s.size by omega)]
    simp
  · rw [decide_eq_false hd, decide_eq_false (show ¬ (60 :: 33 :: lowL (r.take 7) = [60, 33, 100, 111, 99, 116, 121, 112, 101]) from fun e => hd (by injection e with _ e; injection e with _ e))]
    simp
theorem doc9_other (s : ByteArray) (i : Nat) (h : pre [60, 33] ((L s).drop i) = false) : doc9 s i = false := by
  unfold doc9
  by_cases h9 : i + 9 ≤ s.size
  · rw [decide_eq_true h9, Bool.true_and]
    rw [decide_eq_false]
    · rfl
    · intro e
      rw [L_extract, show i + 9 - i = 9 from by omega] at e
      match hx : (L s).drop i with
      | [] => rw [hx] at e; have := congrArg List.length e; rw [len_lowL] at this; simp at this
      | [a] => rw [hx] at e; have := congrArg List.length e; rw [len_lowL] at this; simp at this
      | a :: c :: r =>
        rw [hx] at e h
        have e : low a :: low c :: lowL (r.take 7) = _ := e
        have e1 := (List.cons.inj e).1
        have e2 := (List.cons.inj (List.cons.inj e).2).1
        have hc := low_33 e2
        have ha : a = 60 := by
          by_cases hu : 65 ≤ a ∧ a ≤ 90
          · have : (low a).toNat = a.toNat + 32 := by
              unfold low
              rw [if_pos hu, UInt8.toNat_add]
              have := UInt8.le_iff_toNat_le.1 hu.2
              have e90 : UInt8.toNat 90 = 90 := rfl
              simp
              omega
            rw [e1] at this
            have e60 : UInt8.toNat 60 = 60 := rfl
            have := UInt8.le_iff_toNat_le.1 hu.1
            have e65 : UInt8.toNat 65 = 65 := rfl
            omega
          · unfold low at e1
            rwa [if_neg hu] at e1
        rw [ha, hc] at h
        simp [pre_cons, pre_nil] at h
  · rw [decide_eq_false h9]; rfl

/-- What is noted is what begins. -/
theorem noted_mk (s : ByteArray) (i : Nat) (n : Nat) (h : Tm.begun ((L s).drop i) = n) :
    (4 ≤ n → ∃ k d r, noted s i = some (k, d, r) ∧ mk ((L s).drop i) = ([⟨k, B [], d, [], false⟩], r)) ∧ (n = 0 → pre [60] ((L s).drop i) = true → noted s i = none) := by
  obtain ⟨X, hX⟩ : ∃ X, (L s).drop i = X := ⟨_, rfl⟩
  have hd : ∀ j, (L s).drop (i + j) = X.drop j := fun j => by rw [← List.drop_drop, hX]
  have hlen := congrArg List.length hX
  rw [List.length_drop, size_L] at hlen
  have hdo := doc9_other s i
  have hdm := doc9_mark s i
  unfold noted
  rw [hd 4, hd 9, hd 2, hd 1]
  rw [hX] at h hdo hdm ⊢
  match X with
  | [] =>
    obtain rfl : n = 0 := h.symm
    refine ⟨fun h => absurd h (by omega), fun _ h => ?_⟩
    rw [pre_none] at h; cases h
  | [a] =>
    obtain rfl : n = 0 := by
      rw [← h]
      show (if a = 60 then 0 else 0) = 0
      split <;> rfl
    refine ⟨fun h => absurd h (by omega), fun _ _ => ?_⟩
    have hno : pre [60, 33] [a] = false := by simp [pre_cons, pre_none]
    rw [hdo hno]
    simp [pre_cons, pre_none]
  | a :: c :: r =>
    simp only [List.length_cons] at hlen
    have hb := h
    rw [To.begun_two] at h
    by_cases ha : a = 60
    · rw [if_pos ha] at h
      subst ha
      cases hl : lr c with
      | true =>
        rw [hl, if_pos rfl] at h
        subst h
        exact ⟨fun h => absurd h (by omega), fun h => absurd h (by omega)⟩
      | false =>
        rw [hl, if_neg (by simp)] at h
        by_cases h47 : c = 47
        · subst h47
          rw [if_pos rfl] at h
          have hno : pre [60, 33] (60 :: 47 :: r) = false := by simp [pre_cons]
          rw [hdo hno]
          cases r with
          | nil =>
            obtain rfl : n = 0 := h.symm
            refine ⟨fun h => absurd h (by omega), fun _ _ => ?_⟩
            have : ¬ i + 2 < s.size := by simp at hlen; omega
            simp [pre_cons, pre_nil, pre_none, this]
          | cons d q =>
            have h2 : i + 2 < s.size := by simp only [List.length_cons] at hlen; omega
            refine ⟨fun h4 => ?_, fun h0 => ?_⟩
            · have h6 : n = 6 := by
                have h : (if lr d = true then 2 else if d = 62 then 3 else 6) = n := h
                rw [← h] at h4 ⊢
                split at h4
                · omega
                · split at h4
                  · omega
                  · rename_i g1 g2
                    rw [if_neg g1, if_neg g2]
              refine ⟨3, B (closed (d :: q)).1, (closed (d :: q)).2, ?_, ?_⟩
              · simp [pre_cons, pre_nil, h2]
              · rw [To.mk_6 (by rw [hb, h6])]
                rfl
            · rw [h0] at h
              exfalso
              have h : (if lr d = true then 2 else if d = 62 then 3 else 6) = 0 := h
              split at h
              · cases h
              · split at h <;> cases h
        · rw [if_neg h47] at h
          by_cases h33 : c = 33
          · subst h33
            rw [if_pos rfl] at h
            have hd9 := hdm r rfl
            refine ⟨fun h4 => ?_, fun h0 => ?_⟩
            · cases h45 : pre [45, 45] r with
              | true =>
                have h4' : n = 4 := by rw [← h]; unfold marked; rw [if_pos h45]
                refine ⟨3, B (comm (r.drop 2)).1, (comm (r.drop 2)).2, ?_, ?_⟩
                · have : pre [60, 33, 45, 45] (60 :: 33 :: r) = true := by rw [pre_cons, pre_cons, h45]; rfl
                  rw [if_pos this]; rfl
                · rw [To.mk_4 (by rw [hb, h4'])]; rfl
              | false =>
                have h1 : pre [60, 33, 45, 45] (60 :: 33 :: r) = false := by rw [pre_cons, pre_cons, h45]; rfl
                rw [if_neg (by rw [h1]; simp)]
                by_cases hc : lowL (r.take 7) = [100, 111, 99, 116, 121, 112, 101] ∧ by1 lr (r.drop 7) = false
                · have h5 : n = 5 := by rw [← h]; unfold marked; rw [if_neg (by rw [h45]; simp), if_pos hc]
                  have hdt : doc9 s i = true := by rw [hd9, hc.2, decide_eq_true hc.1]; rfl
                  refine ⟨4, B (trimL (closed (r.drop 7)).1), (closed (r.drop 7)).2, ?_, ?_⟩
                  · rw [if_pos hdt]; rfl
                  · rw [To.mk_5 (by rw [hb, h5])]; rfl
                · have h6 : n = 6 := by rw [← h]; unfold marked; rw [if_neg (by rw [h45]; simp), if_neg hc]
                  have hdt : doc9 s i = false := by
                    rw [hd9]
                    by_cases e1 : lowL (r.take 7) = [100, 111, 99, 116, 121, 112, 101]
                    · have : by1 lr (r.drop 7) = true := by
                        cases hq : by1 lr (r.drop 7) with
                        | true => rfl
                        | false => exact absurd ⟨e1, hq⟩ hc
                      rw [this, Bool.not_true, Bool.and_false]
                    · rw [decide_eq_false e1]; rfl
                  refine ⟨3, B (closed r).1, (closed r).2, ?_, ?_⟩
                  · rw [if_neg (by rw [hdt]; simp), if_pos (.inl (by simp [pre_cons, pre_nil]))]; rfl
                  · rw [To.mk_6 (by rw [hb, h6])]; rfl
            · rw [h0] at h
              rcases marked_one r with e | e | e <;> rw [e] at h <;> cases h
          · rw [if_neg h33] at h
            have hno : pre [60, 33] (60 :: c :: r) = false := by simp [pre_cons, h33]
            have hno4 : pre [60, 33, 45, 45] (60 :: c :: r) = false := by simp [pre_cons, h33]
            have hno47 : pre [60, 47] (60 :: c :: r) = false := by simp [pre_cons, h47]
            rw [hdo hno, hno, hno4, hno47]
            by_cases h63 : c = 63
            · subst h63
              rw [if_pos rfl] at h
              subst h
              refine ⟨fun _ => ⟨3, B (closed (63 :: r)).1, (closed (63 :: r)).2, ?_, ?_⟩, fun h => absurd h (by omega)⟩
              · simp [pre_cons, pre_nil]
              · rw [To.mk_6 hb]; rfl
            · rw [if_neg h63] at h
              subst h
              refine ⟨fun h => absurd h (by omega), fun _ _ => ?_⟩
              simp [pre_cons, h63]
    · rw [if_neg ha] at h
      subst h
      refine ⟨fun h => absurd h (by omega), fun _ h => ?_⟩
      simp [pre_cons, pre_nil, ha] at h

end Go.Proofs.YtdplbcchkjpcdaaGreatDoor.To
