/-
  Walks of stage 8: begins, ends, contains, clean and what a legal row is.
  Walks of stage 5: bolting/names.Closes: what an element closes, and what ends the search.
  Walks of stage 5: bolting/names.Walls: what an element closes, and what ends the search.
  Walks of stage 7: the open elements from the end on (a range over a function): among, fromEnd, find.
  Walks of stage 7: closed, leftOpen, Nested, endWalls, passedOver.
  Walks of stage 3: a text written out (boltingref03.Write).
  Walks of stage 8: the reference's tag.
  Walks of stage 8: legalAttrs, legal, legalWithin.
  Stage 7, in plain words: rows whose texts are joined at the end are those whose texts were joined one by one; nothing of the program.
  Stage 7: a builder in memory: its open elements, its rows, each of the call's own.
  Walks of stage 8: Legal.
  Stage 8: the calls whose answers the document fixes.
  Stage 8's law WriteTwo: it returns true.
  Walks of stage 1: chars.Decode, chars.Lines, chars.Ready: each returns the string that the plain function of CharsSpec says, where that string and the argument have at most 2^47 bytes.
  Walks of stage 1: chars.Lines, chars.Ready: each returns the string that the plain function of CharsSpec says, where that string and the argument have at most 2^47 bytes.
-/
import Derived.Test.YteafldginkpgoaaGreatCk02
import Derived.Test.YteafldginkpgoaaGreatCk05
import Derived.Test.YteafldginkpgoaaGreatCk01
import Derived.RangeFuncBox
import Derived.RangeFuncLeaves
import Derived.RangeFuncCalls
import Derived.Shelf.Abstract
import Derived.OwnWalkIn
import Derived.TacticsInMore
import Derived.LoopNIn
import Derived.LoopIn
import Derived.Sort.BigQuietIn
import Derived.Maps.AppendAt
import Derived.Shelf.RegionOpen
import Derived.Deep.RegionHeld3
import Derived.Deep.CutBlock
import Derived.Deep.DeepCutAuto
import Derived.Test.YteafldginkpgoaaGreatCk04
import Derived.Deep.AppendLies
import Derived.Deep.RegionLaw
import Derived.BigRegion
import Derived.StillTailTactics
import Derived.WalkLawsBesides
import Derived.Lib.AppendStr
import Derived.WalkSmall
import Derived.Laws.IdiomStrings
namespace Go.Proofs.YteafldginkpgoaaGreat.Wr
set_option maxRecDepth 100000
set_option linter.unusedSimpArgs false
set_option linter.unusedVariables false
open Go.RowKit Ba Fm Fo Nm Wm
open Ro (At Ro Cw ros rowO rowV below_new range2 range5 cells)
open Tm (pre)
open To (pre_yes pre_short)
open Ch (rL)
set_option maxHeartbeats 1000000 in
theorem begins1 (s t : ByteArray) (w : World) (hs : s.size ≤ 140737488355328) (ht : t.size ≤ 140737488355328) (q : Bool) (hq : pre (L t) (L s) = q) :
    Calls Tryz.prog 72 #[.string s, .string t] w fun e w' => e = .returned (.bool q) ∧ w = w' := by
  by_cases h : t.size ≤ s.size
  · have hp := pre_yes s t
    rw [hq] at hp
    have HP := Lib.hid hq
    clear hq
    go_enter Tryz.func72, Tryz.ntmps72
    go_wp2
    go_ret
    exact ⟨rfl, rfl⟩
  · have hn := pre_short s t h
    rw [hn] at hq
    subst hq
    clear hn
    go_enter Tryz.func72, Tryz.ntmps72
    go_wp2
    go_ret
    exact ⟨rfl, rfl⟩
theorem suf_yes (s t : ByteArray) (h : t.size ≤ s.size) : ((s.extract (s.size - t.size) s.size).toList == t.toList) = suf (L t) (L s) := by
  rw [eq_of_toList]
  unfold suf
  rw [size_L, size_L, decide_eq_true h, Bool.true_and]
  refine decide_eq_decide.2 ?_
  constructor
  · intro e
    have := congrArg L e
    rwa [L_end] at this
  · intro e
    apply L_inj
    rwa [L_end]
theorem suf_short (s t : ByteArray) (h : ¬ t.size ≤ s.size) : suf (L t) (L s) = false := by
  unfold suf
  rw [size_L, size_L, decide_eq_false h, Bool.false_and]
set_option maxHeartbeats 1000000 in
theorem ends1 (s t : ByteArray) (w : World) (hs : s.size ≤ 140737488355328) (ht : t.size ≤ 140737488355328) (q : Bool) (hq : suf (L t) (L s) = q) :
    Calls Tryz.prog 74 #[.string s, .string t] w fun e w' => e = .returned (.bool q) ∧ w = w' := by
  by_cases h : t.size ≤ s.size
  · have hp := suf_yes s t h
    rw [hq] at hp
    have HP := Lib.hid hq
    clear hq
    have h0 : 0 ≤ (s.size : Int) - t.size := by omega
    have hto : ((s.size : Int) - t.size).toNat = s.size - t.size := by omega
    go_enter Tryz.func74, Tryz.ntmps74
    go_wp2
    go_ret
    exact ⟨rfl, rfl⟩
  · have hn := suf_short s t h
    rw [hn] at hq
    subst hq
    clear hn
    go_enter Tryz.func74, Tryz.ntmps74
    go_wp2
    go_ret
    exact ⟨rfl, rfl⟩

theorem sub_step (p : List UInt8) (s : ByteArray) (k : Nat) (h : k < s.size) : sub p ((L s).drop k) = (pre p ((L s).drop k) || sub p ((L s).drop (k + 1))) := by
  rw [drop_cons s k h, sub]
theorem sub_end (p : List UInt8) (s : ByteArray) (k : Nat) (h : ¬ k < s.size) : sub p ((L s).drop k) = false := by
  rw [drop_nil s k h, sub]
set_option maxHeartbeats 1000000 in
theorem contains1 (s t : ByteArray) (w : World) (hs : s.size ≤ 140737488355328) (ht : t.size ≤ 140737488355328) (q : Bool) (hq : sub (L t) (L s) = q) :
    Calls Tryz.prog 71 #[.string s, .string t] w fun e w' => e = .returned (.bool q) ∧ w = w' := by
  have HQ := Lib.hid hq
  clear hq
  go_enter Tryz.func71, Tryz.ntmps71
  go_wp2
  go_loop [8] (fun i => ∃ k : Nat, i = .int .i64 k ∧ k ≤ s.size ∧ sub (L t) ((L s).drop k) = q) (fun i => s.size - (intOf i).toNat)
  case atStart => exact ⟨0, rfl, Nat.zero_le _, by rw [List.drop_zero]; exact HQ.out⟩
  case round =>
    obtain ⟨k, rfl, hk, hn⟩ := hrel
    by_cases hp : k < s.size
    · have hst := sub_step (L t) s k hp
      rw [hn] at hst
      obtain ⟨b, hb⟩ : ∃ b, pre (L t) ((L s).drop k) = b := ⟨_, rfl⟩
      rw [hb] at hst
      have hb' : pre (L t) (L (s.extract k s.size)) = b := by rw [L_end]; exact hb
      have hx : (s.extract k s.size).size ≤ 140737488355328 := Nat.le_trans (size_extract _ _ _) hs
      have HST := Lib.hid hst; have HB := Lib.hid hb'; have HX := Lib.hid hx
      clear hst hb hb' hn hx
      go_wp2_with fail
      refine (begins1 (s.extract k s.size) t w HX.out ht b HB.out).mono ?_
      rintro e w' ⟨rfl, rfl⟩
      cases b with
      | true =>
        go_wp2
        go_ret
        exact ⟨ret_bool (by rw [HST.out]; rfl), rfl⟩
      | false =>
        go_wp2
        go_round
        case rel => exact ⟨k + 1, by go_num, by omega, by rw [HST.out]; rfl⟩
        case measure => simp [intOf]; omega
    · rw [sub_end _ s k hp] at hn
      subst hn
      go_wp2
      go_ret
      exact ⟨rfl, rfl⟩

set_option maxHeartbeats 1000000 in
theorem clean1 (s : ByteArray) (w : World) (hs : s.size ≤ 140737488355328) (q : Bool) (hq : cleanB (L s) = q) :
    Calls Tryz.prog 44 #[.string s] w fun e w' => e = .returned (.bool q) ∧ Below w.heap.size w w' := by
  obtain ⟨a, ha⟩ : ∃ a, rL (L s) = a := ⟨_, rfl⟩
  obtain ⟨b, hb⟩ : ∃ b, sub [0] (L s) = b := ⟨_, rfl⟩
  obtain ⟨c, hc⟩ : ∃ c, sub [13] (L s) = c := ⟨_, rfl⟩
  unfold cleanB at hq
  rw [ha, hb, hc] at hq
  have HA := Lib.hid ha; have HB := Lib.hid hb; have HC := Lib.hid hc; have HQ := Lib.hid hq
  clear ha hb hc hq
  go_enter Tryz.func44, Tryz.ntmps44
  go_wp2_with fail
  refine (Ch.right_any s w (by unfold maxLen; omega)).mono ?_
  rw [HA.out]
  rintro e w1 ⟨rfl, hb1⟩
  have HB1 := Lib.hid hb1
  clear hb1
  cases a with
  | false =>
    go_wp2
    go_ret
    exact ⟨ret_bool (by rw [← HQ.out]; rfl), HB1.out⟩
  | true =>
    go_wp2_with fail
    refine (contains1 s ⟨#[0]⟩ w1 hs (by decide) b HB.out).mono ?_
    rintro e w2 ⟨rfl, rfl⟩
    cases b with
    | true =>
      go_wp2
      go_ret
      exact ⟨ret_bool (by rw [← HQ.out]; rfl), HB1.out⟩
    | false =>
      go_wp2_with fail
      refine (contains1 s ⟨#[13]⟩ w1 hs (by decide) c HC.out).mono ?_
      rintro e w2 ⟨rfl, rfl⟩
      go_wp2
      go_ret
      exact ⟨ret_bool (by rw [← HQ.out]; cases c <;> rfl), HB1.out⟩
set_option maxHeartbeats 1000000 in
theorem legalName1 (s : ByteArray) (w : World) (hs : s.size ≤ 140737488355328) (q : Bool) (hq : nameB s = q) :
    Calls Tryz.prog 41 #[.string s] w fun e w' => e = .returned (.bool q) ∧ Below w.heap.size w w' := by
  obtain ⟨a, ha⟩ : ∃ a, rightB s = a := ⟨_, rfl⟩
  obtain ⟨b, hb⟩ : ∃ b, isIn s goneL = b := ⟨_, rfl⟩
  obtain ⟨c, hc⟩ : ∃ c, cleanB (L s) = c := ⟨_, rfl⟩
  unfold nameB at hq
  rw [ha, hb, hc] at hq
  have HA := Lib.hid ha; have HB := Lib.hid hb; have HC := Lib.hid hc; have HQ := Lib.hid hq
  clear ha hb hc hq
  go_enter Tryz.func41, Tryz.ntmps41
  go_wp2_with fail
  refine (Na.right_any s w hs).mono ?_
  rw [HA.out]
  rintro e w1 ⟨rfl, rfl⟩
  cases a with
  | false =>
    go_wp2
    go_ret
    exact ⟨ret_bool (by rw [← HQ.out]; rfl), Below.refl _ _⟩
  | true =>
    go_wp2_with fail
    refine (Na.gone_any s w).mono ?_
    rw [HB.out]
    rintro e w2 ⟨rfl, hb2⟩
    have HB2 := Lib.hid hb2
    clear hb2
    cases b with
    | true =>
      go_wp2
      go_ret
      exact ⟨ret_bool (by rw [← HQ.out]; rfl), HB2.out⟩
    | false =>
      go_wp2_with fail
      refine (clean1 s w2 hs c HC.out).mono ?_
      rintro e w3 ⟨rfl, hb3⟩
      have HB3 := Lib.hid (bt HB2.out hb3)
      clear hb3
      go_wp2
      go_ret
      exact ⟨ret_bool (by rw [← HQ.out]; cases c <;> rfl), HB3.out⟩
set_option maxHeartbeats 1000000 in
theorem legalRaw1 (s : ByteArray) (w : World) (hs : s.size ≤ 140737488355328) (q : Bool) (hq : plainB (L s) = q) :
    Calls Tryz.prog 46 #[.string s] w fun e w' => e = .returned (.bool q) ∧ w = w' := by
  obtain ⟨a, ha⟩ : ∃ a, sub [60, 47] (L s) = a := ⟨_, rfl⟩
  obtain ⟨b, hb⟩ : ∃ b, suf [60] (L s) = b := ⟨_, rfl⟩
  unfold plainB at hq
  rw [ha, hb] at hq
  have HA := Lib.hid ha; have HB := Lib.hid hb; have HQ := Lib.hid hq
  clear ha hb hq
  go_enter Tryz.func46, Tryz.ntmps46
  go_wp2_with fail
  refine (contains1 s ⟨#[60, 47]⟩ w hs (by decide) a HA.out).mono ?_
  rintro e w1 ⟨rfl, rfl⟩
  cases a with
  | true =>
    go_wp2
    go_ret
    exact ⟨ret_bool (by rw [← HQ.out]; rfl), rfl⟩
  | false =>
    go_wp2_with fail
    refine (ends1 s ⟨#[60]⟩ w hs (by decide) b HB.out).mono ?_
    rintro e w1 ⟨rfl, rfl⟩
    go_wp2
    go_ret
    exact ⟨ret_bool (by rw [← HQ.out]; cases b <;> rfl), rfl⟩
set_option maxHeartbeats 1000000 in
theorem legalComment1 (s : ByteArray) (w : World) (hs : s.size ≤ 140737488355328) (q : Bool) (hq : noteB (L s) = q) :
    Calls Tryz.prog 43 #[.string s] w fun e w' => e = .returned (.bool q) ∧ w = w' := by
  obtain ⟨a, ha⟩ : ∃ a, sub [45, 45, 62] (L s) = a := ⟨_, rfl⟩
  obtain ⟨b, hb⟩ : ∃ b, sub [45, 45, 33, 62] (L s) = b := ⟨_, rfl⟩
  obtain ⟨c, hc⟩ : ∃ c, pre [62] (L s) = c := ⟨_, rfl⟩
  obtain ⟨d, hd⟩ : ∃ d, pre [45, 62] (L s) = d := ⟨_, rfl⟩
  unfold noteB at hq
  rw [ha, hb, hc, hd] at hq
  have HA := Lib.hid ha; have HB := Lib.hid hb; have HC := Lib.hid hc; have HD := Lib.hid hd; have HQ := Lib.hid hq
  clear ha hb hc hd hq
  go_enter Tryz.func43, Tryz.ntmps43
  go_wp2_with fail
  refine (contains1 s ⟨#[45, 45, 62]⟩ w hs (by decide) a HA.out).mono ?_
  rintro e w1 ⟨rfl, rfl⟩
  cases a with
  | true =>
    go_wp2
    go_ret
    exact ⟨ret_bool (by rw [← HQ.out]; rfl), rfl⟩
  | false =>
    go_wp2_with fail
    refine (contains1 s ⟨#[45, 45, 33, 62]⟩ w hs (by decide) b HB.out).mono ?_
    rintro e w1 ⟨rfl, rfl⟩
    cases b with
    | true =>
      go_wp2
      go_ret
      exact ⟨ret_bool (by rw [← HQ.out]; rfl), rfl⟩
    | false =>
      go_wp2_with fail
      refine (begins1 s ⟨#[62]⟩ w hs (by decide) c HC.out).mono ?_
      rintro e w1 ⟨rfl, rfl⟩
      cases c with
      | true =>
        go_wp2
        go_ret
        exact ⟨ret_bool (by rw [← HQ.out]; rfl), rfl⟩
      | false =>
        go_wp2_with fail
        refine (begins1 s ⟨#[45, 62]⟩ w hs (by decide) d HD.out).mono ?_
        rintro e w1 ⟨rfl, rfl⟩
        go_wp2
        go_ret
        exact ⟨ret_bool (by rw [← HQ.out]; cases d <;> rfl), rfl⟩

end Go.Proofs.YteafldginkpgoaaGreat.Wr

namespace Go.Proofs.YteafldginkpgoaaGreat.Na
set_option maxRecDepth 100000
set_option linter.unusedSimpArgs false
set_option linter.unusedVariables false
open Go.RowKit Ba Fm Fo Nm
set_option maxRecDepth 100000 in
set_option maxHeartbeats 4000000 in
theorem closes_any (s : ByteArray) (w : World) : Calls Tryz.prog 98 #[.string s] w fun e w' => ∃ v, e = .returned v ∧ Sown w.heap.size w' v (closesL s) ∧ Below w.heap.size w w' := by
  by_cases h0 : s = n_li
  · obtain ⟨⟨f0, f1, f2, f3, f4, f5, f6, f7, f8, f9, f10⟩, hcl, hwl, htb, hbl⟩ := own_li h0
    rw [hcl]
    have hb := below_one w (.cells ([n_li].map sc).toArray 9)
    have hs := sown_lit w [n_li] (by decide)
    have HX := Lib.hid h0; have HTB := Lib.hid htb
    clear h0 hcl hwl htb hbl
    go_enter Tryz.func98, Tryz.ntmps98
    go_wp2
    go_ret
    exact ⟨_, rfl, hs, hb⟩
  by_cases h1 : s = n_dd
  · obtain ⟨⟨f0, f1, f2, f3, f4, f5, f6, f7, f8, f9, f10⟩, hcl, hwl, htb, hbl⟩ := own_dd h1
    rw [hcl]
    have hb := below_one w (.cells ([n_dd, n_dt].map sc).toArray 9)
    have hs := sown_lit w [n_dd, n_dt] (by decide)
    have HX := Lib.hid h1; have HTB := Lib.hid htb
    clear h0 h1 hcl hwl htb hbl
    go_enter Tryz.func98, Tryz.ntmps98
    go_wp2
    go_ret
    exact ⟨_, rfl, hs, hb⟩
  by_cases h2 : s = n_dt
  · obtain ⟨⟨f0, f1, f2, f3, f4, f5, f6, f7, f8, f9, f10⟩, hcl, hwl, htb, hbl⟩ := own_dt h2
    rw [hcl]
    have hb := below_one w (.cells ([n_dd, n_dt].map sc).toArray 9)
    have hs := sown_lit w [n_dd, n_dt] (by decide)
    have HX := Lib.hid h2; have HTB := Lib.hid htb
    clear h0 h1 h2 hcl hwl htb hbl
    go_enter Tryz.func98, Tryz.ntmps98
    go_wp2
    go_ret
    exact ⟨_, rfl, hs, hb⟩
  by_cases h3 : s = n_option
  · obtain ⟨⟨f0, f1, f2, f3, f4, f5, f6, f7, f8, f9, f10⟩, hcl, hwl, htb, hbl⟩ := own_option h3
    rw [hcl]
    have hb := below_one w (.cells ([n_option].map sc).toArray 9)
    have hs := sown_lit w [n_option] (by decide)
    have HX := Lib.hid h3; have HTB := Lib.hid htb
    clear h0 h1 h2 h3 hcl hwl htb hbl
    go_enter Tryz.func98, Tryz.ntmps98
    go_wp2
    go_ret
    exact ⟨_, rfl, hs, hb⟩
  by_cases h4 : s = n_optgroup
  · obtain ⟨⟨f0, f1, f2, f3, f4, f5, f6, f7, f8, f9, f10⟩, hcl, hwl, htb, hbl⟩ := own_optgroup h4
    rw [hcl]
    have hb := below_one w (.cells ([n_optgroup, n_option].map sc).toArray 9)
    have hs := sown_lit w [n_optgroup, n_option] (by decide)
    have HX := Lib.hid h4; have HTB := Lib.hid htb
    clear h0 h1 h2 h3 h4 hcl hwl htb hbl
    go_enter Tryz.func98, Tryz.ntmps98
    go_wp2
    go_ret
    exact ⟨_, rfl, hs, hb⟩
  by_cases h5 : s = n_tr
  · obtain ⟨⟨f0, f1, f2, f3, f4, f5, f6, f7, f8, f9, f10⟩, hcl, hwl, htb, hbl⟩ := own_tr h5
    rw [hcl]
    have hb := below_one w (.cells ([n_td, n_th, n_tr].map sc).toArray 9)
    have hs := sown_lit w [n_td, n_th, n_tr] (by decide)
    have HX := Lib.hid h5; have HTB := Lib.hid htb
    clear h0 h1 h2 h3 h4 h5 hcl hwl htb hbl
    go_enter Tryz.func98, Tryz.ntmps98
    go_wp2
    go_ret
    exact ⟨_, rfl, hs, hb⟩
  by_cases h6 : s = n_td
  · obtain ⟨⟨f0, f1, f2, f3, f4, f5, f6, f7, f8, f9, f10⟩, hcl, hwl, htb, hbl⟩ := own_td h6
    rw [hcl]
    have hb := below_one w (.cells ([n_td, n_th].map sc).toArray 9)
    have hs := sown_lit w [n_td, n_th] (by decide)
    have HX := Lib.hid h6; have HTB := Lib.hid htb
    clear h0 h1 h2 h3 h4 h5 h6 hcl hwl htb hbl
    go_enter Tryz.func98, Tryz.ntmps98
    go_wp2
    go_ret
    exact ⟨_, rfl, hs, hb⟩
  by_cases h7 : s = n_th
  · obtain ⟨⟨f0, f1, f2, f3, f4, f5, f6, f7, f8, f9, f10⟩, hcl, hwl, htb, hbl⟩ := own_th h7
    rw [hcl]
    have hb := below_one w (.cells ([n_td, n_th].map sc).toArray 9)
    have hs := sown_lit w [n_td, n_th] (by decide)
    have HX := Lib.hid h7; have HTB := Lib.hid htb
    clear h0 h1 h2 h3 h4 h5 h6 h7 hcl hwl htb hbl
    go_enter Tryz.func98, Tryz.ntmps98
    go_wp2
    go_ret
    exact ⟨_, rfl, hs, hb⟩
  by_cases h8 : s = n_tbody
  · obtain ⟨⟨f0, f1, f2, f3, f4, f5, f6, f7, f8, f9, f10⟩, hcl, hwl, htb, hbl⟩ := own_tbody h8
    rw [hcl]
    have hb := below_one w (.cells ([n_tbody, n_td, n_tfoot, n_th, n_thead, n_tr].map sc).toArray 9)
    have hs := sown_lit w [n_tbody, n_td, n_tfoot, n_th, n_thead, n_tr] (by decide)
    have HX := Lib.hid h8; have HTB := Lib.hid htb
    clear h0 h1 h2 h3 h4 h5 h6 h7 h8 hcl hwl htb hbl
    go_enter Tryz.func98, Tryz.ntmps98
    go_wp2
    go_ret
    exact ⟨_, rfl, hs, hb⟩
  by_cases h9 : s = n_tfoot
  · obtain ⟨⟨f0, f1, f2, f3, f4, f5, f6, f7, f8, f9, f10⟩, hcl, hwl, htb, hbl⟩ := own_tfoot h9
    rw [hcl]
    have hb := below_one w (.cells ([n_tbody, n_td, n_tfoot, n_th, n_thead, n_tr].map sc).toArray 9)
    have hs := sown_lit w [n_tbody, n_td, n_tfoot, n_th, n_thead, n_tr] (by decide)
    have HX := Lib.hid h9; have HTB := Lib.hid htb
    clear h0 h1 h2 h3 h4 h5 h6 h7 h8 h9 hcl hwl htb hbl
    go_enter Tryz.func98, Tryz.ntmps98
    go_wp2
    go_ret
    exact ⟨_, rfl, hs, hb⟩
  by_cases h10 : s = n_thead
  · obtain ⟨⟨f0, f1, f2, f3, f4, f5, f6, f7, f8, f9, f10⟩, hcl, hwl, htb, hbl⟩ := own_thead h10
    rw [hcl]
    have hb := below_one w (.cells ([n_tbody, n_td, n_tfoot, n_th, n_thead, n_tr].map sc).toArray 9)
    have hs := sown_lit w [n_tbody, n_td, n_tfoot, n_th, n_thead, n_tr] (by decide)
    have HX := Lib.hid h10; have HTB := Lib.hid htb
    clear h0 h1 h2 h3 h4 h5 h6 h7 h8 h9 h10 hcl hwl htb hbl
    go_enter Tryz.func98, Tryz.ntmps98
    go_wp2
    go_ret
    exact ⟨_, rfl, hs, hb⟩
  obtain ⟨⟨f0, f1, f2, f3, f4, f5, f6, f7, f8, f9, f10⟩, hcl, hwl, htb⟩ := own_none h0 h1 h2 h3 h4 h5 h6 h7 h8 h9 h10
  clear h0 h1 h2 h3 h4 h5 h6 h7 h8 h9 h10
  rw [hcl]
  have HTB := Lib.hid htb
  clear htb
  clear hcl hwl
  obtain ⟨q, hq⟩ : ∃ q, isIn s blockL = q := ⟨_, rfl⟩
  rw [hq]
  have HQ := Lib.hid hq
  clear hq
  cases q with
  | true =>
    rw [if_pos rfl]
    go_enter Tryz.func98, Tryz.ntmps98
    go_wp2_with fail
    refine (block_any s w).mono ?_
    rintro e w1 ⟨rfl, hb12⟩
    rw [HQ.out]
    have hb3 := below_one w1 (.cells ([n_p].map sc).toArray 9)
    have hs3 := sown_lit w1 [n_p] (by decide)
    go_wp2
    go_ret
    exact ⟨_, rfl, hs3.mono hb12.size, bt hb12 hb3⟩
    | false =>
    rw [if_neg (by decide)]
    go_enter Tryz.func98, Tryz.ntmps98
    go_wp2_with fail
    refine (block_any s w).mono ?_
    rintro e w1 ⟨rfl, hb12⟩
    rw [HQ.out]
    go_wp2
    go_ret
    exact ⟨_, rfl, Sown.nil _ _, hb12⟩

end Go.Proofs.YteafldginkpgoaaGreat.Na

namespace Go.Proofs.YteafldginkpgoaaGreat.Na
set_option maxRecDepth 100000
set_option linter.unusedSimpArgs false
set_option linter.unusedVariables false
open Go.RowKit Ba Fm Fo Nm
set_option maxRecDepth 100000 in
set_option maxHeartbeats 4000000 in
theorem walls_any (s : ByteArray) (w : World) : Calls Tryz.prog 99 #[.string s] w fun e w' => ∃ v, e = .returned v ∧ Sown w.heap.size w' v (wallsL s) ∧ Below w.heap.size w w' := by
  by_cases h0 : s = n_li
  · obtain ⟨⟨f0, f1, f2, f3, f4, f5, f6, f7, f8, f9, f10⟩, hcl, hwl, htb, hbl⟩ := own_li h0
    rw [hwl]
    have hb := below_one w (.cells ([n_menu, n_ol, n_template, n_ul].map sc).toArray 9)
    have hs := sown_lit w [n_menu, n_ol, n_template, n_ul] (by decide)
    have HX := Lib.hid h0; have HTB := Lib.hid htb
    clear h0 hcl hwl htb hbl
    go_enter Tryz.func99, Tryz.ntmps99
    go_wp2
    go_ret
    exact ⟨_, rfl, hs, hb⟩
  by_cases h1 : s = n_dd
  · obtain ⟨⟨f0, f1, f2, f3, f4, f5, f6, f7, f8, f9, f10⟩, hcl, hwl, htb, hbl⟩ := own_dd h1
    rw [hwl]
    have hb := below_one w (.cells ([n_dl, n_template].map sc).toArray 9)
    have hs := sown_lit w [n_dl, n_template] (by decide)
    have HX := Lib.hid h1; have HTB := Lib.hid htb
    clear h0 h1 hcl hwl htb hbl
    go_enter Tryz.func99, Tryz.ntmps99
    go_wp2
    go_ret
    exact ⟨_, rfl, hs, hb⟩
  by_cases h2 : s = n_dt
  · obtain ⟨⟨f0, f1, f2, f3, f4, f5, f6, f7, f8, f9, f10⟩, hcl, hwl, htb, hbl⟩ := own_dt h2
    rw [hwl]
    have hb := below_one w (.cells ([n_dl, n_template].map sc).toArray 9)
    have hs := sown_lit w [n_dl, n_template] (by decide)
    have HX := Lib.hid h2; have HTB := Lib.hid htb
    clear h0 h1 h2 hcl hwl htb hbl
    go_enter Tryz.func99, Tryz.ntmps99
    go_wp2
    go_ret
    exact ⟨_, rfl, hs, hb⟩
  by_cases h3 : s = n_option
  · obtain ⟨⟨f0, f1, f2, f3, f4, f5, f6, f7, f8, f9, f10⟩, hcl, hwl, htb, hbl⟩ := own_option h3
    rw [hwl]
    have hb := below_one w (.cells ([n_select, n_template].map sc).toArray 9)
    have hs := sown_lit w [n_select, n_template] (by decide)
    have HX := Lib.hid h3; have HTB := Lib.hid htb
    clear h0 h1 h2 h3 hcl hwl htb hbl
    go_enter Tryz.func99, Tryz.ntmps99
    go_wp2
    go_ret
    exact ⟨_, rfl, hs, hb⟩
  by_cases h4 : s = n_optgroup
  · obtain ⟨⟨f0, f1, f2, f3, f4, f5, f6, f7, f8, f9, f10⟩, hcl, hwl, htb, hbl⟩ := own_optgroup h4
    rw [hwl]
    have hb := below_one w (.cells ([n_select, n_template].map sc).toArray 9)
    have hs := sown_lit w [n_select, n_template] (by decide)
    have HX := Lib.hid h4; have HTB := Lib.hid htb
    clear h0 h1 h2 h3 h4 hcl hwl htb hbl
    go_enter Tryz.func99, Tryz.ntmps99
    go_wp2
    go_ret
    exact ⟨_, rfl, hs, hb⟩
  by_cases h5 : s = n_tr
  · obtain ⟨⟨f0, f1, f2, f3, f4, f5, f6, f7, f8, f9, f10⟩, hcl, hwl, htb, hbl⟩ := own_tr h5
    rw [hwl]
    have hb := below_one w (.cells ([n_table, n_template].map sc).toArray 9)
    have hs := sown_lit w [n_table, n_template] (by decide)
    have HX := Lib.hid h5; have HTB := Lib.hid htb
    clear h0 h1 h2 h3 h4 h5 hcl hwl htb hbl
    go_enter Tryz.func99, Tryz.ntmps99
    go_wp2
    go_ret
    exact ⟨_, rfl, hs, hb⟩
  by_cases h6 : s = n_td
  · obtain ⟨⟨f0, f1, f2, f3, f4, f5, f6, f7, f8, f9, f10⟩, hcl, hwl, htb, hbl⟩ := own_td h6
    rw [hwl]
    have hb := below_one w (.cells ([n_table, n_template].map sc).toArray 9)
    have hs := sown_lit w [n_table, n_template] (by decide)
    have HX := Lib.hid h6; have HTB := Lib.hid htb
    clear h0 h1 h2 h3 h4 h5 h6 hcl hwl htb hbl
    go_enter Tryz.func99, Tryz.ntmps99
    go_wp2
    go_ret
    exact ⟨_, rfl, hs, hb⟩
  by_cases h7 : s = n_th
  · obtain ⟨⟨f0, f1, f2, f3, f4, f5, f6, f7, f8, f9, f10⟩, hcl, hwl, htb, hbl⟩ := own_th h7
    rw [hwl]
    have hb := below_one w (.cells ([n_table, n_template].map sc).toArray 9)
    have hs := sown_lit w [n_table, n_template] (by decide)
    have HX := Lib.hid h7; have HTB := Lib.hid htb
    clear h0 h1 h2 h3 h4 h5 h6 h7 hcl hwl htb hbl
    go_enter Tryz.func99, Tryz.ntmps99
    go_wp2
    go_ret
    exact ⟨_, rfl, hs, hb⟩
  by_cases h8 : s = n_tbody
  · obtain ⟨⟨f0, f1, f2, f3, f4, f5, f6, f7, f8, f9, f10⟩, hcl, hwl, htb, hbl⟩ := own_tbody h8
    rw [hwl]
    have hb := below_one w (.cells ([n_table, n_template].map sc).toArray 9)
    have hs := sown_lit w [n_table, n_template] (by decide)
    have HX := Lib.hid h8; have HTB := Lib.hid htb
    clear h0 h1 h2 h3 h4 h5 h6 h7 h8 hcl hwl htb hbl
    go_enter Tryz.func99, Tryz.ntmps99
    go_wp2
    go_ret
    exact ⟨_, rfl, hs, hb⟩
  by_cases h9 : s = n_tfoot
  · obtain ⟨⟨f0, f1, f2, f3, f4, f5, f6, f7, f8, f9, f10⟩, hcl, hwl, htb, hbl⟩ := own_tfoot h9
    rw [hwl]
    have hb := below_one w (.cells ([n_table, n_template].map sc).toArray 9)
    have hs := sown_lit w [n_table, n_template] (by decide)
    have HX := Lib.hid h9; have HTB := Lib.hid htb
    clear h0 h1 h2 h3 h4 h5 h6 h7 h8 h9 hcl hwl htb hbl
    go_enter Tryz.func99, Tryz.ntmps99
    go_wp2
    go_ret
    exact ⟨_, rfl, hs, hb⟩
  by_cases h10 : s = n_thead
  · obtain ⟨⟨f0, f1, f2, f3, f4, f5, f6, f7, f8, f9, f10⟩, hcl, hwl, htb, hbl⟩ := own_thead h10
    rw [hwl]
    have hb := below_one w (.cells ([n_table, n_template].map sc).toArray 9)
    have hs := sown_lit w [n_table, n_template] (by decide)
    have HX := Lib.hid h10; have HTB := Lib.hid htb
    clear h0 h1 h2 h3 h4 h5 h6 h7 h8 h9 h10 hcl hwl htb hbl
    go_enter Tryz.func99, Tryz.ntmps99
    go_wp2
    go_ret
    exact ⟨_, rfl, hs, hb⟩
  obtain ⟨⟨f0, f1, f2, f3, f4, f5, f6, f7, f8, f9, f10⟩, hcl, hwl, htb⟩ := own_none h0 h1 h2 h3 h4 h5 h6 h7 h8 h9 h10
  clear h0 h1 h2 h3 h4 h5 h6 h7 h8 h9 h10
  rw [hwl]
  clear hcl hwl htb
  have hb3 := below_one w (.cells ([n_button, n_caption, n_table, n_td, n_template, n_th].map sc).toArray 9)
  have hs3 := sown_lit w [n_button, n_caption, n_table, n_td, n_template, n_th] (by decide)
  go_enter Tryz.func99, Tryz.ntmps99
  go_wp2
  go_ret
  exact ⟨_, rfl, hs3, hb3⟩

end Go.Proofs.YteafldginkpgoaaGreat.Na

namespace Go.Proofs.YteafldginkpgoaaGreat.Bu
set_option maxRecDepth 100000
set_option linter.unusedVariables false
set_option linter.unusedSimpArgs false
open Go.RowKit Ba Fm Fo Nm Bm Go.Shelf
attribute [local go_sem] Oper.semAt_some

set_option maxHeartbeats 400000 in
theorem among_any (A : Option Addr) (c N : Nat) (l : List ByteArray) (s : ByteArray) (w : World) (hr : Rd w N A l) (hl : l.length ≤ 8796093022208) :
    Calls Tryz.prog 103 #[.string s, .slice A l.length c] w fun e w' => e = .returned (.bool (isIn s l)) ∧ w = w' := by
  go_enter Tryz.func103, Tryz.ntmps103
  go_wp2
  go_loop [9] (fun i => ∃ k : Nat, i = .int .i64 k ∧ k ≤ l.length ∧ ¬ s ∈ l.take k) (fun i => l.length - (intOf i).toNat)
  case atStart => exact ⟨0, rfl, Nat.zero_le _, by simp⟩
  case round =>
    obtain ⟨k, rfl, hks, hn⟩ := hrel
    have HN := Lib.hid hn; clear hn
    by_cases hp : k < l.length
    · obtain ⟨b, off, rfl, _, hc⟩ := hr (by omega)
      have hcell := hc k hp
      clear hc hr
      have heq := eq_of_toList (a := l[k]) (b := s)
      by_cases he : l[k] = s
      · rw [decide_eq_true he] at heq
        have HE := Lib.hid he; clear he
        go_wp2
        go_ret
        exact ⟨ret_bool (isIn_yes (by have := HE.out; rw [← this]; exact List.getElem_mem _)).symm, rfl⟩
      · rw [decide_eq_false he] at heq
        have HE := Lib.hid he; clear he
        go_wp2
        go_round
        case rel => exact ⟨k + 1, by go_num, by omega, has_snoc l s k hp HN.out HE.out⟩
        case measure => simp [intOf]; omega
    · go_wp2
      go_ret
      refine ⟨ret_bool (isIn_no ?_).symm, rfl⟩
      have := HN.out
      rwa [List.take_of_length_le (by omega)] at this

/-- The open elements with their places, the last one first. -/
def dn : List ByteArray → List (Nat × ByteArray)
  | [] => []
  | x :: r => (r.length, x) :: dn r
theorem dn_take {l : List ByteArray} {k : Nat} (h : k < l.length) : dn (l.take (k + 1)).reverse = (k, l[k]) :: dn (l.take k).reverse := by
  rw [rev_take (List.getElem?_eq_getElem h), dn, List.length_reverse, List.length_take, Nat.min_eq_left (Nat.le_of_lt h)]

/-- What a round leaves as it was: what lay below n₀, and the box of the iterator. -/
def Kp (n₀ B1 : Nat) (W W' : World) : Prop := Below n₀ W W' ∧ W'.heap[B1]? = W.heap[B1]?
theorem Kp.t {n₀ B1 : Nat} {A B C : World} (h : Kp n₀ B1 A B) (k : Kp n₀ B1 B C) : Kp n₀ B1 A C := ⟨h.1.trans k.1, k.2.trans h.2⟩
theorem Kp.r {n₀ B1 : Nat} (A : World) : Kp n₀ B1 A A := ⟨Below.refl _ _, rfl⟩
theorem Kp.b {n₀ B1 : Nat} {w : World} (hn : n₀ ≤ w.heap.size) (h1 : B1 < w.heap.size) (W : World) (l : Nat) (o o' : Obj) (hl : w.heap.size ≤ l) (h : W.heap[l]? = some o) (hc : o.isCells = false) (hw : o.isWalk = false) : Kp n₀ B1 W (W.putObj l o') :=
  ⟨belowK_b hn W l o o' hl h hc hw, World.putObj_heap_other (by omega)⟩
theorem boxB {W : World} {B : Nat} {t : TypeId} {v : Value} {W' : World} (h : Boxed W B t v) (hk : W'.heap[B]? = W.heap[B]?) : Boxed W' B t v := hk.trans h

set_option maxRecDepth 100000 in
set_option maxHeartbeats 2000000 in
theorem from1_in (n : Nat) (hn : 1 ≤ n) (lp B1 n₀ : Nat) (A : Option Addr) (c : Nat) (l : List ByteArray) (J Jx : List (Nat × ByteArray) → World → Prop) (hm : l.length ≤ 1000000)
    (hY : ∀ pre (x : Nat × ByteArray) W, J pre W → pre.length < l.length → YieldAt Fence.wide (n - 1) Tryz.prog lp #[.int .i64 (x.1 : Nat), .string x.2] W fun e W' =>
      (e = .returned (.bool true) ∧ J (pre ++ [x]) W' ∧ Kp n₀ B1 W W') ∨ (e = .returned (.bool false) ∧ Jx (pre ++ [x]) W'))
    (W : World) (hn₀ : n₀ ≤ W.heap.size) (hb1 : Boxed W B1 37 (.slice A l.length c)) (hr : Rd W n₀ A l) (h0 : J [] W) :
    CallsIn Fence.wide n Tryz.prog 104 #[.func (.yield lp) #[] #[], .pointer (some ⟨B1, 0, none⟩)] W fun e W' => (∃ v, e = .returned v) ∧
      ((∃ ys, ys = dn l.reverse ∧ J ys W') ∨ (∃ pre, pre <+: dn l.reverse ∧ Jx pre W')) := by
  have c1 := hb1.cell
  obtain ⟨xs, hxs⟩ : ∃ xs, dn l.reverse = xs := ⟨_, rfl⟩
  have hx0 : dn (l.take l.length).reverse = xs := by rw [List.take_length]; exact hxs
  have hlen0 : xs.length = l.length := by
    have : ∀ s : List ByteArray, (dn s).length = s.length := fun s => by
      induction s with
      | nil => rfl
      | cons x r ih => rw [dn, List.length_cons, List.length_cons, ih]
    rw [← hxs, this, List.length_reverse]
  rw [hxs]
  obtain ⟨F, hF⟩ : ∃ F, Fence.wide = F := ⟨_, rfl⟩
  rw [hF] at hY ⊢
  have hfn : ∀ f, F.fn f := hF ▸ fun _ => trivial
  have hro : F.round = none := hF ▸ rfl
  have h52 := hfn 104
  clear hF hfn
  have HX0 := Lib.hid hx0; have HXS := Lib.hid hxs; have HY := Lib.hid hY; have HL := Lib.hid hlen0
  clear hx0 hxs hY hlen0
  refine callsIn_of_wp Tryz.func104 rfl h52 ?_ hro
  simp only [Tryz.ntmps104, List.size_toArray, List.length_cons, List.length_nil, Nat.reduceAdd, Nat.reduceSub, Array.replicate_succ, Array.replicate_zero, List.push_toArray, List.append_toArray, List.nil_append, List.cons_append]
  gi_wp2
  gi_loopw [3] (fun v wr => ∃ (k : Nat) (i : Int) (pre : List (Nat × ByteArray)), v = .int .i64 i ∧ i + 1 = k ∧ k ≤ l.length ∧ xs = pre ++ dn (l.take k).reverse ∧ J pre wr ∧ n₀ ≤ wr.heap.size ∧ Boxed wr B1 37 (.slice A l.length c) ∧ Rd wr n₀ A l) (fun v _ => (intOf v + 1).toNat)
  case atStart => exact ⟨l.length, _, [], rfl, by omega, Nat.le_refl _, HX0.out.symm, h0, hn₀, hb1, hr⟩
  case round =>
    clear HX0 c1 hb1 hr h0
    obtain ⟨k, i, pre, rfl, hi, hk, hxp, hJs, hnw, hb1, hr⟩ := hrel
    have c1 := hb1.cell
    by_cases hp : 0 < k
    · obtain ⟨m, rfl⟩ : ∃ m, k = m + 1 := ⟨k - 1, by omega⟩
      obtain rfl : i = (m : Int) := by omega
      obtain ⟨b, off, rfl, hb, hc⟩ := hr (by omega)
      have hcell := hc m (by omega)
      rw [dn_take (by omega)] at hxp
      have hlen : pre.length < l.length := by rw [← HL.out, hxp]; simp
      obtain ⟨fn, tmps, assign, body, hy, hR⟩ := HY.out pre (m, l[m]) wr hJs hlen
      have HXP := Lib.hid hxp
      have hge : decide ((0 : Int) ≤ (m : Int)) = true := decide_eq_true (by omega)
      clear hxp hlen
      gi_wp2
      refine hR.mono ?_
      rintro e W3 (⟨rfl, hJ3, hk3⟩ | ⟨rfl, hJx3⟩)
      · gi_wp2
        go_roundw
        case rel => exact ⟨m, _, pre ++ [(m, l[m])], rfl, by omega, by omega, by rw [HXP.out, List.append_assoc]; rfl, hJ3, Nat.le_trans hnw hk3.1.size, boxB hb1 hk3.2, hr.below hk3.1 (Nat.le_refl _)⟩
        case measure => simp [intOf]
      · gi_wp2
        refine bodyPost_ret (results_none rfl _ _ _) rfl ?_
        exact ⟨⟨_, rfl⟩, .inr ⟨pre ++ [(m, l[m])], ⟨dn (l.take m).reverse, by rw [HXP.out, List.append_assoc]; rfl⟩, hJx3⟩⟩
    · obtain rfl : k = 0 := by omega
      obtain rfl : i = -1 := by omega
      have HXP := Lib.hid hxp
      clear hxp
      gi_wp2
      go_end0
      exact ⟨⟨_, rfl⟩, .inl ⟨pre, by rw [HXP.out]; exact (List.append_nil _).symm, hJs⟩⟩

theorem fromEnd_any (A : Option Addr) (n c : Nat) (w : World) :
    Calls Tryz.prog 102 #[.slice A n c] w fun e w' => e = .returned (.func (.func 104) #[] #[.pointer (some ⟨w.heap.size, 0, none⟩)]) ∧ w' = w.alloc (.cells #[.slice A n c] 37) := by
  go_enter Tryz.func102, Tryz.ntmps102
  go_wp2
  go_ret
  exact ⟨rfl, rfl⟩

theorem from_stops (n : Nat) (hn : 1 ≤ n) (B1 n₀ : Nat) (A : Option Addr) (c : Nat) (l : List ByteArray) (hm : l.length ≤ 1000000) (w : World) (hn₀ : n₀ ≤ w.heap.size) (hb1 : Boxed w B1 37 (.slice A l.length c)) (hr : Rd w n₀ A l) :
    SeqStopsK Fence.wide n Tryz.prog 104 #[.pointer (some ⟨B1, 0, none⟩)] (fun x : Nat × ByteArray => #[.int .i64 (x.1 : Nat), .string x.2]) (Kp n₀ B1) (fun ys => ys = dn l.reverse) (fun pre => pre <+: dn l.reverse) l.length w := fun lp J Jx W hW hJ _ hY h0 =>
  from1_in n hn lp B1 n₀ A c l J Jx hm hY W (Nat.le_trans hn₀ hW.size) (boxB hb1 (hW.block B1 hb1.lt)) (hr.below hW hn₀) h0

/-- Where the search ends: below 0: nothing. -/
def idx (ns ws o : List ByteArray) : Int := match findS ns ws o.reverse with | some r => (r.length : Nat) | none => -1
def past (ns ws : List ByteArray) (p : Nat × ByteArray) : Prop := isIn p.2 ns = false ∧ isIn p.2 ws = false
theorem dn_split {ns ws : List ByteArray} : ∀ {s : List ByteArray} {q t : List (Nat × ByteArray)}, dn s = q ++ t → (∀ p ∈ q, past ns ws p) → ∃ r, dn r = t ∧ findS ns ws s = findS ns ws r
  | s, [], t, h, _ => ⟨s, h, rfl⟩
  | [], p :: q, t, h, _ => by cases h
  | x :: s, p :: q, t, h, hp => by
    rw [dn, List.cons_append] at h
    injection h with h1 h2
    obtain ⟨r, e1, e2⟩ := dn_split h2 fun y hy => hp y (List.mem_cons_of_mem _ hy)
    have hx := hp p List.mem_cons_self
    rw [← h1] at hx
    exact ⟨r, e1, by rw [findS_past s hx.1 hx.2, e2]⟩
theorem idx_none {ns ws o : List ByteArray} (h : ∀ p ∈ dn o.reverse, past ns ws p) : idx ns ws o = -1 := by
  obtain ⟨r, e1, e2⟩ := dn_split (ns := ns) (ws := ws) (s := o.reverse) (q := dn o.reverse) (t := []) (by rw [List.append_nil]) h
  unfold idx
  rw [e2]
  cases r with
  | nil => rfl
  | cons x r => cases e1
theorem idx_stop {ns ws o : List ByteArray} {q t : List (Nat × ByteArray)} {x : Nat × ByteArray} (h : dn o.reverse = q ++ x :: t) (hq : ∀ p ∈ q, past ns ws p) (hx : isIn x.2 ns = false → isIn x.2 ws = true) :
    idx ns ws o = if isIn x.2 ns = true then (x.1 : Int) else -1 := by
  obtain ⟨r, e1, e2⟩ := dn_split h hq
  unfold idx
  rw [e2]
  cases r with
  | nil => cases e1
  | cons y r =>
    rw [dn] at e1
    injection e1 with e1 _
    subst e1
    cases hn : isIn y ns with
    | true => rw [findS_hit r hn]; rfl
    | false => rw [findS_wall r hn (hx hn)]; rfl

theorem box_own {W W' : World} {B n : Nat} {t : TypeId} {v : Value} {row : Option Nat} (h : Boxed W B t v) (hg : W.grownBy W' row) (hr : ∀ r, row = some r → n ≤ r ∧ ∃ o : Obj, W.heap[r]? = some o ∧ o.isCells = false) : Boxed W' B t v :=
  h.kept hg fun e => by
    obtain ⟨_, o, ho, hc⟩ := hr B e.symm
    rw [show W.heap[B]? = _ from h] at ho
    cases ho
    cases hc
/-- What the rounds leave. -/
def Fl (w : World) (ns ws : List ByteArray) (v1 v2 : Value) (pre : List (Nat × ByteArray)) (W : World) : Prop :=
  Boxed W w.heap.size 37 v1 ∧ Boxed W (w.heap.size + 1) 37 v2 ∧ Boxed W (w.heap.size + 1 + 1) 3 (.int .i64 0) ∧ Below w.heap.size w W ∧ w.heap.size + 1 + 1 + 1 + 1 ≤ W.heap.size ∧ ∀ p ∈ pre, past ns ws p
def Fx (w : World) (ns ws : List ByteArray) (c : Code) (pre : List (Nat × ByteArray)) (W : World) : Prop :=
  c = .ret ∧ ∃ q x, pre = q ++ [x] ∧ (∀ p ∈ q, past ns ws p) ∧ (isIn x.2 ns = false → isIn x.2 ws = true) ∧ Boxed W (w.heap.size + 1 + 1) 3 (.int .i64 (if isIn x.2 ns = true then (x.1 : Int) else -1)) ∧ Below w.heap.size w W
theorem Fl.own (w : World) (ns ws : List ByteArray) (v1 v2 : Value) (n : Nat) (hn : w.heap.size ≤ n) : OwnFrom n (Fl w ns ws v1 v2) := fun s W W' row hs hg hr =>
  ⟨box_own hs.1 hg hr, box_own hs.2.1 hg hr, box_own hs.2.2.1 hg hr, hs.2.2.2.1.grown hg hs.2.2.2.1.size (fun k hk => Nat.le_trans hn (hr k hk).1), Nat.le_trans hs.2.2.2.2.1 hg.size, hs.2.2.2.2.2⟩
theorem Fx.own (w : World) (ns ws : List ByteArray) (c : Code) (n : Nat) (hn : w.heap.size ≤ n) : OwnFrom n (Fx w ns ws c) := fun s W W' row hs hg hr => by
  obtain ⟨hc, q, x, e1, e2, e3, h2, h3⟩ := hs
  exact ⟨hc, q, x, e1, e2, e3, box_own h2 hg hr, h3.grown hg h3.size (fun k hk => Nat.le_trans hn (hr k hk).1)⟩

theorem among1 (A : Option Addr) (c N n : Nat) (l : List ByteArray) (s : ByteArray) (w : World) (hr : Rd w N A l) (hl : l.length ≤ 1000) (q : Bool) (hq : isIn s l = q) (hn : n = l.length) :
    Calls Tryz.prog 103 #[.string s, .slice A n c] w fun e w' => e = .returned (.bool q) ∧ w = w' := by
  subst hq; subst hn
  exact among_any A c N l s w hr (by omega)

set_option maxRecDepth 100000 in
set_option maxHeartbeats 4000000 in
theorem find_any (A A1 A2 : Option Addr) (c c1 c2 : Nat) (l ns ws : List ByteArray) (w : World) (hm : l.length ≤ 1000000) (hr : Rd w w.heap.size A l) (hr1 : Rd w w.heap.size A1 ns) (hr2 : Rd w w.heap.size A2 ws) (hn1 : ns.length ≤ 1000) (hn2 : ws.length ≤ 1000) :
    Calls Tryz.prog 100 #[.slice A l.length c, .slice A1 ns.length c1, .slice A2 ws.length c2] w fun e w' => e = .returned (.int .i64 (idx ns ws l)) ∧ Below w.heap.size w w' := by
  have x0 := Boxed.new w 37 (.slice A1 ns.length c1)
  replace x0 := Lib.hid (((x0.alloc (.cells #[.slice A2 ws.length c2] 37)).alloc (.cells #[.int .i64 0] 3)).alloc (.cells #[.slice A l.length c] 37))
  have x1 := Boxed.new (w.alloc (.cells #[.slice A1 ns.length c1] 37)) 37 (.slice A2 ws.length c2)
  rw [World.size_alloc] at x1
  replace x1 := Lib.hid ((x1.alloc (.cells #[.int .i64 0] 3)).alloc (.cells #[.slice A l.length c] 37))
  have x2 := Boxed.new ((w.alloc (.cells #[.slice A1 ns.length c1] 37)).alloc (.cells #[.slice A2 ws.length c2] 37)) 3 (.int .i64 0)
  rw [World.size_alloc, World.size_alloc] at x2
  replace x2 := Lib.hid (x2.alloc (.cells #[.slice A l.length c] 37))
  have x3 := Boxed.new (((w.alloc (.cells #[.slice A1 ns.length c1] 37)).alloc (.cells #[.slice A2 ws.length c2] 37)).alloc (.cells #[.int .i64 0] 3)) 37 (.slice A l.length c)
  rw [World.size_alloc, World.size_alloc, World.size_alloc] at x3
  replace x3 := Lib.hid x3
  have hB0 := ((((below_one w (.cells #[.slice A1 ns.length c1] 37)).alloc (by simp <;> omega) (.cells #[.slice A2 ws.length c2] 37)).alloc (by simp <;> omega) (.cells #[.int .i64 0] 3)).alloc (by simp <;> omega) (.cells #[.slice A l.length c] 37))
  have HR := Lib.hid (hr.below hB0 (Nat.le_refl _))
  have HR1 := Lib.hid hr1; have HR2 := Lib.hid hr2
  have HB0 := Lib.hid hB0
  clear hB0 hr hr1 hr2
  refine (callsIn_wide (n := 4)).1 ?_
  refine callsIn_of_wp_marks Tryz.func100 rfl trivial ?_ rfl
  simp only [Tryz.ntmps100, List.size_toArray, List.length_cons, List.length_nil, Nat.reduceAdd, Nat.reduceSub, Array.replicate_succ, Array.replicate_zero, List.push_toArray, List.append_toArray, List.nil_append, List.cons_append]
  gi_wp2_with (refine ⟨trivial, ?_⟩; gi_at_call 102; refine (callsIn_wide.2 (fromEnd_any A _ c _)).mono ?_; rintro e w' ⟨rfl, rfl⟩)
  refine wpIn_rangeFunc_ownG rfl (by omega) (gf := 104) (lb := #[.pointer (some ⟨w.heap.size + 1 + 1 + 1, 0, none⟩)]) rfl trivial (enters_of Tryz.func104 (by kernel_rfl) rfl)
    (from_stops (4 - 1) (by omega) (w.heap.size + 1 + 1 + 1) w.heap.size A c l hm _ (by simp <;> omega) x3.out HR.out) Kp.t (Kp.b (by simp <;> omega) (by simp <;> omega)) (Below.refl _ _) (fun _ => rfl)
    (Fl w ns ws (.slice A1 ns.length c1) (.slice A2 ws.length c2)) (Fx w ns ws) (Fl.own w ns ws _ _ _ (by simp <;> omega)) (fun c => Fx.own w ns ws c _ (by simp <;> omega))
    ⟨x0.out, x1.out, x2.out, HB0.out, by simp, fun p hp => by cases hp⟩
    (fun x => { tmps := #[.slice A l.length c, .slice A1 ns.length c1, .slice A2 ws.length c2, undef, .pointer (some ⟨w.heap.size, 0, none⟩), .pointer (some ⟨w.heap.size + 1, 0, none⟩), .pointer (some ⟨w.heap.size + 1 + 1, 0, none⟩), .int .i64 (x.1 : Nat), .string x.2, .slice A l.length c, .func (.func 104) #[] #[.pointer (some ⟨w.heap.size + 1 + 1 + 1, 0, none⟩)], .int .i64 (x.1 : Nat), .string x.2, undef, undef, undef, undef, undef, undef, undef, undef, undef], defers := [] }) ?assign ?body ?done ?stop
  case assign =>
    intro l x W K hK
    gi_wp2
    exact hK
  case body =>
    rintro lp pre x W ⟨b0, b1, b2, hB, hsz, hps⟩ hlt
    have k0 := b0.cell
    have k1 := b1.cell
    have k2 := b2.cell
    have f2 := b2.frozen
    have hw1 := HR1.out.below hB (Nat.le_refl _)
    have hw2 := HR2.out.below hB (Nat.le_refl _)
    have HW1 := Lib.hid hw1; have HW2 := Lib.hid hw2
    clear hw1 hw2
    cases hx : isIn x.2 ns with
    | true =>
      have HX := Lib.hid hx
      clear hx
      gi_wp2_with (refine ⟨trivial, ?_⟩; gi_at_call 103; refine (CallsIn.inRound lp (callsIn_wide.2 (among1 A1 c1 _ _ ns x.2 W HW1.out hn1 true HX.out rfl))).mono ?_; rintro e w' ⟨rfl, rfl⟩)
      exact ⟨(KeepsOthers.setCell _ _ _).from _, rfl, pre, x, rfl, hps, (fun e => by rw [HX.out] at e; cases e), by rw [HX.out, if_pos rfl]; exact b2.set _, hB.setCell (p := ⟨w.heap.size + 1 + 1, 0, none⟩) (by show w.heap.size ≤ w.heap.size + 1 + 1; omega) _⟩
    | false =>
    cases hy : isIn x.2 ws with
    | true =>
      have HX := Lib.hid hx; have HY := Lib.hid hy
      clear hx hy
      gi_wp2_with fail
      refine ⟨trivial, ?_⟩
      gi_at_call 103
      refine (CallsIn.inRound lp (callsIn_wide.2 (among1 A1 c1 _ _ ns x.2 W HW1.out hn1 false HX.out rfl))).mono ?_
      rintro e w' ⟨rfl, rfl⟩
      gi_wp2_with fail
      refine ⟨trivial, ?_⟩
      gi_at_call 103
      refine (CallsIn.inRound lp (callsIn_wide.2 (among1 A2 c2 _ _ ws x.2 W HW2.out hn2 true HY.out rfl))).mono ?_
      rintro e w' ⟨rfl, rfl⟩
      gi_wp2
      exact ⟨(KeepsOthers.setCell _ _ _).from _, rfl, pre, x, rfl, hps, (fun _ => HY.out), by rw [HX.out, if_neg (by simp)]; exact b2.set _, hB.setCell (p := ⟨w.heap.size + 1 + 1, 0, none⟩) (by show w.heap.size ≤ w.heap.size + 1 + 1; omega) _⟩
    | false =>
      have HX := Lib.hid hx; have HY := Lib.hid hy
      clear hx hy
      gi_wp2_with fail
      refine ⟨trivial, ?_⟩
      gi_at_call 103
      refine (CallsIn.inRound lp (callsIn_wide.2 (among1 A1 c1 _ _ ns x.2 W HW1.out hn1 false HX.out rfl))).mono ?_
      rintro e w' ⟨rfl, rfl⟩
      gi_wp2_with fail
      refine ⟨trivial, ?_⟩
      gi_at_call 103
      refine (CallsIn.inRound lp (callsIn_wide.2 (among1 A2 c2 _ _ ws x.2 W HW2.out hn2 false HY.out rfl))).mono ?_
      rintro e w' ⟨rfl, rfl⟩
      gi_wp2
      exact ⟨KeepsFrom.refl _ _, Kp.r _, b0, b1, b2, hB, hsz, fun p hp => by
        rcases List.mem_append.1 hp with e | e
        · exact hps p e
        · rw [List.mem_singleton.1 e]; exact ⟨HX.out, HY.out⟩⟩
  case done =>
    rintro D ys W hD rfl ⟨b0, b1, b2, hB, hsz, hps⟩ hK
    have k2 := b2.cell
    have f2 := b2.frozen
    have HI := Lib.hid (idx_none hps)
    gi_wp2
    refine ⟨by simp, .inl ⟨_, _, rfl, run_takeDeferred (show (W.setCell ⟨w.heap.size + 1 + 1, 0, none⟩ _).heap[D]? = _ from (Below.heap_setCell W ⟨w.heap.size + 1 + 1, 0, none⟩ _ D (by have := hD; simp at this; show D ≠ w.heap.size + 1 + 1; omega)).trans hK), ?_⟩⟩
    have hK' : (W.setCell ⟨w.heap.size + 1 + 1, 0, none⟩ (.int .i64 (-1))).heap[D]? = some (.deferred (some [])) := (Below.heap_setCell W ⟨w.heap.size + 1 + 1, 0, none⟩ _ D (by have := hD; simp at this; show D ≠ w.heap.size + 1 + 1; omega)).trans hK
    have q2 := cell_kept (b2.set (.int .i64 (-1))).cell (grownBy_putObj' _ D (.deferred none)) (fun r e => by cases e; exact ⟨_, hK', rfl⟩)
    refine ⟨.int .i64 (-1), ?_, by rw [HI.out], (hB.setCell (p := ⟨w.heap.size + 1 + 1, 0, none⟩) (by show w.heap.size ≤ w.heap.size + 1 + 1; omega) _).trans (belowK_b (w := w) (Nat.le_refl _) _ D _ _ (by have := hD; simp at this; omega) hK' rfl rfl)⟩
    simp [results, Tryz.f100, go_sem, q2]
  case stop =>
    rintro D c pre W hD hpre ⟨rfl, q, x, rfl, hq, hx, b2, hB⟩ hK
    obtain ⟨t, ht⟩ := hpre
    have HI := Lib.hid (idx_stop (o := l) (t := t) (by rw [← ht, List.append_assoc]; rfl) hq hx)
    gi_wp2
    refine ⟨by simp, .inl ⟨_, _, rfl, run_takeDeferred hK, ?_⟩⟩
    have q2 := cell_kept b2.cell (grownBy_putObj' _ D (.deferred none)) (fun r e => by cases e; exact ⟨_, hK, rfl⟩)
    refine ⟨.int .i64 (if isIn x.2 ns = true then (x.1 : Int) else -1), ?_, by rw [HI.out], hB.trans (belowK_b (w := w) (Nat.le_refl _) W D _ _ (by have := hD; simp at this; omega) hK rfl rfl)⟩
    simp [results, Tryz.f100, go_sem, q2]

end Go.Proofs.YteafldginkpgoaaGreat.Bu

namespace Go.Proofs.YteafldginkpgoaaGreat.Bu
set_option maxRecDepth 100000
set_option linter.unusedVariables false
set_option linter.unusedSimpArgs false
open Go.RowKit Ba Fm Fo Nm Bm
theorem closes_len (n : ByteArray) : (closesL n).length ≤ 1000 := by
  have : ∀ q : List ByteArray, closesL n = q → q.length ≤ 1000 := fun q h => by
    unfold closesL at h
    subst h
    repeat' split
    all_goals decide
  exact this _ rfl
theorem walls_len (n : ByteArray) : (wallsL n).length ≤ 1000 := by
  have : ∀ q : List ByteArray, wallsL n = q → q.length ≤ 1000 := fun q h => by
    unfold wallsL at h
    subst h
    repeat' split
    all_goals decide
  exact this _ rfl
theorem idx_take {ns ws o : List ByteArray} : (idx ns ws o = -1 ∧ findS ns ws o.reverse = none) ∨ (∃ k : Nat, idx ns ws o = k ∧ k < o.length ∧ findS ns ws o.reverse = some (o.take k).reverse) := by
  unfold idx
  cases h : findS ns ws o.reverse with
  | none => exact .inl ⟨rfl, rfl⟩
  | some r =>
    obtain ⟨e, hl⟩ := found_take h
    exact .inr ⟨r.length, rfl, hl, by rw [← e]⟩

theorem find1 (V V1 V2 : Value) (M : Nat) (l ns ws : List ByteArray) (w : World) (hm : l.length ≤ 1000000) (A : Option Addr) (c : Nat) (hV : V = .slice A l.length c) (hr : Rd w w.heap.size A l) (h1 : Sv w w.heap.size V1 ns) (h2 : Sv w w.heap.size V2 ws) (hn1 : ns.length ≤ 1000) (hn2 : ws.length ≤ 1000) (i : Int) (hi : idx ns ws l = i) :
    Calls Tryz.prog 100 #[V, V1, V2] w fun e w' => e = .returned (.int .i64 i) ∧ Below w.heap.size w w' := by
  obtain ⟨A1, c1, rfl, _, _, hr1⟩ := h1
  obtain ⟨A2, c2, rfl, _, _, hr2⟩ := h2
  subst hV; subst hi
  exact find_any A A1 A2 c c1 c2 l ns ws w hm hr hr1 hr2 hn1 hn2

set_option maxRecDepth 100000 in
set_option maxHeartbeats 1000000 in
theorem closed_any (A : Option Addr) (c : Nat) (l : List ByteArray) (n : ByteArray) (w : World) (hm : l.length ≤ 1000000) (hc : l.length ≤ c) (hr : Rd w w.heap.size A l) :
    Calls Tryz.prog 92 #[.slice A l.length c, .string n] w fun e w' => ∃ k : Nat, e = .returned (.slice A k c) ∧ k ≤ l.length ∧ (l.take k).reverse = closedS (closesL n) (wallsL n) l.reverse ∧ Below w.heap.size w w' := by
  have hL1 := closes_len n
  have hL2 := walls_len n
  go_enter Tryz.func92, Tryz.ntmps92
  go_wp2_with fail
  refine (Na.closes_any n w).mono ?_
  rintro e w1 ⟨V1, rfl, s1, b1⟩
  go_wp2_with fail
  refine (Na.walls_any n w1).mono ?_
  rintro e w2 ⟨V2, rfl, s2, b2⟩
  have v1 : Sv w2 w2.heap.size V1 (closesL n) := sv_own (s1.below b2 (Nat.le_refl _))
  have v2 : Sv w2 w2.heap.size V2 (wallsL n) := sv_own s2
  have B2 := bt b1 b2
  have hr2 : Rd w2 w2.heap.size A l := (hr.below B2 (Nat.le_refl _)).more B2.size
  have HV1 := Lib.hid v1; have HV2 := Lib.hid v2; have HB2 := Lib.hid B2; have HR2 := Lib.hid hr2
  clear v1 v2 s1 s2 b1 b2 B2 hr hr2
  obtain ⟨i, hi⟩ : ∃ i, idx (closesL n) (wallsL n) l = i := ⟨_, rfl⟩
  go_wp2_with fail
  refine (find1 _ V1 V2 0 l (closesL n) (wallsL n) w2 hm A c rfl HR2.out HV1.out HV2.out hL1 hL2 i hi).mono ?_
  rintro e w3 ⟨rfl, b3⟩
  have HI := Lib.hid hi
  have HB3 := Lib.hid b3
  clear hi b3
  go_wp2
  go_loopw [0, 7] (fun v x wr => ∃ (k : Nat) (j : Int), v = .slice A k c ∧ x = .int .i64 j ∧ k ≤ l.length ∧ idx (closesL n) (wallsL n) (l.take k) = j ∧ closedS (closesL n) (wallsL n) (l.take k).reverse = closedS (closesL n) (wallsL n) l.reverse ∧ Below w2.heap.size w2 wr) (fun v _ _ => lenOf v)
  case atStart => exact ⟨l.length, i, rfl, rfl, Nat.le_refl _, by rw [List.take_length]; exact HI.out, by rw [List.take_length], HB3.out⟩
  case round =>
    obtain ⟨k, j, rfl, rfl, hk, hj, hcl, hb⟩ := hrel
    rcases idx_take (ns := closesL n) (ws := wallsL n) (o := l.take k) with ⟨e1, e2⟩ | ⟨m, e1, hmk, e2⟩
    · rw [hj] at e1
      subst e1
      rw [closedS_no e2] at hcl
      have HC := Lib.hid hcl; have HB := Lib.hid hb
      clear hcl hb hj e2
      go_wp2
      go_ret
      exact ⟨k, rfl, hk, HC.out, bt HB2.out HB.out⟩
    · rw [hj] at e1
      subst e1
      have hlk : (l.take k).length = k := by rw [List.length_take]; omega
      rw [hlk] at hmk
      have et : (l.take k).take m = l.take m := by rw [List.take_take, Nat.min_eq_left (by omega)]
      rw [closedS_yes e2, et] at hcl
      have hge : decide ((0 : Int) ≤ (m : Int)) = true := decide_eq_true (by omega)
      have hr3 : Rd wr wr.heap.size A (l.take m) := ((HR2.out.below hb (Nat.le_refl _)).more hb.size).take m
      have v1 := (HV1.out.below hb (Nat.le_refl _)).more hb.size
      have v2 := (HV2.out.below hb (Nat.le_refl _)).more hb.size
      have hml : (l.take m).length = m := by rw [List.length_take]; omega
      obtain ⟨i2, hi2⟩ : ∃ i, idx (closesL n) (wallsL n) (l.take m) = i := ⟨_, rfl⟩
      have HC := Lib.hid hcl; have HB := Lib.hid hb; have HV1' := Lib.hid v1; have HV2' := Lib.hid v2; have HR3 := Lib.hid hr3; have HML := Lib.hid hml; have HI2 := Lib.hid hi2
      clear hcl hb hj e2 v1 v2 hr3 hml hi2 et hlk
      have hm0 : (0 : Int) ≤ (m : Int) := by omega
      have hmc : (m : Int) ≤ (c : Int) := by omega
      go_wp2_with fail
      refine (find1 _ V1 V2 0 (l.take m) (closesL n) (wallsL n) wr (by rw [HML.out]; omega) A c (by rw [HML.out]) HR3.out HV1'.out HV2'.out hL1 hL2 i2 HI2.out).mono ?_
      rintro e w4 ⟨rfl, b4⟩
      have HB4 := Lib.hid b4
      clear b4
      go_wp2
      go_roundw
      case rel => exact ⟨m, i2, rfl, rfl, by omega, HI2.out, HC.out, bt HB.out HB4.out⟩
      case measure => simp [lenOf]; omega

theorem closed1 (V : Value) (l : List ByteArray) (n : ByteArray) (w : World) (hm : l.length ≤ 1000000) (A : Option Addr) (c : Nat) (hV : V = .slice A l.length c) (hc : l.length ≤ c) (hr : Rd w w.heap.size A l) :
    Calls Tryz.prog 92 #[V, .string n] w fun e w' => ∃ k : Nat, e = .returned (.slice A k c) ∧ k ≤ l.length ∧ (l.take k).reverse = closedS (closesL n) (wallsL n) l.reverse ∧ Below w.heap.size w w' := by
  subst hV
  exact closed_any A c l n w hm hc hr

/-- Is it one of the three that close a paragraph besides? -/
theorem para_true {n : ByteArray} (h : para n = true) : (n.toList == [108, 105]) = true ∨ ((n.toList == [108, 105]) = false ∧ (n.toList == [100, 100]) = true) ∨ ((n.toList == [108, 105]) = false ∧ (n.toList == [100, 100]) = false ∧ (n.toList == [100, 116]) = true) := by
  unfold para at h
  rw [Bool.or_eq_true, Bool.or_eq_true, decide_eq_true_iff, decide_eq_true_iff, decide_eq_true_iff] at h
  have e1 : n_li.toList = [108, 105] := by rw [toList_L]
  have e2 : n_dd.toList = [100, 100] := by rw [toList_L]
  have e3 : n_dt.toList = [100, 116] := by rw [toList_L]
  rcases h with (rfl | rfl) | rfl
  · exact .inl (by rw [e1]; rfl)
  · exact .inr (.inl ⟨by rw [e2]; rfl, by rw [e2]; rfl⟩)
  · exact .inr (.inr ⟨by rw [e3]; rfl, by rw [e3]; rfl, by rw [e3]; rfl⟩)
theorem para_false {n : ByteArray} (h : para n = false) : (n.toList == [108, 105]) = false ∧ (n.toList == [100, 100]) = false ∧ (n.toList == [100, 116]) = false := by
  unfold para at h
  rw [Bool.or_eq_false_iff, Bool.or_eq_false_iff, decide_eq_false_iff_not, decide_eq_false_iff_not, decide_eq_false_iff_not] at h
  have e1 : n_li.toList = [108, 105] := by rw [toList_L]
  have e2 : n_dd.toList = [100, 100] := by rw [toList_L]
  have e3 : n_dt.toList = [100, 116] := by rw [toList_L]
  rw [← e1, ← e2, ← e3, eq_of_toList, eq_of_toList, eq_of_toList]
  exact ⟨decide_eq_false h.1.1, decide_eq_false h.1.2, decide_eq_false h.2⟩
theorem opened_yes {n : ByteArray} (h : para n = true) (s : List ByteArray) : openedS n s = closedS (closesL n_p) (wallsL n_p) (closedS (closesL n) (wallsL n) s) := by
  unfold openedS
  rw [if_pos h]
  rfl
theorem opened_no {n : ByteArray} (h : para n = false) (s : List ByteArray) : openedS n s = closedS (closesL n) (wallsL n) s := by
  unfold openedS
  rw [if_neg (by rw [h]; simp)]

set_option maxRecDepth 100000 in
set_option maxHeartbeats 1000000 in
theorem leftOpen_yes (A : Option Addr) (c : Nat) (l : List ByteArray) (n : ByteArray) (w : World) (hm : l.length ≤ 1000000) (hc : l.length ≤ c) (hr : Rd w w.heap.size A l) (hp : para n = true) :
    Calls Tryz.prog 75 #[.slice A l.length c, .string n] w fun e w' => ∃ k : Nat, e = .returned (.slice A k c) ∧ k ≤ l.length ∧ (l.take k).reverse = openedS n l.reverse ∧ Below w.heap.size w w' := by
  have HR := Lib.hid hr; have HO := Lib.hid (opened_yes hp l.reverse)
  have hq := para_true hp
  clear hr hp
  rcases hq with q1 | ⟨q1, q2⟩ | ⟨q1, q2, q3⟩
  · have HH := HO
    clear HH
    go_enter Tryz.func75, Tryz.ntmps75
    go_wp2_with fail
    refine (closed_any A c l n w hm hc HR.out).mono ?_
    rintro e w1 ⟨k, rfl, hk, hcl, b1⟩
    have hkl : (l.take k).length = k := by rw [List.length_take]; omega
    have hr1 : Rd w1 w1.heap.size A (l.take k) := ((HR.out.below b1 (Nat.le_refl _)).more b1.size).take k
    have HC := Lib.hid hcl; have HB := Lib.hid b1; have HKL := Lib.hid hkl; have HR1 := Lib.hid hr1
    clear hcl b1 hkl hr1
    go_wp2_with fail
    refine (closed1 _ (l.take k) n_p w1 (by rw [HKL.out]; omega) A c (by rw [HKL.out]) (by rw [HKL.out]; omega) HR1.out).mono ?_
    rintro e w2 ⟨k2, rfl, hk2, hcl2, b2⟩
    rw [HKL.out] at hk2
    have et : (l.take k).take k2 = l.take k2 := by rw [List.take_take, Nat.min_eq_left hk2]
    rw [et, HC.out] at hcl2
    have HC2 := Lib.hid hcl2
    have HB2 := Lib.hid (bt HB.out b2)
    clear hcl2 et b2
    go_wp2
    go_ret
    exact ⟨k2, rfl, Nat.le_trans hk2 hk, by rw [HC2.out, HO.out], HB2.out⟩
  · have HH := HO
    clear HH
    go_enter Tryz.func75, Tryz.ntmps75
    go_wp2_with fail
    refine (closed_any A c l n w hm hc HR.out).mono ?_
    rintro e w1 ⟨k, rfl, hk, hcl, b1⟩
    have hkl : (l.take k).length = k := by rw [List.length_take]; omega
    have hr1 : Rd w1 w1.heap.size A (l.take k) := ((HR.out.below b1 (Nat.le_refl _)).more b1.size).take k
    have HC := Lib.hid hcl; have HB := Lib.hid b1; have HKL := Lib.hid hkl; have HR1 := Lib.hid hr1
    clear hcl b1 hkl hr1
    go_wp2_with fail
    refine (closed1 _ (l.take k) n_p w1 (by rw [HKL.out]; omega) A c (by rw [HKL.out]) (by rw [HKL.out]; omega) HR1.out).mono ?_
    rintro e w2 ⟨k2, rfl, hk2, hcl2, b2⟩
    rw [HKL.out] at hk2
    have et : (l.take k).take k2 = l.take k2 := by rw [List.take_take, Nat.min_eq_left hk2]
    rw [et, HC.out] at hcl2
    have HC2 := Lib.hid hcl2
    have HB2 := Lib.hid (bt HB.out b2)
    clear hcl2 et b2
    go_wp2
    go_ret
    exact ⟨k2, rfl, Nat.le_trans hk2 hk, by rw [HC2.out, HO.out], HB2.out⟩
  · have HH := HO
    clear HH
    go_enter Tryz.func75, Tryz.ntmps75
    go_wp2_with fail
    refine (closed_any A c l n w hm hc HR.out).mono ?_
    rintro e w1 ⟨k, rfl, hk, hcl, b1⟩
    have hkl : (l.take k).length = k := by rw [List.length_take]; omega
    have hr1 : Rd w1 w1.heap.size A (l.take k) := ((HR.out.below b1 (Nat.le_refl _)).more b1.size).take k
    have HC := Lib.hid hcl; have HB := Lib.hid b1; have HKL := Lib.hid hkl; have HR1 := Lib.hid hr1
    clear hcl b1 hkl hr1
    go_wp2_with fail
    refine (closed1 _ (l.take k) n_p w1 (by rw [HKL.out]; omega) A c (by rw [HKL.out]) (by rw [HKL.out]; omega) HR1.out).mono ?_
    rintro e w2 ⟨k2, rfl, hk2, hcl2, b2⟩
    rw [HKL.out] at hk2
    have et : (l.take k).take k2 = l.take k2 := by rw [List.take_take, Nat.min_eq_left hk2]
    rw [et, HC.out] at hcl2
    have HC2 := Lib.hid hcl2
    have HB2 := Lib.hid (bt HB.out b2)
    clear hcl2 et b2
    go_wp2
    go_ret
    exact ⟨k2, rfl, Nat.le_trans hk2 hk, by rw [HC2.out, HO.out], HB2.out⟩
set_option maxRecDepth 100000 in
set_option maxHeartbeats 1000000 in
theorem leftOpen_no (A : Option Addr) (c : Nat) (l : List ByteArray) (n : ByteArray) (w : World) (hm : l.length ≤ 1000000) (hc : l.length ≤ c) (hr : Rd w w.heap.size A l) (hp : para n = false) :
    Calls Tryz.prog 75 #[.slice A l.length c, .string n] w fun e w' => ∃ k : Nat, e = .returned (.slice A k c) ∧ k ≤ l.length ∧ (l.take k).reverse = openedS n l.reverse ∧ Below w.heap.size w w' := by
  have HO := Lib.hid (opened_no hp l.reverse)
  obtain ⟨q1, q2, q3⟩ := para_false hp
  clear hp
  go_enter Tryz.func75, Tryz.ntmps75
  go_wp2_with fail
  refine (closed_any A c l n w hm hc hr).mono ?_
  rintro e w1 ⟨k, rfl, hk, hcl, b1⟩
  have HC := Lib.hid hcl; have HB := Lib.hid b1
  clear hcl b1 hr
  go_wp2
  go_ret
  exact ⟨k, rfl, hk, by rw [HC.out, HO.out], HB.out⟩
theorem leftOpen_any (A : Option Addr) (c : Nat) (l : List ByteArray) (n : ByteArray) (w : World) (hm : l.length ≤ 1000000) (hc : l.length ≤ c) (hr : Rd w w.heap.size A l) :
    Calls Tryz.prog 75 #[.slice A l.length c, .string n] w fun e w' => ∃ k : Nat, e = .returned (.slice A k c) ∧ k ≤ l.length ∧ (l.take k).reverse = openedS n l.reverse ∧ Below w.heap.size w w' := by
  cases hp : para n with
  | true => exact leftOpen_yes A c l n w hm hc hr hp
  | false => exact leftOpen_no A c l n w hm hc hr hp

theorem nested_any (n : ByteArray) (V : Value) (l : List ByteArray) (w : World) (hm : l.length ≤ 1000000) (h : Sv w w.heap.size V l) (q : Bool) (hq : nestedB n l = q) :
    Calls Tryz.prog 48 #[.string n, V] w fun e w' => e = .returned (.bool q) ∧ Below w.heap.size w w' := by
  obtain ⟨A, c, rfl, hc, _, hr⟩ := h
  go_enter Tryz.func48, Tryz.ntmps48
  go_wp2_with fail
  refine (leftOpen_any A c l n w hm hc hr).mono ?_
  rintro e w1 ⟨k, rfl, hk, ho, b1⟩
  have hkl : (l.take k).length = k := by rw [List.length_take]; omega
  have he : ((k : Int) == (l.length : Int)) = q := by
    rw [← hq, nestedB, ← ho, List.length_reverse, hkl, Bool.eq_iff_iff, beq_iff_eq, decide_eq_true_iff]
    omega
  have HB := Lib.hid b1
  clear b1 ho hq hkl
  go_wp2
  go_ret
  exact ⟨rfl, HB.out⟩

end Go.Proofs.YteafldginkpgoaaGreat.Bu

namespace Go.Proofs.YteafldginkpgoaaGreat.Re
set_option linter.unusedSimpArgs false
set_option linter.unusedVariables false
open Go.RowKit Ba Rm
end Go.Proofs.YteafldginkpgoaaGreat.Re

namespace Go.Proofs.YteafldginkpgoaaGreat.Wr
set_option linter.unusedSimpArgs false
set_option linter.unusedVariables false
open Go.RowKit Ba Fm Fo Nm Wm
open Ro (At Ro Cw ros rowO rowV below_new range2 range5 cells)
open To (Kb bulk_at)
open Tm (bulkA)
open Rm (dec esc)
theorem rb_below {w w' : World} {g : Nat} {x : Cw} (h : Rb w g x) (hb : Below w.heap.size w w') : Rb w' g x := (hb.block g h.lt).trans h
theorem L_append (a b : ByteArray) : L (a ++ b) = L a ++ L b := by unfold L; rw [ByteArray.data_append, Array.toList_append]
theorem B_of {a : ByteArray} {l : List UInt8} (h : L a = l) : a = B l := by rw [← h, B_L]

end Go.Proofs.YteafldginkpgoaaGreat.Wr

namespace Go.Proofs.YteafldginkpgoaaGreat.Wr
set_option maxRecDepth 100000
set_option linter.unusedSimpArgs false
set_option linter.unusedVariables false
open Go.RowKit Ba Fm Fo Nm Wm
open Ro (At Ro Cw ros rowO rowV below_new range2 range5 cells)
open Tm (pre)
open To (Bx)
open Bm (nestedB)
theorem all_step (l : List At) (k : Nat) (h : k < l.length) : (l.drop k).all attB = (attB l[k] && (l.drop (k + 1)).all attB) := by
  rw [List.drop_eq_getElem_cons h, List.all_cons]
theorem bxb {w w' : World} {g : Nat} {x y : ByteArray} (h : Bx w g x y) (hb : Below w.heap.size w w') : Bx w' g x y := Bx.below h hb
set_option maxRecDepth 100000 in
set_option maxHeartbeats 2000000 in
theorem legalAttrs1 (A : Option Addr) (c : Nat) (l : List At) (N : Nat) (w : World) (hr : Ro.Ra w N A l) (hN : N ≤ w.heap.size) (hl : l.length ≤ 10000000) (hz : ∀ a ∈ l, a.name.size ≤ 10000000 ∧ a.value.size ≤ 10000000) (q : Bool) (hq : l.all attB = q) :
    Calls Tryz.prog 42 #[.slice A l.length c] w fun e w' => e = .returned (.bool q) ∧ Below w.heap.size w w' := by
  have HR := Lib.hid hr; have HQ := Lib.hid hq; have HZ := Lib.hid hz
  clear hr hq hz
  go_enter Tryz.func42, Tryz.ntmps42
  go_wp2
  go_loopw [7] (fun i wr => ∃ k : Nat, i = .int .i64 k ∧ k ≤ l.length ∧ (l.drop k).all attB = q ∧ Below w.heap.size w wr) (fun i _ => l.length - (intOf i).toNat)
  case atStart => exact ⟨0, rfl, Nat.zero_le _, by rw [List.drop_zero]; exact HQ.out, Below.refl _ _⟩
  case round =>
    obtain ⟨k, rfl, hk, hn, hb⟩ := hrel
    by_cases hp : k < l.length
    · obtain ⟨b0, off0, y, hA, hb0, hdy, hry, hym⟩ := Ro.Ra.at_ (Ro.Ra.below (Ro.Ra.more HR.out hN) hb) k hp
      have hst := all_step l k hp
      have hy : l[k] = y := by
        rw [List.drop_eq_getElem_cons hp] at hdy
        injection hdy
      rw [hn, hy] at hst
      obtain ⟨z1, z2⟩ := HZ.out y (by rw [← hy]; exact List.getElem_mem _)
      have z3 : y.name.size ≤ 140737488355328 := by omega
      have z4 : y.value.size ≤ 140737488355328 := by omega
      obtain ⟨a, ha⟩ : ∃ a, attrB y.name = a := ⟨_, rfl⟩
      obtain ⟨d, hd⟩ : ∃ d, cleanB (L y.name) = d := ⟨_, rfl⟩
      obtain ⟨e0, he0⟩ : ∃ e0, cleanB (L y.value) = e0 := ⟨_, rfl⟩
      unfold attB at hst
      rw [ha, hd, he0] at hst
      obtain ⟨f0, f1⟩ := range2 hry
      have hbx := Bx.new wr y.name y.value
      have c0 := hbx.c0
      have c1 := hbx.c1
      have HBX := Lib.hid hbx; have HST := Lib.hid hst; have HA := Lib.hid ha; have HD := Lib.hid hd; have HE := Lib.hid he0; have HB := Lib.hid (bt hb (below_new wr (.cells #[.string y.name, .string y.value] 33)))
      subst hA
      clear hbx hst ha hd he0 hb hdy hry hym hy hn
      go_wp2_with fail
      refine (Na.attr_any y.name _ z3).mono ?_
      rw [HA.out]
      rintro e w1 ⟨rfl, rfl⟩
      cases a with
      | false =>
        go_wp2
        go_ret
        exact ⟨ret_bool (by rw [HST.out]; rfl), HB.out⟩
      | true =>
        go_wp2_with fail
        refine (clean1 y.name _ z3 d HD.out).mono ?_
        rintro e w2 ⟨rfl, hb2⟩
        have hbx2 := bxb HBX.out hb2
        have c2 := hbx2.c1
        have HB2 := Lib.hid (bt HB.out hb2)
        clear hb2 hbx2 c0 c1
        cases d with
        | false =>
          go_wp2
          go_ret
          exact ⟨ret_bool (by rw [HST.out]; rfl), HB2.out⟩
        | true =>
          go_wp2_with fail
          refine (clean1 y.value w2 z4 e0 HE.out).mono ?_
          rintro e w3 ⟨rfl, hb3⟩
          have HB3 := Lib.hid (bt HB2.out hb3)
          clear hb3 c2
          cases e0 with
          | false =>
            go_wp2
            go_ret
            exact ⟨ret_bool (by rw [HST.out]; rfl), HB3.out⟩
          | true =>
            go_wp2
            go_roundw
            case rel => exact ⟨k + 1, by go_num, by omega, by rw [HST.out]; rfl, HB3.out⟩
            case measure => simp [intOf]; omega
    · rw [List.drop_of_length_le (by omega), List.all_nil] at hn
      subst hn
      have HB := Lib.hid hb
      clear hb
      go_wp2
      go_ret
      exact ⟨rfl, HB.out⟩

theorem att_sizes {x : Ro} (h : rb x ≤ 10000000) : x.attrs.length ≤ 10000000 ∧ ∀ a ∈ x.attrs, a.name.size ≤ 10000000 ∧ a.value.size ≤ 10000000 := by
  unfold rb at h
  refine ⟨by omega, fun a ha => ?_⟩
  obtain ⟨k, hk, rfl⟩ := List.getElem_of_mem ha
  have := To.bulk_at x.attrs k hk
  omega
set_option maxRecDepth 100000 in
set_option maxHeartbeats 2000000 in
theorem legal1 (x : Cw) (N : Nat) (w : World) (hx : Ro.Att w N x) (hN : N ≤ w.heap.size) (hrb : rb x.ro ≤ 10000000) (q : Bool) (hq : rowB x.ro = q) :
    Calls Tryz.prog 14 #[rowV x] w fun e w' => e = .returned (.bool q) ∧ Below w.heap.size w w' := by
  obtain ⟨hal, haz⟩ := att_sizes hrb
  have hns : x.ro.name.size ≤ 140737488355328 := by unfold rb at hrb; omega
  have hds : x.ro.data.size ≤ 140737488355328 := by unfold rb at hrb; omega
  obtain ⟨W1, hW1⟩ : ∃ W1, w.alloc (rowO x) = W1 := ⟨_, rfl⟩
  have hrb1 : Rb W1 w.heap.size x := by rw [← hW1]; exact Rb.new w x
  have hb1 : Below w.heap.size w W1 := by rw [← hW1]; exact below_new w _
  obtain ⟨c0, c1, c2, c3, c4⟩ := hrb1.c
  have hr1 : Ro.Ra W1 W1.heap.size x.A x.ro.attrs := Ro.Ra.more (Ro.Ra.below (Ro.Ra.more hx.2.2.2.1 hN) hb1) hb1.size
  have HW1 := Lib.hid hW1; have HRB := Lib.hid hrb1; have HB1 := Lib.hid hb1; have HR1 := Lib.hid hr1; have HAZ := Lib.hid haz
  clear hW1 hrb1 hb1 hr1 haz hx
  by_cases h0 : x.ro.kind = 0
  · have g0 : (x.ro.kind == 0) = true := beq_iff_eq.2 h0
    obtain ⟨a, ha⟩ : ∃ a, nameB x.ro.name = a := ⟨_, rfl⟩
    obtain ⟨b, hb⟩ : ∃ b, x.ro.attrs.all attB = b := ⟨_, rfl⟩
    unfold rowB at hq
    rw [if_pos h0, ha, hb] at hq
    have HA := Lib.hid ha; have HB := Lib.hid hb; have HQ := Lib.hid hq
    clear ha hb hq h0
    go_enter Tryz.func14, Tryz.ntmps14
    go_upto_region 1 with (fail)
    rw [HW1.out]
    go_wp2_with fail
    refine (legalName1 x.ro.name W1 hns a HA.out).mono ?_
    rintro e w2 ⟨rfl, hb2⟩
    have hc4 := (rb_below HRB.out hb2).c.2.2.2.2
    have HB2 := Lib.hid (bt HB1.out hb2)
    have hr2 : Ro.Ra w2 w2.heap.size x.A x.ro.attrs := Ro.Ra.more (Ro.Ra.below HR1.out hb2) hb2.size
    have HR2 := Lib.hid hr2
    clear hb2 c0 c1 c2 c3 c4 hr2
    cases a with
    | false =>
      go_wp2
      go_ret
      exact ⟨ret_bool (by rw [← HQ.out]; rfl), HB2.out⟩
    | true =>
      go_wp2_with fail
      refine (legalAttrs1 x.A x.c x.ro.attrs w2.heap.size w2 HR2.out (Nat.le_refl _) hal HAZ.out b HB.out).mono ?_
      rintro e w3 ⟨rfl, hb3⟩
      have HB3 := Lib.hid (bt HB2.out hb3)
      clear hb3 hc4
      go_wp2
      go_ret
      exact ⟨ret_bool (by rw [← HQ.out]; cases b <;> rfl), HB3.out⟩
  have g0 : (x.ro.kind == 0) = false := beq_eq_false_iff_ne.2 h0
  obtain ⟨b, hb⟩ : ∃ b, cleanB (L x.ro.data) = b := ⟨_, rfl⟩
  by_cases h2 : x.ro.kind = 2
  · have g2 : (x.ro.kind == 2) = true := beq_iff_eq.2 h2
    obtain ⟨a, ha⟩ : ∃ a, noteB (L x.ro.data) = a := ⟨_, rfl⟩
    unfold rowB at hq
    rw [if_neg h0, if_pos h2, ha, hb] at hq
    have HA := Lib.hid ha; have HB := Lib.hid hb; have HQ := Lib.hid hq
    clear ha hb hq h0 h2
    go_enter Tryz.func14, Tryz.ntmps14
    go_upto_region 1 with (fail)
    rw [HW1.out]
    go_wp2_with fail
    refine (legalComment1 x.ro.data W1 hds a HA.out).mono ?_
    rintro e w2 ⟨rfl, rfl⟩
    cases a with
    | false =>
      go_wp2
      go_ret
      exact ⟨ret_bool (by rw [← HQ.out]; rfl), HB1.out⟩
    | true =>
      go_wp2_with fail
      refine (clean1 x.ro.data W1 hds b HB.out).mono ?_
      rintro e w3 ⟨rfl, hb3⟩
      have HB3 := Lib.hid (bt HB1.out hb3)
      clear hb3 c0 c1 c2 c3 c4
      go_wp2
      go_ret
      exact ⟨ret_bool (by rw [← HQ.out]; cases b <;> rfl), HB3.out⟩
  · have g2 : (x.ro.kind == 2) = false := beq_eq_false_iff_ne.2 h2
    unfold rowB at hq
    rw [if_neg h0, if_neg h2, hb] at hq
    have HB := Lib.hid hb; have HQ := Lib.hid hq
    clear hb hq h0 h2
    go_enter Tryz.func14, Tryz.ntmps14
    go_upto_region 1 with (fail)
    rw [HW1.out]
    go_wp2_with fail
    refine (clean1 x.ro.data W1 hds b HB.out).mono ?_
    rintro e w3 ⟨rfl, hb3⟩
    have HB3 := Lib.hid (bt HB1.out hb3)
    clear hb3 c0 c1 c2 c3 c4
    go_wp2
    go_ret
    exact ⟨ret_bool HQ.out, HB3.out⟩

theorem last_at {s : List ByteArray} (h : 0 < s.length) : lastN s = s[s.length - 1] := by
  unfold lastN
  rw [List.getLastD_eq_getLast?, List.getLast?_eq_getElem?, List.getElem?_eq_getElem (by omega)]; rfl
set_option maxRecDepth 100000 in
set_option maxHeartbeats 2000000 in
theorem legalWithin1 (x : Cw) (V : Value) (s : List ByteArray) (w : World) (hs : Sv w w.heap.size V s) (hl : s.length ≤ 1000000) (hrb : rb x.ro ≤ 10000000) (q : Bool) (hq : withB x.ro s = q) :
    Calls Tryz.prog 15 #[rowV x, V] w fun e w' => e = .returned (.bool q) ∧ Below w.heap.size w w' := by
  have hns : x.ro.name.size ≤ 140737488355328 := by unfold rb at hrb; omega
  have hds : x.ro.data.size ≤ 140737488355328 := by unfold rb at hrb; omega
  obtain ⟨A, c, rfl, hc, hm, hr⟩ := hs
  obtain ⟨W1, hW1⟩ : ∃ W1, w.alloc (rowO x) = W1 := ⟨_, rfl⟩
  have hrb1 : Rb W1 w.heap.size x := by rw [← hW1]; exact Rb.new w x
  have hb1 : Below w.heap.size w W1 := by rw [← hW1]; exact below_new w _
  obtain ⟨g, hg⟩ : ∃ g, w.heap.size = g := ⟨_, rfl⟩
  have hr1 : Rd W1 W1.heap.size A s := (hr.below hb1 (Nat.le_refl _)).more hb1.size
  rw [hg] at hrb1
  have HW1 := Lib.hid hW1; have HRB := Lib.hid hrb1; have HB1 := Lib.hid hb1; have HR1 := Lib.hid hr1; have HQ := Lib.hid hq; have HG := Lib.hid hg
  clear hW1 hrb1 hb1 hr1 hr hq hg
  go_enter Tryz.func15, Tryz.ntmps15
  go_upto_if 8 with (fail)
  rw [HW1.out, HG.out]
  go_cut [5] from 9 to 14 (fun s5 wx => s5 = .string (lastN s) ∧ wx = W1)
  case first =>
    by_cases h : 0 < s.length
    · obtain ⟨b, off, rfl, hb, hcc⟩ := HR1.out h
      have hcell := hcc (s.length - 1) (by omega)
      rw [← last_at h] at hcell
      have hcast : (s.length : Int) - 1 = ((s.length - 1 : Nat) : Int) := by omega
      have hlt : s.length - 1 < s.length := by omega
      have hd : decide (0 < s.length) = true := decide_eq_true h
      clear hcc
      go_wp2
      go_meet
      exact ⟨rfl, rfl⟩
    · obtain rfl : s = [] := List.eq_nil_of_length_eq_zero (by omega)
      go_wp2
      go_meet
      exact ⟨rfl, rfl⟩
  case rest =>
    obtain ⟨rfl, rfl⟩ := hcut
    obtain ⟨p, hp⟩ : ∃ p, lastN s = p := ⟨_, rfl⟩
    have hq := HQ.out
    unfold withB at hq
    rw [hp] at hq
    rw [hp]
    obtain ⟨v, hv⟩ : ∃ v, isIn p voidL = v := ⟨_, rfl⟩
    obtain ⟨r, hr⟩ : ∃ r, isIn p rawL = r := ⟨_, rfl⟩
    obtain ⟨t, ht⟩ : ∃ t, isIn p softL = t := ⟨_, rfl⟩
    rw [hv, hr, ht] at hq
    have HV := Lib.hid hv; have HR := Lib.hid hr; have HT := Lib.hid ht; have HQ2 := Lib.hid hq
    clear hp hv hr ht hq HQ
    go_wp2_with fail
    refine (Na.void_any p wc).mono ?_
    rw [HV.out]
    rintro e w2 ⟨rfl, hb2⟩
    have HB2 := Lib.hid hb2
    clear hb2
    cases v with
    | true =>
      go_wp2
      go_ret
      exact ⟨ret_bool (by rw [← HQ2.out]; rfl), bt HB1.out HB2.out⟩
    | false =>
    go_wp2_with fail
    refine (Na.raw_any p w2).mono ?_
    rw [HR.out]
    rintro e w3 ⟨rfl, hb3⟩
    have HB3 := Lib.hid (bt HB2.out hb3)
    clear hb3
    have hrb3 := rb_below HRB.out HB3.out
    obtain ⟨c0, c1, c2, c3, c4⟩ := hrb3.c
    have HRB3 := Lib.hid hrb3
    clear hrb3
    cases r with
    | true =>
      have hq2 := HQ2.out
      rw [if_neg (by simp), if_pos rfl] at hq2
      cases hk : x.ro.kind == 1 with
      | false =>
        rw [hk] at hq2
        have HQ3 := Lib.hid hq2
        clear hq2
        go_wp2
        go_ret
        exact ⟨ret_bool (by rw [← HQ3.out]; rfl), bt HB1.out HB3.out⟩
      | true =>
        obtain ⟨a, ha⟩ : ∃ a, plainB (L x.ro.data) = a := ⟨_, rfl⟩
        rw [hk, ha] at hq2
        have HQ3 := Lib.hid hq2; have HA := Lib.hid ha
        clear hq2 ha
        go_wp2_with fail
        refine (legalRaw1 x.ro.data w3 hds a HA.out).mono ?_
        rintro e w4 ⟨rfl, rfl⟩
        go_wp2
        go_ret
        exact ⟨ret_bool (by rw [← HQ3.out]; rfl), bt HB1.out HB3.out⟩
    | false =>
    go_wp2_with fail
    refine (Na.soft_any p w3).mono ?_
    rw [HT.out]
    rintro e w4 ⟨rfl, hb4⟩
    have HB4 := Lib.hid (bt HB3.out hb4)
    have hrb4 := rb_below HRB3.out hb4
    clear hb4 c0 c1 c2 c3 c4
    obtain ⟨c0, c1, c2, c3, c4⟩ := hrb4.c
    have HRB4 := Lib.hid hrb4
    clear hrb4
    cases t with
    | true =>
      have hq2 := HQ2.out
      rw [if_neg (by simp), if_neg (by simp), if_pos rfl] at hq2
      have HQ3 := Lib.hid hq2
      clear hq2
      go_wp2
      go_ret
      exact ⟨ret_bool HQ3.out, bt HB1.out HB4.out⟩
    | false =>
      have hq2 := HQ2.out
      rw [if_neg (by simp), if_neg (by simp), if_neg (by simp)] at hq2
      cases hk : x.ro.kind != 0 with
      | true =>
        rw [hk] at hq2
        have HQ3 := Lib.hid hq2
        clear hq2
        go_wp2
        go_ret
        exact ⟨ret_bool (by rw [← HQ3.out]; rfl), bt HB1.out HB4.out⟩
      | false =>
        obtain ⟨a, ha⟩ : ∃ a, nestedB x.ro.name s = a := ⟨_, rfl⟩
        rw [hk, ha] at hq2
        have HQ3 := Lib.hid hq2; have HA := Lib.hid ha
        clear hq2 ha
        go_wp2_with fail
        refine (Bu.nested_any x.ro.name (.slice A s.length c) s w4 hl ⟨A, c, rfl, hc, hm, (HR1.out.below HB4.out (Nat.le_refl _)).more HB4.out.size⟩ a HA.out).mono ?_
        rintro e w5 ⟨rfl, hb5⟩
        have HB5 := Lib.hid (bt HB4.out hb5)
        clear hb5 c0 c1 c2 c3 c4
        go_wp2
        go_ret
        exact ⟨ret_bool (by rw [← HQ3.out]; rfl), bt HB1.out HB5.out⟩

end Go.Proofs.YteafldginkpgoaaGreat.Wr

namespace Go.Proofs.YteafldginkpgoaaGreat.Bm
set_option linter.unusedVariables false
set_option linter.unusedSimpArgs false
open Ba Fm Nm
open Ro (At Ro)
open Tm (Tk put)
/-- No text is empty. -/
def full (l : List Ro) : Prop := ∀ x ∈ l, x.kind = 1 → x.data ≠ ⟨#[]⟩
theorem full_tail {x : Ro} {l : List Ro} (h : full (x :: l)) : full l := fun y hy => h y (List.mem_cons_of_mem _ hy)
theorem full_init {l m : List Ro} (h : full (l ++ m)) : full l := fun y hy => h y (List.mem_append_left _ hy)
/-- Is the last row a text, and how deep is it? -/
def ending (l : List Ro) : Option (Bool × Int) := l.getLast?.map fun x => (decide (x.kind = 1), x.depth)
theorem ending_snoc (l : List Ro) (y : Ro) : ending (l ++ [y]) = some (decide (y.kind = 1), y.depth) := by
  unfold ending
  rw [List.getLast?_append]
  rfl

theorem normal_other {x : Ro} (hk : ¬ x.kind = 1) (r : List Ro) : Ro.normal (x :: r) = x :: Ro.normal r := by rw [Ro.normal, if_neg hk]
theorem normal_text {x : Ro} (hk : x.kind = 1) (hx : x.data ≠ ⟨#[]⟩) (r : List Ro) :
    Ro.normal (x :: r) = ⟨x.depth, 1, ⟨#[]⟩, B (Ro.txt (x :: r.take (Ro.nexts x.depth r))), []⟩ :: Ro.normal (r.drop (Ro.nexts x.depth r)) := by
  rw [Ro.normal, if_pos hk, if_neg]
  · rfl
  · rw [Ro.txt, if_pos hk]
    intro e
    refine hx (L_inj ?_)
    exact (List.append_eq_nil_iff.1 e).1
theorem normal_ne {l : List Ro} (h : full l) (hl : l ≠ []) : Ro.normal l ≠ [] := by
  cases l with
  | nil => exact absurd rfl hl
  | cons x r =>
    by_cases hk : x.kind = 1
    · rw [normal_text hk (h x List.mem_cons_self hk)]
      exact List.cons_ne_nil _ _
    · rw [normal_other hk]
      exact List.cons_ne_nil _ _
theorem nexts_more {d : Int} {r : List Ro} {y : Ro} (h : Ro.nexts d r < r.length) : Ro.nexts d (r ++ [y]) = Ro.nexts d r := by
  unfold Ro.nexts at h ⊢
  rw [List.takeWhile_append, if_neg (by omega)]
theorem nexts_all {d : Int} {r : List Ro} {y : Ro} (h : Ro.nexts d r = r.length) : Ro.nexts d (r ++ [y]) = r.length + (if y.kind = 1 ∧ y.depth = d then 1 else 0) := by
  unfold Ro.nexts at h ⊢
  rw [List.takeWhile_append, if_pos h, List.length_append]
  congr 1
  by_cases hy : y.kind = 1 ∧ y.depth = d
  · rw [if_pos hy, List.takeWhile_cons_of_pos (by rw [hy.1, hy.2]; simp)]
    rfl
  · rw [if_neg hy, List.takeWhile_cons_of_neg (by
      intro e
      rw [Bool.and_eq_true, beq_iff_eq, beq_iff_eq] at e
      exact hy e)]
    rfl
theorem snoc_cases {α : Type} (l : List α) : l = [] ∨ ∃ m y, l = m ++ [y] := by
  rcases List.eq_nil_or_concat l with h | ⟨m, y, h⟩
  · exact .inl h
  · exact .inr ⟨m, y, by rw [h, List.concat_eq_append]⟩
theorem add_ne {a b : List Ro} (hb : b ≠ []) (d : Int) (t : ByteArray) : addText (a ++ b) d t = a ++ addText b d t := by
  obtain ⟨c, z, rfl⟩ : ∃ c z, b = c ++ [z] := (snoc_cases b).resolve_left hb
  unfold addText
  rw [← List.append_assoc, List.getLast?_append, List.getLast?_append, List.getLast?_append]
  show (if z.kind = 1 ∧ z.depth = d then _ else _) = a ++ (if z.kind = 1 ∧ z.depth = d then _ else _)
  rw [List.dropLast_concat, List.dropLast_concat]
  split <;> simp only [List.append_assoc]
theorem add_one {J : Ro} {d : Int} {t : ByteArray} : addText [J] d t = if J.kind = 1 ∧ J.depth = d then [⟨J.depth, J.kind, J.name, J.data ++ t, J.attrs⟩] else [J, ⟨d, 1, ⟨#[]⟩, t, []⟩] := rfl
theorem normal_one {y : Ro} (hk : y.kind = 1) (hy : y.data ≠ ⟨#[]⟩) : Ro.normal [y] = [⟨y.depth, 1, ⟨#[]⟩, y.data, []⟩] := by
  rw [normal_text hk hy]
  show ⟨y.depth, 1, ⟨#[]⟩, B (Ro.txt [y]), []⟩ :: Ro.normal ([] : List Ro) = _
  rw [Ro.txt_text hk, B_L, Ro.normal]
theorem normal_snoc (l : List Ro) (y : Ro) : full (l ++ [y]) → Ro.normal (l ++ [y]) = if y.kind = 1 then addText (Ro.normal l) y.depth y.data else Ro.normal l ++ [y] := by
  induction hn : l.length using Nat.strongRecOn generalizing l with
  | ind n ih =>
    subst hn
    intro hf
    have hy := hf y (List.mem_append_right _ (List.mem_singleton.2 rfl))
    cases l with
    | nil =>
      by_cases hk : y.kind = 1
      · rw [if_pos hk]
        show Ro.normal [y] = addText (Ro.normal []) _ _
        rw [normal_one hk (hy hk), Ro.normal]
        rfl
      · rw [if_neg hk]
        show Ro.normal [y] = Ro.normal [] ++ [y]
        rw [normal_other hk, Ro.normal]
        rfl
    | cons x r =>
      have hx := hf x List.mem_cons_self
      have hfr : full (r ++ [y]) := full_tail (show full (x :: (r ++ [y])) from hf)
      show Ro.normal (x :: (r ++ [y])) = _
      by_cases hkx : x.kind = 1
      · rw [normal_text hkx (hx hkx), normal_text hkx (hx hkx)]
        obtain ⟨m, hm⟩ : ∃ m, Ro.nexts x.depth r = m := ⟨_, rfl⟩
        have hle : m ≤ r.length := by rw [← hm]; exact (List.takeWhile_sublist _).length_le
        rw [hm]
        by_cases hlt : m < r.length
        · rw [nexts_more (by rw [hm]; exact hlt), hm, List.take_append_of_le_length hle, List.drop_append_of_le_length hle]
          have hd : r.drop m ≠ [] := fun e => by have := congrArg List.length e; rw [List.length_drop, List.length_nil] at this; omega
          have hfd : full (r.drop m ++ [y]) := fun z hz => by
            rcases List.mem_append.1 hz with e | e
            · exact hfr z (List.mem_append_left _ (List.mem_of_mem_drop e))
            · exact hfr z (List.mem_append_right _ e)
          rw [ih _ (by rw [List.length_drop, List.length_cons]; omega) _ rfl hfd]
          have hne := normal_ne (full_init hfd) hd
          split
          · exact (add_ne (a := [_]) hne _ _).symm
          · rfl
        · have hm2 : m = r.length := by omega
          rw [nexts_all (by rw [hm]; exact hm2), hm2, List.take_length, List.drop_length]
          have e0 : Ro.normal ([] : List Ro) = [] := by rw [Ro.normal]
          by_cases hyy : y.kind = 1 ∧ y.depth = x.depth
          · rw [if_pos hyy, if_pos hyy.1, e0, add_one, if_pos ⟨rfl, hyy.2.symm⟩]
            have e1 : r.length + 1 = (r ++ [y]).length := by rw [List.length_append]; rfl
            rw [e1, List.take_length, List.drop_length, e0]
            have e2 : Ro.txt (x :: (r ++ [y])) = Ro.txt (x :: r) ++ L y.data := by
              rw [← List.cons_append, Ro.txt_append, Ro.txt_text hyy.1]
            rw [e2, ← B_append, B_L]
          · rw [if_neg hyy, Nat.add_zero, List.take_append_of_le_length (Nat.le_refl _), List.take_length, List.drop_append_of_le_length (Nat.le_refl _), List.drop_length, e0]
            by_cases hk : y.kind = 1
            · rw [if_pos hk, add_one, if_neg (fun e => hyy ⟨hk, e.2.symm⟩), List.nil_append, normal_one hk (hy hk)]
            · rw [if_neg hk, List.nil_append, normal_other hk, e0]
              rfl
      · rw [normal_other hkx, normal_other hkx, ih _ (Nat.lt_succ_self _) _ rfl hfr]
        split
        · exact (add_behind (o0 := [x]) (o := Ro.normal r) (fun z hz => by injection hz with hz; rw [← hz]; exact hkx)).symm
        · rfl
theorem ending_add (o : List Ro) (d : Int) (t : ByteArray) : ending (addText o d t) = some (true, d) := by
  unfold addText
  cases hy : o.getLast? with
  | none => rw [ending_snoc]; rfl
  | some z =>
    show ending (if z.kind = 1 ∧ z.depth = d then _ else _) = _
    split
    · rename_i h
      rw [ending_snoc]
      show some (decide (z.kind = 1), z.depth) = _
      rw [decide_eq_true h.1, h.2]
    · rw [ending_snoc]; rfl
theorem ending_normal {l : List Ro} (h : full l) : ending (Ro.normal l) = ending l := by
  rcases snoc_cases l with rfl | ⟨m, y, rfl⟩
  · rw [Ro.normal]
  · rw [normal_snoc m y h, ending_snoc]
    split
    · rename_i hk; rw [ending_add, decide_eq_true hk]
    · rw [ending_snoc]
theorem len_add (o : List Ro) (d : Int) (t : ByteArray) : (addText o d t).length = o.length + (if ending o = some (true, d) then 0 else 1) := by
  unfold addText ending
  cases hy : o.getLast? with
  | none => show (o ++ [_]).length = _; rw [List.length_append]; rfl
  | some z =>
    show (if z.kind = 1 ∧ z.depth = d then _ else _ : List Ro).length = o.length + (if some (decide (z.kind = 1), z.depth) = some (true, d) then 0 else 1)
    have ho : o ≠ [] := fun e => by rw [e] at hy; cases hy
    have hl : 0 < o.length := List.length_pos_iff.2 ho
    by_cases hc : z.kind = 1 ∧ z.depth = d
    · rw [if_pos hc, if_pos (by rw [decide_eq_true hc.1, hc.2]), List.length_append, List.length_dropLast]
      show o.length - 1 + 1 = _
      omega
    · rw [if_neg hc, if_neg (fun e => by
        injection e with e
        injection e with e1 e2
        exact hc ⟨of_decide_eq_true e1, e2⟩), List.length_append]
      rfl
/-- Is a row a text that becomes one with the last row? -/
def meets (l : List Ro) (y : Ro) : Bool := decide (y.kind = 1) && decide (ending l = some (true, y.depth))
theorem len_normal {l : List Ro} {y : Ro} (h : full (l ++ [y])) : (Ro.normal (l ++ [y])).length = (Ro.normal l).length + (if meets l y = true then 0 else 1) := by
  rw [normal_snoc l y h]
  unfold meets
  by_cases hk : y.kind = 1
  · rw [if_pos hk, len_add, ending_normal (full_init h), decide_eq_true hk, Bool.true_and]
    congr 1
    by_cases he : ending l = some (true, y.depth)
    · rw [if_pos he, if_pos (decide_eq_true he)]
    · rw [if_neg he, if_neg (by rw [decide_eq_false he]; simp)]
  · rw [if_neg hk, decide_eq_false hk, List.length_append]
    rfl
end Go.Proofs.YteafldginkpgoaaGreat.Bm

namespace Go.Proofs.YteafldginkpgoaaGreat.Bu
set_option linter.unusedVariables false
set_option linter.unusedSimpArgs false
open Go.RowKit Ba Fm Fo Nm Bm
open Ro (At Ro Cw ros Fr Ow Att Ap Rr Sh acells len_acells cells len_cells rowV rowO info_row info_attr below_new acells_one flat_at flat_len row_cells_new cells_one range2 range5 len_ros ros_append)
section
variable {w w' : World} {b : Nat} {vo vr : Value} {n : Int} {big : Bool}
end

/-- A row of the call's own does not lie in a block of another type. -/
theorem own_ne {N b n size : Nat} {e t : TypeId} {w : World} {v : Value} {xs : List Value} (h : w.ownsRow N e size v n xs) {cs : Array Value} {fr : Nat × Nat} (hb : w.heap[b]? = some (.cells cs t fr)) (ht : t ≠ e) : v.ownBlock ≠ some b := by
  rcases h.2 with ⟨rfl, _⟩ | ⟨g, cap, cur, rfl, _, hh, _⟩
  · simp [Value.ownBlock]
  · intro e
    have e : g = b := by simpa [Value.ownBlock] using e
    subst e
    rw [hb] at hh
    injection hh with hh
    injection hh with _ h2
    exact ht h2
theorem own_apart {N N' n n' size size' : Nat} {e e' : TypeId} {w : World} {v v' : Value} {xs xs' : List Value} (h : w.ownsRow N e size v n xs) (h' : w.ownsRow N' e' size' v' n' xs') (ht : e' ≠ e) : v.ownBlock = none ∨ v.ownBlock ≠ v'.ownBlock := by
  rcases h'.2 with ⟨rfl, _⟩ | ⟨g, cap, cur, rfl, _, hh, _⟩
  · cases hv : v.ownBlock with
    | none => exact .inl rfl
    | some k => right; simp [Value.ownBlock]
  · exact .inr (own_ne h hh ht)

/-- Rows of the call's own, their attributes too. -/
def Or (N : Nat) (w : World) (v : Value) (l : List Cw) : Prop := w.ownsRow N 28 5 v l.length (l.flatMap cells) ∧ ∀ x ∈ l, Fr N w x
theorem Or.ow {N : Nat} {w : World} {v : Value} {l : List Cw} (h : Or N w v l) : Ow N w v l := ⟨h.1, fun x hx => ⟨(h.2 x hx).att, (h.2 x hx).ap⟩⟩
theorem Or.nil (N : Nat) (w : World) : Or N w (.slice none 0 0) [] := ⟨World.ownsRow_nil w N _ 5, fun _ h => by simp at h⟩
/-- They are kept where what grows is of another type. -/
theorem Or.kept {N b : Nat} {w w' : World} {v : Value} {l : List Cw} (h : Or N w v l) (hg : w.grownBy w' (some b)) {cs : Array Value} {t : TypeId} {fr : Nat × Nat} (hb : w.heap[b]? = some (.cells cs t fr)) (h1 : t ≠ 28) (h2 : t ≠ 33) : Or N w' v l :=
  ⟨World.ownsRow.kept h.1 hg (.inr (own_ne h.1 hb h1)), fun x hx => ⟨World.ownsRow.kept (h.2 x hx).1 hg (.inr (own_ne (h.2 x hx).1 hb h2)), (h.2 x hx).2⟩⟩
theorem Or.apart {N N' n size : Nat} {e : TypeId} {w w' : World} {v u : Value} {xs : List Value} {l : List Cw} (h : Or N w v l) (hu : w.ownsRow N' e size u n xs) (hg : w.grownBy w' u.ownBlock) (h1 : e ≠ 28) (h2 : e ≠ 33) : Or N w' v l :=
  ⟨World.ownsRow.kept h.1 hg (own_apart h.1 hu h1), fun x hx => ⟨World.ownsRow.kept (h.2 x hx).1 hg (own_apart (h.2 x hx).1 hu h2), (h.2 x hx).2⟩⟩
theorem Or.below {N : Nat} {w w' : World} {v : Value} {l : List Cw} (h : Or N w v l) (hb : Below w.heap.size w w') : Or N w' v l := ⟨(h.ow.below hb).1, fun x hx => (h.2 x hx).below hb⟩
theorem Or.form {N : Nat} {w : World} {v : Value} {l : List Cw} (h : Or N w v l) : ∃ A c, v = .slice A l.length c ∧ l.length ≤ c ∧ c ≤ maxLen ∧ (A = none → c = 0) ∧ Rr w w.heap.size A l := h.ow.form
/-- The first ones of them. -/
theorem Sown.cut {N : Nat} {w : World} {A : Option Addr} {k c : Nat} {l : List ByteArray} (h : Sown N w (.slice A l.length c) l) (hk : k ≤ l.length) : Sown N w (.slice A k c) (l.take k) := by
  have hl : (l.take k).length = k := by rw [List.length_take]; omega
  unfold Sown at h ⊢
  rw [hl]
  obtain ⟨h1, h2⟩ := h
  refine ⟨by rw [List.length_map, hl]; omega, ?_⟩
  rcases h2 with ⟨hv, h0⟩ | ⟨g, cap, cur, hv, hg, hh, hn, hm, hs, ht⟩
  · injection hv with e1 e2 e3
    subst e1; subst e3
    obtain rfl : k = 0 := by omega
    exact .inl ⟨rfl, rfl⟩
  · injection hv with e1 e2 e3
    subst e1; subst e3
    refine .inr ⟨g, c, cur, rfl, hg, hh, by omega, hm, hs, ?_⟩
    have := congrArg (List.take k) ht
    rw [List.take_take, ← List.map_take] at this
    rw [← this]
    congr 1
    omega

end Go.Proofs.YteafldginkpgoaaGreat.Bu

namespace Go.Proofs.YteafldginkpgoaaGreat.Wr
set_option maxRecDepth 100000
set_option linter.unusedSimpArgs false
set_option linter.unusedVariables false
open Go.RowKit Ba Fm Fo Nm Wm
open Ro (At Ro Cw ros rowO rowV below_new range2 range5 cells Rv)
open Tm (pre)
open To (Bx)
open Bm (nestedB)
theorem check_no {l : List Ro} (h : (!Ro.exceeds l 4096 60 && Ro.right l) = false) : ((Ro.check l) != 0) = true ∧ legalB l = false := by
  constructor
  · unfold Ro.check
    cases he : Ro.exceeds l 4096 60 with
    | true => rfl
    | false =>
      rw [he] at h
      have h : Ro.right l = false := by simpa using h
      rw [if_neg (by simp), h, if_neg (by simp)]; rfl
  · unfold legalB
    rw [h]; rfl
theorem check_yes {l : List Ro} (h : (!Ro.exceeds l 4096 60 && Ro.right l) = true) : Ro.check l = 0 ∧ Ro.right l = true ∧ (∀ x ∈ l, x.depth < 60) := by
  rw [Bool.and_eq_true, Bool.not_eq_true'] at h
  refine ⟨Ro.check_of h.1 h.2, h.2, fun x hx => ?_⟩
  have h1 := h.1
  apply Decidable.byContradiction
  intro hc
  have := (Ro.exceeds_iff l 4096 60).2 (.inr ⟨x, hx, by omega⟩)
  rw [h1] at this
  cases this
theorem leg_step {s : List ByteArray} {l : List Ro} {k : Nat} {x : Ro} (h : l[k]? = some x) : legB s (l.drop k) = (rowB x && withB x (s.take x.depth.toNat) && legB (if x.kind = 0 then s.take x.depth.toNat ++ [x.name] else s.take x.depth.toNat) (l.drop (k + 1))) := by
  have hlt := (List.getElem?_eq_some_iff.1 h).1
  rw [List.drop_eq_getElem_cons hlt, legB]
  rw [List.getElem?_eq_getElem hlt] at h
  injection h with h
  rw [h]
theorem right_step' {m : Int} {l : List Ro} {k : Nat} {x : Ro} (h : l[k]? = some x) (hr : Ro.rightFrom m (l.drop k) = true) : 0 ≤ x.depth ∧ x.depth ≤ m ∧ Ro.rightFrom (if x.kind = 0 then x.depth + 1 else x.depth) (l.drop (k + 1)) = true := by
  have hlt := (List.getElem?_eq_some_iff.1 h).1
  rw [List.drop_eq_getElem_cons hlt, Ro.rightFrom] at hr
  rw [List.getElem?_eq_getElem hlt] at h
  injection h with h
  rw [h] at hr
  simp only [Bool.and_eq_true, decide_eq_true_eq] at hr
  exact ⟨hr.1.1.1, hr.1.1.2, hr.2⟩

/-- What Legal keeps from row to row. -/
structure LL (N : Nat) (w wr : World) (v : Value) (s : List ByteArray) (l : List Ro) (k : Nat) (q : Bool) : Prop where
  own : Sown N wr v s
  leg : legB s (l.drop k) = q
  rt : Ro.rightFrom s.length (l.drop k) = true
  few : s.length ≤ 60
  below : Below N w wr

set_option maxRecDepth 100000 in
set_option maxHeartbeats 4000000 in
theorem Legal1 (v : Value) (l : List Cw) (w : World) (h : Rv w v l) (hl : l.length ≤ 1000) (hf : Ro.Few (ros l)) (ht : (Ro.txt (ros l)).length ≤ 1000000000) (hrb : ∀ x ∈ l, rb x.ro ≤ 10000000) (q : Bool) (hq : legalB (ros l) = q) :
    Calls Tryz.prog 6 #[v] w fun e w' => e = .returned (.bool q) ∧ Below w.heap.size w w' := by
  obtain ⟨A, c, hv, hc, hm, hrr, hh⟩ := id h
  obtain ⟨ck, hck⟩ : ∃ ck, (!Ro.exceeds (ros l) 4096 60 && Ro.right (ros l)) = ck := ⟨_, rfl⟩
  have HV := Lib.hid h; have HRB := Lib.hid hrb; have HH := Lib.hid hh; have HF := Lib.hid hf; have HT := Lib.hid ht
  clear h hrb hf ht
  cases ck with
  | false =>
    obtain ⟨h1, h2⟩ := check_no hck
    rw [h2] at hq
    have HRR := Lib.hid hrr
    subst hq hv
    clear h2 hck hrr hh
    go_enter Tryz.func6, Tryz.ntmps6
    go_wp2_with fail
    refine (Ro.check1 _ l w (Ro.check (ros l)) HV.out (by omega) rfl).mono ?_
    rintro e w1 ⟨rfl, hb1⟩
    have HB1 := Lib.hid hb1
    clear hb1
    go_wp2
    go_ret
    exact ⟨rfl, HB1.out⟩
  | true =>
    obtain ⟨h1, h2, h3⟩ := check_yes hck
    have hhn := Ro.held_normal hh
    obtain ⟨nm, hnm⟩ : ∃ nm, Ro.normal (ros l) = nm := ⟨_, rfl⟩
    rw [hnm] at hhn
    obtain ⟨sm, hsm⟩ : ∃ sm, decide (ros l = nm) = sm := ⟨_, rfl⟩
    have hnl : nm.length ≤ 1000 := by
      rw [← hnm]
      have := Ro.len_normal (ros l)
      rw [Ro.len_ros] at this
      omega
    unfold legalB at hq
    rw [hck, Bool.true_and, hnm, hsm] at hq
    have H1 := Lib.hid h1; have H2 := Lib.hid h2; have H3 := Lib.hid h3; have HNM := Lib.hid hnm; have HHN := Lib.hid hhn; have HSM := Lib.hid hsm; have HQ := Lib.hid hq; have HVV := Lib.hid hv
    clear hck hhn hnm hsm h1 h2 h3 hq hh
    have HRR := Lib.hid hrr
    subst hv
    clear hrr
    go_enter Tryz.func6, Tryz.ntmps6
    go_wp2_with fail
    refine (Ro.check1 _ l w 0 HV.out (by omega) H1.out).mono ?_
    rintro e w1 ⟨rfl, hb1⟩
    have HB1 := Lib.hid hb1
    clear hb1
    go_wp2_with fail
    refine (Ro.normal1 _ l w1 nm (HV.out.below HB1.out) (by omega) HF.out HT.out HNM.out HHN.out).mono ?_
    rintro e w2 ⟨u2, y2, rfl, ho2, hfr2, hy2, hv2, hb2⟩
    have HB2 := Lib.hid (bt HB1.out hb2)
    have hyl : y2.length ≤ 1000000 := by
      have := congrArg List.length hy2
      rw [Ro.len_ros] at this
      omega
    have HV2 := Lib.hid hv2; have HY2 := Lib.hid hy2
    clear ho2 hfr2 hy2 hv2 hb2
    go_wp2_with fail
    refine (Ro.same1 _ u2 l y2 w2 sm (HV.out.below HB2.out) HV2.out (by omega) hyl (by rw [HY2.out]; exact HSM.out)).mono ?_
    rintro e w3 ⟨rfl, hb3⟩
    have HB3 := Lib.hid (bt HB2.out hb3)
    clear hb3
    cases sm with
    | false =>
      go_wp2
      go_ret
      exact ⟨ret_bool (by rw [← HQ.out]; rfl), HB3.out⟩
    | true =>
      have hqq := HQ.out
      rw [Bool.true_and] at hqq
      have hl0 : LL w.heap.size w w3 (.slice none 0 0) [] (ros l) 0 q := ⟨Sown.nil _ _, by rw [List.drop_zero]; exact hqq, by rw [List.drop_zero]; exact H2.out, Nat.zero_le _, HB3.out⟩
      have HL0 := Lib.hid hl0
      clear hqq hl0
      go_wp2
      go_loopw [3, 18] (fun v3 i wr => ∃ k s, i = .int .i64 ((k : Nat) : Int) ∧ k ≤ l.length ∧ LL w.heap.size w wr v3 s (ros l) k q) (fun _ i _ => l.length - (intOf i).toNat)
      case atStart => exact ⟨0, [], rfl, Nat.zero_le _, HL0.out⟩
      case round =>
        obtain ⟨k, s, rfl, hk, hll⟩ := hrel
        by_cases hp : k < l.length
        · obtain ⟨b, off, x, rfl, hb, hdx, hx, hxa, hxm⟩ := Ro.Rr.at_ (HRR.out.below hll.below) k hp
          have hget := ros_get hdx
          have hlg := hll.leg
          rw [leg_step hget] at hlg
          obtain ⟨d1, d2, d3⟩ := right_step' hget hll.rt
          obtain ⟨a, ha⟩ : ∃ a, rowB x.ro = a := ⟨_, rfl⟩
          obtain ⟨e0, he0⟩ : ∃ e0, withB x.ro (s.take x.ro.depth.toNat) = e0 := ⟨_, rfl⟩
          rw [ha, he0] at hlg
          have hfew := hll.few
          obtain ⟨A3, c3, hu, hc3, hm3, hr3⟩ := hll.own.form
          subst hu
          have hown1 := Bu.Sown.cut hll.own (show x.ro.depth.toNat ≤ s.length by omega)
          have hbx := Rb.new wr x
          have hbb := below_new wr (rowO x)
          have hd60 := H3.out x.ro (List.mem_of_getElem? hget)
          have hrbx := HRB.out x hxm
          have hNr := hll.below.size
          have hd4 : x.ro.depth ≤ (c3 : Int) := by omega
          have hxa1 : Ro.Att (wr.alloc (rowO x)) (wr.alloc (rowO x)).heap.size x := (hxa.below (hbb.mono hNr)).more (Nat.le_trans hNr hbb.size)
          obtain ⟨c0, c1, c2, c3', c4⟩ := hbx.c
          have hown2 : Sown w.heap.size (wr.alloc (rowO x)) (.slice A3 x.ro.depth.toNat c3) (s.take x.ro.depth.toNat) := hown1.alloc _
          have hB1 := hll.below.trans (hbb.mono hNr)
          have HLG := Lib.hid hlg; have HA := Lib.hid ha; have HE := Lib.hid he0; have HOWN := Lib.hid hown2; have HBX := Lib.hid hbx; have HXA := Lib.hid hxa1; have HD3 := Lib.hid d3; have HBW := Lib.hid hB1
          have HLT := Lib.hid (show (s.take x.ro.depth.toNat).length = x.ro.depth.toNat by rw [List.length_take]; omega)
          clear hlg ha he0 hown1 hown2 hbx hxa1 d3 hB1 hbb hll hdx hget hxa hxm hr3
          go_wp2_with (refine wpList_load_mid rfl 28 (.tmp 20) rfl b (off + k * 5) rfl _ _ hx Tryz.underlying28 rfl Ro.size_row ?_)
          refine (legal1 x (wr.alloc (rowO x)).heap.size (wr.alloc (rowO x)) HXA.out (Nat.le_refl _) hrbx a HA.out).mono ?_
          rintro e w4 ⟨rfl, hb4⟩
          have HO4 := Lib.hid (HOWN.out.below hb4 (Nat.le_refl _)); have HB4 := Lib.hid (HBW.out.trans (hb4.mono (Nat.le_trans hNr (by simp)))); have HX4 := Lib.hid (rb_below HBX.out hb4)
          clear hb4 c0 c1 c2 c3' c4
          obtain ⟨c0, c1, c2, c3', c4⟩ := HX4.out.c
          cases a with
          | false =>
            go_wp2
            go_ret
            exact ⟨ret_bool (by rw [← HLG.out]; rfl), HB4.out⟩
          | true =>
          go_wp2_with fail
          refine (legalWithin1 x (.slice A3 x.ro.depth.toNat c3) (s.take x.ro.depth.toNat) w4 (sv_own HO4.out) (by rw [HLT.out]; omega) hrbx e0 HE.out).mono ?_
          rintro e w5 ⟨rfl, hb5⟩
          have HO5 := Lib.hid (HO4.out.below hb5 (Nat.le_refl _)); have HB5 := Lib.hid (HB4.out.trans (hb5.mono HB4.out.size)); have HX5 := Lib.hid (rb_below HX4.out hb5)
          clear hb5 c0 c1 c2 c3' c4
          obtain ⟨c0, c1, c2, c3', c4⟩ := HX5.out.c
          cases e0 with
          | false =>
            go_wp2
            go_ret
            exact ⟨ret_bool (by rw [← HLG.out]; rfl), HB5.out⟩
          | true =>
          by_cases hkd : x.ro.kind = 0
          · have g0 : (x.ro.kind == 0) = true := beq_iff_eq.2 hkd
            have h3 := HD3.out
            have h4 := HLG.out
            rw [if_pos hkd] at h3 h4
            have HH3 := Lib.hid h3; have HH4 := Lib.hid h4
            have hbd : ((s.take x.ro.depth.toNat).length + 1) * 16 ≤ 140737488355328 := by rw [HLT.out]; omega
            clear h3 h4 hkd
            go_wp2_with (at_builtin; refine app_one w5 rfl (.tmp 38) (.tmp 41) rfl w.heap.size _ (s.take x.ro.depth.toNat) x.ro.name rfl HO5.out rfl hbd HB5.out.size ?_; intro v6 w6 hown6 hk6 _)
            go_roundw
            case rel =>
              refine ⟨k + 1, s.take x.ro.depth.toNat ++ [x.ro.name], by go_num, by omega, ⟨hown6, by rw [← HH4.out]; simp, ?_, ?_, hk6 _ HB5.out⟩⟩
              · have e : ((s.take x.ro.depth.toNat ++ [x.ro.name]).length : Int) = x.ro.depth + 1 := by
                  rw [List.length_append, HLT.out]; simp only [List.length_cons, List.length_nil]; omega
                rw [e]; exact HH3.out
              · rw [List.length_append, HLT.out]; simp only [List.length_cons, List.length_nil]; omega
            case measure => simp [intOf]; omega
          · have g0 : (x.ro.kind == 0) = false := beq_eq_false_iff_ne.2 hkd
            have h3 := HD3.out
            have h4 := HLG.out
            rw [if_neg hkd] at h3 h4
            have HH3 := Lib.hid h3; have HH4 := Lib.hid h4
            clear h3 h4 hkd
            go_wp2
            go_roundw
            case rel =>
              refine ⟨k + 1, s.take x.ro.depth.toNat, by go_num, by omega, ⟨HO5.out, by rw [← HH4.out]; simp, ?_, ?_, HB5.out⟩⟩
              · have e : ((s.take x.ro.depth.toNat).length : Int) = x.ro.depth := by rw [HLT.out]; omega
                rw [e]; exact HH3.out
              · rw [HLT.out]; omega
            case measure => simp [intOf]; omega
        · have hlg := hll.leg
          rw [List.drop_of_length_le (by rw [Ro.len_ros]; omega), legB] at hlg
          subst hlg
          have HLL := Lib.hid hll
          clear hll
          go_wp2
          go_ret
          exact ⟨rfl, HLL.out.below⟩

end Go.Proofs.YteafldginkpgoaaGreat.Wr

namespace Go.Proofs.YteafldginkpgoaaGreat.Wr
set_option maxRecDepth 100000
set_option linter.unusedVariables false
set_option linter.unusedSimpArgs false
open Go.RowKit Ba Fm Fo Nm Wm
open Ro (At Ro Cw ros rowO rowV below_new range2 range5 cells Rv bare rows_new)
def oneC (n s : ByteArray) : List Cw := [bare ⟨0, 0, n, ⟨#[]⟩, []⟩, bare ⟨1, 1, ⟨#[]⟩, s, []⟩]
def ppC : List Cw := [bare ⟨0, 0, n_p, ⟨#[]⟩, []⟩, bare ⟨1, 0, n_p, ⟨#[]⟩, []⟩]
def brC (g : Nat) : List Cw := [⟨⟨0, 0, n_br, ⟨#[]⟩, [⟨⟨#[97]⟩, ⟨#[34]⟩⟩]⟩, some ⟨g, 0, none⟩, 1⟩, bare ⟨0, 2, ⟨#[]⟩, ⟨#[99]⟩, []⟩]
theorem ros_one (n s : ByteArray) : ros (oneC n s) = oneR n s := rfl
theorem ros_pp : ros ppC = ppR := rfl
theorem ros_br (g : Nat) : ros (brC g) = brR := rfl
theorem held_two {a b : Ro} (ha : a.depth = 0) (hb : b.depth = 0 ∨ b.depth = 1) : Ro.Held [a, b] := fun x hx => by
  simp only [List.mem_cons, List.not_mem_nil, or_false] at hx
  rcases hx with rfl | rfl <;> omega
theorem two_new (w : World) (cs : Array Value) (a b : Ro) (ha : a.attrs = []) (hb : b.attrs = []) (hh : Ro.Held [a, b]) (hcs : cs.toList = [bare a, bare b].flatMap cells) : Rv (w.alloc (.cells cs 28)) (.slice (some ⟨w.heap.size, 0, none⟩) 2 2) [bare a, bare b] :=
  (rows_new w [bare a, bare b] cs 2 rfl (by decide) hcs (fun x hx => by
    simp only [List.mem_cons, List.not_mem_nil, or_false] at hx
    rcases hx with rfl | rfl
    · exact ⟨_, rfl, ha⟩
    · exact ⟨_, rfl, hb⟩)).rv hh
/-- Rows freshly written down, with their attributes. -/
theorem rows_lit (w : World) (l : List Cw) (cs : Array Value) (n : Nat) (hn : l.length = n) (hm : n ≤ maxLen) (hcs : cs.toList = l.flatMap cells) (hl : ∀ x ∈ l, Ro.Att (w.alloc (.cells cs 28)) (w.alloc (.cells cs 28)).heap.size x ∧ Ro.Ap (w.alloc (.cells cs 28)) w.heap.size x) :
    Ro.Ow w.heap.size (w.alloc (.cells cs 28)) (.slice (some ⟨w.heap.size, 0, none⟩) n n) l := by
  have hfl : (l.flatMap cells).length = n * 5 := by
    rw [← hn]
    clear hcs hl hn
    induction l with
    | nil => rfl
    | cons x r ih => rw [List.flatMap_cons, List.length_append, ih, List.length_cons]; simp [cells]; omega
  have hsz : cs.size = n * 5 := by rw [← Array.length_toList, hcs, hfl]
  refine ⟨⟨by rw [hn, hfl], .inr ⟨w.heap.size, n, cs, by rw [hn], Nat.le_refl _, heap_alloc_new w _, by rw [hn]; exact Nat.le_refl _, hm, hsz, ?_⟩⟩, hl⟩
  rw [hn, hcs, ← hfl, List.take_length]
theorem br_new (w : World) (cs : Array Value) (g : Nat) (hg : w.heap[g]? = some (.cells #[.string ⟨#[97]⟩, .string ⟨#[34]⟩] 33)) (hcs : cs.toList = (brC g).flatMap cells) : Rv (w.alloc (.cells cs 28)) (.slice (some ⟨w.heap.size, 0, none⟩) 2 2) (brC g) := by
  have hlt : g < w.heap.size := (Array.getElem?_eq_some_iff.1 hg).1
  have hg2 : (w.alloc (.cells cs 28)).heap[g]? = some (.cells #[.string ⟨#[97]⟩, .string ⟨#[34]⟩] 33) := ((below_new w _).block g hlt).trans hg
  refine (rows_lit w (brC g) cs 2 rfl (by decide) hcs (fun x hx => ?_)).rv (held_two rfl (.inl rfl))
  unfold brC at hx
  simp only [List.mem_cons, List.not_mem_nil, or_false] at hx
  rcases hx with rfl | rfl
  · refine ⟨⟨Nat.le_refl _, (fun h => by cases h), (by decide : (1 : Nat) ≤ maxLen), fun _ => ⟨g, 0, rfl, by have := (below_new w (.cells cs 28)).size; show g < _; omega, fun j hj => ?_⟩, ?_⟩, fun _ => ⟨g, 0, rfl, .inl hlt⟩⟩
    · have hj0 : j = 0 := by
        have : j < 1 := hj
        omega
      subst hj0
      intro i u hu
      rw [cell_of_row _ g (0 + 0 * 2 + i) _ _ _ hg2]
      match i, hu with
      | 0, hu => exact hu
      | 1, hu => exact hu
    · intro a ha
      have ha : a ∈ [(⟨⟨#[97]⟩, ⟨#[34]⟩⟩ : At)] := ha
      rw [List.mem_singleton.1 ha]
      decide
  · exact ⟨Ro.bare_att _ _ rfl, Ro.bare_ap _ _ rfl⟩

theorem one_any (n s : ByteArray) (w : World) :
    Calls Tryz.prog 9 #[.string n, .string s] w fun e w' => ∃ v, e = .returned v ∧ Rv w' v (oneC n s) ∧ Below w.heap.size w w' := by
  have hv := two_new w #[.int .i64 0, .int .i64 0, .string n, .string ⟨#[]⟩, .slice none 0 0, .int .i64 1, .int .i64 1, .string ⟨#[]⟩, .string s, .slice none 0 0] ⟨0, 0, n, ⟨#[]⟩, []⟩ ⟨1, 1, ⟨#[]⟩, s, []⟩ rfl rfl (held_two rfl (.inr rfl)) rfl
  go_enter Tryz.func9, Tryz.ntmps9
  go_wp2
  go_ret
  exact ⟨_, rfl, hv, below_new w _⟩

/-- The contracts over values that read as rows. -/
theorem Inside1 (v : Value) (x : List Cw) (i : Int) (w : World) (q : ByteArray) (h : Rv w v x) (hl : x.length ≤ 1000) (hrb : ∀ y ∈ x, rb y.ro ≤ 10000000) (hq : insideB (ros x) i = L q) (hz : q.size ≤ 70000000000000) :
    Calls Tryz.prog 10 #[v, .int .i64 i] w fun e w' => e = .returned (.string q) ∧ Below w.heap.size w w' := by
  obtain ⟨A, c, rfl, hc, hm, hrr, hh⟩ := h
  have := Inside_any A c x i w hrr hc (by omega) hrb (by rw [hq, size_L]; exact hz)
  rwa [hq, B_L] at this
theorem Rows1 (v : Value) (x : List Cw) (w : World) (q : ByteArray) (h : Rv w v x) (hl : x.length ≤ 1000) (hrb : ∀ y ∈ x, rb y.ro ≤ 10000000) (hq : insideB (ros x) (-1) = L q) (hz : q.size ≤ 70000000000000) :
    Calls Tryz.prog 8 #[v] w fun e w' => e = .returned (.string q) ∧ Below w.heap.size w w' := by
  obtain ⟨A, c, rfl, hc, hm, hrr, hh⟩ := h
  have := Rows_any A c x w hrr hc (by omega) hrb (by rw [hq, size_L]; exact hz)
  rwa [hq, B_L] at this
theorem small_two {a b : Cw} (h : (decide (rb a.ro ≤ 10000000) && decide (rb b.ro ≤ 10000000)) = true) : ∀ y ∈ [a, b], rb y.ro ≤ 10000000 := fun y hy => by
  rw [Bool.and_eq_true, decide_eq_true_iff, decide_eq_true_iff] at h
  simp only [List.mem_cons, List.not_mem_nil, or_false] at hy
  rcases hy with rfl | rfl
  · exact h.1
  · exact h.2
theorem few_two {a b : Ro} (h : (decide (a.attrs.length ≤ 1000000) && decide (b.attrs.length ≤ 1000000)) = true) : Ro.Few [a, b] := fun y hy => by
  rw [Bool.and_eq_true, decide_eq_true_iff, decide_eq_true_iff] at h
  simp only [List.mem_cons, List.not_mem_nil, or_false] at hy
  rcases hy with rfl | rfl
  · exact h.1
  · exact h.2
theorem LegalS (v : Value) (x : List Cw) (w : World) (h : Rv w v x) (a b : Cw) (hx : x = [a, b]) (hs : (decide (rb a.ro ≤ 10000000) && decide (rb b.ro ≤ 10000000)) = true) (hf : (decide (a.ro.attrs.length ≤ 1000000) && decide (b.ro.attrs.length ≤ 1000000)) = true) (ht : (Ro.txt (ros x)).length ≤ 1000000000) (q : Bool) (hq : legalB (ros x) = q) :
    Calls Tryz.prog 6 #[v] w fun e w' => e = .returned (.bool q) ∧ Below w.heap.size w w' := by
  subst hx
  exact Legal1 v [a, b] w h (by show 2 ≤ 1000; omega) (few_two hf) ht (small_two hs) q hq

theorem rows_br (w : World) :
    Calls Tryz.prog 8 #[.slice (some ⟨w.heap.size + 1, 0, none⟩) 2 2] ((w.alloc (.cells #[.string ⟨#[97]⟩, .string ⟨#[34]⟩] 33)).alloc (.cells #[.int .i64 0, .int .i64 0, .string ⟨#[98, 114]⟩, .string ⟨#[]⟩, .slice (some ⟨w.heap.size, 0, none⟩) 1 1, .int .i64 0, .int .i64 2, .string ⟨#[]⟩, .string ⟨#[99]⟩, .slice none 0 0] 28)) fun e w' =>
      e = .returned (.string ⟨#[60, 98, 114, 32, 97, 61, 34, 38, 113, 117, 111, 116, 59, 34, 62, 60, 33, 45, 45, 99, 45, 45, 62]⟩) ∧ Below w.heap.size w w' := by
  obtain ⟨W1, hW1⟩ : ∃ W1, w.alloc (.cells #[.string ⟨#[97]⟩, .string ⟨#[34]⟩] 33) = W1 := ⟨_, rfl⟩
  have hs : w.heap.size + 1 = W1.heap.size := by rw [← hW1]; simp
  have hg : W1.heap[w.heap.size]? = some (.cells #[.string ⟨#[97]⟩, .string ⟨#[34]⟩] 33) := by rw [← hW1]; exact heap_alloc_new w _
  have hb : Below w.heap.size w W1 := by rw [← hW1]; exact below_new w _
  rw [hW1, hs]
  refine (Rows1 _ (brC w.heap.size) _ ⟨#[60, 98, 114, 32, 97, 61, 34, 38, 113, 117, 111, 116, 59, 34, 62, 60, 33, 45, 45, 99, 45, 45, 62]⟩ (br_new W1 _ w.heap.size hg rfl) (by show 2 ≤ 1000; omega) (small_two (by show (decide (rb (⟨0, 0, n_br, ⟨#[]⟩, [⟨⟨#[97]⟩, ⟨#[34]⟩⟩]⟩ : Ro) ≤ 10000000) && decide (rb (⟨0, 2, ⟨#[]⟩, ⟨#[99]⟩, []⟩ : Ro) ≤ 10000000)) = true; decide)) (by rw [ros_br]; exact w_b) (by decide)).mono ?_
  rintro e w' ⟨he, hb'⟩
  exact ⟨he, bt hb (bt (below_new W1 _) hb')⟩

set_option maxRecDepth 100000 in
set_option maxHeartbeats 4000000 in
theorem fixed8_any (w : World) : Calls Tryz.prog 5 #[] w fun e w' => e = .returned (.bool true) ∧ Below w.heap.size w w' := by
  obtain ⟨P, hP⟩ : ∃ P, w.alloc (.cells #[.int .i64 0, .int .i64 0, .string ⟨#[112]⟩, .string ⟨#[]⟩, .slice none 0 0, .int .i64 1, .int .i64 0, .string ⟨#[112]⟩, .string ⟨#[]⟩, .slice none 0 0] 28) = P := ⟨_, rfl⟩
  have hpp : Rv P (.slice (some ⟨w.heap.size, 0, none⟩) 2 2) ppC := by rw [← hP]; exact two_new w _ ⟨0, 0, n_p, ⟨#[]⟩, []⟩ ⟨1, 0, n_p, ⟨#[]⟩, []⟩ rfl rfl (held_two rfl (.inr rfl)) rfl
  have hb0 : Below w.heap.size w P := by rw [← hP]; exact below_new w _
  have HPP := Lib.hid hpp; have HBP := Lib.hid hb0; have HP := Lib.hid hP
  clear hpp hb0 hP
  go_enter Tryz.func5, Tryz.ntmps5
  go_upto_region 2 with (fail)
  rw [HP.out]
  have HB0 := Lib.hid (Below.refl P.heap.size P)
  go_wp2_with fail
  refine (one_any n_p t_ab _).mono ?_
  rintro e w1 ⟨v1, rfl, r1, b1⟩
  have HB1 := Lib.hid (bt HB0.out b1); have HR1 := Lib.hid r1
  clear b1 r1
  go_wp2_with fail
  refine (Rows1 v1 _ w1 ⟨#[60, 112, 62, 97, 38, 108, 116, 59, 98, 60, 47, 112, 62]⟩ HR1.out (by decide) (small_two (by decide)) (by rw [ros_one]; exact w_p) (by decide)).mono ?_
  rintro e w2 ⟨rfl, b2⟩
  have HB2 := Lib.hid (bt HB1.out b2)
  clear b2
  go_wp2_with fail
  refine (one_any n_script t_ab _).mono ?_
  rintro e w3 ⟨v3, rfl, r3, b3⟩
  have HB3 := Lib.hid (bt HB2.out b3); have HR3 := Lib.hid r3
  clear b3 r3
  go_wp2_with fail
  refine (Rows1 v3 _ w3 ⟨#[60, 115, 99, 114, 105, 112, 116, 62, 97, 60, 98, 60, 47, 115, 99, 114, 105, 112, 116, 62]⟩ HR3.out (by decide) (small_two (by decide)) (by rw [ros_one]; exact w_s) (by decide)).mono ?_
  rintro e w4 ⟨rfl, b4⟩
  have HB4 := Lib.hid (bt HB3.out b4)
  clear b4
  go_wp2_with fail
  refine (one_any n_p t_ab _).mono ?_
  rintro e w5 ⟨v5, rfl, r5, b5⟩
  have HB5 := Lib.hid (bt HB4.out b5); have HR5 := Lib.hid r5
  clear b5 r5
  go_wp2_with fail
  refine (Inside1 v5 _ 0 w5 ⟨#[97, 38, 108, 116, 59, 98]⟩ HR5.out (by decide) (small_two (by decide)) (by rw [ros_one]; exact w_i) (by decide)).mono ?_
  rintro e w6 ⟨rfl, b6⟩
  have HB6 := Lib.hid (bt HB5.out b6)
  clear b6
  go_wp2_with fail
  refine (rows_br w6).mono ?_
  rintro e w7 ⟨rfl, b7⟩
  have HB7 := Lib.hid (bt HB6.out b7)
  clear b7
  go_wp2_with fail
  refine (one_any n_p t_ab _).mono ?_
  rintro e w8 ⟨v8, rfl, r8, b8⟩
  have HB8 := Lib.hid (bt HB7.out b8); have HR8 := Lib.hid r8
  clear b8 r8
  go_wp2_with fail
  refine (LegalS v8 _ w8 HR8.out _ _ rfl (by decide) (by decide) (by decide) true (by rw [ros_one]; exact legal_p)).mono ?_
  rintro e w9 ⟨rfl, b9⟩
  have HB9 := Lib.hid (bt HB8.out b9)
  clear b9
  go_wp2_with fail
  refine (one_any n_script t_ab _).mono ?_
  rintro e w10 ⟨v10, rfl, r10, b10⟩
  have HB10 := Lib.hid (bt HB9.out b10); have HR10 := Lib.hid r10
  clear b10 r10
  go_wp2_with fail
  refine (LegalS v10 _ w10 HR10.out _ _ rfl (by decide) (by decide) (by decide) true (by rw [ros_one]; exact legal_s)).mono ?_
  rintro e w11 ⟨rfl, b11⟩
  have HB11 := Lib.hid (bt HB10.out b11)
  clear b11
  go_wp2_with fail
  refine (one_any n_script t_aeb _).mono ?_
  rintro e w12 ⟨v12, rfl, r12, b12⟩
  have HB12 := Lib.hid (bt HB11.out b12); have HR12 := Lib.hid r12
  clear b12 r12
  go_wp2_with fail
  refine (LegalS v12 _ w12 HR12.out _ _ rfl (by decide) (by decide) (by decide) false (by rw [ros_one]; exact not_s)).mono ?_
  rintro e w13 ⟨rfl, b13⟩
  have HB13 := Lib.hid (bt HB12.out b13)
  clear b13
  go_wp2_with fail
  refine (LegalS _ ppC w13 (HPP.out.below HB13.out) _ _ rfl (by decide) (by decide) (by decide) false (by rw [ros_pp]; exact not_p)).mono ?_
  rintro e w14 ⟨rfl, b14⟩
  have HB14 := Lib.hid (bt HB13.out b14)
  clear b14
  go_wp2_with fail
  refine (one_any n_br ⟨#[97]⟩ _).mono ?_
  rintro e w15 ⟨v15, rfl, r15, b15⟩
  have HB15 := Lib.hid (bt HB14.out b15); have HR15 := Lib.hid r15
  clear b15 r15
  go_wp2_with fail
  refine (LegalS v15 _ w15 HR15.out _ _ rfl (by decide) (by decide) (by decide) false (by rw [ros_one]; exact not_b)).mono ?_
  rintro e w16 ⟨rfl, b16⟩
  have HB16 := Lib.hid (bt HB15.out b16)
  clear b16
  go_wp2
  go_ret
  exact ⟨rfl, bt HBP.out HB16.out⟩

end Go.Proofs.YteafldginkpgoaaGreat.Wr

namespace Go.Proofs.YteafldginkpgoaaGreat.Wr
set_option maxRecDepth 100000
set_option linter.unusedVariables false
set_option linter.unusedSimpArgs false
open Go.RowKit Ba Fm Fo Nm Wm
open Ro (At Ro Cw ros rowO rowV below_new range2 range5 cells Rv bare rows_new)
theorem few6 {x : List Cw} (h : ∀ y ∈ x, y.ro.attrs.length ≤ 6) : Ro.Few (ros x) := fun y hy => by
  obtain ⟨z, hz, rfl⟩ := List.mem_map.1 hy
  have := h z hz
  omega
theorem rb_all {x : List Cw} {n : Nat} (h : rsum (ros x) ≤ n) : ∀ y ∈ x, rb y.ro ≤ n := fun y hy => Nat.le_trans (rb_mem (List.mem_map_of_mem hy)) h
theorem legal8 (v : Value) (x : List Cw) (w : World) (h : Rv w v x) (hl : x.length ≤ 1000) (hf : Ro.Few (ros x)) (hz : rsum (ros x) ≤ 10000000) (q : Bool) (hq : legalB (ros x) = q) :
    Calls Tryz.prog 6 #[v] w fun e w' => e = .returned (.bool q) ∧ Below w.heap.size w w' :=
  Legal1 v x w h hl hf (Nat.le_trans (txt_rsum _) (by omega)) (rb_all hz) q hq
end Go.Proofs.YteafldginkpgoaaGreat.Wr

namespace Go.Proofs.YteafldginkpgoaaGreat.Ch
set_option maxRecDepth 100000
set_option linter.unusedSimpArgs false
set_option linter.unusedVariables false
open Go.RowKit
def bc (b : UInt8) : Value := .int .u8 b.toNat
/-- v is a slice of bytes of the call's own that holds l. -/
def Own (N : Nat) (w : World) (v : Value) (l : List UInt8) : Prop := w.ownsRow N 5 1 v l.length (l.map bc)

theorem info_u8 : (Tryz.prog.info? 5).map (fun i => (i.zero, i.size, i.bytes)) = some (some (.int .u8 0), 1, 1) := by kernel_rfl

theorem Own.below {N : Nat} {w0 w w' : World} {v : Value} {l : List UInt8} (h : Own N w v l) (hg : w.grownBy w' v.ownBlock) (hb : Below N w0 w) (hN : N ≤ w.heap.size) : Below N w0 w' :=
  hb.grown hg hN fun k hk => (h.lt k hk).1

theorem Own.string {N : Nat} {w : World} {v : Value} {l : List UInt8} (h : Own N w v l) : (convert 50 9 v).run Tryz.prog w = .ok (.string (B l)) w := by
  rcases h.2 with ⟨hv, hl⟩ | ⟨g, cap, cur, hv, hb, hgg, rest⟩
  · have : l = [] := List.eq_nil_of_length_eq_zero hl
    subst this hv
    rw [run_convert_bytes_string w _ _ _ none 0 0 Tryz.underlying50 Tryz.underlying5 Tryz.underlying9]
    rfl
  · subst hv
    exact run_convert_bytes_back w _ _ _ ⟨g, 0, none⟩ cap l Tryz.underlying50 Tryz.underlying5 Tryz.underlying9 fun j hj => World.ownsRow.cells h rfl j _ (by simp [bc, hj])

theorem strCells_L (s : ByteArray) : Lib.strCells s = (L s).map bc := rfl

theorem Own.appended {N : Nat} {w : World} {v : Value} {l m : List UInt8} {n : Nat} (h : w.ownsRow N 5 1 v n (l.map bc ++ m.map bc)) (hn : n = l.length + m.length) : Own N w v (l ++ m) := by
  unfold Own
  rw [List.map_append, List.length_append, ← hn]
  exact h

end Go.Proofs.YteafldginkpgoaaGreat.Ch

namespace Go.Proofs.YteafldginkpgoaaGreat.Ch
set_option linter.unusedSimpArgs false
set_option linter.unusedVariables false
open Go.RowKit
theorem drop_cons (s : ByteArray) (k : Nat) (h : k < s.size) : (L s).drop k = s[k] :: (L s).drop (k + 1) := by
  rw [List.drop_eq_getElem_cons (by rw [size_L]; exact h)]
  rfl

theorem Own.alloc {N : Nat} {w : World} {v : Value} {l : List UInt8} (h : Own N w v l) (o : Obj) : Own N (w.alloc o) v l := World.ownsRow.alloc h o

end Go.Proofs.YteafldginkpgoaaGreat.Ch
