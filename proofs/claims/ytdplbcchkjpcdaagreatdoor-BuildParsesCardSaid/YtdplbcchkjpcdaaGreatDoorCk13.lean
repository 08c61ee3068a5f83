/-
  Walks of stage 6's reference: In.
  Walks of stage 6's laws TokenIns and TokenCuts: each returns true.
  Walks of stage 1: the document's own answers (boltingref01): in, Size, Right, Sample, Decode, Lines, Ready: each returns what the plain function of CharsSpec says.
  Walks of stage 1: boltingref01.Size: it returns what the plain function 'sz' says of the bytes from the place on.
  Walks of stage 1: boltingref01.Right and boltingref01.Sample: each returns what the plain function of CharsSpec says.
  Walks of stage 1: boltingref01.Decode, Lines and Ready: each returns what the plain function of CharsSpec says, where that string and the argument have at most 2^47 bytes.
  The laws of stage 7, walked: Parses.
-/
import Derived.Test.YtdplbcchkjpcdaaGreatDoorCk12
import Derived.Test.YtdplbcchkjpcdaaGreatDoorCk10
import Derived.Test.YtdplbcchkjpcdaaGreatDoorCk11
import Derived.Deep.OwnRows
namespace Go.Proofs.YtdplbcchkjpcdaaGreatDoor.Tm
set_option maxRecDepth 100000
set_option linter.unusedVariables false
set_option linter.unusedSimpArgs false
open Ba Fm Rm Nm
open Ro (At)
/-- The tokens behind a text that was gone over. -/
def fl (u X : List UInt8) : List Tk := txt (dec (u ++ lead bg X)) ++ ((mk (trail bg X)).1 ++ cut (mk (trail bg X)).2)
theorem fl_nil (X : List UInt8) : fl [] X = cut X := by
  rw [cut_turn]
  show txt (dec (lead bg X)) ++ _ = (txt (dec (lead bg X)) ++ _) ++ _
  rw [List.append_assoc]
  rfl
theorem fl_none (u : List UInt8) {c : UInt8} {r : List UInt8} (h : Tm.begun (c :: r) = 0) : fl u (c :: r) = fl (u ++ [c]) r := by
  have hb : bg (c :: r) = false := by unfold bg; rw [h]; rfl
  unfold fl
  rw [lead_no hb, trail_no hb, List.append_assoc]
  rfl
theorem fl_some (u : List UInt8) {X : List UInt8} (h : Tm.begun X ≠ 0) : fl u X = txt (dec u) ++ ((mk X).1 ++ cut (mk X).2) := by
  obtain ⟨h1, h2⟩ := begins h
  unfold fl
  rw [h1, h2, List.append_nil]
theorem fl_end (u : List UInt8) : fl u [] = txt (dec u) := by
  unfold fl
  rw [lead_nil, trail_nil, mk_nil, List.append_nil, To.cut_nil, List.append_nil, List.append_nil]
end Go.Proofs.YtdplbcchkjpcdaaGreatDoor.Tm

namespace Go.Proofs.YtdplbcchkjpcdaaGreatDoor.To
set_option maxRecDepth 100000
set_option linter.unusedSimpArgs false
set_option linter.unusedVariables false
open Go.RowKit Ba Fm Fo Tm Nm Na
open Rm (dec dec_ne)
open Ro (below_new At acells len_acells Sh Ra range2)
open Re (Tab)
/-- What the loop over a document has come to, by the reference. -/
structure Il (w wr : World) (s : ByteArray) (W : List Tk) (i : Nat) (v : Value) (l : List Tw) (u : ByteArray) : Prop where
  i_le : i ≤ s.size
  own : Ot w.heap.size wr v l
  bel : Below w.heap.size w wr
  few : l.length ≤ 3 * i + 1
  uz : u.size ≤ i
  eq : tks l ++ fl (L u) ((L s).drop i) = W

theorem Fr.mono {N N' : Nat} {w : World} {x : Tw} (h : Fr N w x) (hN : N' ≤ N) : Fr N' w x := ⟨World.ownsRow.mono h.1 hN, h.2⟩
theorem Tb.past {N g : Nat} {w w' : World} {x : Tw} {v : Value} {l : List Tw} {w0 : World} (h : Tb w g x) (ho : Ot N w0 v l) (hg : w.grownBy w' v.ownBlock) (hlt : w0.heap.size ≤ g) : Tb w' g x :=
  (hg.block g h.lt (fun e => by have := (World.ownsRow.lt ho.1 g e.symm).2; omega)).trans h
theorem L_snoc (u s : ByteArray) (i : Nat) (h : i < s.size) : L (u ++ s.extract i (i + 1)) = L u ++ [s[i]] := by
  rw [L_append, L_extract, drop_cons s i h, show i + 1 - i = 1 from by omega]
  rfl

set_option maxRecDepth 100000 in
set_option maxHeartbeats 16000000 in
theorem refIn_any (s nm0 : ByteArray) (w : World) (hs : s.size ≤ 500000) (hn : nm0.size ≤ 140737488351232) :
    Calls Tryz.prog 13 #[.string s, .string nm0] w fun e w' => ∃ V l, e = .returned V ∧ Ot w.heap.size w' V l ∧ tks l = within (L nm0) (L s) ∧ Below w.heap.size w w' := by
  have hs' : s.size ≤ 140737488355328 := by omega
  have hs2 : s.size ≤ 140737488351232 := by omega
  have hs3 : s.size ≤ 1000000 := by omega
  have hmade : Ot w.heap.size (w.alloc (.cells #[] 44)) (.slice (some ⟨w.heap.size, 0, none⟩) 0 0) [] := ⟨(Ow.made w).1, fun _ h => by simp at h⟩
  have HM := Lib.hid hmade; clear hmade
  obtain ⟨W, hW⟩ : ∃ W, within (L nm0) (L s) = W := ⟨_, rfl⟩
  rw [hW]
  have HW := Lib.hid hW; clear hW
  go_enter Tryz.func13, Tryz.ntmps13
  go_wp2_with fail
  refine (alone_any w.heap.size _ [] s nm0 0 _ HM.out (by simp) hs2 (Nat.zero_le _) hn (by simp)).mono ?_
  rintro e w1 ⟨v1, l1, n1, rfl, ho1, ht1, hn1, -, hd1, hl1, hz1, hb1⟩
  have hst : Il w w1 s W n1 v1 l1 ⟨#[]⟩ := by
    rw [← HW.out]
    refine ⟨hn1, ho1, hb1 w (below_new w _), by simp at hl1; omega, Nat.zero_le _, ?_⟩
    show tks l1 ++ fl [] _ = _
    rw [fl_nil, ht1, hd1, List.drop_zero]
    rfl
  clear ho1 ht1 hd1 hl1 hz1 hb1 HM
  go_wp2_with fail
  go_loopw [5, 6, 7] (fun v5 v6 v7 wr => ∃ i l u, v6 = .int .i64 ((i : Nat) : Int) ∧ v7 = .string u ∧ Il w wr s W i v5 l u) (fun _ v6 _ _ => s.size - (intOf v6).toNat)
  case atStart => exact ⟨n1, l1, ⟨#[]⟩, rfl, rfl, hst⟩
  case round =>
    clear hst hn1
    obtain ⟨i, l, u, rfl, rfl, hil⟩ := hrel
    have hi := hil.i_le
    have hl2 : l.length ≤ 4000000000 := by have := hil.few; omega
    have hu2 : u.size ≤ 140737488351232 := by have := hil.uz; omega
    have hN : w.heap.size ≤ wr.heap.size := hil.bel.size
    have HI := Lib.hid hil; clear hil
    by_cases hp : i < s.size
    · have hlt : decide ((i : Int) < s.size) = true := decide_eq_true (by omega)
      have hdr : ∀ j, (L s).drop (i + j) = ((L s).drop i).drop j := fun j => by rw [List.drop_drop]
      obtain ⟨n, hbg⟩ : ∃ n, Tm.begun ((L s).drop i) = n := ⟨_, rfl⟩
      have hfacts := beg_facts _ n hbg
      have hnot := noted_mk s i n hbg
      rw [← hdr 1, ← hdr 2] at hfacts
      obtain ⟨hn6, f1, f2, f3, f4, f0⟩ := hfacts
      have HBG := Lib.hid hbg; have HNO := Lib.hid hnot; have HDR := Lib.hid hdr
      have F1 := Lib.hid f1; have F2 := Lib.hid f2; have F3 := Lib.hid f3; have F4 := Lib.hid f4; have F0 := Lib.hid f0
      clear hbg hnot hdr f1 f2 f3 f4 f0
      by_cases h1 : n = 1
      · subst h1
        obtain ⟨q1, q2, q3⟩ := F1.out rfl
        have Q1 := Lib.hid q1; have Q2 := Lib.hid q2; have Q3 := Lib.hid q3; clear q1 q2 q3
        go_wp2_with fail
        refine (refAt1 s _ i _ [60] true hs' (by omega) (by decide) (by decide) rfl Q1.out).mono ?_
        rintro e w' ⟨rfl, rfl⟩
        go_wp2_with fail
        refine (letterAt_any s (i + 1) _ true hs' Q2.out).mono ?_
        rintro e w' ⟨rfl, rfl⟩
        go_wp2_with fail
        refine (refAt1 s _ i _ [60, 47] false hs' (by omega) (by decide) (by decide) rfl Q3.out).mono ?_
        rintro e w' ⟨rfl, rfl⟩
        go_wp2_with fail
        refine (told_any w.heap.size _ l u wr HI.out.own hN hu2 hl2).mono ?_
        rintro e w2 ⟨v2, l2, rfl, ho2, ht2, hl22, hz2, hg2, hb2⟩
        have hb2' := hb2 w HI.out.bel
        have HO2 := Lib.hid ho2; have HT2 := Lib.hid ht2; have HB2 := Lib.hid hb2'; clear ho2 ht2 hg2 hb2 hb2'
        go_wp2_with fail
        refine (refTag_any s (i + 1) w2 hs3 (by omega)).mono ?_
        rintro e w3 ⟨x, n, rfl, hb3, hx⟩
        rcases hx with ⟨hn, hin, hfr, bs, sf, hat, hxt⟩ | ⟨hn, hat⟩
        · obtain ⟨tk, A, c⟩ := x
          have hxt : tk = ⟨0, B (lowL (upTo en ((L s).drop (i + 1)))), ⟨#[]⟩, bs, sf⟩ := hxt
          obtain ⟨nm, hnm⟩ : ∃ n, B (lowL (upTo en ((L s).drop (i + 1)))) = n := ⟨_, rfl⟩
          rw [hnm] at hxt
          subst hxt
          have hgt : decide ((n : Int) > (s.size : Int)) = false := decide_eq_false (by omega)
          have hbox : Tb (w3.alloc (.cells #[.int .i64 1, .string nm, .string ⟨#[]⟩, .slice A bs.length c, .bool sf] 44)) w3.heap.size ⟨⟨1, nm, ⟨#[]⟩, bs, sf⟩, A, c⟩ := Tb.new w3 ⟨⟨1, nm, ⟨#[]⟩, bs, sf⟩, A, c⟩
          have hb4 := below_new w3 (.cells #[.int .i64 1, .string nm, .string ⟨#[]⟩, .slice A bs.length c, .bool sf] 44)
          have ho5 := (HO2.out.below hb3).below hb4
          have ho3 := HO2.out.below hb3
          have hfr5 : Fr w.heap.size (w3.alloc (.cells #[.int .i64 1, .string nm, .string ⟨#[]⟩, .slice A bs.length c, .bool sf] 44)) ⟨⟨1, nm, ⟨#[]⟩, bs, sf⟩, A, c⟩ := (hfr.mono (show w.heap.size ≤ w2.heap.size from HB2.out.size)).below hb4
          have hb5 := HB2.out.trans ((bt hb3 hb4).mono HB2.out.size)
          have hszn : nm.size ≤ 140737488351232 := by
            rw [← hnm, size_B, len_lowL]
            have := len_lead (by1 en) ((L s).drop (i + 1))
            rw [List.length_drop, size_L] at this
            show (lead (by1 en) _).length ≤ _
            omega
          have hl5 : l2.length ≤ 4000000000 := by have := HI.out.few; omega
          have HNM := Lib.hid hnm; have HAT := Lib.hid hat; have HX5 := Lib.hid hbox; have HO3 := Lib.hid ho3; have HO5 := Lib.hid ho5; have HF5 := Lib.hid hfr5; have HB5 := Lib.hid hb5; clear hnm hat hbox ho5 ho3 hfr5 hb5 hb3 hb4 hfr
          obtain ⟨k0, k1, k2, k3, k4⟩ := HX5.out.c
          go_upto_region 18 with fail
          try rw [HNM.out]
          obtain ⟨g11, hg11⟩ : ∃ g, w3.heap.size = g := ⟨_, rfl⟩
          have HG11 := Lib.hid hg11
          rw [hg11] at k0 k1 k2 k3 k4 HX5 ⊢
          clear hg11
          generalize w3.alloc (.cells #[.int .i64 1, .string nm, .string ⟨#[]⟩, .slice A bs.length c, .bool sf] 44) = W5 at *
          have hZ5 : w.heap.size ≤ W5.heap.size := HB5.out.size
          go_wp2_with (at_builtin; go_loud (refine app_tok2 W5 rfl (.tmp 76) (.tmp 78) rfl w.heap.size v2 l2 ⟨⟨1, nm, ⟨#[]⟩, bs, sf⟩, A, c⟩ rfl HO5.out.ow HF5.out.att HF5.out.ap W5.heap.size rfl rfl hl5 hZ5 ?_); intro v6 w6 how hk hf hg; obtain ⟨A6, c6, rfl⟩ := form1 how; have hbx6 := Tb.past HX5.out HO3.out hg (by rw [HG11.out]; exact Nat.le_refl _); have nmc := hbx6.c.2.1; have HK6 := Lib.hid hk; have HO6 := Lib.hid (Ot.add HO5.out HF5.out how hf); clear hk hf hg how hbx6 k0 k1 k2 k3 k4)
          have hb6 := HK6.out _ HB5.out
          have hl6 : (l2 ++ [(⟨⟨1, nm, ⟨#[]⟩, bs, sf⟩, A, c⟩ : Tw)]).length = l2.length + 1 := by simp
          refine (alone_any w.heap.size _ (l2 ++ [(⟨⟨1, nm, ⟨#[]⟩, bs, sf⟩, A, c⟩ : Tw)]) s nm n w6 HO6.out hb6.size hs2 hn (by omega) (by rw [hl6]; have := HI.out.few; omega)).mono ?_
          rintro e w7 ⟨v7, l7, m, rfl, ho7, ht7, hm7, hnm7, hd7, hl7, hz7, hb7⟩
          have hil7 : Il w w7 s W m v7 l7 ⟨#[]⟩ := by
            refine ⟨hm7, ho7, hb7 w hb6, by rw [hl6] at hl7; have := HI.out.few; omega, Nat.zero_le _, ?_⟩
            show tks l7 ++ fl [] _ = W
            have he := HI.out.eq
            rw [fl_some _ (by rw [HBG.out]; decide), mk_1 HBG.out, ← HDR.out 1, (start_yes HAT.out).1] at he
            have hln : lowL (upTo en ((L s).drop (i + 1))) = L nm := by rw [← HNM.out, L_B]
            rw [hln, B_L] at he
            rw [fl_nil, hd7, ht7, tks_append, HT2.out, ← he]
            simp only [List.append_assoc]
            rfl
          have HI7 := Lib.hid hil7; clear hil7 ho7 ht7 hd7 hb7 hl7 hz7 hb6
          go_wp2
          go_roundw
          case rel => exact ⟨m, l7, ⟨#[]⟩, rfl, rfl, HI7.out⟩
          case measure => simp [intOf]; omega
        · have hgt : decide ((n : Int) > (s.size : Int)) = true := decide_eq_true (by omega)
          have heq := HI.out.eq
          rw [fl_some _ (by rw [HBG.out]; decide), mk_1 HBG.out, ← HDR.out 1, (start_no hat).1] at heq
          have heq : tks l2 = W := by
            rw [HT2.out, ← heq]
            show _ = _ ++ (_ ++ ([] ++ cut []))
            rw [cut_nil, List.append_nil, List.append_nil]
          have HE := Lib.hid heq; have HO3 := Lib.hid (HO2.out.below hb3); have HB3 := Lib.hid (HB2.out.trans (hb3.mono HB2.out.size)); clear heq hat hb3
          go_wp2
          go_ret
          exact ⟨_, l2, rfl, HO3.out.below (below_new w3 _), HE.out, bt HB3.out (below_new w3 _)⟩
      by_cases h2 : n = 2
      · subst h2
        obtain ⟨q1, q2, q3, q4⟩ := F2.out rfl
        have Q1 := Lib.hid q1; have Q2 := Lib.hid q2; have Q3 := Lib.hid q3; have Q4 := Lib.hid q4; clear q1 q2 q3 q4
        go_wp2_with fail
        refine (refAt1 s _ i _ [60] true hs' (by omega) (by decide) (by decide) rfl Q1.out).mono ?_
        rintro e w' ⟨rfl, rfl⟩
        go_wp2_with fail
        refine (letterAt_any s (i + 1) _ false hs' Q2.out).mono ?_
        rintro e w' ⟨rfl, rfl⟩
        go_wp2_with fail
        refine (refAt1 s _ i _ [60, 47] true hs' (by omega) (by decide) (by decide) rfl Q3.out).mono ?_
        rintro e w' ⟨rfl, rfl⟩
        go_wp2_with fail
        refine (letterAt_any s (i + 2) _ true hs' Q4.out).mono ?_
        rintro e w' ⟨rfl, rfl⟩
        go_wp2_with fail
        have hi2 : i + 2 ≤ s.size := by
          have := pre_len Q3.out
          rw [List.length_drop, size_L] at this
          simp at this
          omega
        refine (told_any w.heap.size _ l u wr HI.out.own hN hu2 hl2).mono ?_
        rintro e w2 ⟨v2, l2, rfl, ho2, ht2, hl22, hz2, hg2, hb2⟩
        have hb2' := hb2 w HI.out.bel
        have HO2 := Lib.hid ho2; have HT2 := Lib.hid ht2; have HB2 := Lib.hid hb2'; clear ho2 ht2 hg2 hb2 hb2'
        go_wp2_with fail
        refine (refTag_any s (i + 2) w2 hs3 hi2).mono ?_
        rintro e w3 ⟨x, n, rfl, hb3, hx⟩
        rcases hx with ⟨hn, hin, hfr, bs, sf, hat, hxt⟩ | ⟨hn, hat⟩
        · obtain ⟨tk, A, c⟩ := x
          have hxt : tk = ⟨0, B (lowL (upTo en ((L s).drop (i + 2)))), ⟨#[]⟩, bs, sf⟩ := hxt
          obtain ⟨nm, hnm⟩ : ∃ n, B (lowL (upTo en ((L s).drop (i + 2)))) = n := ⟨_, rfl⟩
          rw [hnm] at hxt
          subst hxt
          have hgt : decide ((n : Int) > (s.size : Int)) = false := decide_eq_false (by omega)
          have hbox : Tb (w3.alloc (.cells #[.int .i64 0, .string nm, .string ⟨#[]⟩, .slice A bs.length c, .bool sf] 44)) w3.heap.size ⟨⟨0, nm, ⟨#[]⟩, bs, sf⟩, A, c⟩ := Tb.new w3 ⟨⟨0, nm, ⟨#[]⟩, bs, sf⟩, A, c⟩
          have hb4 := below_new w3 (.cells #[.int .i64 0, .string nm, .string ⟨#[]⟩, .slice A bs.length c, .bool sf] 44)
          have ho5 := (HO2.out.below hb3).below hb4
          have hb5 := HB2.out.trans ((bt hb3 hb4).mono HB2.out.size)
          have hfr5 : Fr w.heap.size (w3.alloc (.cells #[.int .i64 0, .string nm, .string ⟨#[]⟩, .slice A bs.length c, .bool sf] 44)) ⟨⟨2, nm, ⟨#[]⟩, [], false⟩, none, 0⟩ := fr_none _ _ _ rfl
          have hl5 : l2.length ≤ 4000000000 := by have := HI.out.few; omega
          have HNM := Lib.hid hnm; have HAT := Lib.hid hat; have HX5 := Lib.hid hbox; have HO5 := Lib.hid ho5; have HF5 := Lib.hid hfr5; have HB5 := Lib.hid hb5; clear hnm hat hbox ho5 hfr5 hb5 hb3 hb4 hfr
          obtain ⟨k0, k1, k2, k3, k4⟩ := HX5.out.c
          go_upto_region 16 with fail
          try rw [HNM.out]
          generalize w3.alloc (.cells #[.int .i64 0, .string nm, .string ⟨#[]⟩, .slice A bs.length c, .bool sf] 44) = W5 at *
          have hZ5 : w.heap.size ≤ W5.heap.size := HB5.out.size
          go_wp2_with (at_builtin; refine app_tok2 W5 rfl (.tmp 69) (.tmp 73) rfl w.heap.size v2 l2 ⟨⟨2, nm, ⟨#[]⟩, [], false⟩, none, 0⟩ rfl HO5.out.ow HF5.out.att HF5.out.ap W5.heap.size rfl rfl hl5 hZ5 ?_; intro v6 w6 how hk hf hg; obtain ⟨A6, c6, rfl⟩ := form1 how; have HK6 := Lib.hid hk; have HO6 := Lib.hid (Ot.add HO5.out HF5.out how hf); clear hk hf hg how k0 k1 k2 k3 k4)
          have hil7 : Il w w6 s W n (.slice A6 (l2.length + 1) c6) (l2 ++ [(⟨⟨2, nm, ⟨#[]⟩, [], false⟩, none, 0⟩ : Tw)]) ⟨#[]⟩ := by
            refine ⟨hn, HO6.out, HK6.out _ HB5.out, by rw [List.length_append]; have := HI.out.few; simp; omega, Nat.zero_le _, ?_⟩
            show tks _ ++ fl [] _ = W
            have he := HI.out.eq
            rw [fl_some _ (by rw [HBG.out]; decide), mk_2 HBG.out, ← HDR.out 2, (start_yes HAT.out).2, HNM.out] at he
            rw [fl_nil, tks_append, HT2.out, ← he]
            simp only [List.append_assoc]
            rfl
          have HI7 := Lib.hid hil7; clear hil7
          go_roundw
          case rel => exact ⟨n, _, ⟨#[]⟩, rfl, rfl, HI7.out⟩
          case measure => simp [intOf]; omega
        · have hgt : decide ((n : Int) > (s.size : Int)) = true := decide_eq_true (by omega)
          have heq := HI.out.eq
          rw [fl_some _ (by rw [HBG.out]; decide), mk_2 HBG.out, ← HDR.out 2, (start_no hat).2] at heq
          have heq : tks l2 = W := by
            rw [HT2.out, ← heq]
            show _ = _ ++ (_ ++ ([] ++ cut []))
            rw [cut_nil, List.append_nil, List.append_nil]
          have HE := Lib.hid heq; have HO3 := Lib.hid (HO2.out.below hb3); have HB3 := Lib.hid (HB2.out.trans (hb3.mono HB2.out.size)); clear heq hat hb3
          go_wp2
          go_ret
          exact ⟨_, l2, rfl, HO3.out.below (below_new w3 _), HE.out, bt HB3.out (below_new w3 _)⟩
      by_cases h3 : n = 3
      · subst h3
        obtain ⟨q1, q2, q3, q4, q5⟩ := F3.out rfl
        have Q1 := Lib.hid q1; have Q2 := Lib.hid q2; have Q3 := Lib.hid q3; have Q4 := Lib.hid q4; have Q5 := Lib.hid q5; clear q1 q2 q3 q4 q5
        go_wp2_with fail
        refine (refAt1 s _ i _ [60] true hs' (by omega) (by decide) (by decide) rfl Q1.out).mono ?_
        rintro e w' ⟨rfl, rfl⟩
        go_wp2_with fail
        refine (letterAt_any s (i + 1) _ false hs' Q2.out).mono ?_
        rintro e w' ⟨rfl, rfl⟩
        go_wp2_with fail
        refine (refAt1 s _ i _ [60, 47] true hs' (by omega) (by decide) (by decide) rfl Q3.out).mono ?_
        rintro e w' ⟨rfl, rfl⟩
        go_wp2_with fail
        refine (letterAt_any s (i + 2) _ false hs' Q4.out).mono ?_
        rintro e w' ⟨rfl, rfl⟩
        go_wp2_with fail
        refine (refAt1 s _ i _ [60] true hs' (by omega) (by decide) (by decide) rfl Q1.out).mono ?_
        rintro e w' ⟨rfl, rfl⟩
        go_wp2_with fail
        have hbw0 := below_new wr (.cells #[.int .i64 0, .string ⟨#[]⟩, .string ⟨#[]⟩, .slice none 0 0, .bool false] 44)
        have hx0 : Tb (wr.alloc (.cells #[.int .i64 0, .string ⟨#[]⟩, .string ⟨#[]⟩, .slice none 0 0, .bool false] 44)) wr.heap.size (T0 0 ⟨#[]⟩) := Tb.new wr (T0 0 ⟨#[]⟩)
        refine (note_any s i _ hs2 hp).mono ?_
        rintro e w2 ⟨kk, dd, n', rfl, hb2, hsome, hnone⟩
        have hx2 := hx0.below hb2
        have hb22 := bt hbw0 hb2
        obtain ⟨r0, r1, r2, r3, r4⟩ := hx2.z
        have z0 := hx2.f 0; have z1 := hx2.f 1; have z2 := hx2.f 2; have z3 := hx2.f 3; have z4 := hx2.f 4
        have hx3 := Tb.over0 hx2 kk dd
        have hb3 : Below wr.heap.size wr _ := below_over hb22 (Nat.le_refl wr.heap.size) (.int .i64 kk) (.string ⟨#[]⟩) (.string dd) (.slice none 0 0) (.bool false)
        have HX3 := Lib.hid hx3; have HB3 := Lib.hid hb3; have HSO := Lib.hid hsome; have HNN := Lib.hid hnone; clear hx0 hbw0 hb2 hx2 hb22 hx3 hb3 hsome hnone
        go_upto_region 23 with fail
        generalize ((((w2.setCell ⟨wr.heap.size, 0, none⟩ (.int .i64 kk)).setCell ⟨wr.heap.size, 1, none⟩ (.string ⟨#[]⟩)).setCell ⟨wr.heap.size, 2, none⟩ (.string dd)).setCell ⟨wr.heap.size, 3, none⟩ (.slice none 0 0)).setCell ⟨wr.heap.size, 4, none⟩ (.bool false) = W3 at *
        clear r0 r1 r2 r3 r4 z0 z1 z2 z3 z4
        obtain ⟨g13, hg13⟩ : ∃ g, wr.heap.size = g := ⟨_, rfl⟩
        rw [hg13] at HX3 ⊢
        have HG13 := Lib.hid hg13; clear hg13
        have ho3 := HI.out.own.below HB3.out
        have hN3 : w.heap.size ≤ W3.heap.size := Nat.le_trans hN HB3.out.size
        have hbel3 : Below w.heap.size w W3 := HI.out.bel.trans (HB3.out.mono hN)
        have HO3 := Lib.hid ho3; have HBE3 := Lib.hid hbel3; clear ho3 hbel3
        go_wp2_with fail
        refine (refAt1 s _ i _ [60, 47, 62] true hs' (by omega) (by decide) (by decide) rfl Q5.out).mono ?_
        rintro e w' ⟨rfl, rfl⟩
        go_wp2_with fail
        have hi3 : i + 3 ≤ s.size := by
          have := pre_len Q5.out
          rw [List.length_drop, size_L] at this
          simp at this
          omega
        refine (told_any w.heap.size _ l u W3 HO3.out hN3 hu2 hl2).mono ?_
        rintro e w4 ⟨v2, l2, rfl, ho2, ht2, hl22, hz2, hg2, hb2⟩
        have hil7 : Il w w4 s W (i + 3) v2 l2 ⟨#[]⟩ := by
          refine ⟨hi3, ho2, hb2 _ HBE3.out, by have := HI.out.few; omega, Nat.zero_le _, ?_⟩
          show tks l2 ++ fl [] _ = W
          have he := HI.out.eq
          rw [fl_some _ (by rw [HBG.out]; decide), mk_3 HBG.out, ← HDR.out 3] at he
          rw [fl_nil, ht2, ← he]
          simp only [List.append_assoc]
          rfl
        have HI7 := Lib.hid hil7; clear hil7 ho2 ht2 hg2 hb2 hz2
        go_wp2
        go_roundw
        case rel => exact ⟨i + 3, l2, ⟨#[]⟩, by go_num, rfl, HI7.out⟩
        case measure => simp [intOf]; omega
      by_cases h4 : 4 ≤ n
      · obtain ⟨q1, q2, q4, q5⟩ := F4.out h4
        have Q1 := Lib.hid q1; have Q2 := Lib.hid q2; have Q4 := Lib.hid q4; have Q5 := Lib.hid q5; clear q1 q2 q4 q5
        cases q3 : pre [60, 47] ((L s).drop i) with
        | true =>
          have Q3 := Lib.hid q3; clear q3
          go_wp2_with fail
          refine (refAt1 s _ i _ [60] true hs' (by omega) (by decide) (by decide) rfl Q1.out).mono ?_
          rintro e w' ⟨rfl, rfl⟩
          go_wp2_with fail
          refine (letterAt_any s (i + 1) _ false hs' Q2.out).mono ?_
          rintro e w' ⟨rfl, rfl⟩
          go_wp2_with fail
          refine (refAt1 s _ i _ [60, 47] true hs' (by omega) (by decide) (by decide) rfl Q3.out).mono ?_
          rintro e w' ⟨rfl, rfl⟩
          go_wp2_with fail
          refine (letterAt_any s (i + 2) _ false hs' (Q4.out Q3.out)).mono ?_
          rintro e w' ⟨rfl, rfl⟩
          go_wp2_with fail
          refine (refAt1 s _ i _ [60] true hs' (by omega) (by decide) (by decide) rfl Q1.out).mono ?_
          rintro e w' ⟨rfl, rfl⟩
          go_wp2_with fail
          have hbw0 := below_new wr (.cells #[.int .i64 0, .string ⟨#[]⟩, .string ⟨#[]⟩, .slice none 0 0, .bool false] 44)
          have hx0 : Tb (wr.alloc (.cells #[.int .i64 0, .string ⟨#[]⟩, .string ⟨#[]⟩, .slice none 0 0, .bool false] 44)) wr.heap.size (T0 0 ⟨#[]⟩) := Tb.new wr (T0 0 ⟨#[]⟩)
          refine (note_any s i _ hs2 hp).mono ?_
          rintro e w2 ⟨kk, dd, n', rfl, hb2, hsome, hnone⟩
          have hx2 := hx0.below hb2
          have hb22 := bt hbw0 hb2
          obtain ⟨r0, r1, r2, r3, r4⟩ := hx2.z
          have z0 := hx2.f 0; have z1 := hx2.f 1; have z2 := hx2.f 2; have z3 := hx2.f 3; have z4 := hx2.f 4
          have hx3 := Tb.over0 hx2 kk dd
          have hb3 : Below wr.heap.size wr _ := below_over hb22 (Nat.le_refl wr.heap.size) (.int .i64 kk) (.string ⟨#[]⟩) (.string dd) (.slice none 0 0) (.bool false)
          have HX3 := Lib.hid hx3; have HB3 := Lib.hid hb3; have HSO := Lib.hid hsome; have HNN := Lib.hid hnone; clear hx0 hbw0 hb2 hx2 hb22 hx3 hb3 hsome hnone
          go_upto_region 23 with fail
          generalize ((((w2.setCell ⟨wr.heap.size, 0, none⟩ (.int .i64 kk)).setCell ⟨wr.heap.size, 1, none⟩ (.string ⟨#[]⟩)).setCell ⟨wr.heap.size, 2, none⟩ (.string dd)).setCell ⟨wr.heap.size, 3, none⟩ (.slice none 0 0)).setCell ⟨wr.heap.size, 4, none⟩ (.bool false) = W3 at *
          clear r0 r1 r2 r3 r4 z0 z1 z2 z3 z4
          obtain ⟨g13, hg13⟩ : ∃ g, wr.heap.size = g := ⟨_, rfl⟩
          rw [hg13] at HX3 ⊢
          have HG13 := Lib.hid hg13; clear hg13
          have ho3 := HI.out.own.below HB3.out
          have hN3 : w.heap.size ≤ W3.heap.size := Nat.le_trans hN HB3.out.size
          have hbel3 : Below w.heap.size w W3 := HI.out.bel.trans (HB3.out.mono hN)
          have HO3 := Lib.hid ho3; have HBE3 := Lib.hid hbel3; clear ho3 hbel3
          obtain ⟨k', d', r', hno, hmk⟩ := HNO.out.1 h4
          obtain ⟨hx, hn, hin⟩ := HSO.out _ hno
          have hmk : mk ((L s).drop i) = ([⟨kk, B [], dd, [], false⟩], (L s).drop n') := by
            have e1 : k' = kk := congrArg (·.1) hx
            have e2 : d' = dd := congrArg (·.2.1) hx
            have e3 : r' = (L s).drop n' := congrArg (·.2.2) hx
            rw [hmk, e1, e2, e3]
          have HMK := Lib.hid hmk; clear hno hx hmk
          have hnb : ((n' : Int) == (i : Int)) = false := by rw [beq_eq_false_iff_ne]; omega
          go_wp2_with fail
          refine (refAt1 s _ i _ [60, 47, 62] false hs' (by omega) (by decide) (by decide) rfl Q5.out).mono ?_
          rintro e w' ⟨rfl, rfl⟩
          go_wp2_with fail
          refine (told_any w.heap.size _ l u W3 HO3.out hN3 hu2 hl2).mono ?_
          rintro e w4 ⟨v2, l2, rfl, ho2, ht2, hl22, hz2, hg2, hb2⟩
          have hx4 := Tb.past HX3.out HI.out.own hg2 (Nat.le_of_eq HG13.out)
          obtain ⟨k0, k1, k2, k3, k4⟩ := hx4.z
          have hb4 := hb2 _ HBE3.out
          have hZ4 : w.heap.size ≤ w4.heap.size := hb4.size
          have hfr4 : Fr w.heap.size w4 (T0 kk dd) := fr_none _ _ _ rfl
          have hl5 : l2.length ≤ 4000000000 := by have := HI.out.few; omega
          have HO4 := Lib.hid ho2; have HT4 := Lib.hid ht2; have HB4 := Lib.hid hb4; have HF4 := Lib.hid hfr4; clear ho2 ht2 hb4 hfr4 hg2 hb2 hz2 hx4
          go_wp2_with (at_builtin; refine app_tok2 w4 rfl (.tmp 123) (.tmp 125) rfl w.heap.size v2 l2 (T0 kk dd) rfl HO4.out.ow HF4.out.att HF4.out.ap w4.heap.size rfl rfl hl5 hZ4 ?_; intro v6 w6 how hk hf hg; obtain ⟨A6, c6, rfl⟩ := form1 how; have HK6 := Lib.hid hk; have HO6 := Lib.hid (Ot.add HO4.out HF4.out how hf); clear hk hf hg how k0 k1 k2 k3 k4)
          have hil7 : Il w w6 s W n' (.slice A6 (l2.length + 1) c6) (l2 ++ [T0 kk dd]) ⟨#[]⟩ := by
            refine ⟨hn, HO6.out, HK6.out _ HB4.out, by rw [List.length_append]; have := HI.out.few; simp; omega, Nat.zero_le _, ?_⟩
            show tks _ ++ fl [] _ = W
            have he := HI.out.eq
            rw [fl_some _ (by rw [HBG.out]; omega), HMK.out] at he
            rw [fl_nil, tks_append, HT4.out, ← he]
            simp only [List.append_assoc]
            rfl
          have HI7 := Lib.hid hil7; clear hil7
          go_roundw
          case rel => exact ⟨n', _, ⟨#[]⟩, rfl, rfl, HI7.out⟩
          case measure => simp [intOf]; omega
        | false =>
          have Q3 := Lib.hid q3; clear q3
          go_wp2_with fail
          refine (refAt1 s _ i _ [60] true hs' (by omega) (by decide) (by decide) rfl Q1.out).mono ?_
          rintro e w' ⟨rfl, rfl⟩
          go_wp2_with fail
          refine (letterAt_any s (i + 1) _ false hs' Q2.out).mono ?_
          rintro e w' ⟨rfl, rfl⟩
          go_wp2_with fail
          refine (refAt1 s _ i _ [60, 47] false hs' (by omega) (by decide) (by decide) rfl Q3.out).mono ?_
          rintro e w' ⟨rfl, rfl⟩
          go_wp2_with fail
          refine (refAt1 s _ i _ [60] true hs' (by omega) (by decide) (by decide) rfl Q1.out).mono ?_
          rintro e w' ⟨rfl, rfl⟩
          go_wp2_with fail
          have hbw0 := below_new wr (.cells #[.int .i64 0, .string ⟨#[]⟩, .string ⟨#[]⟩, .slice none 0 0, .bool false] 44)
          have hx0 : Tb (wr.alloc (.cells #[.int .i64 0, .string ⟨#[]⟩, .string ⟨#[]⟩, .slice none 0 0, .bool false] 44)) wr.heap.size (T0 0 ⟨#[]⟩) := Tb.new wr (T0 0 ⟨#[]⟩)
          refine (note_any s i _ hs2 hp).mono ?_
          rintro e w2 ⟨kk, dd, n', rfl, hb2, hsome, hnone⟩
          have hx2 := hx0.below hb2
          have hb22 := bt hbw0 hb2
          obtain ⟨r0, r1, r2, r3, r4⟩ := hx2.z
          have z0 := hx2.f 0; have z1 := hx2.f 1; have z2 := hx2.f 2; have z3 := hx2.f 3; have z4 := hx2.f 4
          have hx3 := Tb.over0 hx2 kk dd
          have hb3 : Below wr.heap.size wr _ := below_over hb22 (Nat.le_refl wr.heap.size) (.int .i64 kk) (.string ⟨#[]⟩) (.string dd) (.slice none 0 0) (.bool false)
          have HX3 := Lib.hid hx3; have HB3 := Lib.hid hb3; have HSO := Lib.hid hsome; have HNN := Lib.hid hnone; clear hx0 hbw0 hb2 hx2 hb22 hx3 hb3 hsome hnone
          go_upto_region 23 with fail
          generalize ((((w2.setCell ⟨wr.heap.size, 0, none⟩ (.int .i64 kk)).setCell ⟨wr.heap.size, 1, none⟩ (.string ⟨#[]⟩)).setCell ⟨wr.heap.size, 2, none⟩ (.string dd)).setCell ⟨wr.heap.size, 3, none⟩ (.slice none 0 0)).setCell ⟨wr.heap.size, 4, none⟩ (.bool false) = W3 at *
          clear r0 r1 r2 r3 r4 z0 z1 z2 z3 z4
          obtain ⟨g13, hg13⟩ : ∃ g, wr.heap.size = g := ⟨_, rfl⟩
          rw [hg13] at HX3 ⊢
          have HG13 := Lib.hid hg13; clear hg13
          have ho3 := HI.out.own.below HB3.out
          have hN3 : w.heap.size ≤ W3.heap.size := Nat.le_trans hN HB3.out.size
          have hbel3 : Below w.heap.size w W3 := HI.out.bel.trans (HB3.out.mono hN)
          have HO3 := Lib.hid ho3; have HBE3 := Lib.hid hbel3; clear ho3 hbel3
          obtain ⟨k', d', r', hno, hmk⟩ := HNO.out.1 h4
          obtain ⟨hx, hn, hin⟩ := HSO.out _ hno
          have hmk : mk ((L s).drop i) = ([⟨kk, B [], dd, [], false⟩], (L s).drop n') := by
            have e1 : k' = kk := congrArg (·.1) hx
            have e2 : d' = dd := congrArg (·.2.1) hx
            have e3 : r' = (L s).drop n' := congrArg (·.2.2) hx
            rw [hmk, e1, e2, e3]
          have HMK := Lib.hid hmk; clear hno hx hmk
          have hnb : ((n' : Int) == (i : Int)) = false := by rw [beq_eq_false_iff_ne]; omega
          go_wp2_with fail
          refine (refAt1 s _ i _ [60, 47, 62] false hs' (by omega) (by decide) (by decide) rfl Q5.out).mono ?_
          rintro e w' ⟨rfl, rfl⟩
          go_wp2_with fail
          refine (told_any w.heap.size _ l u W3 HO3.out hN3 hu2 hl2).mono ?_
          rintro e w4 ⟨v2, l2, rfl, ho2, ht2, hl22, hz2, hg2, hb2⟩
          have hx4 := Tb.past HX3.out HI.out.own hg2 (Nat.le_of_eq HG13.out)
          obtain ⟨k0, k1, k2, k3, k4⟩ := hx4.z
          have hb4 := hb2 _ HBE3.out
          have hZ4 : w.heap.size ≤ w4.heap.size := hb4.size
          have hfr4 : Fr w.heap.size w4 (T0 kk dd) := fr_none _ _ _ rfl
          have hl5 : l2.length ≤ 4000000000 := by have := HI.out.few; omega
          have HO4 := Lib.hid ho2; have HT4 := Lib.hid ht2; have HB4 := Lib.hid hb4; have HF4 := Lib.hid hfr4; clear ho2 ht2 hb4 hfr4 hg2 hb2 hz2 hx4
          go_wp2_with (at_builtin; refine app_tok2 w4 rfl (.tmp 123) (.tmp 125) rfl w.heap.size v2 l2 (T0 kk dd) rfl HO4.out.ow HF4.out.att HF4.out.ap w4.heap.size rfl rfl hl5 hZ4 ?_; intro v6 w6 how hk hf hg; obtain ⟨A6, c6, rfl⟩ := form1 how; have HK6 := Lib.hid hk; have HO6 := Lib.hid (Ot.add HO4.out HF4.out how hf); clear hk hf hg how k0 k1 k2 k3 k4)
          have hil7 : Il w w6 s W n' (.slice A6 (l2.length + 1) c6) (l2 ++ [T0 kk dd]) ⟨#[]⟩ := by
            refine ⟨hn, HO6.out, HK6.out _ HB4.out, by rw [List.length_append]; have := HI.out.few; simp; omega, Nat.zero_le _, ?_⟩
            show tks _ ++ fl [] _ = W
            have he := HI.out.eq
            rw [fl_some _ (by rw [HBG.out]; omega), HMK.out] at he
            rw [fl_nil, tks_append, HT4.out, ← he]
            simp only [List.append_assoc]
            rfl
          have HI7 := Lib.hid hil7; clear hil7
          go_roundw
          case rel => exact ⟨n', _, ⟨#[]⟩, rfl, rfl, HI7.out⟩
          case measure => simp [intOf]; omega
      have h0 : n = 0 := by omega
      subst h0
      obtain ⟨q2, q4, q5⟩ := F0.out rfl
      have Q2 := Lib.hid q2; have Q4 := Lib.hid q4; have Q5 := Lib.hid q5; clear q2 q4 q5
      cases q1 : pre [60] ((L s).drop i) with
      | true =>
        have Q1 := Lib.hid q1; clear q1
        cases q3 : pre [60, 47] ((L s).drop i) with
        | true =>
          have Q3 := Lib.hid q3; clear q3
          go_wp2_with fail
          refine (refAt1 s _ i _ [60] true hs' (by omega) (by decide) (by decide) rfl Q1.out).mono ?_
          rintro e w' ⟨rfl, rfl⟩
          go_wp2_with fail
          refine (letterAt_any s (i + 1) _ false hs' (Q2.out Q1.out)).mono ?_
          rintro e w' ⟨rfl, rfl⟩
          go_wp2_with fail
          refine (refAt1 s _ i _ [60, 47] true hs' (by omega) (by decide) (by decide) rfl Q3.out).mono ?_
          rintro e w' ⟨rfl, rfl⟩
          go_wp2_with fail
          refine (letterAt_any s (i + 2) _ false hs' (Q4.out Q3.out)).mono ?_
          rintro e w' ⟨rfl, rfl⟩
          go_wp2_with fail
          refine (refAt1 s _ i _ [60] true hs' (by omega) (by decide) (by decide) rfl Q1.out).mono ?_
          rintro e w' ⟨rfl, rfl⟩
          go_wp2_with fail
          have hbw0 := below_new wr (.cells #[.int .i64 0, .string ⟨#[]⟩, .string ⟨#[]⟩, .slice none 0 0, .bool false] 44)
          have hx0 : Tb (wr.alloc (.cells #[.int .i64 0, .string ⟨#[]⟩, .string ⟨#[]⟩, .slice none 0 0, .bool false] 44)) wr.heap.size (T0 0 ⟨#[]⟩) := Tb.new wr (T0 0 ⟨#[]⟩)
          refine (note_any s i _ hs2 hp).mono ?_
          rintro e w2 ⟨kk, dd, n', rfl, hb2, hsome, hnone⟩
          have hx2 := hx0.below hb2
          have hb22 := bt hbw0 hb2
          obtain ⟨r0, r1, r2, r3, r4⟩ := hx2.z
          have z0 := hx2.f 0; have z1 := hx2.f 1; have z2 := hx2.f 2; have z3 := hx2.f 3; have z4 := hx2.f 4
          have hx3 := Tb.over0 hx2 kk dd
          have hb3 : Below wr.heap.size wr _ := below_over hb22 (Nat.le_refl wr.heap.size) (.int .i64 kk) (.string ⟨#[]⟩) (.string dd) (.slice none 0 0) (.bool false)
          have HX3 := Lib.hid hx3; have HB3 := Lib.hid hb3; have HSO := Lib.hid hsome; have HNN := Lib.hid hnone; clear hx0 hbw0 hb2 hx2 hb22 hx3 hb3 hsome hnone
          go_upto_region 23 with fail
          generalize ((((w2.setCell ⟨wr.heap.size, 0, none⟩ (.int .i64 kk)).setCell ⟨wr.heap.size, 1, none⟩ (.string ⟨#[]⟩)).setCell ⟨wr.heap.size, 2, none⟩ (.string dd)).setCell ⟨wr.heap.size, 3, none⟩ (.slice none 0 0)).setCell ⟨wr.heap.size, 4, none⟩ (.bool false) = W3 at *
          clear r0 r1 r2 r3 r4 z0 z1 z2 z3 z4
          obtain ⟨g13, hg13⟩ : ∃ g, wr.heap.size = g := ⟨_, rfl⟩
          rw [hg13] at HX3 ⊢
          have HG13 := Lib.hid hg13; clear hg13
          have ho3 := HI.out.own.below HB3.out
          have hN3 : w.heap.size ≤ W3.heap.size := Nat.le_trans hN HB3.out.size
          have hbel3 : Below w.heap.size w W3 := HI.out.bel.trans (HB3.out.mono hN)
          have HO3 := Lib.hid ho3; have HBE3 := Lib.hid hbel3; clear ho3 hbel3
          have hni : n' = i := HNN.out (HNO.out.2 (by simp) Q1.out)
          rw [hni]
          clear hni HSO HNN
          go_wp2_with fail
          refine (refAt1 s _ i _ [60, 47, 62] false hs' (by omega) (by decide) (by decide) rfl Q5.out).mono ?_
          rintro e w' ⟨rfl, rfl⟩
          have hus : (u.size : Int) + ((s.extract i (i + 1)).size : Int) ≤ 9223372036854775807 := by
            have h1 := size_extract s i (i + 1)
            have h2 := HI.out.uz
            omega
          have i0 : (0 : Int) ≤ (i : Int) := by omega
          have i1 : (i : Int) ≤ (i : Int) + 1 := by omega
          have i2 : (i : Int) + 1 ≤ (s.size : Int) := by omega
          have hil7 : Il w W3 s W (i + 1) u5 l (u ++ s.extract i (i + 1)) := by
            refine ⟨by omega, HO3.out, HBE3.out, by have := HI.out.few; omega, ?_, ?_⟩
            · rw [size_append]
              have h2 := HI.out.uz
              have : (s.extract i (i + 1)).size = 1 := by rw [← size_L, L_extract, drop_cons s i hp, show i + 1 - i = 1 from by omega]; rfl
              omega
            · rw [L_snoc u s i hp]
              have he := HI.out.eq
              have hb := HBG.out
              rw [drop_cons s i hp] at he hb
              rw [fl_none _ hb] at he
              exact he
          have HI7 := Lib.hid hil7; clear hil7
          go_wp2
          go_roundw
          case rel => exact ⟨i + 1, l, _, by go_num, rfl, HI7.out⟩
          case measure => simp [intOf]; omega
        | false =>
          have Q3 := Lib.hid q3; clear q3
          go_wp2_with fail
          refine (refAt1 s _ i _ [60] true hs' (by omega) (by decide) (by decide) rfl Q1.out).mono ?_
          rintro e w' ⟨rfl, rfl⟩
          go_wp2_with fail
          refine (letterAt_any s (i + 1) _ false hs' (Q2.out Q1.out)).mono ?_
          rintro e w' ⟨rfl, rfl⟩
          go_wp2_with fail
          refine (refAt1 s _ i _ [60, 47] false hs' (by omega) (by decide) (by decide) rfl Q3.out).mono ?_
          rintro e w' ⟨rfl, rfl⟩
          go_wp2_with fail
          refine (refAt1 s _ i _ [60] true hs' (by omega) (by decide) (by decide) rfl Q1.out).mono ?_
          rintro e w' ⟨rfl, rfl⟩
          go_wp2_with fail
          have hbw0 := below_new wr (.cells #[.int .i64 0, .string ⟨#[]⟩, .string ⟨#[]⟩, .slice none 0 0, .bool false] 44)
          have hx0 : Tb (wr.alloc (.cells #[.int .i64 0, .string ⟨#[]⟩, .string ⟨#[]⟩, .slice none 0 0, .bool false] 44)) wr.heap.size (T0 0 ⟨#[]⟩) := Tb.new wr (T0 0 ⟨#[]⟩)
          refine (note_any s i _ hs2 hp).mono ?_
          rintro e w2 ⟨kk, dd, n', rfl, hb2, hsome, hnone⟩
          have hx2 := hx0.below hb2
          have hb22 := bt hbw0 hb2
          obtain ⟨r0, r1, r2, r3, r4⟩ := hx2.z
          have z0 := hx2.f 0; have z1 := hx2.f 1; have z2 := hx2.f 2; have z3 := hx2.f 3; have z4 := hx2.f 4
          have hx3 := Tb.over0 hx2 kk dd
          have hb3 : Below wr.heap.size wr _ := below_over hb22 (Nat.le_refl wr.heap.size) (.int .i64 kk) (.string ⟨#[]⟩) (.string dd) (.slice none 0 0) (.bool false)
          have HX3 := Lib.hid hx3; have HB3 := Lib.hid hb3; have HSO := Lib.hid hsome; have HNN := Lib.hid hnone; clear hx0 hbw0 hb2 hx2 hb22 hx3 hb3 hsome hnone
          go_upto_region 23 with fail
          generalize ((((w2.setCell ⟨wr.heap.size, 0, none⟩ (.int .i64 kk)).setCell ⟨wr.heap.size, 1, none⟩ (.string ⟨#[]⟩)).setCell ⟨wr.heap.size, 2, none⟩ (.string dd)).setCell ⟨wr.heap.size, 3, none⟩ (.slice none 0 0)).setCell ⟨wr.heap.size, 4, none⟩ (.bool false) = W3 at *
          clear r0 r1 r2 r3 r4 z0 z1 z2 z3 z4
          obtain ⟨g13, hg13⟩ : ∃ g, wr.heap.size = g := ⟨_, rfl⟩
          rw [hg13] at HX3 ⊢
          have HG13 := Lib.hid hg13; clear hg13
          have ho3 := HI.out.own.below HB3.out
          have hN3 : w.heap.size ≤ W3.heap.size := Nat.le_trans hN HB3.out.size
          have hbel3 : Below w.heap.size w W3 := HI.out.bel.trans (HB3.out.mono hN)
          have HO3 := Lib.hid ho3; have HBE3 := Lib.hid hbel3; clear ho3 hbel3
          have hni : n' = i := HNN.out (HNO.out.2 (by simp) Q1.out)
          rw [hni]
          clear hni HSO HNN
          go_wp2_with fail
          refine (refAt1 s _ i _ [60, 47, 62] false hs' (by omega) (by decide) (by decide) rfl Q5.out).mono ?_
          rintro e w' ⟨rfl, rfl⟩
          have hus : (u.size : Int) + ((s.extract i (i + 1)).size : Int) ≤ 9223372036854775807 := by
            have h1 := size_extract s i (i + 1)
            have h2 := HI.out.uz
            omega
          have i0 : (0 : Int) ≤ (i : Int) := by omega
          have i1 : (i : Int) ≤ (i : Int) + 1 := by omega
          have i2 : (i : Int) + 1 ≤ (s.size : Int) := by omega
          have hil7 : Il w W3 s W (i + 1) u5 l (u ++ s.extract i (i + 1)) := by
            refine ⟨by omega, HO3.out, HBE3.out, by have := HI.out.few; omega, ?_, ?_⟩
            · rw [size_append]
              have h2 := HI.out.uz
              have : (s.extract i (i + 1)).size = 1 := by rw [← size_L, L_extract, drop_cons s i hp, show i + 1 - i = 1 from by omega]; rfl
              omega
            · rw [L_snoc u s i hp]
              have he := HI.out.eq
              have hb := HBG.out
              rw [drop_cons s i hp] at he hb
              rw [fl_none _ hb] at he
              exact he
          have HI7 := Lib.hid hil7; clear hil7
          go_wp2
          go_roundw
          case rel => exact ⟨i + 1, l, _, by go_num, rfl, HI7.out⟩
          case measure => simp [intOf]; omega
      | false =>
        have Q1 := Lib.hid q1
        have Q3 := Lib.hid (show pre [60, 47] ((L s).drop i) = false by
          rw [drop_cons s i hp] at q1 ⊢
          rw [pre_cons] at q1 ⊢
          rw [pre_nil, Bool.and_true] at q1
          rw [q1]; rfl)
        clear q1
        go_wp2_with fail
        refine (refAt1 s _ i _ [60] false hs' (by omega) (by decide) (by decide) rfl Q1.out).mono ?_
        rintro e w' ⟨rfl, rfl⟩
        go_wp2_with fail
        refine (refAt1 s _ i _ [60, 47] false hs' (by omega) (by decide) (by decide) rfl Q3.out).mono ?_
        rintro e w' ⟨rfl, rfl⟩
        go_wp2_with fail
        refine (refAt1 s _ i _ [60] false hs' (by omega) (by decide) (by decide) rfl Q1.out).mono ?_
        rintro e w' ⟨rfl, rfl⟩
        go_wp2_with fail
        refine (refAt1 s _ i _ [60, 47, 62] false hs' (by omega) (by decide) (by decide) rfl Q5.out).mono ?_
        rintro e w' ⟨rfl, rfl⟩
        have hbw0 := below_new wr (.cells #[.int .i64 0, .string ⟨#[]⟩, .string ⟨#[]⟩, .slice none 0 0, .bool false] 44)
        have HO3 := Lib.hid (HI.out.own.below hbw0); have HBE3 := Lib.hid (bt (show Below wr.heap.size wr wr from Below.refl _ _) hbw0); clear hbw0
        have HBE3 := Lib.hid (HI.out.bel.trans (HBE3.out.mono hN))
        have hus : (u.size : Int) + ((s.extract i (i + 1)).size : Int) ≤ 9223372036854775807 := by
          have h1 := size_extract s i (i + 1)
          have h2 := HI.out.uz
          omega
        have i0 : (0 : Int) ≤ (i : Int) := by omega
        have i1 : (i : Int) ≤ (i : Int) + 1 := by omega
        have i2 : (i : Int) + 1 ≤ (s.size : Int) := by omega
        have hil7 : Il w (wr.alloc (.cells #[.int .i64 0, .string ⟨#[]⟩, .string ⟨#[]⟩, .slice none 0 0, .bool false] 44)) s W (i + 1) u5 l (u ++ s.extract i (i + 1)) := by
          refine ⟨by omega, HO3.out, HBE3.out, by have := HI.out.few; omega, ?_, ?_⟩
          · rw [size_append]
            have h2 := HI.out.uz
            have : (s.extract i (i + 1)).size = 1 := by rw [← size_L, L_extract, drop_cons s i hp, show i + 1 - i = 1 from by omega]; rfl
            omega
          · rw [L_snoc u s i hp]
            have he := HI.out.eq
            have hb := HBG.out
            rw [drop_cons s i hp] at he hb
            rw [fl_none _ hb] at he
            exact he
        have HI7 := Lib.hid hil7; clear hil7
        go_wp2
        go_roundw
        case rel => exact ⟨i + 1, l, _, by go_num, rfl, HI7.out⟩
        case measure => simp [intOf]; omega
    · have hlt : decide ((i : Int) < s.size) = false := decide_eq_false (by omega)
      go_wp2_with fail
      refine (told_any w.heap.size _ l u wr HI.out.own hN hu2 hl2).mono ?_
      rintro e w2 ⟨v2, l2, rfl, ho2, ht2, hl22, hz2, hg2, hb2⟩
      have heq := HI.out.eq
      rw [drop_nil s i hp, fl_end, ← ht2] at heq
      have HO2 := Lib.hid ho2; have HE := Lib.hid heq; have HB2 := Lib.hid (hb2 w HI.out.bel); clear ho2 ht2 hg2 hb2 heq
      go_wp2
      go_ret
      exact ⟨_, l2, rfl, HO2.out, HE.out, HB2.out⟩

end Go.Proofs.YtdplbcchkjpcdaaGreatDoor.To

namespace Go.Proofs.YtdplbcchkjpcdaaGreatDoor.To
set_option maxRecDepth 100000
set_option linter.unusedSimpArgs false
set_option linter.unusedVariables false
open Go.RowKit Ba Fm Fo Tm Sm
open Ro (below_new At acells len_acells Sh Ra range2)
open Re (Tab)
theorem refIn1 (s nm : ByteArray) (w : World) (t : List Tk) (hs : s.size ≤ 500000) (hn : nm.size ≤ 140737488351232) (ht : within (L nm) (L s) = t) :
    Calls Tryz.prog 13 #[.string s, .string nm] w fun e w' => ∃ V, e = .returned V ∧ Tv w' V t ∧ Below w.heap.size w w' := by
  refine (refIn_any s nm w hs hn).mono ?_
  rintro e w' ⟨V, l, he, ho, hl, hb⟩
  exact ⟨V, he, by rw [← ht, ← hl]; exact ho.tv, hb⟩

/-- What spoil writes: the tokens' cells, and those of their attributes. -/
def Sp (w : World) (N g : Nat) (l : List Tw) : Prop :=
  (∃ cur : Array Value, w.heap[g]? = some (.cells cur 44 (0, 0)) ∧ l.length * 5 ≤ cur.size ∧ ∀ j (h : j < l.length), cur[j * 5 + 3]? = some (.slice l[j].A l[j].tk.attrs.length l[j].c)) ∧
  ∀ j (h : j < l.length), 0 < l[j].tk.attrs.length → ∃ b, ∃ cur : Array Value, l[j].A = some ⟨b, 0, none⟩ ∧ N ≤ b ∧ w.heap[b]? = some (.cells cur 66 (0, 0)) ∧ l[j].tk.attrs.length * 2 ≤ cur.size
theorem heap_set (w : World) (g o : Nat) (v : Value) (cur : Array Value) (t : TypeId) (h : w.heap[g]? = some (.cells cur t (0, 0))) : (w.setCell ⟨g, o, none⟩ v).heap[g]? = some (.cells (cur.setIfInBounds o v) t (0, 0)) := by
  simp [World.setCell, Array.getElem?_modify, h]
theorem heap_set_ne (w : World) (g o b : Nat) (v : Value) (hne : g ≠ b) : (w.setCell ⟨g, o, none⟩ v).heap[b]? = w.heap[b]? := by
  simp [World.setCell, Array.getElem?_modify, hne]
theorem type_ne {w : World} {g b : Nat} {c1 c2 : Array Value} (h1 : w.heap[g]? = some (.cells c1 44 (0, 0))) (h2 : w.heap[b]? = some (.cells c2 66 (0, 0))) : g ≠ b := fun e => by
  subst e
  rw [h1] at h2
  injection h2 with h2
  injection h2 with _ h2
  exact absurd h2 (by decide)
/-- A token's name is written. -/
theorem Sp.name {w : World} {N g : Nat} {l : List Tw} (h : Sp w N g l) (i : Nat) (v : Value) : Sp (w.setCell ⟨g, i * 5 + 1, none⟩ v) N g l := by
  obtain ⟨⟨cur, hc, hs, hr⟩, ha⟩ := h
  refine ⟨⟨_, heap_set w g _ v cur _ hc, by simpa using hs, fun j hj => ?_⟩, fun j hj h0 => ?_⟩
  · rw [Array.getElem?_setIfInBounds_ne (by omega)]
    exact hr j hj
  · obtain ⟨b, cb, e, hb, hcb, hsb⟩ := ha j hj h0
    exact ⟨b, cb, e, hb, by rw [heap_set_ne w g _ b v (type_ne hc hcb)]; exact hcb, hsb⟩
/-- An attribute's name is written. -/
theorem Sp.attr {w : World} {N g b : Nat} {l : List Tw} (h : Sp w N g l) {cb : Array Value} (hb : w.heap[b]? = some (.cells cb 66 (0, 0))) (o : Nat) (v : Value) : Sp (w.setCell ⟨b, o, none⟩ v) N g l := by
  obtain ⟨⟨cur, hc, hs, hr⟩, ha⟩ := h
  have hne := type_ne hc hb
  refine ⟨⟨cur, by rw [heap_set_ne w b o g v hne.symm]; exact hc, hs, hr⟩, fun j hj h0 => ?_⟩
  obtain ⟨b2, c2, e, hb2, hc2, hs2⟩ := ha j hj h0
  by_cases hbb : b = b2
  · subst hbb
    exact ⟨b, _, e, hb2, heap_set w b o v c2 _ hc2, by simpa using hs2⟩
  · exact ⟨b2, c2, e, hb2, by rw [heap_set_ne w b o b2 v hbb]; exact hc2, hs2⟩
theorem flat_at5 (l : List Tw) (j i : Nat) (hj : j < l.length) (hi : i < 5) : (l.flatMap cells)[j * 5 + i]? = (cells l[j])[i]? := Ro.flat_at cells 5 len_cells l j i hj hi
theorem Ot.sp {N : Nat} {w : World} {v : Value} {l : List Tw} (h : Ot N w v l) (h0 : 0 < l.length) : ∃ g c, v = .slice (some ⟨g, 0, none⟩) l.length c ∧ N ≤ g ∧ l.length ≤ c ∧ Sp w N g l := by
  rcases h.1.2 with ⟨_, hn⟩ | ⟨g, cap, cur, hv, hg, hh, hn, hm, hsz, ht⟩
  · omega
  · refine ⟨g, cap, hv, hg, hn, ⟨cur, hh, by rw [hsz]; exact Nat.mul_le_mul_right 5 hn, fun j hj => ?_⟩, fun j hj hj0 => ?_⟩
    · have h1 := flat_at5 l j 3 hj (by omega)
      have h2 : (cur.toList.take (l.length * 5))[j * 5 + 3]? = cur[j * 5 + 3]? := by
        rw [List.getElem?_take, if_pos (by omega)]
        simp
      rw [ht, h1] at h2
      exact h2.symm
    · rcases (h.2 _ (List.getElem_mem hj)).1.2 with ⟨_, hn'⟩ | ⟨g', cap', cur', hv', hg', hh', hn', hm', hsz', ht'⟩
      · omega
      · injection hv' with e1 _ _
        exact ⟨g', cur', e1, hg', hh', by rw [hsz']; exact Nat.mul_le_mul_right 2 hn'⟩

theorem Sp.cells {w : World} {N g : Nat} {l : List Tw} (h : Sp w N g l) (j : Nat) (hj : j < l.length) :
    (∃ v, w.cell? ⟨g, j * 5 + 1, none⟩ = some v) ∧ w.cell? ⟨g, j * 5 + 3, none⟩ = some (.slice l[j].A l[j].tk.attrs.length l[j].c) ∧ w.frozen? ⟨g, j * 5 + 1, none⟩ = false := by
  obtain ⟨⟨cur, hc, hs, hr⟩, _⟩ := h
  refine ⟨⟨cur[j * 5 + 1]'(by omega), ?_⟩, ?_, ?_⟩
  · rw [cell_of_row w g _ _ _ _ hc]
    exact Array.getElem?_eq_getElem (by omega)
  · rw [cell_of_row w g _ _ _ _ hc]
    exact hr j hj
  · simp [World.frozen?, hc]

end Go.Proofs.YtdplbcchkjpcdaaGreatDoor.To

namespace Go.Proofs.YtdplbcchkjpcdaaGreatDoor.Ch
set_option maxRecDepth 100000
set_option linter.unusedSimpArgs false
set_option linter.unusedVariables false
open Go.RowKit
def innI (s : ByteArray) (a lo hi : Int) : Bool := decide (a.toNat < s.size) && (decide (lo ≤ (at' (L s) a.toNat : Int)) && decide ((at' (L s) a.toNat : Int) ≤ hi))

theorem at_eq (s : ByteArray) (k : Nat) (h : k < s.size) : at' (L s) k = s[k].toNat := by
  unfold at'
  rw [List.getD_eq_getElem?_getD, List.getElem?_eq_getElem (by rw [size_L]; exact h)]
  rfl

theorem innI_of (s : ByteArray) (k : Nat) (h : k < s.size) (lo hi : Int) : innI s k lo hi = (decide (lo ≤ (s[k].toNat : Int)) && decide ((s[k].toNat : Int) ≤ hi)) := by
  unfold innI
  rw [Int.toNat_natCast, at_eq s k h]
  simp [h]

set_option maxHeartbeats 400000 in
theorem in_any (s : ByteArray) (a lo hi : Int) (w : World) (h0 : 0 ≤ a) :
    Calls Tryz.prog 107 #[.string s, .int .i64 a, .int .i64 lo, .int .i64 hi] w fun e w' => e = .returned (.bool (innI s a lo hi)) ∧ w = w' := by
  obtain ⟨k, rfl⟩ := Int.eq_ofNat_of_zero_le h0
  by_cases hk : k < s.size
  · have hb := s[k].toNat_lt
    by_cases hl : lo ≤ (s[k].toNat : Int)
    · go_enter Tryz.func107, Tryz.ntmps107
      go_wp2
      go_ret
      refine ⟨ret_bool ?_, rfl⟩
      rw [innI_of s k hk]
      simp [hl]
    · go_enter Tryz.func107, Tryz.ntmps107
      go_wp2
      go_ret
      refine ⟨ret_bool ?_, rfl⟩
      rw [innI_of s k hk]
      have hl' : ¬ lo ≤ (s[k].toNat : Int) := by omega
      simp [hl']
  · go_enter Tryz.func107, Tryz.ntmps107
    go_wp2
    go_ret
    refine ⟨ret_bool ?_, rfl⟩
    simp [innI, hk]

theorem at_drop (s : ByteArray) (k j : Nat) : at' ((L s).drop k) j = at' (L s) (k + j) := by
  unfold at'
  rw [List.getD_eq_getElem?_getD, List.getD_eq_getElem?_getD, List.getElem?_drop]

theorem inn_drop (s : ByteArray) (k j : Nat) (lo hi : Nat) (a : Int) (ha : a = (k : Int) + j) : innI s a lo hi = inn ((L s).drop k) j lo hi := by
  unfold innI inn
  rw [at_drop, show a.toNat = k + j from by omega, List.length_drop, size_L]
  congr 1
  · rw [Bool.eq_iff_iff]; simp only [decide_eq_true_iff]; omega
  · congr 1
    · rw [Bool.eq_iff_iff]; simp only [decide_eq_true_iff]; omega
    · rw [Bool.eq_iff_iff]; simp only [decide_eq_true_iff]; omega

/-- 'sz', of a byte c and four answers. -/
def szOf (c : Nat) (a1 a2 b d : Bool) : Nat :=
  if c < 128 then 1
  else if (decide (0xc2 ≤ c) && decide (c ≤ 0xdf)) && a1 then 2
  else if !a2 || !b then 0
  else if decide (0xe0 ≤ c) && decide (c ≤ 0xef) then 3
  else if (decide (0xf0 ≤ c) && decide (c ≤ 0xf4)) && d then 4
  else 0

theorem sz_of (s : ByteArray) (k c : Nat) (h : k < s.size) (hc : s[k].toNat = c) (lo hi : Int) (hlo : lo = low c) (hhi : hi = high c) : sz ((L s).drop k) = szOf c (innI s (k + 1) 128 191) (innI s (k + 1) lo hi) (innI s (k + 2) 128 191) (innI s (k + 3) 128 191) := by
  have e0 : at' ((L s).drop k) 0 = c := by rw [at_drop, Nat.add_zero, at_eq s k h, hc]
  have i1 := inn_drop s k 1 128 191 (k + 1) rfl
  have i1' := inn_drop s k 1 (low c) (high c) (k + 1) rfl
  have i2 := inn_drop s k 2 128 191 (k + 2) rfl
  have i3 := inn_drop s k 3 128 191 (k + 3) rfl
  subst hlo hhi
  unfold sz szOf
  rw [e0]
  rw [← i1, ← i1', ← i2, ← i3]
  rfl

theorem low_no (c : Nat) (h : c ≠ 0xe0) (h' : c ≠ 0xf0) : low c = 128 := by simp [low, h, h']
theorem high_no (c : Nat) (h : c ≠ 0xed) (h' : c ≠ 0xf4) : high c = 191 := by simp [high, h, h']

end Go.Proofs.YtdplbcchkjpcdaaGreatDoor.Ch

namespace Go.Proofs.YtdplbcchkjpcdaaGreatDoor.Ch
set_option maxRecDepth 100000
set_option linter.unusedSimpArgs false
open Go.RowKit
set_option linter.unusedVariables false

/-- The way behind the first two tests: what is asked first has said no. -/
def Rest (s : ByteArray) (k c : Nat) (lo hi : Int) (w : World) : Prop :=
  Calls Tryz.prog 82 #[.string s, .int .i64 k] w fun e w' => e = .returned (.int .i64 (szOf c (innI s (k + 1) 128 191) (innI s (k + 1) lo hi) (innI s (k + 2) 128 191) (innI s (k + 3) 128 191))) ∧ w = w'

set_option maxRecDepth 100000 in
set_option maxHeartbeats 1000000 in
theorem size_one (s : ByteArray) (k c : Nat) (lo hi : Int) (w : World) (h : k < s.size) (hc : s[k].toNat = c) (hs : s.size ≤ 9223372036854775800) (hlt : c < 128) : Rest s k c lo hi w := by
  unfold Rest
  have hv : szOf c (innI s (k + 1) 128 191) (innI s (k + 1) lo hi) (innI s (k + 2) 128 191) (innI s (k + 3) 128 191) = 1 := by unfold szOf; rw [if_pos hlt]
  rw [hv]
  clear hv
  go_enter Tryz.func82, Tryz.ntmps82
  go_wp2
  go_ret
  exact ⟨rfl, rfl⟩

set_option maxRecDepth 100000 in
set_option maxHeartbeats 1000000 in
theorem size_two (s : ByteArray) (k c : Nat) (lo hi : Int) (w : World) (h : k < s.size) (hc : s[k].toNat = c) (hs : s.size ≤ 9223372036854775800) (h1 : 0xc2 ≤ c) (h2 : c ≤ 0xdf) (hlo : lo = 128) (hhi : hi = 191) : Rest s k c lo hi w := by
  subst hlo hhi
  unfold Rest
  cases hi1 : innI s (k + 1) 128 191 with
  | true =>
    have hv : ∀ b d, szOf c true true b d = 2 := by intro b d; unfold szOf; rw [if_neg (by omega), if_pos (by simp <;> omega)]
    rw [hv]
    clear hv
    go_enter Tryz.func82, Tryz.ntmps82
    go_wp2_with (go_at_call 107; refine (in_any _ _ _ _ _ (by omega)).mono ?_; rintro e w' ⟨rfl, rfl⟩)
    go_ret
    exact ⟨rfl, rfl⟩
  | false =>
    have hv : ∀ b d, szOf c false false b d = 0 := by intro b d; unfold szOf; rw [if_neg (by omega), if_neg (by simp), if_pos (by simp)]
    rw [hv]
    clear hv
    go_enter Tryz.func82, Tryz.ntmps82
    go_wp2_with (go_at_call 107; refine (in_any _ _ _ _ _ (by omega)).mono ?_; rintro e w' ⟨rfl, rfl⟩)
    go_ret
    exact ⟨rfl, rfl⟩

set_option maxRecDepth 100000 in
set_option maxHeartbeats 2000000 in
theorem size_e0 (s : ByteArray) (k : Nat) (w : World) (h : k < s.size) (hc : s[k].toNat = 0xe0) (hs : s.size ≤ 9223372036854775800) : Rest s k 0xe0 0xa0 191 w := by
  unfold Rest
  cases hi1 : innI s (k + 1) 0xa0 191 with
  | false =>
    have hv : ∀ a b d, szOf 0xe0 a false b d = 0 := by intro a b d; unfold szOf; rw [if_neg (by omega), if_neg (by simp <;> omega), if_pos (by simp)]
    rw [hv]
    clear hv
    go_enter Tryz.func82, Tryz.ntmps82
    go_wp2_with (go_at_call 107; refine (in_any _ _ _ _ _ (by omega)).mono ?_; rintro e w' ⟨rfl, rfl⟩)
    go_ret
    exact ⟨rfl, rfl⟩
  | true =>
  cases hi2 : innI s (k + 2) 128 191 with
  | false =>
    have hv : ∀ a d, szOf 0xe0 a true false d = 0 := by intro a d; unfold szOf; rw [if_neg (by omega), if_neg (by simp <;> omega), if_pos (by simp)]
    rw [hv]
    clear hv
    go_enter Tryz.func82, Tryz.ntmps82
    go_wp2_with (go_at_call 107; refine (in_any _ _ _ _ _ (by omega)).mono ?_; rintro e w' ⟨rfl, rfl⟩)
    go_ret
    exact ⟨rfl, rfl⟩
  | true =>
    have hv : ∀ a d, szOf 0xe0 a true true d = 3 := by intro a d; unfold szOf; rw [if_neg (by omega), if_neg (by simp <;> omega), if_neg (by simp), if_pos (by simp <;> omega)]
    rw [hv]
    clear hv
    go_enter Tryz.func82, Tryz.ntmps82
    go_wp2_with (go_at_call 107; refine (in_any _ _ _ _ _ (by omega)).mono ?_; rintro e w' ⟨rfl, rfl⟩)
    go_ret
    exact ⟨rfl, rfl⟩

set_option maxRecDepth 100000 in
set_option maxHeartbeats 2000000 in
theorem size_ed (s : ByteArray) (k : Nat) (w : World) (h : k < s.size) (hc : s[k].toNat = 0xed) (hs : s.size ≤ 9223372036854775800) : Rest s k 0xed 128 0x9f w := by
  unfold Rest
  cases hi1 : innI s (k + 1) 128 0x9f with
  | false =>
    have hv : ∀ a b d, szOf 0xed a false b d = 0 := by intro a b d; unfold szOf; rw [if_neg (by omega), if_neg (by simp <;> omega), if_pos (by simp)]
    rw [hv]
    clear hv
    go_enter Tryz.func82, Tryz.ntmps82
    go_wp2_with (go_at_call 107; refine (in_any _ _ _ _ _ (by omega)).mono ?_; rintro e w' ⟨rfl, rfl⟩)
    go_ret
    exact ⟨rfl, rfl⟩
  | true =>
  cases hi2 : innI s (k + 2) 128 191 with
  | false =>
    have hv : ∀ a d, szOf 0xed a true false d = 0 := by intro a d; unfold szOf; rw [if_neg (by omega), if_neg (by simp <;> omega), if_pos (by simp)]
    rw [hv]
    clear hv
    go_enter Tryz.func82, Tryz.ntmps82
    go_wp2_with (go_at_call 107; refine (in_any _ _ _ _ _ (by omega)).mono ?_; rintro e w' ⟨rfl, rfl⟩)
    go_ret
    exact ⟨rfl, rfl⟩
  | true =>
    have hv : ∀ a d, szOf 0xed a true true d = 3 := by intro a d; unfold szOf; rw [if_neg (by omega), if_neg (by simp <;> omega), if_neg (by simp), if_pos (by simp <;> omega)]
    rw [hv]
    clear hv
    go_enter Tryz.func82, Tryz.ntmps82
    go_wp2_with (go_at_call 107; refine (in_any _ _ _ _ _ (by omega)).mono ?_; rintro e w' ⟨rfl, rfl⟩)
    go_ret
    exact ⟨rfl, rfl⟩

set_option maxRecDepth 100000 in
set_option maxHeartbeats 2000000 in
theorem size_f0 (s : ByteArray) (k : Nat) (w : World) (h : k < s.size) (hc : s[k].toNat = 0xf0) (hs : s.size ≤ 9223372036854775800) : Rest s k 0xf0 0x90 191 w := by
  unfold Rest
  cases hi1 : innI s (k + 1) 0x90 191 with
  | false =>
    have hv : ∀ a b d, szOf 0xf0 a false b d = 0 := by intro a b d; unfold szOf; rw [if_neg (by omega), if_neg (by simp <;> omega), if_pos (by simp)]
    rw [hv]
    clear hv
    go_enter Tryz.func82, Tryz.ntmps82
    go_wp2_with (go_at_call 107; refine (in_any _ _ _ _ _ (by omega)).mono ?_; rintro e w' ⟨rfl, rfl⟩)
    go_ret
    exact ⟨rfl, rfl⟩
  | true =>
  cases hi2 : innI s (k + 2) 128 191 with
  | false =>
    have hv : ∀ a d, szOf 0xf0 a true false d = 0 := by intro a d; unfold szOf; rw [if_neg (by omega), if_neg (by simp <;> omega), if_pos (by simp)]
    rw [hv]
    clear hv
    go_enter Tryz.func82, Tryz.ntmps82
    go_wp2_with (go_at_call 107; refine (in_any _ _ _ _ _ (by omega)).mono ?_; rintro e w' ⟨rfl, rfl⟩)
    go_ret
    exact ⟨rfl, rfl⟩
  | true =>
  cases hi3 : innI s (k + 3) 128 191 with
  | true =>
    have hv : ∀ a, szOf 0xf0 a true true true = 4 := by intro a; unfold szOf; rw [if_neg (by omega), if_neg (by simp <;> omega), if_neg (by simp), if_neg (by simp <;> omega), if_pos (by simp <;> omega)]
    rw [hv]
    clear hv
    go_enter Tryz.func82, Tryz.ntmps82
    go_wp2_with (go_at_call 107; refine (in_any _ _ _ _ _ (by omega)).mono ?_; rintro e w' ⟨rfl, rfl⟩)
    go_ret
    exact ⟨rfl, rfl⟩
  | false =>
    have hv : ∀ a, szOf 0xf0 a true true false = 0 := by intro a; unfold szOf; rw [if_neg (by omega), if_neg (by simp <;> omega), if_neg (by simp), if_neg (by simp <;> omega), if_neg (by simp)]
    rw [hv]
    clear hv
    go_enter Tryz.func82, Tryz.ntmps82
    go_wp2_with (go_at_call 107; refine (in_any _ _ _ _ _ (by omega)).mono ?_; rintro e w' ⟨rfl, rfl⟩)
    go_ret
    exact ⟨rfl, rfl⟩

set_option maxRecDepth 100000 in
set_option maxHeartbeats 2000000 in
theorem size_f4 (s : ByteArray) (k : Nat) (w : World) (h : k < s.size) (hc : s[k].toNat = 0xf4) (hs : s.size ≤ 9223372036854775800) : Rest s k 0xf4 128 0x8f w := by
  unfold Rest
  cases hi1 : innI s (k + 1) 128 0x8f with
  | false =>
    have hv : ∀ a b d, szOf 0xf4 a false b d = 0 := by intro a b d; unfold szOf; rw [if_neg (by omega), if_neg (by simp <;> omega), if_pos (by simp)]
    rw [hv]
    clear hv
    go_enter Tryz.func82, Tryz.ntmps82
    go_wp2_with (go_at_call 107; refine (in_any _ _ _ _ _ (by omega)).mono ?_; rintro e w' ⟨rfl, rfl⟩)
    go_ret
    exact ⟨rfl, rfl⟩
  | true =>
  cases hi2 : innI s (k + 2) 128 191 with
  | false =>
    have hv : ∀ a d, szOf 0xf4 a true false d = 0 := by intro a d; unfold szOf; rw [if_neg (by omega), if_neg (by simp <;> omega), if_pos (by simp)]
    rw [hv]
    clear hv
    go_enter Tryz.func82, Tryz.ntmps82
    go_wp2_with (go_at_call 107; refine (in_any _ _ _ _ _ (by omega)).mono ?_; rintro e w' ⟨rfl, rfl⟩)
    go_ret
    exact ⟨rfl, rfl⟩
  | true =>
  cases hi3 : innI s (k + 3) 128 191 with
  | true =>
    have hv : ∀ a, szOf 0xf4 a true true true = 4 := by intro a; unfold szOf; rw [if_neg (by omega), if_neg (by simp <;> omega), if_neg (by simp), if_neg (by simp <;> omega), if_pos (by simp <;> omega)]
    rw [hv]
    clear hv
    go_enter Tryz.func82, Tryz.ntmps82
    go_wp2_with (go_at_call 107; refine (in_any _ _ _ _ _ (by omega)).mono ?_; rintro e w' ⟨rfl, rfl⟩)
    go_ret
    exact ⟨rfl, rfl⟩
  | false =>
    have hv : ∀ a, szOf 0xf4 a true true false = 0 := by intro a; unfold szOf; rw [if_neg (by omega), if_neg (by simp <;> omega), if_neg (by simp), if_neg (by simp <;> omega), if_neg (by simp)]
    rw [hv]
    clear hv
    go_enter Tryz.func82, Tryz.ntmps82
    go_wp2_with (go_at_call 107; refine (in_any _ _ _ _ _ (by omega)).mono ?_; rintro e w' ⟨rfl, rfl⟩)
    go_ret
    exact ⟨rfl, rfl⟩

set_option maxRecDepth 100000 in
set_option maxHeartbeats 2000000 in
theorem size_3 (s : ByteArray) (k : Nat) (c : Nat) (w : World) (h : k < s.size) (hc : s[k].toNat = c) (hs : s.size ≤ 9223372036854775800) (h1 : 0xe0 < c) (h2 : c ≤ 0xef) (h3 : c < 0xed ∨ 0xed < c) : Rest s k c 128 191 w := by
  unfold Rest
  cases hi1 : innI s (k + 1) 128 191 with
  | false =>
    have hv : ∀ a b d, szOf c a false b d = 0 := by intro a b d; unfold szOf; rw [if_neg (by omega), if_neg (by simp <;> omega), if_pos (by simp)]
    rw [hv]
    clear hv
    go_enter Tryz.func82, Tryz.ntmps82
    go_wp2_with (go_at_call 107; refine (in_any _ _ _ _ _ (by omega)).mono ?_; rintro e w' ⟨rfl, rfl⟩)
    go_ret
    exact ⟨rfl, rfl⟩
  | true =>
  cases hi2 : innI s (k + 2) 128 191 with
  | false =>
    have hv : ∀ a d, szOf c a true false d = 0 := by intro a d; unfold szOf; rw [if_neg (by omega), if_neg (by simp <;> omega), if_pos (by simp)]
    rw [hv]
    clear hv
    go_enter Tryz.func82, Tryz.ntmps82
    go_wp2_with (go_at_call 107; refine (in_any _ _ _ _ _ (by omega)).mono ?_; rintro e w' ⟨rfl, rfl⟩)
    go_ret
    exact ⟨rfl, rfl⟩
  | true =>
    have hv : ∀ a d, szOf c a true true d = 3 := by intro a d; unfold szOf; rw [if_neg (by omega), if_neg (by simp <;> omega), if_neg (by simp), if_pos (by simp <;> omega)]
    rw [hv]
    clear hv
    go_enter Tryz.func82, Tryz.ntmps82
    go_wp2_with (go_at_call 107; refine (in_any _ _ _ _ _ (by omega)).mono ?_; rintro e w' ⟨rfl, rfl⟩)
    go_ret
    exact ⟨rfl, rfl⟩

set_option maxRecDepth 100000 in
set_option maxHeartbeats 2000000 in
theorem size_4 (s : ByteArray) (k : Nat) (c : Nat) (w : World) (h : k < s.size) (hc : s[k].toNat = c) (hs : s.size ≤ 9223372036854775800) (h1 : 0xf0 < c) (h2 : c < 0xf4) : Rest s k c 128 191 w := by
  unfold Rest
  cases hi1 : innI s (k + 1) 128 191 with
  | false =>
    have hv : ∀ a b d, szOf c a false b d = 0 := by intro a b d; unfold szOf; rw [if_neg (by omega), if_neg (by simp <;> omega), if_pos (by simp)]
    rw [hv]
    clear hv
    go_enter Tryz.func82, Tryz.ntmps82
    go_wp2_with (go_at_call 107; refine (in_any _ _ _ _ _ (by omega)).mono ?_; rintro e w' ⟨rfl, rfl⟩)
    go_ret
    exact ⟨rfl, rfl⟩
  | true =>
  cases hi2 : innI s (k + 2) 128 191 with
  | false =>
    have hv : ∀ a d, szOf c a true false d = 0 := by intro a d; unfold szOf; rw [if_neg (by omega), if_neg (by simp <;> omega), if_pos (by simp)]
    rw [hv]
    clear hv
    go_enter Tryz.func82, Tryz.ntmps82
    go_wp2_with (go_at_call 107; refine (in_any _ _ _ _ _ (by omega)).mono ?_; rintro e w' ⟨rfl, rfl⟩)
    go_ret
    exact ⟨rfl, rfl⟩
  | true =>
  cases hi3 : innI s (k + 3) 128 191 with
  | true =>
    have hv : ∀ a, szOf c a true true true = 4 := by intro a; unfold szOf; rw [if_neg (by omega), if_neg (by simp <;> omega), if_neg (by simp), if_neg (by simp <;> omega), if_pos (by simp <;> omega)]
    rw [hv]
    clear hv
    go_enter Tryz.func82, Tryz.ntmps82
    go_wp2_with (go_at_call 107; refine (in_any _ _ _ _ _ (by omega)).mono ?_; rintro e w' ⟨rfl, rfl⟩)
    go_ret
    exact ⟨rfl, rfl⟩
  | false =>
    have hv : ∀ a, szOf c a true true false = 0 := by intro a; unfold szOf; rw [if_neg (by omega), if_neg (by simp <;> omega), if_neg (by simp), if_neg (by simp <;> omega), if_neg (by simp)]
    rw [hv]
    clear hv
    go_enter Tryz.func82, Tryz.ntmps82
    go_wp2_with (go_at_call 107; refine (in_any _ _ _ _ _ (by omega)).mono ?_; rintro e w' ⟨rfl, rfl⟩)
    go_ret
    exact ⟨rfl, rfl⟩

set_option maxRecDepth 100000 in
set_option maxHeartbeats 2000000 in
theorem size_0a (s : ByteArray) (k : Nat) (c : Nat) (w : World) (h : k < s.size) (hc : s[k].toNat = c) (hs : s.size ≤ 9223372036854775800) (h1 : 128 ≤ c) (h2 : c < 0xc2) (hb : c < 256) : Rest s k c 128 191 w := by
  unfold Rest
  cases hi1 : innI s (k + 1) 128 191 with
  | false =>
    have hv : ∀ a b d, szOf c a false b d = 0 := by intro a b d; unfold szOf; rw [if_neg (by omega), if_neg (by simp <;> omega), if_pos (by simp)]
    rw [hv]
    clear hv
    go_enter Tryz.func82, Tryz.ntmps82
    go_wp2_with (go_at_call 107; refine (in_any _ _ _ _ _ (by omega)).mono ?_; rintro e w' ⟨rfl, rfl⟩)
    go_ret
    exact ⟨rfl, rfl⟩
  | true =>
  cases hi2 : innI s (k + 2) 128 191 with
  | false =>
    have hv : ∀ a d, szOf c a true false d = 0 := by intro a d; unfold szOf; rw [if_neg (by omega), if_neg (by simp <;> omega), if_pos (by simp)]
    rw [hv]
    clear hv
    go_enter Tryz.func82, Tryz.ntmps82
    go_wp2_with (go_at_call 107; refine (in_any _ _ _ _ _ (by omega)).mono ?_; rintro e w' ⟨rfl, rfl⟩)
    go_ret
    exact ⟨rfl, rfl⟩
  | true =>
    have hv : ∀ a d, szOf c a true true d = 0 := by intro a d; unfold szOf; rw [if_neg (by omega), if_neg (by simp <;> omega), if_neg (by simp), if_neg (by simp <;> omega), if_neg (by simp <;> omega)]
    rw [hv]
    clear hv
    go_enter Tryz.func82, Tryz.ntmps82
    go_wp2_with (go_at_call 107; refine (in_any _ _ _ _ _ (by omega)).mono ?_; rintro e w' ⟨rfl, rfl⟩)
    go_ret
    exact ⟨rfl, rfl⟩

set_option maxRecDepth 100000 in
set_option maxHeartbeats 2000000 in
theorem size_0b (s : ByteArray) (k : Nat) (c : Nat) (w : World) (h : k < s.size) (hc : s[k].toNat = c) (hs : s.size ≤ 9223372036854775800) (h1 : 128 ≤ c) (h2 : 0xf4 < c) (hb : c < 256) : Rest s k c 128 191 w := by
  unfold Rest
  cases hi1 : innI s (k + 1) 128 191 with
  | false =>
    have hv : ∀ a b d, szOf c a false b d = 0 := by intro a b d; unfold szOf; rw [if_neg (by omega), if_neg (by simp <;> omega), if_pos (by simp)]
    rw [hv]
    clear hv
    go_enter Tryz.func82, Tryz.ntmps82
    go_wp2_with (go_at_call 107; refine (in_any _ _ _ _ _ (by omega)).mono ?_; rintro e w' ⟨rfl, rfl⟩)
    go_ret
    exact ⟨rfl, rfl⟩
  | true =>
  cases hi2 : innI s (k + 2) 128 191 with
  | false =>
    have hv : ∀ a d, szOf c a true false d = 0 := by intro a d; unfold szOf; rw [if_neg (by omega), if_neg (by simp <;> omega), if_pos (by simp)]
    rw [hv]
    clear hv
    go_enter Tryz.func82, Tryz.ntmps82
    go_wp2_with (go_at_call 107; refine (in_any _ _ _ _ _ (by omega)).mono ?_; rintro e w' ⟨rfl, rfl⟩)
    go_ret
    exact ⟨rfl, rfl⟩
  | true =>
    have hv : ∀ a d, szOf c a true true d = 0 := by intro a d; unfold szOf; rw [if_neg (by omega), if_neg (by simp <;> omega), if_neg (by simp), if_neg (by simp <;> omega), if_neg (by simp <;> omega)]
    rw [hv]
    clear hv
    go_enter Tryz.func82, Tryz.ntmps82
    go_wp2_with (go_at_call 107; refine (in_any _ _ _ _ _ (by omega)).mono ?_; rintro e w' ⟨rfl, rfl⟩)
    go_ret
    exact ⟨rfl, rfl⟩

theorem size_any (s : ByteArray) (k : Nat) (w : World) (h : k < s.size) (hs : s.size ≤ 9223372036854775800) :
    Calls Tryz.prog 82 #[.string s, .int .i64 k] w fun e w' => e = .returned (.int .i64 (sz ((L s).drop k))) ∧ w = w' := by
  obtain ⟨c, hc⟩ : ∃ c, s[k].toNat = c := ⟨_, rfl⟩
  have hb := s[k].toNat_lt
  rw [hc] at hb
  have go : ∀ lo hi : Int, lo = low c → hi = high c → Rest s k c lo hi w → Calls Tryz.prog 82 #[.string s, .int .i64 k] w fun e w' => e = .returned (.int .i64 (sz ((L s).drop k))) ∧ w = w' := by
    intro lo hi hlo hhi hr
    rw [sz_of s k c h hc lo hi hlo hhi]
    exact hr
  by_cases c1 : c < 128
  · exact go _ _ rfl rfl (size_one s k c _ _ w h hc hs c1)
  by_cases c2 : 0xc2 ≤ c ∧ c ≤ 0xdf
  · exact go _ _ rfl rfl (size_two s k c _ _ w h hc hs c2.1 c2.2 (by rw [low_no c (by omega) (by omega)]; rfl) (by rw [high_no c (by omega) (by omega)]; rfl))
  by_cases e0 : c = 0xe0
  · subst e0; exact go 0xa0 191 (by simp [low]) (by simp [high]) (size_e0 s k w h hc hs)
  by_cases e1 : c = 0xed
  · subst e1; exact go 128 0x9f (by simp [low]) (by simp [high]) (size_ed s k w h hc hs)
  by_cases f0 : c = 0xf0
  · subst f0; exact go 0x90 191 (by simp [low]) (by simp [high]) (size_f0 s k w h hc hs)
  by_cases f4 : c = 0xf4
  · subst f4; exact go 128 0x8f (by simp [low]) (by simp [high]) (size_f4 s k w h hc hs)
  have go' := go 128 191 (by rw [low_no c e0 f0]; rfl) (by rw [high_no c e1 f4]; rfl)
  by_cases c3 : 0xe0 < c ∧ c ≤ 0xef
  · exact go' (size_3 s k c w h hc hs c3.1 c3.2 (by omega))
  by_cases c4 : 0xf0 < c ∧ c < 0xf4
  · exact go' (size_4 s k c w h hc hs c4.1 c4.2)
  by_cases c5 : c < 0xc2
  · exact go' (size_0a s k c w h hc hs (by omega) c5 (by omega))
  · exact go' (size_0b s k c w h hc hs (by omega) (by omega) (by omega))

end Go.Proofs.YtdplbcchkjpcdaaGreatDoor.Ch

namespace Go.Proofs.YtdplbcchkjpcdaaGreatDoor.Ch
set_option linter.unusedSimpArgs false
set_option linter.unusedVariables false
open Go.RowKit
theorem cell_three_new (w : World) (a b c : Value) (t : TypeId) : ∀ j u, [a, b, c][j]? = some u → (w.alloc (.cells #[a, b, c] t)).cell? ((⟨w.heap.size, 0, none⟩ : Addr).add j) = some u := by
  intro j u hj
  match j, hj with
  | 0, hj => simp at hj; subst hj; simp [Addr.add]
  | 1, hj => simp at hj; subst hj; simp [Addr.add]
  | 2, hj => simp at hj; subst hj; simp [Addr.add]
  | j + 3, hj => simp at hj

end Go.Proofs.YtdplbcchkjpcdaaGreatDoor.Ch

namespace Go.Proofs.YtdplbcchkjpcdaaGreatDoor.Ch
set_option maxRecDepth 100000
set_option linter.unusedSimpArgs false
set_option linter.unusedVariables false
open Go.RowKit
theorem own_empty (w : World) : Own w.heap.size (w.alloc (.cells #[] 5)) (.slice (some ⟨w.heap.size, 0, none⟩) 0 0) [] :=
  World.ownsRow_made w #[] 0 (Nat.le_refl _) (Nat.zero_le _) rfl

theorem bd3 {acc rest total : List UInt8} {n : Nat} (h : (acc ++ F) ++ rest = total) (ht : total.length ≤ n) : acc.length + 3 ≤ n := by
  have h1 := congrArg List.length h
  rw [List.length_append, List.length_append] at h1
  simp only [F, List.length_cons, List.length_nil] at h1
  omega

set_option maxRecDepth 100000 in
set_option maxHeartbeats 1000000 in
theorem refDecode_any (s : ByteArray) (w : World) (hs : s.size ≤ 140737488355328) (hd : (dL (L s)).length ≤ 140737488355328) :
    Calls Tryz.prog 42 #[.string s] w fun e w' => e = .returned (.string (B (dL (L s)))) ∧ Below w.heap.size w w' := by
  obtain ⟨i0, hi, hz0, hz1, hz2⟩ := info_parts info_u8
  have hs' : s.size ≤ 9223372036854775800 := by omega
  have ho0 := own_empty w
  go_enter Tryz.func42, Tryz.ntmps42
  go_wp2
  go_loopw [3, 4, 5] (fun v i _ wr => ∃ (k : Nat) (acc : List UInt8), i = .int .i64 k ∧ k ≤ s.size ∧ Own w.heap.size wr v acc ∧ acc ++ dL ((L s).drop k) = dL (L s) ∧ Below w.heap.size w wr) (fun _ i _ _ => s.size - (intOf i).toNat)
  case atStart => exact ⟨0, [], rfl, Nat.zero_le _, ho0, by simp, (Below.refl _ _).alloc (Nat.le_refl _) _⟩
  case round =>
    clear ho0
    obtain ⟨k, acc, rfl, hks, hown, hc, hbel⟩ := hrel
    have hN := hbel.size
    by_cases hp : k < s.size
    · have hne := drop_ne s k hp
      have hle := sz_le _ hne
      rw [List.length_drop, size_L] at hle
      have hat : at' ((L s).drop k) 0 = s[k].toNat := by rw [at_drop, Nat.add_zero, at_eq s k hp]
      by_cases hz : sz ((L s).drop k) = 0
      · have hzb : ((sz ((L s).drop k) : Int) == 0) = true := by rw [hz]; rfl
        rw [dL_sz0 _ hne hz, List.drop_drop, ← List.append_assoc] at hc
        have hbd := bd3 hc hd
        have HC := Lib.hid hc; clear hc hne hz hat
        go_wp2_with (first | (go_at_call 82; refine (size_any s k _ hp hs').mono ?_; rintro e w' ⟨rfl, rfl⟩) | (at_builtin; refine wpList_append_own _ rfl (.tmp 22) (.tmp 23) 74 rfl w.heap.size 5 i0 (.int .u8 0) 1 1 Tryz.underlying74 hi hz0 hz1 hz2 rfl (by decide) _ acc.length (acc.map bc) rfl (hown.alloc _) ⟨wr.heap.size, 0, none⟩ 3 3 [.int .u8 239, .int .u8 191, .int .u8 189] rfl rfl (cell_three_new _ _ _ _ _) (by intro u hu; simp at hu; rcases hu with rfl | rfl | rfl <;> rfl) (by unfold maxLen; omega) (by omega) (by simp; omega) ?_; intro v2 w2 hown2 hgrow2 _))
        go_roundw
        case rel => exact ⟨k + 1, acc ++ F, by go_num, by omega, Own.appended (m := F) hown2 rfl, HC.out, (hown.alloc _).below hgrow2 (hbel.alloc hN _) (by simp; omega)⟩
        case measure => simp [intOf]; omega
      · have hzb : ((sz ((L s).drop k) : Int) == 0) = false := by simpa using hz
        by_cases h0 : s[k].toNat = 0
        · have hb0 : ((s[k].toNat : Int) == 0) = true := by rw [h0]; rfl
          rw [dL_zero _ hne (by rw [hat, h0]), List.drop_drop, ← List.append_assoc] at hc
          have hbd := bd3 hc hd
          have HC := Lib.hid hc; clear hc hne hz hat h0
          go_wp2_with (first | (go_at_call 82; refine (size_any s k _ hp hs').mono ?_; rintro e w' ⟨rfl, rfl⟩) | (at_builtin; refine wpList_append_own _ rfl (.tmp 22) (.tmp 23) 74 rfl w.heap.size 5 i0 (.int .u8 0) 1 1 Tryz.underlying74 hi hz0 hz1 hz2 rfl (by decide) _ acc.length (acc.map bc) rfl (hown.alloc _) ⟨wr.heap.size, 0, none⟩ 3 3 [.int .u8 239, .int .u8 191, .int .u8 189] rfl rfl (cell_three_new _ _ _ _ _) (by intro u hu; simp at hu; rcases hu with rfl | rfl | rfl <;> rfl) (by unfold maxLen; omega) (by omega) (by simp; omega) ?_; intro v2 w2 hown2 hgrow2 _))
          go_roundw
          case rel => exact ⟨k + 1, acc ++ F, by go_num, by omega, Own.appended (m := F) hown2 rfl, HC.out, (hown.alloc _).below hgrow2 (hbel.alloc hN _) (by simp; omega)⟩
          case measure => simp [intOf]; omega
        · have hb0 : ((s[k].toNat : Int) == 0) = false := by simpa using h0
          have hzp : 1 ≤ sz ((L s).drop k) := by omega
          rw [dL_szp _ hne hz (by rw [hat]; exact h0), List.drop_drop, ← List.append_assoc] at hc
          have hx : L (s.extract k (k + sz ((L s).drop k))) = ((L s).drop k).take (sz ((L s).drop k)) := by
            rw [L_extract, show k + sz ((L s).drop k) - k = sz ((L s).drop k) from by omega]
          have hbd : acc.length + (s.extract k (k + sz ((L s).drop k))).size ≤ 140737488355328 := by
            have h1 := congrArg List.length hc
            rw [List.length_append, List.length_append] at h1
            rw [← size_L, hx]; omega
          have hb1 := hbd
          have HC := Lib.hid hc; have HX := Lib.hid hx; clear hc hne hz hat h0 hx
          generalize hq : sz ((L s).drop k) = q at *
          have HQ := Lib.hid hq; clear hq
          go_wp2_with (first | (go_at_call 82; refine (size_any s k _ hp hs').mono ?_; rw [HQ.out]; rintro e w' ⟨rfl, rfl⟩) | (at_builtin; refine Lib.wpList_append_own_string _ rfl (.tmp 25) (.tmp 31) 74 9 rfl w.heap.size 5 i0 Tryz.underlying74 Tryz.underlying9 hi hz0 hz1 hz2 _ acc.length (acc.map bc) rfl hown (s.extract k (k + q)) rfl (by unfold maxLen; omega) hbd hN ?_; intro v2 w2 hown2 hgrow2 _))
          go_roundw
          case rel =>
            refine ⟨k + q, acc ++ ((L s).drop k).take q, by go_num, by omega, ?_, HC.out, hown.below hgrow2 hbel hN⟩
            rw [strCells_L, HX.out] at hown2
            exact Own.appended hown2 (by rw [← size_L, HX.out])
          case measure => simp [intOf]; omega
    · have hcv := hown.string
      rw [drop_nil s k hp, dL_nil, List.append_nil] at hc
      have HC := Lib.hid hc; clear hc
      go_wp2
      go_ret
      exact ⟨ret_str (by rw [HC.out]), hbel⟩

set_option maxRecDepth 100000 in
set_option maxHeartbeats 1000000 in
theorem refLines_any (s : ByteArray) (w : World) (hs : s.size ≤ 140737488355328) :
    Calls Tryz.prog 41 #[.string s] w fun e w' => e = .returned (.string (B (ln false (L s)))) ∧ Below w.heap.size w w' := by
  obtain ⟨i0, hi, hz0, hz1, hz2⟩ := info_parts info_u8
  have hll := ln_len false (L s)
  rw [size_L] at hll
  have ho0 := own_empty w
  go_enter Tryz.func41, Tryz.ntmps41
  go_wp2
  go_loopw [3, 4] (fun v i wr => ∃ (k : Nat) (acc : List UInt8), i = .int .i64 k ∧ k ≤ s.size ∧ Own w.heap.size wr v acc ∧ acc ++ ln false ((L s).drop k) = ln false (L s) ∧ Below w.heap.size w wr) (fun _ i _ => s.size - (intOf i).toNat)
  case atStart => exact ⟨0, [], rfl, Nat.zero_le _, ho0, by simp, (Below.refl _ _).alloc (Nat.le_refl _) _⟩
  case round =>
    clear ho0
    obtain ⟨k, acc, rfl, hks, hown, hc, hbel⟩ := hrel
    have hN := hbel.size
    by_cases hp : k < s.size
    · have hdc := drop_cons s k hp
      rw [hdc] at hc
      clear hdc
      by_cases h13 : s[k] = 13
      · have hb13 : ((s[k].toNat : Int) == 13) = true := by rw [h13]; rfl
        by_cases hq : k + 1 < s.size
        · have hdc := drop_cons s (k + 1) hq
          by_cases h10 : s[k + 1] = 10
          · have hb10 : ((s[k + 1].toNat : Int) == 10) = true := by rw [h10]; rfl
            have hc' : (acc ++ [10]) ++ ln false ((L s).drop (k + 1 + 1)) = ln false (L s) := by
              rw [← hc, h13, hdc, h10, ln_two, List.append_assoc]; rfl
            have hbd := bd hc' hll
            have HC := Lib.hid hc'; clear hc hc' h13 h10 hdc
            go_wp2_with (at_builtin; refine wpList_append_own _ rfl (.tmp 16) (.tmp 17) 74 rfl w.heap.size 5 i0 (.int .u8 0) 1 1 Tryz.underlying74 hi hz0 hz1 hz2 rfl (by decide) _ acc.length (acc.map bc) rfl (hown.alloc _) ⟨wr.heap.size, 0, none⟩ 1 1 [.int .u8 10] rfl rfl (cell_one_new _ _ _) (by intro u hu; simp at hu; subst hu; rfl) (by unfold maxLen; omega) (by omega) (by simp; omega) ?_; intro v2 w2 hown2 hgrow2 _)
            go_roundw
            case rel => exact ⟨k + 1 + 1, acc ++ [10], by go_num, by omega, Own.appended (m := [10]) hown2 rfl, HC.out, (hown.alloc _).below hgrow2 (hbel.alloc hN _) (by simp; omega)⟩
            case measure => simp [intOf]; omega
          · have hb10 : ((s[k + 1].toNat : Int) == 10) = false := by
              simpa using fun h => h10 (u8_ext (by simpa using (by omega : s[k + 1].toNat = 10)))
            have hc' : (acc ++ [10]) ++ ln false ((L s).drop (k + 1)) = ln false (L s) := by
              rw [← hc, h13, ln_13, ln_one, List.append_assoc]; rfl
              intro u e
              rw [hdc] at e
              exact h10 (List.cons.inj e).1
            have hbd := bd hc' hll
            have HC := Lib.hid hc'; clear hc hc' h13 h10 hdc
            go_wp2_with (at_builtin; refine wpList_append_own _ rfl (.tmp 16) (.tmp 17) 74 rfl w.heap.size 5 i0 (.int .u8 0) 1 1 Tryz.underlying74 hi hz0 hz1 hz2 rfl (by decide) _ acc.length (acc.map bc) rfl (hown.alloc _) ⟨wr.heap.size, 0, none⟩ 1 1 [.int .u8 10] rfl rfl (cell_one_new _ _ _) (by intro u hu; simp at hu; subst hu; rfl) (by unfold maxLen; omega) (by omega) (by simp; omega) ?_; intro v2 w2 hown2 hgrow2 _)
            go_roundw
            case rel => exact ⟨k + 1, acc ++ [10], by go_num, by omega, Own.appended (m := [10]) hown2 rfl, HC.out, (hown.alloc _).below hgrow2 (hbel.alloc hN _) (by simp; omega)⟩
            case measure => simp [intOf]; omega
        · have hc' : (acc ++ [10]) ++ ln false ((L s).drop (k + 1)) = ln false (L s) := by
            rw [← hc, h13, ln_13, ln_one, List.append_assoc]; rfl
            intro u e
            rw [drop_nil s (k + 1) hq] at e
            cases e
          have hbd := bd hc' hll
          have HC := Lib.hid hc'; clear hc hc' h13
          go_wp2_with (at_builtin; refine wpList_append_own _ rfl (.tmp 16) (.tmp 17) 74 rfl w.heap.size 5 i0 (.int .u8 0) 1 1 Tryz.underlying74 hi hz0 hz1 hz2 rfl (by decide) _ acc.length (acc.map bc) rfl (hown.alloc _) ⟨wr.heap.size, 0, none⟩ 1 1 [.int .u8 10] rfl rfl (cell_one_new _ _ _) (by intro u hu; simp at hu; subst hu; rfl) (by unfold maxLen; omega) (by omega) (by simp; omega) ?_; intro v2 w2 hown2 hgrow2 _)
          go_roundw
          case rel => exact ⟨k + 1, acc ++ [10], by go_num, by omega, Own.appended (m := [10]) hown2 rfl, HC.out, (hown.alloc _).below hgrow2 (hbel.alloc hN _) (by simp; omega)⟩
          case measure => simp [intOf]; omega
      · have hb13 : ((s[k].toNat : Int) == 13) = false := by
          simpa using fun h => h13 (u8_ext (by simpa using (by omega : s[k].toNat = 13)))
        have hc' : (acc ++ [s[k]]) ++ ln false ((L s).drop (k + 1)) = ln false (L s) := by
          rw [← hc, ln_other _ _ _ h13 (by simp), List.append_assoc]; rfl
        have hbd := bd hc' hll
        have HC := Lib.hid hc'; clear hc hc' h13
        go_wp2_with (at_builtin; refine wpList_append_own _ rfl (.tmp 33) (.tmp 37) 74 rfl w.heap.size 5 i0 (.int .u8 0) 1 1 Tryz.underlying74 hi hz0 hz1 hz2 rfl (by decide) _ acc.length (acc.map bc) rfl (hown.alloc _) ⟨wr.heap.size, 0, none⟩ 1 1 [.int .u8 s[k].toNat] rfl rfl (cell_one_new _ _ _) (by intro u hu; simp at hu; subst hu; rfl) (by unfold maxLen; omega) (by omega) (by simp; omega) ?_; intro v2 w2 hown2 hgrow2 _)
        go_roundw
        case rel => exact ⟨k + 1, acc ++ [s[k]], by go_num, by omega, Own.appended (m := [s[k]]) hown2 rfl, HC.out, (hown.alloc _).below hgrow2 (hbel.alloc hN _) (by simp; omega)⟩
        case measure => simp [intOf]; omega
    · have hcv := hown.string
      rw [drop_nil s k hp] at hc
      have HC := Lib.hid hc; clear hc
      go_wp2
      go_ret
      refine ⟨ret_str ?_, hbel⟩
      have h1 := HC.out
      rw [show ln false [] = [] from rfl, List.append_nil] at h1
      rw [h1]

theorem refReady_any (s : ByteArray) (w : World) (hs : s.size ≤ 140737488355328) (hd : (dL (L s)).length ≤ 140737488355328) :
    Calls Tryz.prog 14 #[.string s] w fun e w' => e = .returned (.string (B (ln false (dL (L s))))) ∧ Below w.heap.size w w' := by
  go_enter Tryz.func14, Tryz.ntmps14
  go_wp2_with fail
  refine (refDecode_any s _ hs hd).mono ?_
  rintro e w1 ⟨rfl, hb1⟩
  go_wp2_with fail
  refine (refLines_any (B (dL (L s))) _ (by rw [size_B]; exact hd)).mono ?_
  rintro e w2 ⟨rfl, hb2⟩
  go_wp2
  go_ret
  exact ⟨ret_str (by rw [L_B]), hb1.trans (hb2.mono hb1.size)⟩

end Go.Proofs.YtdplbcchkjpcdaaGreatDoor.Ch

namespace Go.Proofs.YtdplbcchkjpcdaaGreatDoor.Bu
set_option maxRecDepth 100000
set_option linter.unusedVariables false
set_option linter.unusedSimpArgs false
open Go.RowKit Ba Fm Fo Nm Bm Sm
open Ro (At Ro Cw ros Fr Ow Rv rowO)
open Tm (Tk bulk bulkT within)
open To (Tw tks Tv)
open Re (Tab)
theorem refReady1 (s : ByteArray) (w : World) (hs : s.size ≤ 5000) :
    Calls Tryz.prog 14 #[.string s] w fun e w' => e = .returned (.string (B (rdy (L s)))) ∧ Below w.heap.size w w' := by
  have h := Ch.len_dL (L s)
  have hl := size_L s
  exact Ch.refReady_any s w (by omega) (show (Ch.dL (L s)).length ≤ _ by omega)

def SaysV (w : World) (O : List Ro) (F : Int) (e : Ending) (w' : World) : Prop := ∃ v y, e = .returned (.tuple #[v, .int .i64 F]) ∧ Rv w' v y ∧ ros y = O ∧ Below w.heap.size w w'
theorem Says.v {w w' : World} {r : Option (List Ro)} {e : Ending} (h : Says w r e w') : SaysV w (rowsO r) (numO r) e w' := by
  obtain ⟨h, hb⟩ := h
  cases r with
  | none => exact ⟨_, [], h, (Ow.nil 0 w').rv (fun x hx => by cases hx), rfl, hb⟩
  | some o =>
    obtain ⟨v, y, he, hv, hy⟩ := h
    exact ⟨v, y, he, hv, hy, hb⟩
theorem InV (s nm : ByteArray) (w : World) (O : List Ro) (F : Int) (hs : s.size ≤ 5000) (hn : nm.size ≤ 140737488351232) (hT : Tab w) (hO : rowsO (treeB ⟨[], []⟩ (within (L nm) (rdy (L s)))) = O) (hF : numO (treeB ⟨[], []⟩ (within (L nm) (rdy (L s)))) = F) :
    Calls Tryz.prog 4 #[.string s, .string nm] w fun e w' => SaysV w O F e w' := by
  subst hO hF
  exact (In1 s nm w _ hs hn hT rfl).mono fun e w' h => h.v
theorem ParseV (s : ByteArray) (w : World) (O : List Ro) (F : Int) (hs : s.size ≤ 5000) (hT : Tab w) (hO : rowsO (treeB ⟨[], []⟩ (within [] (rdy (L s)))) = O) (hF : numO (treeB ⟨[], []⟩ (within [] (rdy (L s)))) = F) :
    Calls Tryz.prog 6 #[.string s] w fun e w' => SaysV w O F e w' := by
  subst hO hF
  exact (Parse1 s w _ hs hT rfl).mono fun e w' h => h.v

set_option maxRecDepth 100000 in
set_option maxHeartbeats 1000000 in
theorem refInV (s nm : ByteArray) (w : World) (O : List Ro) (F : Int) (hs : s.size ≤ 5000) (hn : nm.size ≤ 140737488351232) (hO : rowsO (treeB ⟨[], []⟩ (within (L nm) (rdy (L s)))) = O) (hF : numO (treeB ⟨[], []⟩ (within (L nm) (rdy (L s)))) = F) :
    Calls Tryz.prog 5 #[.string s, .string nm] w fun e w' => SaysV w O F e w' := by
  have h : decide ((65536 : Int) < (s.size : Int)) = false := decide_eq_false (by omega)
  have hsz := size_L s
  have hdl := Ch.len_dL (L s)
  have hrl := len_rdy (L s)
  have HO := Lib.hid hO; have HF := Lib.hid hF
  clear hO hF
  go_enter Tryz.func5, Tryz.ntmps5
  go_wp2_with fail
  refine (refReady1 s w hs).mono ?_
  rintro e w1 ⟨rfl, b1⟩
  have HB1 := Lib.hid b1
  clear b1
  go_wp2_with fail
  refine (To.refIn1 (B (rdy (L s))) nm w1 (within (L nm) (rdy (L s))) (by rw [size_B]; omega) hn (by rw [L_B])).mono ?_
  rintro e w2 ⟨V, rfl, ⟨A, c, l, rfl, hc, hr, hl⟩, b2⟩
  have hwl := Tm.within_len (L nm) (rdy (L s))
  have hwb := Tm.bulk_within (L nm) (rdy (L s))
  have hlt : (within (L nm) (rdy (L s))).length = l.length := by rw [← hl, To.len_tks]
  have hll : l.length ≤ 200000 := by rw [← hlt]; omega
  have hds : dsum (tks l) ≤ 1000000000 := by
    have := dsum_bulk (tks l)
    rw [hl] at this ⊢
    omega
  have hat : ∀ x ∈ l, x.tk.attrs.length ≤ 1000000 := fun x hx => by
    have h1 := Tm.bulk_mem (l := tks l) (t := x.tk) (List.mem_map.2 ⟨x, hx, rfl⟩)
    rw [hl] at h1
    unfold bulkT at h1
    omega
  rw [hlt] at hc ⊢
  rw [← hl] at HO HF
  have HR := Lib.hid hr; have HB2 := Lib.hid (bt HB1.out b2)
  clear hl hlt hr b2 hwl hwb hdl hrl hsz
  go_wp2_with fail
  refine (refTree1 A c l w2 HR.out hc hll hds hat O F HO.out HF.out).mono ?_
  rintro e w3 ⟨v, y, rfl, hv, hy, b3⟩
  have HV := Lib.hid hv; have HY := Lib.hid hy; have HB3 := Lib.hid (bt HB2.out b3)
  clear hv hy b3
  go_wp2
  go_ret2
  exact ⟨v, y, rfl, HV.out, HY.out, HB3.out⟩

set_option maxRecDepth 100000 in
set_option maxHeartbeats 2000000 in
theorem law_parses (s nm : ByteArray) (hs : s.size ≤ 140737488351232) (hn : nm.size ≤ 140737488351232) (w : World) (hT : Tab w) :
    Calls Tryz.prog 3 #[.string s, .string nm] w fun e w' => e = .returned (.bool true) ∧ Below w.heap.size w w' := by
  obtain ⟨k1, hk1, hk2, -, hmin⟩ := min_any s.size 500 500 rfl w
  obtain ⟨u, hu⟩ : ∃ u, s.extract 0 k1 = u := ⟨_, rfl⟩
  have hus : u.size = k1 := by rw [← hu]; exact size_take s k1 hk1
  have HU := Lib.hid hu; have HUS := Lib.hid hus; have HT := Lib.hid hT
  clear hu hus hT
  obtain ⟨O, hO⟩ : ∃ O, rowsO (treeB ⟨[], []⟩ (within (L nm) (rdy (L u)))) = O := ⟨_, rfl⟩
  obtain ⟨F, hF⟩ : ∃ F, numO (treeB ⟨[], []⟩ (within (L nm) (rdy (L u)))) = F := ⟨_, rfl⟩
  obtain ⟨O2, hO2⟩ : ∃ O, rowsO (treeB ⟨[], []⟩ (within [] (rdy (L u)))) = O := ⟨_, rfl⟩
  obtain ⟨F2, hF2⟩ : ∃ F, numO (treeB ⟨[], []⟩ (within [] (rdy (L u)))) = F := ⟨_, rfl⟩
  have h1 : O.length ≤ 4096 := by rw [← hO]; exact rows_small.1
  have h2 : O2.length ≤ 4096 := by rw [← hO2]; exact rows_small.1
  have HO := Lib.hid hO; have HF := Lib.hid hF; have HO2 := Lib.hid hO2; have HF2 := Lib.hid hF2
  clear hO hF hO2 hF2
  go_enter Tryz.func3, Tryz.ntmps3
  go_wp2_with fail
  rw [HU.out]
  have zu : u.size ≤ 5000 := by have := HUS.out; omega
  clear hmin HU HUS hk1 hk2
  refine (InV u nm w O F zu hn HT.out HO.out HF.out).mono ?_
  rintro e w1 ⟨v1, y1, rfl, hv1, hy1, b1⟩
  have hl1 : y1.length ≤ 1000000 := by rw [← Ro.len_ros, hy1]; omega
  have HV1 := Lib.hid hv1; have HY1 := Lib.hid hy1; have B1 := Lib.hid b1
  clear hv1 hy1 b1
  go_wp2_with fail
  refine (refInV u nm w1 O F zu hn HO.out HF.out).mono ?_
  rintro e w2 ⟨v2, y2, rfl, hv2, hy2, b2⟩
  have hl2 : y2.length ≤ 1000000 := by rw [← Ro.len_ros, hy2]; omega
  have HV1 := Lib.hid (HV1.out.below b2); have HV2 := Lib.hid hv2; have HY2 := Lib.hid hy2; have B2 := Lib.hid (bt B1.out b2)
  clear hv2 hy2 b2 B1
  go_wp2_with fail
  refine (ParseV u w2 O2 F2 zu (HT.out.below B2.out) HO2.out HF2.out).mono ?_
  rintro e w3 ⟨v3, y3, rfl, hv3, hy3, b3⟩
  have hl3 : y3.length ≤ 1000000 := by rw [← Ro.len_ros, hy3]; omega
  have HV1 := Lib.hid (HV1.out.below b3); have HV2 := Lib.hid (HV2.out.below b3); have HV3 := Lib.hid hv3; have HY3 := Lib.hid hy3; have B3 := Lib.hid (bt B2.out b3)
  clear hv3 hy3 b3 B2
  go_wp2_with fail
  refine (refInV u ⟨#[]⟩ w3 O2 F2 zu (by decide) HO2.out HF2.out).mono ?_
  rintro e w4 ⟨v4, y4, rfl, hv4, hy4, b4⟩
  have hl4 : y4.length ≤ 1000000 := by rw [← Ro.len_ros, hy4]; omega
  have HV1 := Lib.hid (HV1.out.below b4); have HV2 := Lib.hid (HV2.out.below b4); have HV3 := Lib.hid (HV3.out.below b4); have HV4 := Lib.hid hv4; have HY4 := Lib.hid hy4; have B4 := Lib.hid (bt B3.out b4)
  clear hv4 hy4 b4 B3
  have hf1 : (F == F) = true := by simp
  have hf2 : (F2 == F2) = true := by simp
  go_wp2_with fail
  refine (fixed_any w4 (HT.out.below B4.out)).mono ?_
  rintro e w5 ⟨rfl, b5⟩
  have HV1 := Lib.hid (HV1.out.below b5); have HV2 := Lib.hid (HV2.out.below b5); have HV3 := Lib.hid (HV3.out.below b5); have HV4 := Lib.hid (HV4.out.below b5); have B5 := Lib.hid (bt B4.out b5)
  clear b5 B4
  go_wp2_with fail
  refine (Ro.refSame1 v1 v2 y1 y2 w5 true HV1.out HV2.out hl1 hl2 (decide_eq_true (HY1.out.trans HY2.out.symm))).mono ?_
  rintro e w6 ⟨rfl, b6⟩
  have HV3 := Lib.hid (HV3.out.below b6); have HV4 := Lib.hid (HV4.out.below b6); have B6 := Lib.hid (bt B5.out b6)
  clear b6 B5
  go_wp2_with fail
  refine (Ro.refSame1 v3 v4 y3 y4 w6 true HV3.out HV4.out hl3 hl4 (decide_eq_true (HY3.out.trans HY4.out.symm))).mono ?_
  rintro e w7 ⟨rfl, b7⟩
  have B7 := Lib.hid (bt B6.out b7)
  clear b7 B6
  go_wp2
  go_ret
  exact ⟨rfl, B7.out⟩

end Go.Proofs.YtdplbcchkjpcdaaGreatDoor.Bu
