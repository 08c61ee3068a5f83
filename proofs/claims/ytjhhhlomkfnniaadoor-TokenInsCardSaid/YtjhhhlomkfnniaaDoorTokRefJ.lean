/-
  Walks of stage 6's reference: In.
-/
import Derived.Test.YtjhhhlomkfnniaaDoorTokRefI
namespace Go.Proofs.YtjhhhlomkfnniaaDoor.Tm
set_option linter.unusedVariables false
set_option linter.unusedSimpArgs false
open Ba Fm Rm Nm
open Ro (At)
/-- The tokens behind a text that was gone over. -/
def fl (u X : List UInt8) : List Tk := txt (dec (u ++ lead bg X)) ++ ((mk (trail bg X)).1 ++ cut (mk (trail bg X)).2)
theorem fl_nil (X : List UInt8) : fl [] X = cut X := by
  rw [cut_turn]
  show txt (dec (lead bg X)) ++ _ = (txt (dec (lead bg X)) ++ _) ++ _
  rw [List.append_assoc]
  rfl
theorem fl_none (u : List UInt8) {c : UInt8} {r : List UInt8} (h : Tm.begun (c :: r) = 0) : fl u (c :: r) = fl (u ++ [c]) r := by
  have hb : bg (c :: r) = false := by unfold bg; rw [h]; rfl
  unfold fl
  rw [lead_no hb, trail_no hb, List.append_assoc]
  rfl
theorem fl_some (u : List UInt8) {X : List UInt8} (h : Tm.begun X ≠ 0) : fl u X = txt (dec u) ++ ((mk X).1 ++ cut (mk X).2) := by
  obtain ⟨h1, h2⟩ := begins h
  unfold fl
  rw [h1, h2, List.append_nil]
theorem fl_end (u : List UInt8) : fl u [] = txt (dec u) := by
  unfold fl
  rw [lead_nil, trail_nil, mk_nil, List.append_nil, To.cut_nil, List.append_nil, List.append_nil]
end Go.Proofs.YtjhhhlomkfnniaaDoor.Tm

namespace Go.Proofs.YtjhhhlomkfnniaaDoor.To
set_option linter.unusedSimpArgs false
set_option linter.unusedVariables false
open Go.RowKit Ba Fm Fo Tm Nm Na
open Rm (dec dec_ne)
open Ro (below_new At acells len_acells Sh Ra range2)
open Re (Tab)

/-- What the loop over a document has come to, by the reference. -/
structure Il (w wr : World) (s : ByteArray) (W : List Tk) (i : Nat) (v : Value) (l : List Tw) (u : ByteArray) : Prop where
  i_le : i ≤ s.size
  own : Ot w.heap.size wr v l
  bel : Below w.heap.size w wr
  few : l.length ≤ 3 * i + 1
  uz : u.size ≤ i
  eq : tks l ++ fl (L u) ((L s).drop i) = W

theorem Fr.mono {N N' : Nat} {w : World} {x : Tw} (h : Fr N w x) (hN : N' ≤ N) : Fr N' w x := ⟨World.ownsRow.mono h.1 hN, h.2⟩
theorem Tb.past {N g : Nat} {w w' : World} {x : Tw} {v : Value} {l : List Tw} {w0 : World} (h : Tb w g x) (ho : Ot N w0 v l) (hg : w.grownBy w' v.ownBlock) (hlt : w0.heap.size ≤ g) : Tb w' g x :=
  (hg.block g h.lt (fun e => by have := (World.ownsRow.lt ho.1 g e.symm).2; omega)).trans h
theorem L_snoc (u s : ByteArray) (i : Nat) (h : i < s.size) : L (u ++ s.extract i (i + 1)) = L u ++ [s[i]] := by
  rw [L_append, L_extract, drop_cons s i h, show i + 1 - i = 1 from by omega]
  rfl

set_option maxRecDepth 100000 in
set_option maxHeartbeats 16000000 in
theorem refIn_any (s nm0 : ByteArray) (w : World) (hs : s.size ≤ 500000) (hn : nm0.size ≤ 140737488351232) :
    Calls Tryd.prog 12 #[.string s, .string nm0] w fun e w' => ∃ V l, e = .returned V ∧ Ot w.heap.size w' V l ∧ tks l = within (L nm0) (L s) ∧ Below w.heap.size w w' := by
  have hs' : s.size ≤ 140737488355328 := by omega
  have hs2 : s.size ≤ 140737488351232 := by omega
  have hs3 : s.size ≤ 1000000 := by omega
  have hmade : Ot w.heap.size (w.alloc (.cells #[] 35)) (.slice (some ⟨w.heap.size, 0, none⟩) 0 0) [] := ⟨(Ow.made w).1, fun _ h => by simp at h⟩
  have HM := Lib.hid hmade; clear hmade
  obtain ⟨W, hW⟩ : ∃ W, within (L nm0) (L s) = W := ⟨_, rfl⟩
  rw [hW]
  have HW := Lib.hid hW; clear hW
  go_enter Tryd.func12, Tryd.ntmps12
  go_wp2_with fail
  refine (alone_any w.heap.size _ [] s nm0 0 _ HM.out (by simp) hs2 (Nat.zero_le _) hn (by simp)).mono ?_
  rintro e w1 ⟨v1, l1, n1, rfl, ho1, ht1, hn1, -, hd1, hl1, hz1, hb1⟩
  have hst : Il w w1 s W n1 v1 l1 ⟨#[]⟩ := by
    rw [← HW.out]
    refine ⟨hn1, ho1, hb1 w (below_new w _), by simp at hl1; omega, Nat.zero_le _, ?_⟩
    show tks l1 ++ fl [] _ = _
    rw [fl_nil, ht1, hd1, List.drop_zero]
    rfl
  clear ho1 ht1 hd1 hl1 hz1 hb1 HM
  go_wp2_with fail
  go_loopw [5, 6, 7] (fun v5 v6 v7 wr => ∃ i l u, v6 = .int .i64 ((i : Nat) : Int) ∧ v7 = .string u ∧ Il w wr s W i v5 l u) (fun _ v6 _ _ => s.size - (intOf v6).toNat)
  case atStart => exact ⟨n1, l1, ⟨#[]⟩, rfl, rfl, hst⟩
  case round =>
    clear hst hn1
    obtain ⟨i, l, u, rfl, rfl, hil⟩ := hrel
    have hi := hil.i_le
    have hl2 : l.length ≤ 2000000 := by have := hil.few; omega
    have hu2 : u.size ≤ 140737488351232 := by have := hil.uz; omega
    have hN : w.heap.size ≤ wr.heap.size := hil.bel.size
    have HI := Lib.hid hil; clear hil
    by_cases hp : i < s.size
    · have hlt : decide ((i : Int) < s.size) = true := decide_eq_true (by omega)
      have hdr : ∀ j, (L s).drop (i + j) = ((L s).drop i).drop j := fun j => by rw [List.drop_drop]
      obtain ⟨n, hbg⟩ : ∃ n, Tm.begun ((L s).drop i) = n := ⟨_, rfl⟩
      have hfacts := beg_facts _ n hbg
      have hnot := noted_mk s i n hbg
      rw [← hdr 1, ← hdr 2] at hfacts
      obtain ⟨hn6, f1, f2, f3, f4, f0⟩ := hfacts
      have HBG := Lib.hid hbg; have HNO := Lib.hid hnot; have HDR := Lib.hid hdr
      have F1 := Lib.hid f1; have F2 := Lib.hid f2; have F3 := Lib.hid f3; have F4 := Lib.hid f4; have F0 := Lib.hid f0
      clear hbg hnot hdr f1 f2 f3 f4 f0
      by_cases h1 : n = 1
      · subst h1
        obtain ⟨q1, q2, q3⟩ := F1.out rfl
        have Q1 := Lib.hid q1; have Q2 := Lib.hid q2; have Q3 := Lib.hid q3; clear q1 q2 q3
        go_wp2_with fail
        refine (refAt1 s _ i _ [60] true hs' (by omega) (by decide) (by decide) rfl Q1.out).mono ?_
        rintro e w' ⟨rfl, rfl⟩
        go_wp2_with fail
        refine (letterAt_any s (i + 1) _ true hs' Q2.out).mono ?_
        rintro e w' ⟨rfl, rfl⟩
        go_wp2_with fail
        refine (refAt1 s _ i _ [60, 47] false hs' (by omega) (by decide) (by decide) rfl Q3.out).mono ?_
        rintro e w' ⟨rfl, rfl⟩
        go_wp2_with fail
        refine (told_any w.heap.size _ l u wr HI.out.own hN hu2 hl2).mono ?_
        rintro e w2 ⟨v2, l2, rfl, ho2, ht2, hl22, hz2, hg2, hb2⟩
        have hb2' := hb2 w HI.out.bel
        have HO2 := Lib.hid ho2; have HT2 := Lib.hid ht2; have HB2 := Lib.hid hb2'; clear ho2 ht2 hg2 hb2 hb2'
        go_wp2_with fail
        refine (refTag_any s (i + 1) w2 hs3 (by omega)).mono ?_
        rintro e w3 ⟨x, n, rfl, hb3, hx⟩
        rcases hx with ⟨hn, hin, hfr, bs, sf, hat, hxt⟩ | ⟨hn, hat⟩
        · obtain ⟨tk, A, c⟩ := x
          have hxt : tk = ⟨0, B (lowL (upTo en ((L s).drop (i + 1)))), ⟨#[]⟩, bs, sf⟩ := hxt
          obtain ⟨nm, hnm⟩ : ∃ n, B (lowL (upTo en ((L s).drop (i + 1)))) = n := ⟨_, rfl⟩
          rw [hnm] at hxt
          subst hxt
          have hgt : decide ((n : Int) > (s.size : Int)) = false := decide_eq_false (by omega)
          have hbox : Tb (w3.alloc (.cells #[.int .i64 1, .string nm, .string ⟨#[]⟩, .slice A bs.length c, .bool sf] 35)) w3.heap.size ⟨⟨1, nm, ⟨#[]⟩, bs, sf⟩, A, c⟩ := Tb.new w3 ⟨⟨1, nm, ⟨#[]⟩, bs, sf⟩, A, c⟩
          have hb4 := below_new w3 (.cells #[.int .i64 1, .string nm, .string ⟨#[]⟩, .slice A bs.length c, .bool sf] 35)
          have ho5 := (HO2.out.below hb3).below hb4
          have ho3 := HO2.out.below hb3
          have hfr5 : Fr w.heap.size (w3.alloc (.cells #[.int .i64 1, .string nm, .string ⟨#[]⟩, .slice A bs.length c, .bool sf] 35)) ⟨⟨1, nm, ⟨#[]⟩, bs, sf⟩, A, c⟩ := (hfr.mono (show w.heap.size ≤ w2.heap.size from HB2.out.size)).below hb4
          have hb5 := HB2.out.trans ((bt hb3 hb4).mono HB2.out.size)
          have hszn : nm.size ≤ 140737488351232 := by
            rw [← hnm, size_B, len_lowL]
            have := len_lead (by1 en) ((L s).drop (i + 1))
            rw [List.length_drop, size_L] at this
            show (lead (by1 en) _).length ≤ _
            omega
          have hl5 : l2.length ≤ 2000000 := by have := HI.out.few; omega
          have HNM := Lib.hid hnm; have HAT := Lib.hid hat; have HX5 := Lib.hid hbox; have HO3 := Lib.hid ho3; have HO5 := Lib.hid ho5; have HF5 := Lib.hid hfr5; have HB5 := Lib.hid hb5; clear hnm hat hbox ho5 ho3 hfr5 hb5 hb3 hb4 hfr
          obtain ⟨k0, k1, k2, k3, k4⟩ := HX5.out.c
          go_upto_region 18 with fail
          try rw [HNM.out]
          obtain ⟨g11, hg11⟩ : ∃ g, w3.heap.size = g := ⟨_, rfl⟩
          have HG11 := Lib.hid hg11
          rw [hg11] at k0 k1 k2 k3 k4 HX5 ⊢
          clear hg11
          generalize w3.alloc (.cells #[.int .i64 1, .string nm, .string ⟨#[]⟩, .slice A bs.length c, .bool sf] 35) = W5 at *
          have hZ5 : w.heap.size ≤ W5.heap.size := HB5.out.size
          go_wp2_with (at_builtin; go_loud (refine app_tok2 W5 rfl (.tmp 76) (.tmp 78) rfl w.heap.size v2 l2 ⟨⟨1, nm, ⟨#[]⟩, bs, sf⟩, A, c⟩ rfl HO5.out.ow HF5.out.att HF5.out.ap W5.heap.size rfl rfl hl5 hZ5 ?_); intro v6 w6 how hk hf hg; obtain ⟨A6, c6, rfl⟩ := form1 how; have hbx6 := Tb.past HX5.out HO3.out hg (by rw [HG11.out]; exact Nat.le_refl _); have nmc := hbx6.c.2.1; have HK6 := Lib.hid hk; have HO6 := Lib.hid (Ot.add HO5.out HF5.out how hf); clear hk hf hg how hbx6 k0 k1 k2 k3 k4)
          have hb6 := HK6.out _ HB5.out
          have hl6 : (l2 ++ [(⟨⟨1, nm, ⟨#[]⟩, bs, sf⟩, A, c⟩ : Tw)]).length = l2.length + 1 := by simp
          refine (alone_any w.heap.size _ (l2 ++ [(⟨⟨1, nm, ⟨#[]⟩, bs, sf⟩, A, c⟩ : Tw)]) s nm n w6 HO6.out hb6.size hs2 hn (by omega) (by rw [hl6]; have := HI.out.few; omega)).mono ?_
          rintro e w7 ⟨v7, l7, m, rfl, ho7, ht7, hm7, hnm7, hd7, hl7, hz7, hb7⟩
          have hil7 : Il w w7 s W m v7 l7 ⟨#[]⟩ := by
            refine ⟨hm7, ho7, hb7 w hb6, by rw [hl6] at hl7; have := HI.out.few; omega, Nat.zero_le _, ?_⟩
            show tks l7 ++ fl [] _ = W
            have he := HI.out.eq
            rw [fl_some _ (by rw [HBG.out]; decide), mk_1 HBG.out, ← HDR.out 1, (start_yes HAT.out).1] at he
            have hln : lowL (upTo en ((L s).drop (i + 1))) = L nm := by rw [← HNM.out, L_B]
            rw [hln, B_L] at he
            rw [fl_nil, hd7, ht7, tks_append, HT2.out, ← he]
            simp only [List.append_assoc]
            rfl
          have HI7 := Lib.hid hil7; clear hil7 ho7 ht7 hd7 hb7 hl7 hz7 hb6
          go_wp2
          go_roundw
          case rel => exact ⟨m, l7, ⟨#[]⟩, rfl, rfl, HI7.out⟩
          case measure => simp [intOf]; omega
        · have hgt : decide ((n : Int) > (s.size : Int)) = true := decide_eq_true (by omega)
          have heq := HI.out.eq
          rw [fl_some _ (by rw [HBG.out]; decide), mk_1 HBG.out, ← HDR.out 1, (start_no hat).1] at heq
          have heq : tks l2 = W := by
            rw [HT2.out, ← heq]
            show _ = _ ++ (_ ++ ([] ++ cut []))
            rw [cut_nil, List.append_nil, List.append_nil]
          have HE := Lib.hid heq; have HO3 := Lib.hid (HO2.out.below hb3); have HB3 := Lib.hid (HB2.out.trans (hb3.mono HB2.out.size)); clear heq hat hb3
          go_wp2
          go_ret
          exact ⟨_, l2, rfl, HO3.out.below (below_new w3 _), HE.out, bt HB3.out (below_new w3 _)⟩
      by_cases h2 : n = 2
      · subst h2
        obtain ⟨q1, q2, q3, q4⟩ := F2.out rfl
        have Q1 := Lib.hid q1; have Q2 := Lib.hid q2; have Q3 := Lib.hid q3; have Q4 := Lib.hid q4; clear q1 q2 q3 q4
        go_wp2_with fail
        refine (refAt1 s _ i _ [60] true hs' (by omega) (by decide) (by decide) rfl Q1.out).mono ?_
        rintro e w' ⟨rfl, rfl⟩
        go_wp2_with fail
        refine (letterAt_any s (i + 1) _ false hs' Q2.out).mono ?_
        rintro e w' ⟨rfl, rfl⟩
        go_wp2_with fail
        refine (refAt1 s _ i _ [60, 47] true hs' (by omega) (by decide) (by decide) rfl Q3.out).mono ?_
        rintro e w' ⟨rfl, rfl⟩
        go_wp2_with fail
        refine (letterAt_any s (i + 2) _ true hs' Q4.out).mono ?_
        rintro e w' ⟨rfl, rfl⟩
        go_wp2_with fail
        have hi2 : i + 2 ≤ s.size := by
          have := pre_len Q3.out
          rw [List.length_drop, size_L] at this
          simp at this
          omega
        refine (told_any w.heap.size _ l u wr HI.out.own hN hu2 hl2).mono ?_
        rintro e w2 ⟨v2, l2, rfl, ho2, ht2, hl22, hz2, hg2, hb2⟩
        have hb2' := hb2 w HI.out.bel
        have HO2 := Lib.hid ho2; have HT2 := Lib.hid ht2; have HB2 := Lib.hid hb2'; clear ho2 ht2 hg2 hb2 hb2'
        go_wp2_with fail
        refine (refTag_any s (i + 2) w2 hs3 hi2).mono ?_
        rintro e w3 ⟨x, n, rfl, hb3, hx⟩
        rcases hx with ⟨hn, hin, hfr, bs, sf, hat, hxt⟩ | ⟨hn, hat⟩
        · obtain ⟨tk, A, c⟩ := x
          have hxt : tk = ⟨0, B (lowL (upTo en ((L s).drop (i + 2)))), ⟨#[]⟩, bs, sf⟩ := hxt
          obtain ⟨nm, hnm⟩ : ∃ n, B (lowL (upTo en ((L s).drop (i + 2)))) = n := ⟨_, rfl⟩
          rw [hnm] at hxt
          subst hxt
          have hgt : decide ((n : Int) > (s.size : Int)) = false := decide_eq_false (by omega)
          have hbox : Tb (w3.alloc (.cells #[.int .i64 0, .string nm, .string ⟨#[]⟩, .slice A bs.length c, .bool sf] 35)) w3.heap.size ⟨⟨0, nm, ⟨#[]⟩, bs, sf⟩, A, c⟩ := Tb.new w3 ⟨⟨0, nm, ⟨#[]⟩, bs, sf⟩, A, c⟩
          have hb4 := below_new w3 (.cells #[.int .i64 0, .string nm, .string ⟨#[]⟩, .slice A bs.length c, .bool sf] 35)
          have ho5 := (HO2.out.below hb3).below hb4
          have hb5 := HB2.out.trans ((bt hb3 hb4).mono HB2.out.size)
          have hfr5 : Fr w.heap.size (w3.alloc (.cells #[.int .i64 0, .string nm, .string ⟨#[]⟩, .slice A bs.length c, .bool sf] 35)) ⟨⟨2, nm, ⟨#[]⟩, [], false⟩, none, 0⟩ := fr_none _ _ _ rfl
          have hl5 : l2.length ≤ 2000000 := by have := HI.out.few; omega
          have HNM := Lib.hid hnm; have HAT := Lib.hid hat; have HX5 := Lib.hid hbox; have HO5 := Lib.hid ho5; have HF5 := Lib.hid hfr5; have HB5 := Lib.hid hb5; clear hnm hat hbox ho5 hfr5 hb5 hb3 hb4 hfr
          obtain ⟨k0, k1, k2, k3, k4⟩ := HX5.out.c
          go_upto_region 16 with fail
          try rw [HNM.out]
          generalize w3.alloc (.cells #[.int .i64 0, .string nm, .string ⟨#[]⟩, .slice A bs.length c, .bool sf] 35) = W5 at *
          have hZ5 : w.heap.size ≤ W5.heap.size := HB5.out.size
          go_wp2_with (at_builtin; refine app_tok2 W5 rfl (.tmp 69) (.tmp 73) rfl w.heap.size v2 l2 ⟨⟨2, nm, ⟨#[]⟩, [], false⟩, none, 0⟩ rfl HO5.out.ow HF5.out.att HF5.out.ap W5.heap.size rfl rfl hl5 hZ5 ?_; intro v6 w6 how hk hf hg; obtain ⟨A6, c6, rfl⟩ := form1 how; have HK6 := Lib.hid hk; have HO6 := Lib.hid (Ot.add HO5.out HF5.out how hf); clear hk hf hg how k0 k1 k2 k3 k4)
          have hil7 : Il w w6 s W n (.slice A6 (l2.length + 1) c6) (l2 ++ [(⟨⟨2, nm, ⟨#[]⟩, [], false⟩, none, 0⟩ : Tw)]) ⟨#[]⟩ := by
            refine ⟨hn, HO6.out, HK6.out _ HB5.out, by rw [List.length_append]; have := HI.out.few; simp; omega, Nat.zero_le _, ?_⟩
            show tks _ ++ fl [] _ = W
            have he := HI.out.eq
            rw [fl_some _ (by rw [HBG.out]; decide), mk_2 HBG.out, ← HDR.out 2, (start_yes HAT.out).2, HNM.out] at he
            rw [fl_nil, tks_append, HT2.out, ← he]
            simp only [List.append_assoc]
            rfl
          have HI7 := Lib.hid hil7; clear hil7
          go_roundw
          case rel => exact ⟨n, _, ⟨#[]⟩, rfl, rfl, HI7.out⟩
          case measure => simp [intOf]; omega
        · have hgt : decide ((n : Int) > (s.size : Int)) = true := decide_eq_true (by omega)
          have heq := HI.out.eq
          rw [fl_some _ (by rw [HBG.out]; decide), mk_2 HBG.out, ← HDR.out 2, (start_no hat).2] at heq
          have heq : tks l2 = W := by
            rw [HT2.out, ← heq]
            show _ = _ ++ (_ ++ ([] ++ cut []))
            rw [cut_nil, List.append_nil, List.append_nil]
          have HE := Lib.hid heq; have HO3 := Lib.hid (HO2.out.below hb3); have HB3 := Lib.hid (HB2.out.trans (hb3.mono HB2.out.size)); clear heq hat hb3
          go_wp2
          go_ret
          exact ⟨_, l2, rfl, HO3.out.below (below_new w3 _), HE.out, bt HB3.out (below_new w3 _)⟩
      by_cases h3 : n = 3
      · subst h3
        obtain ⟨q1, q2, q3, q4, q5⟩ := F3.out rfl
        have Q1 := Lib.hid q1; have Q2 := Lib.hid q2; have Q3 := Lib.hid q3; have Q4 := Lib.hid q4; have Q5 := Lib.hid q5; clear q1 q2 q3 q4 q5
        go_wp2_with fail
        refine (refAt1 s _ i _ [60] true hs' (by omega) (by decide) (by decide) rfl Q1.out).mono ?_
        rintro e w' ⟨rfl, rfl⟩
        go_wp2_with fail
        refine (letterAt_any s (i + 1) _ false hs' Q2.out).mono ?_
        rintro e w' ⟨rfl, rfl⟩
        go_wp2_with fail
        refine (refAt1 s _ i _ [60, 47] true hs' (by omega) (by decide) (by decide) rfl Q3.out).mono ?_
        rintro e w' ⟨rfl, rfl⟩
        go_wp2_with fail
        refine (letterAt_any s (i + 2) _ false hs' Q4.out).mono ?_
        rintro e w' ⟨rfl, rfl⟩
        go_wp2_with fail
        refine (refAt1 s _ i _ [60] true hs' (by omega) (by decide) (by decide) rfl Q1.out).mono ?_
        rintro e w' ⟨rfl, rfl⟩
        go_wp2_with fail
        have hbw0 := below_new wr (.cells #[.int .i64 0, .string ⟨#[]⟩, .string ⟨#[]⟩, .slice none 0 0, .bool false] 35)
        have hx0 : Tb (wr.alloc (.cells #[.int .i64 0, .string ⟨#[]⟩, .string ⟨#[]⟩, .slice none 0 0, .bool false] 35)) wr.heap.size (T0 0 ⟨#[]⟩) := Tb.new wr (T0 0 ⟨#[]⟩)
        refine (note_any s i _ hs2 hp).mono ?_
        rintro e w2 ⟨kk, dd, n', rfl, hb2, hsome, hnone⟩
        have hx2 := hx0.below hb2
        have hb22 := bt hbw0 hb2
        obtain ⟨r0, r1, r2, r3, r4⟩ := hx2.z
        have z0 := hx2.f 0; have z1 := hx2.f 1; have z2 := hx2.f 2; have z3 := hx2.f 3; have z4 := hx2.f 4
        have hx3 := Tb.over0 hx2 kk dd
        have hb3 : Below wr.heap.size wr _ := below_over hb22 (Nat.le_refl wr.heap.size) (.int .i64 kk) (.string ⟨#[]⟩) (.string dd) (.slice none 0 0) (.bool false)
        have HX3 := Lib.hid hx3; have HB3 := Lib.hid hb3; have HSO := Lib.hid hsome; have HNN := Lib.hid hnone; clear hx0 hbw0 hb2 hx2 hb22 hx3 hb3 hsome hnone
        go_upto_region 23 with fail
        generalize ((((w2.setCell ⟨wr.heap.size, 0, none⟩ (.int .i64 kk)).setCell ⟨wr.heap.size, 1, none⟩ (.string ⟨#[]⟩)).setCell ⟨wr.heap.size, 2, none⟩ (.string dd)).setCell ⟨wr.heap.size, 3, none⟩ (.slice none 0 0)).setCell ⟨wr.heap.size, 4, none⟩ (.bool false) = W3 at *
        clear r0 r1 r2 r3 r4 z0 z1 z2 z3 z4
        obtain ⟨g13, hg13⟩ : ∃ g, wr.heap.size = g := ⟨_, rfl⟩
        rw [hg13] at HX3 ⊢
        have HG13 := Lib.hid hg13; clear hg13
        have ho3 := HI.out.own.below HB3.out
        have hN3 : w.heap.size ≤ W3.heap.size := Nat.le_trans hN HB3.out.size
        have hbel3 : Below w.heap.size w W3 := HI.out.bel.trans (HB3.out.mono hN)
        have HO3 := Lib.hid ho3; have HBE3 := Lib.hid hbel3; clear ho3 hbel3
        go_wp2_with fail
        refine (refAt1 s _ i _ [60, 47, 62] true hs' (by omega) (by decide) (by decide) rfl Q5.out).mono ?_
        rintro e w' ⟨rfl, rfl⟩
        go_wp2_with fail
        have hi3 : i + 3 ≤ s.size := by
          have := pre_len Q5.out
          rw [List.length_drop, size_L] at this
          simp at this
          omega
        refine (told_any w.heap.size _ l u W3 HO3.out hN3 hu2 hl2).mono ?_
        rintro e w4 ⟨v2, l2, rfl, ho2, ht2, hl22, hz2, hg2, hb2⟩
        have hil7 : Il w w4 s W (i + 3) v2 l2 ⟨#[]⟩ := by
          refine ⟨hi3, ho2, hb2 _ HBE3.out, by have := HI.out.few; omega, Nat.zero_le _, ?_⟩
          show tks l2 ++ fl [] _ = W
          have he := HI.out.eq
          rw [fl_some _ (by rw [HBG.out]; decide), mk_3 HBG.out, ← HDR.out 3] at he
          rw [fl_nil, ht2, ← he]
          simp only [List.append_assoc]
          rfl
        have HI7 := Lib.hid hil7; clear hil7 ho2 ht2 hg2 hb2 hz2
        go_wp2
        go_roundw
        case rel => exact ⟨i + 3, l2, ⟨#[]⟩, by go_num, rfl, HI7.out⟩
        case measure => simp [intOf]; omega
      by_cases h4 : 4 ≤ n
      · obtain ⟨q1, q2, q4, q5⟩ := F4.out h4
        have Q1 := Lib.hid q1; have Q2 := Lib.hid q2; have Q4 := Lib.hid q4; have Q5 := Lib.hid q5; clear q1 q2 q4 q5
        cases q3 : pre [60, 47] ((L s).drop i) with
        | true =>
          have Q3 := Lib.hid q3; clear q3
          go_wp2_with fail
          refine (refAt1 s _ i _ [60] true hs' (by omega) (by decide) (by decide) rfl Q1.out).mono ?_
          rintro e w' ⟨rfl, rfl⟩
          go_wp2_with fail
          refine (letterAt_any s (i + 1) _ false hs' Q2.out).mono ?_
          rintro e w' ⟨rfl, rfl⟩
          go_wp2_with fail
          refine (refAt1 s _ i _ [60, 47] true hs' (by omega) (by decide) (by decide) rfl Q3.out).mono ?_
          rintro e w' ⟨rfl, rfl⟩
          go_wp2_with fail
          refine (letterAt_any s (i + 2) _ false hs' (Q4.out Q3.out)).mono ?_
          rintro e w' ⟨rfl, rfl⟩
          go_wp2_with fail
          refine (refAt1 s _ i _ [60] true hs' (by omega) (by decide) (by decide) rfl Q1.out).mono ?_
          rintro e w' ⟨rfl, rfl⟩
          go_wp2_with fail
          have hbw0 := below_new wr (.cells #[.int .i64 0, .string ⟨#[]⟩, .string ⟨#[]⟩, .slice none 0 0, .bool false] 35)
          have hx0 : Tb (wr.alloc (.cells #[.int .i64 0, .string ⟨#[]⟩, .string ⟨#[]⟩, .slice none 0 0, .bool false] 35)) wr.heap.size (T0 0 ⟨#[]⟩) := Tb.new wr (T0 0 ⟨#[]⟩)
          refine (note_any s i _ hs2 hp).mono ?_
          rintro e w2 ⟨kk, dd, n', rfl, hb2, hsome, hnone⟩
          have hx2 := hx0.below hb2
          have hb22 := bt hbw0 hb2
          obtain ⟨r0, r1, r2, r3, r4⟩ := hx2.z
          have z0 := hx2.f 0; have z1 := hx2.f 1; have z2 := hx2.f 2; have z3 := hx2.f 3; have z4 := hx2.f 4
          have hx3 := Tb.over0 hx2 kk dd
          have hb3 : Below wr.heap.size wr _ := below_over hb22 (Nat.le_refl wr.heap.size) (.int .i64 kk) (.string ⟨#[]⟩) (.string dd) (.slice none 0 0) (.bool false)
          have HX3 := Lib.hid hx3; have HB3 := Lib.hid hb3; have HSO := Lib.hid hsome; have HNN := Lib.hid hnone; clear hx0 hbw0 hb2 hx2 hb22 hx3 hb3 hsome hnone
          go_upto_region 23 with fail
          generalize ((((w2.setCell ⟨wr.heap.size, 0, none⟩ (.int .i64 kk)).setCell ⟨wr.heap.size, 1, none⟩ (.string ⟨#[]⟩)).setCell ⟨wr.heap.size, 2, none⟩ (.string dd)).setCell ⟨wr.heap.size, 3, none⟩ (.slice none 0 0)).setCell ⟨wr.heap.size, 4, none⟩ (.bool false) = W3 at *
          clear r0 r1 r2 r3 r4 z0 z1 z2 z3 z4
          obtain ⟨g13, hg13⟩ : ∃ g, wr.heap.size = g := ⟨_, rfl⟩
          rw [hg13] at HX3 ⊢
          have HG13 := Lib.hid hg13; clear hg13
          have ho3 := HI.out.own.below HB3.out
          have hN3 : w.heap.size ≤ W3.heap.size := Nat.le_trans hN HB3.out.size
          have hbel3 : Below w.heap.size w W3 := HI.out.bel.trans (HB3.out.mono hN)
          have HO3 := Lib.hid ho3; have HBE3 := Lib.hid hbel3; clear ho3 hbel3
          obtain ⟨k', d', r', hno, hmk⟩ := HNO.out.1 h4
          obtain ⟨hx, hn, hin⟩ := HSO.out _ hno
          have hmk : mk ((L s).drop i) = ([⟨kk, B [], dd, [], false⟩], (L s).drop n') := by
            have e1 : k' = kk := congrArg (·.1) hx
            have e2 : d' = dd := congrArg (·.2.1) hx
            have e3 : r' = (L s).drop n' := congrArg (·.2.2) hx
            rw [hmk, e1, e2, e3]
          have HMK := Lib.hid hmk; clear hno hx hmk
          have hnb : ((n' : Int) == (i : Int)) = false := by rw [beq_eq_false_iff_ne]; omega
          go_wp2_with fail
          refine (refAt1 s _ i _ [60, 47, 62] false hs' (by omega) (by decide) (by decide) rfl Q5.out).mono ?_
          rintro e w' ⟨rfl, rfl⟩
          go_wp2_with fail
          refine (told_any w.heap.size _ l u W3 HO3.out hN3 hu2 hl2).mono ?_
          rintro e w4 ⟨v2, l2, rfl, ho2, ht2, hl22, hz2, hg2, hb2⟩
          have hx4 := Tb.past HX3.out HI.out.own hg2 (Nat.le_of_eq HG13.out)
          obtain ⟨k0, k1, k2, k3, k4⟩ := hx4.z
          have hb4 := hb2 _ HBE3.out
          have hZ4 : w.heap.size ≤ w4.heap.size := hb4.size
          have hfr4 : Fr w.heap.size w4 (T0 kk dd) := fr_none _ _ _ rfl
          have hl5 : l2.length ≤ 2000000 := by have := HI.out.few; omega
          have HO4 := Lib.hid ho2; have HT4 := Lib.hid ht2; have HB4 := Lib.hid hb4; have HF4 := Lib.hid hfr4; clear ho2 ht2 hb4 hfr4 hg2 hb2 hz2 hx4
          go_wp2_with (at_builtin; refine app_tok2 w4 rfl (.tmp 123) (.tmp 125) rfl w.heap.size v2 l2 (T0 kk dd) rfl HO4.out.ow HF4.out.att HF4.out.ap w4.heap.size rfl rfl hl5 hZ4 ?_; intro v6 w6 how hk hf hg; obtain ⟨A6, c6, rfl⟩ := form1 how; have HK6 := Lib.hid hk; have HO6 := Lib.hid (Ot.add HO4.out HF4.out how hf); clear hk hf hg how k0 k1 k2 k3 k4)
          have hil7 : Il w w6 s W n' (.slice A6 (l2.length + 1) c6) (l2 ++ [T0 kk dd]) ⟨#[]⟩ := by
            refine ⟨hn, HO6.out, HK6.out _ HB4.out, by rw [List.length_append]; have := HI.out.few; simp; omega, Nat.zero_le _, ?_⟩
            show tks _ ++ fl [] _ = W
            have he := HI.out.eq
            rw [fl_some _ (by rw [HBG.out]; omega), HMK.out] at he
            rw [fl_nil, tks_append, HT4.out, ← he]
            simp only [List.append_assoc]
            rfl
          have HI7 := Lib.hid hil7; clear hil7
          go_roundw
          case rel => exact ⟨n', _, ⟨#[]⟩, rfl, rfl, HI7.out⟩
          case measure => simp [intOf]; omega
        | false =>
          have Q3 := Lib.hid q3; clear q3
          go_wp2_with fail
          refine (refAt1 s _ i _ [60] true hs' (by omega) (by decide) (by decide) rfl Q1.out).mono ?_
          rintro e w' ⟨rfl, rfl⟩
          go_wp2_with fail
          refine (letterAt_any s (i + 1) _ false hs' Q2.out).mono ?_
          rintro e w' ⟨rfl, rfl⟩
          go_wp2_with fail
          refine (refAt1 s _ i _ [60, 47] false hs' (by omega) (by decide) (by decide) rfl Q3.out).mono ?_
          rintro e w' ⟨rfl, rfl⟩
          go_wp2_with fail
          refine (refAt1 s _ i _ [60] true hs' (by omega) (by decide) (by decide) rfl Q1.out).mono ?_
          rintro e w' ⟨rfl, rfl⟩
          go_wp2_with fail
          have hbw0 := below_new wr (.cells #[.int .i64 0, .string ⟨#[]⟩, .string ⟨#[]⟩, .slice none 0 0, .bool false] 35)
          have hx0 : Tb (wr.alloc (.cells #[.int .i64 0, .string ⟨#[]⟩, .string ⟨#[]⟩, .slice none 0 0, .bool false] 35)) wr.heap.size (T0 0 ⟨#[]⟩) := Tb.new wr (T0 0 ⟨#[]⟩)
          refine (note_any s i _ hs2 hp).mono ?_
          rintro e w2 ⟨kk, dd, n', rfl, hb2, hsome, hnone⟩
          have hx2 := hx0.below hb2
          have hb22 := bt hbw0 hb2
          obtain ⟨r0, r1, r2, r3, r4⟩ := hx2.z
          have z0 := hx2.f 0; have z1 := hx2.f 1; have z2 := hx2.f 2; have z3 := hx2.f 3; have z4 := hx2.f 4
          have hx3 := Tb.over0 hx2 kk dd
          have hb3 : Below wr.heap.size wr _ := below_over hb22 (Nat.le_refl wr.heap.size) (.int .i64 kk) (.string ⟨#[]⟩) (.string dd) (.slice none 0 0) (.bool false)
          have HX3 := Lib.hid hx3; have HB3 := Lib.hid hb3; have HSO := Lib.hid hsome; have HNN := Lib.hid hnone; clear hx0 hbw0 hb2 hx2 hb22 hx3 hb3 hsome hnone
          go_upto_region 23 with fail
          generalize ((((w2.setCell ⟨wr.heap.size, 0, none⟩ (.int .i64 kk)).setCell ⟨wr.heap.size, 1, none⟩ (.string ⟨#[]⟩)).setCell ⟨wr.heap.size, 2, none⟩ (.string dd)).setCell ⟨wr.heap.size, 3, none⟩ (.slice none 0 0)).setCell ⟨wr.heap.size, 4, none⟩ (.bool false) = W3 at *
          clear r0 r1 r2 r3 r4 z0 z1 z2 z3 z4
          obtain ⟨g13, hg13⟩ : ∃ g, wr.heap.size = g := ⟨_, rfl⟩
          rw [hg13] at HX3 ⊢
          have HG13 := Lib.hid hg13; clear hg13
          have ho3 := HI.out.own.below HB3.out
          have hN3 : w.heap.size ≤ W3.heap.size := Nat.le_trans hN HB3.out.size
          have hbel3 : Below w.heap.size w W3 := HI.out.bel.trans (HB3.out.mono hN)
          have HO3 := Lib.hid ho3; have HBE3 := Lib.hid hbel3; clear ho3 hbel3
          obtain ⟨k', d', r', hno, hmk⟩ := HNO.out.1 h4
          obtain ⟨hx, hn, hin⟩ := HSO.out _ hno
          have hmk : mk ((L s).drop i) = ([⟨kk, B [], dd, [], false⟩], (L s).drop n') := by
            have e1 : k' = kk := congrArg (·.1) hx
            have e2 : d' = dd := congrArg (·.2.1) hx
            have e3 : r' = (L s).drop n' := congrArg (·.2.2) hx
            rw [hmk, e1, e2, e3]
          have HMK := Lib.hid hmk; clear hno hx hmk
          have hnb : ((n' : Int) == (i : Int)) = false := by rw [beq_eq_false_iff_ne]; omega
          go_wp2_with fail
          refine (refAt1 s _ i _ [60, 47, 62] false hs' (by omega) (by decide) (by decide) rfl Q5.out).mono ?_
          rintro e w' ⟨rfl, rfl⟩
          go_wp2_with fail
          refine (told_any w.heap.size _ l u W3 HO3.out hN3 hu2 hl2).mono ?_
          rintro e w4 ⟨v2, l2, rfl, ho2, ht2, hl22, hz2, hg2, hb2⟩
          have hx4 := Tb.past HX3.out HI.out.own hg2 (Nat.le_of_eq HG13.out)
          obtain ⟨k0, k1, k2, k3, k4⟩ := hx4.z
          have hb4 := hb2 _ HBE3.out
          have hZ4 : w.heap.size ≤ w4.heap.size := hb4.size
          have hfr4 : Fr w.heap.size w4 (T0 kk dd) := fr_none _ _ _ rfl
          have hl5 : l2.length ≤ 2000000 := by have := HI.out.few; omega
          have HO4 := Lib.hid ho2; have HT4 := Lib.hid ht2; have HB4 := Lib.hid hb4; have HF4 := Lib.hid hfr4; clear ho2 ht2 hb4 hfr4 hg2 hb2 hz2 hx4
          go_wp2_with (at_builtin; refine app_tok2 w4 rfl (.tmp 123) (.tmp 125) rfl w.heap.size v2 l2 (T0 kk dd) rfl HO4.out.ow HF4.out.att HF4.out.ap w4.heap.size rfl rfl hl5 hZ4 ?_; intro v6 w6 how hk hf hg; obtain ⟨A6, c6, rfl⟩ := form1 how; have HK6 := Lib.hid hk; have HO6 := Lib.hid (Ot.add HO4.out HF4.out how hf); clear hk hf hg how k0 k1 k2 k3 k4)
          have hil7 : Il w w6 s W n' (.slice A6 (l2.length + 1) c6) (l2 ++ [T0 kk dd]) ⟨#[]⟩ := by
            refine ⟨hn, HO6.out, HK6.out _ HB4.out, by rw [List.length_append]; have := HI.out.few; simp; omega, Nat.zero_le _, ?_⟩
            show tks _ ++ fl [] _ = W
            have he := HI.out.eq
            rw [fl_some _ (by rw [HBG.out]; omega), HMK.out] at he
            rw [fl_nil, tks_append, HT4.out, ← he]
            simp only [List.append_assoc]
            rfl
          have HI7 := Lib.hid hil7; clear hil7
          go_roundw
          case rel => exact ⟨n', _, ⟨#[]⟩, rfl, rfl, HI7.out⟩
          case measure => simp [intOf]; omega
      have h0 : n = 0 := by omega
      subst h0
      obtain ⟨q2, q4, q5⟩ := F0.out rfl
      have Q2 := Lib.hid q2; have Q4 := Lib.hid q4; have Q5 := Lib.hid q5; clear q2 q4 q5
      cases q1 : pre [60] ((L s).drop i) with
      | true =>
        have Q1 := Lib.hid q1; clear q1
        cases q3 : pre [60, 47] ((L s).drop i) with
        | true =>
          have Q3 := Lib.hid q3; clear q3
          go_wp2_with fail
          refine (refAt1 s _ i _ [60] true hs' (by omega) (by decide) (by decide) rfl Q1.out).mono ?_
          rintro e w' ⟨rfl, rfl⟩
          go_wp2_with fail
          refine (letterAt_any s (i + 1) _ false hs' (Q2.out Q1.out)).mono ?_
          rintro e w' ⟨rfl, rfl⟩
          go_wp2_with fail
          refine (refAt1 s _ i _ [60, 47] true hs' (by omega) (by decide) (by decide) rfl Q3.out).mono ?_
          rintro e w' ⟨rfl, rfl⟩
          go_wp2_with fail
          refine (letterAt_any s (i + 2) _ false hs' (Q4.out Q3.out)).mono ?_
          rintro e w' ⟨rfl, rfl⟩
          go_wp2_with fail
          refine (refAt1 s _ i _ [60] true hs' (by omega) (by decide) (by decide) rfl Q1.out).mono ?_
          rintro e w' ⟨rfl, rfl⟩
          go_wp2_with fail
          have hbw0 := below_new wr (.cells #[.int .i64 0, .string ⟨#[]⟩, .string ⟨#[]⟩, .slice none 0 0, .bool false] 35)
          have hx0 : Tb (wr.alloc (.cells #[.int .i64 0, .string ⟨#[]⟩, .string ⟨#[]⟩, .slice none 0 0, .bool false] 35)) wr.heap.size (T0 0 ⟨#[]⟩) := Tb.new wr (T0 0 ⟨#[]⟩)
          refine (note_any s i _ hs2 hp).mono ?_
          rintro e w2 ⟨kk, dd, n', rfl, hb2, hsome, hnone⟩
          have hx2 := hx0.below hb2
          have hb22 := bt hbw0 hb2
          obtain ⟨r0, r1, r2, r3, r4⟩ := hx2.z
          have z0 := hx2.f 0; have z1 := hx2.f 1; have z2 := hx2.f 2; have z3 := hx2.f 3; have z4 := hx2.f 4
          have hx3 := Tb.over0 hx2 kk dd
          have hb3 : Below wr.heap.size wr _ := below_over hb22 (Nat.le_refl wr.heap.size) (.int .i64 kk) (.string ⟨#[]⟩) (.string dd) (.slice none 0 0) (.bool false)
          have HX3 := Lib.hid hx3; have HB3 := Lib.hid hb3; have HSO := Lib.hid hsome; have HNN := Lib.hid hnone; clear hx0 hbw0 hb2 hx2 hb22 hx3 hb3 hsome hnone
          go_upto_region 23 with fail
          generalize ((((w2.setCell ⟨wr.heap.size, 0, none⟩ (.int .i64 kk)).setCell ⟨wr.heap.size, 1, none⟩ (.string ⟨#[]⟩)).setCell ⟨wr.heap.size, 2, none⟩ (.string dd)).setCell ⟨wr.heap.size, 3, none⟩ (.slice none 0 0)).setCell ⟨wr.heap.size, 4, none⟩ (.bool false) = W3 at *
          clear r0 r1 r2 r3 r4 z0 z1 z2 z3 z4
          obtain ⟨g13, hg13⟩ : ∃ g, wr.heap.size = g := ⟨_, rfl⟩
          rw [hg13] at HX3 ⊢
          have HG13 := Lib.hid hg13; clear hg13
          have ho3 := HI.out.own.below HB3.out
          have hN3 : w.heap.size ≤ W3.heap.size := Nat.le_trans hN HB3.out.size
          have hbel3 : Below w.heap.size w W3 := HI.out.bel.trans (HB3.out.mono hN)
          have HO3 := Lib.hid ho3; have HBE3 := Lib.hid hbel3; clear ho3 hbel3
          have hni : n' = i := HNN.out (HNO.out.2 (by simp) Q1.out)
          rw [hni]
          clear hni HSO HNN
          go_wp2_with fail
          refine (refAt1 s _ i _ [60, 47, 62] false hs' (by omega) (by decide) (by decide) rfl Q5.out).mono ?_
          rintro e w' ⟨rfl, rfl⟩
          have hus : (u.size : Int) + ((s.extract i (i + 1)).size : Int) ≤ 9223372036854775807 := by
            have h1 := size_extract s i (i + 1)
            have h2 := HI.out.uz
            omega
          have i0 : (0 : Int) ≤ (i : Int) := by omega
          have i1 : (i : Int) ≤ (i : Int) + 1 := by omega
          have i2 : (i : Int) + 1 ≤ (s.size : Int) := by omega
          have hil7 : Il w W3 s W (i + 1) u5 l (u ++ s.extract i (i + 1)) := by
            refine ⟨by omega, HO3.out, HBE3.out, by have := HI.out.few; omega, ?_, ?_⟩
            · rw [size_append]
              have h2 := HI.out.uz
              have : (s.extract i (i + 1)).size = 1 := by rw [← size_L, L_extract, drop_cons s i hp, show i + 1 - i = 1 from by omega]; rfl
              omega
            · rw [L_snoc u s i hp]
              have he := HI.out.eq
              have hb := HBG.out
              rw [drop_cons s i hp] at he hb
              rw [fl_none _ hb] at he
              exact he
          have HI7 := Lib.hid hil7; clear hil7
          go_wp2
          go_roundw
          case rel => exact ⟨i + 1, l, _, by go_num, rfl, HI7.out⟩
          case measure => simp [intOf]; omega
        | false =>
          have Q3 := Lib.hid q3; clear q3
          go_wp2_with fail
          refine (refAt1 s _ i _ [60] true hs' (by omega) (by decide) (by decide) rfl Q1.out).mono ?_
          rintro e w' ⟨rfl, rfl⟩
          go_wp2_with fail
          refine (letterAt_any s (i + 1) _ false hs' (Q2.out Q1.out)).mono ?_
          rintro e w' ⟨rfl, rfl⟩
          go_wp2_with fail
          refine (refAt1 s _ i _ [60, 47] false hs' (by omega) (by decide) (by decide) rfl Q3.out).mono ?_
          rintro e w' ⟨rfl, rfl⟩
          go_wp2_with fail
          refine (refAt1 s _ i _ [60] true hs' (by omega) (by decide) (by decide) rfl Q1.out).mono ?_
          rintro e w' ⟨rfl, rfl⟩
          go_wp2_with fail
          have hbw0 := below_new wr (.cells #[.int .i64 0, .string ⟨#[]⟩, .string ⟨#[]⟩, .slice none 0 0, .bool false] 35)
          have hx0 : Tb (wr.alloc (.cells #[.int .i64 0, .string ⟨#[]⟩, .string ⟨#[]⟩, .slice none 0 0, .bool false] 35)) wr.heap.size (T0 0 ⟨#[]⟩) := Tb.new wr (T0 0 ⟨#[]⟩)
          refine (note_any s i _ hs2 hp).mono ?_
          rintro e w2 ⟨kk, dd, n', rfl, hb2, hsome, hnone⟩
          have hx2 := hx0.below hb2
          have hb22 := bt hbw0 hb2
          obtain ⟨r0, r1, r2, r3, r4⟩ := hx2.z
          have z0 := hx2.f 0; have z1 := hx2.f 1; have z2 := hx2.f 2; have z3 := hx2.f 3; have z4 := hx2.f 4
          have hx3 := Tb.over0 hx2 kk dd
          have hb3 : Below wr.heap.size wr _ := below_over hb22 (Nat.le_refl wr.heap.size) (.int .i64 kk) (.string ⟨#[]⟩) (.string dd) (.slice none 0 0) (.bool false)
          have HX3 := Lib.hid hx3; have HB3 := Lib.hid hb3; have HSO := Lib.hid hsome; have HNN := Lib.hid hnone; clear hx0 hbw0 hb2 hx2 hb22 hx3 hb3 hsome hnone
          go_upto_region 23 with fail
          generalize ((((w2.setCell ⟨wr.heap.size, 0, none⟩ (.int .i64 kk)).setCell ⟨wr.heap.size, 1, none⟩ (.string ⟨#[]⟩)).setCell ⟨wr.heap.size, 2, none⟩ (.string dd)).setCell ⟨wr.heap.size, 3, none⟩ (.slice none 0 0)).setCell ⟨wr.heap.size, 4, none⟩ (.bool false) = W3 at *
          clear r0 r1 r2 r3 r4 z0 z1 z2 z3 z4
          obtain ⟨g13, hg13⟩ : ∃ g, wr.heap.size = g := ⟨_, rfl⟩
          rw [hg13] at HX3 ⊢
          have HG13 := Lib.hid hg13; clear hg13
          have ho3 := HI.out.own.below HB3.out
          have hN3 : w.heap.size ≤ W3.heap.size := Nat.le_trans hN HB3.out.size
          have hbel3 : Below w.heap.size w W3 := HI.out.bel.trans (HB3.out.mono hN)
          have HO3 := Lib.hid ho3; have HBE3 := Lib.hid hbel3; clear ho3 hbel3
          have hni : n' = i := HNN.out (HNO.out.2 (by simp) Q1.out)
          rw [hni]
          clear hni HSO HNN
          go_wp2_with fail
          refine (refAt1 s _ i _ [60, 47, 62] false hs' (by omega) (by decide) (by decide) rfl Q5.out).mono ?_
          rintro e w' ⟨rfl, rfl⟩
          have hus : (u.size : Int) + ((s.extract i (i + 1)).size : Int) ≤ 9223372036854775807 := by
            have h1 := size_extract s i (i + 1)
            have h2 := HI.out.uz
            omega
          have i0 : (0 : Int) ≤ (i : Int) := by omega
          have i1 : (i : Int) ≤ (i : Int) + 1 := by omega
          have i2 : (i : Int) + 1 ≤ (s.size : Int) := by omega
          have hil7 : Il w W3 s W (i + 1) u5 l (u ++ s.extract i (i + 1)) := by
            refine ⟨by omega, HO3.out, HBE3.out, by have := HI.out.few; omega, ?_, ?_⟩
            · rw [size_append]
              have h2 := HI.out.uz
              have : (s.extract i (i + 1)).size = 1 := by rw [← size_L, L_extract, drop_cons s i hp, show i + 1 - i = 1 from by omega]; rfl
              omega
            · rw [L_snoc u s i hp]
              have he := HI.out.eq
              have hb := HBG.out
              rw [drop_cons s i hp] at he hb
              rw [fl_none _ hb] at he
              exact he
          have HI7 := Lib.hid hil7; clear hil7
          go_wp2
          go_roundw
          case rel => exact ⟨i + 1, l, _, by go_num, rfl, HI7.out⟩
          case measure => simp [intOf]; omega
      | false =>
        have Q1 := Lib.hid q1
        have Q3 := Lib.hid (show pre [60, 47] ((L s).drop i) = false by
          rw [drop_cons s i hp] at q1 ⊢
          rw [pre_cons] at q1 ⊢
          rw [pre_nil, Bool.and_true] at q1
          rw [q1]; rfl)
        clear q1
        go_wp2_with fail
        refine (refAt1 s _ i _ [60] false hs' (by omega) (by decide) (by decide) rfl Q1.out).mono ?_
        rintro e w' ⟨rfl, rfl⟩
        go_wp2_with fail
        refine (refAt1 s _ i _ [60, 47] false hs' (by omega) (by decide) (by decide) rfl Q3.out).mono ?_
        rintro e w' ⟨rfl, rfl⟩
        go_wp2_with fail
        refine (refAt1 s _ i _ [60] false hs' (by omega) (by decide) (by decide) rfl Q1.out).mono ?_
        rintro e w' ⟨rfl, rfl⟩
        go_wp2_with fail
        refine (refAt1 s _ i _ [60, 47, 62] false hs' (by omega) (by decide) (by decide) rfl Q5.out).mono ?_
        rintro e w' ⟨rfl, rfl⟩
        have hbw0 := below_new wr (.cells #[.int .i64 0, .string ⟨#[]⟩, .string ⟨#[]⟩, .slice none 0 0, .bool false] 35)
        have HO3 := Lib.hid (HI.out.own.below hbw0); have HBE3 := Lib.hid (bt (show Below wr.heap.size wr wr from Below.refl _ _) hbw0); clear hbw0
        have HBE3 := Lib.hid (HI.out.bel.trans (HBE3.out.mono hN))
        have hus : (u.size : Int) + ((s.extract i (i + 1)).size : Int) ≤ 9223372036854775807 := by
          have h1 := size_extract s i (i + 1)
          have h2 := HI.out.uz
          omega
        have i0 : (0 : Int) ≤ (i : Int) := by omega
        have i1 : (i : Int) ≤ (i : Int) + 1 := by omega
        have i2 : (i : Int) + 1 ≤ (s.size : Int) := by omega
        have hil7 : Il w (wr.alloc (.cells #[.int .i64 0, .string ⟨#[]⟩, .string ⟨#[]⟩, .slice none 0 0, .bool false] 35)) s W (i + 1) u5 l (u ++ s.extract i (i + 1)) := by
          refine ⟨by omega, HO3.out, HBE3.out, by have := HI.out.few; omega, ?_, ?_⟩
          · rw [size_append]
            have h2 := HI.out.uz
            have : (s.extract i (i + 1)).size = 1 := by rw [← size_L, L_extract, drop_cons s i hp, show i + 1 - i = 1 from by omega]; rfl
            omega
          · rw [L_snoc u s i hp]
            have he := HI.out.eq
            have hb := HBG.out
            rw [drop_cons s i hp] at he hb
            rw [fl_none _ hb] at he
            exact he
        have HI7 := Lib.hid hil7; clear hil7
        go_wp2
        go_roundw
        case rel => exact ⟨i + 1, l, _, by go_num, rfl, HI7.out⟩
        case measure => simp [intOf]; omega
    · have hlt : decide ((i : Int) < s.size) = false := decide_eq_false (by omega)
      go_wp2_with fail
      refine (told_any w.heap.size _ l u wr HI.out.own hN hu2 hl2).mono ?_
      rintro e w2 ⟨v2, l2, rfl, ho2, ht2, hl22, hz2, hg2, hb2⟩
      have heq := HI.out.eq
      rw [drop_nil s i hp, fl_end, ← ht2] at heq
      have HO2 := Lib.hid ho2; have HE := Lib.hid heq; have HB2 := Lib.hid (hb2 w HI.out.bel); clear ho2 ht2 hg2 hb2 heq
      go_wp2
      go_ret
      exact ⟨_, l2, rfl, HO2.out, HE.out, HB2.out⟩

end Go.Proofs.YtjhhhlomkfnniaaDoor.To
