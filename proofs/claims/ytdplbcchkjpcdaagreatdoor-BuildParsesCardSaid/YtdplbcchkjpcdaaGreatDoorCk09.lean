/-
  Walks of stage 6: tag of the reader. Walks of stage 6: markup of the reader. Walks of stage 6: token.In, token.Cut: the tokens are those of TokMath.
  Walks of stage 3: a text decoded by the reference (boltingref03.Decode).
  Walks of stage 3: a text written out (refs.escaped, Text, Value, boltingref03.Write).
  Tokens written out, in plain words. Walks of stage 6: appendAll, appendStart, appendToken: bytes of the call's own. Walks of stage 6: appendStart. Walks of stage 6: appendToken, token.Write.
  What follows for tokens, in plain words: plain text ahead, tags without an end.
  What follows for tokens, in plain words: comments, doctypes, texts as they stand.
  Tokens have no more than twice what the document has.
  Plain mathematics on bytes as characters: what one step of a division finds at the head of a list of bytes, and what is made of it (decoded, right, counted, sampled, lines). It speaks of no program.
-/
import Derived.Test.YtdplbcchkjpcdaaGreatDoorCk08
import Derived.Test.YtdplbcchkjpcdaaGreatDoorCk04
import Derived.Test.YtdplbcchkjpcdaaGreatDoorCk02
import Derived.Laws.RangeAny
namespace Go.Proofs.YtdplbcchkjpcdaaGreatDoor.To
set_option maxRecDepth 100000
set_option linter.unusedSimpArgs false
set_option linter.unusedVariables false
open Go.RowKit Ba Fm Fo Tm Nm
open Ro (At acells len_acells below_new Sh Ra acells_one info_attr)
open Re (Tab)
open Rm (dec)
set_option maxRecDepth 100000 in
set_option maxHeartbeats 4000000 in
theorem tag_start (N b k : Nat) (s : ByteArray) (l : List Tw) (w : World) (h : Rg N w b s k l) (hk : k ≤ s.size) (hs : s.size ≤ 1000000000) (hl : l.length ≤ 1000000000) (hT : Tab w) (hN0 : 0 < N) :
    Calls Tryz.prog 56 #[rp b, .int .i64 1] w fun e w' => e = .returned (.tuple #[]) ∧ ∃ m l', m ≤ s.size ∧ (L s).drop m = (startTag ((L s).drop k)).2 ∧ Rg N w' b s m l' ∧ tks l' = tks l ++ (startTag ((L s).drop k)).1 ∧ Below N w w' := by
  have hs' : s.size ≤ 140737488355328 := by omega
  have HT := Lib.hid hT; clear hT
  obtain ⟨V, hr, ho, hN⟩ := h
  have hb0 : 0 < b := by omega
  go_enter Tryz.func56, Tryz.ntmps56
  go_wp2_with fail
  refine (upTo_en b k s V w hr hk hs').mono ?_
  rintro e w1 ⟨rfl, m1, hm1, hd1, h1, hg1⟩
  obtain ⟨g1, B1⟩ := Rg.step hr ho hN hg1 h1
  have B1' := B1 _ (Below.refl N w)
  have hsz : (B (upTo en ((L s).drop k))).size ≤ s.size := by
    rw [size_B]
    have := len_lead (by1 en) ((L s).drop k)
    rw [List.length_drop, size_L] at this
    show (lead (by1 en) _).length ≤ _
    omega
  have hsz' : (B (upTo en ((L s).drop k))).size ≤ 140737488355328 := by omega
  clear hr ho hg1 h1 B1
  go_wp2_with fail
  refine (lower_any _ w1 hsz').mono ?_
  rintro e w2 ⟨rfl, hb2⟩
  rw [L_B]
  obtain ⟨nm, hnm⟩ : ∃ nm, B (lowL (upTo en ((L s).drop k))) = nm := ⟨_, rfl⟩
  rw [hnm]
  have hnl : lowL (upTo en ((L s).drop k)) = L nm := by rw [← hnm, L_B]
  have hns : nm.size ≤ 140737488351232 := by
    rw [← hnm, size_B, len_lowL]
    rw [size_B] at hsz
    omega
  obtain ⟨g2, B2⟩ := g1.below hb2
  have B3 := B1'.trans B2
  have hT2 := tab_below HT.out B3 hN0
  obtain ⟨V2, hr2, ho2, _⟩ := g2
  clear g1 B1' B2 hb2 hsz hsz' hnm
  go_wp2_with fail
  refine (attrs_any b m1 s V2 w2 hr2 hm1 hs hT2 hb0).mono ?_
  rintro e w3 ⟨va, sf, en_, m, la, rfl, hown, hm, hla, h3, hg3, heq, hen⟩
  rw [hd1] at heq
  obtain ⟨g3, B4⟩ := Rg.step hr2 ho2 hN hg3 h3
  have B5 := B4 _ B3
  have hNw : N ≤ w2.heap.size := by have := hr2.lt; omega
  clear B4 B3 hr2 ho2 hg3 h3 hd1 hT2
  cases en_ with
  | false =>
    rw [if_neg (by simp)] at heq
    have hst := start_no heq
    have HS := Lib.hid hst; have HE := Lib.hid (hen rfl); clear hst heq hen hown hnl
    go_wp2
    first | go_end0 | refine bodyPost_ret (results_none rfl _ _ _) rfl ?_
    refine ⟨rfl, m, l, hm, ?_, g3, ?_, B5⟩
    · rw [HS.out.1, HE.out, drop_nil s s.size (by omega)]
    · rw [HS.out.1, List.append_nil]
  | true =>
    rw [if_pos rfl] at heq
    have hst := start_yes heq
    obtain ⟨A, c, rfl⟩ := hown.form
    obtain ⟨V3, hr3, ho3, _⟩ := g3
    have c2 := hr3.c2; have f2 := hr3.f 2
    have hZ : N ≤ w3.heap.size := by have := hr3.lt; omega
    have hl2 : l.length ≤ 4000000000 := by omega
    have hfr : Fr N w3 ⟨⟨1, nm, ⟨#[]⟩, la, sf⟩, A, c⟩ := (hown.mono hNw).fr _ _ _ _
    have HS := Lib.hid hst; have HR := Lib.hid hr3; have HO := Lib.hid ho3; have HF := Lib.hid hfr; have HN := Lib.hid hnl; have HB := Lib.hid B5; clear hst heq hen hown hnl hr3 ho3 hfr B5
    go_wp2_with (at_builtin; refine app_tok2 w3 rfl (.tmp 21) (.tmp 27) rfl N V3 l ⟨⟨1, nm, ⟨#[]⟩, la, sf⟩, A, c⟩ rfl HO.out.ow HF.out.att HF.out.ap w3.heap.size rfl rfl hl2 hZ ?_; intro v4 w4 how hk hf hg; obtain ⟨A4, cc4, rfl⟩ := form1 how; have hrc4 := rc_over HR.out HO.out hg; have c4 := hrc4.c2; have f4 := hrc4.f 2; have HK := Lib.hid hk; have HFF := Lib.hid hf; have HG := Lib.hid hg; have HOW := Lib.hid how; clear hk hf hg how hrc4 c2 f2)
    obtain ⟨r1, r2⟩ := Rg.add HR.out HO.out hN HF.out HOW.out HK.out HFF.out HG.out
    have B6 := r2 _ HB.out
    have hT4 := tab_below HT.out B6 hN0
    have HS2 := HS.out.1
    rw [HN.out] at HS2
    have HS3 := Lib.hid HS2
    clear HS2 r2
    refine (contents_any N b m s nm _ _ r1 hm hs hns (by rw [List.length_append]; exact Nat.le_trans (Nat.add_le_add_right hl 1) (by decide)) hT4 hN0).mono ?_
    rintro e w5 ⟨rfl, m5, l5, hm5, hd5, g5, ht5, B7⟩
    go_wp2
    go_end0
    refine ⟨rfl, m5, l5, hm5, ?_, g5, ?_, B6.trans B7⟩
    · rw [HS3.out]; exact hd5
    · rw [HS3.out, ht5, tks_append, List.append_assoc]
      show _ ++ (_ :: _) = _ ++ (_ :: _)
      congr 1

set_option maxRecDepth 100000 in
set_option maxHeartbeats 4000000 in
theorem tag_end (N b k : Nat) (s : ByteArray) (l : List Tw) (w : World) (h : Rg N w b s k l) (hk : k ≤ s.size) (hs : s.size ≤ 1000000000) (hl : l.length ≤ 1000000000) (hT : Tab w) (hN0 : 0 < N) :
    Calls Tryz.prog 56 #[rp b, .int .i64 2] w fun e w' => e = .returned (.tuple #[]) ∧ ∃ m l', m ≤ s.size ∧ (L s).drop m = (endTag ((L s).drop k)).2 ∧ Rg N w' b s m l' ∧ tks l' = tks l ++ (endTag ((L s).drop k)).1 ∧ Below N w w' := by
  have hs' : s.size ≤ 140737488355328 := by omega
  have HT := Lib.hid hT; clear hT
  obtain ⟨V, hr, ho, hN⟩ := h
  have hb0 : 0 < b := by omega
  go_enter Tryz.func56, Tryz.ntmps56
  go_wp2_with fail
  refine (upTo_en b k s V w hr hk hs').mono ?_
  rintro e w1 ⟨rfl, m1, hm1, hd1, h1, hg1⟩
  obtain ⟨g1, B1⟩ := Rg.step hr ho hN hg1 h1
  have B1' := B1 _ (Below.refl N w)
  have hsz : (B (upTo en ((L s).drop k))).size ≤ s.size := by
    rw [size_B]
    have := len_lead (by1 en) ((L s).drop k)
    rw [List.length_drop, size_L] at this
    show (lead (by1 en) _).length ≤ _
    omega
  have hsz' : (B (upTo en ((L s).drop k))).size ≤ 140737488355328 := by omega
  clear hr ho hg1 h1 B1
  go_wp2_with fail
  refine (lower_any _ w1 hsz').mono ?_
  rintro e w2 ⟨rfl, hb2⟩
  rw [L_B]
  obtain ⟨nm, hnm⟩ : ∃ nm, B (lowL (upTo en ((L s).drop k))) = nm := ⟨_, rfl⟩
  rw [hnm]
  have hnl : lowL (upTo en ((L s).drop k)) = L nm := by rw [← hnm, L_B]
  have hns : nm.size ≤ 140737488351232 := by
    rw [← hnm, size_B, len_lowL]
    rw [size_B] at hsz
    omega
  obtain ⟨g2, B2⟩ := g1.below hb2
  have B3 := B1'.trans B2
  have hT2 := tab_below HT.out B3 hN0
  obtain ⟨V2, hr2, ho2, _⟩ := g2
  clear g1 B1' B2 hb2 hsz hsz' hnm
  go_wp2_with fail
  refine (attrs_any b m1 s V2 w2 hr2 hm1 hs hT2 hb0).mono ?_
  rintro e w3 ⟨va, sf, en_, m, la, rfl, hown, hm, hla, h3, hg3, heq, hen⟩
  rw [hd1] at heq
  obtain ⟨g3, B4⟩ := Rg.step hr2 ho2 hN hg3 h3
  have B5 := B4 _ B3
  have hNw : N ≤ w2.heap.size := by have := hr2.lt; omega
  clear B4 B3 hr2 ho2 hg3 h3 hd1 hT2
  cases en_ with
  | false =>
    rw [if_neg (by simp)] at heq
    have hst := start_no heq
    have HS := Lib.hid hst; have HE := Lib.hid (hen rfl); clear hst heq hen hown hnl
    go_wp2
    first | go_end0 | refine bodyPost_ret (results_none rfl _ _ _) rfl ?_
    refine ⟨rfl, m, l, hm, ?_, g3, ?_, B5⟩
    · rw [HS.out.2, HE.out, drop_nil s s.size (by omega)]
    · rw [HS.out.2, List.append_nil]
  | true =>
    rw [if_pos rfl] at heq
    have hst := start_yes heq
    obtain ⟨A, c, rfl⟩ := hown.form
    obtain ⟨V3, hr3, ho3, _⟩ := g3
    have c2 := hr3.c2; have f2 := hr3.f 2
    have hZ : N ≤ w3.heap.size := by have := hr3.lt; omega
    have hl2 : l.length ≤ 4000000000 := by omega
    have hfr : Fr N w3 ⟨⟨2, nm, ⟨#[]⟩, [], false⟩, none, 0⟩ := fr_none N w3 _ rfl
    have HS := Lib.hid hst; have HR := Lib.hid hr3; have HO := Lib.hid ho3; have HF := Lib.hid hfr; have HN := Lib.hid hnl; have HB := Lib.hid B5; clear hst heq hen hown hnl hr3 ho3 hfr B5
    go_wp2_with (at_builtin; refine app_tok2 w3 rfl (.tmp 44) (.tmp 48) rfl N V3 l ⟨⟨2, nm, ⟨#[]⟩, [], false⟩, none, 0⟩ rfl HO.out.ow HF.out.att HF.out.ap w3.heap.size rfl rfl hl2 hZ ?_; intro v4 w4 how hk hf hg; obtain ⟨A4, cc4, rfl⟩ := form1 how; have hrc4 := rc_over HR.out HO.out hg; have c4 := hrc4.c2; have f4 := hrc4.f 2; have HK := Lib.hid hk; have HFF := Lib.hid hf; have HG := Lib.hid hg; have HOW := Lib.hid how; clear hk hf hg how hrc4 c2 f2)
    go_end0
    obtain ⟨r1, r2⟩ := Rg.add HR.out HO.out hN HF.out HOW.out HK.out HFF.out HG.out
    have B6 := r2 _ HB.out
    have HS2 := HS.out.2
    rw [HN.out] at HS2
    refine ⟨rfl, m, _, hm, ?_, r1, ?_, B6⟩
    · rw [HS2]
    · rw [HS2, tks_append]
      show _ = _ ++ [(⟨2, B (L nm), B [], [], false⟩ : Tk)]
      rw [B_L]
      rfl

end Go.Proofs.YtdplbcchkjpcdaaGreatDoor.To

namespace Go.Proofs.YtdplbcchkjpcdaaGreatDoor.To
set_option maxRecDepth 100000
set_option linter.unusedSimpArgs false
set_option linter.unusedVariables false
open Go.RowKit Ba Fm Fo Tm Nm
open Ro (At acells len_acells below_new Sh Ra acells_one info_attr)
open Re (Tab)
open Rm (dec)
theorem marked_ge (r : List UInt8) : 4 ≤ marked r ∧ (marked r = 4 → 2 ≤ r.length) ∧ (marked r = 5 → 7 ≤ r.length) := by
  unfold marked
  split
  · rename_i h
    have := pre_len h
    exact ⟨by decide, fun _ => this, fun e => absurd e (by decide)⟩
  · split
    · rename_i h
      have := congrArg List.length h.1
      rw [len_lowL, List.length_take] at this
      simp at this
      exact ⟨by decide, fun e => absurd e (by decide), fun _ => by omega⟩
    · exact ⟨by decide, fun e => absurd e (by decide), fun e => absurd e (by decide)⟩
theorem slashed_cases (r : List UInt8) : slashed r = 0 ∨ (1 ≤ r.length ∧ (slashed r = 2 ∨ slashed r = 3 ∨ slashed r = 6)) := by
  cases r with
  | nil => exact .inl rfl
  | cons d r =>
    refine .inr ⟨by simp, ?_⟩
    show (if lr d = true then 2 else if d = 62 then 3 else 6) = 2 ∨ (if lr d = true then 2 else if d = 62 then 3 else 6) = 3 ∨ (if lr d = true then 2 else if d = 62 then 3 else 6) = 6
    split
    · simp
    · split <;> simp
/-- How many bytes there are at least. -/
theorem begun_len (l : List UInt8) : (Tm.begun l = 1 → 2 ≤ l.length) ∧ (Tm.begun l = 2 → 3 ≤ l.length) ∧ (Tm.begun l = 3 → 3 ≤ l.length) ∧ (Tm.begun l = 4 → 4 ≤ l.length) ∧ (Tm.begun l = 5 → 9 ≤ l.length) ∧ (Tm.begun l = 6 → 2 ≤ l.length) := by
  match l with
  | [] => simp [Tm.begun]
  | [a] =>
    have : Tm.begun [a] = 0 := by show (if a = 60 then 0 else 0) = 0; split <;> rfl
    rw [this]
    simp
  | a :: c :: r =>
    have hm := marked_ge r
    have hs := slashed_cases r
    rw [begun_two]
    simp only [List.length_cons]
    split
    · split
      · simp
      · split
        · rcases hs with h | ⟨h, h2 | h2 | h2⟩ <;> simp [*]
        · split
          · refine ⟨fun h => by omega, fun h => by omega, fun h => by omega, fun h => by have := hm.2.1 h; omega, fun h => by have := hm.2.2 h; omega, fun _ => by omega⟩
          · split <;> simp
    · simp
theorem mk_1 {l : List UInt8} (h : Tm.begun l = 1) : mk l = startTag (l.drop 1) := by unfold mk; rw [if_pos h]
theorem mk_2 {l : List UInt8} (h : Tm.begun l = 2) : mk l = endTag (l.drop 2) := by unfold mk; rw [if_neg (by rw [h]; decide), if_pos h]
theorem mk_3 {l : List UInt8} (h : Tm.begun l = 3) : mk l = ([], l.drop 3) := by unfold mk; rw [if_neg (by rw [h]; decide), if_neg (by rw [h]; decide), if_pos h]
theorem mk_4 {l : List UInt8} (h : Tm.begun l = 4) : mk l = ([⟨3, B [], B (comm (l.drop 4)).1, [], false⟩], (comm (l.drop 4)).2) := by unfold mk; rw [if_neg (by rw [h]; decide), if_neg (by rw [h]; decide), if_neg (by rw [h]; decide), if_pos h]
theorem mk_5 {l : List UInt8} (h : Tm.begun l = 5) : mk l = ([⟨4, B [], B (trimL (closed (l.drop 9)).1), [], false⟩], (closed (l.drop 9)).2) := by unfold mk; rw [if_neg (by rw [h]; decide), if_neg (by rw [h]; decide), if_neg (by rw [h]; decide), if_neg (by rw [h]; decide), if_pos h]
theorem mk_6 {l : List UInt8} (h : Tm.begun l = 6) : mk l = ([⟨3, B [], B (closed (marks (l.drop 1))).1, [], false⟩], (closed (marks (l.drop 1))).2) := by unfold mk; rw [if_neg (by rw [h]; decide), if_neg (by rw [h]; decide), if_neg (by rw [h]; decide), if_neg (by rw [h]; decide), if_neg (by rw [h]; decide), if_pos h]
theorem mk_0 {l : List UInt8} (h1 : Tm.begun l ≠ 1) (h2 : Tm.begun l ≠ 2) (h3 : Tm.begun l ≠ 3) (h4 : Tm.begun l ≠ 4) (h5 : Tm.begun l ≠ 5) (h6 : Tm.begun l ≠ 6) : mk l = ([], l) := by unfold mk; rw [if_neg h1, if_neg h2, if_neg h3, if_neg h4, if_neg h5, if_neg h6]
theorem mk_len {l : List UInt8} : (mk l).1.length ≤ 2 := by
  have hc : ∀ n r, (cont n r).1.length ≤ 1 := fun n r => by
    unfold cont
    split
    · exact len_txt _
    · split
      · exact len_txt _
      · simp
  unfold mk
  split
  · unfold startTag
    split
    · simp
    · have := hc (lowL (upTo en (l.drop 1)))
      simp only [List.length_cons]
      have := this (by assumption)
      omega
  · split
    · unfold endTag
      split <;> simp
    · split
      · simp
      · split
        · simp
        · split
          · simp
          · split <;> simp
theorem trim1 (s : ByteArray) (w : World) (l : List UInt8) (hs : s.size ≤ 140737488351232) (hl : L s = l) : Calls Tryz.prog 59 #[.string s] w fun e w' => e = .returned (.string (B (trimL l))) ∧ w = w' := by
  subst hl
  exact trim_any s w (by omega)

set_option maxRecDepth 100000 in
set_option maxHeartbeats 4000000 in
theorem markup_1 (N b k : Nat) (s : ByteArray) (l : List Tw) (w : World) (h : Rg N w b s k l) (hk : k ≤ s.size) (hs : s.size ≤ 1000000000) (hl : l.length ≤ 1000000000) (hT : Tab w) (hN0 : 0 < N) (hb : Tm.begun ((L s).drop k) = 1) :
    Calls Tryz.prog 25 #[rp b] w fun e w' => e = .returned (.tuple #[]) ∧ ∃ m l', m ≤ s.size ∧ (L s).drop m = (mk ((L s).drop k)).2 ∧ Rg N w' b s m l' ∧ tks l' = tks l ++ (mk ((L s).drop k)).1 ∧ Below N w w' := by
  have hs' : s.size ≤ 140737488351232 := by omega
  have hs2 : s.size ≤ 140737488355328 := by omega
  have hl2 : l.length ≤ 4000000000 := by omega
  obtain ⟨V, hr, ho, hN⟩ := h
  have hx : (s.extract k s.size).size ≤ 140737488355328 := Nat.le_trans (size_extract _ _ _) (by omega)
  have hxl := L_end s k
  have i0 : (0 : Int) ≤ (k : Int) := by omega
  have i1 : (k : Int) ≤ (s.size : Int) := by omega
  have c0 := hr.c0; have c1 := hr.c1
  have hlen := (begun_len ((L s).drop k)).1 hb
  rw [List.length_drop, size_L] at hlen
  have hkc : k + 1 ≤ s.size := by omega
  have hmk := mk_1 hb
  rw [List.drop_drop] at hmk
  rw [hmk]
  have HX := Lib.hid hxl; have HR := Lib.hid hr; have HO := Lib.hid ho; have HT := Lib.hid hT; have HB := Lib.hid hb; clear hxl hr ho hT hb hmk hlen
  go_enter Tryz.func25, Tryz.ntmps25
  go_wp2
  go_still_tail 9, (by kernel_rfl)
  change wpList _ _ _ _ _ w.drew
  go_wp2_with fail
  refine (begun1 _ w.drew _ 1 hx HX.out HB.out).mono ?_
  rintro e w1 ⟨rfl, hb1⟩
  have hb1' := box_next w w1 hb1
  have hr1 := HR.out.below hb1'
  have ho1 := HO.out.below hb1'
  have B1 : Below N w w1 := hb1'.mono (by have := HR.out.lt; omega)
  clear c0 c1 hb1 hb1'
  have c1 := hr1.c1; have f1 := hr1.f 1
  have HR1 := Lib.hid hr1; have HO1 := Lib.hid ho1; have HB1 := Lib.hid B1; clear hr1 ho1 B1
  go_wp2_with fail
  have h2 := HR1.out.set1 (k + 1)
  obtain ⟨g2, B2⟩ := Rg.step HR1.out HO1.out hN (g_set _ b 1 _) h2
  have B3 := B2 _ HB1.out
  have hT3 := tab_below HT.out B3 hN0
  clear B2 c1 f1
  refine (tag_start N b (k + 1) s l _ g2 hkc hs hl hT3 hN0).mono ?_
  rintro e w3 ⟨rfl, m, l', hm, hd, g3, ht, B4⟩
  go_wp2
  go_end0
  exact ⟨rfl, m, l', hm, hd, g3, ht, B3.trans B4⟩

set_option maxRecDepth 100000 in
set_option maxHeartbeats 4000000 in
theorem markup_2 (N b k : Nat) (s : ByteArray) (l : List Tw) (w : World) (h : Rg N w b s k l) (hk : k ≤ s.size) (hs : s.size ≤ 1000000000) (hl : l.length ≤ 1000000000) (hT : Tab w) (hN0 : 0 < N) (hb : Tm.begun ((L s).drop k) = 2) :
    Calls Tryz.prog 25 #[rp b] w fun e w' => e = .returned (.tuple #[]) ∧ ∃ m l', m ≤ s.size ∧ (L s).drop m = (mk ((L s).drop k)).2 ∧ Rg N w' b s m l' ∧ tks l' = tks l ++ (mk ((L s).drop k)).1 ∧ Below N w w' := by
  have hs' : s.size ≤ 140737488351232 := by omega
  have hs2 : s.size ≤ 140737488355328 := by omega
  have hl2 : l.length ≤ 4000000000 := by omega
  obtain ⟨V, hr, ho, hN⟩ := h
  have hx : (s.extract k s.size).size ≤ 140737488355328 := Nat.le_trans (size_extract _ _ _) (by omega)
  have hxl := L_end s k
  have i0 : (0 : Int) ≤ (k : Int) := by omega
  have i1 : (k : Int) ≤ (s.size : Int) := by omega
  have c0 := hr.c0; have c1 := hr.c1
  have hlen := (begun_len ((L s).drop k)).2.1 hb
  rw [List.length_drop, size_L] at hlen
  have hkc : k + 2 ≤ s.size := by omega
  have hmk := mk_2 hb
  rw [List.drop_drop] at hmk
  rw [hmk]
  have HX := Lib.hid hxl; have HR := Lib.hid hr; have HO := Lib.hid ho; have HT := Lib.hid hT; have HB := Lib.hid hb; clear hxl hr ho hT hb hmk hlen
  go_enter Tryz.func25, Tryz.ntmps25
  go_wp2
  go_still_tail 9, (by kernel_rfl)
  change wpList _ _ _ _ _ w.drew
  go_wp2_with fail
  refine (begun1 _ w.drew _ 2 hx HX.out HB.out).mono ?_
  rintro e w1 ⟨rfl, hb1⟩
  have hb1' := box_next w w1 hb1
  have hr1 := HR.out.below hb1'
  have ho1 := HO.out.below hb1'
  have B1 : Below N w w1 := hb1'.mono (by have := HR.out.lt; omega)
  clear c0 c1 hb1 hb1'
  have c1 := hr1.c1; have f1 := hr1.f 1
  have HR1 := Lib.hid hr1; have HO1 := Lib.hid ho1; have HB1 := Lib.hid B1; clear hr1 ho1 B1
  go_wp2_with fail
  have h2 := HR1.out.set1 (k + 2)
  obtain ⟨g2, B2⟩ := Rg.step HR1.out HO1.out hN (g_set _ b 1 _) h2
  have B3 := B2 _ HB1.out
  have hT3 := tab_below HT.out B3 hN0
  clear B2 c1 f1
  refine (tag_end N b (k + 2) s l _ g2 hkc hs hl hT3 hN0).mono ?_
  rintro e w3 ⟨rfl, m, l', hm, hd, g3, ht, B4⟩
  go_wp2
  go_end0
  exact ⟨rfl, m, l', hm, hd, g3, ht, B3.trans B4⟩

set_option maxRecDepth 100000 in
set_option maxHeartbeats 4000000 in
theorem markup_3 (N b k : Nat) (s : ByteArray) (l : List Tw) (w : World) (h : Rg N w b s k l) (hk : k ≤ s.size) (hs : s.size ≤ 1000000000) (hl : l.length ≤ 1000000000) (hT : Tab w) (hN0 : 0 < N) (hb : Tm.begun ((L s).drop k) = 3) :
    Calls Tryz.prog 25 #[rp b] w fun e w' => e = .returned (.tuple #[]) ∧ ∃ m l', m ≤ s.size ∧ (L s).drop m = (mk ((L s).drop k)).2 ∧ Rg N w' b s m l' ∧ tks l' = tks l ++ (mk ((L s).drop k)).1 ∧ Below N w w' := by
  have hs' : s.size ≤ 140737488351232 := by omega
  have hs2 : s.size ≤ 140737488355328 := by omega
  have hl2 : l.length ≤ 4000000000 := by omega
  obtain ⟨V, hr, ho, hN⟩ := h
  have hx : (s.extract k s.size).size ≤ 140737488355328 := Nat.le_trans (size_extract _ _ _) (by omega)
  have hxl := L_end s k
  have i0 : (0 : Int) ≤ (k : Int) := by omega
  have i1 : (k : Int) ≤ (s.size : Int) := by omega
  have c0 := hr.c0; have c1 := hr.c1
  have hlen := (begun_len ((L s).drop k)).2.2.1 hb
  rw [List.length_drop, size_L] at hlen
  have hkc : k + 3 ≤ s.size := by omega
  have hmk := mk_3 hb
  rw [List.drop_drop] at hmk
  rw [hmk]
  have HX := Lib.hid hxl; have HR := Lib.hid hr; have HO := Lib.hid ho; have HT := Lib.hid hT; have HB := Lib.hid hb; clear hxl hr ho hT hb hmk hlen
  go_enter Tryz.func25, Tryz.ntmps25
  go_wp2
  go_still_tail 9, (by kernel_rfl)
  change wpList _ _ _ _ _ w.drew
  go_wp2_with fail
  refine (begun1 _ w.drew _ 3 hx HX.out HB.out).mono ?_
  rintro e w1 ⟨rfl, hb1⟩
  have hb1' := box_next w w1 hb1
  have hr1 := HR.out.below hb1'
  have ho1 := HO.out.below hb1'
  have B1 : Below N w w1 := hb1'.mono (by have := HR.out.lt; omega)
  clear c0 c1 hb1 hb1'
  have c1 := hr1.c1; have f1 := hr1.f 1
  have HR1 := Lib.hid hr1; have HO1 := Lib.hid ho1; have HB1 := Lib.hid B1; clear hr1 ho1 B1
  go_wp2
  go_end0
  have h2 := HR1.out.set1 (k + 3)
  obtain ⟨g2, B2⟩ := Rg.step HR1.out HO1.out hN (g_set _ b 1 _) h2
  have B3 := B2 _ HB1.out
  have hT3 := tab_below HT.out B3 hN0
  clear B2 c1 f1
  exact ⟨rfl, k + 3, l, hkc, rfl, g2, (List.append_nil _).symm, B3⟩

set_option maxRecDepth 100000 in
set_option maxHeartbeats 4000000 in
theorem markup_4 (N b k : Nat) (s : ByteArray) (l : List Tw) (w : World) (h : Rg N w b s k l) (hk : k ≤ s.size) (hs : s.size ≤ 1000000000) (hl : l.length ≤ 1000000000) (hT : Tab w) (hN0 : 0 < N) (hb : Tm.begun ((L s).drop k) = 4) :
    Calls Tryz.prog 25 #[rp b] w fun e w' => e = .returned (.tuple #[]) ∧ ∃ m l', m ≤ s.size ∧ (L s).drop m = (mk ((L s).drop k)).2 ∧ Rg N w' b s m l' ∧ tks l' = tks l ++ (mk ((L s).drop k)).1 ∧ Below N w w' := by
  have hs' : s.size ≤ 140737488351232 := by omega
  have hs2 : s.size ≤ 140737488355328 := by omega
  have hl2 : l.length ≤ 4000000000 := by omega
  obtain ⟨V, hr, ho, hN⟩ := h
  have hx : (s.extract k s.size).size ≤ 140737488355328 := Nat.le_trans (size_extract _ _ _) (by omega)
  have hxl := L_end s k
  have i0 : (0 : Int) ≤ (k : Int) := by omega
  have i1 : (k : Int) ≤ (s.size : Int) := by omega
  have c0 := hr.c0; have c1 := hr.c1
  have hlen := (begun_len ((L s).drop k)).2.2.2.1 hb
  rw [List.length_drop, size_L] at hlen
  have hkc : k + 4 ≤ s.size := by omega
  have hmk := mk_4 hb
  rw [List.drop_drop] at hmk
  rw [hmk]
  have HX := Lib.hid hxl; have HR := Lib.hid hr; have HO := Lib.hid ho; have HT := Lib.hid hT; have HB := Lib.hid hb; clear hxl hr ho hT hb hmk hlen
  go_enter Tryz.func25, Tryz.ntmps25
  go_wp2
  go_still_tail 9, (by kernel_rfl)
  change wpList _ _ _ _ _ w.drew
  go_wp2_with fail
  refine (begun1 _ w.drew _ 4 hx HX.out HB.out).mono ?_
  rintro e w1 ⟨rfl, hb1⟩
  have hb1' := box_next w w1 hb1
  have hr1 := HR.out.below hb1'
  have ho1 := HO.out.below hb1'
  have B1 : Below N w w1 := hb1'.mono (by have := HR.out.lt; omega)
  clear c0 c1 hb1 hb1'
  have c1 := hr1.c1; have f1 := hr1.f 1
  have HR1 := Lib.hid hr1; have HO1 := Lib.hid ho1; have HB1 := Lib.hid B1; clear hr1 ho1 B1
  go_wp2_with fail
  have h2 := HR1.out.set1 (k + 4)
  obtain ⟨g2, B2⟩ := Rg.step HR1.out HO1.out hN (g_set _ b 1 _) h2
  have B3 := B2 _ HB1.out
  have hT3 := tab_below HT.out B3 hN0
  clear B2 c1 f1
  refine (comment_any N b (k + 4) s l _ g2 hkc hs' hl2).mono ?_
  rintro e w3 ⟨rfl, m, l', hm, hd, g3, ht, B4⟩
  go_wp2
  go_end0
  exact ⟨rfl, m, l', hm, hd, g3, ht, B3.trans B4⟩

set_option maxRecDepth 100000 in
set_option maxHeartbeats 4000000 in
theorem markup_5 (N b k : Nat) (s : ByteArray) (l : List Tw) (w : World) (h : Rg N w b s k l) (hk : k ≤ s.size) (hs : s.size ≤ 1000000000) (hl : l.length ≤ 1000000000) (hT : Tab w) (hN0 : 0 < N) (hb : Tm.begun ((L s).drop k) = 5) :
    Calls Tryz.prog 25 #[rp b] w fun e w' => e = .returned (.tuple #[]) ∧ ∃ m l', m ≤ s.size ∧ (L s).drop m = (mk ((L s).drop k)).2 ∧ Rg N w' b s m l' ∧ tks l' = tks l ++ (mk ((L s).drop k)).1 ∧ Below N w w' := by
  have hs' : s.size ≤ 140737488351232 := by omega
  have hs2 : s.size ≤ 140737488355328 := by omega
  have hl2 : l.length ≤ 4000000000 := by omega
  obtain ⟨V, hr, ho, hN⟩ := h
  have hx : (s.extract k s.size).size ≤ 140737488355328 := Nat.le_trans (size_extract _ _ _) (by omega)
  have hxl := L_end s k
  have i0 : (0 : Int) ≤ (k : Int) := by omega
  have i1 : (k : Int) ≤ (s.size : Int) := by omega
  have c0 := hr.c0; have c1 := hr.c1
  have hlen := (begun_len ((L s).drop k)).2.2.2.2.1 hb
  rw [List.length_drop, size_L] at hlen
  have hkc : k + 9 ≤ s.size := by omega
  have hmk := mk_5 hb
  rw [List.drop_drop] at hmk
  rw [hmk]
  have HX := Lib.hid hxl; have HR := Lib.hid hr; have HO := Lib.hid ho; have HT := Lib.hid hT; have HB := Lib.hid hb; clear hxl hr ho hT hb hmk hlen
  go_enter Tryz.func25, Tryz.ntmps25
  go_wp2
  go_still_tail 9, (by kernel_rfl)
  change wpList _ _ _ _ _ w.drew
  go_wp2_with fail
  refine (begun1 _ w.drew _ 5 hx HX.out HB.out).mono ?_
  rintro e w1 ⟨rfl, hb1⟩
  have hb1' := box_next w w1 hb1
  have hr1 := HR.out.below hb1'
  have ho1 := HO.out.below hb1'
  have B1 : Below N w w1 := hb1'.mono (by have := HR.out.lt; omega)
  clear c0 c1 hb1 hb1'
  have c1 := hr1.c1; have f1 := hr1.f 1
  have HR1 := Lib.hid hr1; have HO1 := Lib.hid ho1; have HB1 := Lib.hid B1; clear hr1 ho1 B1
  go_wp2_with fail
  have h2 := HR1.out.set1 (k + 9)
  obtain ⟨g2, B2⟩ := Rg.step HR1.out HO1.out hN (g_set _ b 1 _) h2
  have B3 := B2 _ HB1.out
  have hT3 := tab_below HT.out B3 hN0
  clear B2 c1 f1
  obtain ⟨V2, hr2, ho2, _⟩ := g2
  refine (upTo_gt b (k + 9) s V2 _ hr2 hkc hs2).mono ?_
  rintro e w3 ⟨rfl, m, hm, hd, h3, hg3⟩
  obtain ⟨g3, B4⟩ := Rg.step hr2 ho2 hN hg3 h3
  have B5 := B4 _ B3
  have hsz : (B (upTo gt ((L s).drop (k + 9)))).size ≤ 140737488351232 := by
    rw [size_B]
    have := len_lead (by1 gt) ((L s).drop (k + 9))
    rw [List.length_drop, size_L] at this
    show (lead (by1 gt) _).length ≤ _
    omega
  clear B4 B3 hg3 hr2 ho2 h3
  go_wp2_with fail
  refine (trim1 _ w3 _ hsz (L_B _)).mono ?_
  rintro e w4 ⟨rfl, rfl⟩
  go_wp2_with fail
  refine (addClosed_any N b m 4 s _ l w3 g3 hm hs' hl2).mono ?_
  rintro e w5 ⟨rfl, m5, l', hm5, hd5, g5, ht, B6⟩
  go_wp2
  go_end0
  refine ⟨rfl, m5, l', hm5, ?_, g5, ht, B5.trans B6⟩
  rw [hd5, hd]
  exact past_gt _

set_option maxRecDepth 100000 in
set_option maxHeartbeats 4000000 in
theorem markup_6a (N b k : Nat) (s : ByteArray) (l : List Tw) (w : World) (h : Rg N w b s k l) (hk : k ≤ s.size) (hs : s.size ≤ 1000000000) (hl : l.length ≤ 1000000000) (hT : Tab w) (hN0 : 0 < N) (hb : Tm.begun ((L s).drop k) = 6) (h33 : hd 33 ((L s).drop (k + 1)) = true) :
    Calls Tryz.prog 25 #[rp b] w fun e w' => e = .returned (.tuple #[]) ∧ ∃ m l', m ≤ s.size ∧ (L s).drop m = (mk ((L s).drop k)).2 ∧ Rg N w' b s m l' ∧ tks l' = tks l ++ (mk ((L s).drop k)).1 ∧ Below N w w' := by
  have hs' : s.size ≤ 140737488351232 := by omega
  have hs2 : s.size ≤ 140737488355328 := by omega
  have hl2 : l.length ≤ 4000000000 := by omega
  obtain ⟨V, hr, ho, hN⟩ := h
  have hx : (s.extract k s.size).size ≤ 140737488355328 := Nat.le_trans (size_extract _ _ _) (by omega)
  have hxl := L_end s k
  have i0 : (0 : Int) ≤ (k : Int) := by omega
  have i1 : (k : Int) ≤ (s.size : Int) := by omega
  have c0 := hr.c0; have c1 := hr.c1
  have hlen := (begun_len ((L s).drop k)).2.2.2.2.2 hb
  rw [List.length_drop, size_L] at hlen
  have hkc : k + 1 ≤ s.size := by omega
  have hmk := mk_6 hb
  rw [List.drop_drop] at hmk
  rw [hmk]
  have HX := Lib.hid hxl; have HR := Lib.hid hr; have HO := Lib.hid ho; have HT := Lib.hid hT; have HB := Lib.hid hb; clear hxl hr ho hT hb hmk hlen
  go_enter Tryz.func25, Tryz.ntmps25
  go_wp2
  go_still_tail 9, (by kernel_rfl)
  change wpList _ _ _ _ _ w.drew
  go_wp2_with fail
  refine (begun1 _ w.drew _ 6 hx HX.out HB.out).mono ?_
  rintro e w1 ⟨rfl, hb1⟩
  have hb1' := box_next w w1 hb1
  have hr1 := HR.out.below hb1'
  have ho1 := HO.out.below hb1'
  have B1 : Below N w w1 := hb1'.mono (by have := HR.out.lt; omega)
  clear c0 c1 hb1 hb1'
  have c1 := hr1.c1; have f1 := hr1.f 1
  have HR1 := Lib.hid hr1; have HO1 := Lib.hid ho1; have HB1 := Lib.hid B1; clear hr1 ho1 B1
  go_wp2_with fail
  have h2 := HR1.out.set1 (k + 1)
  obtain ⟨g2, B2⟩ := Rg.step HR1.out HO1.out hN (g_set _ b 1 _) h2
  have B3 := B2 _ HB1.out
  have hT3 := tab_below HT.out B3 hN0
  clear B2 c1 f1
  have hdr := hd_drop hkc h33
  rw [if_pos rfl] at hdr
  have hm : marks ((L s).drop (k + 1)) = (L s).drop (k + 1 + 1) := by unfold marks; rw [if_pos (hd_head.1 h33), List.drop_drop]
  have HM := Lib.hid hm; have H33 := Lib.hid h33; clear hm h33
  obtain ⟨V1, hr1, ho1, _⟩ := g2
  refine (pass1 b (k + 1) s V1 33 _ true _ hr1 hkc hs2 rfl H33.out).mono ?_
  rintro e w3 ⟨rfl, h3, hg3⟩
  obtain ⟨g2, B4⟩ := Rg.step hr1 ho1 hN hg3 h3
  replace B3 := B4 _ B3
  clear B4 hr1 ho1 hg3 h3 hT3
  have hkK : k + 1 + 1 ≤ s.size := hdr.1
  go_wp2_with fail
  obtain ⟨V2, hr2, ho2, _⟩ := g2
  refine (upTo_gt b (k + 1 + 1) s V2 _ hr2 hkK hs2).mono ?_
  rintro e w4 ⟨rfl, m, hm, hd, h3, hg3⟩
  obtain ⟨g3, B4⟩ := Rg.step hr2 ho2 hN hg3 h3
  have B5 := B4 _ B3
  clear B4 B3 hg3 hr2 ho2 h3
  go_wp2_with fail
  refine (addClosed_any N b m 3 s _ l w4 g3 hm hs' hl2).mono ?_
  rintro e w5 ⟨rfl, m5, l', hm5, hd5, g5, ht, B6⟩
  go_wp2
  go_end0
  refine ⟨rfl, m5, l', hm5, ?_, g5, ?_, B5.trans B6⟩
  · rw [HM.out, hd5, hd]
    exact past_gt _
  · rw [HM.out, ht]
    rfl

set_option maxRecDepth 100000 in
set_option maxHeartbeats 4000000 in
theorem markup_6b (N b k : Nat) (s : ByteArray) (l : List Tw) (w : World) (h : Rg N w b s k l) (hk : k ≤ s.size) (hs : s.size ≤ 1000000000) (hl : l.length ≤ 1000000000) (hT : Tab w) (hN0 : 0 < N) (hb : Tm.begun ((L s).drop k) = 6) (h33 : hd 33 ((L s).drop (k + 1)) = false) (h47 : hd 47 ((L s).drop (k + 1)) = true) :
    Calls Tryz.prog 25 #[rp b] w fun e w' => e = .returned (.tuple #[]) ∧ ∃ m l', m ≤ s.size ∧ (L s).drop m = (mk ((L s).drop k)).2 ∧ Rg N w' b s m l' ∧ tks l' = tks l ++ (mk ((L s).drop k)).1 ∧ Below N w w' := by
  have hs' : s.size ≤ 140737488351232 := by omega
  have hs2 : s.size ≤ 140737488355328 := by omega
  have hl2 : l.length ≤ 4000000000 := by omega
  obtain ⟨V, hr, ho, hN⟩ := h
  have hx : (s.extract k s.size).size ≤ 140737488355328 := Nat.le_trans (size_extract _ _ _) (by omega)
  have hxl := L_end s k
  have i0 : (0 : Int) ≤ (k : Int) := by omega
  have i1 : (k : Int) ≤ (s.size : Int) := by omega
  have c0 := hr.c0; have c1 := hr.c1
  have hlen := (begun_len ((L s).drop k)).2.2.2.2.2 hb
  rw [List.length_drop, size_L] at hlen
  have hkc : k + 1 ≤ s.size := by omega
  have hmk := mk_6 hb
  rw [List.drop_drop] at hmk
  rw [hmk]
  have HX := Lib.hid hxl; have HR := Lib.hid hr; have HO := Lib.hid ho; have HT := Lib.hid hT; have HB := Lib.hid hb; clear hxl hr ho hT hb hmk hlen
  go_enter Tryz.func25, Tryz.ntmps25
  go_wp2
  go_still_tail 9, (by kernel_rfl)
  change wpList _ _ _ _ _ w.drew
  go_wp2_with fail
  refine (begun1 _ w.drew _ 6 hx HX.out HB.out).mono ?_
  rintro e w1 ⟨rfl, hb1⟩
  have hb1' := box_next w w1 hb1
  have hr1 := HR.out.below hb1'
  have ho1 := HO.out.below hb1'
  have B1 : Below N w w1 := hb1'.mono (by have := HR.out.lt; omega)
  clear c0 c1 hb1 hb1'
  have c1 := hr1.c1; have f1 := hr1.f 1
  have HR1 := Lib.hid hr1; have HO1 := Lib.hid ho1; have HB1 := Lib.hid B1; clear hr1 ho1 B1
  go_wp2_with fail
  have h2 := HR1.out.set1 (k + 1)
  obtain ⟨g2, B2⟩ := Rg.step HR1.out HO1.out hN (g_set _ b 1 _) h2
  have B3 := B2 _ HB1.out
  have hT3 := tab_below HT.out B3 hN0
  clear B2 c1 f1
  have hdr := hd_drop hkc h47
  rw [if_pos rfl] at hdr
  have hm : marks ((L s).drop (k + 1)) = (L s).drop (k + 1 + 1) := by unfold marks; rw [if_neg (hd_no h33), if_pos (hd_head.1 h47), List.drop_drop]
  have HM := Lib.hid hm; have H33 := Lib.hid h33; have H47 := Lib.hid h47; clear hm h33 h47
  obtain ⟨V1, hr1, ho1, _⟩ := g2
  refine (pass1 b (k + 1) s V1 33 _ false _ hr1 hkc hs2 rfl H33.out).mono ?_
  rintro e w3 ⟨rfl, h3, hg3⟩
  obtain ⟨g2, B4⟩ := Rg.step hr1 ho1 hN hg3 h3
  replace B3 := B4 _ B3
  clear B4 hr1 ho1 hg3 h3 hT3
  obtain ⟨V1, hr1, ho1, _⟩ := g2
  go_wp2_with fail
  refine (pass1 b (k + 1) s V1 47 _ true _ hr1 hkc hs2 rfl H47.out).mono ?_
  rintro e w6 ⟨rfl, h3, hg3⟩
  obtain ⟨g2, B4⟩ := Rg.step hr1 ho1 hN hg3 h3
  replace B3 := B4 _ B3
  clear B4 hr1 ho1 hg3 h3
  have hkK : k + 1 + 1 ≤ s.size := hdr.1
  go_wp2_with fail
  obtain ⟨V2, hr2, ho2, _⟩ := g2
  refine (upTo_gt b (k + 1 + 1) s V2 _ hr2 hkK hs2).mono ?_
  rintro e w4 ⟨rfl, m, hm, hd, h3, hg3⟩
  obtain ⟨g3, B4⟩ := Rg.step hr2 ho2 hN hg3 h3
  have B5 := B4 _ B3
  clear B4 B3 hg3 hr2 ho2 h3
  go_wp2_with fail
  refine (addClosed_any N b m 3 s _ l w4 g3 hm hs' hl2).mono ?_
  rintro e w5 ⟨rfl, m5, l', hm5, hd5, g5, ht, B6⟩
  go_wp2
  go_end0
  refine ⟨rfl, m5, l', hm5, ?_, g5, ?_, B5.trans B6⟩
  · rw [HM.out, hd5, hd]
    exact past_gt _
  · rw [HM.out, ht]
    rfl

set_option maxRecDepth 100000 in
set_option maxHeartbeats 4000000 in
theorem markup_6c (N b k : Nat) (s : ByteArray) (l : List Tw) (w : World) (h : Rg N w b s k l) (hk : k ≤ s.size) (hs : s.size ≤ 1000000000) (hl : l.length ≤ 1000000000) (hT : Tab w) (hN0 : 0 < N) (hb : Tm.begun ((L s).drop k) = 6) (h33 : hd 33 ((L s).drop (k + 1)) = false) (h47 : hd 47 ((L s).drop (k + 1)) = false) :
    Calls Tryz.prog 25 #[rp b] w fun e w' => e = .returned (.tuple #[]) ∧ ∃ m l', m ≤ s.size ∧ (L s).drop m = (mk ((L s).drop k)).2 ∧ Rg N w' b s m l' ∧ tks l' = tks l ++ (mk ((L s).drop k)).1 ∧ Below N w w' := by
  have hs' : s.size ≤ 140737488351232 := by omega
  have hs2 : s.size ≤ 140737488355328 := by omega
  have hl2 : l.length ≤ 4000000000 := by omega
  obtain ⟨V, hr, ho, hN⟩ := h
  have hx : (s.extract k s.size).size ≤ 140737488355328 := Nat.le_trans (size_extract _ _ _) (by omega)
  have hxl := L_end s k
  have i0 : (0 : Int) ≤ (k : Int) := by omega
  have i1 : (k : Int) ≤ (s.size : Int) := by omega
  have c0 := hr.c0; have c1 := hr.c1
  have hlen := (begun_len ((L s).drop k)).2.2.2.2.2 hb
  rw [List.length_drop, size_L] at hlen
  have hkc : k + 1 ≤ s.size := by omega
  have hmk := mk_6 hb
  rw [List.drop_drop] at hmk
  rw [hmk]
  have HX := Lib.hid hxl; have HR := Lib.hid hr; have HO := Lib.hid ho; have HT := Lib.hid hT; have HB := Lib.hid hb; clear hxl hr ho hT hb hmk hlen
  go_enter Tryz.func25, Tryz.ntmps25
  go_wp2
  go_still_tail 9, (by kernel_rfl)
  change wpList _ _ _ _ _ w.drew
  go_wp2_with fail
  refine (begun1 _ w.drew _ 6 hx HX.out HB.out).mono ?_
  rintro e w1 ⟨rfl, hb1⟩
  have hb1' := box_next w w1 hb1
  have hr1 := HR.out.below hb1'
  have ho1 := HO.out.below hb1'
  have B1 : Below N w w1 := hb1'.mono (by have := HR.out.lt; omega)
  clear c0 c1 hb1 hb1'
  have c1 := hr1.c1; have f1 := hr1.f 1
  have HR1 := Lib.hid hr1; have HO1 := Lib.hid ho1; have HB1 := Lib.hid B1; clear hr1 ho1 B1
  go_wp2_with fail
  have h2 := HR1.out.set1 (k + 1)
  obtain ⟨g2, B2⟩ := Rg.step HR1.out HO1.out hN (g_set _ b 1 _) h2
  have B3 := B2 _ HB1.out
  have hT3 := tab_below HT.out B3 hN0
  clear B2 c1 f1
  have hm : marks ((L s).drop (k + 1)) = (L s).drop (k + 1) := by unfold marks; rw [if_neg (hd_no h33), if_neg (hd_no h47)]
  have HM := Lib.hid hm; have H33 := Lib.hid h33; have H47 := Lib.hid h47; clear hm h33 h47
  obtain ⟨V1, hr1, ho1, _⟩ := g2
  refine (pass1 b (k + 1) s V1 33 _ false _ hr1 hkc hs2 rfl H33.out).mono ?_
  rintro e w3 ⟨rfl, h3, hg3⟩
  obtain ⟨g2, B4⟩ := Rg.step hr1 ho1 hN hg3 h3
  replace B3 := B4 _ B3
  clear B4 hr1 ho1 hg3 h3 hT3
  obtain ⟨V1, hr1, ho1, _⟩ := g2
  go_wp2_with fail
  refine (pass1 b (k + 1) s V1 47 _ false _ hr1 hkc hs2 rfl H47.out).mono ?_
  rintro e w6 ⟨rfl, h3, hg3⟩
  obtain ⟨g2, B4⟩ := Rg.step hr1 ho1 hN hg3 h3
  replace B3 := B4 _ B3
  clear B4 hr1 ho1 hg3 h3
  have hkK : k + 1 ≤ s.size := hkc
  go_wp2_with fail
  obtain ⟨V2, hr2, ho2, _⟩ := g2
  refine (upTo_gt b (k + 1) s V2 _ hr2 hkK hs2).mono ?_
  rintro e w4 ⟨rfl, m, hm, hd, h3, hg3⟩
  obtain ⟨g3, B4⟩ := Rg.step hr2 ho2 hN hg3 h3
  have B5 := B4 _ B3
  clear B4 B3 hg3 hr2 ho2 h3
  go_wp2_with fail
  refine (addClosed_any N b m 3 s _ l w4 g3 hm hs' hl2).mono ?_
  rintro e w5 ⟨rfl, m5, l', hm5, hd5, g5, ht, B6⟩
  go_wp2
  go_end0
  refine ⟨rfl, m5, l', hm5, ?_, g5, ?_, B5.trans B6⟩
  · rw [HM.out, hd5, hd]
    exact past_gt _
  · rw [HM.out, ht]
    rfl

set_option maxRecDepth 100000 in
set_option maxHeartbeats 4000000 in
theorem markup_0 (N b k : Nat) (s : ByteArray) (l : List Tw) (w : World) (h : Rg N w b s k l) (hk : k ≤ s.size) (hs : s.size ≤ 1000000000) (hl : l.length ≤ 1000000000) (hT : Tab w) (hN0 : 0 < N) (n : Nat) (hb : Tm.begun ((L s).drop k) = n) (h1 : n ≠ 1) (h2 : n ≠ 2) (h3 : n ≠ 3) (h4 : n ≠ 4) (h5 : n ≠ 5) (h6 : n ≠ 6) :
    Calls Tryz.prog 25 #[rp b] w fun e w' => e = .returned (.tuple #[]) ∧ ∃ m l', m ≤ s.size ∧ (L s).drop m = (mk ((L s).drop k)).2 ∧ Rg N w' b s m l' ∧ tks l' = tks l ++ (mk ((L s).drop k)).1 ∧ Below N w w' := by
  have hs' : s.size ≤ 140737488351232 := by omega
  have hs2 : s.size ≤ 140737488355328 := by omega
  have hl2 : l.length ≤ 4000000000 := by omega
  obtain ⟨V, hr, ho, hN⟩ := h
  have hx : (s.extract k s.size).size ≤ 140737488355328 := Nat.le_trans (size_extract _ _ _) (by omega)
  have hxl := L_end s k
  have i0 : (0 : Int) ≤ (k : Int) := by omega
  have i1 : (k : Int) ≤ (s.size : Int) := by omega
  have c0 := hr.c0; have c1 := hr.c1
  have hmk := mk_0 (by rw [hb]; exact h1) (by rw [hb]; exact h2) (by rw [hb]; exact h3) (by rw [hb]; exact h4) (by rw [hb]; exact h5) (by rw [hb]; exact h6)
  rw [hmk]
  have b1 : ((n : Int) == 1) = false := by simp; omega
  have b2 : ((n : Int) == 2) = false := by simp; omega
  have b3 : ((n : Int) == 3) = false := by simp; omega
  have b4 : ((n : Int) == 4) = false := by simp; omega
  have b5 : ((n : Int) == 5) = false := by simp; omega
  have b6 : ((n : Int) == 6) = false := by simp; omega
  have HX := Lib.hid hxl; have HR := Lib.hid hr; have HO := Lib.hid ho; have HB := Lib.hid hb; clear hxl hr ho hT hb hmk h1 h2 h3 h4 h5 h6
  go_enter Tryz.func25, Tryz.ntmps25
  go_wp2
  go_still_tail 9, (by kernel_rfl)
  change wpList _ _ _ _ _ w.drew
  go_wp2_with fail
  refine (begun1 _ w.drew _ n hx HX.out HB.out).mono ?_
  rintro e w1 ⟨rfl, hb1⟩
  have hb1' := box_next w w1 hb1
  go_wp2
  go_end0
  exact ⟨rfl, k, l, hk, rfl, ⟨V, HR.out.below hb1', HO.out.below hb1', hN⟩, (List.append_nil _).symm, hb1'.mono (by have := HR.out.lt; omega)⟩

theorem markup_any (N b k : Nat) (s : ByteArray) (l : List Tw) (w : World) (h : Rg N w b s k l) (hk : k ≤ s.size) (hs : s.size ≤ 1000000000) (hl : l.length ≤ 1000000000) (hT : Tab w) (hN0 : 0 < N) :
    Calls Tryz.prog 25 #[rp b] w fun e w' => e = .returned (.tuple #[]) ∧ ∃ m l', m ≤ s.size ∧ (L s).drop m = (mk ((L s).drop k)).2 ∧ Rg N w' b s m l' ∧ tks l' = tks l ++ (mk ((L s).drop k)).1 ∧ Below N w w' := by
  by_cases h1 : Tm.begun ((L s).drop k) = 1
  · exact markup_1 N b k s l w h hk hs hl hT hN0 h1
  by_cases h2 : Tm.begun ((L s).drop k) = 2
  · exact markup_2 N b k s l w h hk hs hl hT hN0 h2
  by_cases h3 : Tm.begun ((L s).drop k) = 3
  · exact markup_3 N b k s l w h hk hs hl hT hN0 h3
  by_cases h4 : Tm.begun ((L s).drop k) = 4
  · exact markup_4 N b k s l w h hk hs hl hT hN0 h4
  by_cases h5 : Tm.begun ((L s).drop k) = 5
  · exact markup_5 N b k s l w h hk hs hl hT hN0 h5
  by_cases h6 : Tm.begun ((L s).drop k) = 6
  · cases h33 : hd 33 ((L s).drop (k + 1)) with
    | true => exact markup_6a N b k s l w h hk hs hl hT hN0 h6 h33
    | false =>
      cases h47 : hd 47 ((L s).drop (k + 1)) with
      | true => exact markup_6b N b k s l w h hk hs hl hT hN0 h6 h33 h47
      | false => exact markup_6c N b k s l w h hk hs hl hT hN0 h6 h33 h47
  · exact markup_0 N b k s l w h hk hs hl hT hN0 _ rfl h1 h2 h3 h4 h5 h6

end Go.Proofs.YtdplbcchkjpcdaaGreatDoor.To

namespace Go.Proofs.YtdplbcchkjpcdaaGreatDoor.To
set_option maxRecDepth 100000
set_option linter.unusedSimpArgs false
set_option linter.unusedVariables false
open Go.RowKit Ba Fm Fo Tm Nm
open Ro (At acells len_acells below_new Sh Ra acells_one info_attr)
open Re (Tab)
open Rm (dec)
theorem lt_behind {l : List UInt8} {n : Nat} (h : l ≠ []) (hn : 1 ≤ n) : (l.drop n).length < l.length := by
  have : 0 < l.length := List.length_pos_iff.2 h
  rw [List.length_drop]
  omega
theorem len_attrs (l : List UInt8) : ∀ (self : Bool) (acc : List At) (bs : List At) (sf : Bool) (r : List UInt8), attrs self acc l = some (bs, sf, r) → r.length < l.length := by
  induction hn : l.length using Nat.strongRecOn generalizing l with
  | ind n ih =>
    intro self acc bs sf r h
    subst hn
    cases l with
    | nil => rw [attrs_nil] at h; cases h
    | cons c q =>
      by_cases h1 : c = 62
      · subst h1
        rw [attrs_end] at h
        injection h with h
        injection h with _ h
        injection h with _ h
        rw [h]; simp
      · by_cases h2 : c = 47 ∨ sp c = true
        · rw [attrs_skip _ _ _ h1 h2] at h
          have := ih q.length (by simp) q rfl _ _ _ _ _ h
          simp only [List.length_cons]
          omega
        · rw [attrs_attr _ _ _ h1 h2] at h
          have hq := len_attr c q
          have := ih (attr c q).2.length (by simp only [List.length_cons]; omega) _ rfl _ _ _ _ _ h
          simp only [List.length_cons]
          omega
theorem len_cont (n l : List UInt8) : (cont n l).2.length ≤ l.length := by
  unfold cont
  split
  · exact len_trail _ _
  · split
    · exact len_trail _ _
    · exact Nat.le_refl _
theorem len_start (l : List UInt8) : (startTag l).2.length ≤ l.length ∧ (endTag l).2.length ≤ l.length := by
  have h0 := len_trail (by1 en) l
  cases h : attrs false [] (from_ en l) with
  | none => rw [(start_no h).1, (start_no h).2]; exact ⟨Nat.zero_le _, Nat.zero_le _⟩
  | some x =>
    obtain ⟨bs, sf, r⟩ := x
    have h1 := len_attrs _ _ _ _ _ _ h
    rw [(start_yes h).1, (start_yes h).2]
    have h2 := len_cont (lowL (upTo en l)) r
    have h1' : r.length < (trail (by1 en) l).length := h1
    exact ⟨by show (cont _ r).2.length ≤ _; omega, by show r.length ≤ _; omega⟩
theorem len_closed (l : List UInt8) : (closed l).2.length ≤ l.length := by
  have := len_trail (by1 gt) l
  show ((trail (by1 gt) l).drop 1).length ≤ _
  rw [List.length_drop]
  omega
theorem len_comm (l : List UInt8) : (comm l).2.length ≤ l.length := by
  unfold comm
  have := len_trail cend l
  split
  · rw [List.length_drop]; omega
  · split
    · rw [List.length_drop]; omega
    · show ((trail cend l).drop _).length ≤ _
      rw [List.length_drop]; omega
theorem len_marks (l : List UInt8) : (marks l).length ≤ l.length := by
  unfold marks
  split
  · rw [List.length_drop]; omega
  · split
    · rw [List.length_drop]; omega
    · exact Nat.le_refl _
theorem marked_le (r : List UInt8) : marked r ≤ 6 := by
  unfold marked
  split
  · decide
  · split <;> decide
theorem begun_le (l : List UInt8) : Tm.begun l ≤ 6 := by
  match l with
  | [] => decide
  | [a] =>
    have : Tm.begun [a] = 0 := by show (if a = 60 then 0 else 0) = 0; split <;> rfl
    omega
  | a :: c :: r =>
    have hm := marked_le r
    have hs := slashed_cases r
    rw [begun_two]
    split
    · split
      · decide
      · split
        · omega
        · split
          · exact hm
          · split <;> decide
    · decide
/-- What begins something is gone over. -/
theorem len_mk {l : List UInt8} (h : Tm.begun l ≠ 0) : (mk l).2.length < l.length := by
  have hne : l ≠ [] := fun e => h (by rw [e]; rfl)
  have d1 := lt_behind hne (n := 1) (by decide)
  have d2 := lt_behind hne (n := 2) (by decide)
  have d3 := lt_behind hne (n := 3) (by decide)
  have d4 := lt_behind hne (n := 4) (by decide)
  have d9 := lt_behind hne (n := 9) (by decide)
  by_cases h1 : Tm.begun l = 1
  · rw [mk_1 h1]; have := (len_start (l.drop 1)).1; omega
  by_cases h2 : Tm.begun l = 2
  · rw [mk_2 h2]; have := (len_start (l.drop 2)).2; omega
  by_cases h3 : Tm.begun l = 3
  · rw [mk_3 h3]; exact d3
  by_cases h4 : Tm.begun l = 4
  · rw [mk_4 h4]; have := len_comm (l.drop 4); show (comm _).2.length < _; omega
  by_cases h5 : Tm.begun l = 5
  · rw [mk_5 h5]; have := len_closed (l.drop 9); show (closed _).2.length < _; omega
  by_cases h6 : Tm.begun l = 6
  · rw [mk_6 h6]; have := len_closed (marks (l.drop 1)); have := len_marks (l.drop 1); show (closed _).2.length < _; omega
  · exact absurd (begun_le l) (by omega)
theorem len_turn {l : List UInt8} (h : l ≠ []) : (turn l).2.length < l.length := by
  show (mk (trail bg l)).2.length < _
  have h1 := len_trail bg l
  rcases trail_cases bg l with e | e
  · rw [e, mk_0 (by decide) (by decide) (by decide) (by decide) (by decide) (by decide)]
    exact List.length_pos_iff.2 h
  · have := len_mk (of_decide_eq_true e)
    omega
theorem cut_nil : cut [] = [] := by
  rw [cut, dif_neg (by simp)]
  show txt (dec []) ++ (mk []).1 = []
  rw [Rm.dec_nil, mk_0 (by decide) (by decide) (by decide) (by decide) (by decide) (by decide)]
  rfl
theorem cut_step {l : List UInt8} (h : l ≠ []) : cut l = (turn l).1 ++ cut (turn l).2 := by rw [cut, dif_pos (len_turn h)]
theorem turn_len (l : List UInt8) : (turn l).1.length ≤ 3 := by
  show (txt _ ++ (mk _).1).length ≤ 3
  rw [List.length_append]
  have := len_txt (dec (lead bg l))
  have := mk_len (l := trail bg l)
  omega

theorem Rc.new (w : World) (s : ByteArray) : Rc (w.alloc (.cells #[.string s, .int .i64 0, .slice none 0 0] 48)) w.heap.size s 0 (.slice none 0 0) := (MapKept.heap_alloc w _).1

set_option maxRecDepth 100000 in
set_option maxHeartbeats 4000000 in
theorem In_any (s nm : ByteArray) (w : World) (hs : s.size ≤ 300000000) (hn : nm.size ≤ 140737488351232) (hT : Tab w) :
    Calls Tryz.prog 10 #[.string s, .string nm] w fun e w' => ∃ V l, e = .returned V ∧ Ot w.heap.size w' V l ∧ tks l = within (L nm) (L s) ∧ Below w.heap.size w w' := by
  have hN0 : 0 < w.heap.size := hT.2
  have hr0 := Rc.new w s
  have hb0 := below_new w (.cells #[.string s, .int .i64 0, .slice none 0 0] 48)
  have hT0 := hT.below hb0
  have HR := Lib.hid hr0; have HB := Lib.hid hb0; have HT := Lib.hid hT0; clear hr0 hb0 hT0
  go_enter Tryz.func10, Tryz.ntmps10
  go_wp2_with fail
  have g0 : Rg w.heap.size (w.alloc (.cells #[.string s, .int .i64 0, .slice none 0 0] 48)) w.heap.size s 0 [] := ⟨_, HR.out, Ot.nil _ _, Nat.le_refl _⟩
  refine (contents_any w.heap.size w.heap.size 0 s nm [] _ g0 (Nat.zero_le _) (by omega) hn (by simp) HT.out hN0).mono ?_
  rintro e w1 ⟨rfl, m, l1, hm, hd, g1, ht, B1⟩
  have B2 := HB.out.trans B1
  have hl1 := tks_len ht (n := 1) (by
    unfold cont
    split
    · exact len_txt _
    · split
      · exact len_txt _
      · simp)
  rw [List.drop_zero] at hd ht
  have hw : tks l1 ++ cut ((L s).drop m) = within (L nm) (L s) := by rw [ht, hd]; rfl
  obtain ⟨N, hN⟩ : ∃ N, w.heap.size = N := ⟨_, rfl⟩
  rw [hN] at g1 B2 hN0 ⊢
  have HT0 := Lib.hid hT
  clear g0 B1 ht hd HR HB HT hT
  have HNN := Lib.hid hN; clear hN
  go_wp2
  go_loopw [] (fun wr => ∃ (k : Nat) (l : List Tw), k ≤ s.size ∧ Rg N wr N s k l ∧ tks l ++ cut ((L s).drop k) = within (L nm) (L s) ∧ l.length ≤ 3 * k + 1 ∧ Below N w wr) (fun wr => s.size - posOf wr N)
  case atStart => exact ⟨m, l1, hm, g1, hw, by simp at hl1; omega, B2⟩
  case round =>
    clear g1 hw hl1 B2 hm
    obtain ⟨k, l, hk, g, hw, hl, hb⟩ := hrel
    obtain ⟨V, hr, ho, hNb⟩ := g
    have c0 := hr.c0; have c1 := hr.c1; have c2 := hr.c2
    have hpos := hr.pos
    by_cases hp : k < s.size
    · have hlt : decide ((k : Int) < s.size) = true := decide_eq_true (by omega)
      have HR := Lib.hid hr; have HO := Lib.hid ho; have HW := Lib.hid hw; have HB := Lib.hid hb; have HP := Lib.hid hpos; clear hr ho hw hb hpos
      go_wp2_with fail
      refine (plain_any N k s V wr HR.out hk (by omega)).mono ?_
      rintro e w2 ⟨rfl, m2, hm2, hd2, h2, hg2⟩
      obtain ⟨g2, B2⟩ := Rg.step HR.out HO.out hNb hg2 h2
      have B3 := B2 _ HB.out
      have hT2 := tab_below HT0.out B3 hN0
      have hsz : (B (lead bg ((L s).drop k))).size ≤ 140737488351232 := by
        rw [size_B]
        have := len_lead bg ((L s).drop k)
        rw [List.length_drop, size_L] at this
        omega
      clear B2 hg2 h2 c0 c1 c2
      go_wp2_with fail
      refine (Re.decode_any _ w2 hT2 hsz).mono ?_
      rintro e w3 ⟨rfl, hb3⟩
      obtain ⟨g3, B4⟩ := g2.below hb3
      have B5 := B3.trans B4
      clear B3 B4 hb3 g2 hT2
      go_wp2_with fail
      refine (addText_any N N m2 s _ l w3 g3 (by omega)).mono ?_
      rintro e w4 ⟨rfl, l4, g4, ht4, B6⟩
      have B7 := B6 _ B5
      rw [L_B, L_B] at ht4
      have hl4 := tks_len ht4 (len_txt _)
      have hT4 := tab_below HT0.out B7 hN0
      clear B6 B5 g3
      go_wp2_with fail
      refine (markup_any N N m2 s l4 w4 g4 hm2 (by omega) (by omega) hT4 hN0).mono ?_
      rintro e w5 ⟨rfl, k5, l5, hk5, hd5, g5, ht5, B8⟩
      have hl5 := tks_len ht5 mk_len
      have B9 := B7.trans B8
      rw [hd2] at hd5 ht5
      have hne : (L s).drop k ≠ [] := by rw [drop_cons s k hp]; exact List.cons_ne_nil _ _
      have hcs := cut_step hne
      have htl := len_turn hne
      have e2 : (turn ((L s).drop k)).2 = (L s).drop k5 := hd5.symm
      have e1 : (turn ((L s).drop k)).1 = txt (dec (lead bg ((L s).drop k))) ++ (mk (trail bg ((L s).drop k))).1 := rfl
      rw [e2] at hcs htl
      rw [List.length_drop, List.length_drop, size_L] at htl
      have hw5 : tks l5 ++ cut ((L s).drop k5) = within (L nm) (L s) := by
        rw [← HW.out, hcs, e1, ht5, ht4]
        simp only [List.append_assoc]
      have hp5 : posOf w5 N = k5 := by obtain ⟨V5, hr5, _⟩ := g5; exact hr5.pos
      clear B7 B8 g4 hT4 ht5 ht4 hd2 hd5 hcs e1 e2 hne
      go_wp2
      go_roundw
      case rel => exact ⟨k5, l5, hk5, g5, hw5, by omega, B9⟩
      case measure =>
        rw [hp5, HP.out]
        omega
    · have hlt : decide ((k : Int) < s.size) = false := decide_eq_false (by omega)
      rw [drop_nil s k hp, cut_nil, List.append_nil] at hw
      have HR := Lib.hid hr; have HO := Lib.hid ho; have HW := Lib.hid hw; have HB := Lib.hid hb; clear hr ho hw hb hpos
      go_wp2
      go_ret
      exact ⟨V, l, rfl, by rw [HNN.out]; exact HO.out, HW.out, by rw [HNN.out]; exact HB.out⟩

end Go.Proofs.YtdplbcchkjpcdaaGreatDoor.To

namespace Go.Proofs.YtdplbcchkjpcdaaGreatDoor.Re
set_option maxRecDepth 100000
set_option linter.unusedSimpArgs false
set_option linter.unusedVariables false
open Go.RowKit Ba Rm
theorem cut_take {r b : List UInt8} (h : cutAt r = some b) : r.take b.length = b := by
  induction r generalizing b with
  | nil => cases h
  | cons c r ih =>
    unfold cutAt at h
    split at h
    · injection h with h; rw [← h]; rfl
    · cases hc : cutAt r with
      | none => simp [hc] at h
      | some x =>
        simp [hc] at h
        rw [← h, List.length_cons, List.take_succ_cons, ih hc]
theorem endI_amp {l r : List UInt8} {k : Nat} (h : l.drop k = 38 :: r) (hr : l.drop (k + 1) = r) : endI l k = (match cutAt r with | some b => ((k + 1 + b.length : Nat) : Int) | none => -1) := by
  rw [endI_on h hr (by decide)]
  unfold endI
  rw [hr]
  cases cutAt r <;> rfl
theorem end1 (w : World) (s : ByteArray) (m : Nat) (n : Int) (hm : m ≤ s.size) (hs : s.size ≤ 140737488355328) (h : endI (L s) m = n) :
    Calls Tryz.prog 103 #[.string s, .int .i64 m] w fun e w' => e = .returned (.int .i64 n) ∧ w = w' := by
  have k := end_any s m w hm hs
  rw [h] at k
  exact k
theorem meant1 (w : World) (s : ByteArray) (M : Option (List UInt8)) (ok : Bool) (hs : s.size ≤ 140737488355328) (h1 : meant (L s) = M) (h2 : M.isSome = ok) :
    Calls Tryz.prog 104 #[.string s] w fun e w' => (∃ x, e = .returned (.tuple #[.string x, .bool ok]) ∧ ∀ t, M = some t → x = B t) ∧ Below w.heap.size w w' := by
  have k := meant_any s w hs
  rw [h1, h2] at k
  exact k

set_option maxHeartbeats 2000000 in
theorem refDecode_any (s : ByteArray) (w : World) (hs : s.size ≤ 140737488351232) :
    Calls Tryz.prog 72 #[.string s] w fun e w' => e = .returned (.string (B (dec (L s)))) ∧ Below w.heap.size w w' := by
  have ho0 := OwnB.made w
  have hb0 := below_new w (.cells #[] 5)
  go_enter Tryz.func72, Tryz.ntmps72
  go_wp2
  go_loopw [3, 4] (fun v i wr => ∃ (k : Nat) (acc : List UInt8), i = .int .i64 k ∧ k ≤ s.size ∧ OwnB w.heap.size wr v acc ∧ acc ++ dec ((L s).drop k) = dec (L s) ∧ Below w.heap.size w wr) (fun _ i _ => s.size - (intOf i).toNat)
  case atStart => exact ⟨0, [], rfl, Nat.zero_le _, ho0, by simp, hb0⟩
  case round =>
    clear ho0 hb0
    obtain ⟨k, acc, rfl, hks, hown, hc, hbel⟩ := hrel
    have hN := hbel.size
    by_cases hp : k < s.size
    · have hd := drop_cons s k hp
      have hbd := dec_bound hc
      rw [size_L] at hbd
      have hl1 : acc.length + 1 ≤ 140737488355328 := by omega
      have hne : (L s).drop k ≠ [] := by rw [hd]; exact List.cons_ne_nil _ _
      rw [dec_step hne] at hc hbd
      clear hne
      by_cases h8 : s[k] = 38
      · have hb : (((s[k].toNat : Int)) == 38) = true := by rw [h8]; rfl
        rw [hd, h8, fst_cons, if_pos rfl] at hc hbd
        rw [h8] at hd
        have he := endI_amp hd rfl
        unfold refAt at hc hbd
        cases hcut : cutAt ((L s).drop (k + 1)) with
        | none =>
          rw [hcut] at hc he
          simp only [List.drop_succ_cons, List.drop_zero] at hc he
          have HC := Lib.hid hc; have HE := Lib.hid he
          have hk8 : (38 : UInt8) = s[k] := h8.symm
          have HK := Lib.hid hk8
          clear hc he hbd hd hcut h8 hk8
          go_wp2_with fail
          refine (end1 wr s k (-1) (by omega) (by omega) HE.out).mono ?_
          rintro e w3 ⟨rfl, rfl⟩
          go_wp2_with (at_builtin; refine app_byte wr rfl (.tmp 37) (.tmp 41) rfl w.heap.size _ acc s[k] rfl hown rfl hl1 hN ?_; intro v4 w4 hown4 hk4)
          go_roundw
          case rel => exact ⟨k + 1, acc ++ [s[k]], by go_num, by omega, hown4, by rw [List.append_assoc, ← HK.out]; exact HC.out, hk4 _ hbel⟩
          case measure => simp [intOf]; omega
        | some b =>
          rw [hcut] at hc he hbd
          simp only at hc he hbd
          have hbl := len_cut hcut
          rw [List.length_drop, size_L] at hbl
          have hxL : L (s.extract (k + 1) (k + 1 + b.length)) = b := by
            rw [L_extract, Nat.add_sub_cancel_left, cut_take hcut]
          have hxs : (s.extract (k + 1) (k + 1 + b.length)).size ≤ 140737488355328 := Nat.le_trans (size_extract s _ _) (by omega)
          obtain ⟨M, hM⟩ : ∃ M, meant b = M := ⟨_, rfl⟩
          rw [hM] at hc hbd
          have hxM : meant (L (s.extract (k + 1) (k + 1 + b.length))) = M := by rw [hxL, hM]
          have HE := Lib.hid he
          clear he hxL hcut
          cases M with
          | none =>
            simp only [Option.map_none, List.drop_succ_cons, List.drop_zero] at hc
            have HC := Lib.hid hc; have HM := Lib.hid hxM
            have hk8 : (38 : UInt8) = s[k] := h8.symm
            have HK := Lib.hid hk8
            clear hc hxM hbd hd h8 hk8 hM
            go_wp2_with fail
            refine (end1 wr s k _ (by omega) (by omega) HE.out).mono ?_
            rintro e w3 ⟨rfl, rfl⟩
            go_wp2_with fail
            refine (meant1 wr _ none false hxs HM.out rfl).mono ?_
            rintro e w3 ⟨⟨x, rfl, hx⟩, hb3⟩
            clear hx
            have hbel3 : Below w.heap.size w w3 := hbel.trans (hb3.mono hN)
            have hown3 : OwnB w.heap.size w3 _ acc := OwnB.keep hown hb3
            have hN3 := hbel3.size
            clear hown
            go_wp2_with (at_builtin; refine app_byte w3 rfl (.tmp 37) (.tmp 41) rfl w.heap.size _ acc s[k] rfl hown3 rfl hl1 hN3 ?_; intro v4 w4 hown4 hk4)
            go_roundw
            case rel => exact ⟨k + 1, acc ++ [s[k]], by go_num, by omega, hown4, by rw [List.append_assoc, ← HK.out]; exact HC.out, hk4 _ hbel3⟩
            case measure => simp [intOf]; omega
          | some t =>
            simp only [Option.map_some] at hc hbd
            have hdd : (38 :: (L s).drop (k + 1)).drop (b.length + 2) = (L s).drop (k + 1 + b.length + 1) := by
              rw [show b.length + 2 = (b.length + 1) + 1 from rfl, List.drop_succ_cons, List.drop_drop]
              congr 1
            rw [hdd] at hc
            rw [List.length_append] at hbd
            have hbt : acc.length + (B t).size ≤ 140737488355328 := by rw [size_B]; omega
            have HC := Lib.hid hc; have HM := Lib.hid hxM
            clear hc hxM hbd hd h8 hM hdd
            go_wp2_with fail
            refine (end1 wr s k _ (by omega) (by omega) HE.out).mono ?_
            rintro e w3 ⟨rfl, rfl⟩
            go_wp2_with fail
            refine (meant1 wr _ (some t) true hxs HM.out rfl).mono ?_
            rintro e w3 ⟨⟨x, rfl, hx⟩, hb3⟩
            obtain rfl := hx t rfl
            clear hx
            have hbel3 : Below w.heap.size w w3 := hbel.trans (hb3.mono hN)
            have hown3 : OwnB w.heap.size w3 _ acc := OwnB.keep hown hb3
            have hN3 := hbel3.size
            clear hown
            have hLt := L_B t
            generalize B t = u at hbt hLt
            go_wp2_with (at_builtin; refine app_str w3 rfl (.tmp 32) (.tmp 33) rfl w.heap.size _ acc u rfl hown3 rfl hbt hN3 ?_; intro v4 w4 hown4 hk4)
            go_roundw
            case rel => exact ⟨k + 1 + b.length + 1, acc ++ L u, by go_num, by omega, hown4, by rw [List.append_assoc, hLt]; exact HC.out, hk4 _ hbel3⟩
            case measure => simp [intOf]; omega
      · have hb : (((s[k].toNat : Int)) == 38) = false := u8_ne (b := 38) h8
        rw [hd, fst_byte _ h8] at hc
        simp only [List.drop_succ_cons, List.drop_zero] at hc
        have HC := Lib.hid hc
        clear hc hbd hd h8
        go_wp2_with (at_builtin; refine app_byte wr rfl (.tmp 37) (.tmp 41) rfl w.heap.size _ acc s[k] rfl hown rfl hl1 hN ?_; intro v4 w4 hown4 hk4)
        go_roundw
        case rel => exact ⟨k + 1, acc ++ [s[k]], by go_num, by omega, hown4, by rw [List.append_assoc]; exact HC.out, hk4 _ hbel⟩
        case measure => simp [intOf]; omega
    · have hcv := hown.string
      rw [drop_nil s k hp, dec_nil, List.append_nil] at hc
      subst hc
      go_wp2
      go_ret
      exact ⟨rfl, hbel⟩

end Go.Proofs.YtdplbcchkjpcdaaGreatDoor.Re

namespace Go.Proofs.YtdplbcchkjpcdaaGreatDoor.Re
set_option linter.unusedSimpArgs false
set_option linter.unusedVariables false
open Go.RowKit Ba Rm
end Go.Proofs.YtdplbcchkjpcdaaGreatDoor.Re

namespace Go.Proofs.YtdplbcchkjpcdaaGreatDoor.Tm
set_option maxRecDepth 100000
set_option linter.unusedVariables false
set_option linter.unusedSimpArgs false
open Ba Fm Rm Nm
open Ro (At)
/-- An element of this start tag has its text as it stands. -/
def rawT (t : Tk) : Bool := t.kind == 1 && isIn t.name rawL
def wAttr (a : At) : List UInt8 := [32] ++ (L a.name ++ ([61, 34] ++ (esc true (L a.value) ++ [34])))
def wStart (t : Tk) : List UInt8 := [60] ++ L t.name ++ t.attrs.flatMap wAttr ++ (if t.self = true then [32, 47] else []) ++ [62]
def w1 (raw : Bool) (t : Tk) : List UInt8 :=
  if t.kind = 0 then (if raw = true then L t.data else esc false (L t.data))
  else if t.kind = 1 then wStart t
  else if t.kind = 2 then [60, 47] ++ L t.name ++ [62]
  else if t.kind = 3 then [60, 33, 45, 45] ++ L t.data ++ [45, 45, 62]
  else if t.kind = 4 then [60, 33, 100, 111, 99, 116, 121, 112, 101, 32] ++ L t.data ++ [62]
  else []
/-- The tokens, written; raw: the one ahead was such a start tag. -/
def wAll (raw : Bool) : List Tk → List UInt8
  | [] => []
  | t :: r => w1 raw t ++ wAll (rawT t) r

def bulkA (l : List At) : Nat := (l.map fun a => a.name.size + a.value.size).sum
/-- How much a token has. -/
def bulkT (t : Tk) : Nat := t.name.size + t.data.size + bulkA t.attrs + t.attrs.length
def bulk (l : List Tk) : Nat := (l.map bulkT).sum
end Go.Proofs.YtdplbcchkjpcdaaGreatDoor.Tm

namespace Go.Proofs.YtdplbcchkjpcdaaGreatDoor.To
set_option maxRecDepth 100000
set_option linter.unusedSimpArgs false
set_option linter.unusedVariables false
open Go.RowKit Ba Fm Fo Tm Nm
open Ro (At acells len_acells below_new Sh Ra acells_one info_attr)
open Re (Tab)
open Rm (dec esc)
/-- All blocks are kept that hold no bytes. -/
def Kb (w w' : World) : Prop := w.heap.size ≤ w'.heap.size ∧ ∀ (i : Nat) (cs : Array Value) (t : TypeId) (fr : Nat × Nat), w.heap[i]? = some (.cells cs t fr) → t ≠ 5 → w'.heap[i]? = w.heap[i]?
theorem Kb.refl (w : World) : Kb w w := ⟨Nat.le_refl _, fun _ _ _ _ _ _ => rfl⟩
theorem Kb.trans {a b c : World} (h : Kb a b) (k : Kb b c) : Kb a c := ⟨Nat.le_trans h.1 k.1, fun i cs t fr hi ht => by
  have h1 := h.2 i cs t fr hi ht
  exact (k.2 i cs t fr (h1.trans hi) ht).trans h1⟩
theorem Kb.below {w w' : World} (h : Below w.heap.size w w') : Kb w w' := ⟨h.size, fun i cs t fr hi _ => h.block i (Array.getElem?_eq_some_iff.1 hi).1⟩
theorem own_ne {N b : Nat} {w : World} {v : Value} {l : List UInt8} (h : OwnB N w v l) {cs : Array Value} {t : TypeId} {fr : Nat × Nat} (hb : w.heap[b]? = some (.cells cs t fr)) (ht : t ≠ 5) : v.ownBlock ≠ some b := by
  rcases h.2 with ⟨rfl, _⟩ | ⟨g, cap, cur, rfl, _, hh, _⟩
  · simp [Value.ownBlock]
  · intro e
    have e : g = b := by simpa [Value.ownBlock] using e
    subst e
    rw [hb] at hh
    injection hh with hh
    injection hh with _ h2
    exact ht h2
theorem Kb.grown {N : Nat} {w w' : World} {v : Value} {l : List UInt8} (h : OwnB N w v l) (hg : w.grownBy w' v.ownBlock) : Kb w w' :=
  ⟨hg.size, fun i cs t fr hi ht => hg.block i (Array.getElem?_eq_some_iff.1 hi).1 fun e => own_ne h hi ht e.symm⟩
/-- Block g holds these strings. -/
def Ls (w : World) (g : Nat) (l : List ByteArray) : Prop := w.heap[g]? = some (.cells (l.map sc).toArray 9)
theorem Ls.new (w : World) (l : List ByteArray) : Ls (w.alloc (.cells (l.map sc).toArray 9)) w.heap.size l := (MapKept.heap_alloc w _).1
theorem Ls.cell {w : World} {g : Nat} {l : List ByteArray} (h : Ls w g l) (j : Nat) (hj : j < l.length) : w.cell? ⟨g, j, none⟩ = some (.string l[j]) := by
  rw [cell_of_row w g j _ _ _ h]
  simp [sc, hj]

end Go.Proofs.YtdplbcchkjpcdaaGreatDoor.To

namespace Go.Proofs.YtdplbcchkjpcdaaGreatDoor.To
set_option maxRecDepth 100000
set_option linter.unusedSimpArgs false
set_option linter.unusedVariables false
open Go.RowKit Ba Fm Fo Tm Nm
open Ro (At acells len_acells below_new Sh Ra acells_one info_attr range2)
open Re (Tab)
open Rm (dec esc)
/-- Block g is a token in a box. -/
def Tb (w : World) (g : Nat) (x : Tw) : Prop := w.heap[g]? = some (tokO x)
theorem Tb.new (w : World) (x : Tw) : Tb (w.alloc (tokO x)) w.heap.size x := (MapKept.heap_alloc w _).1
theorem Tb.c {w : World} {g : Nat} {x : Tw} (h : Tb w g x) : w.cell? ⟨g, 0, none⟩ = some (.int .i64 x.tk.kind) ∧ w.cell? ⟨g, 1, none⟩ = some (.string x.tk.name) ∧ w.cell? ⟨g, 2, none⟩ = some (.string x.tk.data) ∧ w.cell? ⟨g, 3, none⟩ = some (.slice x.A x.tk.attrs.length x.c) ∧ w.cell? ⟨g, 4, none⟩ = some (.bool x.tk.self) := by
  refine ⟨?_, ?_, ?_, ?_, ?_⟩
  · rw [cell_of_row w g 0 _ _ _ h]; rfl
  · rw [cell_of_row w g 1 _ _ _ h]; rfl
  · rw [cell_of_row w g 2 _ _ _ h]; rfl
  · rw [cell_of_row w g 3 _ _ _ h]; rfl
  · rw [cell_of_row w g 4 _ _ _ h]; rfl
theorem Kb.alloc (w : World) (o : Obj) : Kb w (w.alloc o) := Kb.below (below_new w o)
theorem Ra.bl {w w' : World} {N M : Nat} {A : Option Addr} {l : List At} (h : Ra w N A l) (hb : Below M w w') (hN : N ≤ M) : Ra w' N A l := Ro.Ra.below h hb hN

end Go.Proofs.YtdplbcchkjpcdaaGreatDoor.To

namespace Go.Proofs.YtdplbcchkjpcdaaGreatDoor.To
set_option maxRecDepth 100000
set_option linter.unusedSimpArgs false
set_option linter.unusedVariables false
open Go.RowKit Ba Fm Fo Tm Nm
open Ro (At acells len_acells below_new Sh Ra acells_one info_attr range2 range5)
open Re (Tab)
open Rm (dec esc)
theorem bulk_cons (t : Tk) (l : List Tk) : bulk (t :: l) = bulkT t + bulk l := by simp [bulk]
end Go.Proofs.YtdplbcchkjpcdaaGreatDoor.To

namespace Go.Proofs.YtdplbcchkjpcdaaGreatDoor.Tm
set_option linter.unusedVariables false
set_option linter.unusedSimpArgs false
open Ba Fm Rm Nm
open Ro (At)
theorem mk_nil : mk [] = ([], []) := To.mk_0 (by decide) (by decide) (by decide) (by decide) (by decide) (by decide)
theorem cut_turn (l : List UInt8) : cut l = (turn l).1 ++ cut (turn l).2 := by
  by_cases h : l = []
  · rw [h]
    show cut [] = (txt (dec []) ++ (mk []).1) ++ cut (mk []).2
    rw [dec_nil, mk_nil]
    show cut [] = [] ++ cut []
    rfl
  · exact To.cut_step h
theorem begins {r : List UInt8} (h : begun r ≠ 0) : lead bg r = [] ∧ trail bg r = r := by
  have hb : bg r = true := decide_eq_true h
  cases r with
  | nil => exact ⟨rfl, rfl⟩
  | cons c q => exact ⟨lead_yes hb, trail_yes hb⟩

/-- There are no more tokens than bytes, and two. -/
theorem cut_len (l : List UInt8) : (cut l).length ≤ 3 * l.length := by
  induction hn : l.length using Nat.strongRecOn generalizing l with
  | ind n ih =>
    subst hn
    by_cases h : l = []
    · rw [h, To.cut_nil]; exact Nat.zero_le _
    · have h1 := To.len_turn h
      have h2 := To.turn_len l
      have h3 := ih _ h1 _ rfl
      rw [To.cut_step h, List.length_append]
      omega
theorem within_len (n l : List UInt8) : (within n l).length ≤ 3 * l.length + 1 := by
  unfold within
  rw [List.length_append]
  have h1 := cut_len (cont n l).2
  have h2 := To.len_cont n l
  have h3 : (cont n l).1.length ≤ 1 := by
    unfold cont
    split
    · exact To.len_txt _
    · split
      · exact To.len_txt _
      · simp
  omega

end Go.Proofs.YtdplbcchkjpcdaaGreatDoor.Tm

namespace Go.Proofs.YtdplbcchkjpcdaaGreatDoor.Tm
set_option linter.unusedVariables false
set_option linter.unusedSimpArgs false
open Ba Fm Rm Nm
open Ro (At)
theorem pre_cons (a b : UInt8) (t l : List UInt8) : pre (a :: t) (b :: l) = (decide (b = a) && pre t l) := by
  unfold pre
  rw [Bool.eq_iff_iff, decide_eq_true_iff, Bool.and_eq_true, decide_eq_true_iff, decide_eq_true_iff]
  simp only [List.length_cons, List.take_succ_cons, List.cons.injEq]
theorem pre_nil (l : List UInt8) : pre [] l = true := by unfold pre; simp
theorem pre_none (a : UInt8) (t : List UInt8) : pre (a :: t) [] = false := by unfold pre; simp
end Go.Proofs.YtdplbcchkjpcdaaGreatDoor.Tm

namespace Go.Proofs.YtdplbcchkjpcdaaGreatDoor.Tm
set_option linter.unusedVariables false
set_option linter.unusedSimpArgs false
open Ba Fm Rm Nm
open Ro (At)
theorem sum_trail (p : List UInt8 → Bool) (l : List UInt8) : (lead p l).length + (trail p l).length = l.length := by
  have := congrArg List.length (lead_trail p l)
  rwa [List.length_append] at this
theorem sum_quo (q : UInt8) (r : List UInt8) : (quo q r).1.length + (quo q r).2.length ≤ r.length := by
  have := sum_trail (by1 (is q)) r
  show (lead _ r).length + ((trail _ r).drop 1).length ≤ _
  rw [List.length_drop]
  omega
theorem sum_value (l : List UInt8) : (value l).1.length + (value l).2.length ≤ l.length := by
  have h1 := sum_quo 34 (l.drop 1)
  have h2 := sum_quo 39 (l.drop 1)
  have h3 := sum_trail (by1 ev) l
  rw [List.length_drop] at h1 h2
  unfold value
  split
  · omega
  · split
    · omega
    · show (lead (by1 ev) l).length + (trail (by1 ev) l).length ≤ _
      omega
theorem sum_valued (l : List UInt8) : (valued l).1.length + (valued l).2.length ≤ l.length := by
  have h1 := sum_value (trimS (l.drop 1))
  have h2 := len_trimS (l.drop 1)
  have h3 := len_dec (value (trimS (l.drop 1))).1
  rw [List.length_drop] at h2
  unfold valued
  split
  · show (dec _).length + (value _).2.length ≤ _
    omega
  · show 0 + l.length ≤ _
    omega
theorem sum_attr (c : UInt8) (r : List UInt8) : (attr c r).1.name.size + (attr c r).1.value.size + (attr c r).2.length ≤ r.length + 1 := by
  have h1 := sum_valued (trimS (from_ ea r))
  have h2 := len_trimS (from_ ea r)
  have h3 := sum_trail (by1 ea) r
  show (B (lowL (c :: upTo ea r))).size + (B (valued (trimS (from_ ea r))).1).size + (valued (trimS (from_ ea r))).2.length ≤ _
  rw [size_B, size_B, len_lowL, List.length_cons]
  have h4 : (from_ ea r).length = (trail (by1 ea) r).length := rfl
  have h5 : (upTo ea r).length = (lead (by1 ea) r).length := rfl
  omega
theorem bulkA_append (l : List At) (a : At) : bulkA (l ++ [a]) = bulkA l + (a.name.size + a.value.size) := by
  unfold bulkA
  rw [List.map_append, List.sum_append]
  simp
theorem sum_put (l : List At) (a : At) : bulkA (put l a) + (put l a).length ≤ bulkA l + l.length + (a.name.size + a.value.size + 1) := by
  unfold put
  split
  · omega
  · rw [bulkA_append, List.length_append]
    show _ + (_ + 1) ≤ _
    omega
theorem sum_attrs (l : List UInt8) : ∀ (self : Bool) (acc bs : List At) (sf : Bool) (r : List UInt8), attrs self acc l = some (bs, sf, r) → bulkA bs + bs.length + 2 * r.length ≤ bulkA acc + acc.length + 2 * l.length := by
  induction hn : l.length using Nat.strongRecOn generalizing l with
  | ind n ih =>
    intro self acc bs sf r h
    subst hn
    cases l with
    | nil => rw [attrs_nil] at h; cases h
    | cons c q =>
      by_cases h1 : c = 62
      · subst h1
        rw [attrs_end] at h
        injection h with h
        injection h with h h'
        injection h' with _ h'
        rw [← h, ← h', List.length_cons]
        omega
      · by_cases h2 : c = 47 ∨ sp c = true
        · rw [attrs_skip _ _ _ h1 h2] at h
          have := ih q.length (by simp) q rfl _ _ _ _ _ h
          rw [List.length_cons]
          omega
        · rw [attrs_attr _ _ _ h1 h2] at h
          have hq := sum_attr c q
          have hl := len_attr c q
          have hp := sum_put acc (attr c q).1
          have := ih (attr c q).2.length (by simp only [List.length_cons]; omega) _ rfl _ _ _ _ _ h
          rw [List.length_cons]
          omega
theorem bulk_append (a b : List Tk) : bulk (a ++ b) = bulk a + bulk b := by
  unfold bulk
  rw [List.map_append, List.sum_append]
theorem bulk_one (t : Tk) : bulk [t] = bulkT t := by simp [bulk]
theorem bulk_txt (d : List UInt8) : bulk (txt d) ≤ d.length := by
  unfold txt
  split
  · exact Nat.zero_le _
  · rw [bulk_one]
    show 0 + (B d).size + 0 + 0 ≤ _
    rw [size_B]
    omega
theorem sum_cont (n l : List UInt8) : bulk (cont n l).1 + (cont n l).2.length ≤ l.length := by
  have h1 := sum_trail (isEnd n) l
  unfold cont
  split
  · have := bulk_txt (lead (isEnd n) l)
    show bulk (txt _) + (trail _ l).length ≤ _
    omega
  · split
    · have := bulk_txt (dec (lead (isEnd n) l))
      have := len_dec (lead (isEnd n) l)
      show bulk (txt _) + (trail _ l).length ≤ _
      omega
    · show 0 + l.length ≤ _
      omega
theorem sum_start (l : List UInt8) : bulk (startTag l).1 + 2 * (startTag l).2.length ≤ 2 * l.length ∧ bulk (endTag l).1 + 2 * (endTag l).2.length ≤ 2 * l.length := by
  have h0 := sum_trail (by1 en) l
  cases ha : attrs false [] (from_ en l) with
  | none =>
    rw [(To.start_no ha).1, (To.start_no ha).2]
    exact ⟨Nat.zero_le _, Nat.zero_le _⟩
  | some x =>
    obtain ⟨bs, sf, r⟩ := x
    rw [(To.start_yes ha).1, (To.start_yes ha).2]
    have h1 := sum_attrs _ _ _ _ _ _ ha
    have h2 := sum_cont (lowL (upTo en l)) r
    have h3 : (B (lowL (upTo en l))).size = (lead (by1 en) l).length := by rw [size_B, len_lowL]
    have h4 : (from_ en l).length = (trail (by1 en) l).length := rfl
    have h5 : bulkA ([] : List At) + ([] : List At).length = 0 := rfl
    have e1 : bulkT ⟨1, B (lowL (upTo en l)), B [], bs, sf⟩ = (B (lowL (upTo en l))).size + 0 + bulkA bs + bs.length := rfl
    have e2 : bulkT ⟨2, B (lowL (upTo en l)), B [], [], false⟩ = (B (lowL (upTo en l))).size + 0 + 0 + 0 := rfl
    refine ⟨?_, ?_⟩
    · show bulk (_ :: (cont _ r).1) + 2 * (cont _ r).2.length ≤ _
      rw [To.bulk_cons]
      omega
    · show bulk [_] + 2 * r.length ≤ _
      rw [bulk_one]
      omega
theorem sum_comm (l : List UInt8) : (comm l).1.length + (comm l).2.length ≤ l.length := by
  have h := sum_trail cend l
  unfold comm
  split
  · show 0 + (l.drop 1).length ≤ _
    rw [List.length_drop]; omega
  · split
    · show 0 + (l.drop 2).length ≤ _
      rw [List.length_drop]; omega
    · show (lead cend l).length + ((trail cend l).drop _).length ≤ _
      rw [List.length_drop]; omega
theorem sum_closed (l : List UInt8) : (closed l).1.length + (closed l).2.length ≤ l.length := by
  have h := sum_trail (by1 gt) l
  show (lead (by1 gt) l).length + ((trail (by1 gt) l).drop 1).length ≤ _
  rw [List.length_drop]; omega
theorem sum_mk (l : List UInt8) : bulk (mk l).1 + 2 * (mk l).2.length ≤ 2 * l.length := by
  have d1 : (l.drop 1).length ≤ l.length := by rw [List.length_drop]; omega
  have d2 : (l.drop 2).length ≤ l.length := by rw [List.length_drop]; omega
  have d3 : (l.drop 3).length ≤ l.length := by rw [List.length_drop]; omega
  have d4 : (l.drop 4).length ≤ l.length := by rw [List.length_drop]; omega
  have d9 : (l.drop 9).length ≤ l.length := by rw [List.length_drop]; omega
  by_cases h1 : begun l = 1
  · rw [To.mk_1 h1]; have := (sum_start (l.drop 1)).1; omega
  by_cases h2 : begun l = 2
  · rw [To.mk_2 h2]; have := (sum_start (l.drop 2)).2; omega
  by_cases h3 : begun l = 3
  · rw [To.mk_3 h3]; show 0 + 2 * (l.drop 3).length ≤ _; omega
  by_cases h4 : begun l = 4
  · rw [To.mk_4 h4]
    have := sum_comm (l.drop 4)
    show bulk [_] + 2 * (comm (l.drop 4)).2.length ≤ _
    rw [bulk_one]
    show 0 + (B (comm (l.drop 4)).1).size + 0 + 0 + _ ≤ _
    rw [size_B]
    omega
  by_cases h5 : begun l = 5
  · rw [To.mk_5 h5]
    have := sum_closed (l.drop 9)
    have := len_trimL (closed (l.drop 9)).1
    show bulk [_] + 2 * (closed (l.drop 9)).2.length ≤ _
    rw [bulk_one]
    show 0 + (B (trimL (closed (l.drop 9)).1)).size + 0 + 0 + _ ≤ _
    rw [size_B]
    omega
  by_cases h6 : begun l = 6
  · rw [To.mk_6 h6]
    have := sum_closed (marks (l.drop 1))
    have := To.len_marks (l.drop 1)
    show bulk [_] + 2 * (closed (marks (l.drop 1))).2.length ≤ _
    rw [bulk_one]
    show 0 + (B (closed (marks (l.drop 1))).1).size + 0 + 0 + _ ≤ _
    rw [size_B]
    omega
  · rw [To.mk_0 h1 h2 h3 h4 h5 h6]; show 0 + 2 * l.length ≤ _; omega
theorem sum_turn (l : List UInt8) : bulk (turn l).1 + 2 * (turn l).2.length ≤ 2 * l.length := by
  show bulk (txt (dec (lead bg l)) ++ (mk (trail bg l)).1) + 2 * (mk (trail bg l)).2.length ≤ _
  rw [bulk_append]
  have h1 := sum_trail bg l
  have h2 := sum_mk (trail bg l)
  have h3 := bulk_txt (dec (lead bg l))
  have h4 := len_dec (lead bg l)
  omega
theorem bulk_cut (l : List UInt8) : bulk (cut l) ≤ 2 * l.length := by
  induction hn : l.length using Nat.strongRecOn generalizing l with
  | ind n ih =>
    subst hn
    by_cases h : l = []
    · rw [h, To.cut_nil]; exact Nat.zero_le _
    · have h1 := To.len_turn h
      have h2 := sum_turn l
      have h3 := ih _ h1 _ rfl
      rw [To.cut_step h, bulk_append]
      omega
theorem bulk_within (n l : List UInt8) : bulk (within n l) ≤ 2 * l.length := by
  unfold within
  rw [bulk_append]
  have h1 := bulk_cut (cont n l).2
  have h2 := sum_cont n l
  omega
theorem bulk_mem {l : List Tk} {t : Tk} (h : t ∈ l) : bulkT t ≤ bulk l := by
  induction l with
  | nil => cases h
  | cons a r ih =>
    rw [To.bulk_cons]
    rcases List.mem_cons.1 h with e | e
    · rw [e]; omega
    · have := ih e; omega

end Go.Proofs.YtdplbcchkjpcdaaGreatDoor.Tm

namespace Go.Proofs.YtdplbcchkjpcdaaGreatDoor.Ch
set_option linter.unusedSimpArgs false
set_option linter.unusedVariables false

def at' (l : List UInt8) (k : Nat) : Nat := (l.getD k 0).toNat

def inn (l : List UInt8) (k lo hi : Nat) : Bool := decide (k < l.length) && (decide (lo ≤ at' l k) && decide (at' l k ≤ hi))

def low (c : Nat) : Nat := if c = 0xe0 then 0xa0 else if c = 0xf0 then 0x90 else 128
def high (c : Nat) : Nat := if c = 0xed then 0x9f else if c = 0xf4 then 0x8f else 191

/-- How many bytes the character at the head has; 0: the byte is wrong. -/
def sz (l : List UInt8) : Nat :=
  if at' l 0 < 128 then 1
  else if (decide (0xc2 ≤ at' l 0) && decide (at' l 0 ≤ 0xdf)) && inn l 1 128 191 then 2
  else if !inn l 1 (low (at' l 0)) (high (at' l 0)) || !inn l 2 128 191 then 0
  else if decide (0xe0 ≤ at' l 0) && decide (at' l 0 ≤ 0xef) then 3
  else if (decide (0xf0 ≤ at' l 0) && decide (at' l 0 ≤ 0xf4)) && inn l 3 128 191 then 4
  else 0

def cont (l : List UInt8) (k : Nat) : Bool := decide (k < l.length) && (at' l k / 64 == 2)

def dec (l : List UInt8) : Nat × Nat :=
  let b0 := at' l 0
  if b0 < 0x80 then (b0, 1)
  else if b0 / 32 == 6 && cont l 1 then
    let c := (b0 % 32) * 64 + at' l 1 % 64
    if c ≥ 0x80 then (c, 2) else (Utf8.runeError, 1)
  else if b0 / 16 == 14 && cont l 1 && cont l 2 then
    let c := (b0 % 16) * 4096 + (at' l 1 % 64) * 64 + at' l 2 % 64
    if c ≥ 0x800 && Utf8.valid c then (c, 3) else (Utf8.runeError, 1)
  else if b0 / 8 == 30 && cont l 1 && cont l 2 && cont l 3 then
    let c := (b0 % 8) * 262144 + (at' l 1 % 64) * 4096 + (at' l 2 % 64) * 64 + at' l 3 % 64
    if c ≥ 0x10000 && Utf8.valid c then (c, 4) else (Utf8.runeError, 1)
  else (Utf8.runeError, 1)

theorem get_eq (s : ByteArray) (i k : Nat) : (s.get! (i + k)).toNat = at' (s.data.toList.drop i) k := by
  have h : s.get! (i + k) = (s.data.toList.drop i).getD k 0 := by
    rw [List.getD_eq_getElem?_getD, List.getElem?_drop]
    simp [ByteArray.get!, Array.getElem!_eq_getD]
    rfl
  rw [h]; rfl

theorem cont_eq (s : ByteArray) (i k : Nat) : (decide (i + k < s.size) && ((s.get! (i + k)).toNat / 64 == 2)) = cont (s.data.toList.drop i) k := by
  rw [get_eq, cont]
  congr 1
  have : s.size = s.data.toList.length := by rw [Array.length_toList]; rfl
  rw [Bool.eq_iff_iff]
  simp only [decide_eq_true_iff, List.length_drop]
  omega

theorem decode_eq (s : ByteArray) (i : Nat) : Utf8.decode s i = dec (s.data.toList.drop i) := by
  have c1 := cont_eq s i 1
  have c2 := cont_eq s i 2
  have c3 := cont_eq s i 3
  have g0 := get_eq s i 0
  have g1 := get_eq s i 1
  have g2 := get_eq s i 2
  have g3 := get_eq s i 3
  unfold Utf8.decode dec
  dsimp only
  simp only [c1, c2, c3]
  simp only [g0, g1, g2, g3]

structure Good (c : List UInt8) (r : Nat) : Prop where
  dec : ∀ m, dec (c ++ m) = (r, c.length)
  sz : ∀ m, sz (c ++ m) = c.length
  enc : (Utf8.encode (r : Int)).data.toList = c
  pos : 0 < c.length
  le4 : c.length ≤ 4
  zero : r = 0 ↔ c = [0]
  rle : r ≤ 0x10FFFF
  shape : (∃ a, c = [a] ∧ a.toNat < 128) ∨ ∀ b ∈ c, 128 ≤ b.toNat

theorem u8_ext {a b : UInt8} (h : a.toNat = b.toNat) : a = b := UInt8.toNat_inj.mp h
theorem ofNat_eq (a : UInt8) (n : Nat) (h : n = a.toNat) : UInt8.ofNat n = a := by
  apply u8_ext; rw [h]; simp

theorem valid_of (c : Nat) (h : c < 0xD800 ∨ (0xE000 ≤ c ∧ c ≤ 0x10FFFF)) : Utf8.valid (c : Int) = true := by
  unfold Utf8.valid
  rw [Bool.or_eq_true, Bool.and_eq_true, Bool.and_eq_true, decide_eq_true_iff, decide_eq_true_iff, decide_eq_true_iff, decide_eq_true_iff]
  omega

theorem valid_nat {c : Nat} (h : Utf8.valid (c : Int) = true) : c < 0xD800 ∨ (0xE000 ≤ c ∧ c ≤ 0x10FFFF) := by
  unfold Utf8.valid at h
  rw [Bool.or_eq_true, Bool.and_eq_true, Bool.and_eq_true, decide_eq_true_iff, decide_eq_true_iff, decide_eq_true_iff, decide_eq_true_iff] at h
  omega

theorem enc1 (r : Nat) (c1 : r < 128) : (Utf8.encode (r : Int)).data.toList = [UInt8.ofNat r] := by
  have v := valid_of r (by omega)
  simp [Utf8.encode, v, c1]
theorem enc2 (r : Nat) (c1 : ¬ r < 128) (c2 : r < 2048) : (Utf8.encode (r : Int)).data.toList = [UInt8.ofNat (192 + r / 64), UInt8.ofNat (128 + r % 64)] := by
  have v := valid_of r (by omega)
  simp [Utf8.encode, v, c1, c2]
theorem enc3 (r : Nat) (c2 : ¬ r < 2048) (c3 : r < 65536) (hv : r < 55296 ∨ 57344 ≤ r) : (Utf8.encode (r : Int)).data.toList = [UInt8.ofNat (224 + r / 4096), UInt8.ofNat (128 + r / 64 % 64), UInt8.ofNat (128 + r % 64)] := by
  have v := valid_of r (by omega)
  have c1 : ¬ r < 128 := by omega
  simp [Utf8.encode, v, c1, c2, c3]
theorem enc4 (r : Nat) (c3 : ¬ r < 65536) (c4 : r ≤ 1114111) : (Utf8.encode (r : Int)).data.toList = [UInt8.ofNat (240 + r / 262144), UInt8.ofNat (128 + r / 4096 % 64), UInt8.ofNat (128 + r / 64 % 64), UInt8.ofNat (128 + r % 64)] := by
  have v := valid_of r (by omega)
  have c1 : ¬ r < 128 := by omega
  have c2 : ¬ r < 2048 := by omega
  simp [Utf8.encode, v, c1, c2, c3]

theorem good1 (a : UInt8) (ha : a.toNat < 128) : Good [a] a.toNat where
  dec m := by simp [dec, at', ha]
  sz m := by simp [sz, at', ha]
  enc := by
    rw [enc1 _ ha]
    simp
  pos := by simp
  le4 := by simp
  zero := by
    constructor
    · intro h; congr 1; exact u8_ext h
    · intro h; simp at h; simp [h]
  rle := by omega
  shape := .inl ⟨a, rfl, ha⟩

theorem good2 (a b : UInt8) (ha : 0xc2 ≤ a.toNat) (ha' : a.toNat ≤ 0xdf) (hb : 128 ≤ b.toNat) (hb' : b.toNat ≤ 191) : Good [a, b] ((a.toNat % 32) * 64 + b.toNat % 64) where
  dec m := by
    have h0 : ¬ a.toNat < 128 := by omega
    have h1 : a.toNat / 32 = 6 := by omega
    have h2 : b.toNat / 64 = 2 := by omega
    have h3 : 128 ≤ a.toNat % 32 * 64 + b.toNat % 64 := by omega
    simp [dec, at', cont, h0, h1, h2, h3]
  sz m := by
    have h0 : ¬ a.toNat < 128 := by omega
    simp [sz, at', inn, h0, ha, ha', hb, hb']
  enc := by
    rw [enc2 _ (by omega) (by omega)]
    rw [ofNat_eq a _ (by omega), ofNat_eq b _ (by omega)]
  pos := by simp
  le4 := by simp
  zero := by
    constructor
    · intro h; omega
    · intro h; simp at h
  rle := by omega
  shape := .inr (by intro x hx; simp at hx; rcases hx with rfl | rfl <;> omega)

theorem good3 (a b c : UInt8) (ha : 0xe0 ≤ a.toNat) (ha' : a.toNat ≤ 0xef) (hb : low a.toNat ≤ b.toNat) (hb' : b.toNat ≤ high a.toNat) (hc : 128 ≤ c.toNat) (hc' : c.toNat ≤ 191) : Good [a, b, c] ((a.toNat % 16) * 4096 + (b.toNat % 64) * 64 + c.toNat % 64) := by
  have hL : 128 ≤ b.toNat ∧ b.toNat ≤ 191 ∧ (a.toNat = 0xe0 → 0xa0 ≤ b.toNat) ∧ (a.toNat = 0xed → b.toNat ≤ 0x9f) := by
    unfold low at hb; unfold high at hb'
    split at hb <;> split at hb' <;> (try split at hb) <;> (try split at hb') <;> omega
  obtain ⟨hb1, hb2, hb3, hb4⟩ := hL
  have h0 : ¬ a.toNat < 128 := by omega
  have hlt : a.toNat % 16 * 4096 + b.toNat % 64 * 64 + c.toNat % 64 < 65536 := by omega
  have hge : 0x800 ≤ a.toNat % 16 * 4096 + b.toNat % 64 * 64 + c.toNat % 64 := by omega
  have hv : a.toNat % 16 * 4096 + b.toNat % 64 * 64 + c.toNat % 64 < 0xD800 ∨ 0xE000 ≤ a.toNat % 16 * 4096 + b.toNat % 64 * 64 + c.toNat % 64 := by omega
  have hval : Utf8.valid ((a.toNat % 16 * 4096 + b.toNat % 64 * 64 + c.toNat % 64 : Nat) : Int) = true := valid_of _ (by omega)
  refine ⟨?_, ?_, ?_, by simp, by simp, ?_, by omega, .inr (by intro x hx; simp at hx; rcases hx with rfl | rfl | rfl <;> omega)⟩
  · intro m
    simp only [List.cons_append, List.nil_append]
    have h1 : (a.toNat / 32 == 6) = false := by simp; omega
    have h2 : a.toNat / 16 = 14 := by omega
    have h3 : b.toNat / 64 = 2 := by omega
    have h4 : c.toNat / 64 = 2 := by omega
    have e0 : at' (a :: b :: c :: m) 0 = a.toNat := rfl
    have e1 : at' (a :: b :: c :: m) 1 = b.toNat := rfl
    have e2 : at' (a :: b :: c :: m) 2 = c.toNat := rfl
    have c1 : cont (a :: b :: c :: m) 1 = true := by simp [cont, e1, h3]
    have c2 : cont (a :: b :: c :: m) 2 = true := by simp [cont, e2, h4]
    unfold dec
    simp only [e0, e1, e2, h0, h1, h2, c1, c2, if_false, Bool.false_and, hval]
    simp [hge]
  · intro m
    simp only [List.cons_append, List.nil_append]
    have e0 : at' (a :: b :: c :: m) 0 = a.toNat := rfl
    have i1 : inn (a :: b :: c :: m) 1 128 191 = true := by simp [inn, at', hb1, hb2]
    have i2 : inn (a :: b :: c :: m) 1 (low a.toNat) (high a.toNat) = true := by simp [inn, at', hb, hb']
    have i3 : inn (a :: b :: c :: m) 2 128 191 = true := by simp [inn, at', hc, hc']
    have n1 : ¬ a.toNat ≤ 0xdf := by omega
    unfold sz
    simp [e0, i1, i2, i3, h0, ha, ha', n1]
  · rw [enc3 _ (by omega) (by omega) hv]
    rw [ofNat_eq a _ (by omega), ofNat_eq b _ (by omega), ofNat_eq c _ (by omega)]
  · constructor
    · intro h; omega
    · intro h; simp at h

theorem good4 (a b c d : UInt8) (ha : 0xf0 ≤ a.toNat) (ha' : a.toNat ≤ 0xf4) (hb : low a.toNat ≤ b.toNat) (hb' : b.toNat ≤ high a.toNat) (hc : 128 ≤ c.toNat) (hc' : c.toNat ≤ 191) (hd : 128 ≤ d.toNat) (hd' : d.toNat ≤ 191) :
    Good [a, b, c, d] ((a.toNat % 8) * 262144 + (b.toNat % 64) * 4096 + (c.toNat % 64) * 64 + d.toNat % 64) := by
  have hL : 128 ≤ b.toNat ∧ b.toNat ≤ 191 ∧ (a.toNat = 0xf0 → 0x90 ≤ b.toNat) ∧ (a.toNat = 0xf4 → b.toNat ≤ 0x8f) := by
    unfold low at hb; unfold high at hb'
    split at hb <;> split at hb' <;> (try split at hb) <;> (try split at hb') <;> omega
  obtain ⟨hb1, hb2, hb3, hb4⟩ := hL
  have h0 : ¬ a.toNat < 128 := by omega
  have hlt : a.toNat % 8 * 262144 + b.toNat % 64 * 4096 + c.toNat % 64 * 64 + d.toNat % 64 ≤ 0x10FFFF := by omega
  have hge : 0x10000 ≤ a.toNat % 8 * 262144 + b.toNat % 64 * 4096 + c.toNat % 64 * 64 + d.toNat % 64 := by omega
  have hval : Utf8.valid ((a.toNat % 8 * 262144 + b.toNat % 64 * 4096 + c.toNat % 64 * 64 + d.toNat % 64 : Nat) : Int) = true := valid_of _ (by omega)
  refine ⟨?_, ?_, ?_, by simp, by simp, ?_, by omega, .inr (by intro x hx; simp at hx; rcases hx with rfl | rfl | rfl | rfl <;> omega)⟩
  · intro m
    simp only [List.cons_append, List.nil_append]
    have h1 : (a.toNat / 32 == 6) = false := by simp; omega
    have h1' : (a.toNat / 16 == 14) = false := by simp; omega
    have h2 : a.toNat / 8 = 30 := by omega
    have h3 : b.toNat / 64 = 2 := by omega
    have h4 : c.toNat / 64 = 2 := by omega
    have h5 : d.toNat / 64 = 2 := by omega
    have e0 : at' (a :: b :: c :: d :: m) 0 = a.toNat := rfl
    have e1 : at' (a :: b :: c :: d :: m) 1 = b.toNat := rfl
    have e2 : at' (a :: b :: c :: d :: m) 2 = c.toNat := rfl
    have e3 : at' (a :: b :: c :: d :: m) 3 = d.toNat := rfl
    have c1 : cont (a :: b :: c :: d :: m) 1 = true := by simp [cont, e1, h3]
    have c2 : cont (a :: b :: c :: d :: m) 2 = true := by simp [cont, e2, h4]
    have c3 : cont (a :: b :: c :: d :: m) 3 = true := by simp [cont, e3, h5]
    unfold dec
    simp only [e0, e1, e2, e3, h0, h1, h1', h2, c1, c2, c3, if_false, Bool.false_and, hval]
    simp [hge]
  · intro m
    simp only [List.cons_append, List.nil_append]
    have e0 : at' (a :: b :: c :: d :: m) 0 = a.toNat := rfl
    have i1 : inn (a :: b :: c :: d :: m) 1 128 191 = true := by simp [inn, at', hb1, hb2]
    have i2 : inn (a :: b :: c :: d :: m) 1 (low a.toNat) (high a.toNat) = true := by simp [inn, at', hb, hb']
    have i3 : inn (a :: b :: c :: d :: m) 2 128 191 = true := by simp [inn, at', hc, hc']
    have i4 : inn (a :: b :: c :: d :: m) 3 128 191 = true := by simp [inn, at', hd, hd']
    have n1 : ¬ a.toNat ≤ 0xdf := by omega
    have n2 : ¬ a.toNat ≤ 0xef := by omega
    unfold sz
    simp [e0, i1, i2, i3, i4, h0, ha, ha', n1, n2]
  · rw [enc4 _ (by omega) (by omega)]
    rw [ofNat_eq a _ (by omega), ofNat_eq b _ (by omega), ofNat_eq c _ (by omega), ofNat_eq d _ (by omega)]
  · constructor
    · intro h; omega
    · intro h; simp at h

theorem F_good : Good [0xEF, 0xBF, 0xBD] 0xFFFD := by
  have h := good3 0xEF 0xBF 0xBD (by decide) (by decide) (by decide) (by decide) (by decide) (by decide)
  exact h

/-- What stands at the head: a character, or a wrong byte. -/
theorem step (l : List UInt8) (h : l ≠ []) : (∃ c r t, l = c ++ t ∧ Good c r) ∨ (∃ a t, l = a :: t ∧ dec l = (0xFFFD, 1) ∧ sz l = 0) := by
  obtain ⟨a, t, rfl⟩ := List.exists_cons_of_ne_nil h
  have ha256 := a.toNat_lt
  by_cases h1 : a.toNat < 128
  · exact .inl ⟨[a], _, t, rfl, good1 a h1⟩
  have e0 : at' (a :: t) 0 = a.toNat := rfl
  match t with
  | [] =>
    refine .inr ⟨a, [], rfl, ?_, ?_⟩
    · simp [dec, at', cont, h1, Utf8.runeError]
    · simp [sz, at', inn, h1]
  | b :: t =>
  have e1 : at' (a :: b :: t) 1 = b.toNat := rfl
  have e0 : at' (a :: b :: t) 0 = a.toNat := rfl
  by_cases h2 : (0xc2 ≤ a.toNat ∧ a.toNat ≤ 0xdf) ∧ (128 ≤ b.toNat ∧ b.toNat ≤ 191)
  · exact .inl ⟨[a, b], _, t, rfl, good2 a b h2.1.1 h2.1.2 h2.2.1 h2.2.2⟩
  have i1 : inn (a :: b :: t) 1 128 191 = (decide (128 ≤ b.toNat) && decide (b.toNat ≤ 191)) := by simp [inn, e1]
  have c1 : cont (a :: b :: t) 1 = (b.toNat / 64 == 2) := by simp [cont, e1]
  have i1' : inn (a :: b :: t) 1 (low a.toNat) (high a.toNat) = (decide (low a.toNat ≤ b.toNat) && decide (b.toNat ≤ high a.toNat)) := by simp [inn, e1]
  have n1 : ¬ ((decide (0xc2 ≤ a.toNat) && decide (a.toNat ≤ 0xdf)) && inn (a :: b :: t) 1 128 191) = true := by
    rw [i1]; simp; omega
  have hlo : 128 ≤ low a.toNat := by unfold low; split <;> (try split) <;> omega
  have hhi : high a.toNat ≤ 191 := by unfold high; split <;> (try split) <;> omega
  -- the part of 'dec' of two bytes
  have d2 : (a.toNat / 32 == 6 && cont (a :: b :: t) 1) = true → ¬ (a.toNat % 32) * 64 + b.toNat % 64 ≥ 128 := by
    rw [c1]; simp; omega
  match t with
  | [] =>
    refine .inr ⟨a, [b], rfl, ?_, ?_⟩
    · have c2 : cont [a, b] 2 = false := by simp [cont]
      have c3 : cont [a, b] 3 = false := by simp [cont]
      unfold dec
      simp only [e0, e1, h1, c2, Utf8.runeError, if_false, Bool.and_false, Bool.false_and]
      by_cases hd : (a.toNat / 32 == 6 && cont [a, b] 1) = true
      · rw [if_pos hd, if_neg (d2 hd)]
      · rw [if_neg hd]; simp
    · have i2 : inn [a, b] 2 128 191 = false := by simp [inn]
      unfold sz
      rw [e0, if_neg h1, if_neg n1, i2]; simp
  | c :: t =>
  have e2 : at' (a :: b :: c :: t) 2 = c.toNat := rfl
  have e1 : at' (a :: b :: c :: t) 1 = b.toNat := rfl
  have e0 : at' (a :: b :: c :: t) 0 = a.toNat := rfl
  have i2 : inn (a :: b :: c :: t) 2 128 191 = (decide (128 ≤ c.toNat) && decide (c.toNat ≤ 191)) := by simp [inn, e2]
  have c2 : cont (a :: b :: c :: t) 2 = (c.toNat / 64 == 2) := by simp [cont, e2]
  by_cases h3 : (0xe0 ≤ a.toNat ∧ a.toNat ≤ 0xef) ∧ (low a.toNat ≤ b.toNat ∧ b.toNat ≤ high a.toNat) ∧ (128 ≤ c.toNat ∧ c.toNat ≤ 191)
  · exact .inl ⟨[a, b, c], _, t, rfl, good3 a b c h3.1.1 h3.1.2 h3.2.1.1 h3.2.1.2 h3.2.2.1 h3.2.2.2⟩
  have d3 : (a.toNat / 16 == 14 && cont (a :: b :: c :: t) 1 && cont (a :: b :: c :: t) 2) = true → ¬ (decide ((a.toNat % 16) * 4096 + (b.toNat % 64) * 64 + c.toNat % 64 ≥ 0x800) && Utf8.valid (((a.toNat % 16) * 4096 + (b.toNat % 64) * 64 + c.toNat % 64 : Nat) : Int)) = true := by
    rw [c1, c2]
    simp only [Bool.and_eq_true, beq_iff_eq, decide_eq_true_eq]
    intro ⟨⟨x1, x2⟩, x3⟩ ⟨y1, y2⟩
    have := valid_nat y2
    unfold low high at h3
    by_cases q1 : a.toNat = 0xe0
    · rw [if_pos q1, if_neg (by omega), if_neg (by omega)] at h3; omega
    · by_cases q2 : a.toNat = 0xed
      · rw [if_neg q1, if_neg (by omega), if_pos q2] at h3; omega
      · rw [if_neg q1, if_neg (by omega), if_neg q2, if_neg (by omega)] at h3; omega
  have n3 : ¬ (!inn (a :: b :: c :: t) 1 (low a.toNat) (high a.toNat) || !inn (a :: b :: c :: t) 2 128 191) = true → ¬ (decide (0xe0 ≤ a.toNat) && decide (a.toNat ≤ 0xef)) = true := by
    rw [i1', i2]
    simp only [Bool.or_eq_true, Bool.and_eq_true, Bool.not_eq_true', Bool.and_eq_false_iff, decide_eq_true_eq, decide_eq_false_iff_not]
    omega
  have s3 : (decide (0xf0 ≤ a.toNat) && decide (a.toNat ≤ 0xf4) && inn (a :: b :: c :: t) 3 128 191) = false → sz (a :: b :: c :: t) = 0 := by
    intro q
    unfold sz
    rw [e0, if_neg h1, if_neg n1, q]
    by_cases x : (!inn (a :: b :: c :: t) 1 (low a.toNat) (high a.toNat) || !inn (a :: b :: c :: t) 2 128 191) = true
    · rw [if_pos x]
    · rw [if_neg x, if_neg (n3 x)]; simp
  have dd : ∀ z, (if (a.toNat / 8 == 30 && cont (a :: b :: c :: t) 1 && cont (a :: b :: c :: t) 2 && cont (a :: b :: c :: t) 3) = true then z else (0xFFFD, 1)) = (0xFFFD, 1) →
      (z = (if (decide ((a.toNat % 8) * 262144 + (b.toNat % 64) * 4096 + (c.toNat % 64) * 64 + at' (a :: b :: c :: t) 3 % 64 ≥ 0x10000) && Utf8.valid (((a.toNat % 8) * 262144 + (b.toNat % 64) * 4096 + (c.toNat % 64) * 64 + at' (a :: b :: c :: t) 3 % 64 : Nat) : Int)) = true then ((a.toNat % 8) * 262144 + (b.toNat % 64) * 4096 + (c.toNat % 64) * 64 + at' (a :: b :: c :: t) 3 % 64, 4) else (0xFFFD, 1))) → dec (a :: b :: c :: t) = (0xFFFD, 1) := by
    intro z hz hz'
    unfold dec
    simp only [e0, e1, e2, h1, Utf8.runeError, if_false]
    by_cases hd : (a.toNat / 32 == 6 && cont (a :: b :: c :: t) 1) = true
    · rw [if_pos hd, if_neg (d2 hd)]
    · rw [if_neg hd]
      by_cases hd3 : (a.toNat / 16 == 14 && cont (a :: b :: c :: t) 1 && cont (a :: b :: c :: t) 2) = true
      · rw [if_pos hd3, if_neg (d3 hd3)]
      · rw [if_neg hd3, ← hz', hz]
  match t with
  | [] =>
    have c3 : cont [a, b, c] 3 = false := by simp [cont]
    refine .inr ⟨a, [b, c], rfl, dd _ ?_ rfl, s3 (by simp [inn])⟩
    rw [c3]; simp
  | d :: t =>
  have e3 : at' (a :: b :: c :: d :: t) 3 = d.toNat := rfl
  have i3 : inn (a :: b :: c :: d :: t) 3 128 191 = (decide (128 ≤ d.toNat) && decide (d.toNat ≤ 191)) := by simp [inn, e3]
  have c3 : cont (a :: b :: c :: d :: t) 3 = (d.toNat / 64 == 2) := by simp [cont, e3]
  by_cases h4 : (0xf0 ≤ a.toNat ∧ a.toNat ≤ 0xf4) ∧ (low a.toNat ≤ b.toNat ∧ b.toNat ≤ high a.toNat) ∧ (128 ≤ c.toNat ∧ c.toNat ≤ 191) ∧ (128 ≤ d.toNat ∧ d.toNat ≤ 191)
  · exact .inl ⟨[a, b, c, d], _, t, rfl, good4 a b c d h4.1.1 h4.1.2 h4.2.1.1 h4.2.1.2 h4.2.2.1.1 h4.2.2.1.2 h4.2.2.2.1 h4.2.2.2.2⟩
  refine .inr ⟨a, b :: c :: d :: t, rfl, dd _ ?_ rfl, ?_⟩
  · by_cases hd4 : (a.toNat / 8 == 30 && cont (a :: b :: c :: d :: t) 1 && cont (a :: b :: c :: d :: t) 2 && cont (a :: b :: c :: d :: t) 3) = true
    · rw [if_pos hd4, if_neg ?_]
      rw [c1, c2, c3] at hd4
      rw [e3]
      simp only [Bool.and_eq_true, beq_iff_eq, decide_eq_true_eq] at hd4 ⊢
      obtain ⟨⟨⟨x1, x2⟩, x3⟩, x4⟩ := hd4
      intro ⟨y1, y2⟩
      have := valid_nat y2
      unfold low high at h4
      by_cases q1 : a.toNat = 0xf0
      · rw [if_neg (by omega), if_pos q1, if_neg (by omega), if_neg (by omega)] at h4; omega
      · by_cases q2 : a.toNat = 0xf4
        · rw [if_neg (by omega), if_neg q1, if_neg (by omega), if_pos q2] at h4; omega
        · rw [if_neg (by omega), if_neg q1, if_neg (by omega), if_neg q2] at h4; omega
    · rw [if_neg hd4]
  · by_cases x : (!inn (a :: b :: c :: d :: t) 1 (low a.toNat) (high a.toNat) || !inn (a :: b :: c :: d :: t) 2 128 191) = true
    · unfold sz
      rw [e0, if_neg h1, if_neg n1, if_pos x]
    · apply s3
      rw [i3]
      rw [i1', i2] at x
      simp only [Bool.or_eq_true, Bool.not_eq_true', Bool.and_eq_false_iff, decide_eq_false_iff_not] at x ⊢
      omega

end Go.Proofs.YtdplbcchkjpcdaaGreatDoor.Ch
