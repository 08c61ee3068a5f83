/-
  Walks of stage 6: tag of the reader. Walks of stage 6: markup of the reader. Walks of stage 6: token.In, token.Cut: the tokens are those of TokMath.
  Walks of stage 3: a text decoded by the reference (boltingref03.Decode).
  Walks of stage 3: a text written out (refs.escaped, Text, Value, boltingref03.Write).
  Tokens written out, in plain words. Walks of stage 6: appendAll, appendStart, appendToken: bytes of the call's own. Walks of stage 6: appendStart. Walks of stage 6: appendToken, token.Write.
  What follows for tokens, in plain words: plain text ahead, tags without an end.
  What follows for tokens, in plain words: comments, doctypes, texts as they stand.
  Tokens have no more than twice what the document has.
  Tokens that are written, and cut again: lists of tokens as a document can have them (Good), what they come back as (fin).
  What each token has, in plain words.
  What a list of tokens, written, is cut as; the tokens of any document are such a list.
-/
import Derived.Test.YtgjlfcamgkeibaaGreatDoorCk05
import Derived.Test.YtgjlfcamgkeibaaGreatDoorCk04
import Derived.Test.YtgjlfcamgkeibaaGreatDoorCk03
namespace Go.Proofs.YtgjlfcamgkeibaaGreatDoor.To
set_option maxRecDepth 100000
set_option linter.unusedSimpArgs false
set_option linter.unusedVariables false
open Go.RowKit Ba Fm Fo Tm Nm
open Ro (At acells len_acells below_new Sh Ra acells_one info_attr)
open Re (Tab)
open Rm (dec)
set_option maxRecDepth 100000 in
set_option maxHeartbeats 4000000 in
theorem tag_start (N b k : Nat) (s : ByteArray) (l : List Tw) (w : World) (h : Rg N w b s k l) (hk : k ≤ s.size) (hs : s.size ≤ 1000000000) (hl : l.length ≤ 1000000000) (hT : Tab w) (hN0 : 0 < N) :
    Calls Tryz.prog 176 #[rp b, .int .i64 1] w fun e w' => e = .returned (.tuple #[]) ∧ ∃ m l', m ≤ s.size ∧ (L s).drop m = (startTag ((L s).drop k)).2 ∧ Rg N w' b s m l' ∧ tks l' = tks l ++ (startTag ((L s).drop k)).1 ∧ Below N w w' := by
  have hs' : s.size ≤ 140737488355328 := by omega
  have HT := Lib.hid hT; clear hT
  obtain ⟨V, hr, ho, hN⟩ := h
  have hb0 : 0 < b := by omega
  go_enter Tryz.func176, Tryz.ntmps176
  go_wp2_with fail
  refine (upTo_en b k s V w hr hk hs').mono ?_
  rintro e w1 ⟨rfl, m1, hm1, hd1, h1, hg1⟩
  obtain ⟨g1, B1⟩ := Rg.step hr ho hN hg1 h1
  have B1' := B1 _ (Below.refl N w)
  have hsz : (B (upTo en ((L s).drop k))).size ≤ s.size := by
    rw [size_B]
    have := len_lead (by1 en) ((L s).drop k)
    rw [List.length_drop, size_L] at this
    show (lead (by1 en) _).length ≤ _
    omega
  have hsz' : (B (upTo en ((L s).drop k))).size ≤ 140737488355328 := by omega
  clear hr ho hg1 h1 B1
  go_wp2_with fail
  refine (lower_any _ w1 hsz').mono ?_
  rintro e w2 ⟨rfl, hb2⟩
  rw [L_B]
  obtain ⟨nm, hnm⟩ : ∃ nm, B (lowL (upTo en ((L s).drop k))) = nm := ⟨_, rfl⟩
  rw [hnm]
  have hnl : lowL (upTo en ((L s).drop k)) = L nm := by rw [← hnm, L_B]
  have hns : nm.size ≤ 140737488351232 := by
    rw [← hnm, size_B, len_lowL]
    rw [size_B] at hsz
    omega
  obtain ⟨g2, B2⟩ := g1.below hb2
  have B3 := B1'.trans B2
  have hT2 := tab_below HT.out B3 hN0
  obtain ⟨V2, hr2, ho2, _⟩ := g2
  clear g1 B1' B2 hb2 hsz hsz' hnm
  go_wp2_with fail
  refine (attrs_any b m1 s V2 w2 hr2 hm1 hs hT2 hb0).mono ?_
  rintro e w3 ⟨va, sf, en_, m, la, rfl, hown, hm, hla, h3, hg3, heq, hen⟩
  rw [hd1] at heq
  obtain ⟨g3, B4⟩ := Rg.step hr2 ho2 hN hg3 h3
  have B5 := B4 _ B3
  have hNw : N ≤ w2.heap.size := by have := hr2.lt; omega
  clear B4 B3 hr2 ho2 hg3 h3 hd1 hT2
  cases en_ with
  | false =>
    rw [if_neg (by simp)] at heq
    have hst := start_no heq
    have HS := Lib.hid hst; have HE := Lib.hid (hen rfl); clear hst heq hen hown hnl
    go_wp2
    first | go_end0 | refine bodyPost_ret (results_none rfl _ _ _) rfl ?_
    refine ⟨rfl, m, l, hm, ?_, g3, ?_, B5⟩
    · rw [HS.out.1, HE.out, drop_nil s s.size (by omega)]
    · rw [HS.out.1, List.append_nil]
  | true =>
    rw [if_pos rfl] at heq
    have hst := start_yes heq
    obtain ⟨A, c, rfl⟩ := hown.form
    obtain ⟨V3, hr3, ho3, _⟩ := g3
    have c2 := hr3.c2; have f2 := hr3.f 2
    have hZ : N ≤ w3.heap.size := by have := hr3.lt; omega
    have hl2 : l.length ≤ 4000000000 := by omega
    have hfr : Fr N w3 ⟨⟨1, nm, ⟨#[]⟩, la, sf⟩, A, c⟩ := (hown.mono hNw).fr _ _ _ _
    have HS := Lib.hid hst; have HR := Lib.hid hr3; have HO := Lib.hid ho3; have HF := Lib.hid hfr; have HN := Lib.hid hnl; have HB := Lib.hid B5; clear hst heq hen hown hnl hr3 ho3 hfr B5
    go_wp2_with (at_builtin; refine app_tok2 w3 rfl (.tmp 21) (.tmp 27) rfl N V3 l ⟨⟨1, nm, ⟨#[]⟩, la, sf⟩, A, c⟩ rfl HO.out.ow HF.out.att HF.out.ap w3.heap.size rfl rfl hl2 hZ ?_; intro v4 w4 how hk hf hg; obtain ⟨A4, cc4, rfl⟩ := form1 how; have hrc4 := rc_over HR.out HO.out hg; have c4 := hrc4.c2; have f4 := hrc4.f 2; have HK := Lib.hid hk; have HFF := Lib.hid hf; have HG := Lib.hid hg; have HOW := Lib.hid how; clear hk hf hg how hrc4 c2 f2)
    obtain ⟨r1, r2⟩ := Rg.add HR.out HO.out hN HF.out HOW.out HK.out HFF.out HG.out
    have B6 := r2 _ HB.out
    have hT4 := tab_below HT.out B6 hN0
    have HS2 := HS.out.1
    rw [HN.out] at HS2
    have HS3 := Lib.hid HS2
    clear HS2 r2
    refine (contents_any N b m s nm _ _ r1 hm hs hns (by rw [List.length_append]; exact Nat.le_trans (Nat.add_le_add_right hl 1) (by decide)) hT4 hN0).mono ?_
    rintro e w5 ⟨rfl, m5, l5, hm5, hd5, g5, ht5, B7⟩
    go_wp2
    go_end0
    refine ⟨rfl, m5, l5, hm5, ?_, g5, ?_, B6.trans B7⟩
    · rw [HS3.out]; exact hd5
    · rw [HS3.out, ht5, tks_append, List.append_assoc]
      show _ ++ (_ :: _) = _ ++ (_ :: _)
      congr 1

set_option maxRecDepth 100000 in
set_option maxHeartbeats 4000000 in
theorem tag_end (N b k : Nat) (s : ByteArray) (l : List Tw) (w : World) (h : Rg N w b s k l) (hk : k ≤ s.size) (hs : s.size ≤ 1000000000) (hl : l.length ≤ 1000000000) (hT : Tab w) (hN0 : 0 < N) :
    Calls Tryz.prog 176 #[rp b, .int .i64 2] w fun e w' => e = .returned (.tuple #[]) ∧ ∃ m l', m ≤ s.size ∧ (L s).drop m = (endTag ((L s).drop k)).2 ∧ Rg N w' b s m l' ∧ tks l' = tks l ++ (endTag ((L s).drop k)).1 ∧ Below N w w' := by
  have hs' : s.size ≤ 140737488355328 := by omega
  have HT := Lib.hid hT; clear hT
  obtain ⟨V, hr, ho, hN⟩ := h
  have hb0 : 0 < b := by omega
  go_enter Tryz.func176, Tryz.ntmps176
  go_wp2_with fail
  refine (upTo_en b k s V w hr hk hs').mono ?_
  rintro e w1 ⟨rfl, m1, hm1, hd1, h1, hg1⟩
  obtain ⟨g1, B1⟩ := Rg.step hr ho hN hg1 h1
  have B1' := B1 _ (Below.refl N w)
  have hsz : (B (upTo en ((L s).drop k))).size ≤ s.size := by
    rw [size_B]
    have := len_lead (by1 en) ((L s).drop k)
    rw [List.length_drop, size_L] at this
    show (lead (by1 en) _).length ≤ _
    omega
  have hsz' : (B (upTo en ((L s).drop k))).size ≤ 140737488355328 := by omega
  clear hr ho hg1 h1 B1
  go_wp2_with fail
  refine (lower_any _ w1 hsz').mono ?_
  rintro e w2 ⟨rfl, hb2⟩
  rw [L_B]
  obtain ⟨nm, hnm⟩ : ∃ nm, B (lowL (upTo en ((L s).drop k))) = nm := ⟨_, rfl⟩
  rw [hnm]
  have hnl : lowL (upTo en ((L s).drop k)) = L nm := by rw [← hnm, L_B]
  have hns : nm.size ≤ 140737488351232 := by
    rw [← hnm, size_B, len_lowL]
    rw [size_B] at hsz
    omega
  obtain ⟨g2, B2⟩ := g1.below hb2
  have B3 := B1'.trans B2
  have hT2 := tab_below HT.out B3 hN0
  obtain ⟨V2, hr2, ho2, _⟩ := g2
  clear g1 B1' B2 hb2 hsz hsz' hnm
  go_wp2_with fail
  refine (attrs_any b m1 s V2 w2 hr2 hm1 hs hT2 hb0).mono ?_
  rintro e w3 ⟨va, sf, en_, m, la, rfl, hown, hm, hla, h3, hg3, heq, hen⟩
  rw [hd1] at heq
  obtain ⟨g3, B4⟩ := Rg.step hr2 ho2 hN hg3 h3
  have B5 := B4 _ B3
  have hNw : N ≤ w2.heap.size := by have := hr2.lt; omega
  clear B4 B3 hr2 ho2 hg3 h3 hd1 hT2
  cases en_ with
  | false =>
    rw [if_neg (by simp)] at heq
    have hst := start_no heq
    have HS := Lib.hid hst; have HE := Lib.hid (hen rfl); clear hst heq hen hown hnl
    go_wp2
    first | go_end0 | refine bodyPost_ret (results_none rfl _ _ _) rfl ?_
    refine ⟨rfl, m, l, hm, ?_, g3, ?_, B5⟩
    · rw [HS.out.2, HE.out, drop_nil s s.size (by omega)]
    · rw [HS.out.2, List.append_nil]
  | true =>
    rw [if_pos rfl] at heq
    have hst := start_yes heq
    obtain ⟨A, c, rfl⟩ := hown.form
    obtain ⟨V3, hr3, ho3, _⟩ := g3
    have c2 := hr3.c2; have f2 := hr3.f 2
    have hZ : N ≤ w3.heap.size := by have := hr3.lt; omega
    have hl2 : l.length ≤ 4000000000 := by omega
    have hfr : Fr N w3 ⟨⟨2, nm, ⟨#[]⟩, [], false⟩, none, 0⟩ := fr_none N w3 _ rfl
    have HS := Lib.hid hst; have HR := Lib.hid hr3; have HO := Lib.hid ho3; have HF := Lib.hid hfr; have HN := Lib.hid hnl; have HB := Lib.hid B5; clear hst heq hen hown hnl hr3 ho3 hfr B5
    go_wp2_with (at_builtin; refine app_tok2 w3 rfl (.tmp 44) (.tmp 48) rfl N V3 l ⟨⟨2, nm, ⟨#[]⟩, [], false⟩, none, 0⟩ rfl HO.out.ow HF.out.att HF.out.ap w3.heap.size rfl rfl hl2 hZ ?_; intro v4 w4 how hk hf hg; obtain ⟨A4, cc4, rfl⟩ := form1 how; have hrc4 := rc_over HR.out HO.out hg; have c4 := hrc4.c2; have f4 := hrc4.f 2; have HK := Lib.hid hk; have HFF := Lib.hid hf; have HG := Lib.hid hg; have HOW := Lib.hid how; clear hk hf hg how hrc4 c2 f2)
    go_end0
    obtain ⟨r1, r2⟩ := Rg.add HR.out HO.out hN HF.out HOW.out HK.out HFF.out HG.out
    have B6 := r2 _ HB.out
    have HS2 := HS.out.2
    rw [HN.out] at HS2
    refine ⟨rfl, m, _, hm, ?_, r1, ?_, B6⟩
    · rw [HS2]
    · rw [HS2, tks_append]
      show _ = _ ++ [(⟨2, B (L nm), B [], [], false⟩ : Tk)]
      rw [B_L]
      rfl

end Go.Proofs.YtgjlfcamgkeibaaGreatDoor.To

namespace Go.Proofs.YtgjlfcamgkeibaaGreatDoor.To
set_option maxRecDepth 100000
set_option linter.unusedSimpArgs false
set_option linter.unusedVariables false
open Go.RowKit Ba Fm Fo Tm Nm
open Ro (At acells len_acells below_new Sh Ra acells_one info_attr)
open Re (Tab)
open Rm (dec)
theorem marked_ge (r : List UInt8) : 4 ≤ marked r ∧ (marked r = 4 → 2 ≤ r.length) ∧ (marked r = 5 → 7 ≤ r.length) := by
  unfold marked
  split
  · rename_i h
    have := pre_len h
    exact ⟨by decide, fun _ => this, fun e => absurd e (by decide)⟩
  · split
    · rename_i h
      have := congrArg List.length h.1
      rw [len_lowL, List.length_take] at this
      simp at this
      exact ⟨by decide, fun e => absurd e (by decide), fun _ => by omega⟩
    · exact ⟨by decide, fun e => absurd e (by decide), fun e => absurd e (by decide)⟩
theorem slashed_cases (r : List UInt8) : slashed r = 0 ∨ (1 ≤ r.length ∧ (slashed r = 2 ∨ slashed r = 3 ∨ slashed r = 6)) := by
  cases r with
  | nil => exact .inl rfl
  | cons d r =>
    refine .inr ⟨by simp, ?_⟩
    show (if lr d = true then 2 else if d = 62 then 3 else 6) = 2 ∨ (if lr d = true then 2 else if d = 62 then 3 else 6) = 3 ∨ (if lr d = true then 2 else if d = 62 then 3 else 6) = 6
    split
    · simp
    · split <;> simp
theorem begun_len (l : List UInt8) : (Tm.begun l = 1 → 2 ≤ l.length) ∧ (Tm.begun l = 2 → 3 ≤ l.length) ∧ (Tm.begun l = 3 → 3 ≤ l.length) ∧ (Tm.begun l = 4 → 4 ≤ l.length) ∧ (Tm.begun l = 5 → 9 ≤ l.length) ∧ (Tm.begun l = 6 → 2 ≤ l.length) := by
  match l with
  | [] => simp [Tm.begun]
  | [a] =>
    have : Tm.begun [a] = 0 := by show (if a = 60 then 0 else 0) = 0; split <;> rfl
    rw [this]
    simp
  | a :: c :: r =>
    have hm := marked_ge r
    have hs := slashed_cases r
    rw [begun_two]
    simp only [List.length_cons]
    split
    · split
      · simp
      · split
        · rcases hs with h | ⟨h, h2 | h2 | h2⟩ <;> simp [*]
        · split
          · refine ⟨fun h => by omega, fun h => by omega, fun h => by omega, fun h => by have := hm.2.1 h; omega, fun h => by have := hm.2.2 h; omega, fun _ => by omega⟩
          · split <;> simp
    · simp
theorem mk_1 {l : List UInt8} (h : Tm.begun l = 1) : mk l = startTag (l.drop 1) := by unfold mk; rw [if_pos h]
theorem mk_2 {l : List UInt8} (h : Tm.begun l = 2) : mk l = endTag (l.drop 2) := by unfold mk; rw [if_neg (by rw [h]; decide), if_pos h]
theorem mk_3 {l : List UInt8} (h : Tm.begun l = 3) : mk l = ([], l.drop 3) := by unfold mk; rw [if_neg (by rw [h]; decide), if_neg (by rw [h]; decide), if_pos h]
theorem mk_4 {l : List UInt8} (h : Tm.begun l = 4) : mk l = ([⟨3, B [], B (comm (l.drop 4)).1, [], false⟩], (comm (l.drop 4)).2) := by unfold mk; rw [if_neg (by rw [h]; decide), if_neg (by rw [h]; decide), if_neg (by rw [h]; decide), if_pos h]
theorem mk_5 {l : List UInt8} (h : Tm.begun l = 5) : mk l = ([⟨4, B [], B (trimL (closed (l.drop 9)).1), [], false⟩], (closed (l.drop 9)).2) := by unfold mk; rw [if_neg (by rw [h]; decide), if_neg (by rw [h]; decide), if_neg (by rw [h]; decide), if_neg (by rw [h]; decide), if_pos h]
theorem mk_6 {l : List UInt8} (h : Tm.begun l = 6) : mk l = ([⟨3, B [], B (closed (marks (l.drop 1))).1, [], false⟩], (closed (marks (l.drop 1))).2) := by unfold mk; rw [if_neg (by rw [h]; decide), if_neg (by rw [h]; decide), if_neg (by rw [h]; decide), if_neg (by rw [h]; decide), if_neg (by rw [h]; decide), if_pos h]
theorem mk_0 {l : List UInt8} (h1 : Tm.begun l ≠ 1) (h2 : Tm.begun l ≠ 2) (h3 : Tm.begun l ≠ 3) (h4 : Tm.begun l ≠ 4) (h5 : Tm.begun l ≠ 5) (h6 : Tm.begun l ≠ 6) : mk l = ([], l) := by unfold mk; rw [if_neg h1, if_neg h2, if_neg h3, if_neg h4, if_neg h5, if_neg h6]
theorem mk_len {l : List UInt8} : (mk l).1.length ≤ 2 := by
  have hc : ∀ n r, (cont n r).1.length ≤ 1 := fun n r => by
    unfold cont
    split
    · exact len_txt _
    · split
      · exact len_txt _
      · simp
  unfold mk
  split
  · unfold startTag
    split
    · simp
    · have := hc (lowL (upTo en (l.drop 1)))
      simp only [List.length_cons]
      have := this (by assumption)
      omega
  · split
    · unfold endTag
      split <;> simp
    · split
      · simp
      · split
        · simp
        · split
          · simp
          · split <;> simp
theorem trim1 (s : ByteArray) (w : World) (l : List UInt8) (hs : s.size ≤ 140737488351232) (hl : L s = l) : Calls Tryz.prog 179 #[.string s] w fun e w' => e = .returned (.string (B (trimL l))) ∧ w = w' := by
  subst hl
  exact trim_any s w (by omega)

set_option maxRecDepth 100000 in
set_option maxHeartbeats 4000000 in
theorem markup_1 (N b k : Nat) (s : ByteArray) (l : List Tw) (w : World) (h : Rg N w b s k l) (hk : k ≤ s.size) (hs : s.size ≤ 1000000000) (hl : l.length ≤ 1000000000) (hT : Tab w) (hN0 : 0 < N) (hb : Tm.begun ((L s).drop k) = 1) :
    Calls Tryz.prog 123 #[rp b] w fun e w' => e = .returned (.tuple #[]) ∧ ∃ m l', m ≤ s.size ∧ (L s).drop m = (mk ((L s).drop k)).2 ∧ Rg N w' b s m l' ∧ tks l' = tks l ++ (mk ((L s).drop k)).1 ∧ Below N w w' := by
  have hs' : s.size ≤ 140737488351232 := by omega
  have hs2 : s.size ≤ 140737488355328 := by omega
  have hl2 : l.length ≤ 4000000000 := by omega
  obtain ⟨V, hr, ho, hN⟩ := h
  have hx : (s.extract k s.size).size ≤ 140737488355328 := Nat.le_trans (size_extract _ _ _) (by omega)
  have hxl := L_end s k
  have i0 : (0 : Int) ≤ (k : Int) := by omega
  have i1 : (k : Int) ≤ (s.size : Int) := by omega
  have c0 := hr.c0; have c1 := hr.c1
  have hlen := (begun_len ((L s).drop k)).1 hb
  rw [List.length_drop, size_L] at hlen
  have hkc : k + 1 ≤ s.size := by omega
  have hmk := mk_1 hb
  rw [List.drop_drop] at hmk
  rw [hmk]
  have HX := Lib.hid hxl; have HR := Lib.hid hr; have HO := Lib.hid ho; have HT := Lib.hid hT; have HB := Lib.hid hb; clear hxl hr ho hT hb hmk hlen
  go_enter Tryz.func123, Tryz.ntmps123
  go_wp2
  go_still_tail 9, (by kernel_rfl)
  change wpList _ _ _ _ _ w.drew
  go_wp2_with fail
  refine (begun1 _ w.drew _ 1 hx HX.out HB.out).mono ?_
  rintro e w1 ⟨rfl, hb1⟩
  have hb1' := box_next w w1 hb1
  have hr1 := HR.out.below hb1'
  have ho1 := HO.out.below hb1'
  have B1 : Below N w w1 := hb1'.mono (by have := HR.out.lt; omega)
  clear c0 c1 hb1 hb1'
  have c1 := hr1.c1; have f1 := hr1.f 1
  have HR1 := Lib.hid hr1; have HO1 := Lib.hid ho1; have HB1 := Lib.hid B1; clear hr1 ho1 B1
  go_wp2_with fail
  have h2 := HR1.out.set1 (k + 1)
  obtain ⟨g2, B2⟩ := Rg.step HR1.out HO1.out hN (g_set _ b 1 _) h2
  have B3 := B2 _ HB1.out
  have hT3 := tab_below HT.out B3 hN0
  clear B2 c1 f1
  refine (tag_start N b (k + 1) s l _ g2 hkc hs hl hT3 hN0).mono ?_
  rintro e w3 ⟨rfl, m, l', hm, hd, g3, ht, B4⟩
  go_wp2
  go_end0
  exact ⟨rfl, m, l', hm, hd, g3, ht, B3.trans B4⟩

set_option maxRecDepth 100000 in
set_option maxHeartbeats 4000000 in
theorem markup_2 (N b k : Nat) (s : ByteArray) (l : List Tw) (w : World) (h : Rg N w b s k l) (hk : k ≤ s.size) (hs : s.size ≤ 1000000000) (hl : l.length ≤ 1000000000) (hT : Tab w) (hN0 : 0 < N) (hb : Tm.begun ((L s).drop k) = 2) :
    Calls Tryz.prog 123 #[rp b] w fun e w' => e = .returned (.tuple #[]) ∧ ∃ m l', m ≤ s.size ∧ (L s).drop m = (mk ((L s).drop k)).2 ∧ Rg N w' b s m l' ∧ tks l' = tks l ++ (mk ((L s).drop k)).1 ∧ Below N w w' := by
  have hs' : s.size ≤ 140737488351232 := by omega
  have hs2 : s.size ≤ 140737488355328 := by omega
  have hl2 : l.length ≤ 4000000000 := by omega
  obtain ⟨V, hr, ho, hN⟩ := h
  have hx : (s.extract k s.size).size ≤ 140737488355328 := Nat.le_trans (size_extract _ _ _) (by omega)
  have hxl := L_end s k
  have i0 : (0 : Int) ≤ (k : Int) := by omega
  have i1 : (k : Int) ≤ (s.size : Int) := by omega
  have c0 := hr.c0; have c1 := hr.c1
  have hlen := (begun_len ((L s).drop k)).2.1 hb
  rw [List.length_drop, size_L] at hlen
  have hkc : k + 2 ≤ s.size := by omega
  have hmk := mk_2 hb
  rw [List.drop_drop] at hmk
  rw [hmk]
  have HX := Lib.hid hxl; have HR := Lib.hid hr; have HO := Lib.hid ho; have HT := Lib.hid hT; have HB := Lib.hid hb; clear hxl hr ho hT hb hmk hlen
  go_enter Tryz.func123, Tryz.ntmps123
  go_wp2
  go_still_tail 9, (by kernel_rfl)
  change wpList _ _ _ _ _ w.drew
  go_wp2_with fail
  refine (begun1 _ w.drew _ 2 hx HX.out HB.out).mono ?_
  rintro e w1 ⟨rfl, hb1⟩
  have hb1' := box_next w w1 hb1
  have hr1 := HR.out.below hb1'
  have ho1 := HO.out.below hb1'
  have B1 : Below N w w1 := hb1'.mono (by have := HR.out.lt; omega)
  clear c0 c1 hb1 hb1'
  have c1 := hr1.c1; have f1 := hr1.f 1
  have HR1 := Lib.hid hr1; have HO1 := Lib.hid ho1; have HB1 := Lib.hid B1; clear hr1 ho1 B1
  go_wp2_with fail
  have h2 := HR1.out.set1 (k + 2)
  obtain ⟨g2, B2⟩ := Rg.step HR1.out HO1.out hN (g_set _ b 1 _) h2
  have B3 := B2 _ HB1.out
  have hT3 := tab_below HT.out B3 hN0
  clear B2 c1 f1
  refine (tag_end N b (k + 2) s l _ g2 hkc hs hl hT3 hN0).mono ?_
  rintro e w3 ⟨rfl, m, l', hm, hd, g3, ht, B4⟩
  go_wp2
  go_end0
  exact ⟨rfl, m, l', hm, hd, g3, ht, B3.trans B4⟩

set_option maxRecDepth 100000 in
set_option maxHeartbeats 4000000 in
theorem markup_3 (N b k : Nat) (s : ByteArray) (l : List Tw) (w : World) (h : Rg N w b s k l) (hk : k ≤ s.size) (hs : s.size ≤ 1000000000) (hl : l.length ≤ 1000000000) (hT : Tab w) (hN0 : 0 < N) (hb : Tm.begun ((L s).drop k) = 3) :
    Calls Tryz.prog 123 #[rp b] w fun e w' => e = .returned (.tuple #[]) ∧ ∃ m l', m ≤ s.size ∧ (L s).drop m = (mk ((L s).drop k)).2 ∧ Rg N w' b s m l' ∧ tks l' = tks l ++ (mk ((L s).drop k)).1 ∧ Below N w w' := by
  have hs' : s.size ≤ 140737488351232 := by omega
  have hs2 : s.size ≤ 140737488355328 := by omega
  have hl2 : l.length ≤ 4000000000 := by omega
  obtain ⟨V, hr, ho, hN⟩ := h
  have hx : (s.extract k s.size).size ≤ 140737488355328 := Nat.le_trans (size_extract _ _ _) (by omega)
  have hxl := L_end s k
  have i0 : (0 : Int) ≤ (k : Int) := by omega
  have i1 : (k : Int) ≤ (s.size : Int) := by omega
  have c0 := hr.c0; have c1 := hr.c1
  have hlen := (begun_len ((L s).drop k)).2.2.1 hb
  rw [List.length_drop, size_L] at hlen
  have hkc : k + 3 ≤ s.size := by omega
  have hmk := mk_3 hb
  rw [List.drop_drop] at hmk
  rw [hmk]
  have HX := Lib.hid hxl; have HR := Lib.hid hr; have HO := Lib.hid ho; have HT := Lib.hid hT; have HB := Lib.hid hb; clear hxl hr ho hT hb hmk hlen
  go_enter Tryz.func123, Tryz.ntmps123
  go_wp2
  go_still_tail 9, (by kernel_rfl)
  change wpList _ _ _ _ _ w.drew
  go_wp2_with fail
  refine (begun1 _ w.drew _ 3 hx HX.out HB.out).mono ?_
  rintro e w1 ⟨rfl, hb1⟩
  have hb1' := box_next w w1 hb1
  have hr1 := HR.out.below hb1'
  have ho1 := HO.out.below hb1'
  have B1 : Below N w w1 := hb1'.mono (by have := HR.out.lt; omega)
  clear c0 c1 hb1 hb1'
  have c1 := hr1.c1; have f1 := hr1.f 1
  have HR1 := Lib.hid hr1; have HO1 := Lib.hid ho1; have HB1 := Lib.hid B1; clear hr1 ho1 B1
  go_wp2
  go_end0
  have h2 := HR1.out.set1 (k + 3)
  obtain ⟨g2, B2⟩ := Rg.step HR1.out HO1.out hN (g_set _ b 1 _) h2
  have B3 := B2 _ HB1.out
  have hT3 := tab_below HT.out B3 hN0
  clear B2 c1 f1
  exact ⟨rfl, k + 3, l, hkc, rfl, g2, (List.append_nil _).symm, B3⟩

set_option maxRecDepth 100000 in
set_option maxHeartbeats 4000000 in
theorem markup_4 (N b k : Nat) (s : ByteArray) (l : List Tw) (w : World) (h : Rg N w b s k l) (hk : k ≤ s.size) (hs : s.size ≤ 1000000000) (hl : l.length ≤ 1000000000) (hT : Tab w) (hN0 : 0 < N) (hb : Tm.begun ((L s).drop k) = 4) :
    Calls Tryz.prog 123 #[rp b] w fun e w' => e = .returned (.tuple #[]) ∧ ∃ m l', m ≤ s.size ∧ (L s).drop m = (mk ((L s).drop k)).2 ∧ Rg N w' b s m l' ∧ tks l' = tks l ++ (mk ((L s).drop k)).1 ∧ Below N w w' := by
  have hs' : s.size ≤ 140737488351232 := by omega
  have hs2 : s.size ≤ 140737488355328 := by omega
  have hl2 : l.length ≤ 4000000000 := by omega
  obtain ⟨V, hr, ho, hN⟩ := h
  have hx : (s.extract k s.size).size ≤ 140737488355328 := Nat.le_trans (size_extract _ _ _) (by omega)
  have hxl := L_end s k
  have i0 : (0 : Int) ≤ (k : Int) := by omega
  have i1 : (k : Int) ≤ (s.size : Int) := by omega
  have c0 := hr.c0; have c1 := hr.c1
  have hlen := (begun_len ((L s).drop k)).2.2.2.1 hb
  rw [List.length_drop, size_L] at hlen
  have hkc : k + 4 ≤ s.size := by omega
  have hmk := mk_4 hb
  rw [List.drop_drop] at hmk
  rw [hmk]
  have HX := Lib.hid hxl; have HR := Lib.hid hr; have HO := Lib.hid ho; have HT := Lib.hid hT; have HB := Lib.hid hb; clear hxl hr ho hT hb hmk hlen
  go_enter Tryz.func123, Tryz.ntmps123
  go_wp2
  go_still_tail 9, (by kernel_rfl)
  change wpList _ _ _ _ _ w.drew
  go_wp2_with fail
  refine (begun1 _ w.drew _ 4 hx HX.out HB.out).mono ?_
  rintro e w1 ⟨rfl, hb1⟩
  have hb1' := box_next w w1 hb1
  have hr1 := HR.out.below hb1'
  have ho1 := HO.out.below hb1'
  have B1 : Below N w w1 := hb1'.mono (by have := HR.out.lt; omega)
  clear c0 c1 hb1 hb1'
  have c1 := hr1.c1; have f1 := hr1.f 1
  have HR1 := Lib.hid hr1; have HO1 := Lib.hid ho1; have HB1 := Lib.hid B1; clear hr1 ho1 B1
  go_wp2_with fail
  have h2 := HR1.out.set1 (k + 4)
  obtain ⟨g2, B2⟩ := Rg.step HR1.out HO1.out hN (g_set _ b 1 _) h2
  have B3 := B2 _ HB1.out
  have hT3 := tab_below HT.out B3 hN0
  clear B2 c1 f1
  refine (comment_any N b (k + 4) s l _ g2 hkc hs' hl2).mono ?_
  rintro e w3 ⟨rfl, m, l', hm, hd, g3, ht, B4⟩
  go_wp2
  go_end0
  exact ⟨rfl, m, l', hm, hd, g3, ht, B3.trans B4⟩

set_option maxRecDepth 100000 in
set_option maxHeartbeats 4000000 in
theorem markup_5 (N b k : Nat) (s : ByteArray) (l : List Tw) (w : World) (h : Rg N w b s k l) (hk : k ≤ s.size) (hs : s.size ≤ 1000000000) (hl : l.length ≤ 1000000000) (hT : Tab w) (hN0 : 0 < N) (hb : Tm.begun ((L s).drop k) = 5) :
    Calls Tryz.prog 123 #[rp b] w fun e w' => e = .returned (.tuple #[]) ∧ ∃ m l', m ≤ s.size ∧ (L s).drop m = (mk ((L s).drop k)).2 ∧ Rg N w' b s m l' ∧ tks l' = tks l ++ (mk ((L s).drop k)).1 ∧ Below N w w' := by
  have hs' : s.size ≤ 140737488351232 := by omega
  have hs2 : s.size ≤ 140737488355328 := by omega
  have hl2 : l.length ≤ 4000000000 := by omega
  obtain ⟨V, hr, ho, hN⟩ := h
  have hx : (s.extract k s.size).size ≤ 140737488355328 := Nat.le_trans (size_extract _ _ _) (by omega)
  have hxl := L_end s k
  have i0 : (0 : Int) ≤ (k : Int) := by omega
  have i1 : (k : Int) ≤ (s.size : Int) := by omega
  have c0 := hr.c0; have c1 := hr.c1
  have hlen := (begun_len ((L s).drop k)).2.2.2.2.1 hb
  rw [List.length_drop, size_L] at hlen
  have hkc : k + 9 ≤ s.size := by omega
  have hmk := mk_5 hb
  rw [List.drop_drop] at hmk
  rw [hmk]
  have HX := Lib.hid hxl; have HR := Lib.hid hr; have HO := Lib.hid ho; have HT := Lib.hid hT; have HB := Lib.hid hb; clear hxl hr ho hT hb hmk hlen
  go_enter Tryz.func123, Tryz.ntmps123
  go_wp2
  go_still_tail 9, (by kernel_rfl)
  change wpList _ _ _ _ _ w.drew
  go_wp2_with fail
  refine (begun1 _ w.drew _ 5 hx HX.out HB.out).mono ?_
  rintro e w1 ⟨rfl, hb1⟩
  have hb1' := box_next w w1 hb1
  have hr1 := HR.out.below hb1'
  have ho1 := HO.out.below hb1'
  have B1 : Below N w w1 := hb1'.mono (by have := HR.out.lt; omega)
  clear c0 c1 hb1 hb1'
  have c1 := hr1.c1; have f1 := hr1.f 1
  have HR1 := Lib.hid hr1; have HO1 := Lib.hid ho1; have HB1 := Lib.hid B1; clear hr1 ho1 B1
  go_wp2_with fail
  have h2 := HR1.out.set1 (k + 9)
  obtain ⟨g2, B2⟩ := Rg.step HR1.out HO1.out hN (g_set _ b 1 _) h2
  have B3 := B2 _ HB1.out
  have hT3 := tab_below HT.out B3 hN0
  clear B2 c1 f1
  obtain ⟨V2, hr2, ho2, _⟩ := g2
  refine (upTo_gt b (k + 9) s V2 _ hr2 hkc hs2).mono ?_
  rintro e w3 ⟨rfl, m, hm, hd, h3, hg3⟩
  obtain ⟨g3, B4⟩ := Rg.step hr2 ho2 hN hg3 h3
  have B5 := B4 _ B3
  have hsz : (B (upTo gt ((L s).drop (k + 9)))).size ≤ 140737488351232 := by
    rw [size_B]
    have := len_lead (by1 gt) ((L s).drop (k + 9))
    rw [List.length_drop, size_L] at this
    show (lead (by1 gt) _).length ≤ _
    omega
  clear B4 B3 hg3 hr2 ho2 h3
  go_wp2_with fail
  refine (trim1 _ w3 _ hsz (L_B _)).mono ?_
  rintro e w4 ⟨rfl, rfl⟩
  go_wp2_with fail
  refine (addClosed_any N b m 4 s _ l w3 g3 hm hs' hl2).mono ?_
  rintro e w5 ⟨rfl, m5, l', hm5, hd5, g5, ht, B6⟩
  go_wp2
  go_end0
  refine ⟨rfl, m5, l', hm5, ?_, g5, ht, B5.trans B6⟩
  rw [hd5, hd]
  exact past_gt _

set_option maxRecDepth 100000 in
set_option maxHeartbeats 4000000 in
theorem markup_6a (N b k : Nat) (s : ByteArray) (l : List Tw) (w : World) (h : Rg N w b s k l) (hk : k ≤ s.size) (hs : s.size ≤ 1000000000) (hl : l.length ≤ 1000000000) (hT : Tab w) (hN0 : 0 < N) (hb : Tm.begun ((L s).drop k) = 6) (h33 : hd 33 ((L s).drop (k + 1)) = true) :
    Calls Tryz.prog 123 #[rp b] w fun e w' => e = .returned (.tuple #[]) ∧ ∃ m l', m ≤ s.size ∧ (L s).drop m = (mk ((L s).drop k)).2 ∧ Rg N w' b s m l' ∧ tks l' = tks l ++ (mk ((L s).drop k)).1 ∧ Below N w w' := by
  have hs' : s.size ≤ 140737488351232 := by omega
  have hs2 : s.size ≤ 140737488355328 := by omega
  have hl2 : l.length ≤ 4000000000 := by omega
  obtain ⟨V, hr, ho, hN⟩ := h
  have hx : (s.extract k s.size).size ≤ 140737488355328 := Nat.le_trans (size_extract _ _ _) (by omega)
  have hxl := L_end s k
  have i0 : (0 : Int) ≤ (k : Int) := by omega
  have i1 : (k : Int) ≤ (s.size : Int) := by omega
  have c0 := hr.c0; have c1 := hr.c1
  have hlen := (begun_len ((L s).drop k)).2.2.2.2.2 hb
  rw [List.length_drop, size_L] at hlen
  have hkc : k + 1 ≤ s.size := by omega
  have hmk := mk_6 hb
  rw [List.drop_drop] at hmk
  rw [hmk]
  have HX := Lib.hid hxl; have HR := Lib.hid hr; have HO := Lib.hid ho; have HT := Lib.hid hT; have HB := Lib.hid hb; clear hxl hr ho hT hb hmk hlen
  go_enter Tryz.func123, Tryz.ntmps123
  go_wp2
  go_still_tail 9, (by kernel_rfl)
  change wpList _ _ _ _ _ w.drew
  go_wp2_with fail
  refine (begun1 _ w.drew _ 6 hx HX.out HB.out).mono ?_
  rintro e w1 ⟨rfl, hb1⟩
  have hb1' := box_next w w1 hb1
  have hr1 := HR.out.below hb1'
  have ho1 := HO.out.below hb1'
  have B1 : Below N w w1 := hb1'.mono (by have := HR.out.lt; omega)
  clear c0 c1 hb1 hb1'
  have c1 := hr1.c1; have f1 := hr1.f 1
  have HR1 := Lib.hid hr1; have HO1 := Lib.hid ho1; have HB1 := Lib.hid B1; clear hr1 ho1 B1
  go_wp2_with fail
  have h2 := HR1.out.set1 (k + 1)
  obtain ⟨g2, B2⟩ := Rg.step HR1.out HO1.out hN (g_set _ b 1 _) h2
  have B3 := B2 _ HB1.out
  have hT3 := tab_below HT.out B3 hN0
  clear B2 c1 f1
  have hdr := hd_drop hkc h33
  rw [if_pos rfl] at hdr
  have hm : marks ((L s).drop (k + 1)) = (L s).drop (k + 1 + 1) := by unfold marks; rw [if_pos (hd_head.1 h33), List.drop_drop]
  have HM := Lib.hid hm; have H33 := Lib.hid h33; clear hm h33
  obtain ⟨V1, hr1, ho1, _⟩ := g2
  refine (pass1 b (k + 1) s V1 33 _ true _ hr1 hkc hs2 rfl H33.out).mono ?_
  rintro e w3 ⟨rfl, h3, hg3⟩
  obtain ⟨g2, B4⟩ := Rg.step hr1 ho1 hN hg3 h3
  replace B3 := B4 _ B3
  clear B4 hr1 ho1 hg3 h3 hT3
  have hkK : k + 1 + 1 ≤ s.size := hdr.1
  go_wp2_with fail
  obtain ⟨V2, hr2, ho2, _⟩ := g2
  refine (upTo_gt b (k + 1 + 1) s V2 _ hr2 hkK hs2).mono ?_
  rintro e w4 ⟨rfl, m, hm, hd, h3, hg3⟩
  obtain ⟨g3, B4⟩ := Rg.step hr2 ho2 hN hg3 h3
  have B5 := B4 _ B3
  clear B4 B3 hg3 hr2 ho2 h3
  go_wp2_with fail
  refine (addClosed_any N b m 3 s _ l w4 g3 hm hs' hl2).mono ?_
  rintro e w5 ⟨rfl, m5, l', hm5, hd5, g5, ht, B6⟩
  go_wp2
  go_end0
  refine ⟨rfl, m5, l', hm5, ?_, g5, ?_, B5.trans B6⟩
  · rw [HM.out, hd5, hd]
    exact past_gt _
  · rw [HM.out, ht]
    rfl

set_option maxRecDepth 100000 in
set_option maxHeartbeats 4000000 in
theorem markup_6b (N b k : Nat) (s : ByteArray) (l : List Tw) (w : World) (h : Rg N w b s k l) (hk : k ≤ s.size) (hs : s.size ≤ 1000000000) (hl : l.length ≤ 1000000000) (hT : Tab w) (hN0 : 0 < N) (hb : Tm.begun ((L s).drop k) = 6) (h33 : hd 33 ((L s).drop (k + 1)) = false) (h47 : hd 47 ((L s).drop (k + 1)) = true) :
    Calls Tryz.prog 123 #[rp b] w fun e w' => e = .returned (.tuple #[]) ∧ ∃ m l', m ≤ s.size ∧ (L s).drop m = (mk ((L s).drop k)).2 ∧ Rg N w' b s m l' ∧ tks l' = tks l ++ (mk ((L s).drop k)).1 ∧ Below N w w' := by
  have hs' : s.size ≤ 140737488351232 := by omega
  have hs2 : s.size ≤ 140737488355328 := by omega
  have hl2 : l.length ≤ 4000000000 := by omega
  obtain ⟨V, hr, ho, hN⟩ := h
  have hx : (s.extract k s.size).size ≤ 140737488355328 := Nat.le_trans (size_extract _ _ _) (by omega)
  have hxl := L_end s k
  have i0 : (0 : Int) ≤ (k : Int) := by omega
  have i1 : (k : Int) ≤ (s.size : Int) := by omega
  have c0 := hr.c0; have c1 := hr.c1
  have hlen := (begun_len ((L s).drop k)).2.2.2.2.2 hb
  rw [List.length_drop, size_L] at hlen
  have hkc : k + 1 ≤ s.size := by omega
  have hmk := mk_6 hb
  rw [List.drop_drop] at hmk
  rw [hmk]
  have HX := Lib.hid hxl; have HR := Lib.hid hr; have HO := Lib.hid ho; have HT := Lib.hid hT; have HB := Lib.hid hb; clear hxl hr ho hT hb hmk hlen
  go_enter Tryz.func123, Tryz.ntmps123
  go_wp2
  go_still_tail 9, (by kernel_rfl)
  change wpList _ _ _ _ _ w.drew
  go_wp2_with fail
  refine (begun1 _ w.drew _ 6 hx HX.out HB.out).mono ?_
  rintro e w1 ⟨rfl, hb1⟩
  have hb1' := box_next w w1 hb1
  have hr1 := HR.out.below hb1'
  have ho1 := HO.out.below hb1'
  have B1 : Below N w w1 := hb1'.mono (by have := HR.out.lt; omega)
  clear c0 c1 hb1 hb1'
  have c1 := hr1.c1; have f1 := hr1.f 1
  have HR1 := Lib.hid hr1; have HO1 := Lib.hid ho1; have HB1 := Lib.hid B1; clear hr1 ho1 B1
  go_wp2_with fail
  have h2 := HR1.out.set1 (k + 1)
  obtain ⟨g2, B2⟩ := Rg.step HR1.out HO1.out hN (g_set _ b 1 _) h2
  have B3 := B2 _ HB1.out
  have hT3 := tab_below HT.out B3 hN0
  clear B2 c1 f1
  have hdr := hd_drop hkc h47
  rw [if_pos rfl] at hdr
  have hm : marks ((L s).drop (k + 1)) = (L s).drop (k + 1 + 1) := by unfold marks; rw [if_neg (hd_no h33), if_pos (hd_head.1 h47), List.drop_drop]
  have HM := Lib.hid hm; have H33 := Lib.hid h33; have H47 := Lib.hid h47; clear hm h33 h47
  obtain ⟨V1, hr1, ho1, _⟩ := g2
  refine (pass1 b (k + 1) s V1 33 _ false _ hr1 hkc hs2 rfl H33.out).mono ?_
  rintro e w3 ⟨rfl, h3, hg3⟩
  obtain ⟨g2, B4⟩ := Rg.step hr1 ho1 hN hg3 h3
  replace B3 := B4 _ B3
  clear B4 hr1 ho1 hg3 h3 hT3
  obtain ⟨V1, hr1, ho1, _⟩ := g2
  go_wp2_with fail
  refine (pass1 b (k + 1) s V1 47 _ true _ hr1 hkc hs2 rfl H47.out).mono ?_
  rintro e w6 ⟨rfl, h3, hg3⟩
  obtain ⟨g2, B4⟩ := Rg.step hr1 ho1 hN hg3 h3
  replace B3 := B4 _ B3
  clear B4 hr1 ho1 hg3 h3
  have hkK : k + 1 + 1 ≤ s.size := hdr.1
  go_wp2_with fail
  obtain ⟨V2, hr2, ho2, _⟩ := g2
  refine (upTo_gt b (k + 1 + 1) s V2 _ hr2 hkK hs2).mono ?_
  rintro e w4 ⟨rfl, m, hm, hd, h3, hg3⟩
  obtain ⟨g3, B4⟩ := Rg.step hr2 ho2 hN hg3 h3
  have B5 := B4 _ B3
  clear B4 B3 hg3 hr2 ho2 h3
  go_wp2_with fail
  refine (addClosed_any N b m 3 s _ l w4 g3 hm hs' hl2).mono ?_
  rintro e w5 ⟨rfl, m5, l', hm5, hd5, g5, ht, B6⟩
  go_wp2
  go_end0
  refine ⟨rfl, m5, l', hm5, ?_, g5, ?_, B5.trans B6⟩
  · rw [HM.out, hd5, hd]
    exact past_gt _
  · rw [HM.out, ht]
    rfl

set_option maxRecDepth 100000 in
set_option maxHeartbeats 4000000 in
theorem markup_6c (N b k : Nat) (s : ByteArray) (l : List Tw) (w : World) (h : Rg N w b s k l) (hk : k ≤ s.size) (hs : s.size ≤ 1000000000) (hl : l.length ≤ 1000000000) (hT : Tab w) (hN0 : 0 < N) (hb : Tm.begun ((L s).drop k) = 6) (h33 : hd 33 ((L s).drop (k + 1)) = false) (h47 : hd 47 ((L s).drop (k + 1)) = false) :
    Calls Tryz.prog 123 #[rp b] w fun e w' => e = .returned (.tuple #[]) ∧ ∃ m l', m ≤ s.size ∧ (L s).drop m = (mk ((L s).drop k)).2 ∧ Rg N w' b s m l' ∧ tks l' = tks l ++ (mk ((L s).drop k)).1 ∧ Below N w w' := by
  have hs' : s.size ≤ 140737488351232 := by omega
  have hs2 : s.size ≤ 140737488355328 := by omega
  have hl2 : l.length ≤ 4000000000 := by omega
  obtain ⟨V, hr, ho, hN⟩ := h
  have hx : (s.extract k s.size).size ≤ 140737488355328 := Nat.le_trans (size_extract _ _ _) (by omega)
  have hxl := L_end s k
  have i0 : (0 : Int) ≤ (k : Int) := by omega
  have i1 : (k : Int) ≤ (s.size : Int) := by omega
  have c0 := hr.c0; have c1 := hr.c1
  have hlen := (begun_len ((L s).drop k)).2.2.2.2.2 hb
  rw [List.length_drop, size_L] at hlen
  have hkc : k + 1 ≤ s.size := by omega
  have hmk := mk_6 hb
  rw [List.drop_drop] at hmk
  rw [hmk]
  have HX := Lib.hid hxl; have HR := Lib.hid hr; have HO := Lib.hid ho; have HT := Lib.hid hT; have HB := Lib.hid hb; clear hxl hr ho hT hb hmk hlen
  go_enter Tryz.func123, Tryz.ntmps123
  go_wp2
  go_still_tail 9, (by kernel_rfl)
  change wpList _ _ _ _ _ w.drew
  go_wp2_with fail
  refine (begun1 _ w.drew _ 6 hx HX.out HB.out).mono ?_
  rintro e w1 ⟨rfl, hb1⟩
  have hb1' := box_next w w1 hb1
  have hr1 := HR.out.below hb1'
  have ho1 := HO.out.below hb1'
  have B1 : Below N w w1 := hb1'.mono (by have := HR.out.lt; omega)
  clear c0 c1 hb1 hb1'
  have c1 := hr1.c1; have f1 := hr1.f 1
  have HR1 := Lib.hid hr1; have HO1 := Lib.hid ho1; have HB1 := Lib.hid B1; clear hr1 ho1 B1
  go_wp2_with fail
  have h2 := HR1.out.set1 (k + 1)
  obtain ⟨g2, B2⟩ := Rg.step HR1.out HO1.out hN (g_set _ b 1 _) h2
  have B3 := B2 _ HB1.out
  have hT3 := tab_below HT.out B3 hN0
  clear B2 c1 f1
  have hm : marks ((L s).drop (k + 1)) = (L s).drop (k + 1) := by unfold marks; rw [if_neg (hd_no h33), if_neg (hd_no h47)]
  have HM := Lib.hid hm; have H33 := Lib.hid h33; have H47 := Lib.hid h47; clear hm h33 h47
  obtain ⟨V1, hr1, ho1, _⟩ := g2
  refine (pass1 b (k + 1) s V1 33 _ false _ hr1 hkc hs2 rfl H33.out).mono ?_
  rintro e w3 ⟨rfl, h3, hg3⟩
  obtain ⟨g2, B4⟩ := Rg.step hr1 ho1 hN hg3 h3
  replace B3 := B4 _ B3
  clear B4 hr1 ho1 hg3 h3 hT3
  obtain ⟨V1, hr1, ho1, _⟩ := g2
  go_wp2_with fail
  refine (pass1 b (k + 1) s V1 47 _ false _ hr1 hkc hs2 rfl H47.out).mono ?_
  rintro e w6 ⟨rfl, h3, hg3⟩
  obtain ⟨g2, B4⟩ := Rg.step hr1 ho1 hN hg3 h3
  replace B3 := B4 _ B3
  clear B4 hr1 ho1 hg3 h3
  have hkK : k + 1 ≤ s.size := hkc
  go_wp2_with fail
  obtain ⟨V2, hr2, ho2, _⟩ := g2
  refine (upTo_gt b (k + 1) s V2 _ hr2 hkK hs2).mono ?_
  rintro e w4 ⟨rfl, m, hm, hd, h3, hg3⟩
  obtain ⟨g3, B4⟩ := Rg.step hr2 ho2 hN hg3 h3
  have B5 := B4 _ B3
  clear B4 B3 hg3 hr2 ho2 h3
  go_wp2_with fail
  refine (addClosed_any N b m 3 s _ l w4 g3 hm hs' hl2).mono ?_
  rintro e w5 ⟨rfl, m5, l', hm5, hd5, g5, ht, B6⟩
  go_wp2
  go_end0
  refine ⟨rfl, m5, l', hm5, ?_, g5, ?_, B5.trans B6⟩
  · rw [HM.out, hd5, hd]
    exact past_gt _
  · rw [HM.out, ht]
    rfl

set_option maxRecDepth 100000 in
set_option maxHeartbeats 4000000 in
theorem markup_0 (N b k : Nat) (s : ByteArray) (l : List Tw) (w : World) (h : Rg N w b s k l) (hk : k ≤ s.size) (hs : s.size ≤ 1000000000) (hl : l.length ≤ 1000000000) (hT : Tab w) (hN0 : 0 < N) (n : Nat) (hb : Tm.begun ((L s).drop k) = n) (h1 : n ≠ 1) (h2 : n ≠ 2) (h3 : n ≠ 3) (h4 : n ≠ 4) (h5 : n ≠ 5) (h6 : n ≠ 6) :
    Calls Tryz.prog 123 #[rp b] w fun e w' => e = .returned (.tuple #[]) ∧ ∃ m l', m ≤ s.size ∧ (L s).drop m = (mk ((L s).drop k)).2 ∧ Rg N w' b s m l' ∧ tks l' = tks l ++ (mk ((L s).drop k)).1 ∧ Below N w w' := by
  have hs' : s.size ≤ 140737488351232 := by omega
  have hs2 : s.size ≤ 140737488355328 := by omega
  have hl2 : l.length ≤ 4000000000 := by omega
  obtain ⟨V, hr, ho, hN⟩ := h
  have hx : (s.extract k s.size).size ≤ 140737488355328 := Nat.le_trans (size_extract _ _ _) (by omega)
  have hxl := L_end s k
  have i0 : (0 : Int) ≤ (k : Int) := by omega
  have i1 : (k : Int) ≤ (s.size : Int) := by omega
  have c0 := hr.c0; have c1 := hr.c1
  have hmk := mk_0 (by rw [hb]; exact h1) (by rw [hb]; exact h2) (by rw [hb]; exact h3) (by rw [hb]; exact h4) (by rw [hb]; exact h5) (by rw [hb]; exact h6)
  rw [hmk]
  have b1 : ((n : Int) == 1) = false := by simp; omega
  have b2 : ((n : Int) == 2) = false := by simp; omega
  have b3 : ((n : Int) == 3) = false := by simp; omega
  have b4 : ((n : Int) == 4) = false := by simp; omega
  have b5 : ((n : Int) == 5) = false := by simp; omega
  have b6 : ((n : Int) == 6) = false := by simp; omega
  have HX := Lib.hid hxl; have HR := Lib.hid hr; have HO := Lib.hid ho; have HB := Lib.hid hb; clear hxl hr ho hT hb hmk h1 h2 h3 h4 h5 h6
  go_enter Tryz.func123, Tryz.ntmps123
  go_wp2
  go_still_tail 9, (by kernel_rfl)
  change wpList _ _ _ _ _ w.drew
  go_wp2_with fail
  refine (begun1 _ w.drew _ n hx HX.out HB.out).mono ?_
  rintro e w1 ⟨rfl, hb1⟩
  have hb1' := box_next w w1 hb1
  go_wp2
  go_end0
  exact ⟨rfl, k, l, hk, rfl, ⟨V, HR.out.below hb1', HO.out.below hb1', hN⟩, (List.append_nil _).symm, hb1'.mono (by have := HR.out.lt; omega)⟩

theorem markup_any (N b k : Nat) (s : ByteArray) (l : List Tw) (w : World) (h : Rg N w b s k l) (hk : k ≤ s.size) (hs : s.size ≤ 1000000000) (hl : l.length ≤ 1000000000) (hT : Tab w) (hN0 : 0 < N) :
    Calls Tryz.prog 123 #[rp b] w fun e w' => e = .returned (.tuple #[]) ∧ ∃ m l', m ≤ s.size ∧ (L s).drop m = (mk ((L s).drop k)).2 ∧ Rg N w' b s m l' ∧ tks l' = tks l ++ (mk ((L s).drop k)).1 ∧ Below N w w' := by
  by_cases h1 : Tm.begun ((L s).drop k) = 1
  · exact markup_1 N b k s l w h hk hs hl hT hN0 h1
  by_cases h2 : Tm.begun ((L s).drop k) = 2
  · exact markup_2 N b k s l w h hk hs hl hT hN0 h2
  by_cases h3 : Tm.begun ((L s).drop k) = 3
  · exact markup_3 N b k s l w h hk hs hl hT hN0 h3
  by_cases h4 : Tm.begun ((L s).drop k) = 4
  · exact markup_4 N b k s l w h hk hs hl hT hN0 h4
  by_cases h5 : Tm.begun ((L s).drop k) = 5
  · exact markup_5 N b k s l w h hk hs hl hT hN0 h5
  by_cases h6 : Tm.begun ((L s).drop k) = 6
  · cases h33 : hd 33 ((L s).drop (k + 1)) with
    | true => exact markup_6a N b k s l w h hk hs hl hT hN0 h6 h33
    | false =>
      cases h47 : hd 47 ((L s).drop (k + 1)) with
      | true => exact markup_6b N b k s l w h hk hs hl hT hN0 h6 h33 h47
      | false => exact markup_6c N b k s l w h hk hs hl hT hN0 h6 h33 h47
  · exact markup_0 N b k s l w h hk hs hl hT hN0 _ rfl h1 h2 h3 h4 h5 h6

end Go.Proofs.YtgjlfcamgkeibaaGreatDoor.To

namespace Go.Proofs.YtgjlfcamgkeibaaGreatDoor.To
set_option maxRecDepth 100000
set_option linter.unusedSimpArgs false
set_option linter.unusedVariables false
open Go.RowKit Ba Fm Fo Tm Nm
open Ro (At acells len_acells below_new Sh Ra acells_one info_attr)
open Re (Tab)
open Rm (dec)
theorem lt_behind {l : List UInt8} {n : Nat} (h : l ≠ []) (hn : 1 ≤ n) : (l.drop n).length < l.length := by
  have : 0 < l.length := List.length_pos_iff.2 h
  rw [List.length_drop]
  omega
theorem len_attrs (l : List UInt8) : ∀ (self : Bool) (acc : List At) (bs : List At) (sf : Bool) (r : List UInt8), attrs self acc l = some (bs, sf, r) → r.length < l.length := by
  induction hn : l.length using Nat.strongRecOn generalizing l with
  | ind n ih =>
    intro self acc bs sf r h
    subst hn
    cases l with
    | nil => rw [attrs_nil] at h; cases h
    | cons c q =>
      by_cases h1 : c = 62
      · subst h1
        rw [attrs_end] at h
        injection h with h
        injection h with _ h
        injection h with _ h
        rw [h]; simp
      · by_cases h2 : c = 47 ∨ sp c = true
        · rw [attrs_skip _ _ _ h1 h2] at h
          have := ih q.length (by simp) q rfl _ _ _ _ _ h
          simp only [List.length_cons]
          omega
        · rw [attrs_attr _ _ _ h1 h2] at h
          have hq := len_attr c q
          have := ih (attr c q).2.length (by simp only [List.length_cons]; omega) _ rfl _ _ _ _ _ h
          simp only [List.length_cons]
          omega
theorem len_cont (n l : List UInt8) : (cont n l).2.length ≤ l.length := by
  unfold cont
  split
  · exact len_trail _ _
  · split
    · exact len_trail _ _
    · exact Nat.le_refl _
theorem len_start (l : List UInt8) : (startTag l).2.length ≤ l.length ∧ (endTag l).2.length ≤ l.length := by
  have h0 := len_trail (by1 en) l
  cases h : attrs false [] (from_ en l) with
  | none => rw [(start_no h).1, (start_no h).2]; exact ⟨Nat.zero_le _, Nat.zero_le _⟩
  | some x =>
    obtain ⟨bs, sf, r⟩ := x
    have h1 := len_attrs _ _ _ _ _ _ h
    rw [(start_yes h).1, (start_yes h).2]
    have h2 := len_cont (lowL (upTo en l)) r
    have h1' : r.length < (trail (by1 en) l).length := h1
    exact ⟨by show (cont _ r).2.length ≤ _; omega, by show r.length ≤ _; omega⟩
theorem len_closed (l : List UInt8) : (closed l).2.length ≤ l.length := by
  have := len_trail (by1 gt) l
  show ((trail (by1 gt) l).drop 1).length ≤ _
  rw [List.length_drop]
  omega
theorem len_comm (l : List UInt8) : (comm l).2.length ≤ l.length := by
  unfold comm
  have := len_trail cend l
  split
  · rw [List.length_drop]; omega
  · split
    · rw [List.length_drop]; omega
    · show ((trail cend l).drop _).length ≤ _
      rw [List.length_drop]; omega
theorem len_marks (l : List UInt8) : (marks l).length ≤ l.length := by
  unfold marks
  split
  · rw [List.length_drop]; omega
  · split
    · rw [List.length_drop]; omega
    · exact Nat.le_refl _
theorem marked_le (r : List UInt8) : marked r ≤ 6 := by
  unfold marked
  split
  · decide
  · split <;> decide
theorem begun_le (l : List UInt8) : Tm.begun l ≤ 6 := by
  match l with
  | [] => decide
  | [a] =>
    have : Tm.begun [a] = 0 := by show (if a = 60 then 0 else 0) = 0; split <;> rfl
    omega
  | a :: c :: r =>
    have hm := marked_le r
    have hs := slashed_cases r
    rw [begun_two]
    split
    · split
      · decide
      · split
        · omega
        · split
          · exact hm
          · split <;> decide
    · decide
theorem len_mk {l : List UInt8} (h : Tm.begun l ≠ 0) : (mk l).2.length < l.length := by
  have hne : l ≠ [] := fun e => h (by rw [e]; rfl)
  have d1 := lt_behind hne (n := 1) (by decide)
  have d2 := lt_behind hne (n := 2) (by decide)
  have d3 := lt_behind hne (n := 3) (by decide)
  have d4 := lt_behind hne (n := 4) (by decide)
  have d9 := lt_behind hne (n := 9) (by decide)
  by_cases h1 : Tm.begun l = 1
  · rw [mk_1 h1]; have := (len_start (l.drop 1)).1; omega
  by_cases h2 : Tm.begun l = 2
  · rw [mk_2 h2]; have := (len_start (l.drop 2)).2; omega
  by_cases h3 : Tm.begun l = 3
  · rw [mk_3 h3]; exact d3
  by_cases h4 : Tm.begun l = 4
  · rw [mk_4 h4]; have := len_comm (l.drop 4); show (comm _).2.length < _; omega
  by_cases h5 : Tm.begun l = 5
  · rw [mk_5 h5]; have := len_closed (l.drop 9); show (closed _).2.length < _; omega
  by_cases h6 : Tm.begun l = 6
  · rw [mk_6 h6]; have := len_closed (marks (l.drop 1)); have := len_marks (l.drop 1); show (closed _).2.length < _; omega
  · exact absurd (begun_le l) (by omega)
theorem len_turn {l : List UInt8} (h : l ≠ []) : (turn l).2.length < l.length := by
  show (mk (trail bg l)).2.length < _
  have h1 := len_trail bg l
  rcases trail_cases bg l with e | e
  · rw [e, mk_0 (by decide) (by decide) (by decide) (by decide) (by decide) (by decide)]
    exact List.length_pos_iff.2 h
  · have := len_mk (of_decide_eq_true e)
    omega
theorem cut_nil : cut [] = [] := by
  rw [cut, dif_neg (by simp)]
  show txt (dec []) ++ (mk []).1 = []
  rw [Rm.dec_nil, mk_0 (by decide) (by decide) (by decide) (by decide) (by decide) (by decide)]
  rfl
theorem cut_step {l : List UInt8} (h : l ≠ []) : cut l = (turn l).1 ++ cut (turn l).2 := by rw [cut, dif_pos (len_turn h)]
theorem turn_len (l : List UInt8) : (turn l).1.length ≤ 3 := by
  show (txt _ ++ (mk _).1).length ≤ 3
  rw [List.length_append]
  have := len_txt (dec (lead bg l))
  have := mk_len (l := trail bg l)
  omega

theorem Rc.new (w : World) (s : ByteArray) : Rc (w.alloc (.cells #[.string s, .int .i64 0, .slice none 0 0] 119)) w.heap.size s 0 (.slice none 0 0) := (MapKept.heap_alloc w _).1

set_option maxRecDepth 100000 in
set_option maxHeartbeats 4000000 in
theorem In_any (s nm : ByteArray) (w : World) (hs : s.size ≤ 300000000) (hn : nm.size ≤ 140737488351232) (hT : Tab w) :
    Calls Tryz.prog 75 #[.string s, .string nm] w fun e w' => ∃ V l, e = .returned V ∧ Ot w.heap.size w' V l ∧ tks l = within (L nm) (L s) ∧ Below w.heap.size w w' := by
  have hN0 : 0 < w.heap.size := hT.2
  have hr0 := Rc.new w s
  have hb0 := below_new w (.cells #[.string s, .int .i64 0, .slice none 0 0] 119)
  have hT0 := hT.below hb0
  have HR := Lib.hid hr0; have HB := Lib.hid hb0; have HT := Lib.hid hT0; clear hr0 hb0 hT0
  go_enter Tryz.func75, Tryz.ntmps75
  go_wp2_with fail
  have g0 : Rg w.heap.size (w.alloc (.cells #[.string s, .int .i64 0, .slice none 0 0] 119)) w.heap.size s 0 [] := ⟨_, HR.out, Ot.nil _ _, Nat.le_refl _⟩
  refine (contents_any w.heap.size w.heap.size 0 s nm [] _ g0 (Nat.zero_le _) (by omega) hn (by simp) HT.out hN0).mono ?_
  rintro e w1 ⟨rfl, m, l1, hm, hd, g1, ht, B1⟩
  have B2 := HB.out.trans B1
  have hl1 := tks_len ht (n := 1) (by
    unfold cont
    split
    · exact len_txt _
    · split
      · exact len_txt _
      · simp)
  rw [List.drop_zero] at hd ht
  have hw : tks l1 ++ cut ((L s).drop m) = within (L nm) (L s) := by rw [ht, hd]; rfl
  obtain ⟨N, hN⟩ : ∃ N, w.heap.size = N := ⟨_, rfl⟩
  rw [hN] at g1 B2 hN0 ⊢
  have HT0 := Lib.hid hT
  clear g0 B1 ht hd HR HB HT hT
  have HNN := Lib.hid hN; clear hN
  go_wp2
  go_loopw [] (fun wr => ∃ (k : Nat) (l : List Tw), k ≤ s.size ∧ Rg N wr N s k l ∧ tks l ++ cut ((L s).drop k) = within (L nm) (L s) ∧ l.length ≤ 3 * k + 1 ∧ Below N w wr) (fun wr => s.size - posOf wr N)
  case atStart => exact ⟨m, l1, hm, g1, hw, by simp at hl1; omega, B2⟩
  case round =>
    clear g1 hw hl1 B2 hm
    obtain ⟨k, l, hk, g, hw, hl, hb⟩ := hrel
    obtain ⟨V, hr, ho, hNb⟩ := g
    have c0 := hr.c0; have c1 := hr.c1; have c2 := hr.c2
    have hpos := hr.pos
    by_cases hp : k < s.size
    · have hlt : decide ((k : Int) < s.size) = true := decide_eq_true (by omega)
      have HR := Lib.hid hr; have HO := Lib.hid ho; have HW := Lib.hid hw; have HB := Lib.hid hb; have HP := Lib.hid hpos; clear hr ho hw hb hpos
      go_wp2_with fail
      refine (plain_any N k s V wr HR.out hk (by omega)).mono ?_
      rintro e w2 ⟨rfl, m2, hm2, hd2, h2, hg2⟩
      obtain ⟨g2, B2⟩ := Rg.step HR.out HO.out hNb hg2 h2
      have B3 := B2 _ HB.out
      have hT2 := tab_below HT0.out B3 hN0
      have hsz : (B (lead bg ((L s).drop k))).size ≤ 140737488351232 := by
        rw [size_B]
        have := len_lead bg ((L s).drop k)
        rw [List.length_drop, size_L] at this
        omega
      clear B2 hg2 h2 c0 c1 c2
      go_wp2_with fail
      refine (Re.decode_any _ w2 hT2 hsz).mono ?_
      rintro e w3 ⟨rfl, hb3⟩
      obtain ⟨g3, B4⟩ := g2.below hb3
      have B5 := B3.trans B4
      clear B3 B4 hb3 g2 hT2
      go_wp2_with fail
      refine (addText_any N N m2 s _ l w3 g3 (by omega)).mono ?_
      rintro e w4 ⟨rfl, l4, g4, ht4, B6⟩
      have B7 := B6 _ B5
      rw [L_B, L_B] at ht4
      have hl4 := tks_len ht4 (len_txt _)
      have hT4 := tab_below HT0.out B7 hN0
      clear B6 B5 g3
      go_wp2_with fail
      refine (markup_any N N m2 s l4 w4 g4 hm2 (by omega) (by omega) hT4 hN0).mono ?_
      rintro e w5 ⟨rfl, k5, l5, hk5, hd5, g5, ht5, B8⟩
      have hl5 := tks_len ht5 mk_len
      have B9 := B7.trans B8
      rw [hd2] at hd5 ht5
      have hne : (L s).drop k ≠ [] := by rw [drop_cons s k hp]; exact List.cons_ne_nil _ _
      have hcs := cut_step hne
      have htl := len_turn hne
      have e2 : (turn ((L s).drop k)).2 = (L s).drop k5 := hd5.symm
      have e1 : (turn ((L s).drop k)).1 = txt (dec (lead bg ((L s).drop k))) ++ (mk (trail bg ((L s).drop k))).1 := rfl
      rw [e2] at hcs htl
      rw [List.length_drop, List.length_drop, size_L] at htl
      have hw5 : tks l5 ++ cut ((L s).drop k5) = within (L nm) (L s) := by
        rw [← HW.out, hcs, e1, ht5, ht4]
        simp only [List.append_assoc]
      have hp5 : posOf w5 N = k5 := by obtain ⟨V5, hr5, _⟩ := g5; exact hr5.pos
      clear B7 B8 g4 hT4 ht5 ht4 hd2 hd5 hcs e1 e2 hne
      go_wp2
      go_roundw
      case rel => exact ⟨k5, l5, hk5, g5, hw5, by omega, B9⟩
      case measure =>
        rw [hp5, HP.out]
        omega
    · have hlt : decide ((k : Int) < s.size) = false := decide_eq_false (by omega)
      rw [drop_nil s k hp, cut_nil, List.append_nil] at hw
      have HR := Lib.hid hr; have HO := Lib.hid ho; have HW := Lib.hid hw; have HB := Lib.hid hb; clear hr ho hw hb hpos
      go_wp2
      go_ret
      exact ⟨V, l, rfl, by rw [HNN.out]; exact HO.out, HW.out, by rw [HNN.out]; exact HB.out⟩

end Go.Proofs.YtgjlfcamgkeibaaGreatDoor.To

namespace Go.Proofs.YtgjlfcamgkeibaaGreatDoor.Re
set_option maxRecDepth 100000
set_option linter.unusedSimpArgs false
set_option linter.unusedVariables false
open Go.RowKit Ba Rm
end Go.Proofs.YtgjlfcamgkeibaaGreatDoor.Re

namespace Go.Proofs.YtgjlfcamgkeibaaGreatDoor.Re
set_option maxRecDepth 100000
set_option linter.unusedSimpArgs false
set_option linter.unusedVariables false
open Go.RowKit Ba Rm
set_option maxRecDepth 100000 in
set_option maxHeartbeats 4000000 in
theorem escaped_false (s : ByteArray) (w : World) (hs : s.size ≤ 10000000) :
    Calls Tryz.prog 184 #[.string s, .bool false] w fun e w' => e = .returned (.string (B (esc false (L s)))) ∧ Below w.heap.size w w' := by
  have hle := (len_esc false (L s)).2.1
  rw [size_L] at hle
  obtain ⟨i0, hi, hz0, hz1, hz2⟩ := info_parts info_u8
  go_enter Tryz.func184, Tryz.ntmps184
  go_wp2_with (at_make; refine wpList_make_own _ rfl (.const (.int .i64 0)) (.tmp 9) 88 rfl w.heap.size 5 i0 (.int .u8 0) 1 Tryz.underlying88 hi hz0 hz1 .i64 .i64 _ s.size rfl rfl rfl (by rw [hz2]; omega) (by unfold maxLen; omega) (Nat.le_refl _) ?_; intro w1 hown hgrow)
  have hb0 : Below w.heap.size w w1 := (Below.refl w.heap.size w).grown hgrow (Nat.le_refl _) (by simp)
  have ho0 : OwnB w.heap.size w1 (.slice (some ⟨w.heap.size, 0, none⟩) 0 s.size) [] := hown
  clear hown hgrow
  go_loopw [5, 6] (fun v i wr => ∃ (k : Nat) (acc : List UInt8), i = .int .i64 k ∧ k ≤ s.size ∧ OwnB w.heap.size wr v acc ∧ acc ++ esc false ((L s).drop k) = esc false (L s) ∧ Below w.heap.size w wr) (fun _ i _ => s.size - (intOf i).toNat)
  case atStart => exact ⟨0, [], rfl, Nat.zero_le _, ho0, by simp, hb0⟩
  case round =>
    clear ho0 hb0
    obtain ⟨k, acc, rfl, hks, hown, hc, hbel⟩ := hrel
    have hN := hbel.size
    have hal : acc.length ≤ 60000000 := by
      have := congrArg List.length hc
      rw [List.length_append] at this
      omega
    have hl1 : acc.length + 1 ≤ 140737488355328 := by omega
    have hl6 : ∀ t : ByteArray, t.size ≤ 6 → acc.length + t.size ≤ 140737488355328 := fun t h => by omega
    clear hle hal
    by_cases hp : k < s.size
    · rw [drop_cons s k hp] at hc
      by_cases h38 : s[k] = 38
      · have hb38 : (((s[k].toNat : Int)) == 38) = true := by rw [h38]; rfl
        have hb60 : (((s[k].toNat : Int)) == 60) = false := by rw [h38]; rfl
        have hb62 : (((s[k].toNat : Int)) == 62) = false := by rw [h38]; rfl
        have hb34 : (((s[k].toNat : Int)) == 34) = false := by rw [h38]; rfl
        have hb194 : (((s[k].toNat : Int)) == 194) = false := by rw [h38]; rfl
        rw [esc_byte _ (fun e => absurd (h38.symm.trans e.1) (by decide)), h38, show e1 false 38 = L ⟨#[38, 97, 109, 112, 59]⟩ from rfl] at hc
        have HC := Lib.hid hc; clear hc h38
        go_wp2_with (at_builtin; refine app_str wr rfl (.tmp 27) (.const (.string ⟨#[38, 97, 109, 112, 59]⟩)) rfl w.heap.size _ acc ⟨#[38, 97, 109, 112, 59]⟩ rfl hown rfl (hl6 _ (by decide)) hN ?_; intro v4 w4 hown4 hk4)
        go_roundw
        case rel => exact ⟨k + 1, _, by go_num, by omega, hown4, by rw [List.append_assoc]; exact HC.out, hk4 _ hbel⟩
        case measure => simp [intOf]; omega
      by_cases h60 : s[k] = 60
      · have hb38 : (((s[k].toNat : Int)) == 38) = false := by rw [h60]; rfl
        have hb60 : (((s[k].toNat : Int)) == 60) = true := by rw [h60]; rfl
        have hb62 : (((s[k].toNat : Int)) == 62) = false := by rw [h60]; rfl
        have hb34 : (((s[k].toNat : Int)) == 34) = false := by rw [h60]; rfl
        have hb194 : (((s[k].toNat : Int)) == 194) = false := by rw [h60]; rfl
        rw [esc_byte _ (fun e => absurd (h60.symm.trans e.1) (by decide)), h60, show e1 false 60 = L ⟨#[38, 108, 116, 59]⟩ from rfl] at hc
        have HC := Lib.hid hc; clear hc h60
        go_wp2_with (at_builtin; refine app_str wr rfl (.tmp 32) (.const (.string ⟨#[38, 108, 116, 59]⟩)) rfl w.heap.size _ acc ⟨#[38, 108, 116, 59]⟩ rfl hown rfl (hl6 _ (by decide)) hN ?_; intro v4 w4 hown4 hk4)
        go_roundw
        case rel => exact ⟨k + 1, _, by go_num, by omega, hown4, by rw [List.append_assoc]; exact HC.out, hk4 _ hbel⟩
        case measure => simp [intOf]; omega
      by_cases h62 : s[k] = 62
      · have hb38 : (((s[k].toNat : Int)) == 38) = false := by rw [h62]; rfl
        have hb60 : (((s[k].toNat : Int)) == 60) = false := by rw [h62]; rfl
        have hb62 : (((s[k].toNat : Int)) == 62) = true := by rw [h62]; rfl
        have hb34 : (((s[k].toNat : Int)) == 34) = false := by rw [h62]; rfl
        have hb194 : (((s[k].toNat : Int)) == 194) = false := by rw [h62]; rfl
        rw [esc_byte _ (fun e => absurd (h62.symm.trans e.1) (by decide)), h62, show e1 false 62 = L ⟨#[38, 103, 116, 59]⟩ from rfl] at hc
        have HC := Lib.hid hc; clear hc h62
        go_wp2_with (at_builtin; refine app_str wr rfl (.tmp 37) (.const (.string ⟨#[38, 103, 116, 59]⟩)) rfl w.heap.size _ acc ⟨#[38, 103, 116, 59]⟩ rfl hown rfl (hl6 _ (by decide)) hN ?_; intro v4 w4 hown4 hk4)
        go_roundw
        case rel => exact ⟨k + 1, _, by go_num, by omega, hown4, by rw [List.append_assoc]; exact HC.out, hk4 _ hbel⟩
        case measure => simp [intOf]; omega
      by_cases h34 : s[k] = 34
      · have hb38 : (((s[k].toNat : Int)) == 38) = false := by rw [h34]; rfl
        have hb60 : (((s[k].toNat : Int)) == 60) = false := by rw [h34]; rfl
        have hb62 : (((s[k].toNat : Int)) == 62) = false := by rw [h34]; rfl
        have hb34 : (((s[k].toNat : Int)) == 34) = true := by rw [h34]; rfl
        have hb194 : (((s[k].toNat : Int)) == 194) = false := by rw [h34]; rfl
        rw [esc_byte _ (fun e => absurd (h34.symm.trans e.1) (by decide)), show e1 false s[k] = [s[k]] from by rw [h34]; rfl] at hc
        have HC := Lib.hid hc; clear hc h34
        go_wp2_with (at_builtin; refine app_byte wr rfl (.tmp 20) (.tmp 22) rfl w.heap.size _ acc s[k] rfl hown rfl hl1 hN ?_; intro v4 w4 hown4 hk4)
        go_roundw
        case rel => exact ⟨k + 1, acc ++ [s[k]], by go_num, by omega, hown4, by rw [List.append_assoc]; exact HC.out, hk4 _ hbel⟩
        case measure => simp [intOf]; omega
      have he1 : e1 false s[k] = [s[k]] := by simp [e1, h38, h60, h62, h34]
      have hb38 : (((s[k].toNat : Int)) == 38) = false := u8_ne (b := 38) h38
      have hb60 : (((s[k].toNat : Int)) == 60) = false := u8_ne (b := 60) h60
      have hb62 : (((s[k].toNat : Int)) == 62) = false := u8_ne (b := 62) h62
      have hb34 : (((s[k].toNat : Int)) == 34) = false := u8_ne (b := 34) h34
      clear h38 h60 h62 h34
      by_cases h194 : s[k] = 194
      · have hb194 : (((s[k].toNat : Int)) == 194) = true := by rw [h194]; rfl
        by_cases hk1 : k + 1 < s.size
        · have hd1 := drop_cons s (k + 1) hk1
          by_cases h160 : s[k + 1] = 160
          · have hb160 : (((s[k + 1].toNat : Int)) == 160) = true := by rw [h160]; rfl
            rw [hd1, h194, h160, esc_nbsp, show ([38, 110, 98, 115, 112, 59] : List UInt8) = L ⟨#[38, 110, 98, 115, 112, 59]⟩ from rfl] at hc
            have HC := Lib.hid hc; clear hc hd1 h194 h160 he1
            go_wp2_with (at_builtin; refine app_str wr rfl (.tmp 64) (.const (.string ⟨#[38, 110, 98, 115, 112, 59]⟩)) rfl w.heap.size _ acc ⟨#[38, 110, 98, 115, 112, 59]⟩ rfl hown rfl (hl6 _ (by decide)) hN ?_; intro v4 w4 hown4 hk4)
            go_roundw
            case rel => exact ⟨k + 2, _, by go_num, by omega, hown4, by rw [List.append_assoc]; exact HC.out, hk4 _ hbel⟩
            case measure => simp [intOf]; omega
          · have hb160 : (((s[k + 1].toNat : Int)) == 160) = false := u8_ne (b := 160) h160
            rw [esc_byte _ (by rw [hd1]; intro e; simp at e; exact h160 e.2), he1] at hc
            have HC := Lib.hid hc; clear hc hd1 h194 h160 he1
            go_wp2_with (at_builtin; refine app_byte wr rfl (.tmp 20) (.tmp 22) rfl w.heap.size _ acc s[k] rfl hown rfl hl1 hN ?_; intro v4 w4 hown4 hk4)
            go_roundw
            case rel => exact ⟨k + 1, acc ++ [s[k]], by go_num, by omega, hown4, by rw [List.append_assoc]; exact HC.out, hk4 _ hbel⟩
            case measure => simp [intOf]; omega
        · rw [esc_byte _ (by rw [drop_nil s (k + 1) hk1]; intro e; simp at e), he1] at hc
          have HC := Lib.hid hc; clear hc h194 he1
          go_wp2_with (at_builtin; refine app_byte wr rfl (.tmp 20) (.tmp 22) rfl w.heap.size _ acc s[k] rfl hown rfl hl1 hN ?_; intro v4 w4 hown4 hk4)
          go_roundw
          case rel => exact ⟨k + 1, acc ++ [s[k]], by go_num, by omega, hown4, by rw [List.append_assoc]; exact HC.out, hk4 _ hbel⟩
          case measure => simp [intOf]; omega
      · have hb194 : (((s[k].toNat : Int)) == 194) = false := u8_ne (b := 194) h194
        rw [esc_byte _ (fun e => h194 e.1), he1] at hc
        have HC := Lib.hid hc; clear hc h194 he1
        go_wp2_with (at_builtin; refine app_byte wr rfl (.tmp 20) (.tmp 22) rfl w.heap.size _ acc s[k] rfl hown rfl hl1 hN ?_; intro v4 w4 hown4 hk4)
        go_roundw
        case rel => exact ⟨k + 1, acc ++ [s[k]], by go_num, by omega, hown4, by rw [List.append_assoc]; exact HC.out, hk4 _ hbel⟩
        case measure => simp [intOf]; omega
    · have hcv := hown.string
      rw [drop_nil s k hp, esc_nil, List.append_nil] at hc
      subst hc
      clear hl6
      go_wp2
      go_ret
      exact ⟨rfl, hbel⟩

set_option maxRecDepth 100000 in
set_option maxHeartbeats 4000000 in
theorem escaped_true (s : ByteArray) (w : World) (hs : s.size ≤ 10000000) :
    Calls Tryz.prog 184 #[.string s, .bool true] w fun e w' => e = .returned (.string (B (esc true (L s)))) ∧ Below w.heap.size w w' := by
  have hle := (len_esc true (L s)).2.1
  rw [size_L] at hle
  obtain ⟨i0, hi, hz0, hz1, hz2⟩ := info_parts info_u8
  go_enter Tryz.func184, Tryz.ntmps184
  go_wp2_with (at_make; refine wpList_make_own _ rfl (.const (.int .i64 0)) (.tmp 9) 88 rfl w.heap.size 5 i0 (.int .u8 0) 1 Tryz.underlying88 hi hz0 hz1 .i64 .i64 _ s.size rfl rfl rfl (by rw [hz2]; omega) (by unfold maxLen; omega) (Nat.le_refl _) ?_; intro w1 hown hgrow)
  have hb0 : Below w.heap.size w w1 := (Below.refl w.heap.size w).grown hgrow (Nat.le_refl _) (by simp)
  have ho0 : OwnB w.heap.size w1 (.slice (some ⟨w.heap.size, 0, none⟩) 0 s.size) [] := hown
  clear hown hgrow
  go_loopw [5, 6] (fun v i wr => ∃ (k : Nat) (acc : List UInt8), i = .int .i64 k ∧ k ≤ s.size ∧ OwnB w.heap.size wr v acc ∧ acc ++ esc true ((L s).drop k) = esc true (L s) ∧ Below w.heap.size w wr) (fun _ i _ => s.size - (intOf i).toNat)
  case atStart => exact ⟨0, [], rfl, Nat.zero_le _, ho0, by simp, hb0⟩
  case round =>
    clear ho0 hb0
    obtain ⟨k, acc, rfl, hks, hown, hc, hbel⟩ := hrel
    have hN := hbel.size
    have hal : acc.length ≤ 60000000 := by
      have := congrArg List.length hc
      rw [List.length_append] at this
      omega
    have hl1 : acc.length + 1 ≤ 140737488355328 := by omega
    have hl6 : ∀ t : ByteArray, t.size ≤ 6 → acc.length + t.size ≤ 140737488355328 := fun t h => by omega
    clear hle hal
    by_cases hp : k < s.size
    · rw [drop_cons s k hp] at hc
      by_cases h38 : s[k] = 38
      · have hb38 : (((s[k].toNat : Int)) == 38) = true := by rw [h38]; rfl
        have hb60 : (((s[k].toNat : Int)) == 60) = false := by rw [h38]; rfl
        have hb62 : (((s[k].toNat : Int)) == 62) = false := by rw [h38]; rfl
        have hb34 : (((s[k].toNat : Int)) == 34) = false := by rw [h38]; rfl
        have hb194 : (((s[k].toNat : Int)) == 194) = false := by rw [h38]; rfl
        rw [esc_byte _ (fun e => absurd (h38.symm.trans e.1) (by decide)), h38, show e1 true 38 = L ⟨#[38, 97, 109, 112, 59]⟩ from rfl] at hc
        have HC := Lib.hid hc; clear hc h38
        go_wp2_with (at_builtin; refine app_str wr rfl (.tmp 27) (.const (.string ⟨#[38, 97, 109, 112, 59]⟩)) rfl w.heap.size _ acc ⟨#[38, 97, 109, 112, 59]⟩ rfl hown rfl (hl6 _ (by decide)) hN ?_; intro v4 w4 hown4 hk4)
        go_roundw
        case rel => exact ⟨k + 1, _, by go_num, by omega, hown4, by rw [List.append_assoc]; exact HC.out, hk4 _ hbel⟩
        case measure => simp [intOf]; omega
      by_cases h60 : s[k] = 60
      · have hb38 : (((s[k].toNat : Int)) == 38) = false := by rw [h60]; rfl
        have hb60 : (((s[k].toNat : Int)) == 60) = true := by rw [h60]; rfl
        have hb62 : (((s[k].toNat : Int)) == 62) = false := by rw [h60]; rfl
        have hb34 : (((s[k].toNat : Int)) == 34) = false := by rw [h60]; rfl
        have hb194 : (((s[k].toNat : Int)) == 194) = false := by rw [h60]; rfl
        rw [esc_byte _ (fun e => absurd (h60.symm.trans e.1) (by decide)), h60, show e1 true 60 = L ⟨#[38, 108, 116, 59]⟩ from rfl] at hc
        have HC := Lib.hid hc; clear hc h60
        go_wp2_with (at_builtin; refine app_str wr rfl (.tmp 32) (.const (.string ⟨#[38, 108, 116, 59]⟩)) rfl w.heap.size _ acc ⟨#[38, 108, 116, 59]⟩ rfl hown rfl (hl6 _ (by decide)) hN ?_; intro v4 w4 hown4 hk4)
        go_roundw
        case rel => exact ⟨k + 1, _, by go_num, by omega, hown4, by rw [List.append_assoc]; exact HC.out, hk4 _ hbel⟩
        case measure => simp [intOf]; omega
      by_cases h62 : s[k] = 62
      · have hb38 : (((s[k].toNat : Int)) == 38) = false := by rw [h62]; rfl
        have hb60 : (((s[k].toNat : Int)) == 60) = false := by rw [h62]; rfl
        have hb62 : (((s[k].toNat : Int)) == 62) = true := by rw [h62]; rfl
        have hb34 : (((s[k].toNat : Int)) == 34) = false := by rw [h62]; rfl
        have hb194 : (((s[k].toNat : Int)) == 194) = false := by rw [h62]; rfl
        rw [esc_byte _ (fun e => absurd (h62.symm.trans e.1) (by decide)), h62, show e1 true 62 = L ⟨#[38, 103, 116, 59]⟩ from rfl] at hc
        have HC := Lib.hid hc; clear hc h62
        go_wp2_with (at_builtin; refine app_str wr rfl (.tmp 37) (.const (.string ⟨#[38, 103, 116, 59]⟩)) rfl w.heap.size _ acc ⟨#[38, 103, 116, 59]⟩ rfl hown rfl (hl6 _ (by decide)) hN ?_; intro v4 w4 hown4 hk4)
        go_roundw
        case rel => exact ⟨k + 1, _, by go_num, by omega, hown4, by rw [List.append_assoc]; exact HC.out, hk4 _ hbel⟩
        case measure => simp [intOf]; omega
      by_cases h34 : s[k] = 34
      · have hb38 : (((s[k].toNat : Int)) == 38) = false := by rw [h34]; rfl
        have hb60 : (((s[k].toNat : Int)) == 60) = false := by rw [h34]; rfl
        have hb62 : (((s[k].toNat : Int)) == 62) = false := by rw [h34]; rfl
        have hb34 : (((s[k].toNat : Int)) == 34) = true := by rw [h34]; rfl
        have hb194 : (((s[k].toNat : Int)) == 194) = false := by rw [h34]; rfl
        rw [esc_byte _ (fun e => absurd (h34.symm.trans e.1) (by decide)), h34, show e1 true 34 = L ⟨#[38, 113, 117, 111, 116, 59]⟩ from rfl] at hc
        have HC := Lib.hid hc; clear hc h34
        go_wp2_with (at_builtin; refine app_str wr rfl (.tmp 45) (.const (.string ⟨#[38, 113, 117, 111, 116, 59]⟩)) rfl w.heap.size _ acc ⟨#[38, 113, 117, 111, 116, 59]⟩ rfl hown rfl (hl6 _ (by decide)) hN ?_; intro v4 w4 hown4 hk4)
        go_roundw
        case rel => exact ⟨k + 1, _, by go_num, by omega, hown4, by rw [List.append_assoc]; exact HC.out, hk4 _ hbel⟩
        case measure => simp [intOf]; omega
      have he1 : e1 true s[k] = [s[k]] := by simp [e1, h38, h60, h62, h34]
      have hb38 : (((s[k].toNat : Int)) == 38) = false := u8_ne (b := 38) h38
      have hb60 : (((s[k].toNat : Int)) == 60) = false := u8_ne (b := 60) h60
      have hb62 : (((s[k].toNat : Int)) == 62) = false := u8_ne (b := 62) h62
      have hb34 : (((s[k].toNat : Int)) == 34) = false := u8_ne (b := 34) h34
      clear h38 h60 h62 h34
      by_cases h194 : s[k] = 194
      · have hb194 : (((s[k].toNat : Int)) == 194) = true := by rw [h194]; rfl
        by_cases hk1 : k + 1 < s.size
        · have hd1 := drop_cons s (k + 1) hk1
          by_cases h160 : s[k + 1] = 160
          · have hb160 : (((s[k + 1].toNat : Int)) == 160) = true := by rw [h160]; rfl
            rw [hd1, h194, h160, esc_nbsp, show ([38, 110, 98, 115, 112, 59] : List UInt8) = L ⟨#[38, 110, 98, 115, 112, 59]⟩ from rfl] at hc
            have HC := Lib.hid hc; clear hc hd1 h194 h160 he1
            go_wp2_with (at_builtin; refine app_str wr rfl (.tmp 64) (.const (.string ⟨#[38, 110, 98, 115, 112, 59]⟩)) rfl w.heap.size _ acc ⟨#[38, 110, 98, 115, 112, 59]⟩ rfl hown rfl (hl6 _ (by decide)) hN ?_; intro v4 w4 hown4 hk4)
            go_roundw
            case rel => exact ⟨k + 2, _, by go_num, by omega, hown4, by rw [List.append_assoc]; exact HC.out, hk4 _ hbel⟩
            case measure => simp [intOf]; omega
          · have hb160 : (((s[k + 1].toNat : Int)) == 160) = false := u8_ne (b := 160) h160
            rw [esc_byte _ (by rw [hd1]; intro e; simp at e; exact h160 e.2), he1] at hc
            have HC := Lib.hid hc; clear hc hd1 h194 h160 he1
            go_wp2_with (at_builtin; refine app_byte wr rfl (.tmp 20) (.tmp 22) rfl w.heap.size _ acc s[k] rfl hown rfl hl1 hN ?_; intro v4 w4 hown4 hk4)
            go_roundw
            case rel => exact ⟨k + 1, acc ++ [s[k]], by go_num, by omega, hown4, by rw [List.append_assoc]; exact HC.out, hk4 _ hbel⟩
            case measure => simp [intOf]; omega
        · rw [esc_byte _ (by rw [drop_nil s (k + 1) hk1]; intro e; simp at e), he1] at hc
          have HC := Lib.hid hc; clear hc h194 he1
          go_wp2_with (at_builtin; refine app_byte wr rfl (.tmp 20) (.tmp 22) rfl w.heap.size _ acc s[k] rfl hown rfl hl1 hN ?_; intro v4 w4 hown4 hk4)
          go_roundw
          case rel => exact ⟨k + 1, acc ++ [s[k]], by go_num, by omega, hown4, by rw [List.append_assoc]; exact HC.out, hk4 _ hbel⟩
          case measure => simp [intOf]; omega
      · have hb194 : (((s[k].toNat : Int)) == 194) = false := u8_ne (b := 194) h194
        rw [esc_byte _ (fun e => h194 e.1), he1] at hc
        have HC := Lib.hid hc; clear hc h194 he1
        go_wp2_with (at_builtin; refine app_byte wr rfl (.tmp 20) (.tmp 22) rfl w.heap.size _ acc s[k] rfl hown rfl hl1 hN ?_; intro v4 w4 hown4 hk4)
        go_roundw
        case rel => exact ⟨k + 1, acc ++ [s[k]], by go_num, by omega, hown4, by rw [List.append_assoc]; exact HC.out, hk4 _ hbel⟩
        case measure => simp [intOf]; omega
    · have hcv := hown.string
      rw [drop_nil s k hp, esc_nil, List.append_nil] at hc
      subst hc
      clear hl6
      go_wp2
      go_ret
      exact ⟨rfl, hbel⟩

theorem text_any (s : ByteArray) (w : World) (hs : s.size ≤ 10000000) : Calls Tryz.prog 129 #[.string s] w fun e w' => e = .returned (.string (B (esc false (L s)))) ∧ Below w.heap.size w w' := by
  go_enter Tryz.func129, Tryz.ntmps129
  go_wp2_with fail
  refine (escaped_false s w hs).mono ?_
  rintro e w1 ⟨rfl, hb1⟩
  go_wp2
  go_ret
  exact ⟨rfl, hb1⟩
theorem valueOf_any (s : ByteArray) (w : World) (hs : s.size ≤ 10000000) : Calls Tryz.prog 183 #[.string s] w fun e w' => e = .returned (.string (B (esc true (L s)))) ∧ Below w.heap.size w w' := by
  go_enter Tryz.func183, Tryz.ntmps183
  go_wp2_with fail
  refine (escaped_true s w hs).mono ?_
  rintro e w1 ⟨rfl, hb1⟩
  go_wp2
  go_ret
  exact ⟨rfl, hb1⟩

end Go.Proofs.YtgjlfcamgkeibaaGreatDoor.Re

namespace Go.Proofs.YtgjlfcamgkeibaaGreatDoor.Tm
set_option maxRecDepth 100000
set_option linter.unusedVariables false
set_option linter.unusedSimpArgs false
open Ba Fm Rm Nm
open Ro (At)
def rawT (t : Tk) : Bool := t.kind == 1 && isIn t.name rawL
def wAttr (a : At) : List UInt8 := [32] ++ (L a.name ++ ([61, 34] ++ (esc true (L a.value) ++ [34])))
def wStart (t : Tk) : List UInt8 := [60] ++ L t.name ++ t.attrs.flatMap wAttr ++ (if t.self = true then [32, 47] else []) ++ [62]
def w1 (raw : Bool) (t : Tk) : List UInt8 :=
  if t.kind = 0 then (if raw = true then L t.data else esc false (L t.data))
  else if t.kind = 1 then wStart t
  else if t.kind = 2 then [60, 47] ++ L t.name ++ [62]
  else if t.kind = 3 then [60, 33, 45, 45] ++ L t.data ++ [45, 45, 62]
  else if t.kind = 4 then [60, 33, 100, 111, 99, 116, 121, 112, 101, 32] ++ L t.data ++ [62]
  else []
def wAll (raw : Bool) : List Tk → List UInt8
  | [] => []
  | t :: r => w1 raw t ++ wAll (rawT t) r

theorem len_wAttr (a : At) : (wAttr a).length ≤ a.name.size + 6 * a.value.size + 4 := by
  have := (len_esc true (L a.value)).2.1
  unfold wAttr
  simp only [List.length_append, List.length_cons, List.length_nil, size_L]
  rw [size_L] at this
  omega
def bulkA (l : List At) : Nat := (l.map fun a => a.name.size + a.value.size).sum
theorem len_wAttrs : ∀ l : List At, (l.flatMap wAttr).length ≤ 6 * bulkA l + 4 * l.length
  | [] => by simp [bulkA]
  | a :: l => by
    have h1 := len_wAttr a
    have h2 := len_wAttrs l
    rw [List.flatMap_cons, List.length_append]
    unfold bulkA at h2 ⊢
    simp only [List.map_cons, List.sum_cons, List.length_cons]
    omega
def bulkT (t : Tk) : Nat := t.name.size + t.data.size + bulkA t.attrs + t.attrs.length
def bulk (l : List Tk) : Nat := (l.map bulkT).sum
end Go.Proofs.YtgjlfcamgkeibaaGreatDoor.Tm

namespace Go.Proofs.YtgjlfcamgkeibaaGreatDoor.To
set_option maxRecDepth 100000
set_option linter.unusedSimpArgs false
set_option linter.unusedVariables false
open Go.RowKit Ba Fm Fo Tm Nm
open Ro (At acells len_acells below_new Sh Ra acells_one info_attr)
open Re (Tab)
open Rm (dec esc)
def Kb (w w' : World) : Prop := w.heap.size ≤ w'.heap.size ∧ ∀ (i : Nat) (cs : Array Value) (t : TypeId) (fr : Nat × Nat), w.heap[i]? = some (.cells cs t fr) → t ≠ 5 → w'.heap[i]? = w.heap[i]?
theorem Kb.refl (w : World) : Kb w w := ⟨Nat.le_refl _, fun _ _ _ _ _ _ => rfl⟩
theorem Kb.trans {a b c : World} (h : Kb a b) (k : Kb b c) : Kb a c := ⟨Nat.le_trans h.1 k.1, fun i cs t fr hi ht => by
  have h1 := h.2 i cs t fr hi ht
  exact (k.2 i cs t fr (h1.trans hi) ht).trans h1⟩
theorem Kb.below {w w' : World} (h : Below w.heap.size w w') : Kb w w' := ⟨h.size, fun i cs t fr hi _ => h.block i (Array.getElem?_eq_some_iff.1 hi).1⟩
theorem own_ne {N b : Nat} {w : World} {v : Value} {l : List UInt8} (h : OwnB N w v l) {cs : Array Value} {t : TypeId} {fr : Nat × Nat} (hb : w.heap[b]? = some (.cells cs t fr)) (ht : t ≠ 5) : v.ownBlock ≠ some b := by
  rcases h.2 with ⟨rfl, _⟩ | ⟨g, cap, cur, rfl, _, hh, _⟩
  · simp [Value.ownBlock]
  · intro e
    have e : g = b := by simpa [Value.ownBlock] using e
    subst e
    rw [hb] at hh
    injection hh with hh
    injection hh with _ h2
    exact ht h2
theorem Kb.grown {N : Nat} {w w' : World} {v : Value} {l : List UInt8} (h : OwnB N w v l) (hg : w.grownBy w' v.ownBlock) : Kb w w' :=
  ⟨hg.size, fun i cs t fr hi ht => hg.block i (Array.getElem?_eq_some_iff.1 hi).1 fun e => own_ne h hi ht e.symm⟩
theorem app_strk {ops : Array Oper} {rest : List Oper} {o : Oper} {a : Act} {Q : Exit → Act → World → Prop} (w : World) (hgd : o.guard = none) (s x : Operand)
    (ho : o.op = .call { callee := .builtin .append, args := #[s, x], argTypes := #[88, 9] })
    (N : Nat) (v : Value) (l : List UInt8) (t : ByteArray) (hs : a.eval s = v) (hown : OwnB N w v l) (hx : a.eval x = .string t)
    (hl : l.length + t.size ≤ 140737488355328) (hN : N ≤ w.heap.size)
    (h : ∀ v' w', OwnB N w' v' (l ++ L t) → Below N w w' → Kb w w' → wpList Tryz.prog ops Q rest (a.put o.dst v') w') :
    wpList Tryz.prog ops Q (o :: rest) a w := by
  obtain ⟨i0, hi, hz0, hz1, hz2⟩ := info_parts info_u8
  refine Lib.wpList_append_own_string _ hgd s x 88 9 ho N 5 i0 Tryz.underlying88 Tryz.underlying9 hi hz0 hz1 hz2 v l.length (l.map bc) hs hown t hx (by unfold maxLen; omega) hl hN ?_
  intro v2 w2 hown2 hgrow2 _
  rw [strCells_b] at hown2
  exact h v2 w2 (OwnB.appended hown2 (by rw [size_L])) (hown.below hgrow2 (Below.refl _ _) hN) (Kb.grown hown hgrow2)

def Ls (w : World) (g : Nat) (l : List ByteArray) : Prop := w.heap[g]? = some (.cells (l.map sc).toArray 9)
theorem Ls.new (w : World) (l : List ByteArray) : Ls (w.alloc (.cells (l.map sc).toArray 9)) w.heap.size l := (MapKept.heap_alloc w _).1
theorem Ls.kb {w w' : World} {g : Nat} {l : List ByteArray} (h : Ls w g l) (k : Kb w w') : Ls w' g l := (k.2 g _ _ _ h (by decide)).trans h
theorem Ls.cell {w : World} {g : Nat} {l : List ByteArray} (h : Ls w g l) (j : Nat) (hj : j < l.length) : w.cell? ⟨g, j, none⟩ = some (.string l[j]) := by
  rw [cell_of_row w g j _ _ _ h]
  simp [sc, hj]

theorem flat_take (l : List ByteArray) (k : Nat) (h : k < l.length) : (l.take (k + 1)).flatMap L = (l.take k).flatMap L ++ L l[k] := by
  rw [List.take_succ_eq_append_getElem h, List.flatMap_append]
  simp
theorem flat_le (l : List ByteArray) (k : Nat) (h : k < l.length) : ((l.take k).flatMap L).length + l[k].size ≤ (l.flatMap L).length := by
  have e : l.flatMap L = (l.take (k + 1)).flatMap L ++ (l.drop (k + 1)).flatMap L := by rw [← List.flatMap_append, List.take_append_drop]
  rw [e, flat_take l k h, List.length_append, List.length_append, size_L]
  omega
end Go.Proofs.YtgjlfcamgkeibaaGreatDoor.To

namespace Go.Proofs.YtgjlfcamgkeibaaGreatDoor.To
set_option maxRecDepth 100000
set_option linter.unusedSimpArgs false
set_option linter.unusedVariables false
open Go.RowKit Ba Fm Fo Tm Nm
open Ro (At acells len_acells below_new Sh Ra acells_one info_attr range2)
open Re (Tab)
open Rm (dec esc)
def Tb (w : World) (g : Nat) (x : Tw) : Prop := w.heap[g]? = some (tokO x)
theorem Tb.new (w : World) (x : Tw) : Tb (w.alloc (tokO x)) w.heap.size x := (MapKept.heap_alloc w _).1
theorem Tb.c {w : World} {g : Nat} {x : Tw} (h : Tb w g x) : w.cell? ⟨g, 0, none⟩ = some (.int .i64 x.tk.kind) ∧ w.cell? ⟨g, 1, none⟩ = some (.string x.tk.name) ∧ w.cell? ⟨g, 2, none⟩ = some (.string x.tk.data) ∧ w.cell? ⟨g, 3, none⟩ = some (.slice x.A x.tk.attrs.length x.c) ∧ w.cell? ⟨g, 4, none⟩ = some (.bool x.tk.self) := by
  refine ⟨?_, ?_, ?_, ?_, ?_⟩
  · rw [cell_of_row w g 0 _ _ _ h]; rfl
  · rw [cell_of_row w g 1 _ _ _ h]; rfl
  · rw [cell_of_row w g 2 _ _ _ h]; rfl
  · rw [cell_of_row w g 3 _ _ _ h]; rfl
  · rw [cell_of_row w g 4 _ _ _ h]; rfl
theorem Tb.kb {w w' : World} {g : Nat} {x : Tw} (h : Tb w g x) (k : Kb w w') : Tb w' g x := (k.2 g _ _ _ h (by decide)).trans h
theorem Bx.kb {w w' : World} {g : Nat} {x y : ByteArray} (h : Bx w g x y) (k : Kb w w') : Bx w' g x y := (k.2 g _ _ _ h (by decide)).trans h
theorem Kb.alloc (w : World) (o : Obj) : Kb w (w.alloc o) := Kb.below (below_new w o)
theorem Ra.bl {w w' : World} {N M : Nat} {A : Option Addr} {l : List At} (h : Ra w N A l) (hb : Below M w w') (hN : N ≤ M) : Ra w' N A l := Ro.Ra.below h hb hN

theorem flat2 (a b : ByteArray) : [a, b].flatMap L = L a ++ L b := by rw [List.flatMap_cons, List.flatMap_cons, List.flatMap_nil, List.append_nil]
theorem flat3 (a b c : ByteArray) : [a, b, c].flatMap L = L a ++ (L b ++ L c) := by rw [List.flatMap_cons, flat2]
theorem flat5 (a b c d e : ByteArray) : [a, b, c, d, e].flatMap L = L a ++ (L b ++ (L c ++ (L d ++ L e))) := by rw [List.flatMap_cons, List.flatMap_cons, flat3]
theorem bulk_at (l : List At) (k : Nat) (h : k < l.length) : l[k].name.size + l[k].value.size ≤ bulkA l := by
  induction l generalizing k with
  | nil => simp at h
  | cons a r ih =>
    unfold bulkA at ih ⊢
    simp only [List.map_cons, List.sum_cons]
    cases k with
    | zero => simp
    | succ k =>
      have := ih k (by simpa using h)
      have e : (a :: r)[k + 1] = r[k]'(by simpa using h) := rfl
      rw [e]
      omega

end Go.Proofs.YtgjlfcamgkeibaaGreatDoor.To

namespace Go.Proofs.YtgjlfcamgkeibaaGreatDoor.To
set_option maxRecDepth 100000
set_option linter.unusedSimpArgs false
set_option linter.unusedVariables false
open Go.RowKit Ba Fm Fo Tm Nm
open Ro (At acells len_acells below_new Sh Ra acells_one info_attr range2 range5)
open Re (Tab)
open Rm (dec esc)
theorem bulk_cons (t : Tk) (l : List Tk) : bulk (t :: l) = bulkT t + bulk l := by simp [bulk]
end Go.Proofs.YtgjlfcamgkeibaaGreatDoor.To

namespace Go.Proofs.YtgjlfcamgkeibaaGreatDoor.Tm
set_option linter.unusedVariables false
set_option linter.unusedSimpArgs false
open Ba Fm Rm Nm
open Ro (At)
theorem bg_no {c : UInt8} (r : List UInt8) (h : c ≠ 60) : bg (c :: r) = false := by
  unfold bg
  have e : begun (c :: r) = 0 := by
    cases r with
    | nil => show (if c = 60 then 0 else 0) = 0; split <;> rfl
    | cons a q => rw [To.begun_two, if_neg h]
  rw [e]
  rfl
theorem lead_plain {s : List UInt8} (h : (60 : UInt8) ∉ s) (r : List UInt8) : lead bg (s ++ r) = s ++ lead bg r ∧ trail bg (s ++ r) = trail bg r := by
  induction s with
  | nil => exact ⟨rfl, rfl⟩
  | cons c q ih =>
    have hc : c ≠ 60 := fun e => h (by rw [e]; exact List.mem_cons_self)
    have hq := ih (fun e => h (List.mem_cons_of_mem _ e))
    rw [List.cons_append, lead_no (bg_no _ hc), trail_no (bg_no _ hc), hq.1, hq.2]
    exact ⟨rfl, rfl⟩
theorem mk_nil : mk [] = ([], []) := To.mk_0 (by decide) (by decide) (by decide) (by decide) (by decide) (by decide)
theorem within_nil (l : List UInt8) : within [] l = cut l := by
  unfold within
  rw [show cont [] l = ([], l) from by unfold cont; rw [if_neg (by decide), if_neg (by decide)]]
  rfl
theorem cut_turn (l : List UInt8) : cut l = (turn l).1 ++ cut (turn l).2 := by
  by_cases h : l = []
  · rw [h]
    show cut [] = (txt (dec []) ++ (mk []).1) ++ cut (mk []).2
    rw [dec_nil, mk_nil]
    show cut [] = [] ++ cut []
    rfl
  · exact To.cut_step h
theorem cut_at {s r : List UInt8} (h : (60 : UInt8) ∉ s) (hr : lead bg r = []) : cut (s ++ r) = txt (dec s) ++ ((mk (trail bg r)).1 ++ cut (mk (trail bg r)).2) := by
  rw [cut_turn]
  obtain ⟨h1, h2⟩ := lead_plain h r
  show (txt (dec (lead bg (s ++ r))) ++ (mk (trail bg (s ++ r))).1) ++ cut (mk (trail bg (s ++ r))).2 = _
  rw [h1, h2, hr, List.append_nil, List.append_assoc]
theorem cut_text {s : List UInt8} (h : (60 : UInt8) ∉ s) : cut s = txt (dec s) := by
  have := cut_at h (r := []) rfl
  rw [List.append_nil] at this
  rw [this]
  show txt (dec s) ++ ((mk []).1 ++ cut (mk []).2) = _
  rw [mk_nil]
  show txt (dec s) ++ ([] ++ cut []) = _
  rw [To.cut_nil, List.append_nil, List.append_nil]
theorem begins {r : List UInt8} (h : begun r ≠ 0) : lead bg r = [] ∧ trail bg r = r := by
  have hb : bg r = true := decide_eq_true h
  cases r with
  | nil => exact ⟨rfl, rfl⟩
  | cons c q => exact ⟨lead_yes hb, trail_yes hb⟩

theorem cut_len (l : List UInt8) : (cut l).length ≤ 3 * l.length := by
  induction hn : l.length using Nat.strongRecOn generalizing l with
  | ind n ih =>
    subst hn
    by_cases h : l = []
    · rw [h, To.cut_nil]; exact Nat.zero_le _
    · have h1 := To.len_turn h
      have h2 := To.turn_len l
      have h3 := ih _ h1 _ rfl
      rw [To.cut_step h, List.length_append]
      omega
theorem within_len (n l : List UInt8) : (within n l).length ≤ 3 * l.length + 1 := by
  unfold within
  rw [List.length_append]
  have h1 := cut_len (cont n l).2
  have h2 := To.len_cont n l
  have h3 : (cont n l).1.length ≤ 1 := by
    unfold cont
    split
    · exact To.len_txt _
    · split
      · exact To.len_txt _
      · simp
  omega

end Go.Proofs.YtgjlfcamgkeibaaGreatDoor.Tm

namespace Go.Proofs.YtgjlfcamgkeibaaGreatDoor.Tm
set_option linter.unusedVariables false
set_option linter.unusedSimpArgs false
open Ba Fm Rm Nm
open Ro (At)
theorem pre_cons (a b : UInt8) (t l : List UInt8) : pre (a :: t) (b :: l) = (decide (b = a) && pre t l) := by
  unfold pre
  rw [Bool.eq_iff_iff, decide_eq_true_iff, Bool.and_eq_true, decide_eq_true_iff, decide_eq_true_iff]
  simp only [List.length_cons, List.take_succ_cons, List.cons.injEq]
theorem pre_nil (l : List UInt8) : pre [] l = true := by unfold pre; simp
theorem pre_none (a : UInt8) (t : List UInt8) : pre (a :: t) [] = false := by unfold pre; simp
theorem lead_to {p : List UInt8 → Bool} {s r : List UInt8} (h : ∀ q, q ≠ [] → q <:+ s → p (q ++ r) = false) (hr : r = [] ∨ p r = true) : lead p (s ++ r) = s ∧ trail p (s ++ r) = r := by
  induction s with
  | nil =>
    rw [List.nil_append]
    rcases hr with rfl | hr
    · exact ⟨rfl, rfl⟩
    · cases r with
      | nil => exact ⟨rfl, rfl⟩
      | cons c q => exact ⟨lead_yes hr, trail_yes hr⟩
  | cons c q ih =>
    have h1 := h (c :: q) (List.cons_ne_nil _ _) (List.suffix_refl _)
    have h2 := ih (fun x hx hs => h x hx (hs.trans (List.suffix_cons c q)))
    rw [List.cons_append] at h1 ⊢
    rw [lead_no h1, trail_no h1, h2.1, h2.2]
    exact ⟨rfl, rfl⟩
theorem upTo_stop {q : UInt8 → Bool} {s : List UInt8} {c : UInt8} {r : List UInt8} (h : ∀ x ∈ s, q x = false) (hc : q c = true) : upTo q (s ++ c :: r) = s ∧ from_ q (s ++ c :: r) = c :: r := by
  refine lead_to (p := by1 q) (s := s) (r := c :: r) (fun x hx hs => ?_) (.inr hc)
  cases x with
  | nil => exact absurd rfl hx
  | cons a l => exact h a (hs.subset List.mem_cons_self)
theorem closed_at {s r : List UInt8} (h : (62 : UInt8) ∉ s) : closed (s ++ 62 :: r) = (s, r) := by
  obtain ⟨h1, h2⟩ := upTo_stop (q := gt) (s := s) (c := 62) (r := r) (fun x hx => by
    unfold gt
    simp only [beq_eq_false_iff_ne]
    exact fun e => h (by rw [← e]; exact hx)) rfl
  unfold closed
  rw [h1, h2]
  rfl
end Go.Proofs.YtgjlfcamgkeibaaGreatDoor.Tm

namespace Go.Proofs.YtgjlfcamgkeibaaGreatDoor.Tm
set_option linter.unusedVariables false
set_option linter.unusedSimpArgs false
open Ba Fm Rm Nm
open Ro (At)
theorem sum_trail (p : List UInt8 → Bool) (l : List UInt8) : (lead p l).length + (trail p l).length = l.length := by
  have := congrArg List.length (lead_trail p l)
  rwa [List.length_append] at this
theorem sum_quo (q : UInt8) (r : List UInt8) : (quo q r).1.length + (quo q r).2.length ≤ r.length := by
  have := sum_trail (by1 (is q)) r
  show (lead _ r).length + ((trail _ r).drop 1).length ≤ _
  rw [List.length_drop]
  omega
theorem sum_value (l : List UInt8) : (value l).1.length + (value l).2.length ≤ l.length := by
  have h1 := sum_quo 34 (l.drop 1)
  have h2 := sum_quo 39 (l.drop 1)
  have h3 := sum_trail (by1 ev) l
  rw [List.length_drop] at h1 h2
  unfold value
  split
  · omega
  · split
    · omega
    · show (lead (by1 ev) l).length + (trail (by1 ev) l).length ≤ _
      omega
theorem sum_valued (l : List UInt8) : (valued l).1.length + (valued l).2.length ≤ l.length := by
  have h1 := sum_value (trimS (l.drop 1))
  have h2 := len_trimS (l.drop 1)
  have h3 := len_dec (value (trimS (l.drop 1))).1
  rw [List.length_drop] at h2
  unfold valued
  split
  · show (dec _).length + (value _).2.length ≤ _
    omega
  · show 0 + l.length ≤ _
    omega
theorem sum_attr (c : UInt8) (r : List UInt8) : (attr c r).1.name.size + (attr c r).1.value.size + (attr c r).2.length ≤ r.length + 1 := by
  have h1 := sum_valued (trimS (from_ ea r))
  have h2 := len_trimS (from_ ea r)
  have h3 := sum_trail (by1 ea) r
  show (B (lowL (c :: upTo ea r))).size + (B (valued (trimS (from_ ea r))).1).size + (valued (trimS (from_ ea r))).2.length ≤ _
  rw [size_B, size_B, len_lowL, List.length_cons]
  have h4 : (from_ ea r).length = (trail (by1 ea) r).length := rfl
  have h5 : (upTo ea r).length = (lead (by1 ea) r).length := rfl
  omega
theorem bulkA_append (l : List At) (a : At) : bulkA (l ++ [a]) = bulkA l + (a.name.size + a.value.size) := by
  unfold bulkA
  rw [List.map_append, List.sum_append]
  simp
theorem sum_put (l : List At) (a : At) : bulkA (put l a) + (put l a).length ≤ bulkA l + l.length + (a.name.size + a.value.size + 1) := by
  unfold put
  split
  · omega
  · rw [bulkA_append, List.length_append]
    show _ + (_ + 1) ≤ _
    omega
theorem sum_attrs (l : List UInt8) : ∀ (self : Bool) (acc bs : List At) (sf : Bool) (r : List UInt8), attrs self acc l = some (bs, sf, r) → bulkA bs + bs.length + 2 * r.length ≤ bulkA acc + acc.length + 2 * l.length := by
  induction hn : l.length using Nat.strongRecOn generalizing l with
  | ind n ih =>
    intro self acc bs sf r h
    subst hn
    cases l with
    | nil => rw [attrs_nil] at h; cases h
    | cons c q =>
      by_cases h1 : c = 62
      · subst h1
        rw [attrs_end] at h
        injection h with h
        injection h with h h'
        injection h' with _ h'
        rw [← h, ← h', List.length_cons]
        omega
      · by_cases h2 : c = 47 ∨ sp c = true
        · rw [attrs_skip _ _ _ h1 h2] at h
          have := ih q.length (by simp) q rfl _ _ _ _ _ h
          rw [List.length_cons]
          omega
        · rw [attrs_attr _ _ _ h1 h2] at h
          have hq := sum_attr c q
          have hl := len_attr c q
          have hp := sum_put acc (attr c q).1
          have := ih (attr c q).2.length (by simp only [List.length_cons]; omega) _ rfl _ _ _ _ _ h
          rw [List.length_cons]
          omega
theorem bulk_append (a b : List Tk) : bulk (a ++ b) = bulk a + bulk b := by
  unfold bulk
  rw [List.map_append, List.sum_append]
theorem bulk_one (t : Tk) : bulk [t] = bulkT t := by simp [bulk]
theorem bulk_txt (d : List UInt8) : bulk (txt d) ≤ d.length := by
  unfold txt
  split
  · exact Nat.zero_le _
  · rw [bulk_one]
    show 0 + (B d).size + 0 + 0 ≤ _
    rw [size_B]
    omega
theorem sum_cont (n l : List UInt8) : bulk (cont n l).1 + (cont n l).2.length ≤ l.length := by
  have h1 := sum_trail (isEnd n) l
  unfold cont
  split
  · have := bulk_txt (lead (isEnd n) l)
    show bulk (txt _) + (trail _ l).length ≤ _
    omega
  · split
    · have := bulk_txt (dec (lead (isEnd n) l))
      have := len_dec (lead (isEnd n) l)
      show bulk (txt _) + (trail _ l).length ≤ _
      omega
    · show 0 + l.length ≤ _
      omega
theorem sum_start (l : List UInt8) : bulk (startTag l).1 + 2 * (startTag l).2.length ≤ 2 * l.length ∧ bulk (endTag l).1 + 2 * (endTag l).2.length ≤ 2 * l.length := by
  have h0 := sum_trail (by1 en) l
  cases ha : attrs false [] (from_ en l) with
  | none =>
    rw [(To.start_no ha).1, (To.start_no ha).2]
    exact ⟨Nat.zero_le _, Nat.zero_le _⟩
  | some x =>
    obtain ⟨bs, sf, r⟩ := x
    rw [(To.start_yes ha).1, (To.start_yes ha).2]
    have h1 := sum_attrs _ _ _ _ _ _ ha
    have h2 := sum_cont (lowL (upTo en l)) r
    have h3 : (B (lowL (upTo en l))).size = (lead (by1 en) l).length := by rw [size_B, len_lowL]
    have h4 : (from_ en l).length = (trail (by1 en) l).length := rfl
    have h5 : bulkA ([] : List At) + ([] : List At).length = 0 := rfl
    have e1 : bulkT ⟨1, B (lowL (upTo en l)), B [], bs, sf⟩ = (B (lowL (upTo en l))).size + 0 + bulkA bs + bs.length := rfl
    have e2 : bulkT ⟨2, B (lowL (upTo en l)), B [], [], false⟩ = (B (lowL (upTo en l))).size + 0 + 0 + 0 := rfl
    refine ⟨?_, ?_⟩
    · show bulk (_ :: (cont _ r).1) + 2 * (cont _ r).2.length ≤ _
      rw [To.bulk_cons]
      omega
    · show bulk [_] + 2 * r.length ≤ _
      rw [bulk_one]
      omega
theorem sum_comm (l : List UInt8) : (comm l).1.length + (comm l).2.length ≤ l.length := by
  have h := sum_trail cend l
  unfold comm
  split
  · show 0 + (l.drop 1).length ≤ _
    rw [List.length_drop]; omega
  · split
    · show 0 + (l.drop 2).length ≤ _
      rw [List.length_drop]; omega
    · show (lead cend l).length + ((trail cend l).drop _).length ≤ _
      rw [List.length_drop]; omega
theorem sum_closed (l : List UInt8) : (closed l).1.length + (closed l).2.length ≤ l.length := by
  have h := sum_trail (by1 gt) l
  show (lead (by1 gt) l).length + ((trail (by1 gt) l).drop 1).length ≤ _
  rw [List.length_drop]; omega
theorem sum_mk (l : List UInt8) : bulk (mk l).1 + 2 * (mk l).2.length ≤ 2 * l.length := by
  have d1 : (l.drop 1).length ≤ l.length := by rw [List.length_drop]; omega
  have d2 : (l.drop 2).length ≤ l.length := by rw [List.length_drop]; omega
  have d3 : (l.drop 3).length ≤ l.length := by rw [List.length_drop]; omega
  have d4 : (l.drop 4).length ≤ l.length := by rw [List.length_drop]; omega
  have d9 : (l.drop 9).length ≤ l.length := by rw [List.length_drop]; omega
  by_cases h1 : begun l = 1
  · rw [To.mk_1 h1]; have := (sum_start (l.drop 1)).1; omega
  by_cases h2 : begun l = 2
  · rw [To.mk_2 h2]; have := (sum_start (l.drop 2)).2; omega
  by_cases h3 : begun l = 3
  · rw [To.mk_3 h3]; show 0 + 2 * (l.drop 3).length ≤ _; omega
  by_cases h4 : begun l = 4
  · rw [To.mk_4 h4]
    have := sum_comm (l.drop 4)
    show bulk [_] + 2 * (comm (l.drop 4)).2.length ≤ _
    rw [bulk_one]
    show 0 + (B (comm (l.drop 4)).1).size + 0 + 0 + _ ≤ _
    rw [size_B]
    omega
  by_cases h5 : begun l = 5
  · rw [To.mk_5 h5]
    have := sum_closed (l.drop 9)
    have := len_trimL (closed (l.drop 9)).1
    show bulk [_] + 2 * (closed (l.drop 9)).2.length ≤ _
    rw [bulk_one]
    show 0 + (B (trimL (closed (l.drop 9)).1)).size + 0 + 0 + _ ≤ _
    rw [size_B]
    omega
  by_cases h6 : begun l = 6
  · rw [To.mk_6 h6]
    have := sum_closed (marks (l.drop 1))
    have := To.len_marks (l.drop 1)
    show bulk [_] + 2 * (closed (marks (l.drop 1))).2.length ≤ _
    rw [bulk_one]
    show 0 + (B (closed (marks (l.drop 1))).1).size + 0 + 0 + _ ≤ _
    rw [size_B]
    omega
  · rw [To.mk_0 h1 h2 h3 h4 h5 h6]; show 0 + 2 * l.length ≤ _; omega
theorem sum_turn (l : List UInt8) : bulk (turn l).1 + 2 * (turn l).2.length ≤ 2 * l.length := by
  show bulk (txt (dec (lead bg l)) ++ (mk (trail bg l)).1) + 2 * (mk (trail bg l)).2.length ≤ _
  rw [bulk_append]
  have h1 := sum_trail bg l
  have h2 := sum_mk (trail bg l)
  have h3 := bulk_txt (dec (lead bg l))
  have h4 := len_dec (lead bg l)
  omega
theorem bulk_cut (l : List UInt8) : bulk (cut l) ≤ 2 * l.length := by
  induction hn : l.length using Nat.strongRecOn generalizing l with
  | ind n ih =>
    subst hn
    by_cases h : l = []
    · rw [h, To.cut_nil]; exact Nat.zero_le _
    · have h1 := To.len_turn h
      have h2 := sum_turn l
      have h3 := ih _ h1 _ rfl
      rw [To.cut_step h, bulk_append]
      omega
theorem bulk_within (n l : List UInt8) : bulk (within n l) ≤ 2 * l.length := by
  unfold within
  rw [bulk_append]
  have h1 := bulk_cut (cont n l).2
  have h2 := sum_cont n l
  omega
theorem bulk_mem {l : List Tk} {t : Tk} (h : t ∈ l) : bulkT t ≤ bulk l := by
  induction l with
  | nil => cases h
  | cons a r ih =>
    rw [To.bulk_cons]
    rcases List.mem_cons.1 h with e | e
    · rw [e]; omega
    · have := ih e; omega

end Go.Proofs.YtgjlfcamgkeibaaGreatDoor.Tm

namespace Go.Proofs.YtgjlfcamgkeibaaGreatDoor.Tm
set_option linter.unusedVariables false
set_option linter.unusedSimpArgs false
open Ba Fm Rm Nm
open Ro (At)
theorem dec_esc_app (q : Bool) (l x : List UInt8) : dec (esc q l ++ x) = l ++ dec x := by
  refine writes q (Q := fun l => dec (esc q l ++ x) = l ++ dec x) (by rw [esc_nil]; rfl) (fun r ih => ?_) (fun c r hc ih => ?_) l
  · rw [esc_nbsp, List.append_assoc]
    refine (dec_ref (b := [110, 98, 115, 112]) (t := [194, 160]) (esc q r ++ x) (by decide) (by decide)).trans ?_
    rw [ih]; rfl
  · rw [esc_byte q hc, List.append_assoc]
    unfold e1
    split
    · rename_i e; subst e
      refine (dec_ref (b := [97, 109, 112]) (t := [38]) (esc q r ++ x) (by decide) (by decide)).trans ?_
      rw [ih]; rfl
    split
    · rename_i e; subst e
      refine (dec_ref (b := [108, 116]) (t := [60]) (esc q r ++ x) (by decide) (by decide)).trans ?_
      rw [ih]; rfl
    split
    · rename_i e; subst e
      refine (dec_ref (b := [103, 116]) (t := [62]) (esc q r ++ x) (by decide) (by decide)).trans ?_
      rw [ih]; rfl
    split
    · rename_i e; obtain ⟨rfl, _⟩ := e
      refine (dec_ref (b := [113, 117, 111, 116]) (t := [34]) (esc q r ++ x) (by decide) (by decide)).trans ?_
      rw [ih]; rfl
    · rename_i h _ _ _
      refine (dec_byte (esc q r ++ x) h).trans ?_
      rw [ih]; rfl

def nmOk (n : List UInt8) : Prop := by1 lr n = true ∧ ∀ c ∈ n, en c = false ∧ low c = c
theorem nm_low {n : List UInt8} (h : ∀ c ∈ n, low c = c) : lowL n = n := by
  unfold lowL
  exact (List.map_congr_left h).trans (List.map_id _)
def aOk (a : At) : Prop := ∃ c t, L a.name = c :: t ∧ c ≠ 62 ∧ c ≠ 47 ∧ sp c = false ∧ low c = c ∧ ∀ x ∈ t, ea x = false ∧ low x = x
def asOk (l : List At) : Prop := (∀ a ∈ l, aOk a) ∧ l.Pairwise fun a b => a.name ≠ b.name
theorem at_back {a : At} {c : UInt8} {t r : List UInt8} (hn : L a.name = c :: t) (hc : low c = c) (ht : ∀ x ∈ t, ea x = false ∧ low x = x) :
    attr c (t ++ 61 :: 34 :: (esc true (L a.value) ++ 34 :: r)) = (a, r) := by
  obtain ⟨u1, u2⟩ := upTo_stop (q := ea) (s := t) (c := 61) (r := 34 :: (esc true (L a.value) ++ 34 :: r)) (fun x hx => (ht x hx).1) (by decide)
  have hv : valued (61 :: 34 :: (esc true (L a.value) ++ 34 :: r)) = (L a.value, r) := by
    obtain ⟨v1, v2⟩ := upTo_stop (q := is 34) (s := esc true (L a.value)) (c := 34) (r := r) (fun x hx => by
      unfold is
      rw [beq_eq_false_iff_ne]
      intro e
      rw [e] at hx
      exact (esc_free true (L a.value)).2.2 rfl hx) (by decide)
    unfold valued
    rw [if_pos (by rfl)]
    have hval : value (trimS (34 :: (esc true (L a.value) ++ 34 :: r))) = (esc true (L a.value), r) := by
      rw [trimS_no _ (by decide)]
      unfold value
      rw [if_pos (by rfl)]
      show quo 34 (esc true (L a.value) ++ 34 :: r) = _
      unfold quo
      rw [v1, v2]
      rfl
    show (dec (value (trimS (34 :: (esc true (L a.value) ++ 34 :: r)))).1, (value (trimS (34 :: (esc true (L a.value) ++ 34 :: r)))).2) = _
    rw [hval]
    show (dec (esc true (L a.value)), r) = _
    rw [dec_esc]
  rw [To.attr_eq, u1, u2, trimS_no _ (by decide), hv]
  have hl : lowL (c :: t) = c :: t := nm_low (fun x hx => by
    rcases List.mem_cons.1 hx with e | e
    · rw [e]; exact hc
    · exact (ht x e).2)
  rw [hl, ← hn, B_L, B_L]
theorem put_new {acc : List At} {a : At} (h : ∀ b ∈ acc, b.name ≠ a.name) : put acc a = acc ++ [a] := by
  unfold put
  rw [if_neg]
  unfold known
  rw [List.any_eq_true]
  rintro ⟨b, hb, e⟩
  exact h b hb (of_decide_eq_true e)
theorem attrs_back : ∀ (l acc : List At) (sf : Bool) (r : List UInt8), (∀ a ∈ l, aOk a) → (acc ++ l).Pairwise (fun a b => a.name ≠ b.name) →
    attrs false acc (l.flatMap wAttr ++ ((if sf = true then [32, 47] else []) ++ 62 :: r)) = some (acc ++ l, sf, r)
  | [], acc, sf, r, _, _ => by
    rw [List.append_nil]
    cases sf with
    | false => exact attrs_end _ _ _
    | true =>
      show attrs false acc (32 :: 47 :: 62 :: r) = _
      rw [attrs_skip _ _ _ (by decide) (.inr (by decide)), attrs_skip _ _ _ (by decide) (.inl rfl)]
      exact attrs_end _ _ _
  | a :: l, acc, sf, r, h, hp => by
    obtain ⟨c, t, hn, c1, c2, c3, c4, ht⟩ := h a List.mem_cons_self
    have e : (a :: l).flatMap wAttr ++ ((if sf = true then [32, 47] else []) ++ 62 :: r) = 32 :: c :: (t ++ 61 :: 34 :: (esc true (L a.value) ++ 34 :: (l.flatMap wAttr ++ ((if sf = true then [32, 47] else []) ++ 62 :: r)))) := by
      rw [List.flatMap_cons]
      unfold wAttr
      rw [hn]
      simp only [List.append_assoc, List.cons_append, List.nil_append]
    rw [e, attrs_skip _ _ _ (by decide) (.inr (by decide)), attrs_attr _ _ _ c1 (by rw [c3]; simpa using c2), at_back hn c4 ht]
    have hp' : ∀ b ∈ acc, b.name ≠ a.name := fun b hb => (List.pairwise_append.1 hp).2.2 b hb a List.mem_cons_self
    rw [put_new hp']
    have := attrs_back l (acc ++ [a]) sf r (fun b hb => h b (List.mem_cons_of_mem _ hb)) (by rw [List.append_assoc]; exact hp)
    rw [this, List.append_assoc]
    rfl

theorem start_back {n : List UInt8} (hn : nmOk n) {l : List At} (ha : asOk l) (sf : Bool) (r : List UInt8) :
    startTag (n ++ (l.flatMap wAttr ++ ((if sf = true then [32, 47] else []) ++ 62 :: r))) = (⟨1, B n, B [], l, sf⟩ :: (cont n r).1, (cont n r).2) := by
  have hu : ∀ X : List UInt8, by1 en X = true → upTo en (n ++ X) = n ∧ from_ en (n ++ X) = X := fun X hX => by
    cases X with
    | nil => cases hX
    | cons c q => exact upTo_stop (fun x hx => (hn.2 x hx).1) hX
  have hX : by1 en (l.flatMap wAttr ++ ((if sf = true then [32, 47] else []) ++ 62 :: r)) = true := by
    cases l with
    | nil => cases sf <;> rfl
    | cons a q => rfl
  obtain ⟨u1, u2⟩ := hu _ hX
  have hat : attrs false [] (from_ en (n ++ (l.flatMap wAttr ++ ((if sf = true then [32, 47] else []) ++ 62 :: r)))) = some (l, sf, r) := by
    rw [u2]
    have := attrs_back l [] sf r ha.1 (by rw [List.nil_append]; exact ha.2)
    rwa [List.nil_append] at this
  have := (To.start_yes hat).1
  rw [u1, nm_low (fun c hc => (hn.2 c hc).2)] at this
  exact this
theorem end_back {n : List UInt8} (hn : nmOk n) (r : List UInt8) : endTag (n ++ 62 :: r) = ([⟨2, B n, B [], [], false⟩], r) := by
  obtain ⟨u1, u2⟩ := upTo_stop (q := en) (s := n) (c := 62) (r := r) (fun x hx => (hn.2 x hx).1) (by decide)
  have hat : attrs false [] (from_ en (n ++ 62 :: r)) = some ([], false, r) := by rw [u2]; exact attrs_end _ _ _
  have := (To.start_yes hat).2
  rw [u1, nm_low (fun c hc => (hn.2 c hc).2)] at this
  exact this
theorem begun_name {n r : List UInt8} (hn : nmOk n) : begun (60 :: (n ++ r)) = 1 ∧ begun (60 :: 47 :: (n ++ r)) = 2 := by
  cases n with
  | nil => exact absurd hn.1 (by decide)
  | cons c q =>
    have hc : lr c = true := hn.1
    refine ⟨?_, ?_⟩
    · show begun (60 :: c :: (q ++ r)) = 1
      rw [To.begun_two, if_pos rfl, if_pos hc]
    · show begun (60 :: 47 :: c :: (q ++ r)) = 2
      rw [To.begun_two, if_pos rfl, if_neg (by decide), if_pos rfl]
      show (if lr c = true then 2 else if c = 62 then 3 else 6) = 2
      rw [if_pos hc]

def Clo (e p : List UInt8) : Prop := (60 : UInt8) ∉ e ∧ ∀ x, dec (e ++ x) = p ++ dec x
theorem clo_nil : Clo [] [] := ⟨by simp, fun x => rfl⟩
theorem Clo.esc {e p : List UInt8} (h : Clo e p) (d : List UInt8) : Clo (e ++ esc false d) (p ++ d) :=
  ⟨fun c => (List.mem_append.1 c).elim h.1 (esc_free false d).1, fun x => by rw [List.append_assoc, h.2, dec_esc_app, List.append_assoc]⟩
theorem Clo.dec {e p : List UInt8} (h : Clo e p) : dec e = p := by
  have := h.2 []
  rwa [List.append_nil, Rm.dec_nil, List.append_nil] at this
theorem cut_clo {e p r : List UInt8} (h : Clo e p) (hb : begun r ≠ 0) : cut (e ++ r) = txt p ++ ((mk r).1 ++ cut (mk r).2) := by
  obtain ⟨h1, h2⟩ := begins hb
  have := cut_at h.1 h1
  rwa [h2, h.dec] at this

def softOr (n : List UInt8) : Bool := rawB n || softB n
inductive Good : List Tk → Prop
  | nil : Good []
  | text (d : List UInt8) (r : List Tk) : d ≠ [] → Good r → Good (tx d :: r)
  | comment (d : List UInt8) (r : List Tk) : (∀ x, comm (d ++ ([45, 45, 62] ++ x)) = (d, x)) → Good r → Good (⟨3, B [], B d, [], false⟩ :: r)
  | doctype (d : List UInt8) (r : List Tk) : (62 : UInt8) ∉ d → trimL d = d → Good r → Good (⟨4, B [], B d, [], false⟩ :: r)
  | end_ (n : List UInt8) (r : List Tk) : nmOk n → Good r → Good (⟨2, B n, B [], [], false⟩ :: r)
  | start (n : List UInt8) (l : List At) (sf : Bool) (r : List Tk) : nmOk n → asOk l → softOr n = false → Good r → Good (⟨1, B n, B [], l, sf⟩ :: r)
  | raw (n : List UInt8) (l : List At) (sf : Bool) (d : List UInt8) (r : List Tk) : nmOk n → asOk l → rawB n = true → d ≠ [] → lead (isEnd n) (d ++ wAll false r) = d → trail (isEnd n) (d ++ wAll false r) = wAll false r → Good r → Good (⟨1, B n, B [], l, sf⟩ :: tx d :: r)
  | soft (n : List UInt8) (l : List At) (sf : Bool) (d : List UInt8) (r : List Tk) : nmOk n → asOk l → rawB n = false → softB n = true → d ≠ [] → lead (isEnd n) (esc false d ++ wAll false r) = esc false d → trail (isEnd n) (esc false d ++ wAll false r) = wAll false r → Good r → Good (⟨1, B n, B [], l, sf⟩ :: tx d :: r)
  | none_ (n : List UInt8) (l : List At) (sf : Bool) (r : List Tk) : nmOk n → asOk l → softOr n = true → (∀ d q, r ≠ tx d :: q) → wAll true r = wAll false r → lead (isEnd n) (wAll false r) = [] → trail (isEnd n) (wAll false r) = wAll false r → Good r → Good (⟨1, B n, B [], l, sf⟩ :: r)

end Go.Proofs.YtgjlfcamgkeibaaGreatDoor.Tm

namespace Go.Proofs.YtgjlfcamgkeibaaGreatDoor.Tm
set_option linter.unusedVariables false
set_option linter.unusedSimpArgs false
open Ba Fm Rm Nm
open Ro (At)
theorem en_no {c : UInt8} (h : en c = false) : c ≠ 47 ∧ c ≠ 62 ∧ sp c = false := by
  unfold en ev at h
  simp only [Bool.or_eq_false_iff, beq_eq_false_iff_ne] at h
  exact ⟨h.1, h.2.1, h.2.2⟩
theorem lead_mem {q : UInt8 → Bool} : ∀ {l : List UInt8} {c : UInt8}, c ∈ lead (by1 q) l → q c = false
  | [], c, h => by cases h
  | a :: r, c, h => by
    cases ha : by1 q (a :: r) with
    | true => rw [lead_yes ha] at h; cases h
    | false =>
      rw [lead_no ha] at h
      rcases List.mem_cons.1 h with e | e
      · rw [e]; exact ha
      · exact lead_mem e
theorem lr_no {c : UInt8} (h : lr c = true) : en c = false := by
  have e : ∀ k : UInt8, lr k = false → (c == k) = false := fun k hk => by
    rw [beq_eq_false_iff_ne]
    intro e
    rw [e, hk] at h
    cases h
  unfold en ev sp
  rw [e 47 (by decide), e 62 (by decide), e 32 (by decide), e 9 (by decide), e 10 (by decide), e 12 (by decide), e 13 (by decide)]
  rfl
theorem slashed_2 {r : List UInt8} (h : slashed r = 2) : by1 lr r = true := by
  cases r with
  | nil => cases h
  | cons d q =>
    have h : (if lr d = true then 2 else if d = 62 then 3 else 6) = 2 := h
    show lr d = true
    by_cases hd : lr d = true
    · exact hd
    · rw [if_neg hd] at h
      split at h <;> cases h
theorem begun_letter {l : List UInt8} : (begun l = 1 → by1 lr (l.drop 1) = true) ∧ (begun l = 2 → by1 lr (l.drop 2) = true) := by
  match l with
  | [] => exact ⟨fun h => absurd h (by decide), fun h => absurd h (by decide)⟩
  | [a] =>
    have : begun [a] = 0 := by show (if a = 60 then 0 else 0) = 0; split <;> rfl
    rw [this]
    exact ⟨fun h => absurd h (by decide), fun h => absurd h (by decide)⟩
  | a :: c :: r =>
    rw [To.begun_two]
    have hm := (To.marked_ge r).1
    split
    · by_cases hc : lr c = true
      · rw [if_pos hc]
        exact ⟨fun _ => hc, fun h => absurd h (by decide)⟩
      · rw [if_neg hc]
        split
        · refine ⟨fun h => ?_, fun h => slashed_2 h⟩
          rcases To.slashed_cases r with e | ⟨_, e | e | e⟩ <;> omega
        · split
          · exact ⟨fun h => by omega, fun h => by omega⟩
          · split
            · exact ⟨fun h => absurd h (by decide), fun h => absurd h (by decide)⟩
            · exact ⟨fun h => absurd h (by decide), fun h => absurd h (by decide)⟩
    · exact ⟨fun h => absurd h (by decide), fun h => absurd h (by decide)⟩
end Go.Proofs.YtgjlfcamgkeibaaGreatDoor.Tm

namespace Go.Proofs.YtgjlfcamgkeibaaGreatDoor.Tm
set_option linter.unusedVariables false
set_option linter.unusedSimpArgs false
open Ba Fm Rm Nm
open Ro (At)
def holds (t : Tk) : Bool := t.kind == 1 && softOr (L t.name)
def fin : Bool → List UInt8 → List Tk → List Tk
  | _, p, [] => txt p
  | h, p, t :: r => if t.kind = 0 then (if h = true then t :: fin false [] r else fin false (p ++ L t.data) r) else txt p ++ (t :: fin (holds t) [] r)
theorem fin_other {h : Bool} {p : List UInt8} {t : Tk} {r : List Tk} (hk : t.kind ≠ 0) : fin h p (t :: r) = txt p ++ (t :: fin (holds t) [] r) := by
  show (if t.kind = 0 then _ else _) = _
  rw [if_neg hk]
theorem fin_text {p : List UInt8} {t : Tk} {r : List Tk} (hk : t.kind = 0) : fin false p (t :: r) = fin false (p ++ L t.data) r := by
  show (if t.kind = 0 then (if false = true then _ else _) else _) = _
  rw [if_pos hk, if_neg (by simp)]
theorem fin_held {p : List UInt8} {t : Tk} {r : List Tk} (hk : t.kind = 0) : fin true p (t :: r) = t :: fin false [] r := by
  show (if t.kind = 0 then (if true = true then _ else _) else _) = _
  rw [if_pos hk, if_pos rfl]
theorem good_head {r : List Tk} (h : Good r) (hn : ∀ d q, r ≠ tx d :: q) : fin true [] r = fin false [] r := by
  cases h with
  | nil => rfl
  | text d q _ _ => exact absurd rfl (hn d q)
  | comment d q _ _ => rw [fin_other (h := true) (by decide : (3 : Int) ≠ 0), fin_other (h := false) (by decide : (3 : Int) ≠ 0)]
  | doctype d q _ _ _ => rw [fin_other (h := true) (by decide : (4 : Int) ≠ 0), fin_other (h := false) (by decide : (4 : Int) ≠ 0)]
  | end_ n q _ _ => rw [fin_other (h := true) (by decide : (2 : Int) ≠ 0), fin_other (h := false) (by decide : (2 : Int) ≠ 0)]
  | start n l sf q _ _ _ _ => rw [fin_other (h := true) (by decide : (1 : Int) ≠ 0), fin_other (h := false) (by decide : (1 : Int) ≠ 0)]
  | raw n l sf d q _ _ _ _ _ _ _ => rw [fin_other (h := true) (by decide : (1 : Int) ≠ 0), fin_other (h := false) (by decide : (1 : Int) ≠ 0)]
  | soft n l sf d q _ _ _ _ _ _ _ _ => rw [fin_other (h := true) (by decide : (1 : Int) ≠ 0), fin_other (h := false) (by decide : (1 : Int) ≠ 0)]
  | none_ n l sf q _ _ _ _ _ _ _ _ => rw [fin_other (h := true) (by decide : (1 : Int) ≠ 0), fin_other (h := false) (by decide : (1 : Int) ≠ 0)]
theorem wAll_cons (raw : Bool) (t : Tk) (r : List Tk) : wAll raw (t :: r) = w1 raw t ++ wAll (rawT t) r := rfl
theorem w1_text (d : List UInt8) : w1 false (tx d) = esc false d ∧ w1 true (tx d) = d := by
  refine ⟨?_, ?_⟩
  · show (if (0 : Int) = 0 then (if false = true then _ else esc false (L (B d))) else _) = _
    rw [if_pos rfl, if_neg (by simp), L_B]
  · show (if (0 : Int) = 0 then (if true = true then L (B d) else _) else _) = _
    rw [if_pos rfl, if_pos rfl, L_B]
theorem w1_start (raw : Bool) (n : List UInt8) (l : List At) (sf : Bool) (x : List UInt8) : w1 raw ⟨1, B n, B [], l, sf⟩ ++ x = 60 :: (n ++ (l.flatMap wAttr ++ ((if sf = true then [32, 47] else []) ++ 62 :: x))) := by
  unfold w1
  rw [if_neg (show (1 : Int) ≠ 0 by decide), if_pos rfl]
  unfold wStart
  show ([60] ++ L (B n) ++ l.flatMap wAttr ++ (if sf = true then [32, 47] else []) ++ [62]) ++ x = _
  rw [L_B]
  simp only [List.append_assoc, List.cons_append, List.nil_append]
theorem w1_end (raw : Bool) (n x : List UInt8) : w1 raw ⟨2, B n, B [], [], false⟩ ++ x = 60 :: 47 :: (n ++ 62 :: x) := by
  unfold w1
  rw [if_neg (show (2 : Int) ≠ 0 by decide), if_neg (show (2 : Int) ≠ 1 by decide), if_pos rfl]
  show ([60, 47] ++ L (B n) ++ [62]) ++ x = _
  rw [L_B]
  simp only [List.append_assoc, List.cons_append, List.nil_append]
theorem w1_comment (raw : Bool) (d x : List UInt8) : w1 raw ⟨3, B [], B d, [], false⟩ ++ x = 60 :: 33 :: 45 :: 45 :: (d ++ ([45, 45, 62] ++ x)) := by
  unfold w1
  rw [if_neg (show (3 : Int) ≠ 0 by decide), if_neg (show (3 : Int) ≠ 1 by decide), if_neg (show (3 : Int) ≠ 2 by decide), if_pos rfl]
  show ([60, 33, 45, 45] ++ L (B d) ++ [45, 45, 62]) ++ x = _
  rw [L_B]
  simp only [List.append_assoc, List.cons_append, List.nil_append]
theorem w1_doctype (raw : Bool) (d x : List UInt8) : w1 raw ⟨4, B [], B d, [], false⟩ ++ x = 60 :: 33 :: 100 :: 111 :: 99 :: 116 :: 121 :: 112 :: 101 :: 32 :: (d ++ 62 :: x) := by
  unfold w1
  rw [if_neg (show (4 : Int) ≠ 0 by decide), if_neg (show (4 : Int) ≠ 1 by decide), if_neg (show (4 : Int) ≠ 2 by decide), if_neg (show (4 : Int) ≠ 3 by decide), if_pos rfl]
  show ([60, 33, 100, 111, 99, 116, 121, 112, 101, 32] ++ L (B d) ++ [62]) ++ x = _
  rw [L_B]
  simp only [List.append_assoc, List.cons_append, List.nil_append]
theorem rawT_start (n : List UInt8) (l : List At) (sf : Bool) : rawT ⟨1, B n, B [], l, sf⟩ = rawB n := rfl
theorem holds_start (n : List UInt8) (l : List At) (sf : Bool) : holds ⟨1, B n, B [], l, sf⟩ = softOr n := by
  show ((1 : Int) == 1 && softOr (L (B n))) = _
  rw [L_B]; rfl
theorem cont_r {n l : List UInt8} (h : rawB n = true) : cont n l = (txt (lead (isEnd n) l), trail (isEnd n) l) := by unfold cont; rw [if_pos h]
theorem cont_s {n l : List UInt8} (h : rawB n = false) (h' : softB n = true) : cont n l = (txt (dec (lead (isEnd n) l)), trail (isEnd n) l) := by unfold cont; rw [if_neg (by rw [h]; simp), if_pos h']
theorem cont_n {n l : List UInt8} (h : softOr n = false) : cont n l = ([], l) := by
  unfold softOr at h
  rw [Bool.or_eq_false_iff] at h
  unfold cont
  rw [if_neg (by rw [h.1]; simp), if_neg (by rw [h.2]; simp)]
theorem txt_some {d : List UInt8} (h : d ≠ []) : txt d = [tx d] := by unfold txt; rw [if_neg h]

theorem good_cut {T : List Tk} (h : Good T) : ∀ e p, Clo e p → cut (e ++ wAll false T) = fin false p T := by
  induction h with
  | nil =>
    intro e p hc
    show cut (e ++ []) = txt p
    rw [List.append_nil, cut_text hc.1, hc.dec]
  | text d r hd _ ih =>
    intro e p hc
    rw [wAll_cons, (w1_text d).1, ← List.append_assoc]
    have := ih _ _ (hc.esc d)
    rw [fin_text (t := tx d) rfl]
    show _ = fin false (p ++ L (B d)) r
    rw [L_B]
    exact this
  | comment d r hcm _ ih =>
    intro e p hc
    rw [wAll_cons, w1_comment]
    have b4 : begun (60 :: 33 :: 45 :: 45 :: (d ++ ([45, 45, 62] ++ wAll (rawT ⟨3, B [], B d, [], false⟩) r))) = 4 := by
      rw [To.begun_two, if_pos rfl, if_neg (by decide), if_neg (by decide), if_pos rfl]
      exact To.marked_4 (by simp [pre_cons, pre_nil])
    rw [cut_clo hc (by rw [b4]; decide), To.mk_4 b4, fin_other (by decide : (3 : Int) ≠ 0)]
    show txt p ++ ([⟨3, B [], B (comm (d ++ ([45, 45, 62] ++ wAll false r))).1, [], false⟩] ++ cut (comm (d ++ ([45, 45, 62] ++ wAll false r))).2) = _
    rw [hcm]
    have := ih [] [] clo_nil
    rw [List.nil_append] at this
    show txt p ++ ([_] ++ cut (wAll false r)) = _
    rw [this]
    rfl
  | doctype d r h62 htr _ ih =>
    intro e p hc
    rw [wAll_cons, w1_doctype]
    have b5 : begun (60 :: 33 :: 100 :: 111 :: 99 :: 116 :: 121 :: 112 :: 101 :: 32 :: (d ++ 62 :: wAll (rawT ⟨4, B [], B d, [], false⟩) r)) = 5 := by
      rw [To.begun_two, if_pos rfl, if_neg (by decide), if_neg (by decide), if_pos rfl]
      exact To.marked_5 (by simp [pre_cons]) (show lowL [100, 111, 99, 116, 121, 112, 101] = _ from by decide) (show lr 32 = false from by decide)
    rw [cut_clo hc (by rw [b5]; decide), To.mk_5 b5, fin_other (by decide : (4 : Int) ≠ 0)]
    show txt p ++ ([⟨4, B [], B (trimL (closed (32 :: (d ++ 62 :: wAll false r))).1), [], false⟩] ++ cut (closed (32 :: (d ++ 62 :: wAll false r))).2) = _
    have hcl := closed_at (s := 32 :: d) (r := wAll false r) (fun e => by
      rcases List.mem_cons.1 e with e | e
      · exact absurd e (by decide)
      · exact h62 e)
    rw [List.cons_append] at hcl
    rw [hcl]
    have := ih [] [] clo_nil
    rw [List.nil_append] at this
    show txt p ++ ([⟨4, B [], B (trimL (32 :: d)), [], false⟩] ++ cut (wAll false r)) = _
    rw [this, show trimL (32 :: d) = trimL d from by unfold trimL; rw [trimS_sp _ (by decide)], htr]
    rfl
  | end_ n r hn _ ih =>
    intro e p hc
    rw [wAll_cons, w1_end]
    have b2 := (begun_name (r := 62 :: wAll (rawT ⟨2, B n, B [], [], false⟩) r) hn).2
    rw [cut_clo hc (by rw [b2]; decide), To.mk_2 b2, fin_other (by decide : (2 : Int) ≠ 0)]
    show txt p ++ ((endTag (n ++ 62 :: wAll false r)).1 ++ cut (endTag (n ++ 62 :: wAll false r)).2) = _
    rw [end_back hn]
    have := ih [] [] clo_nil
    rw [List.nil_append] at this
    show txt p ++ ([_] ++ cut (wAll false r)) = _
    rw [this]
    rfl
  | start n l sf r hn ha hso _ ih =>
    intro e p hc
    have hraw : rawB n = false := by
      unfold softOr at hso
      exact (Bool.or_eq_false_iff.1 hso).1
    rw [wAll_cons, w1_start, rawT_start, hraw]
    have b1 := (begun_name (r := l.flatMap wAttr ++ ((if sf = true then [32, 47] else []) ++ 62 :: wAll false r)) hn).1
    rw [cut_clo hc (by rw [b1]; decide), To.mk_1 b1, fin_other (by decide : (1 : Int) ≠ 0), holds_start, hso]
    show txt p ++ ((startTag (n ++ (l.flatMap wAttr ++ ((if sf = true then [32, 47] else []) ++ 62 :: wAll false r)))).1 ++ cut (startTag (n ++ (l.flatMap wAttr ++ ((if sf = true then [32, 47] else []) ++ 62 :: wAll false r)))).2) = _
    rw [start_back hn ha, cont_n hso]
    have := ih [] [] clo_nil
    rw [List.nil_append] at this
    show txt p ++ ([_] ++ cut (wAll false r)) = _
    rw [this]
    rfl
  | raw n l sf d r hn ha hraw hd hl ht _ ih =>
    intro e p hc
    have hso : softOr n = true := by unfold softOr; rw [hraw]; rfl
    rw [wAll_cons, w1_start, rawT_start, hraw, wAll_cons, (w1_text d).2]
    have b1 := (begun_name (r := l.flatMap wAttr ++ ((if sf = true then [32, 47] else []) ++ 62 :: (d ++ wAll (rawT (tx d)) r))) hn).1
    rw [cut_clo hc (by rw [b1]; decide), To.mk_1 b1, fin_other (by decide : (1 : Int) ≠ 0), holds_start, hso, fin_held (t := tx d) rfl]
    show txt p ++ ((startTag (n ++ (l.flatMap wAttr ++ ((if sf = true then [32, 47] else []) ++ 62 :: (d ++ wAll false r))))).1 ++ cut (startTag (n ++ (l.flatMap wAttr ++ ((if sf = true then [32, 47] else []) ++ 62 :: (d ++ wAll false r))))).2) = _
    rw [start_back hn ha, cont_r hraw, hl, ht, txt_some hd]
    have := ih [] [] clo_nil
    rw [List.nil_append] at this
    show txt p ++ ([_, _] ++ cut (wAll false r)) = _
    rw [this]
    rfl
  | soft n l sf d r hn ha hraw hsoft hd hl ht _ ih =>
    intro e p hc
    have hso : softOr n = true := by unfold softOr; rw [hsoft, Bool.or_true]
    rw [wAll_cons, w1_start, rawT_start, hraw, wAll_cons, (w1_text d).1]
    have b1 := (begun_name (r := l.flatMap wAttr ++ ((if sf = true then [32, 47] else []) ++ 62 :: (esc false d ++ wAll (rawT (tx d)) r))) hn).1
    rw [cut_clo hc (by rw [b1]; decide), To.mk_1 b1, fin_other (by decide : (1 : Int) ≠ 0), holds_start, hso, fin_held (t := tx d) rfl]
    show txt p ++ ((startTag (n ++ (l.flatMap wAttr ++ ((if sf = true then [32, 47] else []) ++ 62 :: (esc false d ++ wAll false r))))).1 ++ cut (startTag (n ++ (l.flatMap wAttr ++ ((if sf = true then [32, 47] else []) ++ 62 :: (esc false d ++ wAll false r))))).2) = _
    rw [start_back hn ha, cont_s hraw hsoft, hl, ht, dec_esc, txt_some hd]
    have := ih [] [] clo_nil
    rw [List.nil_append] at this
    show txt p ++ ([_, _] ++ cut (wAll false r)) = _
    rw [this]
    rfl
  | none_ n l sf r hn ha hso hnt hw hl ht hr ih =>
    intro e p hc
    have hw' : wAll (rawB n) r = wAll false r := by
      cases hb : rawB n with
      | true => exact hw
      | false => rfl
    rw [wAll_cons, w1_start, rawT_start, hw']
    have b1 := (begun_name (r := l.flatMap wAttr ++ ((if sf = true then [32, 47] else []) ++ 62 :: wAll false r)) hn).1
    rw [cut_clo hc (by rw [b1]; decide), To.mk_1 b1, fin_other (by decide : (1 : Int) ≠ 0), holds_start, hso, good_head hr hnt]
    show txt p ++ ((startTag (n ++ (l.flatMap wAttr ++ ((if sf = true then [32, 47] else []) ++ 62 :: wAll false r)))).1 ++ cut (startTag (n ++ (l.flatMap wAttr ++ ((if sf = true then [32, 47] else []) ++ 62 :: wAll false r)))).2) = _
    have hcont : cont n (wAll false r) = ([], wAll false r) := by
      cases hb : rawB n with
      | true => rw [cont_r hb, hl, ht]; rfl
      | false =>
        have hs : softB n = true := by
          unfold softOr at hso
          rw [hb, Bool.false_or] at hso
          exact hso
        rw [cont_s hb hs, hl, ht, dec_nil]; rfl
    rw [start_back hn ha, hcont]
    have := ih [] [] clo_nil
    rw [List.nil_append] at this
    show txt p ++ ([_] ++ cut (wAll false r)) = _
    rw [this]
    rfl

end Go.Proofs.YtgjlfcamgkeibaaGreatDoor.Tm
