/-
  Walks of stage 6: tag of the reader. Walks of stage 6: markup of the reader. Walks of stage 6: token.In, token.Cut: the tokens are those of TokMath.
-/
import Derived.Test.YtjhhhlomkfnniaaDoorTokAdd
namespace Go.Proofs.YtjhhhlomkfnniaaDoor.To
set_option linter.unusedSimpArgs false
set_option linter.unusedVariables false
open Go.RowKit Ba Fm Fo Tm Nm
open Ro (At acells len_acells below_new Sh Ra acells_one info_attr)
open Re (Tab)
open Rm (dec)

set_option maxRecDepth 100000 in
set_option maxHeartbeats 4000000 in
theorem tag_start (N b k : Nat) (s : ByteArray) (l : List Tw) (w : World) (h : Rg N w b s k l) (hk : k ≤ s.size) (hs : s.size ≤ 1000000000) (hl : l.length ≤ 1000000000) (hT : Tab w) (hN0 : 0 < N) :
    Calls Tryd.prog 60 #[rp b, .int .i64 1] w fun e w' => e = .returned (.tuple #[]) ∧ ∃ m l', m ≤ s.size ∧ (L s).drop m = (startTag ((L s).drop k)).2 ∧ Rg N w' b s m l' ∧ tks l' = tks l ++ (startTag ((L s).drop k)).1 ∧ Below N w w' := by
  have hs' : s.size ≤ 140737488355328 := by omega
  have HT := Lib.hid hT; clear hT
  obtain ⟨V, hr, ho, hN⟩ := h
  have hb0 : 0 < b := by omega
  go_enter Tryd.func60, Tryd.ntmps60
  go_wp2_with fail
  refine (upTo_en b k s V w hr hk hs').mono ?_
  rintro e w1 ⟨rfl, m1, hm1, hd1, h1, hg1⟩
  obtain ⟨g1, B1⟩ := Rg.step hr ho hN hg1 h1
  have B1' := B1 _ (Below.refl N w)
  have hsz : (B (upTo en ((L s).drop k))).size ≤ s.size := by
    rw [size_B]
    have := len_lead (by1 en) ((L s).drop k)
    rw [List.length_drop, size_L] at this
    show (lead (by1 en) _).length ≤ _
    omega
  have hsz' : (B (upTo en ((L s).drop k))).size ≤ 140737488355328 := by omega
  clear hr ho hg1 h1 B1
  go_wp2_with fail
  refine (lower_any _ w1 hsz').mono ?_
  rintro e w2 ⟨rfl, hb2⟩
  rw [L_B]
  obtain ⟨nm, hnm⟩ : ∃ nm, B (lowL (upTo en ((L s).drop k))) = nm := ⟨_, rfl⟩
  rw [hnm]
  have hnl : lowL (upTo en ((L s).drop k)) = L nm := by rw [← hnm, L_B]
  have hns : nm.size ≤ 140737488351232 := by
    rw [← hnm, size_B, len_lowL]
    rw [size_B] at hsz
    omega
  obtain ⟨g2, B2⟩ := g1.below hb2
  have B3 := B1'.trans B2
  have hT2 := tab_below HT.out B3 hN0
  obtain ⟨V2, hr2, ho2, _⟩ := g2
  clear g1 B1' B2 hb2 hsz hsz' hnm
  go_wp2_with fail
  refine (attrs_any b m1 s V2 w2 hr2 hm1 hs hT2 hb0).mono ?_
  rintro e w3 ⟨va, sf, en_, m, la, rfl, hown, hm, hla, h3, hg3, heq, hen⟩
  rw [hd1] at heq
  obtain ⟨g3, B4⟩ := Rg.step hr2 ho2 hN hg3 h3
  have B5 := B4 _ B3
  have hNw : N ≤ w2.heap.size := by have := hr2.lt; omega
  clear B4 B3 hr2 ho2 hg3 h3 hd1 hT2
  cases en_ with
  | false =>
    rw [if_neg (by simp)] at heq
    have hst := start_no heq
    have HS := Lib.hid hst; have HE := Lib.hid (hen rfl); clear hst heq hen hown hnl
    go_wp2
    first | go_end0 | refine bodyPost_ret (results_none rfl _ _ _) rfl ?_
    refine ⟨rfl, m, l, hm, ?_, g3, ?_, B5⟩
    · rw [HS.out.1, HE.out, drop_nil s s.size (by omega)]
    · rw [HS.out.1, List.append_nil]
  | true =>
    rw [if_pos rfl] at heq
    have hst := start_yes heq
    obtain ⟨A, c, rfl⟩ := hown.form
    obtain ⟨V3, hr3, ho3, _⟩ := g3
    have c2 := hr3.c2; have f2 := hr3.f 2
    have hZ : N ≤ w3.heap.size := by have := hr3.lt; omega
    have hl2 : l.length ≤ 4000000000 := by omega
    have hfr : Fr N w3 ⟨⟨1, nm, ⟨#[]⟩, la, sf⟩, A, c⟩ := (hown.mono hNw).fr _ _ _ _
    have HS := Lib.hid hst; have HR := Lib.hid hr3; have HO := Lib.hid ho3; have HF := Lib.hid hfr; have HN := Lib.hid hnl; have HB := Lib.hid B5; clear hst heq hen hown hnl hr3 ho3 hfr B5
    go_wp2_with (at_builtin; refine app_tok2 w3 rfl (.tmp 21) (.tmp 27) rfl N V3 l ⟨⟨1, nm, ⟨#[]⟩, la, sf⟩, A, c⟩ rfl HO.out.ow HF.out.att HF.out.ap w3.heap.size rfl rfl hl2 hZ ?_; intro v4 w4 how hk hf hg; obtain ⟨A4, cc4, rfl⟩ := form1 how; have hrc4 := rc_over HR.out HO.out hg; have c4 := hrc4.c2; have f4 := hrc4.f 2; have HK := Lib.hid hk; have HFF := Lib.hid hf; have HG := Lib.hid hg; have HOW := Lib.hid how; clear hk hf hg how hrc4 c2 f2)
    obtain ⟨r1, r2⟩ := Rg.add HR.out HO.out hN HF.out HOW.out HK.out HFF.out HG.out
    have B6 := r2 _ HB.out
    have hT4 := tab_below HT.out B6 hN0
    have HS2 := HS.out.1
    rw [HN.out] at HS2
    have HS3 := Lib.hid HS2
    clear HS2 r2
    refine (contents_any N b m s nm _ _ r1 hm hs hns (by rw [List.length_append]; exact Nat.le_trans (Nat.add_le_add_right hl 1) (by decide)) hT4 hN0).mono ?_
    rintro e w5 ⟨rfl, m5, l5, hm5, hd5, g5, ht5, B7⟩
    go_wp2
    go_end0
    refine ⟨rfl, m5, l5, hm5, ?_, g5, ?_, B6.trans B7⟩
    · rw [HS3.out]; exact hd5
    · rw [HS3.out, ht5, tks_append, List.append_assoc]
      show _ ++ (_ :: _) = _ ++ (_ :: _)
      congr 1

set_option maxRecDepth 100000 in
set_option maxHeartbeats 4000000 in
theorem tag_end (N b k : Nat) (s : ByteArray) (l : List Tw) (w : World) (h : Rg N w b s k l) (hk : k ≤ s.size) (hs : s.size ≤ 1000000000) (hl : l.length ≤ 1000000000) (hT : Tab w) (hN0 : 0 < N) :
    Calls Tryd.prog 60 #[rp b, .int .i64 2] w fun e w' => e = .returned (.tuple #[]) ∧ ∃ m l', m ≤ s.size ∧ (L s).drop m = (endTag ((L s).drop k)).2 ∧ Rg N w' b s m l' ∧ tks l' = tks l ++ (endTag ((L s).drop k)).1 ∧ Below N w w' := by
  have hs' : s.size ≤ 140737488355328 := by omega
  have HT := Lib.hid hT; clear hT
  obtain ⟨V, hr, ho, hN⟩ := h
  have hb0 : 0 < b := by omega
  go_enter Tryd.func60, Tryd.ntmps60
  go_wp2_with fail
  refine (upTo_en b k s V w hr hk hs').mono ?_
  rintro e w1 ⟨rfl, m1, hm1, hd1, h1, hg1⟩
  obtain ⟨g1, B1⟩ := Rg.step hr ho hN hg1 h1
  have B1' := B1 _ (Below.refl N w)
  have hsz : (B (upTo en ((L s).drop k))).size ≤ s.size := by
    rw [size_B]
    have := len_lead (by1 en) ((L s).drop k)
    rw [List.length_drop, size_L] at this
    show (lead (by1 en) _).length ≤ _
    omega
  have hsz' : (B (upTo en ((L s).drop k))).size ≤ 140737488355328 := by omega
  clear hr ho hg1 h1 B1
  go_wp2_with fail
  refine (lower_any _ w1 hsz').mono ?_
  rintro e w2 ⟨rfl, hb2⟩
  rw [L_B]
  obtain ⟨nm, hnm⟩ : ∃ nm, B (lowL (upTo en ((L s).drop k))) = nm := ⟨_, rfl⟩
  rw [hnm]
  have hnl : lowL (upTo en ((L s).drop k)) = L nm := by rw [← hnm, L_B]
  have hns : nm.size ≤ 140737488351232 := by
    rw [← hnm, size_B, len_lowL]
    rw [size_B] at hsz
    omega
  obtain ⟨g2, B2⟩ := g1.below hb2
  have B3 := B1'.trans B2
  have hT2 := tab_below HT.out B3 hN0
  obtain ⟨V2, hr2, ho2, _⟩ := g2
  clear g1 B1' B2 hb2 hsz hsz' hnm
  go_wp2_with fail
  refine (attrs_any b m1 s V2 w2 hr2 hm1 hs hT2 hb0).mono ?_
  rintro e w3 ⟨va, sf, en_, m, la, rfl, hown, hm, hla, h3, hg3, heq, hen⟩
  rw [hd1] at heq
  obtain ⟨g3, B4⟩ := Rg.step hr2 ho2 hN hg3 h3
  have B5 := B4 _ B3
  have hNw : N ≤ w2.heap.size := by have := hr2.lt; omega
  clear B4 B3 hr2 ho2 hg3 h3 hd1 hT2
  cases en_ with
  | false =>
    rw [if_neg (by simp)] at heq
    have hst := start_no heq
    have HS := Lib.hid hst; have HE := Lib.hid (hen rfl); clear hst heq hen hown hnl
    go_wp2
    first | go_end0 | refine bodyPost_ret (results_none rfl _ _ _) rfl ?_
    refine ⟨rfl, m, l, hm, ?_, g3, ?_, B5⟩
    · rw [HS.out.2, HE.out, drop_nil s s.size (by omega)]
    · rw [HS.out.2, List.append_nil]
  | true =>
    rw [if_pos rfl] at heq
    have hst := start_yes heq
    obtain ⟨A, c, rfl⟩ := hown.form
    obtain ⟨V3, hr3, ho3, _⟩ := g3
    have c2 := hr3.c2; have f2 := hr3.f 2
    have hZ : N ≤ w3.heap.size := by have := hr3.lt; omega
    have hl2 : l.length ≤ 4000000000 := by omega
    have hfr : Fr N w3 ⟨⟨2, nm, ⟨#[]⟩, [], false⟩, none, 0⟩ := fr_none N w3 _ rfl
    have HS := Lib.hid hst; have HR := Lib.hid hr3; have HO := Lib.hid ho3; have HF := Lib.hid hfr; have HN := Lib.hid hnl; have HB := Lib.hid B5; clear hst heq hen hown hnl hr3 ho3 hfr B5
    go_wp2_with (at_builtin; refine app_tok2 w3 rfl (.tmp 44) (.tmp 48) rfl N V3 l ⟨⟨2, nm, ⟨#[]⟩, [], false⟩, none, 0⟩ rfl HO.out.ow HF.out.att HF.out.ap w3.heap.size rfl rfl hl2 hZ ?_; intro v4 w4 how hk hf hg; obtain ⟨A4, cc4, rfl⟩ := form1 how; have hrc4 := rc_over HR.out HO.out hg; have c4 := hrc4.c2; have f4 := hrc4.f 2; have HK := Lib.hid hk; have HFF := Lib.hid hf; have HG := Lib.hid hg; have HOW := Lib.hid how; clear hk hf hg how hrc4 c2 f2)
    go_end0
    obtain ⟨r1, r2⟩ := Rg.add HR.out HO.out hN HF.out HOW.out HK.out HFF.out HG.out
    have B6 := r2 _ HB.out
    have HS2 := HS.out.2
    rw [HN.out] at HS2
    refine ⟨rfl, m, _, hm, ?_, r1, ?_, B6⟩
    · rw [HS2]
    · rw [HS2, tks_append]
      show _ = _ ++ [(⟨2, B (L nm), B [], [], false⟩ : Tk)]
      rw [B_L]
      rfl

end Go.Proofs.YtjhhhlomkfnniaaDoor.To

namespace Go.Proofs.YtjhhhlomkfnniaaDoor.To
set_option linter.unusedSimpArgs false
set_option linter.unusedVariables false
open Go.RowKit Ba Fm Fo Tm Nm
open Ro (At acells len_acells below_new Sh Ra acells_one info_attr)
open Re (Tab)
open Rm (dec)

theorem marked_ge (r : List UInt8) : 4 ≤ marked r ∧ (marked r = 4 → 2 ≤ r.length) ∧ (marked r = 5 → 7 ≤ r.length) := by
  unfold marked
  split
  · rename_i h
    have := pre_len h
    exact ⟨by decide, fun _ => this, fun e => absurd e (by decide)⟩
  · split
    · rename_i h
      have := congrArg List.length h.1
      rw [len_lowL, List.length_take] at this
      simp at this
      exact ⟨by decide, fun e => absurd e (by decide), fun _ => by omega⟩
    · exact ⟨by decide, fun e => absurd e (by decide), fun e => absurd e (by decide)⟩
theorem slashed_cases (r : List UInt8) : slashed r = 0 ∨ (1 ≤ r.length ∧ (slashed r = 2 ∨ slashed r = 3 ∨ slashed r = 6)) := by
  cases r with
  | nil => exact .inl rfl
  | cons d r =>
    refine .inr ⟨by simp, ?_⟩
    show (if lr d = true then 2 else if d = 62 then 3 else 6) = 2 ∨ (if lr d = true then 2 else if d = 62 then 3 else 6) = 3 ∨ (if lr d = true then 2 else if d = 62 then 3 else 6) = 6
    split
    · simp
    · split <;> simp
/-- How many bytes there are at least. -/
theorem begun_len (l : List UInt8) : (Tm.begun l = 1 → 2 ≤ l.length) ∧ (Tm.begun l = 2 → 3 ≤ l.length) ∧ (Tm.begun l = 3 → 3 ≤ l.length) ∧ (Tm.begun l = 4 → 4 ≤ l.length) ∧ (Tm.begun l = 5 → 9 ≤ l.length) ∧ (Tm.begun l = 6 → 2 ≤ l.length) := by
  match l with
  | [] => simp [Tm.begun]
  | [a] =>
    have : Tm.begun [a] = 0 := by show (if a = 60 then 0 else 0) = 0; split <;> rfl
    rw [this]
    simp
  | a :: c :: r =>
    have hm := marked_ge r
    have hs := slashed_cases r
    rw [begun_two]
    simp only [List.length_cons]
    split
    · split
      · simp
      · split
        · rcases hs with h | ⟨h, h2 | h2 | h2⟩ <;> simp [*]
        · split
          · refine ⟨fun h => by omega, fun h => by omega, fun h => by omega, fun h => by have := hm.2.1 h; omega, fun h => by have := hm.2.2 h; omega, fun _ => by omega⟩
          · split <;> simp
    · simp
theorem mk_1 {l : List UInt8} (h : Tm.begun l = 1) : mk l = startTag (l.drop 1) := by unfold mk; rw [if_pos h]
theorem mk_2 {l : List UInt8} (h : Tm.begun l = 2) : mk l = endTag (l.drop 2) := by unfold mk; rw [if_neg (by rw [h]; decide), if_pos h]
theorem mk_3 {l : List UInt8} (h : Tm.begun l = 3) : mk l = ([], l.drop 3) := by unfold mk; rw [if_neg (by rw [h]; decide), if_neg (by rw [h]; decide), if_pos h]
theorem mk_4 {l : List UInt8} (h : Tm.begun l = 4) : mk l = ([⟨3, B [], B (comm (l.drop 4)).1, [], false⟩], (comm (l.drop 4)).2) := by unfold mk; rw [if_neg (by rw [h]; decide), if_neg (by rw [h]; decide), if_neg (by rw [h]; decide), if_pos h]
theorem mk_5 {l : List UInt8} (h : Tm.begun l = 5) : mk l = ([⟨4, B [], B (trimL (closed (l.drop 9)).1), [], false⟩], (closed (l.drop 9)).2) := by unfold mk; rw [if_neg (by rw [h]; decide), if_neg (by rw [h]; decide), if_neg (by rw [h]; decide), if_neg (by rw [h]; decide), if_pos h]
theorem mk_6 {l : List UInt8} (h : Tm.begun l = 6) : mk l = ([⟨3, B [], B (closed (marks (l.drop 1))).1, [], false⟩], (closed (marks (l.drop 1))).2) := by unfold mk; rw [if_neg (by rw [h]; decide), if_neg (by rw [h]; decide), if_neg (by rw [h]; decide), if_neg (by rw [h]; decide), if_neg (by rw [h]; decide), if_pos h]
theorem mk_0 {l : List UInt8} (h1 : Tm.begun l ≠ 1) (h2 : Tm.begun l ≠ 2) (h3 : Tm.begun l ≠ 3) (h4 : Tm.begun l ≠ 4) (h5 : Tm.begun l ≠ 5) (h6 : Tm.begun l ≠ 6) : mk l = ([], l) := by unfold mk; rw [if_neg h1, if_neg h2, if_neg h3, if_neg h4, if_neg h5, if_neg h6]
theorem mk_len {l : List UInt8} : (mk l).1.length ≤ 2 := by
  have hc : ∀ n r, (cont n r).1.length ≤ 1 := fun n r => by
    unfold cont
    split
    · exact len_txt _
    · split
      · exact len_txt _
      · simp
  unfold mk
  split
  · unfold startTag
    split
    · simp
    · have := hc (lowL (upTo en (l.drop 1)))
      simp only [List.length_cons]
      have := this (by assumption)
      omega
  · split
    · unfold endTag
      split <;> simp
    · split
      · simp
      · split
        · simp
        · split
          · simp
          · split <;> simp
theorem trim1 (s : ByteArray) (w : World) (l : List UInt8) (hs : s.size ≤ 140737488351232) (hl : L s = l) : Calls Tryd.prog 63 #[.string s] w fun e w' => e = .returned (.string (B (trimL l))) ∧ w = w' := by
  subst hl
  exact trim_any s w (by omega)

set_option maxRecDepth 100000 in
set_option maxHeartbeats 4000000 in
theorem markup_1 (N b k : Nat) (s : ByteArray) (l : List Tw) (w : World) (h : Rg N w b s k l) (hk : k ≤ s.size) (hs : s.size ≤ 1000000000) (hl : l.length ≤ 1000000000) (hT : Tab w) (hN0 : 0 < N) (hb : Tm.begun ((L s).drop k) = 1) :
    Calls Tryd.prog 34 #[rp b] w fun e w' => e = .returned (.tuple #[]) ∧ ∃ m l', m ≤ s.size ∧ (L s).drop m = (mk ((L s).drop k)).2 ∧ Rg N w' b s m l' ∧ tks l' = tks l ++ (mk ((L s).drop k)).1 ∧ Below N w w' := by
  have hs' : s.size ≤ 140737488351232 := by omega
  have hs2 : s.size ≤ 140737488355328 := by omega
  have hl2 : l.length ≤ 4000000000 := by omega
  obtain ⟨V, hr, ho, hN⟩ := h
  have hx : (s.extract k s.size).size ≤ 140737488355328 := Nat.le_trans (size_extract _ _ _) (by omega)
  have hxl := L_end s k
  have i0 : (0 : Int) ≤ (k : Int) := by omega
  have i1 : (k : Int) ≤ (s.size : Int) := by omega
  have c0 := hr.c0; have c1 := hr.c1
  have hlen := (begun_len ((L s).drop k)).1 hb
  rw [List.length_drop, size_L] at hlen
  have hkc : k + 1 ≤ s.size := by omega
  have hmk := mk_1 hb
  rw [List.drop_drop] at hmk
  rw [hmk]
  have HX := Lib.hid hxl; have HR := Lib.hid hr; have HO := Lib.hid ho; have HT := Lib.hid hT; have HB := Lib.hid hb; clear hxl hr ho hT hb hmk hlen
  go_enter Tryd.func34, Tryd.ntmps34
  go_wp2
  go_still_tail 9, (by kernel_rfl)
  change wpList _ _ _ _ _ w.drew
  go_wp2_with fail
  refine (begun1 _ w.drew _ 1 hx HX.out HB.out).mono ?_
  rintro e w1 ⟨rfl, hb1⟩
  have hb1' := box_next w w1 hb1
  have hr1 := HR.out.below hb1'
  have ho1 := HO.out.below hb1'
  have B1 : Below N w w1 := hb1'.mono (by have := HR.out.lt; omega)
  clear c0 c1 hb1 hb1'
  have c1 := hr1.c1; have f1 := hr1.f 1
  have HR1 := Lib.hid hr1; have HO1 := Lib.hid ho1; have HB1 := Lib.hid B1; clear hr1 ho1 B1
  go_wp2_with fail
  have h2 := HR1.out.set1 (k + 1)
  obtain ⟨g2, B2⟩ := Rg.step HR1.out HO1.out hN (g_set _ b 1 _) h2
  have B3 := B2 _ HB1.out
  have hT3 := tab_below HT.out B3 hN0
  clear B2 c1 f1
  refine (tag_start N b (k + 1) s l _ g2 hkc hs hl hT3 hN0).mono ?_
  rintro e w3 ⟨rfl, m, l', hm, hd, g3, ht, B4⟩
  go_wp2
  go_end0
  exact ⟨rfl, m, l', hm, hd, g3, ht, B3.trans B4⟩

set_option maxRecDepth 100000 in
set_option maxHeartbeats 4000000 in
theorem markup_2 (N b k : Nat) (s : ByteArray) (l : List Tw) (w : World) (h : Rg N w b s k l) (hk : k ≤ s.size) (hs : s.size ≤ 1000000000) (hl : l.length ≤ 1000000000) (hT : Tab w) (hN0 : 0 < N) (hb : Tm.begun ((L s).drop k) = 2) :
    Calls Tryd.prog 34 #[rp b] w fun e w' => e = .returned (.tuple #[]) ∧ ∃ m l', m ≤ s.size ∧ (L s).drop m = (mk ((L s).drop k)).2 ∧ Rg N w' b s m l' ∧ tks l' = tks l ++ (mk ((L s).drop k)).1 ∧ Below N w w' := by
  have hs' : s.size ≤ 140737488351232 := by omega
  have hs2 : s.size ≤ 140737488355328 := by omega
  have hl2 : l.length ≤ 4000000000 := by omega
  obtain ⟨V, hr, ho, hN⟩ := h
  have hx : (s.extract k s.size).size ≤ 140737488355328 := Nat.le_trans (size_extract _ _ _) (by omega)
  have hxl := L_end s k
  have i0 : (0 : Int) ≤ (k : Int) := by omega
  have i1 : (k : Int) ≤ (s.size : Int) := by omega
  have c0 := hr.c0; have c1 := hr.c1
  have hlen := (begun_len ((L s).drop k)).2.1 hb
  rw [List.length_drop, size_L] at hlen
  have hkc : k + 2 ≤ s.size := by omega
  have hmk := mk_2 hb
  rw [List.drop_drop] at hmk
  rw [hmk]
  have HX := Lib.hid hxl; have HR := Lib.hid hr; have HO := Lib.hid ho; have HT := Lib.hid hT; have HB := Lib.hid hb; clear hxl hr ho hT hb hmk hlen
  go_enter Tryd.func34, Tryd.ntmps34
  go_wp2
  go_still_tail 9, (by kernel_rfl)
  change wpList _ _ _ _ _ w.drew
  go_wp2_with fail
  refine (begun1 _ w.drew _ 2 hx HX.out HB.out).mono ?_
  rintro e w1 ⟨rfl, hb1⟩
  have hb1' := box_next w w1 hb1
  have hr1 := HR.out.below hb1'
  have ho1 := HO.out.below hb1'
  have B1 : Below N w w1 := hb1'.mono (by have := HR.out.lt; omega)
  clear c0 c1 hb1 hb1'
  have c1 := hr1.c1; have f1 := hr1.f 1
  have HR1 := Lib.hid hr1; have HO1 := Lib.hid ho1; have HB1 := Lib.hid B1; clear hr1 ho1 B1
  go_wp2_with fail
  have h2 := HR1.out.set1 (k + 2)
  obtain ⟨g2, B2⟩ := Rg.step HR1.out HO1.out hN (g_set _ b 1 _) h2
  have B3 := B2 _ HB1.out
  have hT3 := tab_below HT.out B3 hN0
  clear B2 c1 f1
  refine (tag_end N b (k + 2) s l _ g2 hkc hs hl hT3 hN0).mono ?_
  rintro e w3 ⟨rfl, m, l', hm, hd, g3, ht, B4⟩
  go_wp2
  go_end0
  exact ⟨rfl, m, l', hm, hd, g3, ht, B3.trans B4⟩

set_option maxRecDepth 100000 in
set_option maxHeartbeats 4000000 in
theorem markup_3 (N b k : Nat) (s : ByteArray) (l : List Tw) (w : World) (h : Rg N w b s k l) (hk : k ≤ s.size) (hs : s.size ≤ 1000000000) (hl : l.length ≤ 1000000000) (hT : Tab w) (hN0 : 0 < N) (hb : Tm.begun ((L s).drop k) = 3) :
    Calls Tryd.prog 34 #[rp b] w fun e w' => e = .returned (.tuple #[]) ∧ ∃ m l', m ≤ s.size ∧ (L s).drop m = (mk ((L s).drop k)).2 ∧ Rg N w' b s m l' ∧ tks l' = tks l ++ (mk ((L s).drop k)).1 ∧ Below N w w' := by
  have hs' : s.size ≤ 140737488351232 := by omega
  have hs2 : s.size ≤ 140737488355328 := by omega
  have hl2 : l.length ≤ 4000000000 := by omega
  obtain ⟨V, hr, ho, hN⟩ := h
  have hx : (s.extract k s.size).size ≤ 140737488355328 := Nat.le_trans (size_extract _ _ _) (by omega)
  have hxl := L_end s k
  have i0 : (0 : Int) ≤ (k : Int) := by omega
  have i1 : (k : Int) ≤ (s.size : Int) := by omega
  have c0 := hr.c0; have c1 := hr.c1
  have hlen := (begun_len ((L s).drop k)).2.2.1 hb
  rw [List.length_drop, size_L] at hlen
  have hkc : k + 3 ≤ s.size := by omega
  have hmk := mk_3 hb
  rw [List.drop_drop] at hmk
  rw [hmk]
  have HX := Lib.hid hxl; have HR := Lib.hid hr; have HO := Lib.hid ho; have HT := Lib.hid hT; have HB := Lib.hid hb; clear hxl hr ho hT hb hmk hlen
  go_enter Tryd.func34, Tryd.ntmps34
  go_wp2
  go_still_tail 9, (by kernel_rfl)
  change wpList _ _ _ _ _ w.drew
  go_wp2_with fail
  refine (begun1 _ w.drew _ 3 hx HX.out HB.out).mono ?_
  rintro e w1 ⟨rfl, hb1⟩
  have hb1' := box_next w w1 hb1
  have hr1 := HR.out.below hb1'
  have ho1 := HO.out.below hb1'
  have B1 : Below N w w1 := hb1'.mono (by have := HR.out.lt; omega)
  clear c0 c1 hb1 hb1'
  have c1 := hr1.c1; have f1 := hr1.f 1
  have HR1 := Lib.hid hr1; have HO1 := Lib.hid ho1; have HB1 := Lib.hid B1; clear hr1 ho1 B1
  go_wp2
  go_end0
  have h2 := HR1.out.set1 (k + 3)
  obtain ⟨g2, B2⟩ := Rg.step HR1.out HO1.out hN (g_set _ b 1 _) h2
  have B3 := B2 _ HB1.out
  have hT3 := tab_below HT.out B3 hN0
  clear B2 c1 f1
  exact ⟨rfl, k + 3, l, hkc, rfl, g2, (List.append_nil _).symm, B3⟩

set_option maxRecDepth 100000 in
set_option maxHeartbeats 4000000 in
theorem markup_4 (N b k : Nat) (s : ByteArray) (l : List Tw) (w : World) (h : Rg N w b s k l) (hk : k ≤ s.size) (hs : s.size ≤ 1000000000) (hl : l.length ≤ 1000000000) (hT : Tab w) (hN0 : 0 < N) (hb : Tm.begun ((L s).drop k) = 4) :
    Calls Tryd.prog 34 #[rp b] w fun e w' => e = .returned (.tuple #[]) ∧ ∃ m l', m ≤ s.size ∧ (L s).drop m = (mk ((L s).drop k)).2 ∧ Rg N w' b s m l' ∧ tks l' = tks l ++ (mk ((L s).drop k)).1 ∧ Below N w w' := by
  have hs' : s.size ≤ 140737488351232 := by omega
  have hs2 : s.size ≤ 140737488355328 := by omega
  have hl2 : l.length ≤ 4000000000 := by omega
  obtain ⟨V, hr, ho, hN⟩ := h
  have hx : (s.extract k s.size).size ≤ 140737488355328 := Nat.le_trans (size_extract _ _ _) (by omega)
  have hxl := L_end s k
  have i0 : (0 : Int) ≤ (k : Int) := by omega
  have i1 : (k : Int) ≤ (s.size : Int) := by omega
  have c0 := hr.c0; have c1 := hr.c1
  have hlen := (begun_len ((L s).drop k)).2.2.2.1 hb
  rw [List.length_drop, size_L] at hlen
  have hkc : k + 4 ≤ s.size := by omega
  have hmk := mk_4 hb
  rw [List.drop_drop] at hmk
  rw [hmk]
  have HX := Lib.hid hxl; have HR := Lib.hid hr; have HO := Lib.hid ho; have HT := Lib.hid hT; have HB := Lib.hid hb; clear hxl hr ho hT hb hmk hlen
  go_enter Tryd.func34, Tryd.ntmps34
  go_wp2
  go_still_tail 9, (by kernel_rfl)
  change wpList _ _ _ _ _ w.drew
  go_wp2_with fail
  refine (begun1 _ w.drew _ 4 hx HX.out HB.out).mono ?_
  rintro e w1 ⟨rfl, hb1⟩
  have hb1' := box_next w w1 hb1
  have hr1 := HR.out.below hb1'
  have ho1 := HO.out.below hb1'
  have B1 : Below N w w1 := hb1'.mono (by have := HR.out.lt; omega)
  clear c0 c1 hb1 hb1'
  have c1 := hr1.c1; have f1 := hr1.f 1
  have HR1 := Lib.hid hr1; have HO1 := Lib.hid ho1; have HB1 := Lib.hid B1; clear hr1 ho1 B1
  go_wp2_with fail
  have h2 := HR1.out.set1 (k + 4)
  obtain ⟨g2, B2⟩ := Rg.step HR1.out HO1.out hN (g_set _ b 1 _) h2
  have B3 := B2 _ HB1.out
  have hT3 := tab_below HT.out B3 hN0
  clear B2 c1 f1
  refine (comment_any N b (k + 4) s l _ g2 hkc hs' hl2).mono ?_
  rintro e w3 ⟨rfl, m, l', hm, hd, g3, ht, B4⟩
  go_wp2
  go_end0
  exact ⟨rfl, m, l', hm, hd, g3, ht, B3.trans B4⟩

set_option maxRecDepth 100000 in
set_option maxHeartbeats 4000000 in
theorem markup_5 (N b k : Nat) (s : ByteArray) (l : List Tw) (w : World) (h : Rg N w b s k l) (hk : k ≤ s.size) (hs : s.size ≤ 1000000000) (hl : l.length ≤ 1000000000) (hT : Tab w) (hN0 : 0 < N) (hb : Tm.begun ((L s).drop k) = 5) :
    Calls Tryd.prog 34 #[rp b] w fun e w' => e = .returned (.tuple #[]) ∧ ∃ m l', m ≤ s.size ∧ (L s).drop m = (mk ((L s).drop k)).2 ∧ Rg N w' b s m l' ∧ tks l' = tks l ++ (mk ((L s).drop k)).1 ∧ Below N w w' := by
  have hs' : s.size ≤ 140737488351232 := by omega
  have hs2 : s.size ≤ 140737488355328 := by omega
  have hl2 : l.length ≤ 4000000000 := by omega
  obtain ⟨V, hr, ho, hN⟩ := h
  have hx : (s.extract k s.size).size ≤ 140737488355328 := Nat.le_trans (size_extract _ _ _) (by omega)
  have hxl := L_end s k
  have i0 : (0 : Int) ≤ (k : Int) := by omega
  have i1 : (k : Int) ≤ (s.size : Int) := by omega
  have c0 := hr.c0; have c1 := hr.c1
  have hlen := (begun_len ((L s).drop k)).2.2.2.2.1 hb
  rw [List.length_drop, size_L] at hlen
  have hkc : k + 9 ≤ s.size := by omega
  have hmk := mk_5 hb
  rw [List.drop_drop] at hmk
  rw [hmk]
  have HX := Lib.hid hxl; have HR := Lib.hid hr; have HO := Lib.hid ho; have HT := Lib.hid hT; have HB := Lib.hid hb; clear hxl hr ho hT hb hmk hlen
  go_enter Tryd.func34, Tryd.ntmps34
  go_wp2
  go_still_tail 9, (by kernel_rfl)
  change wpList _ _ _ _ _ w.drew
  go_wp2_with fail
  refine (begun1 _ w.drew _ 5 hx HX.out HB.out).mono ?_
  rintro e w1 ⟨rfl, hb1⟩
  have hb1' := box_next w w1 hb1
  have hr1 := HR.out.below hb1'
  have ho1 := HO.out.below hb1'
  have B1 : Below N w w1 := hb1'.mono (by have := HR.out.lt; omega)
  clear c0 c1 hb1 hb1'
  have c1 := hr1.c1; have f1 := hr1.f 1
  have HR1 := Lib.hid hr1; have HO1 := Lib.hid ho1; have HB1 := Lib.hid B1; clear hr1 ho1 B1
  go_wp2_with fail
  have h2 := HR1.out.set1 (k + 9)
  obtain ⟨g2, B2⟩ := Rg.step HR1.out HO1.out hN (g_set _ b 1 _) h2
  have B3 := B2 _ HB1.out
  have hT3 := tab_below HT.out B3 hN0
  clear B2 c1 f1
  obtain ⟨V2, hr2, ho2, _⟩ := g2
  refine (upTo_gt b (k + 9) s V2 _ hr2 hkc hs2).mono ?_
  rintro e w3 ⟨rfl, m, hm, hd, h3, hg3⟩
  obtain ⟨g3, B4⟩ := Rg.step hr2 ho2 hN hg3 h3
  have B5 := B4 _ B3
  have hsz : (B (upTo gt ((L s).drop (k + 9)))).size ≤ 140737488351232 := by
    rw [size_B]
    have := len_lead (by1 gt) ((L s).drop (k + 9))
    rw [List.length_drop, size_L] at this
    show (lead (by1 gt) _).length ≤ _
    omega
  clear B4 B3 hg3 hr2 ho2 h3
  go_wp2_with fail
  refine (trim1 _ w3 _ hsz (L_B _)).mono ?_
  rintro e w4 ⟨rfl, rfl⟩
  go_wp2_with fail
  refine (addClosed_any N b m 4 s _ l w3 g3 hm hs' hl2).mono ?_
  rintro e w5 ⟨rfl, m5, l', hm5, hd5, g5, ht, B6⟩
  go_wp2
  go_end0
  refine ⟨rfl, m5, l', hm5, ?_, g5, ht, B5.trans B6⟩
  rw [hd5, hd]
  exact past_gt _

set_option maxRecDepth 100000 in
set_option maxHeartbeats 4000000 in
theorem markup_6a (N b k : Nat) (s : ByteArray) (l : List Tw) (w : World) (h : Rg N w b s k l) (hk : k ≤ s.size) (hs : s.size ≤ 1000000000) (hl : l.length ≤ 1000000000) (hT : Tab w) (hN0 : 0 < N) (hb : Tm.begun ((L s).drop k) = 6) (h33 : hd 33 ((L s).drop (k + 1)) = true) :
    Calls Tryd.prog 34 #[rp b] w fun e w' => e = .returned (.tuple #[]) ∧ ∃ m l', m ≤ s.size ∧ (L s).drop m = (mk ((L s).drop k)).2 ∧ Rg N w' b s m l' ∧ tks l' = tks l ++ (mk ((L s).drop k)).1 ∧ Below N w w' := by
  have hs' : s.size ≤ 140737488351232 := by omega
  have hs2 : s.size ≤ 140737488355328 := by omega
  have hl2 : l.length ≤ 4000000000 := by omega
  obtain ⟨V, hr, ho, hN⟩ := h
  have hx : (s.extract k s.size).size ≤ 140737488355328 := Nat.le_trans (size_extract _ _ _) (by omega)
  have hxl := L_end s k
  have i0 : (0 : Int) ≤ (k : Int) := by omega
  have i1 : (k : Int) ≤ (s.size : Int) := by omega
  have c0 := hr.c0; have c1 := hr.c1
  have hlen := (begun_len ((L s).drop k)).2.2.2.2.2 hb
  rw [List.length_drop, size_L] at hlen
  have hkc : k + 1 ≤ s.size := by omega
  have hmk := mk_6 hb
  rw [List.drop_drop] at hmk
  rw [hmk]
  have HX := Lib.hid hxl; have HR := Lib.hid hr; have HO := Lib.hid ho; have HT := Lib.hid hT; have HB := Lib.hid hb; clear hxl hr ho hT hb hmk hlen
  go_enter Tryd.func34, Tryd.ntmps34
  go_wp2
  go_still_tail 9, (by kernel_rfl)
  change wpList _ _ _ _ _ w.drew
  go_wp2_with fail
  refine (begun1 _ w.drew _ 6 hx HX.out HB.out).mono ?_
  rintro e w1 ⟨rfl, hb1⟩
  have hb1' := box_next w w1 hb1
  have hr1 := HR.out.below hb1'
  have ho1 := HO.out.below hb1'
  have B1 : Below N w w1 := hb1'.mono (by have := HR.out.lt; omega)
  clear c0 c1 hb1 hb1'
  have c1 := hr1.c1; have f1 := hr1.f 1
  have HR1 := Lib.hid hr1; have HO1 := Lib.hid ho1; have HB1 := Lib.hid B1; clear hr1 ho1 B1
  go_wp2_with fail
  have h2 := HR1.out.set1 (k + 1)
  obtain ⟨g2, B2⟩ := Rg.step HR1.out HO1.out hN (g_set _ b 1 _) h2
  have B3 := B2 _ HB1.out
  have hT3 := tab_below HT.out B3 hN0
  clear B2 c1 f1
  have hdr := hd_drop hkc h33
  rw [if_pos rfl] at hdr
  have hm : marks ((L s).drop (k + 1)) = (L s).drop (k + 1 + 1) := by unfold marks; rw [if_pos (hd_head.1 h33), List.drop_drop]
  have HM := Lib.hid hm; have H33 := Lib.hid h33; clear hm h33
  obtain ⟨V1, hr1, ho1, _⟩ := g2
  refine (pass1 b (k + 1) s V1 33 _ true _ hr1 hkc hs2 rfl H33.out).mono ?_
  rintro e w3 ⟨rfl, h3, hg3⟩
  obtain ⟨g2, B4⟩ := Rg.step hr1 ho1 hN hg3 h3
  replace B3 := B4 _ B3
  clear B4 hr1 ho1 hg3 h3 hT3
  have hkK : k + 1 + 1 ≤ s.size := hdr.1
  go_wp2_with fail
  obtain ⟨V2, hr2, ho2, _⟩ := g2
  refine (upTo_gt b (k + 1 + 1) s V2 _ hr2 hkK hs2).mono ?_
  rintro e w4 ⟨rfl, m, hm, hd, h3, hg3⟩
  obtain ⟨g3, B4⟩ := Rg.step hr2 ho2 hN hg3 h3
  have B5 := B4 _ B3
  clear B4 B3 hg3 hr2 ho2 h3
  go_wp2_with fail
  refine (addClosed_any N b m 3 s _ l w4 g3 hm hs' hl2).mono ?_
  rintro e w5 ⟨rfl, m5, l', hm5, hd5, g5, ht, B6⟩
  go_wp2
  go_end0
  refine ⟨rfl, m5, l', hm5, ?_, g5, ?_, B5.trans B6⟩
  · rw [HM.out, hd5, hd]
    exact past_gt _
  · rw [HM.out, ht]
    rfl

set_option maxRecDepth 100000 in
set_option maxHeartbeats 4000000 in
theorem markup_6b (N b k : Nat) (s : ByteArray) (l : List Tw) (w : World) (h : Rg N w b s k l) (hk : k ≤ s.size) (hs : s.size ≤ 1000000000) (hl : l.length ≤ 1000000000) (hT : Tab w) (hN0 : 0 < N) (hb : Tm.begun ((L s).drop k) = 6) (h33 : hd 33 ((L s).drop (k + 1)) = false) (h47 : hd 47 ((L s).drop (k + 1)) = true) :
    Calls Tryd.prog 34 #[rp b] w fun e w' => e = .returned (.tuple #[]) ∧ ∃ m l', m ≤ s.size ∧ (L s).drop m = (mk ((L s).drop k)).2 ∧ Rg N w' b s m l' ∧ tks l' = tks l ++ (mk ((L s).drop k)).1 ∧ Below N w w' := by
  have hs' : s.size ≤ 140737488351232 := by omega
  have hs2 : s.size ≤ 140737488355328 := by omega
  have hl2 : l.length ≤ 4000000000 := by omega
  obtain ⟨V, hr, ho, hN⟩ := h
  have hx : (s.extract k s.size).size ≤ 140737488355328 := Nat.le_trans (size_extract _ _ _) (by omega)
  have hxl := L_end s k
  have i0 : (0 : Int) ≤ (k : Int) := by omega
  have i1 : (k : Int) ≤ (s.size : Int) := by omega
  have c0 := hr.c0; have c1 := hr.c1
  have hlen := (begun_len ((L s).drop k)).2.2.2.2.2 hb
  rw [List.length_drop, size_L] at hlen
  have hkc : k + 1 ≤ s.size := by omega
  have hmk := mk_6 hb
  rw [List.drop_drop] at hmk
  rw [hmk]
  have HX := Lib.hid hxl; have HR := Lib.hid hr; have HO := Lib.hid ho; have HT := Lib.hid hT; have HB := Lib.hid hb; clear hxl hr ho hT hb hmk hlen
  go_enter Tryd.func34, Tryd.ntmps34
  go_wp2
  go_still_tail 9, (by kernel_rfl)
  change wpList _ _ _ _ _ w.drew
  go_wp2_with fail
  refine (begun1 _ w.drew _ 6 hx HX.out HB.out).mono ?_
  rintro e w1 ⟨rfl, hb1⟩
  have hb1' := box_next w w1 hb1
  have hr1 := HR.out.below hb1'
  have ho1 := HO.out.below hb1'
  have B1 : Below N w w1 := hb1'.mono (by have := HR.out.lt; omega)
  clear c0 c1 hb1 hb1'
  have c1 := hr1.c1; have f1 := hr1.f 1
  have HR1 := Lib.hid hr1; have HO1 := Lib.hid ho1; have HB1 := Lib.hid B1; clear hr1 ho1 B1
  go_wp2_with fail
  have h2 := HR1.out.set1 (k + 1)
  obtain ⟨g2, B2⟩ := Rg.step HR1.out HO1.out hN (g_set _ b 1 _) h2
  have B3 := B2 _ HB1.out
  have hT3 := tab_below HT.out B3 hN0
  clear B2 c1 f1
  have hdr := hd_drop hkc h47
  rw [if_pos rfl] at hdr
  have hm : marks ((L s).drop (k + 1)) = (L s).drop (k + 1 + 1) := by unfold marks; rw [if_neg (hd_no h33), if_pos (hd_head.1 h47), List.drop_drop]
  have HM := Lib.hid hm; have H33 := Lib.hid h33; have H47 := Lib.hid h47; clear hm h33 h47
  obtain ⟨V1, hr1, ho1, _⟩ := g2
  refine (pass1 b (k + 1) s V1 33 _ false _ hr1 hkc hs2 rfl H33.out).mono ?_
  rintro e w3 ⟨rfl, h3, hg3⟩
  obtain ⟨g2, B4⟩ := Rg.step hr1 ho1 hN hg3 h3
  replace B3 := B4 _ B3
  clear B4 hr1 ho1 hg3 h3 hT3
  obtain ⟨V1, hr1, ho1, _⟩ := g2
  go_wp2_with fail
  refine (pass1 b (k + 1) s V1 47 _ true _ hr1 hkc hs2 rfl H47.out).mono ?_
  rintro e w6 ⟨rfl, h3, hg3⟩
  obtain ⟨g2, B4⟩ := Rg.step hr1 ho1 hN hg3 h3
  replace B3 := B4 _ B3
  clear B4 hr1 ho1 hg3 h3
  have hkK : k + 1 + 1 ≤ s.size := hdr.1
  go_wp2_with fail
  obtain ⟨V2, hr2, ho2, _⟩ := g2
  refine (upTo_gt b (k + 1 + 1) s V2 _ hr2 hkK hs2).mono ?_
  rintro e w4 ⟨rfl, m, hm, hd, h3, hg3⟩
  obtain ⟨g3, B4⟩ := Rg.step hr2 ho2 hN hg3 h3
  have B5 := B4 _ B3
  clear B4 B3 hg3 hr2 ho2 h3
  go_wp2_with fail
  refine (addClosed_any N b m 3 s _ l w4 g3 hm hs' hl2).mono ?_
  rintro e w5 ⟨rfl, m5, l', hm5, hd5, g5, ht, B6⟩
  go_wp2
  go_end0
  refine ⟨rfl, m5, l', hm5, ?_, g5, ?_, B5.trans B6⟩
  · rw [HM.out, hd5, hd]
    exact past_gt _
  · rw [HM.out, ht]
    rfl

set_option maxRecDepth 100000 in
set_option maxHeartbeats 4000000 in
theorem markup_6c (N b k : Nat) (s : ByteArray) (l : List Tw) (w : World) (h : Rg N w b s k l) (hk : k ≤ s.size) (hs : s.size ≤ 1000000000) (hl : l.length ≤ 1000000000) (hT : Tab w) (hN0 : 0 < N) (hb : Tm.begun ((L s).drop k) = 6) (h33 : hd 33 ((L s).drop (k + 1)) = false) (h47 : hd 47 ((L s).drop (k + 1)) = false) :
    Calls Tryd.prog 34 #[rp b] w fun e w' => e = .returned (.tuple #[]) ∧ ∃ m l', m ≤ s.size ∧ (L s).drop m = (mk ((L s).drop k)).2 ∧ Rg N w' b s m l' ∧ tks l' = tks l ++ (mk ((L s).drop k)).1 ∧ Below N w w' := by
  have hs' : s.size ≤ 140737488351232 := by omega
  have hs2 : s.size ≤ 140737488355328 := by omega
  have hl2 : l.length ≤ 4000000000 := by omega
  obtain ⟨V, hr, ho, hN⟩ := h
  have hx : (s.extract k s.size).size ≤ 140737488355328 := Nat.le_trans (size_extract _ _ _) (by omega)
  have hxl := L_end s k
  have i0 : (0 : Int) ≤ (k : Int) := by omega
  have i1 : (k : Int) ≤ (s.size : Int) := by omega
  have c0 := hr.c0; have c1 := hr.c1
  have hlen := (begun_len ((L s).drop k)).2.2.2.2.2 hb
  rw [List.length_drop, size_L] at hlen
  have hkc : k + 1 ≤ s.size := by omega
  have hmk := mk_6 hb
  rw [List.drop_drop] at hmk
  rw [hmk]
  have HX := Lib.hid hxl; have HR := Lib.hid hr; have HO := Lib.hid ho; have HT := Lib.hid hT; have HB := Lib.hid hb; clear hxl hr ho hT hb hmk hlen
  go_enter Tryd.func34, Tryd.ntmps34
  go_wp2
  go_still_tail 9, (by kernel_rfl)
  change wpList _ _ _ _ _ w.drew
  go_wp2_with fail
  refine (begun1 _ w.drew _ 6 hx HX.out HB.out).mono ?_
  rintro e w1 ⟨rfl, hb1⟩
  have hb1' := box_next w w1 hb1
  have hr1 := HR.out.below hb1'
  have ho1 := HO.out.below hb1'
  have B1 : Below N w w1 := hb1'.mono (by have := HR.out.lt; omega)
  clear c0 c1 hb1 hb1'
  have c1 := hr1.c1; have f1 := hr1.f 1
  have HR1 := Lib.hid hr1; have HO1 := Lib.hid ho1; have HB1 := Lib.hid B1; clear hr1 ho1 B1
  go_wp2_with fail
  have h2 := HR1.out.set1 (k + 1)
  obtain ⟨g2, B2⟩ := Rg.step HR1.out HO1.out hN (g_set _ b 1 _) h2
  have B3 := B2 _ HB1.out
  have hT3 := tab_below HT.out B3 hN0
  clear B2 c1 f1
  have hm : marks ((L s).drop (k + 1)) = (L s).drop (k + 1) := by unfold marks; rw [if_neg (hd_no h33), if_neg (hd_no h47)]
  have HM := Lib.hid hm; have H33 := Lib.hid h33; have H47 := Lib.hid h47; clear hm h33 h47
  obtain ⟨V1, hr1, ho1, _⟩ := g2
  refine (pass1 b (k + 1) s V1 33 _ false _ hr1 hkc hs2 rfl H33.out).mono ?_
  rintro e w3 ⟨rfl, h3, hg3⟩
  obtain ⟨g2, B4⟩ := Rg.step hr1 ho1 hN hg3 h3
  replace B3 := B4 _ B3
  clear B4 hr1 ho1 hg3 h3 hT3
  obtain ⟨V1, hr1, ho1, _⟩ := g2
  go_wp2_with fail
  refine (pass1 b (k + 1) s V1 47 _ false _ hr1 hkc hs2 rfl H47.out).mono ?_
  rintro e w6 ⟨rfl, h3, hg3⟩
  obtain ⟨g2, B4⟩ := Rg.step hr1 ho1 hN hg3 h3
  replace B3 := B4 _ B3
  clear B4 hr1 ho1 hg3 h3
  have hkK : k + 1 ≤ s.size := hkc
  go_wp2_with fail
  obtain ⟨V2, hr2, ho2, _⟩ := g2
  refine (upTo_gt b (k + 1) s V2 _ hr2 hkK hs2).mono ?_
  rintro e w4 ⟨rfl, m, hm, hd, h3, hg3⟩
  obtain ⟨g3, B4⟩ := Rg.step hr2 ho2 hN hg3 h3
  have B5 := B4 _ B3
  clear B4 B3 hg3 hr2 ho2 h3
  go_wp2_with fail
  refine (addClosed_any N b m 3 s _ l w4 g3 hm hs' hl2).mono ?_
  rintro e w5 ⟨rfl, m5, l', hm5, hd5, g5, ht, B6⟩
  go_wp2
  go_end0
  refine ⟨rfl, m5, l', hm5, ?_, g5, ?_, B5.trans B6⟩
  · rw [HM.out, hd5, hd]
    exact past_gt _
  · rw [HM.out, ht]
    rfl

set_option maxRecDepth 100000 in
set_option maxHeartbeats 4000000 in
theorem markup_0 (N b k : Nat) (s : ByteArray) (l : List Tw) (w : World) (h : Rg N w b s k l) (hk : k ≤ s.size) (hs : s.size ≤ 1000000000) (hl : l.length ≤ 1000000000) (hT : Tab w) (hN0 : 0 < N) (n : Nat) (hb : Tm.begun ((L s).drop k) = n) (h1 : n ≠ 1) (h2 : n ≠ 2) (h3 : n ≠ 3) (h4 : n ≠ 4) (h5 : n ≠ 5) (h6 : n ≠ 6) :
    Calls Tryd.prog 34 #[rp b] w fun e w' => e = .returned (.tuple #[]) ∧ ∃ m l', m ≤ s.size ∧ (L s).drop m = (mk ((L s).drop k)).2 ∧ Rg N w' b s m l' ∧ tks l' = tks l ++ (mk ((L s).drop k)).1 ∧ Below N w w' := by
  have hs' : s.size ≤ 140737488351232 := by omega
  have hs2 : s.size ≤ 140737488355328 := by omega
  have hl2 : l.length ≤ 4000000000 := by omega
  obtain ⟨V, hr, ho, hN⟩ := h
  have hx : (s.extract k s.size).size ≤ 140737488355328 := Nat.le_trans (size_extract _ _ _) (by omega)
  have hxl := L_end s k
  have i0 : (0 : Int) ≤ (k : Int) := by omega
  have i1 : (k : Int) ≤ (s.size : Int) := by omega
  have c0 := hr.c0; have c1 := hr.c1
  have hmk := mk_0 (by rw [hb]; exact h1) (by rw [hb]; exact h2) (by rw [hb]; exact h3) (by rw [hb]; exact h4) (by rw [hb]; exact h5) (by rw [hb]; exact h6)
  rw [hmk]
  have b1 : ((n : Int) == 1) = false := by simp; omega
  have b2 : ((n : Int) == 2) = false := by simp; omega
  have b3 : ((n : Int) == 3) = false := by simp; omega
  have b4 : ((n : Int) == 4) = false := by simp; omega
  have b5 : ((n : Int) == 5) = false := by simp; omega
  have b6 : ((n : Int) == 6) = false := by simp; omega
  have HX := Lib.hid hxl; have HR := Lib.hid hr; have HO := Lib.hid ho; have HB := Lib.hid hb; clear hxl hr ho hT hb hmk h1 h2 h3 h4 h5 h6
  go_enter Tryd.func34, Tryd.ntmps34
  go_wp2
  go_still_tail 9, (by kernel_rfl)
  change wpList _ _ _ _ _ w.drew
  go_wp2_with fail
  refine (begun1 _ w.drew _ n hx HX.out HB.out).mono ?_
  rintro e w1 ⟨rfl, hb1⟩
  have hb1' := box_next w w1 hb1
  go_wp2
  go_end0
  exact ⟨rfl, k, l, hk, rfl, ⟨V, HR.out.below hb1', HO.out.below hb1', hN⟩, (List.append_nil _).symm, hb1'.mono (by have := HR.out.lt; omega)⟩

theorem markup_any (N b k : Nat) (s : ByteArray) (l : List Tw) (w : World) (h : Rg N w b s k l) (hk : k ≤ s.size) (hs : s.size ≤ 1000000000) (hl : l.length ≤ 1000000000) (hT : Tab w) (hN0 : 0 < N) :
    Calls Tryd.prog 34 #[rp b] w fun e w' => e = .returned (.tuple #[]) ∧ ∃ m l', m ≤ s.size ∧ (L s).drop m = (mk ((L s).drop k)).2 ∧ Rg N w' b s m l' ∧ tks l' = tks l ++ (mk ((L s).drop k)).1 ∧ Below N w w' := by
  by_cases h1 : Tm.begun ((L s).drop k) = 1
  · exact markup_1 N b k s l w h hk hs hl hT hN0 h1
  by_cases h2 : Tm.begun ((L s).drop k) = 2
  · exact markup_2 N b k s l w h hk hs hl hT hN0 h2
  by_cases h3 : Tm.begun ((L s).drop k) = 3
  · exact markup_3 N b k s l w h hk hs hl hT hN0 h3
  by_cases h4 : Tm.begun ((L s).drop k) = 4
  · exact markup_4 N b k s l w h hk hs hl hT hN0 h4
  by_cases h5 : Tm.begun ((L s).drop k) = 5
  · exact markup_5 N b k s l w h hk hs hl hT hN0 h5
  by_cases h6 : Tm.begun ((L s).drop k) = 6
  · cases h33 : hd 33 ((L s).drop (k + 1)) with
    | true => exact markup_6a N b k s l w h hk hs hl hT hN0 h6 h33
    | false =>
      cases h47 : hd 47 ((L s).drop (k + 1)) with
      | true => exact markup_6b N b k s l w h hk hs hl hT hN0 h6 h33 h47
      | false => exact markup_6c N b k s l w h hk hs hl hT hN0 h6 h33 h47
  · exact markup_0 N b k s l w h hk hs hl hT hN0 _ rfl h1 h2 h3 h4 h5 h6

end Go.Proofs.YtjhhhlomkfnniaaDoor.To

namespace Go.Proofs.YtjhhhlomkfnniaaDoor.To
set_option linter.unusedSimpArgs false
set_option linter.unusedVariables false
open Go.RowKit Ba Fm Fo Tm Nm
open Ro (At acells len_acells below_new Sh Ra acells_one info_attr)
open Re (Tab)
open Rm (dec)

theorem lt_behind {l : List UInt8} {n : Nat} (h : l ≠ []) (hn : 1 ≤ n) : (l.drop n).length < l.length := by
  have : 0 < l.length := List.length_pos_iff.2 h
  rw [List.length_drop]
  omega
theorem len_attrs (l : List UInt8) : ∀ (self : Bool) (acc : List At) (bs : List At) (sf : Bool) (r : List UInt8), attrs self acc l = some (bs, sf, r) → r.length < l.length := by
  induction hn : l.length using Nat.strongRecOn generalizing l with
  | ind n ih =>
    intro self acc bs sf r h
    subst hn
    cases l with
    | nil => rw [attrs_nil] at h; cases h
    | cons c q =>
      by_cases h1 : c = 62
      · subst h1
        rw [attrs_end] at h
        injection h with h
        injection h with _ h
        injection h with _ h
        rw [h]; simp
      · by_cases h2 : c = 47 ∨ sp c = true
        · rw [attrs_skip _ _ _ h1 h2] at h
          have := ih q.length (by simp) q rfl _ _ _ _ _ h
          simp only [List.length_cons]
          omega
        · rw [attrs_attr _ _ _ h1 h2] at h
          have hq := len_attr c q
          have := ih (attr c q).2.length (by simp only [List.length_cons]; omega) _ rfl _ _ _ _ _ h
          simp only [List.length_cons]
          omega
theorem len_cont (n l : List UInt8) : (cont n l).2.length ≤ l.length := by
  unfold cont
  split
  · exact len_trail _ _
  · split
    · exact len_trail _ _
    · exact Nat.le_refl _
theorem len_start (l : List UInt8) : (startTag l).2.length ≤ l.length ∧ (endTag l).2.length ≤ l.length := by
  have h0 := len_trail (by1 en) l
  cases h : attrs false [] (from_ en l) with
  | none => rw [(start_no h).1, (start_no h).2]; exact ⟨Nat.zero_le _, Nat.zero_le _⟩
  | some x =>
    obtain ⟨bs, sf, r⟩ := x
    have h1 := len_attrs _ _ _ _ _ _ h
    rw [(start_yes h).1, (start_yes h).2]
    have h2 := len_cont (lowL (upTo en l)) r
    have h1' : r.length < (trail (by1 en) l).length := h1
    exact ⟨by show (cont _ r).2.length ≤ _; omega, by show r.length ≤ _; omega⟩
theorem len_closed (l : List UInt8) : (closed l).2.length ≤ l.length := by
  have := len_trail (by1 gt) l
  show ((trail (by1 gt) l).drop 1).length ≤ _
  rw [List.length_drop]
  omega
theorem len_comm (l : List UInt8) : (comm l).2.length ≤ l.length := by
  unfold comm
  have := len_trail cend l
  split
  · rw [List.length_drop]; omega
  · split
    · rw [List.length_drop]; omega
    · show ((trail cend l).drop _).length ≤ _
      rw [List.length_drop]; omega
theorem len_marks (l : List UInt8) : (marks l).length ≤ l.length := by
  unfold marks
  split
  · rw [List.length_drop]; omega
  · split
    · rw [List.length_drop]; omega
    · exact Nat.le_refl _
theorem marked_le (r : List UInt8) : marked r ≤ 6 := by
  unfold marked
  split
  · decide
  · split <;> decide
theorem begun_le (l : List UInt8) : Tm.begun l ≤ 6 := by
  match l with
  | [] => decide
  | [a] =>
    have : Tm.begun [a] = 0 := by show (if a = 60 then 0 else 0) = 0; split <;> rfl
    omega
  | a :: c :: r =>
    have hm := marked_le r
    have hs := slashed_cases r
    rw [begun_two]
    split
    · split
      · decide
      · split
        · omega
        · split
          · exact hm
          · split <;> decide
    · decide
/-- What begins something is gone over. -/
theorem len_mk {l : List UInt8} (h : Tm.begun l ≠ 0) : (mk l).2.length < l.length := by
  have hne : l ≠ [] := fun e => h (by rw [e]; rfl)
  have d1 := lt_behind hne (n := 1) (by decide)
  have d2 := lt_behind hne (n := 2) (by decide)
  have d3 := lt_behind hne (n := 3) (by decide)
  have d4 := lt_behind hne (n := 4) (by decide)
  have d9 := lt_behind hne (n := 9) (by decide)
  by_cases h1 : Tm.begun l = 1
  · rw [mk_1 h1]; have := (len_start (l.drop 1)).1; omega
  by_cases h2 : Tm.begun l = 2
  · rw [mk_2 h2]; have := (len_start (l.drop 2)).2; omega
  by_cases h3 : Tm.begun l = 3
  · rw [mk_3 h3]; exact d3
  by_cases h4 : Tm.begun l = 4
  · rw [mk_4 h4]; have := len_comm (l.drop 4); show (comm _).2.length < _; omega
  by_cases h5 : Tm.begun l = 5
  · rw [mk_5 h5]; have := len_closed (l.drop 9); show (closed _).2.length < _; omega
  by_cases h6 : Tm.begun l = 6
  · rw [mk_6 h6]; have := len_closed (marks (l.drop 1)); have := len_marks (l.drop 1); show (closed _).2.length < _; omega
  · exact absurd (begun_le l) (by omega)
theorem len_turn {l : List UInt8} (h : l ≠ []) : (turn l).2.length < l.length := by
  show (mk (trail bg l)).2.length < _
  have h1 := len_trail bg l
  rcases trail_cases bg l with e | e
  · rw [e, mk_0 (by decide) (by decide) (by decide) (by decide) (by decide) (by decide)]
    exact List.length_pos_iff.2 h
  · have := len_mk (of_decide_eq_true e)
    omega
theorem cut_nil : cut [] = [] := by
  rw [cut, dif_neg (by simp)]
  show txt (dec []) ++ (mk []).1 = []
  rw [Rm.dec_nil, mk_0 (by decide) (by decide) (by decide) (by decide) (by decide) (by decide)]
  rfl
theorem cut_step {l : List UInt8} (h : l ≠ []) : cut l = (turn l).1 ++ cut (turn l).2 := by rw [cut, dif_pos (len_turn h)]
theorem turn_len (l : List UInt8) : (turn l).1.length ≤ 3 := by
  show (txt _ ++ (mk _).1).length ≤ 3
  rw [List.length_append]
  have := len_txt (dec (lead bg l))
  have := mk_len (l := trail bg l)
  omega

theorem Rc.new (w : World) (s : ByteArray) : Rc (w.alloc (.cells #[.string s, .int .i64 0, .slice none 0 0] 47)) w.heap.size s 0 (.slice none 0 0) := (MapKept.heap_alloc w _).1

set_option maxRecDepth 100000 in
set_option maxHeartbeats 4000000 in
theorem In_any (s nm : ByteArray) (w : World) (hs : s.size ≤ 300000000) (hn : nm.size ≤ 140737488351232) (hT : Tab w) :
    Calls Tryd.prog 17 #[.string s, .string nm] w fun e w' => ∃ V l, e = .returned V ∧ Ot w.heap.size w' V l ∧ tks l = within (L nm) (L s) ∧ Below w.heap.size w w' := by
  have hN0 : 0 < w.heap.size := hT.2
  have hr0 := Rc.new w s
  have hb0 := below_new w (.cells #[.string s, .int .i64 0, .slice none 0 0] 47)
  have hT0 := hT.below hb0
  have HR := Lib.hid hr0; have HB := Lib.hid hb0; have HT := Lib.hid hT0; clear hr0 hb0 hT0
  go_enter Tryd.func17, Tryd.ntmps17
  go_wp2_with fail
  have g0 : Rg w.heap.size (w.alloc (.cells #[.string s, .int .i64 0, .slice none 0 0] 47)) w.heap.size s 0 [] := ⟨_, HR.out, Ot.nil _ _, Nat.le_refl _⟩
  refine (contents_any w.heap.size w.heap.size 0 s nm [] _ g0 (Nat.zero_le _) (by omega) hn (by simp) HT.out hN0).mono ?_
  rintro e w1 ⟨rfl, m, l1, hm, hd, g1, ht, B1⟩
  have B2 := HB.out.trans B1
  have hl1 := tks_len ht (n := 1) (by
    unfold cont
    split
    · exact len_txt _
    · split
      · exact len_txt _
      · simp)
  rw [List.drop_zero] at hd ht
  have hw : tks l1 ++ cut ((L s).drop m) = within (L nm) (L s) := by rw [ht, hd]; rfl
  obtain ⟨N, hN⟩ : ∃ N, w.heap.size = N := ⟨_, rfl⟩
  rw [hN] at g1 B2 hN0 ⊢
  have HT0 := Lib.hid hT
  clear g0 B1 ht hd HR HB HT hT
  have HNN := Lib.hid hN; clear hN
  go_wp2
  go_loopw [] (fun wr => ∃ (k : Nat) (l : List Tw), k ≤ s.size ∧ Rg N wr N s k l ∧ tks l ++ cut ((L s).drop k) = within (L nm) (L s) ∧ l.length ≤ 3 * k + 1 ∧ Below N w wr) (fun wr => s.size - posOf wr N)
  case atStart => exact ⟨m, l1, hm, g1, hw, by simp at hl1; omega, B2⟩
  case round =>
    clear g1 hw hl1 B2 hm
    obtain ⟨k, l, hk, g, hw, hl, hb⟩ := hrel
    obtain ⟨V, hr, ho, hNb⟩ := g
    have c0 := hr.c0; have c1 := hr.c1; have c2 := hr.c2
    have hpos := hr.pos
    by_cases hp : k < s.size
    · have hlt : decide ((k : Int) < s.size) = true := decide_eq_true (by omega)
      have HR := Lib.hid hr; have HO := Lib.hid ho; have HW := Lib.hid hw; have HB := Lib.hid hb; have HP := Lib.hid hpos; clear hr ho hw hb hpos
      go_wp2_with fail
      refine (plain_any N k s V wr HR.out hk (by omega)).mono ?_
      rintro e w2 ⟨rfl, m2, hm2, hd2, h2, hg2⟩
      obtain ⟨g2, B2⟩ := Rg.step HR.out HO.out hNb hg2 h2
      have B3 := B2 _ HB.out
      have hT2 := tab_below HT0.out B3 hN0
      have hsz : (B (lead bg ((L s).drop k))).size ≤ 140737488351232 := by
        rw [size_B]
        have := len_lead bg ((L s).drop k)
        rw [List.length_drop, size_L] at this
        omega
      clear B2 hg2 h2 c0 c1 c2
      go_wp2_with fail
      refine (Re.decode_any _ w2 hT2 hsz).mono ?_
      rintro e w3 ⟨rfl, hb3⟩
      obtain ⟨g3, B4⟩ := g2.below hb3
      have B5 := B3.trans B4
      clear B3 B4 hb3 g2 hT2
      go_wp2_with fail
      refine (addText_any N N m2 s _ l w3 g3 (by omega)).mono ?_
      rintro e w4 ⟨rfl, l4, g4, ht4, B6⟩
      have B7 := B6 _ B5
      rw [L_B, L_B] at ht4
      have hl4 := tks_len ht4 (len_txt _)
      have hT4 := tab_below HT0.out B7 hN0
      clear B6 B5 g3
      go_wp2_with fail
      refine (markup_any N N m2 s l4 w4 g4 hm2 (by omega) (by omega) hT4 hN0).mono ?_
      rintro e w5 ⟨rfl, k5, l5, hk5, hd5, g5, ht5, B8⟩
      have hl5 := tks_len ht5 mk_len
      have B9 := B7.trans B8
      rw [hd2] at hd5 ht5
      have hne : (L s).drop k ≠ [] := by rw [drop_cons s k hp]; exact List.cons_ne_nil _ _
      have hcs := cut_step hne
      have htl := len_turn hne
      have e2 : (turn ((L s).drop k)).2 = (L s).drop k5 := hd5.symm
      have e1 : (turn ((L s).drop k)).1 = txt (dec (lead bg ((L s).drop k))) ++ (mk (trail bg ((L s).drop k))).1 := rfl
      rw [e2] at hcs htl
      rw [List.length_drop, List.length_drop, size_L] at htl
      have hw5 : tks l5 ++ cut ((L s).drop k5) = within (L nm) (L s) := by
        rw [← HW.out, hcs, e1, ht5, ht4]
        simp only [List.append_assoc]
      have hp5 : posOf w5 N = k5 := by obtain ⟨V5, hr5, _⟩ := g5; exact hr5.pos
      clear B7 B8 g4 hT4 ht5 ht4 hd2 hd5 hcs e1 e2 hne
      go_wp2
      go_roundw
      case rel => exact ⟨k5, l5, hk5, g5, hw5, by omega, B9⟩
      case measure =>
        rw [hp5, HP.out]
        omega
    · have hlt : decide ((k : Int) < s.size) = false := decide_eq_false (by omega)
      rw [drop_nil s k hp, cut_nil, List.append_nil] at hw
      have HR := Lib.hid hr; have HO := Lib.hid ho; have HW := Lib.hid hw; have HB := Lib.hid hb; clear hr ho hw hb hpos
      go_wp2
      go_ret
      exact ⟨V, l, rfl, by rw [HNN.out]; exact HO.out, HW.out, by rw [HNN.out]; exact HB.out⟩

set_option maxHeartbeats 1000000 in
theorem Cut_any (s : ByteArray) (w : World) (hs : s.size ≤ 300000000) (hT : Tab w) :
    Calls Tryd.prog 13 #[.string s] w fun e w' => ∃ V l, e = .returned V ∧ Ot w.heap.size w' V l ∧ tks l = within [] (L s) ∧ Below w.heap.size w w' := by
  go_enter Tryd.func13, Tryd.ntmps13
  go_wp2_with fail
  refine (In_any s ⟨#[]⟩ w hs (by decide) hT).mono ?_
  rintro e w1 ⟨V, l, rfl, ho, ht, hb⟩
  go_wp2
  go_ret
  exact ⟨V, l, rfl, ho, ht, hb⟩

end Go.Proofs.YtjhhhlomkfnniaaDoor.To
