/-
  Walks of stage 6's reference: alone, note.
-/
import Derived.Test.YtjhhhlomkfnniaaDoorTokRefD
import Derived.Test.YtjhhhlomkfnniaaDoorTokFin
namespace Go.Proofs.YtjhhhlomkfnniaaDoor.To
set_option linter.unusedSimpArgs false
set_option linter.unusedVariables false
open Go.RowKit Ba Fm Fo Tm Nm Na
open Rm (dec dec_ne)
open Ro (below_new At acells len_acells Sh Ra range2)
open Re (Tab)

theorem ext_len {s : ByteArray} {i m : Nat} {x : List UInt8} (hi : i ≤ m) (hm : m ≤ s.size) (h : s.extract i m = B x) : x.length = m - i := by
  have := congrArg ByteArray.size h
  rw [size_B, ← size_L, L_extract, List.length_take, List.length_drop, size_L] at this
  omega
theorem alone_low {nm : ByteArray} (h : rawB (L nm) = true ∨ softB (L nm) = true) : lowL (L nm) = L nm := by
  have hall : ∀ x ∈ rawL ++ softL, lowL (L x) = L x := by decide
  have hm : B (L nm) ∈ rawL ++ softL := by
    rcases h with h | h
    · exact List.mem_append_left _ (isIn_of h)
    · exact List.mem_append_right _ (isIn_of h)
  have := hall _ hm
  rwa [L_B] at this

set_option maxRecDepth 100000 in
set_option maxHeartbeats 4000000 in
theorem alone_none (N : Nat) (v : Value) (s nm : ByteArray) (i : Nat) (w : World) (h1 : isIn nm rawL = false) (h2 : isIn nm softL = false) :
    Calls Tryd.prog 24 #[v, .string s, .int .i64 i, .string nm] w fun e w' => e = .returned (.tuple #[v, .int .i64 i]) ∧ Below w.heap.size w w' := by
  have H1 := Lib.hid h1; have H2 := Lib.hid h2; clear h1 h2
  go_enter Tryd.func24, Tryd.ntmps24
  go_wp2_with fail
  refine (refRaw_any w).mono ?_
  rintro e w1 ⟨v1, rfl, ho1, b1⟩
  go_wp2_with fail
  refine (hasS w1 v1 rawL nm (sv_own ho1) (by decide)).mono ?_
  rw [H1.out]
  rintro e w' ⟨rfl, rfl⟩
  go_wp2_with fail
  refine (refSoft_any w1).mono ?_
  rintro e w2 ⟨v2, rfl, ho2, b2⟩
  go_wp2_with fail
  refine (hasS w2 v2 softL nm (sv_own ho2) (by decide)).mono ?_
  rw [H2.out]
  rintro e w' ⟨rfl, rfl⟩
  have B2 := Lib.hid (bt b1 b2); clear b1 b2 ho1 ho2
  go_wp2
  go_ret2
  exact ⟨rfl, B2.out⟩

theorem keep2 {N : Nat} {w w1 : World} (h : Below w.heap.size w w1) (hN : N ≤ w.heap.size) : N ≤ w1.heap.size ∧ ∀ w0, Below N w0 w → Below N w0 w1 := ⟨Nat.le_trans hN h.size, fun w0 h0 => h0.trans (h.mono hN)⟩

set_option maxRecDepth 100000 in
set_option maxHeartbeats 4000000 in
theorem alone_raw (N : Nat) (v : Value) (l : List Tw) (s nm : ByteArray) (i : Nat) (w : World) (ho : Ot N w v l) (hN : N ≤ w.heap.size) (hs : s.size ≤ 140737488351232) (hi : i ≤ s.size) (hn : nm.size ≤ 140737488351232) (hl : l.length ≤ 2000000) (h1 : isIn nm rawL = true) (h2 : isIn nm softL = false) :
    Calls Tryd.prog 24 #[v, .string s, .int .i64 i, .string nm] w fun e w' => ∃ v' l' n, e = .returned (.tuple #[v', .int .i64 ((n : Nat) : Int)]) ∧ Ot N w' v' l' ∧ tks l' = tks l ++ txt (lead (isEnd (L nm)) ((L s).drop i)) ∧ n ≤ s.size ∧ i ≤ n ∧ (L s).drop n = trail (isEnd (L nm)) ((L s).drop i) ∧ l'.length ≤ l.length + 1 ∧ w.heap.size ≤ w'.heap.size ∧ ∀ w0, Below N w0 w → Below N w0 w' := by
  have hnl := alone_low (nm := nm) (.inl (by unfold rawB; rw [B_L]; exact h1))
  have H1 := Lib.hid h1; have H2 := Lib.hid h2; have HO := Lib.hid ho; have HNL := Lib.hid hnl; clear h1 h2 ho hnl
  go_enter Tryd.func24, Tryd.ntmps24
  go_wp2_with fail
  refine (refRaw_any w).mono ?_
  rintro e w1 ⟨v1, rfl, ho1, b1⟩
  go_wp2_with fail
  refine (hasS w1 v1 rawL nm (sv_own ho1) (by decide)).mono ?_
  rw [H1.out]
  rintro e w' ⟨rfl, rfl⟩
  go_wp2_with fail
  refine (inside_any s nm i w1 hs hi hn HNL.out).mono ?_
  rintro e w2 ⟨m, rfl, hm, him, hx, hd, b2⟩
  have B2 := bt b1 b2
  have i0 : (0 : Int) ≤ (i : Int) := by omega
  have i1 : (i : Int) ≤ (m : Int) := by omega
  have i2 : (m : Int) ≤ (s.size : Int) := by omega
  have hlen := ext_len him hm hx
  have HX := Lib.hid hx; have HD := Lib.hid hd; have HLEN := Lib.hid hlen; clear hx hd b1 b2 ho1 hlen
  have HB2 := Lib.hid B2; clear B2
  go_wp2_with fail
  refine (refSoft_any w2).mono ?_
  rintro e w3 ⟨v3, rfl, ho3, b3⟩
  go_wp2_with fail
  refine (hasS w3 v3 softL nm (sv_own ho3) (by decide)).mono ?_
  rw [H2.out]
  rintro e w' ⟨rfl, rfl⟩
  have hb3 := bt HB2.out b3
  have hot := HO.out.below hb3
  obtain ⟨hZ, hbel⟩ := keep2 hb3 hN
  have hsz := hb3.size
  have HOT := Lib.hid hot; have HBEL := Lib.hid hbel; clear ho3 b3 hb3 hot hbel HB2
  by_cases hq : i < m
  · have hgt : decide ((m : Int) > (i : Int)) = true := decide_eq_true (by omega)
    have hfr : Fr N w3 ⟨⟨0, ⟨#[]⟩, s.extract i m, [], false⟩, none, 0⟩ := fr_none N w3 _ rfl
    have hne : lead (isEnd (L nm)) ((L s).drop i) ≠ [] := fun e => by
      have := HLEN.out
      rw [e] at this
      simp at this
      omega
    have HF := Lib.hid hfr; have HNE := Lib.hid hne; clear hfr hne
    go_wp2_with (at_builtin; refine app_tok2 w3 rfl (.tmp 40) (.tmp 43) rfl N v l ⟨⟨0, ⟨#[]⟩, s.extract i m, [], false⟩, none, 0⟩ rfl HOT.out.ow HF.out.att HF.out.ap w3.heap.size rfl rfl hl hZ ?_; intro v4 w4 how hk hf hg; obtain ⟨A4, cc4, rfl⟩ := form1 how; have HK := Lib.hid hk; have HFF := Lib.hid hf; have HG := Lib.hid hg; have HOW := Lib.hid how; clear hk hf hg how)
    go_ret2
    refine ⟨_, _, m, rfl, Ot.add HOT.out HF.out HOW.out HFF.out, ?_, hm, him, HD.out, by simp, Nat.le_trans hsz HG.out.size, fun w0 h0 => HK.out w0 (HBEL.out w0 h0)⟩
    rw [tks_append]
    unfold txt
    rw [if_neg HNE.out]
    show _ = _ ++ [(⟨0, B [], B (lead _ _), [], false⟩ : Tk)]
    rw [← HX.out]
    rfl
  · have hgt : decide ((m : Int) > (i : Int)) = false := decide_eq_false (by omega)
    have hne : lead (isEnd (L nm)) ((L s).drop i) = [] := List.eq_nil_of_length_eq_zero (by have := HLEN.out; omega)
    have HNE := Lib.hid hne; clear hne
    go_wp2
    go_ret2
    refine ⟨_, l, m, rfl, HOT.out, ?_, hm, him, HD.out, by omega, hsz, HBEL.out⟩
    rw [HNE.out]
    unfold txt
    rw [if_pos rfl, List.append_nil]

set_option maxRecDepth 100000 in
set_option maxHeartbeats 4000000 in
theorem alone_soft (N : Nat) (v : Value) (l : List Tw) (s nm : ByteArray) (i : Nat) (w : World) (ho : Ot N w v l) (hN : N ≤ w.heap.size) (hs : s.size ≤ 140737488351232) (hi : i ≤ s.size) (hn : nm.size ≤ 140737488351232) (hl : l.length ≤ 2000000) (h1 : isIn nm rawL = false) (h2 : isIn nm softL = true) :
    Calls Tryd.prog 24 #[v, .string s, .int .i64 i, .string nm] w fun e w' => ∃ v' l' n, e = .returned (.tuple #[v', .int .i64 ((n : Nat) : Int)]) ∧ Ot N w' v' l' ∧ tks l' = tks l ++ txt (dec (lead (isEnd (L nm)) ((L s).drop i))) ∧ n ≤ s.size ∧ i ≤ n ∧ (L s).drop n = trail (isEnd (L nm)) ((L s).drop i) ∧ l'.length ≤ l.length + 1 ∧ w.heap.size ≤ w'.heap.size ∧ ∀ w0, Below N w0 w → Below N w0 w' := by
  have hnl := alone_low (nm := nm) (.inr (by unfold softB; rw [B_L]; exact h2))
  have H1 := Lib.hid h1; have H2 := Lib.hid h2; have HO := Lib.hid ho; have HNL := Lib.hid hnl; clear h1 h2 ho hnl
  go_enter Tryd.func24, Tryd.ntmps24
  go_wp2_with fail
  refine (refRaw_any w).mono ?_
  rintro e w1 ⟨v1, rfl, ho1, b1⟩
  go_wp2_with fail
  refine (hasS w1 v1 rawL nm (sv_own ho1) (by decide)).mono ?_
  rw [H1.out]
  rintro e w' ⟨rfl, rfl⟩
  go_wp2_with fail
  refine (refSoft_any w1).mono ?_
  rintro e w12 ⟨v2, rfl, ho2, b12⟩
  go_wp2_with fail
  refine (hasS w12 v2 softL nm (sv_own ho2) (by decide)).mono ?_
  rw [H2.out]
  rintro e w' ⟨rfl, rfl⟩
  go_wp2_with fail
  refine (inside_any s nm i w12 hs hi hn HNL.out).mono ?_
  rintro e w2 ⟨m, rfl, hm, him, hx, hd, b2⟩
  have B2 := bt (bt b1 b12) b2
  have i0 : (0 : Int) ≤ (i : Int) := by omega
  have i1 : (i : Int) ≤ (m : Int) := by omega
  have i2 : (m : Int) ≤ (s.size : Int) := by omega
  have hlen := ext_len him hm hx
  have HX := Lib.hid hx; have HD := Lib.hid hd; have HLEN := Lib.hid hlen; clear hx hd b1 b2 ho1 hlen ho2 b12
  have HB2 := Lib.hid B2; clear B2
  go_wp2_with fail
  refine (refSoft_any w2).mono ?_
  rintro e w3 ⟨v3, rfl, ho3, b3⟩
  go_wp2_with fail
  refine (hasS w3 v3 softL nm (sv_own ho3) (by decide)).mono ?_
  rw [H2.out]
  rintro e w' ⟨rfl, rfl⟩
  go_wp2_with fail
  refine (Re.refDecode_any (s.extract i m) w3 (Nat.le_trans (size_extract _ _ _) hs)).mono ?_
  rintro e w4 ⟨rfl, b4⟩
  rw [HX.out, L_B]
  obtain ⟨dd, hdd⟩ : ∃ d, B (dec (lead (isEnd (L nm)) ((L s).drop i))) = d := ⟨_, rfl⟩
  rw [hdd]
  have hb3 := bt (bt HB2.out b3) b4
  have hot := HO.out.below hb3
  obtain ⟨hZ, hbel⟩ := keep2 hb3 hN
  have hsz := hb3.size
  have HOT := Lib.hid hot; have HBEL := Lib.hid hbel; have HDD := Lib.hid hdd; clear ho3 b3 hb3 hot hbel HB2 b4 hdd
  by_cases hq : i < m
  · have hgt : decide ((m : Int) > (i : Int)) = true := decide_eq_true (by omega)
    have hfr : Fr N w4 ⟨⟨0, ⟨#[]⟩, dd, [], false⟩, none, 0⟩ := fr_none N w4 _ rfl
    have hne : dec (lead (isEnd (L nm)) ((L s).drop i)) ≠ [] := dec_ne fun e => by
      have := HLEN.out
      rw [e] at this
      simp at this
      omega
    have HF := Lib.hid hfr; have HNE := Lib.hid hne; clear hfr hne
    go_wp2_with (at_builtin; refine app_tok2 w4 rfl (.tmp 40) (.tmp 43) rfl N v l ⟨⟨0, ⟨#[]⟩, dd, [], false⟩, none, 0⟩ rfl HOT.out.ow HF.out.att HF.out.ap w4.heap.size rfl rfl hl hZ ?_; intro v4 w5 how hk hf hg; obtain ⟨A4, cc4, rfl⟩ := form1 how; have HK := Lib.hid hk; have HFF := Lib.hid hf; have HG := Lib.hid hg; have HOW := Lib.hid how; clear hk hf hg how)
    go_ret2
    refine ⟨_, _, m, rfl, Ot.add HOT.out HF.out HOW.out HFF.out, ?_, hm, him, HD.out, by simp, Nat.le_trans hsz HG.out.size, fun w0 h0 => HK.out w0 (HBEL.out w0 h0)⟩
    rw [tks_append]
    unfold txt
    rw [if_neg HNE.out, ← HDD.out]
    rfl
  · have hgt : decide ((m : Int) > (i : Int)) = false := decide_eq_false (by omega)
    have hne : lead (isEnd (L nm)) ((L s).drop i) = [] := List.eq_nil_of_length_eq_zero (by have := HLEN.out; omega)
    have HNE := Lib.hid hne; clear hne
    go_wp2
    go_ret2
    refine ⟨_, l, m, rfl, HOT.out, ?_, hm, him, HD.out, by omega, hsz, HBEL.out⟩
    rw [HNE.out]
    unfold txt
    rw [if_pos Rm.dec_nil, List.append_nil]

theorem raw_soft (nm : ByteArray) (h : isIn nm rawL = true) : isIn nm softL = false := by
  have hall : ∀ x ∈ rawL, isIn x softL = false := by decide
  exact hall _ (isIn_of h)

theorem alone_any (N : Nat) (v : Value) (l : List Tw) (s nm : ByteArray) (i : Nat) (w : World) (ho : Ot N w v l) (hN : N ≤ w.heap.size) (hs : s.size ≤ 140737488351232) (hi : i ≤ s.size) (hn : nm.size ≤ 140737488351232) (hl : l.length ≤ 2000000) :
    Calls Tryd.prog 24 #[v, .string s, .int .i64 i, .string nm] w fun e w' => ∃ v' l' n, e = .returned (.tuple #[v', .int .i64 ((n : Nat) : Int)]) ∧ Ot N w' v' l' ∧ tks l' = tks l ++ (cont (L nm) ((L s).drop i)).1 ∧ n ≤ s.size ∧ i ≤ n ∧ (L s).drop n = (cont (L nm) ((L s).drop i)).2 ∧ l'.length ≤ l.length + 1 ∧ w.heap.size ≤ w'.heap.size ∧ ∀ w0, Below N w0 w → Below N w0 w' := by
  have er : rawB (L nm) = isIn nm rawL := by unfold rawB; rw [B_L]
  have es : softB (L nm) = isIn nm softL := by unfold softB; rw [B_L]
  cases h1 : isIn nm rawL with
  | true =>
    rw [cont_r (er.trans h1)]
    exact alone_raw N v l s nm i w ho hN hs hi hn hl h1 (raw_soft nm h1)
  | false =>
    cases h2 : isIn nm softL with
    | true =>
      rw [cont_s (er.trans h1) (es.trans h2)]
      exact alone_soft N v l s nm i w ho hN hs hi hn hl h1 h2
    | false =>
      rw [cont_n (by unfold softOr; rw [er, es, h1, h2]; rfl)]
      refine (alone_none N v s nm i w h1 h2).mono ?_
      rintro e w' ⟨rfl, hb⟩
      obtain ⟨hZ, hbel⟩ := keep2 hb hN
      exact ⟨v, l, i, rfl, ho.below hb, by rw [List.append_nil], hi, Nat.le_refl _, rfl, by omega, hb.size, hbel⟩

end Go.Proofs.YtjhhhlomkfnniaaDoor.To
