/-
  The reference of stage 15: boltingref15.Parse.
-/
import Derived.Test.YthgpjhblbpiagaaHeadRefA
import Derived.Test.YthgpjhblbpiagaaHeadWalkF
import Derived.Deep.RegionLaw
namespace Go.Proofs.Ythgpjhblbpiagaa.He
set_option maxRecDepth 100000
set_option linter.unusedSimpArgs false
set_option linter.unusedVariables false
open Go.RowKit Ba Fm Fo Go.Maps

theorem g_dN (w : World) (n : Nat) (row : Option Nat) : w.grownBy (w.drewN n) row := ⟨rfl, rfl, rfl, Nat.le_refl _, fun _ _ _ => rfl⟩
theorem may_q (s : ByteArray) (w : World) (hs : s.size ≤ 140737488355328) (q : Bool) (h : mayB s = q) (n : Nat) :
    Calls Try.prog 23 #[.string s] (w.drewN n) fun e w'' => e = .returned (.bool q) ∧ ∃ m, w'' = w.drewN m :=
  (may1 s (w.drewN n) hs q h).mono fun e w' ⟨he, hw⟩ => ⟨he, n, hw.symm⟩
theorem has_q (A : Option Addr) (c N : Nat) (l : List ByteArray) (s : ByteArray) (w : World) (hr : Rd w N A l) (hl : l.length ≤ 8796093022208) (q : Bool) (hq : isIn s l = q) (n : Nat) :
    Calls Try.prog 22 #[.slice A l.length c, .string s] (w.drewN n) fun e w'' => e = .returned (.bool q) ∧ ∃ m, w'' = w.drewN m :=
  (has1 A c N l s (w.drewN n) hr hl q hq).mono fun e w' ⟨he, hw⟩ => ⟨he, n, hw.symm⟩
/-- append of one string, at a step of a region that draws. -/
theorem step_app_str {ops : Array Oper} {o : Oper} {a : Act} {K : Act → World → Prop} {Q : Exit → Act → World → Prop} {E : Prop} (W : World) (hgd : o.guard = none) (s x : Operand)
    (ho : o.op = .call { callee := .builtin .append, args := #[s, x], argTypes := #[24, 24] })
    (W0 : World) (N : Nat) (v : Value) (l : List ByteArray) (z : ByteArray) (hr : Sown N W0 v l) (hg : W0.grownBy W none) (hN : N ≤ W0.heap.size) (hl : l.length ≤ 2000000)
    (hs : a.eval s = v) (g0 : Nat) (hx : a.eval x = .slice (some ⟨g0, 0, none⟩) 1 1) (hz : W.heap[g0]? = some (.cells #[.string z] 9))
    (h : ∀ g cap w', Sown N w' (.slice (some ⟨g, 0, none⟩) (l.length + 1) cap) (l ++ [z]) → W0.grownBy w' v.ownBlock → K (a.put o.dst (.slice (some ⟨g, 0, none⟩) (l.length + 1) cap)) w') :
    if Region.wanted o (yielded ops a.tmps) = true then Oper.wp Try.prog o a W K Q else E := by
  obtain ⟨i0, hi, hz0, hz1, hz2⟩ := info_parts info_str
  have hown : W.ownsRow N 9 1 v l.length (l.map sc) := World.ownsRow.kept hr hg (by cases hv : v.ownBlock with
    | none => exact .inl rfl
    | some k => right; simp)
  refine step_append_lies W hgd s x 24 ho N 9 i0 _ 1 16 Try.underlying24 hi hz0 hz1 hz2 rfl (by decide) v l.length (l.map sc) hs hown ⟨g0, 0, none⟩ 1 1 [.string z] hx rfl (fun j u hu => World.news_of_block hz j u hu) (by simp [Value.oneCell']) (by decide) (by unfold maxLen; omega) (by omega) (Nat.le_trans hN hg.size) _ rfl ?_
  intro g cap w1 h1 h2 _ _
  exact h g cap w1 (Sown.appended (m := [z]) h1 rfl) (grown_two hg h2)

def gR (ds : List (List ByteArray)) (r : Bool) (k : Nat) : Gd := (ds.take k).foldl stepR (start r)
theorem gR_succ {ds : List (List ByteArray)} {r : Bool} {k : Nat} (h : k < ds.length) : gR ds r (k + 1) = stepR (gR ds r k) ds[k] := by
  unfold gR
  rw [List.take_succ_eq_append_getElem h, List.foldl_append]
  rfl
theorem gR_all (s : ByteArray) (r : Bool) {k : Nat} (h : (parts s).length ≤ k) : gR (parts s) r k = parseM s r := by
  unfold gR
  rw [List.take_of_length_le h]
  exact parseR s r
theorem stepR_on {g : Gd} {n : ByteArray} {vs : List ByteArray} {q : Bool} (h1 : (n.toList == [114, 101, 113, 117, 105, 114, 101, 45, 116, 114, 117, 115, 116, 101, 100, 45, 116, 121, 112, 101, 115, 45, 102, 111, 114]) = true) (h2 : isIn kScript vs = q) : stepR g (n :: vs) = { g with on := q } := by
  rw [eqlit, decide_eq_true_eq] at h1
  unfold stepR
  rw [if_pos (show hd (n :: vs) = kOn from h1)]
  show { g with on := isIn kScript vs } = _
  rw [h2]
theorem stepR_names {g : Gd} {n : ByteArray} {vs : List ByteArray} {qa qt : Bool} (h1 : (n.toList == [114, 101, 113, 117, 105, 114, 101, 45, 116, 114, 117, 115, 116, 101, 100, 45, 116, 121, 112, 101, 115, 45, 102, 111, 114]) = false) (h2 : (n.toList == [116, 114, 117, 115, 116, 101, 100, 45, 116, 121, 112, 101, 115]) = true) (ha : isIn kStar vs = qa) (ht : isIn kDup vs = qt) : stepR g (n :: vs) = { g with any := qa, twice := qt, names := namesF g.names vs } := by
  rw [eqlit, decide_eq_false_iff_not] at h1
  rw [eqlit, decide_eq_true_eq] at h2
  unfold stepR
  rw [if_neg (show ¬ hd (n :: vs) = kOn from h1), if_pos (show hd (n :: vs) = kNames from h2)]
  show { g with any := isIn kStar vs, twice := isIn kDup vs, names := namesF g.names vs } = _
  rw [ha, ht]
theorem stepR_else {g : Gd} {n : ByteArray} {vs : List ByteArray} (h1 : (n.toList == [114, 101, 113, 117, 105, 114, 101, 45, 116, 114, 117, 115, 116, 101, 100, 45, 116, 121, 112, 101, 115, 45, 102, 111, 114]) = false) (h2 : (n.toList == [116, 114, 117, 115, 116, 101, 100, 45, 116, 121, 112, 101, 115]) = false) : stepR g (n :: vs) = g := by
  rw [eqlit, decide_eq_false_iff_not] at h1 h2
  unfold stepR
  rw [if_neg (show ¬ hd (n :: vs) = kOn from h1), if_neg (show ¬ hd (n :: vs) = kNames from h2)]
theorem lit_apart {n : ByteArray} (h : (n.toList == [114, 101, 113, 117, 105, 114, 101, 45, 116, 114, 117, 115, 116, 101, 100, 45, 116, 121, 112, 101, 115, 45, 102, 111, 114]) = true) : (n.toList == [116, 114, 117, 115, 116, 101, 100, 45, 116, 121, 112, 101, 115]) = false := by
  rw [beq_iff_eq] at h
  rw [h]
  decide

structure Rr (ds : List (List ByteArray)) (r : Bool) (b bg N M K : Nat) (v : Value) (w2 : World) (k : Nat) (wr : World) : Prop where
  box : ∃ vN, Hb wr bg (gA (gR ds r k) vN) ∧ Sown K wr vN (gR ds r k).names
  res : Hb wr b zeroG
  so : So N M wr v ds
  grown : w2.grownBy wr (some bg)
  few : (gR ds r k).names.length ≤ 1000 * k

structure Ir (vs : List ByteArray) (g : Gd) (qa qt : Bool) (b bg K : Nat) (w4 : World) (j : Nat) (wi : World) : Prop where
  box : ∃ A' c', Hb wi bg #[.bool g.on, .bool g.report, .slice A' (namesF g.names (vs.take j)).length c', .bool qa, .bool qt] ∧ Sown K wi (.slice A' (namesF g.names (vs.take j)).length c') (namesF g.names (vs.take j))
  res : Hb wi b zeroG
  bel : Below bg w4 wi
theorem grown_bg {w2 w4 wi : World} {bg : Nat} (h : w2.grownBy w4 (some bg)) (hs : w2.heap.size = bg + 1) (hb : Below bg w4 wi) : w2.grownBy wi (some bg) :=
  ⟨hb.os.trans h.os, hb.tape.trans h.tape, hb.output.trans h.output, Nat.le_trans h.size hb.size, fun i hi hne => (hb.block i (by
    have : i ≠ bg := fun e => hne (by rw [e])
    omega)).trans (h.block i hi hne)⟩
theorem box_ne {N b : Nat} {w : World} {v : Value} {l : List ByteArray} {cs : Array Value} (h : Sown N w v l) (hb : Hb w b cs) : some b ≠ v.ownBlock := fun e => by
  rcases sown_other h hb.noS.1 with h | h
  · rw [h] at e; cases e
  · exact h e.symm
theorem bel_set (w : World) (b j : Nat) (u : Value) : Below b w (w.setCell ⟨b, j, none⟩ u) := (Below.refl b w).setCell (p := ⟨b, j, none⟩) (Nat.le_refl b) u
theorem few_on (g : Gd) (q : Bool) : ({ g with on := q } : Gd).names = g.names := rfl

set_option maxHeartbeats 8000000 in
theorem refParse_any (s : ByteArray) (r : Bool) (w : World) (hs : s.size ≤ 1000) :
    Calls Try.prog 11 #[.string s, .bool r] w fun e w' => ∃ v, e = .returned v ∧ Gow w.heap.size w' v (parseM s r) ∧ Below w.heap.size w w' := by
  obtain ⟨w0, hw0⟩ : ∃ w0, w.alloc (.cells zeroG 26) = w0 := ⟨_, rfl⟩
  have hz0 : Hb w0 w.heap.size zeroG := by
    rw [← hw0]
    exact Hb.new w zeroG
  have hb0 : Below w.heap.size w w0 := by rw [← hw0]; exact (Below.refl _ _).alloc (Nat.le_refl _) _
  have hs0 : w0.heap.size = w.heap.size + 1 := by rw [← hw0]; simp
  have HW := Lib.hid hw0; clear hw0
  go_enter Try.func11, Try.ntmps11
  go_wp2_with fail
  rw [HW.out]
  refine (refParts_any s w0 (by omega)).mono ?_
  rintro e w1 ⟨v, rfl, hso, hb1⟩
  obtain ⟨ds, hds⟩ : ∃ ds, parts s = ds := ⟨_, rfl⟩
  rw [hds] at hso
  have hdl : ds.length ≤ 1001 := by have := len_parts s; rw [hds] at this; omega
  have hne : ∀ d ∈ ds, d ≠ [] ∧ d.length ≤ 1000 ∧ ∀ x ∈ d, x.size ≤ 1000 := fun d hd => by
    rw [← hds] at hd
    obtain ⟨h1, h2⟩ := words_small s d hd
    exact ⟨parts_ne s d hd, by omega, fun x hx => by have := h2 x hx; omega⟩
  have hz1 := hz0.on hb1
  obtain ⟨b, hb⟩ : ∃ b, w.heap.size = b := ⟨_, rfl⟩
  have hb01 : Below b w w1 := by rw [← hb]; exact hb0.trans (hb1.mono (by omega))
  rw [hb] at hz1 hs0
  obtain ⟨w2, hw2⟩ : ∃ w2, w1.alloc (.cells (gA (start r) (.slice none 0 0)) 26) = w2 := ⟨_, rfl⟩
  have hx2 : Hb w2 w1.heap.size (gA (start r) (.slice none 0 0)) := by rw [← hw2]; exact Hb.new _ _
  have hz2 : Hb w2 b zeroG := by rw [← hw2]; exact hz1.keep (heap_alloc_old _ _ hz1.lt)
  have hbg : b < w1.heap.size := hz1.lt
  have hb02 : Below b w w2 := by rw [← hw2]; exact hb01.alloc (by omega) _
  have hso2 : So w0.heap.size w1.heap.size w2 v ds := by rw [← hw2]; exact hso.grown0 (World.grownBy_alloc _ _ _)
  have hs2 : w2.heap.size = w1.heap.size + 1 := by rw [← hw2]; simp
  obtain ⟨A, c, rfl⟩ := so_ls hso
  have HDS := Lib.hid hds; have HSO := Lib.hid hso2; have HDL := Lib.hid hdl; have HNE := Lib.hid hne; have HZ2 := Lib.hid hz2; have HX2 := Lib.hid hx2; have HB02 := Lib.hid hb02; have HS0 := Lib.hid hs0; have HBB := Lib.hid hb; have HW2 := Lib.hid hw2; have HBG := Lib.hid hbg; have HS2 := Lib.hid hs2; have HB1 := Lib.hid hb1
  clear hds hso hso2 hdl hne hz1 hz2 hx2 hb1 hb0 hb01 hb02 hs0 hb hw2 hbg hs2 hz0 HW
  go_upto_region 3 with (fail)
  unfold gA start at HW2
  rw [HW2.out]
  go_wp2
  go_loopw [7] (fun i wr => ∃ k : Nat, i = .int .i64 k ∧ k ≤ ds.length ∧ Hid (Rr ds r b w1.heap.size w0.heap.size w1.heap.size w2.heap.size (.slice A ds.length c) w2 k wr)) (fun i _ => ds.length - (intOf i).toNat)
  case atStart => exact ⟨0, rfl, Nat.zero_le _, Lib.hid ⟨⟨_, HX2.out, Sown.nil _ _⟩, HZ2.out, HSO.out, ⟨rfl, rfl, rfl, Nat.le_refl _, fun _ _ _ => rfl⟩, Nat.zero_le _⟩⟩
  case round =>
    obtain ⟨k, rfl, hks, HRI⟩ := hrel
    obtain ⟨w4, rfl⟩ : ∃ w4, w4 = wr := ⟨_, rfl⟩
    by_cases hp : k < ds.length
    · obtain ⟨vN, hbox, hnm⟩ := HRI.out.box
      obtain ⟨An, cn, rfl, _, _, _⟩ := hnm.form
      obtain ⟨b1, o1, B1, c1, rfl, hb1, hcell, hlc1, hrd⟩ := HRI.out.so.formM.at_ hp
      have hnx := gR_succ (r := r) hp
      obtain ⟨hdne, hdl, hdx⟩ := HNE.out _ (List.getElem_mem hp)
      obtain ⟨d, hd⟩ : ∃ d, ds[k] = d := ⟨_, rfl⟩
      have HDK := Lib.hid hd
      rw [hd] at hcell hlc1 hrd hnx hdne hdl hdx
      cases d with
      | nil => exact absurd rfl hdne
      | cons n vs =>
      have hrd0 := hrd
      obtain ⟨bb, oo, rfl, hbb, hcc⟩ := hrd (by simp)
      have hn0 := hcc 0 (by simp)
      simp only [List.getElem_cons_zero, Nat.add_zero] at hn0
      have htl := sv_tail hrd0 hlc1
      obtain ⟨A8, hA8⟩ : ∃ A8, (if c1 = 1 then some (⟨bb, oo, none⟩ : Addr) else some ⟨bb, oo + 1, none⟩) = A8 := ⟨_, rfl⟩
      rw [hA8] at htl
      have hr8 := htl.rd
      simp only [List.length_cons] at hcell hlc1 hdl
      have hm1 := HRI.out.res
      have hso := HRI.out.so
      have hg := HRI.out.grown
      have hfew := HRI.out.few
      obtain ⟨g, hgk⟩ : ∃ g, gR ds r k = g := ⟨_, rfl⟩
      rw [hgk] at hbox hnm hnx hfew
      obtain ⟨nl, hnl⟩ : ∃ nl, g.names.length = nl := ⟨_, rfl⟩
      rw [hnl] at hbox hnm hfew
      have HNL := Lib.hid hnl
      have hbg := HBG.out
      clear hnl
      have HG := Lib.hid hg; have HM1 := Lib.hid hm1; have HSO2 := Lib.hid hso; have HNX := Lib.hid hnx; have HBX := Lib.hid hbox; have HNM := Lib.hid hnm; have HR8 := Lib.hid hr8; have HDX := Lib.hid hdx; have HFEW := Lib.hid hfew
      clear hg hm1 hso hnx hbox hnm hr8 hrd hrd0 hcc htl hdx hdne hd hgk HRI hfew
      obtain ⟨q1, hq1⟩ : ∃ q, (n.toList == [114, 101, 113, 117, 105, 114, 101, 45, 116, 114, 117, 115, 116, 101, 100, 45, 116, 121, 112, 101, 115, 45, 102, 111, 114]) = q := ⟨_, rfl⟩
      obtain ⟨q2, hq2⟩ : ∃ q, (n.toList == [116, 114, 117, 115, 116, 101, 100, 45, 116, 121, 112, 101, 115]) = q := ⟨_, rfl⟩
      have hk9 : k < 1001 := by have := HDL.out; omega
      obtain ⟨⟨k0, k1, k2, k3, k4⟩, f0, f1, f2, f3, f4⟩ := HBX.out.five
      cases q1 with
      | true =>
        have hq3 := lit_apart hq1
        obtain ⟨q, hq⟩ : ∃ q, isIn kScript vs = q := ⟨_, rfl⟩
        have HQ := Lib.hid hq; clear hq hq2
        go_wp2_with fail
        refine (has1 A8 (c1 - 1) _ vs kScript w4 HR8.out (by omega) q HQ.out).mono ?_
        rintro e w9 ⟨rfl, rfl⟩
        go_upto_region 9 with (fail)
        obtain ⟨w9, hw9⟩ : ∃ w9, w4.setCell ⟨w1.heap.size, 0, none⟩ (.bool q) = w9 := ⟨_, rfl⟩
        have hg9 : w4.grownBy w9 (some w1.heap.size) := hw9 ▸ gcell w4 w1.heap.size 0 (.bool q)
        have hx9 : Hb w9 w1.heap.size #[.bool q, .bool g.report, .slice An nl cn, .bool g.any, .bool g.twice] := hw9 ▸ HBX.out.set 0 (.bool q) (by simp [gA])
        have hz9 : Hb w9 b zeroG := hw9 ▸ HM1.out.other 0 (.bool q) (show b ≠ w1.heap.size by omega)
        have hs9 := HSO2.out.grown hg9 HBX.out.noS.1 HBX.out.noS.2
        have hn9 := sown_grown HNM.out hg9 (sown_other HNM.out HBX.out.noS.1)
        have hgg := HG.out.trans hg9
        rw [hw9]
        obtain ⟨b1', o1', B1', c1', e1, _, hcell9, hlc9, hrd9⟩ := hs9.form.at_ hp
        injection e1 with e1
        injection e1 with e1 e3
        subst e1 e3
        rw [HDK.out] at hcell9 hlc9 hrd9
        obtain ⟨bb', oo', rfl, hbb', hcc'⟩ := hrd9 (by simp)
        have hn9c := hcc' 0 (by simp)
        simp only [List.getElem_cons_zero, Nat.add_zero, List.length_cons] at hn9c hcell9 hlc9
        have HX9 := Lib.hid hx9; have HZ9 := Lib.hid hz9; have HS9 := Lib.hid hs9; have HN9 := Lib.hid hn9; have HGG := Lib.hid hgg
        clear hg9 hx9 hz9 hs9 hn9 hgg hw9 hcc' hrd9 k0 k1 k2 k3 k4 f0 f1 f2 f3 f4 hcell hn0
        have hfew := HFEW.out
        go_wp2
        go_roundw
        case rel =>
          have e2 := HNX.out.trans (stepR_on hq1 HQ.out)
          exact ⟨k + 1, by go_num, by omega, Lib.hid ⟨⟨.slice An nl cn, by rw [e2]; exact HX9.out, by rw [e2]; exact HN9.out⟩, HZ9.out, HS9.out, HGG.out, by rw [e2]; show g.names.length ≤ _; rw [HNL.out]; omega⟩⟩
        case measure => simp [intOf]; omega
      | false =>
        cases q2 with
        | true =>
          obtain ⟨qa, hqa⟩ : ∃ q, isIn kStar vs = q := ⟨_, rfl⟩
          obtain ⟨qt, hqt⟩ : ∃ q, isIn kDup vs = q := ⟨_, rfl⟩
          have HA := Lib.hid hqa; have HT := Lib.hid hqt; clear hqa hqt
          go_wp2_with fail
          refine (has1 A8 (c1 - 1) _ vs kStar w4 HR8.out (by omega) qa HA.out).mono ?_
          rintro e w9 ⟨rfl, rfl⟩
          go_upto_region 11 with (fail)
          obtain ⟨w8, hw8⟩ : ∃ w8, w4.setCell ⟨w1.heap.size, 3, none⟩ (.bool qa) = w8 := ⟨_, rfl⟩
          have hb8 : Below w1.heap.size w4 w8 := by rw [← hw8]; exact bel_set _ _ _ _
          have hg8 : w4.grownBy w8 (some w1.heap.size) := hw8 ▸ gcell w4 w1.heap.size 3 (.bool qa)
          have hx8 : Hb w8 w1.heap.size #[.bool g.on, .bool g.report, .slice An nl cn, .bool qa, .bool g.twice] := hw8 ▸ HBX.out.set 3 (.bool qa) (by simp [gA])
          have hz8 : Hb w8 b zeroG := hw8 ▸ HM1.out.other 3 (.bool qa) (show b ≠ w1.heap.size by omega)
          have hr8 : Rd w8 w1.heap.size A8 vs := HR8.out.below hb8 (Nat.le_refl _)
          have hn8 := sown_grown HNM.out hg8 (sown_other HNM.out HBX.out.noS.1)
          rw [hw8]
          have f4 := hx8.f 4
          have k4 := hx8.cell 4 _ rfl
          have HB8 := Lib.hid hb8; have HX8 := Lib.hid hx8; have HZ8 := Lib.hid hz8; have HR9 := Lib.hid hr8; have HN8 := Lib.hid hn8
          clear hb8 hg8 hx8 hz8 hr8 hn8 hw8 k0 k1 k2 k3 f0 f1 f2 f3 hcell hn0
          go_wp2_with fail
          refine (has1 A8 (c1 - 1) _ vs kDup w8 HR9.out (by omega) qt HT.out).mono ?_
          rintro e w9 ⟨rfl, rfl⟩
          go_upto_region 12 with (fail)
          obtain ⟨w7, hw7⟩ : ∃ w7, w8.setCell ⟨w1.heap.size, 4, none⟩ (.bool qt) = w7 := ⟨_, rfl⟩
          have hb7 : Below w1.heap.size w4 w7 := by rw [← hw7]; exact HB8.out.trans (bel_set _ _ _ _)
          have hg7 : w8.grownBy w7 (some w1.heap.size) := hw7 ▸ gcell w8 w1.heap.size 4 (.bool qt)
          have hx7 : Hb w7 w1.heap.size #[.bool g.on, .bool g.report, .slice An nl cn, .bool qa, .bool qt] := hw7 ▸ HX8.out.set 4 (.bool qt) (by simp)
          have hz7 : Hb w7 b zeroG := hw7 ▸ HZ8.out.other 4 (.bool qt) (show b ≠ w1.heap.size by omega)
          have hn7 := sown_grown HN8.out hg7 (sown_other HN8.out HX8.out.noS.1)
          rw [hw7]
          have hfew := HFEW.out
          have hvl : vs.length ≤ 1000 := by omega
          have HB7 := Lib.hid hb7; have HX7 := Lib.hid hx7; have HZ7 := Lib.hid hz7; have HN7 := Lib.hid hn7
          clear hb7 hg7 hx7 hz7 hn7 hw7 k4 f4
          have hvs : ∀ z ∈ vs, z.size ≤ 140737488355328 := fun z hz => by
            have := HDX.out z (by simp [hz])
            omega
          have HVS := Lib.hid hvs; clear hvs
          go_wp2
          go_loopw [9] (fun i wi => ∃ j : Nat, i = .int .i64 j ∧ j ≤ vs.length ∧ Hid (Ir vs g qa qt b w1.heap.size w2.heap.size w4 j wi)) (fun i _ => vs.length - (intOf i).toNat)
          case atStart =>
            have e0 : namesF g.names (vs.take 0) = g.names := rfl
            exact ⟨0, rfl, Nat.zero_le _, Lib.hid ⟨⟨An, cn, by rw [e0, HNL.out]; exact HX7.out, by rw [e0, HNL.out]; exact HN7.out⟩, HZ7.out, HB7.out⟩⟩
          case round =>
            obtain ⟨j, rfl, hjs, HI⟩ := hrel
            by_cases hj : j < vs.length
            · obtain ⟨A', c', hbx, hnm⟩ := HI.out.box
              have hz := HI.out.res
              have hbe := HI.out.bel
              have hnx := namesF_snoc (acc := g.names) hj
              have hln := len_namesF (vs.take j) g.names
              rw [HNL.out, List.length_take] at hln
              obtain ⟨y, hy⟩ : ∃ y, vs[j] = y := ⟨_, rfl⟩
              have hys : y.size ≤ 140737488355328 := by rw [← hy]; exact HVS.out _ (List.getElem_mem _)
              obtain ⟨b8, o8, e8, hb8, hc8⟩ := (HR8.out.below hbe (Nat.le_refl _)) (by omega)
              have hcell := hc8 j hj
              rw [hy] at hcell hnx
              obtain ⟨ac, hac⟩ : ∃ ac, namesF g.names (vs.take j) = ac := ⟨_, rfl⟩
              rw [hac] at hbx hnm hnx hln
              obtain ⟨m, hm⟩ : ∃ m, ac.length = m := ⟨_, rfl⟩
              obtain ⟨q, hq⟩ : ∃ q, mayB y = q := ⟨_, rfl⟩
              obtain ⟨p, hp2⟩ : ∃ p, isIn y ac = p := ⟨_, rfl⟩
              have hrn : Rd wr wr.heap.size A' ac := by
                obtain ⟨A9, c9, e9, _, _, h9⟩ := hnm.form
                injection e9 with e9
                subst e9
                exact h9
              have hqh := fun nn => has_q A' c' _ ac y wr hrn (by omega) p hp2 nn
              rw [hm] at hbx hnm hln hqh
              have k2 := hbx.cell 2 _ rfl
              have HQM := Lib.hid (fun nn => may_q y wr hys q hq nn); have HQH := Lib.hid hqh
              have HNX2 := Lib.hid hnx; have HNM2 := Lib.hid hnm; have HBX2 := Lib.hid hbx; have HZ3 := Lib.hid hz; have HBE := Lib.hid hbe; have HQ := Lib.hid hq; have HP := Lib.hid hp2; have HMM := Lib.hid hm; have HLN := Lib.hid hln
              have hj0 : (0 : Int) ≤ (j : Int) := by omega
              have hj1 : (j : Int) < (vs.length : Int) := by omega
              subst e8
              clear hqh hnx hnm hbx hz hbe hq hp2 hm hys hc8 hac hy hrn hln HI hA8
              cases q with
              | false =>
                go_wp2
                go_quiet ((first | (go_at_call 23; exact HQM.out _) | (go_at_call 22; exact HQH.out _)))
                go_wp2
                go_roundw
                case rel =>
                  have e2 : namesF g.names (vs.take (j + 1)) = ac := by rw [HNX2.out, stepN_bad HQ.out]
                  exact ⟨j + 1, by go_num, by omega, Lib.hid ⟨⟨A', c', by rw [e2, HMM.out]; exact HBX2.out, by rw [e2, HMM.out]; exact sown_dN HNM2.out _⟩, HZ3.out, below_dN HBE.out _⟩⟩
                case measure => simp [intOf]; omega
              | true =>
                cases p with
                | true =>
                  go_wp2
                  go_quiet ((first | (go_at_call 23; exact HQM.out _) | (go_at_call 22; exact HQH.out _)))
                  go_wp2
                  go_roundw
                  case rel =>
                    have e2 : namesF g.names (vs.take (j + 1)) = ac := by rw [HNX2.out, stepN_old HP.out]
                    exact ⟨j + 1, by go_num, by omega, Lib.hid ⟨⟨A', c', by rw [e2, HMM.out]; exact HBX2.out, by rw [e2, HMM.out]; exact sown_dN HNM2.out _⟩, HZ3.out, below_dN HBE.out _⟩⟩
                  case measure => simp [intOf]; omega
                | false =>
                  go_wp2
                  go_quiet ((first | (go_at_call 23; exact HQM.out _) | (go_at_call 22; exact HQH.out _)))
                  obtain ⟨w6, hw6⟩ : ∃ w6, wr.drewN nq = w6 := ⟨_, rfl⟩
                  have hn6 : Sown w2.heap.size w6 (.slice A' m c') ac := hw6 ▸ sown_dN HNM2.out nq
                  have hx6 : Hb w6 w1.heap.size #[.bool g.on, .bool g.report, .slice A' m c', .bool qa, .bool qt] := hw6 ▸ HBX2.out
                  have hz6 : Hb w6 b zeroG := hw6 ▸ HZ3.out
                  have hb6 : Below w1.heap.size w4 w6 := hw6 ▸ below_dN HBE.out nq
                  have hc6 : w6.cell? ⟨b8, o8 + j, none⟩ = some (.string y) := hw6 ▸ hcell
                  have k6 := hx6.cell 2 _ rfl
                  have hlt6 : w1.heap.size < w6.heap.size := hx6.lt
                  have hlt8 : b8 < w6.heap.size := by omega
                  have hN6 : w2.heap.size ≤ w6.heap.size := by rw [← hw6]; exact Nat.le_trans HG.out.size HBE.out.size
                  have hlm : ac.length ≤ 2000000 := by have := HLN.out; have := HMM.out; omega
                  have HN6 := Lib.hid hn6; have HX6 := Lib.hid hx6; have HZ6 := Lib.hid hz6; have HB6 := Lib.hid hb6
                  rw [hw6]
                  clear hn6 hx6 hz6 hb6 hw6 hcell k2
                  go_upto_region 16 with (fail)
                  go_region_law (refine step_app_str _ (by rfl) (.tmp 70) (.tmp 75) (by rfl) w6 w2.heap.size (.slice A' m c') ac y HN6.out (by first | exact World.grownBy_alloc w6 _ _ | exact (World.grownBy_alloc w6 _ _).trans (g_dN _ 1 _) | exact (g_dN w6 1 _).trans (World.grownBy_alloc _ _ _)) hN6 hlm (by simp [Act.eval, Act.put]) _ (by simp [Act.eval, Act.put]) (heap_alloc_new _ _) ?_; intro ng cap w5 hown5 hg5; have hx5 := HX6.out.keep (hg5.block _ HX6.out.lt (box_ne HN6.out HX6.out)); have f5 := hx5.f 2; have k5 := hx5.cell 2 _ rfl)
                  all_goals go_wp2
                  all_goals
                    go_roundw
                    case rel =>
                      have e2 : namesF g.names (vs.take (j + 1)) = ac ++ [y] := by rw [HNX2.out, stepN_yes HQ.out HP.out]
                      have e3 : (namesF g.names (vs.take (j + 1))).length = ac.length + 1 := by rw [e2, List.length_append]; rfl
                      have hx4 := hx5.set 2 (.slice (some ⟨ng, 0, none⟩) (ac.length + 1) cap) (by simp)
                      have hg4 := gcell w5 w1.heap.size 2 (.slice (some ⟨ng, 0, none⟩) (ac.length + 1) cap)
                      have hb5 : Below w1.heap.size w4 w5 := HB6.out.grown hg5 (Nat.le_of_lt hlt6) fun q hq => by
                        have h1 := (sown_lt HN6.out hq).2
                        have h2 := HS2.out
                        omega
                      have hz5 : Hb w5 b zeroG := HZ6.out.keep (hg5.block _ HZ6.out.lt (box_ne HN6.out HZ6.out))
                      refine ⟨j + 1, by go_num, by omega, Lib.hid ⟨⟨some ⟨ng, 0, none⟩, cap, ?_, ?_⟩, ?_, ?_⟩⟩
                      · rw [e3]; exact hx4
                      · rw [e3, e2]; exact sown_grown hown5 hg4 (sown_other hown5 hx5.noS.1)
                      · exact hz5.other 2 _ (show b ≠ w1.heap.size by omega)
                      · exact hb5.trans (bel_set _ _ _ _)
                    case measure => simp [intOf]; omega
            · have hall : vs.take j = vs := List.take_of_length_le (by omega)
              obtain ⟨A', c', hbx, hnm⟩ := HI.out.box
              have hz := HI.out.res
              have hbe := HI.out.bel
              have hln := len_namesF vs g.names
              rw [HNL.out] at hln
              rw [hall] at hbx hnm
              have hso := HSO2.out.low hbe (Nat.le_refl _)
              have hgr := grown_bg HG.out HS2.out hbe
              have HBX2 := Lib.hid hbx; have HNM2 := Lib.hid hnm; have HZ3 := Lib.hid hz; have HSO3 := Lib.hid hso; have HGR := Lib.hid hgr; have HLN := Lib.hid hln
              clear hall hbx hnm hz hbe hso hgr hln
              go_wp2
              go_roundw
              case rel =>
                have e2 := HNX.out.trans (stepR_names hq1 hq2 HA.out HT.out)
                have := HLN.out
                exact ⟨k + 1, by go_num, by omega, Lib.hid ⟨⟨_, by rw [e2]; exact HBX2.out, by rw [e2]; exact HNM2.out⟩, HZ3.out, HSO3.out, HGR.out, by rw [e2]; show (namesF g.names vs).length ≤ _; omega⟩⟩
              case measure => simp [intOf]; omega
        | false =>
          have hfew := HFEW.out
          go_wp2
          go_roundw
          case rel =>
            have e2 := HNX.out.trans (stepR_else hq1 hq2)
            exact ⟨k + 1, by go_num, by omega, Lib.hid ⟨⟨.slice An nl cn, by rw [e2]; exact HBX.out, by rw [e2]; exact HNM.out⟩, HM1.out, HSO2.out, HG.out, by rw [e2, HNL.out]; omega⟩⟩
          case measure => simp [intOf]; omega
    · have hall : gR ds r k = parseM s r := by
        rw [← HDS.out]
        exact gR_all s r (by rw [HDS.out]; omega)
      obtain ⟨vN, hbox, hnm⟩ := HRI.out.box
      rw [hall] at hbox hnm
      obtain ⟨g, hg⟩ : ∃ g, parseM s r = g := ⟨_, rfl⟩
      rw [hg] at hbox hnm
      have HGE := Lib.hid hg
      obtain ⟨An, cn, rfl, _, _, _⟩ := hnm.form
      have hz := HRI.out.res
      have hgr := HRI.out.grown
      have HBX := Lib.hid hbox; have HZ := Lib.hid hz; have HNM := Lib.hid hnm; have HRG := Lib.hid hbox.range; have HTH := Lib.hid (hz.there 5 rfl); have HGR := Lib.hid hgr
      clear hall hbox hnm hz hg HRI hgr
      have hbb := HBB.out
      go_wp2_with (first
        | (show wpList _ _ _ (⟨_, Op.load 26 (.tmp 6), _, _, _, _⟩ :: _) _ _; refine wpList_load_mid rfl 26 (.tmp 6) rfl w1.heap.size 0 rfl _ _ HRG.out Try.underlying26 rfl size_guard ?_)
        | (show wpList _ _ _ (⟨none, Op.store 26 (.tmp 4) (.tmp 78), _, _, _, _⟩ :: _) _ _; refine wpList_store_mid rfl 26 (.tmp 4) (.tmp 78) rfl b 0 (gA g (.slice An g.names.length cn)) (by rw [hbb]; rfl) rfl HTH.out size_guard (by simp [gA, Value.oneCell']) ?_))
      obtain ⟨W, hW, hgW, hbW⟩ := res_box (g := g) (vN := .slice An g.names.length cn) HZ.out rfl
      obtain ⟨z0, z1, z2, z3, z4⟩ := hbW
      have hoW := sown_grown HNM.out hgW (sown_other HNM.out HZ.out.noS.1)
      have h0 : b ≤ w2.heap.size := by have := HBG.out; have := HS2.out; omega
      have hb1 : Below b w w4 := bel_m HB02.out HGR.out h0 (Nat.le_of_lt HBG.out)
      have hbelW : Below b w W := bel_m hb1 hgW (Nat.le_trans h0 HGR.out.size) (Nat.le_refl _)
      have h2 : w.heap.size ≤ w2.heap.size := by rw [HBB.out]; exact h0
      unfold gA
      rw [← hW]
      clear HBX HZ HRG HTH hgW hW HNM HGR hb1
      go_wp2
      exact bodyPost_ret (v := gV g (.slice An g.names.length cn)) (by simp [results, Try.f11, go_sem, z0, z1, z2, z3, z4, hbb]; rfl) rfl ⟨_, rfl, (by rw [HGE.out]; exact ⟨_, rfl, hoW.mono h0⟩), hbelW⟩

end Go.Proofs.Ythgpjhblbpiagaa.He
