/-
  Walks of stage 15: header.Parse.
-/
import Derived.Test.YthgpjhblbpiagaaHeadWalkC
import Derived.Test.YthgpjhblbpiagaaHeadWalkD
import Derived.Test.YthgpjhblbpiagaaHeadBox
namespace Go.Proofs.Ythgpjhblbpiagaa.He
set_option maxRecDepth 100000
set_option linter.unusedSimpArgs false
set_option linter.unusedVariables false
open Go.RowKit Ba Fm Fo Go.Maps

theorem eqlit (s : ByteArray) (l : List UInt8) : (s.toList == l) = decide (s = ⟨l.toArray⟩) := by
  rw [← ByteArray.toList_mk l, eq_of_toList, ByteArray.toList_mk]
def gK (ds : List (List ByteArray)) (r : Bool) (k : Nat) : Gd := (ds.take k).foldl stepG (start r)
theorem gK_succ {ds : List (List ByteArray)} {r : Bool} {k : Nat} (h : k < ds.length) : gK ds r (k + 1) = stepG (gK ds r k) ds[k] := by
  unfold gK
  rw [List.take_succ_eq_append_getElem h, List.foldl_append]
  rfl
theorem gK_all (ds : List (List ByteArray)) (r : Bool) {k : Nat} (h : ds.length ≤ k) : gK ds r k = guardD ds r := by
  unfold gK guardD
  rw [List.take_of_length_le h]

theorem step_on {g : Gd} {n : ByteArray} {vs : List ByteArray} {q : Bool} (h1 : (n.toList == [114, 101, 113, 117, 105, 114, 101, 45, 116, 114, 117, 115, 116, 101, 100, 45, 116, 121, 112, 101, 115, 45, 102, 111, 114]) = true) (h2 : isIn kScript vs = q) : stepG g (n :: vs) = { g with on := q } := by
  rw [eqlit, decide_eq_true_eq] at h1
  unfold stepG
  rw [if_pos (show hd (n :: vs) = kOn from h1)]
  show { g with on := isIn kScript vs } = _
  rw [h2]
theorem step_names {g : Gd} {n : ByteArray} {vs : List ByteArray} {qa qt : Bool} (h1 : (n.toList == [114, 101, 113, 117, 105, 114, 101, 45, 116, 114, 117, 115, 116, 101, 100, 45, 116, 121, 112, 101, 115, 45, 102, 111, 114]) = false) (h2 : (n.toList == [116, 114, 117, 115, 116, 101, 100, 45, 116, 121, 112, 101, 115]) = true) (ha : isIn kStar vs = qa) (ht : isIn kDup vs = qt) : stepG g (n :: vs) = { g with any := qa, twice := qt, names := namesM vs } := by
  rw [eqlit, decide_eq_false_iff_not] at h1
  rw [eqlit, decide_eq_true_eq] at h2
  unfold stepG
  rw [if_neg (show ¬ hd (n :: vs) = kOn from h1), if_pos (show hd (n :: vs) = kNames from h2)]
  show { g with any := isIn kStar vs, twice := isIn kDup vs, names := namesM vs } = _
  rw [ha, ht]
theorem step_else {g : Gd} {n : ByteArray} {vs : List ByteArray} (h1 : (n.toList == [114, 101, 113, 117, 105, 114, 101, 45, 116, 114, 117, 115, 116, 101, 100, 45, 116, 121, 112, 101, 115, 45, 102, 111, 114]) = false) (h2 : (n.toList == [116, 114, 117, 115, 116, 101, 100, 45, 116, 121, 112, 101, 115]) = false) : stepG g (n :: vs) = g := by
  rw [eqlit, decide_eq_false_iff_not] at h1 h2
  unfold stepG
  rw [if_neg (show ¬ hd (n :: vs) = kOn from h1), if_neg (show ¬ hd (n :: vs) = kNames from h2)]

structure Ri (ds : List (List ByteArray)) (r : Bool) (b : Nat) (v : Value) (w0 w1 : World) (k : Nat) (wr : World) : Prop where
  box : ∃ vN, Hb wr (b + 1) (gA (gK ds r k) vN) ∧ Sown w0.heap.size wr vN (gK ds r k).names
  res : Hb wr b zeroG
  so : So w0.heap.size w1.heap.size wr v ds
  grown : w1.grownBy wr (some (b + 1))

theorem isIn1 (A : Option Addr) (c N : Nat) (l : List ByteArray) (s : ByteArray) (w : World) (hr : Rd w N A l) (hl : l.length ≤ 8796093022208) (q : Bool) (hq : isIn s l = q) :
    Calls Try.prog 28 #[.slice A l.length c, .string s] w fun e w' => e = .returned (.bool q) ∧ w = w' := by
  have := among_any A c N l s w hr hl
  rw [hq] at this
  exact this

theorem words_small (s : ByteArray) : ∀ d ∈ parts s, d.length ≤ s.size ∧ ∀ x ∈ d, x.size ≤ s.size := by
  refine parts_all (fun d => d.length ≤ s.size ∧ ∀ x ∈ d, x.size ≤ s.size) s fun p hp _ => ?_
  have h1 := small_pcs hp
  refine ⟨Nat.le_trans (len_dir p) h1, fun x hx => Nat.le_trans ?_ h1⟩
  have hw : ∀ z ∈ wds p, z.size ≤ p.size := fun z hz => by
    unfold wds at hz
    obtain ⟨y, hy, rfl⟩ := List.mem_map.1 hz
    have := len_wordx (L p) [] y hy
    rw [size_L] at this
    rw [size_B]
    simpa using this
  unfold dir dirW at hx
  split at hx
  · cases hx
  · rename_i n v e
    rw [e] at hw
    rcases List.mem_cons.1 hx with rfl | hx
    · rw [size_lo]; exact hw n (by simp)
    · exact hw x (by simp [hx])

set_option maxHeartbeats 8000000 in
theorem parse_any (s : ByteArray) (r : Bool) (w : World) (hs : s.size ≤ 1000000) :
    Calls Try.prog 13 #[.string s, .bool r] w fun e w' => ∃ v, e = .returned v ∧ Gow w.heap.size w' v (parseM s r) ∧ Below w.heap.size w w' := by
  obtain ⟨w0, hw0⟩ : ∃ w0, (w.alloc (.cells zeroG 26)).alloc (.cells (gA (start r) (.slice none 0 0)) 26) = w0 := ⟨_, rfl⟩
  have hz0 : Hb w0 w.heap.size zeroG := by
    rw [← hw0]
    exact (Hb.new w zeroG).keep (heap_alloc_old _ _ (by simp))
  have hx0 : Hb w0 (w.heap.size + 1) (gA (start r) (.slice none 0 0)) := by
    rw [← hw0]
    have := Hb.new (w.alloc (.cells zeroG 26)) (gA (start r) (.slice none 0 0))
    rwa [World.size_alloc] at this
  have hb0 : Below w.heap.size w w0 := by rw [← hw0]; exact ((Below.refl _ _).alloc (Nat.le_refl _) _).alloc (by simp) _
  have hs0 : w0.heap.size = w.heap.size + 2 := by rw [← hw0]; simp
  have HW := Lib.hid hw0; clear hw0
  go_enter Try.func13, Try.ntmps13
  go_upto_region 2 with (fail)
  unfold gA start at HW
  rw [HW.out]
  have HZ0 := Lib.hid hz0; have HX0 := Lib.hid hx0; have HB0 := Lib.hid hb0; have HS0 := Lib.hid hs0
  clear hz0 hx0 hb0 hs0 HW
  go_wp2_with fail
  refine (parts_any s w0 hs).mono ?_
  rintro e w1 ⟨v, rfl, hso, hb1⟩
  obtain ⟨ds, hds⟩ : ∃ ds, parts s = ds := ⟨_, rfl⟩
  rw [hds] at hso
  have hso1 := hso
  obtain ⟨A, c, rfl, hlc, _⟩ := hso.form
  have hdl : ds.length ≤ 1000001 := by have := len_parts s; rw [hds] at this; omega
  have hne : ∀ d ∈ ds, d ≠ [] ∧ d.length ≤ 1000000 ∧ ∀ x ∈ d, x.size ≤ 1000000 := fun d hd => by
    rw [← hds] at hd
    obtain ⟨h1, h2⟩ := words_small s d hd
    exact ⟨parts_ne s d hd, by omega, fun x hx => by have := h2 x hx; omega⟩
  have hz1 := HZ0.out.on hb1
  have hx1 := HX0.out.on hb1
  obtain ⟨b, hb⟩ : ∃ b, w.heap.size = b := ⟨_, rfl⟩
  rw [hb] at hz1 hx1 ⊢
  have hb01 : Below b w w1 := by rw [← hb]; exact HB0.out.trans (hb1.mono (by have := HS0.out; omega))
  have hs01 : w0.heap.size = b + 2 := by rw [HS0.out, hb]
  have HDS := Lib.hid hds; have HSO := Lib.hid hso1; have HDL := Lib.hid hdl; have HNE := Lib.hid hne; have HZ1 := Lib.hid hz1; have HX1 := Lib.hid hx1; have HB1 := Lib.hid hb1; have HB01 := Lib.hid hb01; have HS01 := Lib.hid hs01; have HBB := Lib.hid hb
  clear hds hso hso1 hdl hne hz1 hx1 hb1 hb01 hs01 hb HZ0 HX0 HB0 HS0
  go_wp2
  go_loopw [14] (fun i wr => ∃ k : Nat, i = .int .i64 k ∧ k ≤ ds.length ∧ Hid (Ri ds r b (.slice A ds.length c) w0 w1 k wr)) (fun i _ => ds.length - (intOf i).toNat)
  case atStart => exact ⟨0, rfl, Nat.zero_le _, Lib.hid ⟨⟨_, HX1.out, Sown.nil _ _⟩, HZ1.out, HSO.out, ⟨rfl, rfl, rfl, Nat.le_refl _, fun _ _ _ => rfl⟩⟩⟩
  case round =>
    obtain ⟨k, rfl, hks, HRI⟩ := hrel
    by_cases hp : k < ds.length
    · obtain ⟨vN, hbox, hnm⟩ := HRI.out.box
      obtain ⟨An, cn, rfl, _, _, _⟩ := hnm.form
      obtain ⟨b1, o1, B1, c1, rfl, hb1, hcell, hlc1, hrd⟩ := HRI.out.so.form.at_ hp
      have hnx := gK_succ (r := r) hp
      obtain ⟨hdne, hdl, hdx⟩ := HNE.out _ (List.getElem_mem hp)
      obtain ⟨d, hd⟩ : ∃ d, ds[k] = d := ⟨_, rfl⟩
      rw [hd] at hcell hlc1 hrd hnx hdne hdl hdx
      cases d with
      | nil => exact absurd rfl hdne
      | cons n vs =>
      have hrd0 := hrd
      obtain ⟨bb, oo, rfl, hbb, hcc⟩ := hrd (by simp)
      have hn0 := hcc 0 (by simp)
      simp only [List.getElem_cons_zero, Nat.add_zero] at hn0
      have htl := sv_tail hrd0 hlc1
      obtain ⟨A8, hA8⟩ : ∃ A8, (if c1 = 1 then some (⟨bb, oo, none⟩ : Addr) else some ⟨bb, oo + 1, none⟩) = A8 := ⟨_, rfl⟩
      rw [hA8] at htl
      have hr8 := htl.rd
      simp only [List.length_cons] at hcell hlc1 hdl
      have hm1 := HRI.out.res
      have hso := HRI.out.so
      have hg := HRI.out.grown
      obtain ⟨g, hgk⟩ : ∃ g, gK ds r k = g := ⟨_, rfl⟩
      rw [hgk] at hbox hnm hnx
      obtain ⟨nl, hnl⟩ : ∃ nl, g.names.length = nl := ⟨_, rfl⟩
      rw [hnl] at hbox hnm
      clear hnl
      have HG := Lib.hid hg; have HM1 := Lib.hid hm1; have HSO2 := Lib.hid hso; have HNX := Lib.hid hnx; have HBX := Lib.hid hbox; have HNM := Lib.hid hnm; have HR8 := Lib.hid hr8; have HDX := Lib.hid hdx
      clear hg hm1 hso hnx hbox hnm hr8 hrd hrd0 hcc htl hdx hdne hd hgk HRI
      obtain ⟨q1, hq1⟩ : ∃ q, (n.toList == [114, 101, 113, 117, 105, 114, 101, 45, 116, 114, 117, 115, 116, 101, 100, 45, 116, 121, 112, 101, 115, 45, 102, 111, 114]) = q := ⟨_, rfl⟩
      obtain ⟨q2, hq2⟩ : ∃ q, (n.toList == [116, 114, 117, 115, 116, 101, 100, 45, 116, 121, 112, 101, 115]) = q := ⟨_, rfl⟩
      have hk9 : k < 1000001 := by have := HDL.out; omega
      obtain ⟨⟨k0, k1, k2, k3, k4⟩, f0, f1, f2, f3, f4⟩ := HBX.out.five
      cases q1 with
      | true =>
        obtain ⟨q, hq⟩ : ∃ q, isIn kScript vs = q := ⟨_, rfl⟩
        have HQ := Lib.hid hq; clear hq hq2
        go_wp2_with fail
        refine (isIn1 A8 (c1 - 1) _ vs kScript wr HR8.out (by omega) q HQ.out).mono ?_
        rintro e w9 ⟨rfl, rfl⟩
        have hg9 := gcell wr (b + 1) 0 (.bool q)
        have hx9 := HBX.out.set 0 (.bool q) (by simp [gA])
        have hz9 := HM1.out.other 0 (.bool q) (show b ≠ b + 1 by omega)
        have HG9 := Lib.hid hg9; have HX9 := Lib.hid hx9; have HZ9 := Lib.hid hz9
        clear hg9 hx9 hz9
        go_wp2
        go_roundw
        case rel =>
          have e2 := HNX.out.trans (step_on hq1 HQ.out)
          refine ⟨k + 1, by go_num, by omega, Lib.hid ⟨⟨.slice An nl cn, ?_, ?_⟩, HZ9.out, HSO2.out.grown HG9.out HBX.out.noS.1 HBX.out.noS.2, HG.out.trans HG9.out⟩⟩
          · rw [e2]; exact HX9.out
          · rw [e2]; exact sown_grown HNM.out HG9.out (sown_other HNM.out HBX.out.noS.1)
        case measure => simp [intOf]; omega
      | false =>
        cases q2 with
        | true =>
          obtain ⟨qa, hqa⟩ : ∃ q, isIn kStar vs = q := ⟨_, rfl⟩
          obtain ⟨qt, hqt⟩ : ∃ q, isIn kDup vs = q := ⟨_, rfl⟩
          have HA := Lib.hid hqa; have HT := Lib.hid hqt; clear hqa hqt
          go_wp2_with fail
          refine (isIn1 A8 (c1 - 1) _ vs kStar wr HR8.out (by omega) qa HA.out).mono ?_
          rintro e w9 ⟨rfl, rfl⟩
          go_upto_region 11 with (fail)
          obtain ⟨w8, hw8⟩ : ∃ w8, wr.setCell ⟨b + 1, 3, none⟩ (.bool qa) = w8 := ⟨_, rfl⟩
          have hg8 : wr.grownBy w8 (some (b + 1)) := hw8 ▸ gcell wr (b + 1) 3 (.bool qa)
          have hx8 : Hb w8 (b + 1) #[.bool g.on, .bool g.report, .slice An nl cn, .bool qa, .bool g.twice] := hw8 ▸ HBX.out.set 3 (.bool qa) (by simp [gA])
          have hz8 : Hb w8 b zeroG := hw8 ▸ HM1.out.other 3 (.bool qa) (show b ≠ b + 1 by omega)
          have hr8 : Rd w8 wr.heap.size A8 vs := rd_box HR8.out HBX.out (by simp [gA]) hg8
          rw [hw8]
          have f4 := hx8.f 4
          have k4 := hx8.cell 4 _ rfl
          have HG8 := Lib.hid hg8; have HX8 := Lib.hid hx8; have HZ8 := Lib.hid hz8; have HR9 := Lib.hid hr8
          clear hg8 hx8 hz8 hr8 hw8 k0 k1 k2 k3 f0 f1 f2 f3
          go_wp2_with fail
          refine (isIn1 A8 (c1 - 1) _ vs kDup w8 HR9.out (by omega) qt HT.out).mono ?_
          rintro e w9 ⟨rfl, rfl⟩
          go_upto_region 12 with (fail)
          obtain ⟨w7, hw7⟩ : ∃ w7, w8.setCell ⟨b + 1, 4, none⟩ (.bool qt) = w7 := ⟨_, rfl⟩
          have hg7 : w8.grownBy w7 (some (b + 1)) := hw7 ▸ gcell w8 (b + 1) 4 (.bool qt)
          have hx7 : Hb w7 (b + 1) #[.bool g.on, .bool g.report, .slice An nl cn, .bool qa, .bool qt] := hw7 ▸ HX8.out.set 4 (.bool qt) (by simp)
          have hz7 : Hb w7 b zeroG := hw7 ▸ HZ8.out.other 4 (.bool qt) (show b ≠ b + 1 by omega)
          have hr7 : Rd w7 wr.heap.size A8 vs := rd_box HR9.out HX8.out (by simp) hg7
          rw [hw7]
          have HG7 := Lib.hid hg7; have HX7 := Lib.hid hx7; have HZ7 := Lib.hid hz7; have HR7 := Lib.hid hr7
          have hsz7 : wr.heap.size ≤ w7.heap.size := Nat.le_trans HG8.out.size hg7.size
          clear hg7 hx7 hz7 hr7 hw7 k4 f4
          have hvs : ∀ z ∈ vs, z.size ≤ 140737488355328 := fun z hz => by
            have := HDX.out z (by simp [hz])
            omega
          have HVS := Lib.hid hvs; clear hvs
          go_wp2_with fail
          refine (namesOf_any A8 (c1 - 1) _ vs w7 HR7.out hsz7 (by omega) HVS.out).mono ?_
          rintro e w6 ⟨v6, rfl, ho6, hb6⟩
          obtain ⟨A6, c6, rfl, _, _, _⟩ := ho6.form
          obtain ⟨n6, hn6⟩ : ∃ n6, (namesM vs).length = n6 := ⟨_, rfl⟩
          rw [hn6] at ho6 ⊢
          have hx6 := HX7.out.on hb6
          have hz6 := HZ7.out.on hb6
          have k2 := hx6.cell 2 _ rfl
          have f2 := hx6.f 2
          have hg6 : w1.grownBy w6 (some (b + 1)) := ((HG.out.trans HG8.out).trans HG7.out).trans ((grown_below hb6).but _)
          have hs6 : So w0.heap.size w1.heap.size w6 (.slice (some ⟨b1, o1, none⟩) ds.length c) ds := ((HSO2.out.grown HG8.out HBX.out.noS.1 HBX.out.noS.2).grown HG7.out HX8.out.noS.1 HX8.out.noS.2).grown0 (grown_below hb6)
          have hw7s : w0.heap.size ≤ w7.heap.size := by
            have h1 := HB1.out.size
            have h2 := HG.out.size
            omega
          have HX6 := Lib.hid hx6; have HZ6 := Lib.hid hz6; have HG6 := Lib.hid hg6; have HS6 := Lib.hid hs6; have HO6 := Lib.hid ho6; have HN6 := Lib.hid hn6
          clear hx6 hz6 hg6 hs6 ho6 hb6 hn6
          go_wp2
          go_roundw
          case rel =>
            have e2 := HNX.out.trans (step_names hq1 hq2 HA.out HT.out)
            have hg5 := gcell w6 (b + 1) 2 (.slice A6 n6 c6)
            refine ⟨k + 1, by go_num, by omega, Lib.hid ⟨⟨.slice A6 n6 c6, ?_, ?_⟩, HZ6.out.other 2 _ (show b ≠ b + 1 by omega), HS6.out.grown hg5 HX6.out.noS.1 HX6.out.noS.2, HG6.out.trans hg5⟩⟩
            · rw [e2]; exact HX6.out.set 2 _ (by simp)
            · rw [e2]
              exact sown_grown (HO6.out.mono hw7s) hg5 (sown_other (HO6.out.mono hw7s) HX6.out.noS.1)
          case measure => simp [intOf]; omega
        | false =>
          go_wp2
          go_roundw
          case rel =>
            have e2 := HNX.out.trans (step_else hq1 hq2)
            exact ⟨k + 1, by go_num, by omega, Lib.hid ⟨⟨.slice An nl cn, by rw [e2]; exact HBX.out, by rw [e2]; exact HNM.out⟩, HM1.out, HSO2.out, HG.out⟩⟩
          case measure => simp [intOf]; omega
    · have hall : gK ds r k = parseM s r := by
        rw [gK_all ds r (by omega)]
        unfold parseM
        rw [HDS.out]
      obtain ⟨vN, hbox, hnm⟩ := HRI.out.box
      rw [hall] at hbox hnm
      obtain ⟨g, hg⟩ : ∃ g, parseM s r = g := ⟨_, rfl⟩
      rw [hg] at hbox hnm
      have HGE := Lib.hid hg
      obtain ⟨An, cn, rfl, _, _, _⟩ := hnm.form
      have hz := HRI.out.res
      have hgr := HRI.out.grown
      have HBX := Lib.hid hbox; have HZ := Lib.hid hz; have HNM := Lib.hid hnm; have HRG := Lib.hid hbox.range; have HTH := Lib.hid (hz.there 5 rfl); have HGR := Lib.hid hgr
      clear hall hbox hnm hz hg HRI hgr
      go_wp2_with (first
        | (show wpList _ _ _ (⟨_, Op.load 26 (.tmp 5), _, _, _, _⟩ :: _) _ _; refine wpList_load_mid rfl 26 (.tmp 5) rfl (b + 1) 0 rfl _ _ HRG.out Try.underlying26 rfl size_guard ?_)
        | (show wpList _ _ _ (⟨none, Op.store 26 (.tmp 4) (.tmp 40), _, _, _, _⟩ :: _) _ _; refine wpList_store_mid rfl 26 (.tmp 4) (.tmp 40) rfl b 0 (gA g (.slice An g.names.length cn)) rfl rfl HTH.out size_guard (by simp [gA, Value.oneCell']) ?_))
      obtain ⟨W, hW, hgW, hbW⟩ := res_box (g := g) (vN := .slice An g.names.length cn) HZ.out rfl
      obtain ⟨z0, z1, z2, z3, z4⟩ := hbW
      have hoW := sown_grown HNM.out hgW (sown_other HNM.out HZ.out.noS.1)
      have hb1 : Below b w wr := bel_m HB01.out HGR.out (by rw [← HBB.out]; exact (HBB.out ▸ HB01.out : Below w.heap.size w w1).size) (by omega)
      have hbelW : Below b w W := bel_m hb1 hgW (by rw [← HBB.out]; exact (HBB.out ▸ hb1 : Below w.heap.size w wr).size) (Nat.le_refl _)
      have h2 : w.heap.size ≤ w0.heap.size := by have := HS01.out; have := HBB.out; omega
      unfold gA
      rw [← hW]
      clear HBX HZ HRG HTH hgW hW HNM HGR hb1
      go_wp2
      exact bodyPost_ret (v := gV g (.slice An g.names.length cn)) (by simp [results, Try.f13, go_sem, z0, z1, z2, z3, z4]; rfl) rfl ⟨_, rfl, (by rw [HGE.out]; exact ⟨_, rfl, hoW.mono h2⟩), by rw [HBB.out]; exact hbelW⟩

end Go.Proofs.Ythgpjhblbpiagaa.He
