/-
  Walk of stage 15's law HeaderParses: it returns true.
-/
import Derived.Test.YthgpjhblbpiagaaHeadLaw
import Derived.Test.YthgpjhblbpiagaaHeadLawA
import Derived.Test.YthgpjhblbpiagaaHeadSpoil
import Derived.Deep.RegionHeld3
namespace Go.Proofs.Ythgpjhblbpiagaa.He
set_option maxRecDepth 100000
set_option linter.unusedSimpArgs false
set_option linter.unusedVariables false
open Go.RowKit Ba Fm Fo Go.Maps

theorem refParse1 (s : ByteArray) (r : Bool) (w : World) (hs : s.size ≤ 1000) (g : Gd) (hg : parseM s r = g) :
    Calls Try.prog 11 #[.string s, .bool r] w fun e w' => ∃ A c, e = .returned (gV g (.slice A g.names.length c)) ∧ Sown w.heap.size w' (.slice A g.names.length c) g.names ∧ Below w.heap.size w w' :=
  (refParse_any s r w hs).mono fun e w' ⟨v, he, hv, hb⟩ => by
    rw [hg] at hv
    obtain ⟨vN, rfl, ho⟩ := hv
    obtain ⟨A, c, rfl, _, _, _⟩ := ho.form
    exact ⟨A, c, he, ho, hb⟩

set_option maxHeartbeats 16000000 in
theorem law_parses (s : ByteArray) (r : Bool) (hs : s.size ≤ 140737488351232) (w : World) :
    Calls Try.prog 3 #[.string s, .bool r] w fun e w' => e = .returned (.bool true) ∧ Below w.heap.size w w' := by
  obtain ⟨k, hk1, hk2, -, hmink⟩ := cut_any s.size 500 500 rfl w
  obtain ⟨u, hu⟩ : ∃ u, s.extract 0 k = u := ⟨_, rfl⟩
  have hus : u.size ≤ 500 := by rw [← hu]; exact Nat.le_trans (cut_le s k) hk2
  have HU := Lib.hid hu; clear hu
  obtain ⟨ds, hds⟩ : ∃ ds, parts u = ds := ⟨_, rfl⟩
  obtain ⟨g, hg⟩ : ∃ g, parseM u r = g := ⟨_, rfl⟩
  have hgl : g.names.length ≤ 500 := by rw [← hg]; exact Nat.le_trans (len_guard u r) hus
  have hdl : ds.length ≤ 501 := by have := len_parts u; rw [hds] at this; omega
  have hw : ∀ d ∈ ds, d ≠ [] ∧ d.length ≤ 500 := fun d hd => by
    rw [← hds] at hd
    obtain ⟨h1, h2⟩ := words_small u d hd
    exact ⟨parts_ne u d hd, by omega⟩
  obtain ⟨on, rep, names, any, twice⟩ := g
  have hgl : names.length ≤ 500 := hgl
  obtain ⟨n, hn⟩ : ∃ n, ds.length = n := ⟨_, rfl⟩
  obtain ⟨m, hm⟩ : ∃ m, names.length = m := ⟨_, rfl⟩
  rw [hn] at hdl
  rw [hm] at hgl
  have HDS := Lib.hid hds; have HG := Lib.hid hg; have HW := Lib.hid hw; have HN := Lib.hid hn; have HM := Lib.hid hm
  clear hds hg hw hn hm
  go_enter Try.func3, Try.ntmps3
  go_wp2_with fail
  simp only [HU.out]
  refine (refParts_any u w (by omega)).mono ?_
  rintro e w1 ⟨v1, rfl, hso1, hb1⟩
  clear hmink
  rw [HDS.out] at hso1
  obtain ⟨Aw, cw, rfl⟩ := so_ls hso1
  rw [HN.out] at hso1 ⊢
  have HSO1 := Lib.hid hso1; have HB1 := Lib.hid hb1
  clear hso1 hb1
  go_wp2_with fail
  refine (refParse1 u r w1 (by omega) _ HG.out).mono ?_
  rintro e w2 ⟨A6, c6, rfl, ho2, hb2⟩
  rw [show gV (⟨on, rep, names, any, twice⟩ : Gd) (.slice A6 (Gd.names ⟨on, rep, names, any, twice⟩).length c6) = .agg #[.bool on, .bool rep, .slice A6 names.length c6, .bool any, .bool twice] from rfl]
  have hk6 := kb_new ho2
  have hbw := below_box hb2 (.cells #[.bool on, .bool rep, .slice A6 names.length c6, .bool any, .bool twice] 26)
  rw [HM.out] at ho2 hbw ⊢
  have hk6 : Kb (w2.alloc (.cells #[.bool on, .bool rep, .slice A6 m c6, .bool any, .bool twice] 26)) w2.heap.size ⟨on, rep, names, any, twice⟩ (.slice A6 m c6) := by
    have := hk6
    simp only [HM.out] at this
    exact this
  go_upto_region 3 with (fail)
  obtain ⟨w3, hW⟩ : ∃ W, w2.alloc (.cells #[.bool on, .bool rep, .slice A6 m c6, .bool any, .bool twice] 26) = W := ⟨_, rfl⟩
  obtain ⟨b6, hbb⟩ : ∃ b, w2.heap.size = b := ⟨_, rfl⟩
  rw [hW] at hk6 hbw ⊢
  rw [hbb] at hk6 ⊢
  have hsg3 : Sg w3 w3.heap.size (.slice Aw n cw) ds := (HSO1.out.below hbw (Nat.le_refl _)).form
  have hb3 := bt HB1.out hbw
  have HK6 := Lib.hid hk6; have HSG := Lib.hid hsg3; have HB3 := Lib.hid hb3
  clear hk6 hbw hW hbb ho2 hb2 hsg3 hb3 HSO1 HB1
  go_wp2
  go_loopw [7] (fun i wr => ∃ t : Nat, i = .int .i64 t ∧ t ≤ 2 ∧ Hid (Below w3.heap.size w3 wr)) (fun i _ => 2 - (intOf i).toNat)
  case atStart => exact ⟨0, rfl, by omega, Lib.hid (Below.refl _ _)⟩
  case round =>
    obtain ⟨t, rfl, ht, HBT⟩ := hrel
    obtain ⟨w7, rfl⟩ : ∃ w7, w7 = wr := ⟨_, rfl⟩
    by_cases hp : t < 2
    · go_wp2_with fail
      refine (parts_any u w7 (by omega)).mono ?_
      rintro e w8 ⟨v8, rfl, hso8, hb8⟩
      rw [HDS.out] at hso8
      obtain ⟨Al, cl, rfl⟩ := so_ls hso8
      rw [HN.out] at hso8 ⊢
      have HSO8 := Lib.hid hso8; have HB8 := Lib.hid hb8; have HB78 := Lib.hid hb8.size
      clear hso8 hb8
      go_wp2_with fail
      refine (parse1 u r w8 (by omega) _ HG.out).mono ?_
      rintro e w9 ⟨A9, c9, rfl, ho9, hb9⟩
      rw [show gV (⟨on, rep, names, any, twice⟩ : Gd) (.slice A9 (Gd.names ⟨on, rep, names, any, twice⟩).length c9) = .agg #[.bool on, .bool rep, .slice A9 names.length c9, .bool any, .bool twice] from rfl]
      have hk9 := kb_new ho9
      have hbw := below_box hb9 (.cells #[.bool on, .bool rep, .slice A9 names.length c9, .bool any, .bool twice] 26)
      have ho9' : Sown w8.heap.size w9 (.slice A9 m c9) names := by rw [← HM.out]; exact ho9
      rw [HM.out] at hbw ⊢
      have hk9 : Kb (w9.alloc (.cells #[.bool on, .bool rep, .slice A9 m c9, .bool any, .bool twice] 26)) w9.heap.size ⟨on, rep, names, any, twice⟩ (.slice A9 m c9) := by
        have := hk9
        simp only [HM.out] at this
        exact this
      have ho9a := ho9'.alloc (.cells #[.bool on, .bool rep, .slice A9 m c9, .bool any, .bool twice] 26)
      go_upto_region 8 with (fail)
      obtain ⟨wA, hW⟩ : ∃ W, w9.alloc (.cells #[.bool on, .bool rep, .slice A9 m c9, .bool any, .bool twice] 26) = W := ⟨_, rfl⟩
      obtain ⟨b9, hbb⟩ : ∃ b, w9.heap.size = b := ⟨_, rfl⟩
      have hb98 : w8.heap.size ≤ b9 := by rw [← hbb]; exact hb9.size
      rw [hW] at hk9 hbw ho9a ⊢
      rw [hbb] at hk9 ⊢
      have hsoA := HSO8.out.below hbw (Nat.le_refl _)
      have hb7A := bt HB8.out hbw
      have hk6A := (HK6.out.on HBT.out).on hb7A
      have HKA := Lib.hid hk9; have HSOA := Lib.hid hsoA; have HB7A := Lib.hid hb7A; have HOA := Lib.hid ho9a; have HK6A := Lib.hid hk6A
      obtain ⟨x0, x1, x2, x3, x4⟩ := (show wA.cell? ⟨b9, 0, none⟩ = some (.bool on) ∧ wA.cell? ⟨b9, 1, none⟩ = some (.bool rep) ∧ wA.cell? ⟨b9, 2, none⟩ = some (.slice A9 m c9) ∧ wA.cell? ⟨b9, 3, none⟩ = some (.bool any) ∧ wA.cell? ⟨b9, 4, none⟩ = some (.bool twice) from hk9.at5)
      obtain ⟨y0, y1, y2, y3, y4⟩ := (show wA.cell? ⟨b6, 0, none⟩ = some (.bool on) ∧ wA.cell? ⟨b6, 1, none⟩ = some (.bool rep) ∧ wA.cell? ⟨b6, 2, none⟩ = some (.slice A6 m c6) ∧ wA.cell? ⟨b6, 3, none⟩ = some (.bool any) ∧ wA.cell? ⟨b6, 4, none⟩ = some (.bool twice) from hk6A.at5)
      have hnn : ((n : Int) != (n : Int)) = false := by simp
      clear hk9 hbw ho9 ho9' ho9a hb9 hW hbb hsoA hb7A hk6A HSO8 HB8
      go_wp2_with fail
      refine (same15_any _ _ ⟨on, rep, names, any, twice⟩ wA (show Gv wA wA.heap.size (.agg #[.bool on, .bool rep, .slice A9 m c9, .bool any, .bool twice]) _ from HKA.out.gv) (show Gv wA wA.heap.size (.agg #[.bool on, .bool rep, .slice A6 m c6, .bool any, .bool twice]) _ from HK6A.out.gv) (show names.length ≤ 8796093022208 by rw [HM.out]; omega)).mono ?_
      rintro e wB ⟨rfl, hbB⟩
      have hsoB := HSOA.out.below hbB (Nat.le_refl _)
      have hoB := HOA.out.below hbB (Nat.le_refl _)
      have hxB := HKA.out.box.on hbB
      have hb7B := bt HB7A.out hbB
      have HSOB := Lib.hid hsoB; have HOB := Lib.hid hoB; have HXB := Lib.hid hxB; have HB7B := Lib.hid hb7B
      clear hsoB hoB hxB hb7B hbB x0 x1 x2 x3 x4 y0 y1 y2 y3 y4 HKA HSOA HB7A HOA HK6A hnn
      go_wp2
      go_loopw [10] (fun i wi => ∃ (i0 : Nat) (es : List (List ByteArray)), i = .int .i64 i0 ∧ i0 ≤ n ∧ Hid (So w7.heap.size w8.heap.size wi (.slice Al n cl) es) ∧ Hid (es.length = n) ∧ Hid (∀ j, i0 ≤ j → es[j]? = ds[j]?) ∧ Hid (Hb wi b9 #[.bool on, .bool rep, .slice A9 m c9, .bool any, .bool twice]) ∧ Hid (Sown w8.heap.size wi (.slice A9 m c9) names) ∧ Hid (Below w7.heap.size w7 wi)) (fun i _ => n - (intOf i).toNat)
      case atStart => exact ⟨0, ds, rfl, Nat.zero_le _, HSOB, HN, Lib.hid (fun j _ => rfl), HXB, HOB, HB7B⟩
      case round =>
        obtain ⟨i, es, rfl, hi, HS, HE, HEQ, HX, HO, HB⟩ := hrel
        obtain ⟨wC, rfl⟩ : ∃ wC, wC = wr := ⟨_, rfl⟩
        by_cases hin : i < n
        · have hil : i < es.length := by rw [HE.out]; exact hin
          have hid_ : i < ds.length := by rw [HN.out]; exact hin
          obtain ⟨d, hd0⟩ : ∃ d, ds[i] = d := ⟨_, rfl⟩
          have hed : es[i] = d := by
            have := HEQ.out i (Nat.le_refl _)
            rw [List.getElem?_eq_getElem hil, List.getElem?_eq_getElem hid_, hd0] at this
            injection this
          obtain ⟨hne, hdl5⟩ := HW.out d (by rw [← hd0]; exact List.getElem_mem _)
          have hpos : 0 < d.length := List.length_pos_iff.2 hne
          obtain ⟨bo, co, gb, gc, e1, hc1, hNg, hgM, hlc1, hcc1, hsp⟩ := HS.out.inner hil (by rw [hed]; exact hpos)
          rw [hed] at hc1 hlc1 hcc1
          rw [HE.out] at e1
          injection e1 with e1 _ e2
          subst e1 e2
          obtain ⟨bw, ow, Bw, cw2, rfl, hbw, hcw, hlcw, hrw⟩ := (HSG.out.below HBT.out (Nat.le_refl _)).at_ hid_
          rw [hd0] at hcw hlcw hrw
          have hbw7 : bw < w7.heap.size := Nat.lt_of_lt_of_le hbw HBT.out.size
          have hcwC : wC.cell? ⟨bw, ow + i, none⟩ = some (.slice Bw d.length cw2) := (HB.out.cell (p := ⟨bw, ow + i, none⟩) hbw7).trans hcw
          have hrwC : Rd wC wC.heap.size Bw d := (hrw.below (HB.out.mono HBT.out.size) (Nat.le_refl _)).more (Nat.le_trans HBT.out.size HB.out.size)
          have hrg : Rd wC wC.heap.size (some ⟨gb, 0, none⟩) d := by
            obtain ⟨A', c', B2, c2, e3, _, h3, _, h4⟩ := HS.out.form.at_ hil
            injection e3 with e3
            injection e3 with e3 e4
            subst e3 e4
            rw [Nat.zero_add, hc1, hed] at h3
            injection h3 with h3
            injection h3 with h3 _ _
            rw [h3, ← hed]
            exact h4
          obtain ⟨dl, hdle⟩ : ∃ dl, d.length = dl := ⟨_, rfl⟩
          have hboC : bo < wC.heap.size := World.block_lt_of_cell? wC _ hc1
          have HEQL := Lib.hid (fun (wx : World) (hb : Below wC.heap.size wC wx) => (show Calls Try.prog 15 #[.slice (some ⟨gb, 0, none⟩) dl gc, .slice Bw dl cw2] wx fun e w' => e = .returned (.bool true) ∧ Below wC.heap.size wC w' from hdle ▸ ((equal_any _ _ gc cw2 d wx ((hrg.below hb (Nat.le_refl _)).more hb.size) ((hrwC.below hb (Nat.le_refl _)).more hb.size) (by omega)).mono fun e w' ⟨h1, h2⟩ => ⟨h1, bt hb h2⟩)))
          rw [hdle] at hc1 hcwC hpos hdl5 hcc1
          have HSS := Lib.hid (fun (wx : World) (hb : Below wC.heap.size wC wx) => show wx.cell? ⟨bo, i, none⟩ = some (.slice (some ⟨gb, 0, none⟩) dl gc) ∧ wx.cell? ⟨bw, ow + i, none⟩ = some (.slice Bw dl cw2) from ⟨(hb.cell (p := ⟨bo, i, none⟩) hboC).trans hc1, (hb.cell (p := ⟨bw, ow + i, none⟩) (Nat.lt_of_lt_of_le hbw7 HB.out.size)).trans hcwC⟩)
          have HD0 := Lib.hid hd0; have HED := Lib.hid hed; have HDL := Lib.hid hdle
          clear hcc1 hsp hlc1 hlcw hrw hrwC hrg hcw hd0 hed hdle hne hNg hgM
          go_wp2
          refine wp_region_noPanic ?_
          refine wp_region_held_drew (S := fun wx => wx.cell? ⟨bo, i, none⟩ = some (.slice (some ⟨gb, 0, none⟩) dl gc) ∧ wx.cell? ⟨bw, ow + i, none⟩ = some (.slice Bw dl cw2)) (by kernel_rfl) ?_ (fun hHeld => ?_)
          · exact HSS.out _ (bel_eq (Below.refl _ wC) rfl rfl rfl rfl)
          refine wpAnyH_take (i := 0) (oi := _) (v := ?_) rfl (by kernel_rfl) (by kernel_rfl) (by kernel_rfl) (fun _ _ _ h => h) (Or.inl ⟨by rfl, ?_⟩) (by assumption) ?_
          rotate_left
          · intro w hSw; (try dsimp only at hSw); go_simp; all_goals with_reducible rfl
          try simp only [Act.put, List.getElem_toArray, List.getElem_cons_zero, List.getElem_cons_succ, List.setIfInBounds_toArray, List.set_cons_zero, List.set_cons_succ]
          refine wpAnyH_take (i := 1) (oi := _) (v := ?_) rfl (by kernel_rfl) (by kernel_rfl) (by kernel_rfl) (fun _ _ _ h => h) (Or.inl ⟨by rfl, ?_⟩) (by assumption) ?_
          rotate_left
          · intro w hSw; (try dsimp only at hSw); go_simp; all_goals with_reducible rfl
          try simp only [Act.put, List.getElem_toArray, List.getElem_cons_zero, List.getElem_cons_succ, List.setIfInBounds_toArray, List.set_cons_zero, List.set_cons_succ]
          refine wpAnyH_take (i := 2) (oi := _) (v := ?_) rfl (by kernel_rfl) (by kernel_rfl) (by kernel_rfl) (fun _ _ _ h => h) (Or.inl ⟨by rfl, ?_⟩) (by assumption) ?_
          rotate_left
          · intro w hSw; (try dsimp only at hSw); go_simp; all_goals with_reducible rfl
          try simp only [Act.put, List.getElem_toArray, List.getElem_cons_zero, List.getElem_cons_succ, List.setIfInBounds_toArray, List.set_cons_zero, List.set_cons_succ]
          refine wpAnyH_take (i := 3) (oi := _) (v := ?_) rfl (by kernel_rfl) (by kernel_rfl) (by kernel_rfl) (fun _ _ _ h => h) (Or.inl ⟨by rfl, ?_⟩) (by assumption) ?_
          rotate_left
          · intro w hSw; (try dsimp only at hSw); go_simp; all_goals with_reducible rfl
          try simp only [Act.put, List.getElem_toArray, List.getElem_cons_zero, List.getElem_cons_succ, List.setIfInBounds_toArray, List.set_cons_zero, List.set_cons_succ]
          refine wpAnyH_take (i := 4) (oi := _) (v := ?_) rfl (by kernel_rfl) (by kernel_rfl) (by kernel_rfl) (fun _ _ _ h => h) (Or.inl ⟨by rfl, ?_⟩) (by assumption) ?_
          rotate_left
          · intro w hSw; (try dsimp only at hSw); go_simp; all_goals with_reducible rfl
          try simp only [Act.put, List.getElem_toArray, List.getElem_cons_zero, List.getElem_cons_succ, List.setIfInBounds_toArray, List.set_cons_zero, List.set_cons_succ]
          refine wpAnyH_take (i := 5) (oi := _) (v := ?_) rfl (by kernel_rfl) (by kernel_rfl) (by kernel_rfl) (fun _ _ _ h => h) (Or.inl ⟨by rfl, ?_⟩) (by assumption) ?_
          rotate_left
          · intro w hSw; (try dsimp only at hSw); go_simp; all_goals with_reducible rfl
          try simp only [Act.put, List.getElem_toArray, List.getElem_cons_zero, List.getElem_cons_succ, List.setIfInBounds_toArray, List.set_cons_zero, List.set_cons_succ]
          refine wpAnyH_take (i := 6) (oi := _) (v := ?_) rfl (by kernel_rfl) (by kernel_rfl) (by kernel_rfl) (fun _ _ _ h => h) (Or.inl ⟨by rfl, ?_⟩) (by assumption) ?_
          rotate_left
          · intro w hSw; (try dsimp only at hSw); go_simp; all_goals with_reducible rfl
          try simp only [Act.put, List.getElem_toArray, List.getElem_cons_zero, List.getElem_cons_succ, List.setIfInBounds_toArray, List.set_cons_zero, List.set_cons_succ]
          refine wpAnyH_take (i := 7) (oi := _) (v := ?_) rfl (by kernel_rfl) (by kernel_rfl) (by kernel_rfl) (fun _ _ _ h => h) (Or.inl ⟨by rfl, ?_⟩) (by assumption) ?_
          rotate_left
          · intro w hSw; (try dsimp only at hSw); go_simp; all_goals with_reducible rfl
          try simp only [Act.put, List.getElem_toArray, List.getElem_cons_zero, List.getElem_cons_succ, List.setIfInBounds_toArray, List.set_cons_zero, List.set_cons_succ]
          refine wpAnyH_ready (rs := [8]) (by kernel_rfl) (by simp) ?_
          refine AllReadyH.cons (o := _) rfl (fun K hK => ?_) AllReadyH.nil
          go_simp
          go_at_call 15
          refine (HEQL.out _ (by exact bel_eq (Below.refl _ wC) rfl rfl rfl rfl)).mono ?_
          rintro e x1 ⟨rfl, hbx⟩
          have HX1 := Lib.hid hbx; clear hbx
          go_wp2_with fail
          refine hK.out _ _ ?_ (fun hHeld => ?_)
          · exact HSS.out _ (bel_eq HX1.out rfl rfl rfl rfl)
          clear hK K
          try simp only [Act.put, List.getElem_toArray, List.getElem_cons_zero, List.getElem_cons_succ, List.setIfInBounds_toArray, List.set_cons_zero, List.set_cons_succ]
          refine wpAnyH_take (i := 9) (oi := _) (v := ?_) rfl (by kernel_rfl) (by kernel_rfl) (by kernel_rfl) (fun _ _ _ h => h) (Or.inl ⟨by rfl, ?_⟩) (by assumption) ?_
          rotate_left
          · intro w hSw; (try dsimp only at hSw); go_simp; all_goals with_reducible rfl
          try simp only [Act.put, List.getElem_toArray, List.getElem_cons_zero, List.getElem_cons_succ, List.setIfInBounds_toArray, List.set_cons_zero, List.set_cons_succ]
          refine wpAnyH_done (by kernel_rfl) ?_ _
          refine NoPanic.normal ?_
          go_upto_region 15 with (fail)
          obtain ⟨wE, hwE⟩ : ∃ wE, x1 = wE := ⟨_, rfl⟩
          have hbE : Below wC.heap.size wC wE := hwE ▸ HX1.out
          rw [hwE]
          have hsE := HS.out.below hbE (Nat.le_refl _)
          have hxE := HX.out.on hbE
          have hoE := HO.out.below hbE (Nat.le_refl _)
          have h7E := bt HB.out hbE
          have HSE := Lib.hid hsE; have HXE := Lib.hid hxE; have HOE := Lib.hid hoE; have H7E := Lib.hid h7E
          clear hsE hxE hoE h7E hbE hwE hc1 hcwC
          go_wp2
          go_loopw [11] (fun k wi => ∃ (k0 : Nat) (fs : List (List ByteArray)) (f : List ByteArray), k = .int .i64 k0 ∧ k0 ≤ dl ∧ Hid (So w7.heap.size w8.heap.size wi (.slice (some ⟨bo, 0, none⟩) n cl) fs) ∧ Hid (fs.length = n) ∧ Hid (fs[i]? = some f ∧ f.length = dl) ∧ Hid (∀ j, i + 1 ≤ j → fs[j]? = ds[j]?) ∧ Hid (Hb wi b9 #[.bool on, .bool rep, .slice A9 m c9, .bool any, .bool twice]) ∧ Hid (Sown w8.heap.size wi (.slice A9 m c9) names) ∧ Hid (Below w7.heap.size w7 wi)) (fun k _ => dl - (intOf k).toNat)
          case atStart => exact ⟨0, es, d, rfl, Nat.zero_le _, HSE, HE, Lib.hid ⟨by rw [List.getElem?_eq_getElem hil, HED.out], HDL.out⟩, Lib.hid (fun j hj => HEQ.out j (by omega)), HXE, HOE, H7E⟩
          case round =>
            obtain ⟨k0, fs, f, rfl, hk0, HSF, HFL, HF, HFQ, HXF, HOF, HBF⟩ := hrel
            obtain ⟨wF, rfl⟩ : ∃ wF, wF = wr := ⟨_, rfl⟩
            have hfl : i < fs.length := by rw [HFL.out]; exact hin
            have hff : fs[i] = f := by
              have := HF.out.1
              rw [List.getElem?_eq_getElem hfl] at this
              injection this
            obtain ⟨bo2, co2, gb2, gc2, e1, hc2, hNg, hgM, hlc2, hcc2, hsp⟩ := HSF.out.inner hfl (by rw [hff, HF.out.2]; exact hpos)
            rw [hff, HF.out.2] at hc2 hlc2 hcc2
            rw [HFL.out] at e1
            injection e1 with e1 _ e2
            injection e1 with e1
            injection e1 with e1
            subst e1
            by_cases hkd : k0 < dl
            · obtain ⟨⟨z, hz⟩, hf⟩ := hcc2 k0 hkd
              have hS2 := hsp k0 ⟨#[120]⟩
              rw [hff] at hS2
              have hb9g : b9 ≠ gb2 := by omega
              have HS2 := Lib.hid hS2; have HNG := Lib.hid hNg; have HGM := Lib.hid hgM
              clear hcc2 hsp hS2 hff
              go_wp2
              go_roundw
              case rel =>
                refine ⟨k0 + 1, fs.set i (f.set k0 ⟨#[120]⟩), f.set k0 ⟨#[120]⟩, by go_num, by omega, HS2, Lib.hid (by rw [List.length_set]; exact HFL.out), Lib.hid ⟨List.getElem?_set_self hfl, by rw [List.length_set]; exact HF.out.2⟩, Lib.hid (fun j hj => by rw [List.getElem?_set_ne (by omega)]; exact HFQ.out j hj), Lib.hid (HXF.out.other k0 _ hb9g), Lib.hid (own_other HOF.out (p := ⟨gb2, k0, none⟩) HGM.out _), Lib.hid (HBF.out.setCell (p := ⟨gb2, k0, none⟩) HNG.out _)⟩
              case measure => simp [intOf]; omega
            · go_wp2
              go_roundw
              case rel => exact ⟨i + 1, fs, by go_num, by omega, HSF, HFL, HFQ, HXF, HOF, HBF⟩
              case measure => simp [intOf]; omega
        · go_wp2
          go_loopw [12] (fun j wi => ∃ (j0 : Nat) (ns : List ByteArray), j = .int .i64 j0 ∧ j0 ≤ m ∧ Hid (ns.length = m) ∧ Hid (Hb wi b9 #[.bool on, .bool rep, .slice A9 m c9, .bool any, .bool twice]) ∧ Hid (Sown w8.heap.size wi (.slice A9 m c9) ns) ∧ Hid (Below w7.heap.size w7 wi)) (fun j _ => m - (intOf j).toNat)
          case atStart => exact ⟨0, names, rfl, Nat.zero_le _, HM, HX, HO, HB⟩
          case round =>
            obtain ⟨j, ns, rfl, hj, HNS, HXX, HOO, HBB⟩ := hrel
            obtain ⟨wD, rfl⟩ : ∃ wD, wD = wr := ⟨_, rfl⟩
            have x2 := HXX.out.cell 2 _ rfl
            by_cases hjm : j < m
            · obtain ⟨gg, gc, e9⟩ := own_form HOO.out (by rw [HNS.out]; omega)
              injection e9 with e9 _ e99
              subst e9 e99
              obtain ⟨hcj, hfj⟩ := own_cell HOO.out HNS.out j hjm
              obtain ⟨z, hz⟩ : ∃ z, ns[j]'(by rw [HNS.out]; exact hjm) = z := ⟨_, rfl⟩
              rw [hz] at hcj
              clear hz
              go_wp2
              go_roundw
              case rel =>
                obtain ⟨h1, h2⟩ := own_store HOO.out HNS.out j ⟨#[120]⟩
                have hne := box_ne HOO.out HXX.out
                refine ⟨j + 1, ns.set j ⟨#[120]⟩, by go_num, by omega, Lib.hid (by rw [List.length_set]; exact HNS.out), Lib.hid (HXX.out.other j _ (fun e => hne (by rw [e]; rfl))), Lib.hid h1, Lib.hid (HBB.out.setCell (show w7.heap.size ≤ gg from Nat.le_trans HB78.out h2) _)⟩
              case measure => simp [intOf]; omega
            · go_wp2
              go_roundw
              case rel => exact ⟨t + 1, by go_num, by omega, Lib.hid (HBT.out.trans (HBB.out.mono HBT.out.size))⟩
              case measure => simp [intOf]; omega
    · go_wp2_with fail
      refine (fixed15_any w7).mono ?_
      rintro e w8 ⟨rfl, hb⟩
      go_wp2
      go_ret
      exact ⟨rfl, bt (HB3.out.trans (HBT.out.mono HB3.out.size)) hb⟩

end Go.Proofs.Ythgpjhblbpiagaa.He
