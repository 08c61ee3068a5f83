/-
  The reference of stage 15: boltingref15.Parts.
-/
import Derived.Test.YthgpjhblbpiagaaHeadWalkC
import Derived.Deep.QuietTactic
import Derived.BigQuiet
namespace Go.Proofs.Ythgpjhblbpiagaa.He
set_option maxRecDepth 100000
set_option linter.unusedSimpArgs false
set_option linter.unusedVariables false
open Go.RowKit Ba Fm Fo Go.Maps

theorem isIn_take {x : ByteArray} {l : List ByteArray} {k : Nat} (h : k < l.length) : isIn x (l.take (k + 1)) = (isIn x (l.take k) || decide (x = l[k])) := by
  rw [List.take_succ_eq_append_getElem h, isIn_snoc]
structure Rp (s : ByteArray) (N : Nat) (k : Nat) (v : Value) (w2 wr : World) : Prop where
  so : So N wr.heap.size wr v (accK s k)
  bel : Below N w2 wr
theorem set_dirW {l : List ByteArray} (h : 0 < l.length) : l.set 0 (lo l[0]) = dirW l := by
  cases l with
  | nil => simp at h
  | cons n v => rfl
theorem sown_beside {N M K : Nat} {w w' : World} {v u : Value} {ls : List (List ByteArray)} {p : List ByteArray} (hu : Sown K w u p) (h : So N M w v ls) (hg : w.grownBy w' v.ownBlock) : Sown K w' u p := sown_grown hu hg (by
  obtain ⟨_, gs, h3, _⟩ := h
  rcases hu.2 with ⟨hv, _⟩ | ⟨g', cap', cur', hv, _, hh, _⟩
  · left; rw [hv]; rfl
  · right
    subst hv
    intro e
    rcases h3.2 with ⟨hv, _⟩ | ⟨g, cap, cur, hv, _, hh2, _⟩
    · subst hv; simp [Value.ownBlock] at e
    · subst hv
      have e : g' = g := by simpa [Value.ownBlock] using e
      subst e
      rw [hh] at hh2
      injection hh2 with hh2
      injection hh2 with _ ht
      exact absurd ht (by decide))
theorem get_hd {l : List ByteArray} (h : 0 < l.length) : l[0] = hd l := by
  cases l with
  | nil => simp at h
  | cons a l => rfl
theorem so_ls {N M : Nat} {w : World} {v : Value} {ls : List (List ByteArray)} (h : So N M w v ls) : ∃ A c, v = .slice A ls.length c := by
  obtain ⟨A, c, e, _⟩ := h.form
  exact ⟨A, c, e⟩

set_option maxHeartbeats 8000000 in
theorem refParts_any (s : ByteArray) (w : World) (hs : s.size ≤ 1000000) :
    Calls Try.prog 10 #[.string s] w fun e w' => ∃ v, e = .returned v ∧ So w.heap.size w'.heap.size w' v (parts s) ∧ Below w.heap.size w w' := by
  obtain ⟨w1, hw1⟩ : ∃ w1, w.alloc (.cells #[] 24) = w1 := ⟨_, rfl⟩
  have hso1 : So w.heap.size w1.heap.size w1 (.slice (some ⟨w.heap.size, 0, none⟩) 0 0) [] := by rw [← hw1]; exact So.made _ _ (by simp)
  have hb1 : Below w.heap.size w w1 := by rw [← hw1]; exact (Below.refl _ _).alloc (Nat.le_refl _) _
  have HW := Lib.hid hw1; clear hw1
  go_enter Try.func10, Try.ntmps10
  go_wp2_with fail
  rw [HW.out]
  refine (pieces_any s w1 hs).mono ?_
  rintro e w2 ⟨u, rfl, hu, hb2⟩
  have hso2 : So w.heap.size w2.heap.size w2 (.slice (some ⟨w.heap.size, 0, none⟩) 0 0) [] := (hso1.below hb2 (Nat.le_refl _)).tops
  obtain ⟨A, c, rfl, hlc, _, hrd⟩ := hu.form
  have hu0 := hu
  have hlen := len_pcs s
  have hsm : ∀ x ∈ pcs s, x.size ≤ 1000000 := fun x hx => Nat.le_trans (small_pcs hx) hs
  have hb02 : Below w.heap.size w w2 := bt hb1 hb2
  obtain ⟨ps, hps⟩ : ∃ ps, pcs s = ps := ⟨_, rfl⟩
  rw [hps] at hlen hsm hrd hlc hu0 ⊢
  have HSO := Lib.hid hso2; have HB := Lib.hid hb02; have HRD := Lib.hid hrd; have HSM := Lib.hid hsm; have HL := Lib.hid hlen; have HPS := Lib.hid hps
  have HU := Lib.hid hu0
  clear hso1 hb1 hb2 hso2 hb02 hrd hsm hlen hps hu hu0 HW hlc
  go_wp2
  go_loopw [3, 5] (fun v i wr => ∃ k : Nat, i = .int .i64 k ∧ k ≤ ps.length ∧ Hid (So w.heap.size wr.heap.size wr v (accK s k)) ∧ Hid (Below w.heap.size w wr) ∧ Hid (Sown w1.heap.size wr (.slice A ps.length c) ps)) (fun _ i _ => ps.length - (intOf i).toNat)
  case atStart => exact ⟨0, rfl, Nat.zero_le _, HSO, HB, HU⟩
  case round =>
    obtain ⟨k, rfl, hks, HS, HBL, HUS⟩ := hrel
    obtain ⟨w4, rfl⟩ : ∃ w4, w4 = wr := ⟨_, rfl⟩
    by_cases hp : k < ps.length
    · obtain ⟨b, off, rfl, hbN, hc⟩ := (World.ownsRow.mono HUS.out (Nat.le_refl _) |> Sown.form |> fun ⟨A', c', e, _, _, h⟩ => by injection e with e1; subst e1; exact h : Rd w4 w4.heap.size A ps) (by omega)
      have hcell := hc k hp
      obtain ⟨P, hP⟩ : ∃ P, ps[k] = P := ⟨_, rfl⟩
      rw [hP] at hcell
      have hPs : P.size ≤ 1000000 := by rw [← hP]; exact HSM.out _ (List.getElem_mem _)
      have hnext : accK s (k + 1) = stepD (accK s k) (dir P) := by
        have hk2 : k < (pcs s).length := by rw [HPS.out]; exact hp
        rw [accK_succ hk2]
        congr 2
        rw [← hP]
        simp only [HPS.out]
      have hkb : k < 1000001 := by have := HL.out; omega
      obtain ⟨acc, hacc⟩ : ∃ acc, accK s k = acc := ⟨_, rfl⟩
      have haccl : acc.length ≤ 1000001 := by
        have := accK_len s k
        rw [hacc] at this
        omega
      have hso := HS.out
      have hane : ∀ d ∈ acc, d ≠ [] := by
        rw [← hacc]
        exact fold_all _ _ _ (fun d hd => by cases hd) fun d _ h => h
      have HANE := Lib.hid hane; clear hane
      rw [hacc] at hnext hso
      obtain ⟨Av, cv, rfl⟩ := so_ls hso
      have HAC := Lib.hid haccl; have HNX := Lib.hid hnext; have HPZ := Lib.hid hPs; have HS4 := Lib.hid hso; have HA := Lib.hid hacc
      clear hc hP hnext hPs hacc haccl hso
      go_wp2_with fail
      refine (refWords_any P w4 HPZ.out).mono ?_
      rintro e wa ⟨x, rfl, hx, hba⟩
      obtain ⟨ws, hws⟩ : ∃ ws, wds P = ws := ⟨_, rfl⟩
      rw [hws] at hx
      have hd : dir P = dirW ws := by unfold dir; rw [hws]
      have hszw : ∀ z ∈ ws, z.size ≤ 1000000 := fun z hz => by
        rw [← hws] at hz
        unfold wds at hz
        obtain ⟨y, hy, rfl⟩ := List.mem_map.1 hz
        rw [size_B]
        have h1 := len_wordx (L P) [] y hy
        rw [size_L] at h1
        have := HPZ.out
        simp at h1
        omega
      have hwl : ws.length ≤ 1000000 := by
        have := len_wds P
        have := HPZ.out
        rw [← hws]
        omega
      have HD := Lib.hid hd; have HSZ := Lib.hid hszw; have HX := Lib.hid hx; have HBA := Lib.hid hba
      clear hws hd hszw hx hba
      by_cases hn : 0 < ws.length
      · obtain ⟨g, cap, rfl⟩ := own_form HX.out hn
        obtain ⟨hc0, hf0⟩ := own_cell HX.out rfl 0 hn
        obtain ⟨y, hy⟩ : ∃ y, ws[0] = y := ⟨_, rfl⟩
        rw [hy] at hc0
        have hys : y.size ≤ 1000000 := by rw [← hy]; exact HSZ.out _ (List.getElem_mem _)
        have hset : ws.set 0 (lo y) = dirW ws := by rw [← hy]; exact set_dirW hn
        obtain ⟨nw, hnw⟩ : ∃ nw, ws.length = nw := ⟨_, rfl⟩
        have hx := HX.out
        rw [hnw] at hx hn hwl ⊢
        have HXN := Lib.hid hx; have HSET := Lib.hid hset; have HYS := Lib.hid hys; have HNW := Lib.hid hnw
        clear hx hset hys hnw hy HX
        go_wp2_with fail
        refine (refLower_any y wa (by have := HYS.out; omega)).mono ?_
        rintro e wl ⟨rfl, hbl⟩
        rw [show B (lowL (L y)) = lo y from rfl]
        have hxl : Sown w4.heap.size wl (.slice (some ⟨g, 0, none⟩) nw cap) ws := HXN.out.below hbl (Nat.le_refl _)
        obtain ⟨hxs, hgN⟩ := own_store hxl HNW.out 0 (lo y)
        have hfl : wl.frozen? ⟨g, 0, none⟩ = false := (own_cell hxl HNW.out 0 hn).2
        have hcl := (own_cell hxl HNW.out 0 hn).1
        obtain ⟨w5, hw5⟩ : ∃ w5, wl.setCell ⟨g, 0, none⟩ (.string (lo y)) = w5 := ⟨_, rfl⟩
        rw [HSET.out, hw5] at hxs
        have hb45 : Below w4.heap.size w4 w5 := by rw [← hw5]; exact (bt HBA.out hbl).setCell hgN _
        have hsz5 : wl.heap.size = w5.heap.size := by rw [← hw5]; simp [World.setCell]
        have hs5 : So w.heap.size w4.heap.size w5 (.slice Av acc.length cv) acc := HS4.out.low hb45 (Nat.le_refl _)
        have hu5 : Sown w1.heap.size w5 (.slice (some ⟨b, off, none⟩) ps.length c) ps := HUS.out.below hb45 (Nat.le_refl _)
        have hl5 : (dirW ws).length = nw := by rw [len_dirW, HNW.out]
        have hx5 := hxs
        obtain ⟨yy, hyy⟩ : ∃ yy, lo y = yy := ⟨_, rfl⟩
        have hhd : hd (dirW ws) = yy := by
          rw [← HSET.out, ← hyy]
          cases ws with
          | nil => have := HNW.out; simp at this; omega
          | cons a l => rfl
        have hc5 : w5.cell? ⟨g, 0, none⟩ = some (.string yy) := by
          have hn2 : 0 < (dirW ws).length := by rw [hl5]; exact hn
          have := (own_cell hxs hl5 0 hn).1
          rw [this, get_hd hn2, hhd]
        have HX5 := Lib.hid hx5; have HB45 := Lib.hid hb45; have HS5 := Lib.hid hs5; have HU5 := Lib.hid hu5; have HL5 := Lib.hid hl5; have HW5 := Lib.hid hw5; have HSZ5 := Lib.hid hsz5; have HHD := Lib.hid hhd; have HC5 := Lib.hid hc5
        rw [hyy] at HW5
        rw [hyy]
        clear hxl hxs hgN hw5 hb45 hsz5 hs5 hu5 hl5 hx5 hhd hyy hc0 hf0 hcell hbl hc5
        go_upto_region 8 with (fail)
        rw [HW5.out]
        go_wp2
        go_loopw [7, 8] (fun f i wi => ∃ (j : Nat) (q : Bool), i = .int .i64 j ∧ j ≤ acc.length ∧ f = .bool q ∧ isIn yy ((heads acc).take j) = !q ∧ Hid (Below w5.heap.size w5 wi)) (fun _ i _ => acc.length - (intOf i).toNat)
        case atStart => exact ⟨0, true, rfl, Nat.zero_le _, rfl, rfl, Lib.hid (Below.refl _ _)⟩
        case round =>
          obtain ⟨j, q, rfl, hjs, rfl, hq, HBI⟩ := hrel
          by_cases hj : j < acc.length
          · have hjh : j < (heads acc).length := by unfold heads; rw [List.length_map]; exact hj
            have hnj := isIn_take (x := yy) hjh
            have hhj : (heads acc)[j] = hd acc[j] := by simp [heads]
            have hcj : wr.cell? ⟨g, 0, none⟩ = some (.string yy) := (HBI.out.cell (p := ⟨g, 0, none⟩) (by
              show g < w5.heap.size
              exact World.block_lt_of_cell? w5 _ HC5.out)).trans HC5.out
            have hso5 := HS5.out.below HBI.out (Nat.le_refl _)
            obtain ⟨b1, o1, B1, c1, rfl, hb1, hcell1, hlc1, hrd1⟩ := hso5.form.at_ hj
            obtain ⟨z, hz⟩ : ∃ z, acc[j] = z := ⟨_, rfl⟩
            have hzn : z ≠ [] := by rw [← hz]; exact HANE.out _ (List.getElem_mem _)
            have hzl : 0 < z.length := List.length_pos_iff.2 hzn
            rw [hz] at hcell1 hrd1 hhj
            obtain ⟨bb, oo, rfl, hbb, hcc⟩ := hrd1 hzl
            have hn0 := hcc 0 hzl
            rw [Nat.add_zero, get_hd hzl] at hn0
            obtain ⟨x, hx⟩ : ∃ x, hd z = x := ⟨_, rfl⟩
            rw [hx] at hn0 hhj
            rw [hhj] at hnj
            obtain ⟨zl, hzle⟩ : ∃ zl, z.length = zl := ⟨_, rfl⟩
            rw [hzle] at hcell1 hzl
            have heq := eq_of_toList (a := x) (b := yy)
            have hal := HAC.out
            have hj0 : (0 : Int) ≤ (j : Int) := by omega
            have hj1 : (j : Int) < (acc.length : Int) := by omega
            have HNJ := Lib.hid hnj; clear hnj hcc hrd1 hhj hx hz hzn hlc1 hso5 hzle
            rw [hq] at HNJ
            clear hq
            cases q with
            | false =>
              clear heq
              go_wp2
              go_quiet (fail)
              go_wp2
              go_roundw
              case rel => exact ⟨j + 1, false, by go_num, by omega, rfl, by rw [HNJ.out]; rfl, Lib.hid (below_dN HBI.out _)⟩
              case measure => simp [intOf]; omega
            | true =>
              by_cases hxy : x = yy
              · rw [decide_eq_true hxy] at heq
                have HXY := Lib.hid hxy; clear hxy
                go_wp2
                go_quiet (fail)
                go_wp2
                go_roundw
                case rel => exact ⟨j + 1, false, by go_num, by omega, rfl, by rw [HNJ.out, decide_eq_true HXY.out.symm]; rfl, Lib.hid (below_dN HBI.out _)⟩
                case measure => simp [intOf]; omega
              · rw [decide_eq_false hxy] at heq
                have HXY := Lib.hid hxy; clear hxy
                go_wp2
                go_quiet (fail)
                go_wp2
                go_roundw
                case rel => exact ⟨j + 1, true, by go_num, by omega, rfl, by rw [HNJ.out, decide_eq_false (fun e => HXY.out e.symm)]; rfl, Lib.hid (below_dN HBI.out _)⟩
                case measure => simp [intOf]; omega
          · have hall : (heads acc).take j = heads acc := List.take_of_length_le (by unfold heads; rw [List.length_map]; omega)
            rw [hall] at hq
            have hsz : wl.heap.size ≤ wr.heap.size := by rw [HSZ5.out]; exact HBI.out.size
            have hb4r : Below w4.heap.size w4 wr := HB45.out.trans (HBI.out.mono HB45.out.size)
            have hbr : Below w.heap.size w wr := HBL.out.trans (hb4r.mono HBL.out.size)
            have hsor : So w.heap.size w4.heap.size wr (.slice Av acc.length cv) acc := HS5.out.below HBI.out (Nat.le_refl _)
            have hur : Sown w1.heap.size wr (.slice (some ⟨b, off, none⟩) ps.length c) ps := HU5.out.below HBI.out (Nat.le_refl _)
            have hxr : Sown w4.heap.size wr (.slice (some ⟨g, 0, none⟩) nw cap) (dirW ws) := HX5.out.below HBI.out (Nat.le_refl _)
            have HQ := Lib.hid hq; have HBR := Lib.hid hbr; have HSR := Lib.hid hsor; have HUR := Lib.hid hur; have HXR := Lib.hid hxr
            have hwr : w.heap.size ≤ wr.heap.size := hbr.size
            have hw4 : w.heap.size ≤ w4.heap.size := HBL.out.size
            clear hall hq hsz hb4r hbr hsor hur hxr
            cases q with
            | true =>
              have hal := HAC.out
              go_wp2_with (at_builtin; refine app_group wr rfl (.tmp 52) (.tmp 54) rfl w.heap.size w4.heap.size _ acc _ (dirW ws) rfl HSR.out HXR.out hw4 rfl rfl (by omega) hwr ?_; intro v2 w7 hso2 hgw)
              go_roundw
              case rel =>
                have e2 : accK s (k + 1) = acc ++ [dirW ws] := by rw [HNX.out, HD.out, stepD_new (fun e => by have := HL5.out; rw [e] at this; simp at this; omega) (by rw [HHD.out]; exact HQ.out)]
                refine ⟨k + 1, by go_num, by omega, Lib.hid (by rw [e2]; exact hso2), Lib.hid (HBR.out.grown hgw hwr fun q hq => (HSR.out.lt hq).1), Lib.hid (sown_beside HUR.out HSR.out hgw)⟩
              case measure => simp [intOf]; omega
            | false =>
              go_wp2
              go_roundw
              case rel =>
                have e2 : accK s (k + 1) = acc := by rw [HNX.out, HD.out, stepD_old (by rw [HHD.out]; exact HQ.out)]
                refine ⟨k + 1, by go_num, by omega, Lib.hid (by rw [e2]; exact HSR.out.tops), HBR, HUR⟩
              case measure => simp [intOf]; omega
      · obtain rfl : ws = [] := List.eq_nil_of_length_eq_zero (by omega)
        obtain ⟨Ax, cx, rfl, _, _, _⟩ := HX.out.form
        have e2 : accK s (k + 1) = acc := by rw [HNX.out, HD.out]; exact stepD_nil _
        have HE := Lib.hid e2
        have hua := HUS.out.below HBA.out (Nat.le_refl _)
        have hsa := HS4.out.below HBA.out (Nat.le_refl _)
        have hba := HBL.out.trans (HBA.out.mono HBL.out.size)
        have HUA := Lib.hid hua; have HSA := Lib.hid hsa; have HBB := Lib.hid hba
        clear e2 hua hsa hba
        simp only [List.length_nil]
        go_wp2
        go_roundw
        case rel => exact ⟨k + 1, by go_num, by omega, Lib.hid (by rw [HE.out]; exact HSA.out.tops), HBB, HUA⟩
        case measure => simp [intOf]; omega
    · have hall : accK s k = parts s := accK_all s (by rw [HPS.out]; omega)
      have hso := HS.out
      rw [hall] at hso
      have HSO9 := Lib.hid hso
      clear hall hso
      go_wp2
      go_ret
      exact ⟨_, rfl, HSO9.out, HBL.out⟩

end Go.Proofs.Ythgpjhblbpiagaa.He
