/-
  Walk of stage 15's law HeaderParts: it returns true.
-/
import Derived.Test.YthgpjhblbpiagaaHeadLaw
import Derived.Test.YthgpjhblbpiagaaHeadLawA
import Derived.Deep.RegionHeld3
import Derived.Deep.QuietTactic
import Derived.BigQuiet
namespace Go.Proofs.Ythgpjhblbpiagaa.He
set_option maxRecDepth 100000
set_option linter.unusedSimpArgs false
set_option linter.unusedVariables false
open Go.RowKit Ba Fm Fo Go.Maps

theorem head_ne {ds : List (List ByteArray)} (h : (heads ds).Nodup) {j i : Nat} (hi : i < ds.length) (hj : j < i) : hd (ds[j]'(by omega)) ≠ hd ds[i] := fun e => by
  have h1 : (heads ds)[j]'(by unfold heads; rw [List.length_map]; omega) = (heads ds)[i]'(by unfold heads; rw [List.length_map]; omega) := by simpa [heads] using e
  exact (List.pairwise_iff_getElem.1 h) j i _ _ hj h1

set_option maxHeartbeats 8000000 in
theorem law_parts15 (s : ByteArray) (hs : s.size ≤ 140737488351232) (w : World) :
    Calls Try.prog 7 #[.string s] w fun e w' => e = .returned (.bool true) ∧ Below w.heap.size w w' := by
  obtain ⟨k, hk1, hk2, -, hmink⟩ := cut_any s.size 500 500 rfl w
  obtain ⟨u, hu⟩ : ∃ u, s.extract 0 k = u := ⟨_, rfl⟩
  have hus : u.size ≤ 500 := by rw [← hu]; exact Nat.le_trans (cut_le s k) hk2
  have HU := Lib.hid hu; clear hu
  go_enter Try.func7, Try.ntmps7
  go_wp2_with fail
  simp only [HU.out]
  refine (parts_any u w (by omega)).mono ?_
  rintro e w1 ⟨v, rfl, hso, hb1⟩
  clear hmink
  obtain ⟨ds, hds⟩ : ∃ ds, parts u = ds := ⟨_, rfl⟩
  rw [hds] at hso
  have hf := hso.form
  obtain ⟨A, c, rfl⟩ := so_ls hso
  have hdl : ds.length ≤ 501 := by have := len_parts u; rw [hds] at this; omega
  have hw : ∀ d ∈ ds, d ≠ [] ∧ lo (hd d) = hd d ∧ ∀ x ∈ d, isW x ∧ wds x = [x] := by rw [← hds]; exact parts_words u
  have hz : ∀ d ∈ ds, d.length ≤ 500 ∧ ∀ x ∈ d, x.size ≤ 500 := fun d hd => by
    rw [← hds] at hd
    obtain ⟨h1, h2⟩ := words_small u d hd
    exact ⟨by omega, fun x hx => by have := h2 x hx; omega⟩
  have hap : (heads ds).Nodup := by rw [← hds]; exact parts_apart u
  obtain ⟨n, hn⟩ : ∃ n, ds.length = n := ⟨_, rfl⟩
  have HF := Lib.hid hf; have HW := Lib.hid hw; have HZ := Lib.hid hz; have HAP := Lib.hid hap; have HB1 := Lib.hid hb1; have HN := Lib.hid hn
  rw [hn] at hdl ⊢
  clear hso hf hw hz hap hb1 hds hn
  go_wp2
  go_loopw [4] (fun i wr => ∃ i0 : Nat, i = .int .i64 i0 ∧ i0 ≤ n ∧ Hid (Below w1.heap.size w1 wr)) (fun i _ => n - (intOf i).toNat)
  case atStart => exact ⟨0, rfl, Nat.zero_le _, Lib.hid (Below.refl _ _)⟩
  case round =>
    obtain ⟨i, rfl, hi, HB⟩ := hrel
    obtain ⟨w7, rfl⟩ : ∃ w7, w7 = wr := ⟨_, rfl⟩
    by_cases hp : i < n
    · have hil : i < ds.length := by rw [HN.out]; exact hp
      obtain ⟨b, off, B1, c1, rfl, hb, hcell, hlc, hrd⟩ := (HF.out.below HB.out (Nat.le_refl _)).at_ (by rw [HN.out] at *; exact hil)
      obtain ⟨d, hd0⟩ : ∃ d, ds[i] = d := ⟨_, rfl⟩
      have hmem : d ∈ ds := by rw [← hd0]; exact List.getElem_mem _
      obtain ⟨hne, hlo, hwd⟩ := HW.out d hmem
      obtain ⟨hdl1, hdx⟩ := HZ.out d hmem
      rw [hd0] at hcell hlc hrd
      have hpos : 0 < d.length := List.length_pos_iff.2 hne
      obtain ⟨bb, oo, rfl, hbb, hcc⟩ := hrd hpos
      have hn0 := hcc 0 hpos
      rw [Nat.add_zero, get_hd hpos] at hn0
      obtain ⟨x, hx⟩ : ∃ x, hd d = x := ⟨_, rfl⟩
      rw [hx] at hn0 hlo
      have hxs : x.size ≤ 140737488355328 := by
        have := hdx (hd d) (by rw [← get_hd hpos]; exact List.getElem_mem _)
        rw [hx] at this
        omega
      obtain ⟨dl, hdle⟩ : ∃ dl, d.length = dl := ⟨_, rfl⟩
      rw [hdle] at hcell hlc hpos hdl1
      have hz0 : ((dl : Int) == 0) = false := by rw [beq_eq_false_iff_ne]; omega
      have hlo2 : B (lowL (L x)) = x := hlo
      have HLO := Lib.hid (fun (wx : World) (hb : Below w7.heap.size w7 wx) => (refLower_any x wx hxs).mono fun e w' ⟨h1, h2⟩ => (show e = Ending.returned (.string x) ∧ Below w7.heap.size w7 w' from ⟨h1.trans (by rw [hlo2]), bt hb h2⟩))
      have hb7 : b < w7.heap.size := Nat.lt_of_lt_of_le hb HB.out.size
      have hbb7 : bb < w7.heap.size := Nat.lt_of_lt_of_le hbb HB.out.size
      have HS := Lib.hid (fun (wx : World) (hb : Below w7.heap.size w7 wx) => show wx.cell? ⟨b, off + i, none⟩ = some (.slice (some ⟨bb, oo, none⟩) dl c1) ∧ wx.cell? ⟨bb, oo, none⟩ = some (.string x) from ⟨(hb.cell (p := ⟨b, off + i, none⟩) hb7).trans hcell, (hb.cell (p := ⟨bb, oo, none⟩) hbb7).trans hn0⟩)
      have HCC := Lib.hid hcc; have HWD := Lib.hid hwd; have HDX := Lib.hid hdx; have HHD := Lib.hid hx; have HDL := Lib.hid hdle; have HD0 := Lib.hid hd0; have HNE := Lib.hid hne
      clear hcc hwd hdx hx hdle hd0 hne hlo hlo2 hrd hmem
      go_wp2
      refine wp_region_noPanic ?_
      refine wp_region_held_drew (S := fun wx => wx.cell? ⟨b, off + i, none⟩ = some (.slice (some ⟨bb, oo, none⟩) dl c1) ∧ wx.cell? ⟨bb, oo, none⟩ = some (.string x)) (by kernel_rfl) ?_ (fun hHeld => ?_)
      · exact HS.out _ (bel_eq (Below.refl _ w7) rfl rfl rfl rfl)
      refine wpAnyH_take (i := 0) (oi := _) (v := ?_) rfl (by kernel_rfl) (by kernel_rfl) (by kernel_rfl) (fun _ _ _ h => h) (Or.inl ⟨by rfl, ?_⟩) (by assumption) ?_
      rotate_left
      · intro w hSw; (try dsimp only at hSw); go_simp; all_goals with_reducible rfl
      try simp only [Act.put, List.getElem_toArray, List.getElem_cons_zero, List.getElem_cons_succ, List.setIfInBounds_toArray, List.set_cons_zero, List.set_cons_succ]
      refine wpAnyH_take (i := 1) (oi := _) (v := ?_) rfl (by kernel_rfl) (by kernel_rfl) (by kernel_rfl) (fun _ _ _ h => h) (Or.inl ⟨by rfl, ?_⟩) (by assumption) ?_
      rotate_left
      · intro w hSw; (try dsimp only at hSw); go_simp; all_goals with_reducible rfl
      try simp only [Act.put, List.getElem_toArray, List.getElem_cons_zero, List.getElem_cons_succ, List.setIfInBounds_toArray, List.set_cons_zero, List.set_cons_succ]
      refine wpAnyH_take (i := 2) (oi := _) (v := ?_) rfl (by kernel_rfl) (by kernel_rfl) (by kernel_rfl) (fun _ _ _ h => h) (Or.inl ⟨by rfl, ?_⟩) (by assumption) ?_
      rotate_left
      · intro w hSw; (try dsimp only at hSw); go_simp; all_goals with_reducible rfl
      try simp only [Act.put, List.getElem_toArray, List.getElem_cons_zero, List.getElem_cons_succ, List.setIfInBounds_toArray, List.set_cons_zero, List.set_cons_succ]
      refine wpAnyH_take (i := 3) (oi := _) (v := ?_) rfl (by kernel_rfl) (by kernel_rfl) (by kernel_rfl) (fun _ _ _ h => h) (Or.inl ⟨by rfl, ?_⟩) (by assumption) ?_
      rotate_left
      · intro w hSw; (try dsimp only at hSw); go_simp; all_goals with_reducible rfl
      try simp only [Act.put, List.getElem_toArray, List.getElem_cons_zero, List.getElem_cons_succ, List.setIfInBounds_toArray, List.set_cons_zero, List.set_cons_succ]
      refine wpAnyH_take (i := 4) (oi := _) (v := ?_) rfl (by kernel_rfl) (by kernel_rfl) (by kernel_rfl) (fun _ _ _ h => h) (Or.inl ⟨by rfl, ?_⟩) (by assumption) ?_
      rotate_left
      · intro w hSw; (try dsimp only at hSw); go_simp; all_goals with_reducible rfl
      try simp only [Act.put, List.getElem_toArray, List.getElem_cons_zero, List.getElem_cons_succ, List.setIfInBounds_toArray, List.set_cons_zero, List.set_cons_succ]
      refine wpAnyH_take (i := 5) (oi := _) (v := ?_) rfl (by kernel_rfl) (by kernel_rfl) (by kernel_rfl) (fun _ _ _ h => h) (Or.inl ⟨by rfl, ?_⟩) (by assumption) ?_
      rotate_left
      · intro w hSw; (try dsimp only at hSw); go_simp; all_goals with_reducible rfl
      try simp only [Act.put, List.getElem_toArray, List.getElem_cons_zero, List.getElem_cons_succ, List.setIfInBounds_toArray, List.set_cons_zero, List.set_cons_succ]
      refine wpAnyH_take (i := 6) (oi := _) (v := ?_) rfl (by kernel_rfl) (by kernel_rfl) (by kernel_rfl) (fun _ _ _ h => h) (Or.inl ⟨by rfl, ?_⟩) (by assumption) ?_
      rotate_left
      · intro w hSw; (try dsimp only at hSw); go_simp; all_goals with_reducible rfl
      try simp only [Act.put, List.getElem_toArray, List.getElem_cons_zero, List.getElem_cons_succ, List.setIfInBounds_toArray, List.set_cons_zero, List.set_cons_succ]
      refine wpAnyH_take (i := 7) (oi := _) (v := ?_) rfl (by kernel_rfl) (by kernel_rfl) (by kernel_rfl) (fun _ _ _ h => h) (Or.inl ⟨by rfl, ?_⟩) (by assumption) ?_
      rotate_left
      · intro w hSw; (try dsimp only at hSw); go_simp; all_goals with_reducible rfl
      try simp only [Act.put, List.getElem_toArray, List.getElem_cons_zero, List.getElem_cons_succ, List.setIfInBounds_toArray, List.set_cons_zero, List.set_cons_succ]
      refine wpAnyH_take (i := 8) (oi := _) (v := ?_) rfl (by kernel_rfl) (by kernel_rfl) (by kernel_rfl) (fun _ _ _ h => h) (Or.inl ⟨by rfl, ?_⟩) (by assumption) ?_
      rotate_left
      · intro w hSw; (try dsimp only at hSw); go_simp; all_goals with_reducible rfl
      try simp only [Act.put, List.getElem_toArray, List.getElem_cons_zero, List.getElem_cons_succ, List.setIfInBounds_toArray, List.set_cons_zero, List.set_cons_succ]
      refine wpAnyH_take (i := 9) (oi := _) (v := ?_) rfl (by kernel_rfl) (by kernel_rfl) (by kernel_rfl) (fun _ _ _ h => h) (Or.inl ⟨by rfl, ?_⟩) (by assumption) ?_
      rotate_left
      · intro w hSw; (try dsimp only at hSw); go_simp; all_goals with_reducible rfl
      try simp only [Act.put, List.getElem_toArray, List.getElem_cons_zero, List.getElem_cons_succ, List.setIfInBounds_toArray, List.set_cons_zero, List.set_cons_succ]
      refine wpAnyH_take (i := 10) (oi := _) (v := ?_) rfl (by kernel_rfl) (by kernel_rfl) (by kernel_rfl) (fun _ _ _ h => h) (Or.inl ⟨by rfl, ?_⟩) (by assumption) ?_
      rotate_left
      · intro w hSw; (try dsimp only at hSw); go_simp; all_goals with_reducible rfl
      try simp only [Act.put, List.getElem_toArray, List.getElem_cons_zero, List.getElem_cons_succ, List.setIfInBounds_toArray, List.set_cons_zero, List.set_cons_succ]
      refine wpAnyH_take (i := 11) (oi := _) (v := ?_) rfl (by kernel_rfl) (by kernel_rfl) (by kernel_rfl) (fun _ _ _ h => h) (Or.inl ⟨by rfl, ?_⟩) (by assumption) ?_
      rotate_left
      · intro w hSw; (try dsimp only at hSw); go_simp; all_goals with_reducible rfl
      try simp only [Act.put, List.getElem_toArray, List.getElem_cons_zero, List.getElem_cons_succ, List.setIfInBounds_toArray, List.set_cons_zero, List.set_cons_succ]
      refine wpAnyH_take (i := 12) (oi := _) (v := ?_) rfl (by kernel_rfl) (by kernel_rfl) (by kernel_rfl) (fun _ _ _ h => h) (Or.inl ⟨by rfl, ?_⟩) (by assumption) ?_
      rotate_left
      · intro w hSw; (try dsimp only at hSw); go_simp; all_goals with_reducible rfl
      try simp only [Act.put, List.getElem_toArray, List.getElem_cons_zero, List.getElem_cons_succ, List.setIfInBounds_toArray, List.set_cons_zero, List.set_cons_succ]
      refine wpAnyH_take (i := 14) (oi := _) (v := ?_) rfl (by kernel_rfl) (by kernel_rfl) (by kernel_rfl) (fun _ _ _ h => h) (Or.inl ⟨by rfl, ?_⟩) (by assumption) ?_
      rotate_left
      · intro w hSw; (try dsimp only at hSw); go_simp; all_goals with_reducible rfl
      try simp only [Act.put, List.getElem_toArray, List.getElem_cons_zero, List.getElem_cons_succ, List.setIfInBounds_toArray, List.set_cons_zero, List.set_cons_succ]
      refine wpAnyH_take (i := 15) (oi := _) (v := ?_) rfl (by kernel_rfl) (by kernel_rfl) (by kernel_rfl) (fun _ _ _ h => h) (Or.inl ⟨by rfl, ?_⟩) (by assumption) ?_
      rotate_left
      · intro w hSw; (try dsimp only at hSw); go_simp; all_goals with_reducible rfl
      try simp only [Act.put, List.getElem_toArray, List.getElem_cons_zero, List.getElem_cons_succ, List.setIfInBounds_toArray, List.set_cons_zero, List.set_cons_succ]
      refine wpAnyH_take (i := 16) (oi := _) (v := ?_) rfl (by kernel_rfl) (by kernel_rfl) (by kernel_rfl) (fun _ _ _ h => h) (Or.inl ⟨by rfl, ?_⟩) (by assumption) ?_
      rotate_left
      · intro w hSw; (try dsimp only at hSw); go_simp; all_goals with_reducible rfl
      try simp only [Act.put, List.getElem_toArray, List.getElem_cons_zero, List.getElem_cons_succ, List.setIfInBounds_toArray, List.set_cons_zero, List.set_cons_succ]
      refine wpAnyH_take (i := 17) (oi := _) (v := ?_) rfl (by kernel_rfl) (by kernel_rfl) (by kernel_rfl) (fun _ _ _ h => h) (Or.inl ⟨by rfl, ?_⟩) (by assumption) ?_
      rotate_left
      · intro w hSw; (try dsimp only at hSw); go_simp; all_goals with_reducible rfl
      try simp only [Act.put, List.getElem_toArray, List.getElem_cons_zero, List.getElem_cons_succ, List.setIfInBounds_toArray, List.set_cons_zero, List.set_cons_succ]
      refine wpAnyH_take (i := 18) (oi := _) (v := ?_) rfl (by kernel_rfl) (by kernel_rfl) (by kernel_rfl) (fun _ _ _ h => h) (Or.inl ⟨by rfl, ?_⟩) (by assumption) ?_
      rotate_left
      · intro w hSw; (try dsimp only at hSw); go_simp; all_goals with_reducible rfl
      try simp only [Act.put, List.getElem_toArray, List.getElem_cons_zero, List.getElem_cons_succ, List.setIfInBounds_toArray, List.set_cons_zero, List.set_cons_succ]
      refine wpAnyH_take (i := 19) (oi := _) (v := ?_) rfl (by kernel_rfl) (by kernel_rfl) (by kernel_rfl) (fun _ _ _ h => h) (Or.inl ⟨by rfl, ?_⟩) (by assumption) ?_
      rotate_left
      · intro w hSw; (try dsimp only at hSw); go_simp; all_goals with_reducible rfl
      try simp only [Act.put, List.getElem_toArray, List.getElem_cons_zero, List.getElem_cons_succ, List.setIfInBounds_toArray, List.set_cons_zero, List.set_cons_succ]
      refine wpAnyH_ready (rs := [13]) (by kernel_rfl) (by simp) ?_
      refine AllReadyH.cons (o := _) rfl (fun K hK => ?_) AllReadyH.nil
      go_simp
      go_at_call 19
      refine (HLO.out _ (by exact bel_eq (Below.refl _ w7) rfl rfl rfl rfl)).mono ?_
      rintro e x1 ⟨rfl, hbx⟩
      have HX1 := Lib.hid hbx; clear hbx
      go_wp2_with fail
      refine hK.out _ _ ?_ (fun hHeld => ?_)
      · exact HS.out _ (bel_eq HX1.out rfl rfl rfl rfl)
      clear hK K
      try simp only [Act.put, List.getElem_toArray, List.getElem_cons_zero, List.getElem_cons_succ, List.setIfInBounds_toArray, List.set_cons_zero, List.set_cons_succ]
      refine wpAnyH_take (i := 20) (oi := _) (v := ?_) rfl (by kernel_rfl) (by kernel_rfl) (by kernel_rfl) (fun _ _ _ h => h) (Or.inl ⟨by rfl, ?_⟩) (by assumption) ?_
      rotate_left
      · intro w hSw; (try dsimp only at hSw); go_simp; all_goals with_reducible rfl
      try simp only [Act.put, List.getElem_toArray, List.getElem_cons_zero, List.getElem_cons_succ, List.setIfInBounds_toArray, List.set_cons_zero, List.set_cons_succ]
      refine wpAnyH_take (i := 21) (oi := _) (v := ?_) rfl (by kernel_rfl) (by kernel_rfl) (by kernel_rfl) (fun _ _ _ h => h) (Or.inl ⟨by rfl, ?_⟩) (by assumption) ?_
      rotate_left
      · intro w hSw; (try dsimp only at hSw); go_simp; all_goals with_reducible rfl
      try simp only [Act.put, List.getElem_toArray, List.getElem_cons_zero, List.getElem_cons_succ, List.setIfInBounds_toArray, List.set_cons_zero, List.set_cons_succ]
      refine wpAnyH_done (by kernel_rfl) ?_ _
      refine NoPanic.normal ?_
      go_upto_region 8 with (fail)
      obtain ⟨w5, hw5⟩ : ∃ w5, x1 = w5 := ⟨_, rfl⟩
      have hb5 : Below w7.heap.size w7 w5 := hw5 ▸ HX1.out
      rw [hw5]
      have HB5 := Lib.hid hb5
      clear hw5 hb5
      clear hcell hn0 hz0
      go_wp2
      go_loopw [5] (fun k wi => ∃ k0 : Nat, k = .int .i64 k0 ∧ k0 ≤ dl ∧ Hid (Below w7.heap.size w7 wi)) (fun k _ => dl - (intOf k).toNat)
      case atStart => exact ⟨0, rfl, Nat.zero_le _, HB5⟩
      case round =>
        obtain ⟨k0, rfl, hk0, HBI⟩ := hrel
        obtain ⟨w6, rfl⟩ : ∃ w6, w6 = wr := ⟨_, rfl⟩
        obtain ⟨hcell, hn0⟩ := HS.out w6 HBI.out
        by_cases hkd : k0 < dl
        · have hkl : k0 < d.length := by rw [HDL.out]; exact hkd
          have hwc := HCC.out k0 hkl
          obtain ⟨y, hy⟩ : ∃ y, d[k0] = y := ⟨_, rfl⟩
          have hym : y ∈ d := by rw [← hy]; exact List.getElem_mem _
          rw [hy] at hwc
          have hwc6 : w6.cell? ⟨bb, oo + k0, none⟩ = some (.string y) := (HBI.out.cell (p := ⟨bb, oo + k0, none⟩) hbb7).trans hwc
          obtain ⟨hyw, hyd⟩ := HWD.out y hym
          have hys := HDX.out y hym
          have hem : y.toList.isEmpty = false := by
            rw [toList_L]
            cases hl : L y with
            | nil => exact absurd hl hyw.1
            | cons a b => rfl
          have hem' : ¬ y.toList = [] := by rw [toList_L]; exact hyw.1
          have HYD := Lib.hid hyd
          clear hwc hy hym hyw hyd hn0
          go_wp2_with fail
          refine (refWords_any y w6 (by omega)).mono ?_
          rintro e w4 ⟨v4, rfl, ho4, hb4⟩
          rw [HYD.out] at ho4
          obtain ⟨A4, c4, rfl, _, _, _⟩ := ho4.form
          simp only [List.length_singleton]
          have HB4 := Lib.hid (bt HBI.out hb4)
          clear ho4 hb4
          go_wp2
          go_roundw
          case rel => exact ⟨k0 + 1, by go_num, by omega, HB4⟩
          case measure => simp [intOf]; omega
        · go_wp2
          go_loopw [6] (fun k wi => ∃ j : Nat, k = .int .i64 j ∧ j ≤ i ∧ Hid (Below w7.heap.size w7 wi)) (fun k _ => i - (intOf k).toNat)
          case atStart => exact ⟨0, rfl, Nat.zero_le _, HBI⟩
          case round =>
            obtain ⟨j, rfl, hj, HBJ⟩ := hrel
            obtain ⟨w3, rfl⟩ : ∃ w3, w3 = wr := ⟨_, rfl⟩
            clear hcell hn0
            obtain ⟨hcell, hn0⟩ := HS.out w3 HBJ.out
            by_cases hji : j < i
            · obtain ⟨b', off', Bj, cj, e1, hbj, hcellj, hlcj, hrdj⟩ := (HF.out.below HB.out (Nat.le_refl _)).at_ (j := j) (by rw [HN.out]; omega)
              injection e1 with e1
              injection e1 with e1 e2
              subst e1 e2
              obtain ⟨dj, hdj⟩ : ∃ dj, ds[j]'(by rw [HN.out]; omega) = dj := ⟨_, rfl⟩
              rw [hdj] at hcellj hlcj hrdj
              obtain ⟨hnej, _, _⟩ := HW.out dj (by rw [← hdj]; exact List.getElem_mem _)
              have hposj : 0 < dj.length := List.length_pos_iff.2 hnej
              obtain ⟨bj, oj, rfl, hbbj, hccj⟩ := hrdj hposj
              have hnj := hccj 0 hposj
              rw [Nat.add_zero, get_hd hposj] at hnj
              obtain ⟨xj, hxj⟩ : ∃ xj, hd dj = xj := ⟨_, rfl⟩
              rw [hxj] at hnj
              have hap := head_ne HAP.out (j := j) (i := i) (by rw [HN.out]; omega) hji
              rw [hdj, HD0.out, hxj, HHD.out] at hap
              have heq := eq_of_toList (a := xj) (b := x)
              rw [decide_eq_false hap] at heq
              have c1j : w3.cell? ⟨b, off + j, none⟩ = some (.slice (some ⟨bj, oj, none⟩) dj.length cj) := (HBJ.out.cell (p := ⟨b, off + j, none⟩) hb7).trans hcellj
              have c2j : w3.cell? ⟨bj, oj, none⟩ = some (.string xj) := (HBJ.out.cell (p := ⟨bj, oj, none⟩) (Nat.lt_of_lt_of_le hbbj HB.out.size)).trans hnj
              obtain ⟨dlj, hdlj⟩ : ∃ dlj, dj.length = dlj := ⟨_, rfl⟩
              rw [hdlj] at c1j hposj
              have hj0 : (0 : Int) ≤ (j : Int) := by omega
              have hj1 : (j : Int) < (n : Int) := by omega
              have hi1 : (i : Int) < (n : Int) := by omega
              clear hcellj hlcj hrdj hccj hnj hxj hap hdj hnej hdlj hbbj hbj
              go_wp2
              go_quiet (fail)
              go_wp2
              go_roundw
              case rel => exact ⟨j + 1, by go_num, by omega, Lib.hid (below_dN HBJ.out _)⟩
              case measure => simp [intOf]; omega
            · go_wp2
              go_roundw
              case rel => exact ⟨i + 1, by go_num, by omega, Lib.hid (HB.out.trans (HBJ.out.mono HB.out.size))⟩
              case measure => simp [intOf]; omega
    · go_wp2_with fail
      refine (fixed15_any w7).mono ?_
      rintro e w8 ⟨rfl, hb⟩
      go_wp2
      go_ret
      exact ⟨rfl, bt (HB1.out.trans (HB.out.mono HB1.out.size)) hb⟩

end Go.Proofs.Ythgpjhblbpiagaa.He
