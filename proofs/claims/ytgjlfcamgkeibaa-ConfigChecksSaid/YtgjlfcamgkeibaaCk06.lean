/-
  Stage 12: ConfigChecks.
-/
import Derived.Test.YtgjlfcamgkeibaaCk04
import Derived.Test.YtgjlfcamgkeibaaCk05
import Derived.Test.YtgjlfcamgkeibaaCk02
import Derived.Deep.RegionHeld3
import Derived.Deep.CutRange
namespace Go.Proofs.Ytgjlfcamgkeibaa.Co
set_option maxRecDepth 100000
set_option linter.unusedVariables false
set_option linter.unusedSimpArgs false
open Go.RowKit Ba Fm Fo Nm Rk
theorem sm_strip70 {c : Cf} (h : Sm c) (hl : c.els.length ≤ 70) : Sm (stripC c) :=
  ⟨Nat.le_trans (len_strip c) (by omega), Nat.le_trans (List.length_filter_le _ _) h.r, h.a, h.p, h.pa, fun s hs => (mem_strip hs).elim (h.es s) (small_never s), fun s hs => h.rs s (mem_mns.1 hs).1, h.as_, h.ps⟩
set_option maxRecDepth 100000 in
set_option maxHeartbeats 40000000 in
theorem law_checks (v : Value) (c : Cf) (w : World) (h : Cv w w.heap.size v c) (hst : St c) :
    Calls Try.prog 4 #[v] w fun r w' => r = .returned (.bool true) ∧ Below w.heap.size w w' := by
  obtain ⟨d, hd⟩ : ∃ d, boundC c = d := ⟨_, rfl⟩
  have hsm := sm_bound hst
  rw [hd] at hsm
  obtain ⟨uE, uR, uA, uP, lu, rfl, h⟩ := h
  obtain ⟨E0, e0, k0, rfl⟩ := sv_shape h.e
  obtain ⟨R0, r0, k1, rfl⟩ := sv_shape h.r
  obtain ⟨T0, t0, k2, rfl⟩ := sv_shape h.a
  obtain ⟨P0, p0, k3, rfl⟩ := pv_shape h.p
  have hbd := fun wx hc => bound12 (confV c (.slice E0 e0 k0) (.slice R0 r0 k1) (.slice T0 t0 k2) (.slice P0 p0 k3)) c wx hc
  rw [hd] at hbd
  have HB0 := Lib.hid (below_new12 w (confO c (.slice E0 e0 k0) (.slice R0 r0 k1) (.slice T0 t0 k2) (.slice P0 p0 k3)))
  have HBD := Lib.hid (hbd (w.alloc (confO c (.slice E0 e0 k0) (.slice R0 r0 k1) (.slice T0 t0 k2) (.slice P0 p0 k3))) ⟨_, _, _, _, _, rfl, h.on HB0.out⟩)
  have HX0 := Lib.hid (Hb.new w #[.bool c.allow, .bool c.attrsAllow, .slice E0 e0 k0, .slice R0 r0 k1, .slice T0 t0 k2, .slice P0 p0 k3, .bool c.comments, .bool c.dataAttrs])
  have HSM := Lib.hid hsm; have HD := Lib.hid hd
  clear hd hsm hst h hbd
  go_enter Try.func4, Try.ntmps4
  go_upto_region 2 with (first
    | (go_at_call 6; refine HBD.out.mono ?_; rintro r w1 ⟨v1, rfl, hc1, hb1⟩; obtain ⟨vE, vR, vA, vP, l, rfl, hc1⟩ := hc1; obtain ⟨A1, n1, c1, rfl⟩ := sv_shape hc1.e; obtain ⟨A2, n2, c2, rfl⟩ := sv_shape hc1.r; obtain ⟨A3, n3, c3, rfl⟩ := sv_shape hc1.a; obtain ⟨A4, n4, c4, rfl⟩ := pv_shape hc1.p; have hx1 := HX0.out.on hb1; have HTH := Lib.hid (hx1.there 8 rfl); have HX1 := Lib.hid hx1; have HC1 := Lib.hid hc1; have HB1 := Lib.hid hb1; clear hx1 hc1 hb1)
    | (show wpList _ _ _ (⟨none, Op.store 26 (.tmp 1) (.tmp 9), _, _, _, _⟩ :: _) _ _; refine wpList_store_mid rfl 26 (.tmp 1) (.tmp 9) rfl w.heap.size 0 #[.bool d.allow, .bool d.attrsAllow, .slice A1 n1 c1, .slice A2 n2 c2, .slice A3 n3 c3, .slice A4 n4 c4, .bool d.comments, .bool d.dataAttrs] rfl rfl HTH.out size_conf (by simp [Value.oneCell']) ?_))
  obtain ⟨W1, hW1, hg1, hh1⟩ := res_hb HX1.out rfl (.bool d.allow) (.bool d.attrsAllow) (.slice A1 n1 c1) (.slice A2 n2 c2) (.slice A3 n3 c3) (.slice A4 n4 c4) (.bool d.comments) (.bool d.dataAttrs)
  rw [← hW1]
  have hcW := cp_boxed HC1.out HX1.out (noStr8 _ _ _ _ _ _ _ _ _ _ _ _ _ _ _ _) hg1
  have hbW : Below w.heap.size w W1 := (HB0.out.trans (HB1.out.mono HB0.out.size)).grown hg1 (Nat.le_trans HB0.out.size HB1.out.size) (fun q hq => by injection hq with hq; omega)
  have hzW : w.heap.size < W1.heap.size := hh1.lt
  clear hW1 hg1 HTH HX1 HC1 HB1 HX0 HB0 HBD
  have HCB := Lib.hid (fun wx (hb : Below W1.heap.size W1 wx) => (show Cv wx wx.heap.size (confV d (.slice A1 n1 c1) (.slice A2 n2 c2) (.slice A3 n3 c3) (.slice A4 n4 c4)) d from ⟨_, _, _, _, _, rfl, hcW.on hb⟩))
  have HBL := Lib.hid (fun wx (hb : Below W1.heap.size W1 wx) => show (wx.cell? ⟨w.heap.size, 0, none⟩ = some (.bool d.allow) ∧ wx.cell? ⟨w.heap.size, 1, none⟩ = some (.bool d.attrsAllow) ∧ wx.cell? ⟨w.heap.size, 2, none⟩ = some (.slice A1 n1 c1) ∧ wx.cell? ⟨w.heap.size, 3, none⟩ = some (.slice A2 n2 c2) ∧ wx.cell? ⟨w.heap.size, 4, none⟩ = some (.slice A3 n3 c3) ∧ wx.cell? ⟨w.heap.size, 5, none⟩ = some (.slice A4 n4 c4) ∧ wx.cell? ⟨w.heap.size, 6, none⟩ = some (.bool d.comments) ∧ wx.cell? ⟨w.heap.size, 7, none⟩ = some (.bool d.dataAttrs)) from ⟨(hh1.on hb).cell 0 _ rfl, (hh1.on hb).cell 1 _ rfl, (hh1.on hb).cell 2 _ rfl, (hh1.on hb).cell 3 _ rfl, (hh1.on hb).cell 4 _ rfl, (hh1.on hb).cell 5 _ rfl, (hh1.on hb).cell 6 _ rfl, (hh1.on hb).cell 7 _ rfl⟩)
  have HBW := Lib.hid hbW; have HSC := Lib.hid (sm_canon HSM.out (by rw [← HD.out]; show ((c.per.take 12).map _).length ≤ 12; rw [List.length_map, List.length_take]; omega)); have HSS := Lib.hid (sm_strip70 HSM.out (by rw [← HD.out]; show (c.els.take 70).length ≤ 70; rw [List.length_take]; omega))
  clear hcW hbW hzW hh1
  go_upto_region 2 with (fail)
  try simp only [Act.put, List.getElem_toArray, List.getElem_cons_zero, List.getElem_cons_succ, List.setIfInBounds_toArray, List.set_cons_zero, List.set_cons_succ]
  go_cut [3, 4] from 8 to 13 (fun ux uy wx => ∃ (qxr qyr : Nat) (xrE : Option Addr) (nExr kExr : Nat) (xrR : Option Addr) (nRxr kRxr : Nat) (xrA : Option Addr) (nAxr kAxr : Nat) (xrP : Option Addr) (nPxr kPxr : Nat) (yrE : Option Addr) (nEyr kEyr : Nat) (yrR : Option Addr) (nRyr kRyr : Nat) (yrA : Option Addr) (nAyr kAyr : Nat) (yrP : Option Addr) (nPyr kPyr : Nat) (lxr lyr : List Pw), ux = .pointer (some ⟨qxr, 0, none⟩) ∧ uy = .pointer (some ⟨qyr, 0, none⟩) ∧ W1.heap.size ≤ qxr ∧ W1.heap.size ≤ qyr ∧ Hb wx qxr #[.bool d.allow, .bool d.attrsAllow, .slice xrE nExr kExr, .slice xrR nRxr kRxr, .slice xrA nAxr kAxr, .slice xrP nPxr kPxr, .bool d.comments, .bool d.dataAttrs] ∧ Hb wx qyr #[.bool d.allow, .bool d.attrsAllow, .slice yrE nEyr kEyr, .slice yrR nRyr kRyr, .slice yrA nAyr kAyr, .slice yrP nPyr kPyr, .bool d.comments, .bool d.dataAttrs] ∧ Cp wx wx.heap.size (canonC d) (.slice xrE nExr kExr) (.slice xrR nRxr kRxr) (.slice xrA nAxr kAxr) (.slice xrP nPxr kPxr) lxr ∧ Cp wx wx.heap.size (stripC d) (.slice yrE nEyr kEyr) (.slice yrR nRyr kRyr) (.slice yrA nAyr kAyr) (.slice yrP nPyr kPyr) lyr ∧ Below W1.heap.size W1 wx)
  case first =>
    go_wp2_with fail
    refine wp_region_noPanic ?_
    refine wp_region_held_drew (S := fun wx => (wx.cell? ⟨w.heap.size, 0, none⟩ = some (.bool d.allow) ∧ wx.cell? ⟨w.heap.size, 1, none⟩ = some (.bool d.attrsAllow) ∧ wx.cell? ⟨w.heap.size, 2, none⟩ = some (.slice A1 n1 c1) ∧ wx.cell? ⟨w.heap.size, 3, none⟩ = some (.slice A2 n2 c2) ∧ wx.cell? ⟨w.heap.size, 4, none⟩ = some (.slice A3 n3 c3) ∧ wx.cell? ⟨w.heap.size, 5, none⟩ = some (.slice A4 n4 c4) ∧ wx.cell? ⟨w.heap.size, 6, none⟩ = some (.bool d.comments) ∧ wx.cell? ⟨w.heap.size, 7, none⟩ = some (.bool d.dataAttrs))) (by kernel_rfl) ?_ (fun hHeld => ?_)
    · exact HBL.out _ (show Below W1.heap.size W1 W1.drew from bel_eq12 (Below.refl _ W1) rfl rfl rfl rfl)
    refine wpAnyH_take (i := 0) (oi := _) (v := ?_) rfl (by kernel_rfl) (by kernel_rfl) (by kernel_rfl) (fun _ _ _ h => h) (Or.inl ⟨by rfl, ?_⟩) (by assumption) ?_
    rotate_left
    · intro w hSw; (try dsimp only at hSw); go_simp; all_goals with_reducible rfl
    try simp only [Act.put, List.getElem_toArray, List.getElem_cons_zero, List.getElem_cons_succ, List.setIfInBounds_toArray, List.set_cons_zero, List.set_cons_succ]
    refine wpAnyH_take (i := 2) (oi := _) (v := ?_) rfl (by kernel_rfl) (by kernel_rfl) (by kernel_rfl) (fun _ _ _ h => h) (Or.inl ⟨by rfl, ?_⟩) (by assumption) ?_
    rotate_left
    · intro w hSw; (try dsimp only at hSw); go_simp; all_goals with_reducible rfl
    try simp only [Act.put, List.getElem_toArray, List.getElem_cons_zero, List.getElem_cons_succ, List.setIfInBounds_toArray, List.set_cons_zero, List.set_cons_succ]
    refine wpAnyH_ready (rs := [1, 4, 5]) (by kernel_rfl) (by simp) ?_
    refine AllReadyH.cons (o := _) rfl (fun K hK => ?_) (AllReadyH.cons (o := _) rfl (fun K hK => ?_) (AllReadyH.cons (o := _) rfl (fun K hK => ?_) (AllReadyH.nil)))
    · go_simp
      go_at_call 15
      refine (refCanon12 (confV d (.slice A1 n1 c1) (.slice A2 n2 c2) (.slice A3 n3 c3) (.slice A4 n4 c4)) d W1.drew (HCB.out _ (show Below W1.heap.size W1 W1.drew from bel_eq12 (Below.refl _ W1) rfl rfl rfl rfl)) HSM.out).mono ?_
      rintro r uxr ⟨vxr, rfl, ho, hc⟩
      obtain ⟨vE, vR, vA, vP, lxr, rfl, ho⟩ := ho
      obtain ⟨xrE, nExr, kExr, rfl⟩ := sv_shape ho.e
      obtain ⟨xrR, nRxr, kRxr, rfl⟩ := sv_shape ho.r
      obtain ⟨xrA, nAxr, kAxr, rfl⟩ := sv_shape ho.a
      obtain ⟨xrP, nPxr, kPxr, rfl⟩ := pv_shape ho.p
      have HCxr := Lib.hid (show Below W1.heap.size W1 uxr from Below.trans (show Below W1.heap.size W1 W1.drew from bel_eq12 (Below.refl _ W1) rfl rfl rfl rfl) (Below.mono hc ((show Below W1.heap.size W1 W1.drew from bel_eq12 (Below.refl _ W1) rfl rfl rfl rfl)).size))
      have HOxr := Lib.hid (show Cp uxr uxr.heap.size (canonC d) _ _ _ _ lxr from ho)
      clear hc ho
      go_wp2_with fail
      refine hK.out _ _ ?_ (fun hHeld => ?_)
      · exact HBL.out _ HCxr.out
      clear hK K
      try simp only [Act.put, List.getElem_toArray, List.getElem_cons_zero, List.getElem_cons_succ, List.setIfInBounds_toArray, List.set_cons_zero, List.set_cons_succ]
      refine wpAnyH_ready (rs := [3, 4, 5]) (by kernel_rfl) (by simp) ?_
      refine AllReadyH.cons (o := _) rfl (fun K hK => ?_) (AllReadyH.cons (o := _) rfl (fun K hK => ?_) (AllReadyH.cons (o := _) rfl (fun K hK => ?_) (AllReadyH.nil)))
      · go_simp
        go_at_call 16
        refine (refStrip12 (confV d (.slice A1 n1 c1) (.slice A2 n2 c2) (.slice A3 n3 c3) (.slice A4 n4 c4)) d uxr (HCB.out _ HCxr.out) HSM.out).mono ?_
        rintro r uyr ⟨vyr, rfl, ho, hc⟩
        obtain ⟨vE, vR, vA, vP, lyr, rfl, ho⟩ := ho
        obtain ⟨yrE, nEyr, kEyr, rfl⟩ := sv_shape ho.e
        obtain ⟨yrR, nRyr, kRyr, rfl⟩ := sv_shape ho.r
        obtain ⟨yrA, nAyr, kAyr, rfl⟩ := sv_shape ho.a
        obtain ⟨yrP, nPyr, kPyr, rfl⟩ := pv_shape ho.p
        have HCyr := Lib.hid (show Below W1.heap.size W1 uyr from Below.trans HCxr.out (Below.mono hc (HCxr.out).size))
        have HOyr := Lib.hid (show Cp uyr uyr.heap.size (stripC d) _ _ _ _ lyr from ho)
        have HOxr := Lib.hid (HOxr.out.on hc)
        clear hc ho
        go_wp2_with fail
        refine hK.out _ _ ?_ (fun hHeld => ?_)
        · exact HBL.out _ HCyr.out
        clear hK K
        try simp only [Act.put, List.getElem_toArray, List.getElem_cons_zero, List.getElem_cons_succ, List.setIfInBounds_toArray, List.set_cons_zero, List.set_cons_succ]
        refine wpAnyH_ready (rs := [4, 5]) (by kernel_rfl) (by simp) ?_
        refine AllReadyH.cons (o := _) rfl (fun K hK => ?_) (AllReadyH.cons (o := _) rfl (fun K hK => ?_) (AllReadyH.nil))
        · go_simp
          refine hK.out _ _ ?_ (fun hHeld => ?_)
          · exact HBL.out _ ((HCyr.out).alloc (HCyr.out).size _)
          clear hK K
          try simp only [Act.put, List.getElem_toArray, List.getElem_cons_zero, List.getElem_cons_succ, List.setIfInBounds_toArray, List.set_cons_zero, List.set_cons_succ]
          have hal : Below W1.heap.size W1 (uyr.alloc (.cells #[.bool false, .bool false, .slice none 0 0, .slice none 0 0, .slice none 0 0, .slice none 0 0, .bool false, .bool false] 26)) := (HCyr.out).alloc (HCyr.out).size _
          have hhb : Hb (uyr.alloc (.cells #[.bool false, .bool false, .slice none 0 0, .slice none 0 0, .slice none 0 0, .slice none 0 0, .bool false, .bool false] 26)) uyr.heap.size #[.bool false, .bool false, .slice none 0 0, .slice none 0 0, .slice none 0 0, .slice none 0 0, .bool false, .bool false] := Hb.new uyr _
          have hbn : Below uyr.heap.size uyr (uyr.alloc (.cells #[.bool false, .bool false, .slice none 0 0, .slice none 0 0, .slice none 0 0, .slice none 0 0, .bool false, .bool false] 26)) := below_new12 uyr _
          have hlq : W1.heap.size ≤ uyr.heap.size := (HCyr.out).size
          replace HOxr := Lib.hid (HOxr.out.on hbn)
          replace HOyr := Lib.hid (HOyr.out.on hbn)
          generalize hwk : (uyr.alloc (.cells #[.bool false, .bool false, .slice none 0 0, .slice none 0 0, .slice none 0 0, .slice none 0 0, .bool false, .bool false] 26)) = wxr2 at *
          generalize hqk : uyr.heap.size = qxr at *
          have HQxr := Lib.hid hhb; have HLxr := Lib.hid hlq; have HAwxr2 := Lib.hid hal
          clear hhb hlq hal hbn
          refine wpAnyH_ready (rs := [5]) (by kernel_rfl) (by simp) ?_
          refine AllReadyH.cons (o := _) rfl (fun K hK => ?_) (AllReadyH.nil)
          · go_simp
            refine hK.out _ _ ?_ (fun hHeld => ?_)
            · exact HBL.out _ ((HAwxr2.out).alloc (HAwxr2.out).size _)
            clear hK K
            try simp only [Act.put, List.getElem_toArray, List.getElem_cons_zero, List.getElem_cons_succ, List.setIfInBounds_toArray, List.set_cons_zero, List.set_cons_succ]
            have hal : Below W1.heap.size W1 (wxr2.alloc (.cells #[.bool false, .bool false, .slice none 0 0, .slice none 0 0, .slice none 0 0, .slice none 0 0, .bool false, .bool false] 26)) := (HAwxr2.out).alloc (HAwxr2.out).size _
            have hhb : Hb (wxr2.alloc (.cells #[.bool false, .bool false, .slice none 0 0, .slice none 0 0, .slice none 0 0, .slice none 0 0, .bool false, .bool false] 26)) wxr2.heap.size #[.bool false, .bool false, .slice none 0 0, .slice none 0 0, .slice none 0 0, .slice none 0 0, .bool false, .bool false] := Hb.new wxr2 _
            have hbn : Below wxr2.heap.size wxr2 (wxr2.alloc (.cells #[.bool false, .bool false, .slice none 0 0, .slice none 0 0, .slice none 0 0, .slice none 0 0, .bool false, .bool false] 26)) := below_new12 wxr2 _
            have hlq : W1.heap.size ≤ wxr2.heap.size := (HAwxr2.out).size
            have hneq : qxr ≠ wxr2.heap.size := Nat.ne_of_lt HQxr.out.lt
            replace HQxr := Lib.hid (HQxr.out.on hbn)
            replace HOxr := Lib.hid (HOxr.out.on hbn)
            replace HOyr := Lib.hid (HOyr.out.on hbn)
            generalize hwk : (wxr2.alloc (.cells #[.bool false, .bool false, .slice none 0 0, .slice none 0 0, .slice none 0 0, .slice none 0 0, .bool false, .bool false] 26)) = wyr3 at *
            generalize hqk : wxr2.heap.size = qyr at *
            have HQyr := Lib.hid hhb; have HLyr := Lib.hid hlq; have HAwyr3 := Lib.hid hal
            clear hhb hlq hal hbn
            have HNE := Lib.hid hneq
            clear hneq
            have HNSX := Lib.hid noZero
            have HNSxr := HNSX; have HNSyr := HNSX
            refine wpAnyH_ready (rs := [6]) (by kernel_rfl) (by simp) ?_
            refine AllReadyH.cons (o := _) rfl (fun K hK => ?_) AllReadyH.nil
            rw [if_pos (by rfl)]
            refine wp_store_mid 26 (.tmp 3) (.tmp 11) rfl qxr 0 #[.bool d.allow, .bool d.attrsAllow, .slice xrE nExr kExr, .slice xrR nRxr kRxr, .slice xrA nAxr kAxr, .slice xrP nPxr kPxr, .bool d.comments, .bool d.dataAttrs] rfl rfl (HQxr.out.there 8 rfl) size_conf (by simp [Value.oneCell']) ?_
            obtain ⟨WX, hW, hgW, hbW⟩ := res_hb HQxr.out rfl (.bool d.allow) (.bool d.attrsAllow) (.slice xrE nExr kExr) (.slice xrR nRxr kRxr) (.slice xrA nAxr kAxr) (.slice xrP nPxr kPxr) (.bool d.comments) (.bool d.dataAttrs)
            have hblWX : Below W1.heap.size W1 WX := Below.grown HAwyr3.out hgW (HAwyr3.out).size (fun q hq => by injection hq with hq; have := HLxr.out; omega)
            have hW' : wyr3.setCells qxr 0 (#[.bool d.allow, .bool d.attrsAllow, .slice xrE nExr kExr, .slice xrR nRxr kRxr, .slice xrA nAxr kAxr, .slice xrP nPxr kPxr, .bool d.comments, .bool d.dataAttrs] : Array Value).toList = WX := hW.symm
            rw [hW']
            have HOxr := Lib.hid (cp_boxed HOxr.out HQxr.out HNSxr.out hgW)
            have HOyr := Lib.hid (cp_boxed HOyr.out HQxr.out HNSxr.out hgW)
            have HQyr := Lib.hid (HQyr.out.keep (hgW.block _ HQyr.out.lt (by have := HNE.out; simp; omega)))
            have HQxr := Lib.hid hbW; have HCWX := Lib.hid hblWX
            clear hW hW' hgW hbW hblWX
            refine hK.out _ _ ?_ (fun hHeld => ?_)
            · exact HBL.out _ HCWX.out
            clear hK K
            try simp only [Act.put, List.getElem_toArray, List.getElem_cons_zero, List.getElem_cons_succ, List.setIfInBounds_toArray, List.set_cons_zero, List.set_cons_succ]
            refine wpAnyH_ready (rs := [7]) (by kernel_rfl) (by simp) ?_
            refine AllReadyH.cons (o := _) rfl (fun K hK => ?_) AllReadyH.nil
            rw [if_pos (by rfl)]
            refine wp_store_mid 26 (.tmp 4) (.tmp 13) rfl qyr 0 #[.bool d.allow, .bool d.attrsAllow, .slice yrE nEyr kEyr, .slice yrR nRyr kRyr, .slice yrA nAyr kAyr, .slice yrP nPyr kPyr, .bool d.comments, .bool d.dataAttrs] rfl rfl (HQyr.out.there 8 rfl) size_conf (by simp [Value.oneCell']) ?_
            obtain ⟨WY, hW, hgW, hbW⟩ := res_hb HQyr.out rfl (.bool d.allow) (.bool d.attrsAllow) (.slice yrE nEyr kEyr) (.slice yrR nRyr kRyr) (.slice yrA nAyr kAyr) (.slice yrP nPyr kPyr) (.bool d.comments) (.bool d.dataAttrs)
            have hblWY : Below W1.heap.size W1 WY := Below.grown HCWX.out hgW (HCWX.out).size (fun q hq => by injection hq with hq; have := HLyr.out; omega)
            have hW' : WX.setCells qyr 0 (#[.bool d.allow, .bool d.attrsAllow, .slice yrE nEyr kEyr, .slice yrR nRyr kRyr, .slice yrA nAyr kAyr, .slice yrP nPyr kPyr, .bool d.comments, .bool d.dataAttrs] : Array Value).toList = WY := hW.symm
            rw [hW']
            have HOxr := Lib.hid (cp_boxed HOxr.out HQyr.out HNSyr.out hgW)
            have HOyr := Lib.hid (cp_boxed HOyr.out HQyr.out HNSyr.out hgW)
            have HQxr := Lib.hid (HQxr.out.keep (hgW.block _ HQxr.out.lt (by have := HNE.out; simp; omega)))
            have HQyr := Lib.hid hbW; have HCWY := Lib.hid hblWY
            clear hW hW' hgW hbW hblWY
            refine hK.out _ _ ?_ (fun hHeld => ?_)
            · exact HBL.out _ HCWY.out
            clear hK K
            try simp only [Act.put, List.getElem_toArray, List.getElem_cons_zero, List.getElem_cons_succ, List.setIfInBounds_toArray, List.set_cons_zero, List.set_cons_succ]
            refine wpAnyH_done (by kernel_rfl) ?_ _
            refine NoPanic.normal ?_
            go_wp2
            go_meet
            exact ⟨qxr, qyr, xrE, nExr, kExr, xrR, nRxr, kRxr, xrA, nAxr, kAxr, xrP, nPxr, kPxr, yrE, nEyr, kEyr, yrR, nRyr, kRyr, yrA, nAyr, kAyr, yrP, nPyr, kPyr, lxr, lyr, rfl, rfl, HLxr.out, HLyr.out, HQxr.out, HQyr.out, HOxr.out, HOyr.out, HCWY.out⟩
        · go_simp
          refine hK.out _ _ ?_ (fun hHeld => ?_)
          · exact HBL.out _ ((HCyr.out).alloc (HCyr.out).size _)
          clear hK K
          try simp only [Act.put, List.getElem_toArray, List.getElem_cons_zero, List.getElem_cons_succ, List.setIfInBounds_toArray, List.set_cons_zero, List.set_cons_succ]
          have hal : Below W1.heap.size W1 (uyr.alloc (.cells #[.bool false, .bool false, .slice none 0 0, .slice none 0 0, .slice none 0 0, .slice none 0 0, .bool false, .bool false] 26)) := (HCyr.out).alloc (HCyr.out).size _
          have hhb : Hb (uyr.alloc (.cells #[.bool false, .bool false, .slice none 0 0, .slice none 0 0, .slice none 0 0, .slice none 0 0, .bool false, .bool false] 26)) uyr.heap.size #[.bool false, .bool false, .slice none 0 0, .slice none 0 0, .slice none 0 0, .slice none 0 0, .bool false, .bool false] := Hb.new uyr _
          have hbn : Below uyr.heap.size uyr (uyr.alloc (.cells #[.bool false, .bool false, .slice none 0 0, .slice none 0 0, .slice none 0 0, .slice none 0 0, .bool false, .bool false] 26)) := below_new12 uyr _
          have hlq : W1.heap.size ≤ uyr.heap.size := (HCyr.out).size
          replace HOxr := Lib.hid (HOxr.out.on hbn)
          replace HOyr := Lib.hid (HOyr.out.on hbn)
          generalize hwk : (uyr.alloc (.cells #[.bool false, .bool false, .slice none 0 0, .slice none 0 0, .slice none 0 0, .slice none 0 0, .bool false, .bool false] 26)) = wyr2 at *
          generalize hqk : uyr.heap.size = qyr at *
          have HQyr := Lib.hid hhb; have HLyr := Lib.hid hlq; have HAwyr2 := Lib.hid hal
          clear hhb hlq hal hbn
          refine wpAnyH_ready (rs := [4]) (by kernel_rfl) (by simp) ?_
          refine AllReadyH.cons (o := _) rfl (fun K hK => ?_) (AllReadyH.nil)
          · go_simp
            refine hK.out _ _ ?_ (fun hHeld => ?_)
            · exact HBL.out _ ((HAwyr2.out).alloc (HAwyr2.out).size _)
            clear hK K
            try simp only [Act.put, List.getElem_toArray, List.getElem_cons_zero, List.getElem_cons_succ, List.setIfInBounds_toArray, List.set_cons_zero, List.set_cons_succ]
            have hal : Below W1.heap.size W1 (wyr2.alloc (.cells #[.bool false, .bool false, .slice none 0 0, .slice none 0 0, .slice none 0 0, .slice none 0 0, .bool false, .bool false] 26)) := (HAwyr2.out).alloc (HAwyr2.out).size _
            have hhb : Hb (wyr2.alloc (.cells #[.bool false, .bool false, .slice none 0 0, .slice none 0 0, .slice none 0 0, .slice none 0 0, .bool false, .bool false] 26)) wyr2.heap.size #[.bool false, .bool false, .slice none 0 0, .slice none 0 0, .slice none 0 0, .slice none 0 0, .bool false, .bool false] := Hb.new wyr2 _
            have hbn : Below wyr2.heap.size wyr2 (wyr2.alloc (.cells #[.bool false, .bool false, .slice none 0 0, .slice none 0 0, .slice none 0 0, .slice none 0 0, .bool false, .bool false] 26)) := below_new12 wyr2 _
            have hlq : W1.heap.size ≤ wyr2.heap.size := (HAwyr2.out).size
            have hneq : qyr ≠ wyr2.heap.size := Nat.ne_of_lt HQyr.out.lt
            replace HQyr := Lib.hid (HQyr.out.on hbn)
            replace HOxr := Lib.hid (HOxr.out.on hbn)
            replace HOyr := Lib.hid (HOyr.out.on hbn)
            generalize hwk : (wyr2.alloc (.cells #[.bool false, .bool false, .slice none 0 0, .slice none 0 0, .slice none 0 0, .slice none 0 0, .bool false, .bool false] 26)) = wxr3 at *
            generalize hqk : wyr2.heap.size = qxr at *
            have HQxr := Lib.hid hhb; have HLxr := Lib.hid hlq; have HAwxr3 := Lib.hid hal
            clear hhb hlq hal hbn
            have HNE := Lib.hid hneq
            clear hneq
            have HNSX := Lib.hid noZero
            have HNSxr := HNSX; have HNSyr := HNSX
            refine wpAnyH_ready (rs := [6]) (by kernel_rfl) (by simp) ?_
            refine AllReadyH.cons (o := _) rfl (fun K hK => ?_) AllReadyH.nil
            rw [if_pos (by rfl)]
            refine wp_store_mid 26 (.tmp 3) (.tmp 11) rfl qxr 0 #[.bool d.allow, .bool d.attrsAllow, .slice xrE nExr kExr, .slice xrR nRxr kRxr, .slice xrA nAxr kAxr, .slice xrP nPxr kPxr, .bool d.comments, .bool d.dataAttrs] rfl rfl (HQxr.out.there 8 rfl) size_conf (by simp [Value.oneCell']) ?_
            obtain ⟨WX, hW, hgW, hbW⟩ := res_hb HQxr.out rfl (.bool d.allow) (.bool d.attrsAllow) (.slice xrE nExr kExr) (.slice xrR nRxr kRxr) (.slice xrA nAxr kAxr) (.slice xrP nPxr kPxr) (.bool d.comments) (.bool d.dataAttrs)
            have hblWX : Below W1.heap.size W1 WX := Below.grown HAwxr3.out hgW (HAwxr3.out).size (fun q hq => by injection hq with hq; have := HLxr.out; omega)
            have hW' : wxr3.setCells qxr 0 (#[.bool d.allow, .bool d.attrsAllow, .slice xrE nExr kExr, .slice xrR nRxr kRxr, .slice xrA nAxr kAxr, .slice xrP nPxr kPxr, .bool d.comments, .bool d.dataAttrs] : Array Value).toList = WX := hW.symm
            rw [hW']
            have HOxr := Lib.hid (cp_boxed HOxr.out HQxr.out HNSxr.out hgW)
            have HOyr := Lib.hid (cp_boxed HOyr.out HQxr.out HNSxr.out hgW)
            have HQyr := Lib.hid (HQyr.out.keep (hgW.block _ HQyr.out.lt (by have := HNE.out; simp; omega)))
            have HQxr := Lib.hid hbW; have HCWX := Lib.hid hblWX
            clear hW hW' hgW hbW hblWX
            refine hK.out _ _ ?_ (fun hHeld => ?_)
            · exact HBL.out _ HCWX.out
            clear hK K
            try simp only [Act.put, List.getElem_toArray, List.getElem_cons_zero, List.getElem_cons_succ, List.setIfInBounds_toArray, List.set_cons_zero, List.set_cons_succ]
            refine wpAnyH_ready (rs := [7]) (by kernel_rfl) (by simp) ?_
            refine AllReadyH.cons (o := _) rfl (fun K hK => ?_) AllReadyH.nil
            rw [if_pos (by rfl)]
            refine wp_store_mid 26 (.tmp 4) (.tmp 13) rfl qyr 0 #[.bool d.allow, .bool d.attrsAllow, .slice yrE nEyr kEyr, .slice yrR nRyr kRyr, .slice yrA nAyr kAyr, .slice yrP nPyr kPyr, .bool d.comments, .bool d.dataAttrs] rfl rfl (HQyr.out.there 8 rfl) size_conf (by simp [Value.oneCell']) ?_
            obtain ⟨WY, hW, hgW, hbW⟩ := res_hb HQyr.out rfl (.bool d.allow) (.bool d.attrsAllow) (.slice yrE nEyr kEyr) (.slice yrR nRyr kRyr) (.slice yrA nAyr kAyr) (.slice yrP nPyr kPyr) (.bool d.comments) (.bool d.dataAttrs)
            have hblWY : Below W1.heap.size W1 WY := Below.grown HCWX.out hgW (HCWX.out).size (fun q hq => by injection hq with hq; have := HLyr.out; omega)
            have hW' : WX.setCells qyr 0 (#[.bool d.allow, .bool d.attrsAllow, .slice yrE nEyr kEyr, .slice yrR nRyr kRyr, .slice yrA nAyr kAyr, .slice yrP nPyr kPyr, .bool d.comments, .bool d.dataAttrs] : Array Value).toList = WY := hW.symm
            rw [hW']
            have HOxr := Lib.hid (cp_boxed HOxr.out HQyr.out HNSyr.out hgW)
            have HOyr := Lib.hid (cp_boxed HOyr.out HQyr.out HNSyr.out hgW)
            have HQxr := Lib.hid (HQxr.out.keep (hgW.block _ HQxr.out.lt (by have := HNE.out; simp; omega)))
            have HQyr := Lib.hid hbW; have HCWY := Lib.hid hblWY
            clear hW hW' hgW hbW hblWY
            refine hK.out _ _ ?_ (fun hHeld => ?_)
            · exact HBL.out _ HCWY.out
            clear hK K
            try simp only [Act.put, List.getElem_toArray, List.getElem_cons_zero, List.getElem_cons_succ, List.setIfInBounds_toArray, List.set_cons_zero, List.set_cons_succ]
            refine wpAnyH_done (by kernel_rfl) ?_ _
            refine NoPanic.normal ?_
            go_wp2
            go_meet
            exact ⟨qxr, qyr, xrE, nExr, kExr, xrR, nRxr, kRxr, xrA, nAxr, kAxr, xrP, nPxr, kPxr, yrE, nEyr, kEyr, yrR, nRyr, kRyr, yrA, nAyr, kAyr, yrP, nPyr, kPyr, lxr, lyr, rfl, rfl, HLxr.out, HLyr.out, HQxr.out, HQyr.out, HOxr.out, HOyr.out, HCWY.out⟩
      · go_simp
        refine hK.out _ _ ?_ (fun hHeld => ?_)
        · exact HBL.out _ ((HCxr.out).alloc (HCxr.out).size _)
        clear hK K
        try simp only [Act.put, List.getElem_toArray, List.getElem_cons_zero, List.getElem_cons_succ, List.setIfInBounds_toArray, List.set_cons_zero, List.set_cons_succ]
        have hal : Below W1.heap.size W1 (uxr.alloc (.cells #[.bool false, .bool false, .slice none 0 0, .slice none 0 0, .slice none 0 0, .slice none 0 0, .bool false, .bool false] 26)) := (HCxr.out).alloc (HCxr.out).size _
        have hhb : Hb (uxr.alloc (.cells #[.bool false, .bool false, .slice none 0 0, .slice none 0 0, .slice none 0 0, .slice none 0 0, .bool false, .bool false] 26)) uxr.heap.size #[.bool false, .bool false, .slice none 0 0, .slice none 0 0, .slice none 0 0, .slice none 0 0, .bool false, .bool false] := Hb.new uxr _
        have hbn : Below uxr.heap.size uxr (uxr.alloc (.cells #[.bool false, .bool false, .slice none 0 0, .slice none 0 0, .slice none 0 0, .slice none 0 0, .bool false, .bool false] 26)) := below_new12 uxr _
        have hlq : W1.heap.size ≤ uxr.heap.size := (HCxr.out).size
        replace HOxr := Lib.hid (HOxr.out.on hbn)
        generalize hwk : (uxr.alloc (.cells #[.bool false, .bool false, .slice none 0 0, .slice none 0 0, .slice none 0 0, .slice none 0 0, .bool false, .bool false] 26)) = wxr1 at *
        generalize hqk : uxr.heap.size = qxr at *
        have HQxr := Lib.hid hhb; have HLxr := Lib.hid hlq; have HAwxr1 := Lib.hid hal
        clear hhb hlq hal hbn
        refine wpAnyH_ready (rs := [3, 5]) (by kernel_rfl) (by simp) ?_
        refine AllReadyH.cons (o := _) rfl (fun K hK => ?_) (AllReadyH.cons (o := _) rfl (fun K hK => ?_) (AllReadyH.nil))
        · go_simp
          go_at_call 16
          refine (refStrip12 (confV d (.slice A1 n1 c1) (.slice A2 n2 c2) (.slice A3 n3 c3) (.slice A4 n4 c4)) d wxr1 (HCB.out _ HAwxr1.out) HSM.out).mono ?_
          rintro r uyr ⟨vyr, rfl, ho, hc⟩
          obtain ⟨vE, vR, vA, vP, lyr, rfl, ho⟩ := ho
          obtain ⟨yrE, nEyr, kEyr, rfl⟩ := sv_shape ho.e
          obtain ⟨yrR, nRyr, kRyr, rfl⟩ := sv_shape ho.r
          obtain ⟨yrA, nAyr, kAyr, rfl⟩ := sv_shape ho.a
          obtain ⟨yrP, nPyr, kPyr, rfl⟩ := pv_shape ho.p
          have HCyr := Lib.hid (show Below W1.heap.size W1 uyr from Below.trans HAwxr1.out (Below.mono hc (HAwxr1.out).size))
          have HOyr := Lib.hid (show Cp uyr uyr.heap.size (stripC d) _ _ _ _ lyr from ho)
          have HOxr := Lib.hid (HOxr.out.on hc)
          have HQxr := Lib.hid (HQxr.out.on hc)
          clear hc ho
          go_wp2_with fail
          refine hK.out _ _ ?_ (fun hHeld => ?_)
          · exact HBL.out _ HCyr.out
          clear hK K
          try simp only [Act.put, List.getElem_toArray, List.getElem_cons_zero, List.getElem_cons_succ, List.setIfInBounds_toArray, List.set_cons_zero, List.set_cons_succ]
          refine wpAnyH_ready (rs := [5]) (by kernel_rfl) (by simp) ?_
          refine AllReadyH.cons (o := _) rfl (fun K hK => ?_) (AllReadyH.nil)
          · go_simp
            refine hK.out _ _ ?_ (fun hHeld => ?_)
            · exact HBL.out _ ((HCyr.out).alloc (HCyr.out).size _)
            clear hK K
            try simp only [Act.put, List.getElem_toArray, List.getElem_cons_zero, List.getElem_cons_succ, List.setIfInBounds_toArray, List.set_cons_zero, List.set_cons_succ]
            have hal : Below W1.heap.size W1 (uyr.alloc (.cells #[.bool false, .bool false, .slice none 0 0, .slice none 0 0, .slice none 0 0, .slice none 0 0, .bool false, .bool false] 26)) := (HCyr.out).alloc (HCyr.out).size _
            have hhb : Hb (uyr.alloc (.cells #[.bool false, .bool false, .slice none 0 0, .slice none 0 0, .slice none 0 0, .slice none 0 0, .bool false, .bool false] 26)) uyr.heap.size #[.bool false, .bool false, .slice none 0 0, .slice none 0 0, .slice none 0 0, .slice none 0 0, .bool false, .bool false] := Hb.new uyr _
            have hbn : Below uyr.heap.size uyr (uyr.alloc (.cells #[.bool false, .bool false, .slice none 0 0, .slice none 0 0, .slice none 0 0, .slice none 0 0, .bool false, .bool false] 26)) := below_new12 uyr _
            have hlq : W1.heap.size ≤ uyr.heap.size := (HCyr.out).size
            have hneq : qxr ≠ uyr.heap.size := Nat.ne_of_lt HQxr.out.lt
            replace HQxr := Lib.hid (HQxr.out.on hbn)
            replace HOxr := Lib.hid (HOxr.out.on hbn)
            replace HOyr := Lib.hid (HOyr.out.on hbn)
            generalize hwk : (uyr.alloc (.cells #[.bool false, .bool false, .slice none 0 0, .slice none 0 0, .slice none 0 0, .slice none 0 0, .bool false, .bool false] 26)) = wyr3 at *
            generalize hqk : uyr.heap.size = qyr at *
            have HQyr := Lib.hid hhb; have HLyr := Lib.hid hlq; have HAwyr3 := Lib.hid hal
            clear hhb hlq hal hbn
            have HNE := Lib.hid hneq
            clear hneq
            have HNSX := Lib.hid noZero
            have HNSxr := HNSX; have HNSyr := HNSX
            refine wpAnyH_ready (rs := [6]) (by kernel_rfl) (by simp) ?_
            refine AllReadyH.cons (o := _) rfl (fun K hK => ?_) AllReadyH.nil
            rw [if_pos (by rfl)]
            refine wp_store_mid 26 (.tmp 3) (.tmp 11) rfl qxr 0 #[.bool d.allow, .bool d.attrsAllow, .slice xrE nExr kExr, .slice xrR nRxr kRxr, .slice xrA nAxr kAxr, .slice xrP nPxr kPxr, .bool d.comments, .bool d.dataAttrs] rfl rfl (HQxr.out.there 8 rfl) size_conf (by simp [Value.oneCell']) ?_
            obtain ⟨WX, hW, hgW, hbW⟩ := res_hb HQxr.out rfl (.bool d.allow) (.bool d.attrsAllow) (.slice xrE nExr kExr) (.slice xrR nRxr kRxr) (.slice xrA nAxr kAxr) (.slice xrP nPxr kPxr) (.bool d.comments) (.bool d.dataAttrs)
            have hblWX : Below W1.heap.size W1 WX := Below.grown HAwyr3.out hgW (HAwyr3.out).size (fun q hq => by injection hq with hq; have := HLxr.out; omega)
            have hW' : wyr3.setCells qxr 0 (#[.bool d.allow, .bool d.attrsAllow, .slice xrE nExr kExr, .slice xrR nRxr kRxr, .slice xrA nAxr kAxr, .slice xrP nPxr kPxr, .bool d.comments, .bool d.dataAttrs] : Array Value).toList = WX := hW.symm
            rw [hW']
            have HOxr := Lib.hid (cp_boxed HOxr.out HQxr.out HNSxr.out hgW)
            have HOyr := Lib.hid (cp_boxed HOyr.out HQxr.out HNSxr.out hgW)
            have HQyr := Lib.hid (HQyr.out.keep (hgW.block _ HQyr.out.lt (by have := HNE.out; simp; omega)))
            have HQxr := Lib.hid hbW; have HCWX := Lib.hid hblWX
            clear hW hW' hgW hbW hblWX
            refine hK.out _ _ ?_ (fun hHeld => ?_)
            · exact HBL.out _ HCWX.out
            clear hK K
            try simp only [Act.put, List.getElem_toArray, List.getElem_cons_zero, List.getElem_cons_succ, List.setIfInBounds_toArray, List.set_cons_zero, List.set_cons_succ]
            refine wpAnyH_ready (rs := [7]) (by kernel_rfl) (by simp) ?_
            refine AllReadyH.cons (o := _) rfl (fun K hK => ?_) AllReadyH.nil
            rw [if_pos (by rfl)]
            refine wp_store_mid 26 (.tmp 4) (.tmp 13) rfl qyr 0 #[.bool d.allow, .bool d.attrsAllow, .slice yrE nEyr kEyr, .slice yrR nRyr kRyr, .slice yrA nAyr kAyr, .slice yrP nPyr kPyr, .bool d.comments, .bool d.dataAttrs] rfl rfl (HQyr.out.there 8 rfl) size_conf (by simp [Value.oneCell']) ?_
            obtain ⟨WY, hW, hgW, hbW⟩ := res_hb HQyr.out rfl (.bool d.allow) (.bool d.attrsAllow) (.slice yrE nEyr kEyr) (.slice yrR nRyr kRyr) (.slice yrA nAyr kAyr) (.slice yrP nPyr kPyr) (.bool d.comments) (.bool d.dataAttrs)
            have hblWY : Below W1.heap.size W1 WY := Below.grown HCWX.out hgW (HCWX.out).size (fun q hq => by injection hq with hq; have := HLyr.out; omega)
            have hW' : WX.setCells qyr 0 (#[.bool d.allow, .bool d.attrsAllow, .slice yrE nEyr kEyr, .slice yrR nRyr kRyr, .slice yrA nAyr kAyr, .slice yrP nPyr kPyr, .bool d.comments, .bool d.dataAttrs] : Array Value).toList = WY := hW.symm
            rw [hW']
            have HOxr := Lib.hid (cp_boxed HOxr.out HQyr.out HNSyr.out hgW)
            have HOyr := Lib.hid (cp_boxed HOyr.out HQyr.out HNSyr.out hgW)
            have HQxr := Lib.hid (HQxr.out.keep (hgW.block _ HQxr.out.lt (by have := HNE.out; simp; omega)))
            have HQyr := Lib.hid hbW; have HCWY := Lib.hid hblWY
            clear hW hW' hgW hbW hblWY
            refine hK.out _ _ ?_ (fun hHeld => ?_)
            · exact HBL.out _ HCWY.out
            clear hK K
            try simp only [Act.put, List.getElem_toArray, List.getElem_cons_zero, List.getElem_cons_succ, List.setIfInBounds_toArray, List.set_cons_zero, List.set_cons_succ]
            refine wpAnyH_done (by kernel_rfl) ?_ _
            refine NoPanic.normal ?_
            go_wp2
            go_meet
            exact ⟨qxr, qyr, xrE, nExr, kExr, xrR, nRxr, kRxr, xrA, nAxr, kAxr, xrP, nPxr, kPxr, yrE, nEyr, kEyr, yrR, nRyr, kRyr, yrA, nAyr, kAyr, yrP, nPyr, kPyr, lxr, lyr, rfl, rfl, HLxr.out, HLyr.out, HQxr.out, HQyr.out, HOxr.out, HOyr.out, HCWY.out⟩
        · go_simp
          refine hK.out _ _ ?_ (fun hHeld => ?_)
          · exact HBL.out _ ((HAwxr1.out).alloc (HAwxr1.out).size _)
          clear hK K
          try simp only [Act.put, List.getElem_toArray, List.getElem_cons_zero, List.getElem_cons_succ, List.setIfInBounds_toArray, List.set_cons_zero, List.set_cons_succ]
          have hal : Below W1.heap.size W1 (wxr1.alloc (.cells #[.bool false, .bool false, .slice none 0 0, .slice none 0 0, .slice none 0 0, .slice none 0 0, .bool false, .bool false] 26)) := (HAwxr1.out).alloc (HAwxr1.out).size _
          have hhb : Hb (wxr1.alloc (.cells #[.bool false, .bool false, .slice none 0 0, .slice none 0 0, .slice none 0 0, .slice none 0 0, .bool false, .bool false] 26)) wxr1.heap.size #[.bool false, .bool false, .slice none 0 0, .slice none 0 0, .slice none 0 0, .slice none 0 0, .bool false, .bool false] := Hb.new wxr1 _
          have hbn : Below wxr1.heap.size wxr1 (wxr1.alloc (.cells #[.bool false, .bool false, .slice none 0 0, .slice none 0 0, .slice none 0 0, .slice none 0 0, .bool false, .bool false] 26)) := below_new12 wxr1 _
          have hlq : W1.heap.size ≤ wxr1.heap.size := (HAwxr1.out).size
          have hneq : qxr ≠ wxr1.heap.size := Nat.ne_of_lt HQxr.out.lt
          replace HQxr := Lib.hid (HQxr.out.on hbn)
          replace HOxr := Lib.hid (HOxr.out.on hbn)
          generalize hwk : (wxr1.alloc (.cells #[.bool false, .bool false, .slice none 0 0, .slice none 0 0, .slice none 0 0, .slice none 0 0, .bool false, .bool false] 26)) = wyr2 at *
          generalize hqk : wxr1.heap.size = qyr at *
          have HQyr := Lib.hid hhb; have HLyr := Lib.hid hlq; have HAwyr2 := Lib.hid hal
          clear hhb hlq hal hbn
          have HNE := Lib.hid hneq
          clear hneq
          refine wpAnyH_ready (rs := [3]) (by kernel_rfl) (by simp) ?_
          refine AllReadyH.cons (o := _) rfl (fun K hK => ?_) (AllReadyH.nil)
          · go_simp
            go_at_call 16
            refine (refStrip12 (confV d (.slice A1 n1 c1) (.slice A2 n2 c2) (.slice A3 n3 c3) (.slice A4 n4 c4)) d wyr2 (HCB.out _ HAwyr2.out) HSM.out).mono ?_
            rintro r uyr ⟨vyr, rfl, ho, hc⟩
            obtain ⟨vE, vR, vA, vP, lyr, rfl, ho⟩ := ho
            obtain ⟨yrE, nEyr, kEyr, rfl⟩ := sv_shape ho.e
            obtain ⟨yrR, nRyr, kRyr, rfl⟩ := sv_shape ho.r
            obtain ⟨yrA, nAyr, kAyr, rfl⟩ := sv_shape ho.a
            obtain ⟨yrP, nPyr, kPyr, rfl⟩ := pv_shape ho.p
            have HCyr := Lib.hid (show Below W1.heap.size W1 uyr from Below.trans HAwyr2.out (Below.mono hc (HAwyr2.out).size))
            have HOyr := Lib.hid (show Cp uyr uyr.heap.size (stripC d) _ _ _ _ lyr from ho)
            have HOxr := Lib.hid (HOxr.out.on hc)
            have HQxr := Lib.hid (HQxr.out.on hc)
            have HQyr := Lib.hid (HQyr.out.on hc)
            clear hc ho
            go_wp2_with fail
            refine hK.out _ _ ?_ (fun hHeld => ?_)
            · exact HBL.out _ HCyr.out
            clear hK K
            try simp only [Act.put, List.getElem_toArray, List.getElem_cons_zero, List.getElem_cons_succ, List.setIfInBounds_toArray, List.set_cons_zero, List.set_cons_succ]
            have HNSX := Lib.hid noZero
            have HNSxr := HNSX; have HNSyr := HNSX
            refine wpAnyH_ready (rs := [6]) (by kernel_rfl) (by simp) ?_
            refine AllReadyH.cons (o := _) rfl (fun K hK => ?_) AllReadyH.nil
            rw [if_pos (by rfl)]
            refine wp_store_mid 26 (.tmp 3) (.tmp 11) rfl qxr 0 #[.bool d.allow, .bool d.attrsAllow, .slice xrE nExr kExr, .slice xrR nRxr kRxr, .slice xrA nAxr kAxr, .slice xrP nPxr kPxr, .bool d.comments, .bool d.dataAttrs] rfl rfl (HQxr.out.there 8 rfl) size_conf (by simp [Value.oneCell']) ?_
            obtain ⟨WX, hW, hgW, hbW⟩ := res_hb HQxr.out rfl (.bool d.allow) (.bool d.attrsAllow) (.slice xrE nExr kExr) (.slice xrR nRxr kRxr) (.slice xrA nAxr kAxr) (.slice xrP nPxr kPxr) (.bool d.comments) (.bool d.dataAttrs)
            have hblWX : Below W1.heap.size W1 WX := Below.grown HCyr.out hgW (HCyr.out).size (fun q hq => by injection hq with hq; have := HLxr.out; omega)
            have hW' : uyr.setCells qxr 0 (#[.bool d.allow, .bool d.attrsAllow, .slice xrE nExr kExr, .slice xrR nRxr kRxr, .slice xrA nAxr kAxr, .slice xrP nPxr kPxr, .bool d.comments, .bool d.dataAttrs] : Array Value).toList = WX := hW.symm
            rw [hW']
            have HOxr := Lib.hid (cp_boxed HOxr.out HQxr.out HNSxr.out hgW)
            have HOyr := Lib.hid (cp_boxed HOyr.out HQxr.out HNSxr.out hgW)
            have HQyr := Lib.hid (HQyr.out.keep (hgW.block _ HQyr.out.lt (by have := HNE.out; simp; omega)))
            have HQxr := Lib.hid hbW; have HCWX := Lib.hid hblWX
            clear hW hW' hgW hbW hblWX
            refine hK.out _ _ ?_ (fun hHeld => ?_)
            · exact HBL.out _ HCWX.out
            clear hK K
            try simp only [Act.put, List.getElem_toArray, List.getElem_cons_zero, List.getElem_cons_succ, List.setIfInBounds_toArray, List.set_cons_zero, List.set_cons_succ]
            refine wpAnyH_ready (rs := [7]) (by kernel_rfl) (by simp) ?_
            refine AllReadyH.cons (o := _) rfl (fun K hK => ?_) AllReadyH.nil
            rw [if_pos (by rfl)]
            refine wp_store_mid 26 (.tmp 4) (.tmp 13) rfl qyr 0 #[.bool d.allow, .bool d.attrsAllow, .slice yrE nEyr kEyr, .slice yrR nRyr kRyr, .slice yrA nAyr kAyr, .slice yrP nPyr kPyr, .bool d.comments, .bool d.dataAttrs] rfl rfl (HQyr.out.there 8 rfl) size_conf (by simp [Value.oneCell']) ?_
            obtain ⟨WY, hW, hgW, hbW⟩ := res_hb HQyr.out rfl (.bool d.allow) (.bool d.attrsAllow) (.slice yrE nEyr kEyr) (.slice yrR nRyr kRyr) (.slice yrA nAyr kAyr) (.slice yrP nPyr kPyr) (.bool d.comments) (.bool d.dataAttrs)
            have hblWY : Below W1.heap.size W1 WY := Below.grown HCWX.out hgW (HCWX.out).size (fun q hq => by injection hq with hq; have := HLyr.out; omega)
            have hW' : WX.setCells qyr 0 (#[.bool d.allow, .bool d.attrsAllow, .slice yrE nEyr kEyr, .slice yrR nRyr kRyr, .slice yrA nAyr kAyr, .slice yrP nPyr kPyr, .bool d.comments, .bool d.dataAttrs] : Array Value).toList = WY := hW.symm
            rw [hW']
            have HOxr := Lib.hid (cp_boxed HOxr.out HQyr.out HNSyr.out hgW)
            have HOyr := Lib.hid (cp_boxed HOyr.out HQyr.out HNSyr.out hgW)
            have HQxr := Lib.hid (HQxr.out.keep (hgW.block _ HQxr.out.lt (by have := HNE.out; simp; omega)))
            have HQyr := Lib.hid hbW; have HCWY := Lib.hid hblWY
            clear hW hW' hgW hbW hblWY
            refine hK.out _ _ ?_ (fun hHeld => ?_)
            · exact HBL.out _ HCWY.out
            clear hK K
            try simp only [Act.put, List.getElem_toArray, List.getElem_cons_zero, List.getElem_cons_succ, List.setIfInBounds_toArray, List.set_cons_zero, List.set_cons_succ]
            refine wpAnyH_done (by kernel_rfl) ?_ _
            refine NoPanic.normal ?_
            go_wp2
            go_meet
            exact ⟨qxr, qyr, xrE, nExr, kExr, xrR, nRxr, kRxr, xrA, nAxr, kAxr, xrP, nPxr, kPxr, yrE, nEyr, kEyr, yrR, nRyr, kRyr, yrA, nAyr, kAyr, yrP, nPyr, kPyr, lxr, lyr, rfl, rfl, HLxr.out, HLyr.out, HQxr.out, HQyr.out, HOxr.out, HOyr.out, HCWY.out⟩
      · go_simp
        refine hK.out _ _ ?_ (fun hHeld => ?_)
        · exact HBL.out _ ((HCxr.out).alloc (HCxr.out).size _)
        clear hK K
        try simp only [Act.put, List.getElem_toArray, List.getElem_cons_zero, List.getElem_cons_succ, List.setIfInBounds_toArray, List.set_cons_zero, List.set_cons_succ]
        have hal : Below W1.heap.size W1 (uxr.alloc (.cells #[.bool false, .bool false, .slice none 0 0, .slice none 0 0, .slice none 0 0, .slice none 0 0, .bool false, .bool false] 26)) := (HCxr.out).alloc (HCxr.out).size _
        have hhb : Hb (uxr.alloc (.cells #[.bool false, .bool false, .slice none 0 0, .slice none 0 0, .slice none 0 0, .slice none 0 0, .bool false, .bool false] 26)) uxr.heap.size #[.bool false, .bool false, .slice none 0 0, .slice none 0 0, .slice none 0 0, .slice none 0 0, .bool false, .bool false] := Hb.new uxr _
        have hbn : Below uxr.heap.size uxr (uxr.alloc (.cells #[.bool false, .bool false, .slice none 0 0, .slice none 0 0, .slice none 0 0, .slice none 0 0, .bool false, .bool false] 26)) := below_new12 uxr _
        have hlq : W1.heap.size ≤ uxr.heap.size := (HCxr.out).size
        replace HOxr := Lib.hid (HOxr.out.on hbn)
        generalize hwk : (uxr.alloc (.cells #[.bool false, .bool false, .slice none 0 0, .slice none 0 0, .slice none 0 0, .slice none 0 0, .bool false, .bool false] 26)) = wyr1 at *
        generalize hqk : uxr.heap.size = qyr at *
        have HQyr := Lib.hid hhb; have HLyr := Lib.hid hlq; have HAwyr1 := Lib.hid hal
        clear hhb hlq hal hbn
        refine wpAnyH_ready (rs := [3, 4]) (by kernel_rfl) (by simp) ?_
        refine AllReadyH.cons (o := _) rfl (fun K hK => ?_) (AllReadyH.cons (o := _) rfl (fun K hK => ?_) (AllReadyH.nil))
        · go_simp
          go_at_call 16
          refine (refStrip12 (confV d (.slice A1 n1 c1) (.slice A2 n2 c2) (.slice A3 n3 c3) (.slice A4 n4 c4)) d wyr1 (HCB.out _ HAwyr1.out) HSM.out).mono ?_
          rintro r uyr ⟨vyr, rfl, ho, hc⟩
          obtain ⟨vE, vR, vA, vP, lyr, rfl, ho⟩ := ho
          obtain ⟨yrE, nEyr, kEyr, rfl⟩ := sv_shape ho.e
          obtain ⟨yrR, nRyr, kRyr, rfl⟩ := sv_shape ho.r
          obtain ⟨yrA, nAyr, kAyr, rfl⟩ := sv_shape ho.a
          obtain ⟨yrP, nPyr, kPyr, rfl⟩ := pv_shape ho.p
          have HCyr := Lib.hid (show Below W1.heap.size W1 uyr from Below.trans HAwyr1.out (Below.mono hc (HAwyr1.out).size))
          have HOyr := Lib.hid (show Cp uyr uyr.heap.size (stripC d) _ _ _ _ lyr from ho)
          have HOxr := Lib.hid (HOxr.out.on hc)
          have HQyr := Lib.hid (HQyr.out.on hc)
          clear hc ho
          go_wp2_with fail
          refine hK.out _ _ ?_ (fun hHeld => ?_)
          · exact HBL.out _ HCyr.out
          clear hK K
          try simp only [Act.put, List.getElem_toArray, List.getElem_cons_zero, List.getElem_cons_succ, List.setIfInBounds_toArray, List.set_cons_zero, List.set_cons_succ]
          refine wpAnyH_ready (rs := [4]) (by kernel_rfl) (by simp) ?_
          refine AllReadyH.cons (o := _) rfl (fun K hK => ?_) (AllReadyH.nil)
          · go_simp
            refine hK.out _ _ ?_ (fun hHeld => ?_)
            · exact HBL.out _ ((HCyr.out).alloc (HCyr.out).size _)
            clear hK K
            try simp only [Act.put, List.getElem_toArray, List.getElem_cons_zero, List.getElem_cons_succ, List.setIfInBounds_toArray, List.set_cons_zero, List.set_cons_succ]
            have hal : Below W1.heap.size W1 (uyr.alloc (.cells #[.bool false, .bool false, .slice none 0 0, .slice none 0 0, .slice none 0 0, .slice none 0 0, .bool false, .bool false] 26)) := (HCyr.out).alloc (HCyr.out).size _
            have hhb : Hb (uyr.alloc (.cells #[.bool false, .bool false, .slice none 0 0, .slice none 0 0, .slice none 0 0, .slice none 0 0, .bool false, .bool false] 26)) uyr.heap.size #[.bool false, .bool false, .slice none 0 0, .slice none 0 0, .slice none 0 0, .slice none 0 0, .bool false, .bool false] := Hb.new uyr _
            have hbn : Below uyr.heap.size uyr (uyr.alloc (.cells #[.bool false, .bool false, .slice none 0 0, .slice none 0 0, .slice none 0 0, .slice none 0 0, .bool false, .bool false] 26)) := below_new12 uyr _
            have hlq : W1.heap.size ≤ uyr.heap.size := (HCyr.out).size
            have hneq : qyr ≠ uyr.heap.size := Nat.ne_of_lt HQyr.out.lt
            replace HQyr := Lib.hid (HQyr.out.on hbn)
            replace HOxr := Lib.hid (HOxr.out.on hbn)
            replace HOyr := Lib.hid (HOyr.out.on hbn)
            generalize hwk : (uyr.alloc (.cells #[.bool false, .bool false, .slice none 0 0, .slice none 0 0, .slice none 0 0, .slice none 0 0, .bool false, .bool false] 26)) = wxr3 at *
            generalize hqk : uyr.heap.size = qxr at *
            have HQxr := Lib.hid hhb; have HLxr := Lib.hid hlq; have HAwxr3 := Lib.hid hal
            clear hhb hlq hal hbn
            have HNE := Lib.hid hneq
            clear hneq
            have HNSX := Lib.hid noZero
            have HNSxr := HNSX; have HNSyr := HNSX
            refine wpAnyH_ready (rs := [6]) (by kernel_rfl) (by simp) ?_
            refine AllReadyH.cons (o := _) rfl (fun K hK => ?_) AllReadyH.nil
            rw [if_pos (by rfl)]
            refine wp_store_mid 26 (.tmp 3) (.tmp 11) rfl qxr 0 #[.bool d.allow, .bool d.attrsAllow, .slice xrE nExr kExr, .slice xrR nRxr kRxr, .slice xrA nAxr kAxr, .slice xrP nPxr kPxr, .bool d.comments, .bool d.dataAttrs] rfl rfl (HQxr.out.there 8 rfl) size_conf (by simp [Value.oneCell']) ?_
            obtain ⟨WX, hW, hgW, hbW⟩ := res_hb HQxr.out rfl (.bool d.allow) (.bool d.attrsAllow) (.slice xrE nExr kExr) (.slice xrR nRxr kRxr) (.slice xrA nAxr kAxr) (.slice xrP nPxr kPxr) (.bool d.comments) (.bool d.dataAttrs)
            have hblWX : Below W1.heap.size W1 WX := Below.grown HAwxr3.out hgW (HAwxr3.out).size (fun q hq => by injection hq with hq; have := HLxr.out; omega)
            have hW' : wxr3.setCells qxr 0 (#[.bool d.allow, .bool d.attrsAllow, .slice xrE nExr kExr, .slice xrR nRxr kRxr, .slice xrA nAxr kAxr, .slice xrP nPxr kPxr, .bool d.comments, .bool d.dataAttrs] : Array Value).toList = WX := hW.symm
            rw [hW']
            have HOxr := Lib.hid (cp_boxed HOxr.out HQxr.out HNSxr.out hgW)
            have HOyr := Lib.hid (cp_boxed HOyr.out HQxr.out HNSxr.out hgW)
            have HQyr := Lib.hid (HQyr.out.keep (hgW.block _ HQyr.out.lt (by have := HNE.out; simp; omega)))
            have HQxr := Lib.hid hbW; have HCWX := Lib.hid hblWX
            clear hW hW' hgW hbW hblWX
            refine hK.out _ _ ?_ (fun hHeld => ?_)
            · exact HBL.out _ HCWX.out
            clear hK K
            try simp only [Act.put, List.getElem_toArray, List.getElem_cons_zero, List.getElem_cons_succ, List.setIfInBounds_toArray, List.set_cons_zero, List.set_cons_succ]
            refine wpAnyH_ready (rs := [7]) (by kernel_rfl) (by simp) ?_
            refine AllReadyH.cons (o := _) rfl (fun K hK => ?_) AllReadyH.nil
            rw [if_pos (by rfl)]
            refine wp_store_mid 26 (.tmp 4) (.tmp 13) rfl qyr 0 #[.bool d.allow, .bool d.attrsAllow, .slice yrE nEyr kEyr, .slice yrR nRyr kRyr, .slice yrA nAyr kAyr, .slice yrP nPyr kPyr, .bool d.comments, .bool d.dataAttrs] rfl rfl (HQyr.out.there 8 rfl) size_conf (by simp [Value.oneCell']) ?_
            obtain ⟨WY, hW, hgW, hbW⟩ := res_hb HQyr.out rfl (.bool d.allow) (.bool d.attrsAllow) (.slice yrE nEyr kEyr) (.slice yrR nRyr kRyr) (.slice yrA nAyr kAyr) (.slice yrP nPyr kPyr) (.bool d.comments) (.bool d.dataAttrs)
            have hblWY : Below W1.heap.size W1 WY := Below.grown HCWX.out hgW (HCWX.out).size (fun q hq => by injection hq with hq; have := HLyr.out; omega)
            have hW' : WX.setCells qyr 0 (#[.bool d.allow, .bool d.attrsAllow, .slice yrE nEyr kEyr, .slice yrR nRyr kRyr, .slice yrA nAyr kAyr, .slice yrP nPyr kPyr, .bool d.comments, .bool d.dataAttrs] : Array Value).toList = WY := hW.symm
            rw [hW']
            have HOxr := Lib.hid (cp_boxed HOxr.out HQyr.out HNSyr.out hgW)
            have HOyr := Lib.hid (cp_boxed HOyr.out HQyr.out HNSyr.out hgW)
            have HQxr := Lib.hid (HQxr.out.keep (hgW.block _ HQxr.out.lt (by have := HNE.out; simp; omega)))
            have HQyr := Lib.hid hbW; have HCWY := Lib.hid hblWY
            clear hW hW' hgW hbW hblWY
            refine hK.out _ _ ?_ (fun hHeld => ?_)
            · exact HBL.out _ HCWY.out
            clear hK K
            try simp only [Act.put, List.getElem_toArray, List.getElem_cons_zero, List.getElem_cons_succ, List.setIfInBounds_toArray, List.set_cons_zero, List.set_cons_succ]
            refine wpAnyH_done (by kernel_rfl) ?_ _
            refine NoPanic.normal ?_
            go_wp2
            go_meet
            exact ⟨qxr, qyr, xrE, nExr, kExr, xrR, nRxr, kRxr, xrA, nAxr, kAxr, xrP, nPxr, kPxr, yrE, nEyr, kEyr, yrR, nRyr, kRyr, yrA, nAyr, kAyr, yrP, nPyr, kPyr, lxr, lyr, rfl, rfl, HLxr.out, HLyr.out, HQxr.out, HQyr.out, HOxr.out, HOyr.out, HCWY.out⟩
        · go_simp
          refine hK.out _ _ ?_ (fun hHeld => ?_)
          · exact HBL.out _ ((HAwyr1.out).alloc (HAwyr1.out).size _)
          clear hK K
          try simp only [Act.put, List.getElem_toArray, List.getElem_cons_zero, List.getElem_cons_succ, List.setIfInBounds_toArray, List.set_cons_zero, List.set_cons_succ]
          have hal : Below W1.heap.size W1 (wyr1.alloc (.cells #[.bool false, .bool false, .slice none 0 0, .slice none 0 0, .slice none 0 0, .slice none 0 0, .bool false, .bool false] 26)) := (HAwyr1.out).alloc (HAwyr1.out).size _
          have hhb : Hb (wyr1.alloc (.cells #[.bool false, .bool false, .slice none 0 0, .slice none 0 0, .slice none 0 0, .slice none 0 0, .bool false, .bool false] 26)) wyr1.heap.size #[.bool false, .bool false, .slice none 0 0, .slice none 0 0, .slice none 0 0, .slice none 0 0, .bool false, .bool false] := Hb.new wyr1 _
          have hbn : Below wyr1.heap.size wyr1 (wyr1.alloc (.cells #[.bool false, .bool false, .slice none 0 0, .slice none 0 0, .slice none 0 0, .slice none 0 0, .bool false, .bool false] 26)) := below_new12 wyr1 _
          have hlq : W1.heap.size ≤ wyr1.heap.size := (HAwyr1.out).size
          have hneq : qyr ≠ wyr1.heap.size := Nat.ne_of_lt HQyr.out.lt
          replace HQyr := Lib.hid (HQyr.out.on hbn)
          replace HOxr := Lib.hid (HOxr.out.on hbn)
          generalize hwk : (wyr1.alloc (.cells #[.bool false, .bool false, .slice none 0 0, .slice none 0 0, .slice none 0 0, .slice none 0 0, .bool false, .bool false] 26)) = wxr2 at *
          generalize hqk : wyr1.heap.size = qxr at *
          have HQxr := Lib.hid hhb; have HLxr := Lib.hid hlq; have HAwxr2 := Lib.hid hal
          clear hhb hlq hal hbn
          have HNE := Lib.hid hneq
          clear hneq
          refine wpAnyH_ready (rs := [3]) (by kernel_rfl) (by simp) ?_
          refine AllReadyH.cons (o := _) rfl (fun K hK => ?_) (AllReadyH.nil)
          · go_simp
            go_at_call 16
            refine (refStrip12 (confV d (.slice A1 n1 c1) (.slice A2 n2 c2) (.slice A3 n3 c3) (.slice A4 n4 c4)) d wxr2 (HCB.out _ HAwxr2.out) HSM.out).mono ?_
            rintro r uyr ⟨vyr, rfl, ho, hc⟩
            obtain ⟨vE, vR, vA, vP, lyr, rfl, ho⟩ := ho
            obtain ⟨yrE, nEyr, kEyr, rfl⟩ := sv_shape ho.e
            obtain ⟨yrR, nRyr, kRyr, rfl⟩ := sv_shape ho.r
            obtain ⟨yrA, nAyr, kAyr, rfl⟩ := sv_shape ho.a
            obtain ⟨yrP, nPyr, kPyr, rfl⟩ := pv_shape ho.p
            have HCyr := Lib.hid (show Below W1.heap.size W1 uyr from Below.trans HAwxr2.out (Below.mono hc (HAwxr2.out).size))
            have HOyr := Lib.hid (show Cp uyr uyr.heap.size (stripC d) _ _ _ _ lyr from ho)
            have HOxr := Lib.hid (HOxr.out.on hc)
            have HQyr := Lib.hid (HQyr.out.on hc)
            have HQxr := Lib.hid (HQxr.out.on hc)
            clear hc ho
            go_wp2_with fail
            refine hK.out _ _ ?_ (fun hHeld => ?_)
            · exact HBL.out _ HCyr.out
            clear hK K
            try simp only [Act.put, List.getElem_toArray, List.getElem_cons_zero, List.getElem_cons_succ, List.setIfInBounds_toArray, List.set_cons_zero, List.set_cons_succ]
            have HNSX := Lib.hid noZero
            have HNSxr := HNSX; have HNSyr := HNSX
            refine wpAnyH_ready (rs := [6]) (by kernel_rfl) (by simp) ?_
            refine AllReadyH.cons (o := _) rfl (fun K hK => ?_) AllReadyH.nil
            rw [if_pos (by rfl)]
            refine wp_store_mid 26 (.tmp 3) (.tmp 11) rfl qxr 0 #[.bool d.allow, .bool d.attrsAllow, .slice xrE nExr kExr, .slice xrR nRxr kRxr, .slice xrA nAxr kAxr, .slice xrP nPxr kPxr, .bool d.comments, .bool d.dataAttrs] rfl rfl (HQxr.out.there 8 rfl) size_conf (by simp [Value.oneCell']) ?_
            obtain ⟨WX, hW, hgW, hbW⟩ := res_hb HQxr.out rfl (.bool d.allow) (.bool d.attrsAllow) (.slice xrE nExr kExr) (.slice xrR nRxr kRxr) (.slice xrA nAxr kAxr) (.slice xrP nPxr kPxr) (.bool d.comments) (.bool d.dataAttrs)
            have hblWX : Below W1.heap.size W1 WX := Below.grown HCyr.out hgW (HCyr.out).size (fun q hq => by injection hq with hq; have := HLxr.out; omega)
            have hW' : uyr.setCells qxr 0 (#[.bool d.allow, .bool d.attrsAllow, .slice xrE nExr kExr, .slice xrR nRxr kRxr, .slice xrA nAxr kAxr, .slice xrP nPxr kPxr, .bool d.comments, .bool d.dataAttrs] : Array Value).toList = WX := hW.symm
            rw [hW']
            have HOxr := Lib.hid (cp_boxed HOxr.out HQxr.out HNSxr.out hgW)
            have HOyr := Lib.hid (cp_boxed HOyr.out HQxr.out HNSxr.out hgW)
            have HQyr := Lib.hid (HQyr.out.keep (hgW.block _ HQyr.out.lt (by have := HNE.out; simp; omega)))
            have HQxr := Lib.hid hbW; have HCWX := Lib.hid hblWX
            clear hW hW' hgW hbW hblWX
            refine hK.out _ _ ?_ (fun hHeld => ?_)
            · exact HBL.out _ HCWX.out
            clear hK K
            try simp only [Act.put, List.getElem_toArray, List.getElem_cons_zero, List.getElem_cons_succ, List.setIfInBounds_toArray, List.set_cons_zero, List.set_cons_succ]
            refine wpAnyH_ready (rs := [7]) (by kernel_rfl) (by simp) ?_
            refine AllReadyH.cons (o := _) rfl (fun K hK => ?_) AllReadyH.nil
            rw [if_pos (by rfl)]
            refine wp_store_mid 26 (.tmp 4) (.tmp 13) rfl qyr 0 #[.bool d.allow, .bool d.attrsAllow, .slice yrE nEyr kEyr, .slice yrR nRyr kRyr, .slice yrA nAyr kAyr, .slice yrP nPyr kPyr, .bool d.comments, .bool d.dataAttrs] rfl rfl (HQyr.out.there 8 rfl) size_conf (by simp [Value.oneCell']) ?_
            obtain ⟨WY, hW, hgW, hbW⟩ := res_hb HQyr.out rfl (.bool d.allow) (.bool d.attrsAllow) (.slice yrE nEyr kEyr) (.slice yrR nRyr kRyr) (.slice yrA nAyr kAyr) (.slice yrP nPyr kPyr) (.bool d.comments) (.bool d.dataAttrs)
            have hblWY : Below W1.heap.size W1 WY := Below.grown HCWX.out hgW (HCWX.out).size (fun q hq => by injection hq with hq; have := HLyr.out; omega)
            have hW' : WX.setCells qyr 0 (#[.bool d.allow, .bool d.attrsAllow, .slice yrE nEyr kEyr, .slice yrR nRyr kRyr, .slice yrA nAyr kAyr, .slice yrP nPyr kPyr, .bool d.comments, .bool d.dataAttrs] : Array Value).toList = WY := hW.symm
            rw [hW']
            have HOxr := Lib.hid (cp_boxed HOxr.out HQyr.out HNSyr.out hgW)
            have HOyr := Lib.hid (cp_boxed HOyr.out HQyr.out HNSyr.out hgW)
            have HQxr := Lib.hid (HQxr.out.keep (hgW.block _ HQxr.out.lt (by have := HNE.out; simp; omega)))
            have HQyr := Lib.hid hbW; have HCWY := Lib.hid hblWY
            clear hW hW' hgW hbW hblWY
            refine hK.out _ _ ?_ (fun hHeld => ?_)
            · exact HBL.out _ HCWY.out
            clear hK K
            try simp only [Act.put, List.getElem_toArray, List.getElem_cons_zero, List.getElem_cons_succ, List.setIfInBounds_toArray, List.set_cons_zero, List.set_cons_succ]
            refine wpAnyH_done (by kernel_rfl) ?_ _
            refine NoPanic.normal ?_
            go_wp2
            go_meet
            exact ⟨qxr, qyr, xrE, nExr, kExr, xrR, nRxr, kRxr, xrA, nAxr, kAxr, xrP, nPxr, kPxr, yrE, nEyr, kEyr, yrR, nRyr, kRyr, yrA, nAyr, kAyr, yrP, nPyr, kPyr, lxr, lyr, rfl, rfl, HLxr.out, HLyr.out, HQxr.out, HQyr.out, HOxr.out, HOyr.out, HCWY.out⟩
    · go_simp
      refine hK.out _ _ ?_ (fun hHeld => ?_)
      · exact HBL.out _ (((show Below W1.heap.size W1 W1.drew from bel_eq12 (Below.refl _ W1) rfl rfl rfl rfl)).alloc ((show Below W1.heap.size W1 W1.drew from bel_eq12 (Below.refl _ W1) rfl rfl rfl rfl)).size _)
      clear hK K
      try simp only [Act.put, List.getElem_toArray, List.getElem_cons_zero, List.getElem_cons_succ, List.setIfInBounds_toArray, List.set_cons_zero, List.set_cons_succ]
      have hal : Below W1.heap.size W1 (W1.alloc (.cells #[.bool false, .bool false, .slice none 0 0, .slice none 0 0, .slice none 0 0, .slice none 0 0, .bool false, .bool false] 26)).drew := bel_eq12 ((Below.refl _ W1).alloc (Nat.le_refl _) _) rfl rfl rfl rfl
      have hhb : Hb (W1.alloc (.cells #[.bool false, .bool false, .slice none 0 0, .slice none 0 0, .slice none 0 0, .slice none 0 0, .bool false, .bool false] 26)).drew W1.heap.size #[.bool false, .bool false, .slice none 0 0, .slice none 0 0, .slice none 0 0, .slice none 0 0, .bool false, .bool false] := Hb.new W1 _
      have hbn : Below W1.heap.size W1 (W1.alloc (.cells #[.bool false, .bool false, .slice none 0 0, .slice none 0 0, .slice none 0 0, .slice none 0 0, .bool false, .bool false] 26)).drew := bel_eq12 (below_new12 W1 _) rfl rfl rfl rfl
      have hlq : W1.heap.size ≤ W1.heap.size := Nat.le_refl _
      generalize hwk : (W1.alloc (.cells #[.bool false, .bool false, .slice none 0 0, .slice none 0 0, .slice none 0 0, .slice none 0 0, .bool false, .bool false] 26)).drew = wxr0 at *
      obtain ⟨qxr, hqk⟩ : ∃ q, W1.heap.size = q := ⟨_, rfl⟩
      rw [hqk]
      rw [hqk] at hhb
      replace hlq : W1.heap.size ≤ qxr := by rw [← hqk]; exact Nat.le_refl _
      have HQxr := Lib.hid hhb; have HLxr := Lib.hid hlq; have HAwxr0 := Lib.hid hal
      clear hhb hlq hal hbn
      refine wpAnyH_ready (rs := [1, 5]) (by kernel_rfl) (by simp) ?_
      refine AllReadyH.cons (o := _) rfl (fun K hK => ?_) (AllReadyH.cons (o := _) rfl (fun K hK => ?_) (AllReadyH.nil))
      · go_simp
        go_at_call 15
        refine (refCanon12 (confV d (.slice A1 n1 c1) (.slice A2 n2 c2) (.slice A3 n3 c3) (.slice A4 n4 c4)) d wxr0 (HCB.out _ HAwxr0.out) HSM.out).mono ?_
        rintro r uxr ⟨vxr, rfl, ho, hc⟩
        obtain ⟨vE, vR, vA, vP, lxr, rfl, ho⟩ := ho
        obtain ⟨xrE, nExr, kExr, rfl⟩ := sv_shape ho.e
        obtain ⟨xrR, nRxr, kRxr, rfl⟩ := sv_shape ho.r
        obtain ⟨xrA, nAxr, kAxr, rfl⟩ := sv_shape ho.a
        obtain ⟨xrP, nPxr, kPxr, rfl⟩ := pv_shape ho.p
        have HCxr := Lib.hid (show Below W1.heap.size W1 uxr from Below.trans HAwxr0.out (Below.mono hc (HAwxr0.out).size))
        have HOxr := Lib.hid (show Cp uxr uxr.heap.size (canonC d) _ _ _ _ lxr from ho)
        have HQxr := Lib.hid (HQxr.out.on hc)
        clear hc ho
        go_wp2_with fail
        refine hK.out _ _ ?_ (fun hHeld => ?_)
        · exact HBL.out _ HCxr.out
        clear hK K
        try simp only [Act.put, List.getElem_toArray, List.getElem_cons_zero, List.getElem_cons_succ, List.setIfInBounds_toArray, List.set_cons_zero, List.set_cons_succ]
        refine wpAnyH_ready (rs := [3, 5]) (by kernel_rfl) (by simp) ?_
        refine AllReadyH.cons (o := _) rfl (fun K hK => ?_) (AllReadyH.cons (o := _) rfl (fun K hK => ?_) (AllReadyH.nil))
        · go_simp
          go_at_call 16
          refine (refStrip12 (confV d (.slice A1 n1 c1) (.slice A2 n2 c2) (.slice A3 n3 c3) (.slice A4 n4 c4)) d uxr (HCB.out _ HCxr.out) HSM.out).mono ?_
          rintro r uyr ⟨vyr, rfl, ho, hc⟩
          obtain ⟨vE, vR, vA, vP, lyr, rfl, ho⟩ := ho
          obtain ⟨yrE, nEyr, kEyr, rfl⟩ := sv_shape ho.e
          obtain ⟨yrR, nRyr, kRyr, rfl⟩ := sv_shape ho.r
          obtain ⟨yrA, nAyr, kAyr, rfl⟩ := sv_shape ho.a
          obtain ⟨yrP, nPyr, kPyr, rfl⟩ := pv_shape ho.p
          have HCyr := Lib.hid (show Below W1.heap.size W1 uyr from Below.trans HCxr.out (Below.mono hc (HCxr.out).size))
          have HOyr := Lib.hid (show Cp uyr uyr.heap.size (stripC d) _ _ _ _ lyr from ho)
          have HOxr := Lib.hid (HOxr.out.on hc)
          have HQxr := Lib.hid (HQxr.out.on hc)
          clear hc ho
          go_wp2_with fail
          refine hK.out _ _ ?_ (fun hHeld => ?_)
          · exact HBL.out _ HCyr.out
          clear hK K
          try simp only [Act.put, List.getElem_toArray, List.getElem_cons_zero, List.getElem_cons_succ, List.setIfInBounds_toArray, List.set_cons_zero, List.set_cons_succ]
          refine wpAnyH_ready (rs := [5]) (by kernel_rfl) (by simp) ?_
          refine AllReadyH.cons (o := _) rfl (fun K hK => ?_) (AllReadyH.nil)
          · go_simp
            refine hK.out _ _ ?_ (fun hHeld => ?_)
            · exact HBL.out _ ((HCyr.out).alloc (HCyr.out).size _)
            clear hK K
            try simp only [Act.put, List.getElem_toArray, List.getElem_cons_zero, List.getElem_cons_succ, List.setIfInBounds_toArray, List.set_cons_zero, List.set_cons_succ]
            have hal : Below W1.heap.size W1 (uyr.alloc (.cells #[.bool false, .bool false, .slice none 0 0, .slice none 0 0, .slice none 0 0, .slice none 0 0, .bool false, .bool false] 26)) := (HCyr.out).alloc (HCyr.out).size _
            have hhb : Hb (uyr.alloc (.cells #[.bool false, .bool false, .slice none 0 0, .slice none 0 0, .slice none 0 0, .slice none 0 0, .bool false, .bool false] 26)) uyr.heap.size #[.bool false, .bool false, .slice none 0 0, .slice none 0 0, .slice none 0 0, .slice none 0 0, .bool false, .bool false] := Hb.new uyr _
            have hbn : Below uyr.heap.size uyr (uyr.alloc (.cells #[.bool false, .bool false, .slice none 0 0, .slice none 0 0, .slice none 0 0, .slice none 0 0, .bool false, .bool false] 26)) := below_new12 uyr _
            have hlq : W1.heap.size ≤ uyr.heap.size := (HCyr.out).size
            have hneq : qxr ≠ uyr.heap.size := Nat.ne_of_lt HQxr.out.lt
            replace HQxr := Lib.hid (HQxr.out.on hbn)
            replace HOxr := Lib.hid (HOxr.out.on hbn)
            replace HOyr := Lib.hid (HOyr.out.on hbn)
            generalize hwk : (uyr.alloc (.cells #[.bool false, .bool false, .slice none 0 0, .slice none 0 0, .slice none 0 0, .slice none 0 0, .bool false, .bool false] 26)) = wyr3 at *
            generalize hqk : uyr.heap.size = qyr at *
            have HQyr := Lib.hid hhb; have HLyr := Lib.hid hlq; have HAwyr3 := Lib.hid hal
            clear hhb hlq hal hbn
            have HNE := Lib.hid hneq
            clear hneq
            have HNSX := Lib.hid noZero
            have HNSxr := HNSX; have HNSyr := HNSX
            refine wpAnyH_ready (rs := [6]) (by kernel_rfl) (by simp) ?_
            refine AllReadyH.cons (o := _) rfl (fun K hK => ?_) AllReadyH.nil
            rw [if_pos (by rfl)]
            refine wp_store_mid 26 (.tmp 3) (.tmp 11) rfl qxr 0 #[.bool d.allow, .bool d.attrsAllow, .slice xrE nExr kExr, .slice xrR nRxr kRxr, .slice xrA nAxr kAxr, .slice xrP nPxr kPxr, .bool d.comments, .bool d.dataAttrs] rfl rfl (HQxr.out.there 8 rfl) size_conf (by simp [Value.oneCell']) ?_
            obtain ⟨WX, hW, hgW, hbW⟩ := res_hb HQxr.out rfl (.bool d.allow) (.bool d.attrsAllow) (.slice xrE nExr kExr) (.slice xrR nRxr kRxr) (.slice xrA nAxr kAxr) (.slice xrP nPxr kPxr) (.bool d.comments) (.bool d.dataAttrs)
            have hblWX : Below W1.heap.size W1 WX := Below.grown HAwyr3.out hgW (HAwyr3.out).size (fun q hq => by injection hq with hq; have := HLxr.out; omega)
            have hW' : wyr3.setCells qxr 0 (#[.bool d.allow, .bool d.attrsAllow, .slice xrE nExr kExr, .slice xrR nRxr kRxr, .slice xrA nAxr kAxr, .slice xrP nPxr kPxr, .bool d.comments, .bool d.dataAttrs] : Array Value).toList = WX := hW.symm
            rw [hW']
            have HOxr := Lib.hid (cp_boxed HOxr.out HQxr.out HNSxr.out hgW)
            have HOyr := Lib.hid (cp_boxed HOyr.out HQxr.out HNSxr.out hgW)
            have HQyr := Lib.hid (HQyr.out.keep (hgW.block _ HQyr.out.lt (by have := HNE.out; simp; omega)))
            have HQxr := Lib.hid hbW; have HCWX := Lib.hid hblWX
            clear hW hW' hgW hbW hblWX
            refine hK.out _ _ ?_ (fun hHeld => ?_)
            · exact HBL.out _ HCWX.out
            clear hK K
            try simp only [Act.put, List.getElem_toArray, List.getElem_cons_zero, List.getElem_cons_succ, List.setIfInBounds_toArray, List.set_cons_zero, List.set_cons_succ]
            refine wpAnyH_ready (rs := [7]) (by kernel_rfl) (by simp) ?_
            refine AllReadyH.cons (o := _) rfl (fun K hK => ?_) AllReadyH.nil
            rw [if_pos (by rfl)]
            refine wp_store_mid 26 (.tmp 4) (.tmp 13) rfl qyr 0 #[.bool d.allow, .bool d.attrsAllow, .slice yrE nEyr kEyr, .slice yrR nRyr kRyr, .slice yrA nAyr kAyr, .slice yrP nPyr kPyr, .bool d.comments, .bool d.dataAttrs] rfl rfl (HQyr.out.there 8 rfl) size_conf (by simp [Value.oneCell']) ?_
            obtain ⟨WY, hW, hgW, hbW⟩ := res_hb HQyr.out rfl (.bool d.allow) (.bool d.attrsAllow) (.slice yrE nEyr kEyr) (.slice yrR nRyr kRyr) (.slice yrA nAyr kAyr) (.slice yrP nPyr kPyr) (.bool d.comments) (.bool d.dataAttrs)
            have hblWY : Below W1.heap.size W1 WY := Below.grown HCWX.out hgW (HCWX.out).size (fun q hq => by injection hq with hq; have := HLyr.out; omega)
            have hW' : WX.setCells qyr 0 (#[.bool d.allow, .bool d.attrsAllow, .slice yrE nEyr kEyr, .slice yrR nRyr kRyr, .slice yrA nAyr kAyr, .slice yrP nPyr kPyr, .bool d.comments, .bool d.dataAttrs] : Array Value).toList = WY := hW.symm
            rw [hW']
            have HOxr := Lib.hid (cp_boxed HOxr.out HQyr.out HNSyr.out hgW)
            have HOyr := Lib.hid (cp_boxed HOyr.out HQyr.out HNSyr.out hgW)
            have HQxr := Lib.hid (HQxr.out.keep (hgW.block _ HQxr.out.lt (by have := HNE.out; simp; omega)))
            have HQyr := Lib.hid hbW; have HCWY := Lib.hid hblWY
            clear hW hW' hgW hbW hblWY
            refine hK.out _ _ ?_ (fun hHeld => ?_)
            · exact HBL.out _ HCWY.out
            clear hK K
            try simp only [Act.put, List.getElem_toArray, List.getElem_cons_zero, List.getElem_cons_succ, List.setIfInBounds_toArray, List.set_cons_zero, List.set_cons_succ]
            refine wpAnyH_done (by kernel_rfl) ?_ _
            refine NoPanic.normal ?_
            go_wp2
            go_meet
            exact ⟨qxr, qyr, xrE, nExr, kExr, xrR, nRxr, kRxr, xrA, nAxr, kAxr, xrP, nPxr, kPxr, yrE, nEyr, kEyr, yrR, nRyr, kRyr, yrA, nAyr, kAyr, yrP, nPyr, kPyr, lxr, lyr, rfl, rfl, HLxr.out, HLyr.out, HQxr.out, HQyr.out, HOxr.out, HOyr.out, HCWY.out⟩
        · go_simp
          refine hK.out _ _ ?_ (fun hHeld => ?_)
          · exact HBL.out _ ((HCxr.out).alloc (HCxr.out).size _)
          clear hK K
          try simp only [Act.put, List.getElem_toArray, List.getElem_cons_zero, List.getElem_cons_succ, List.setIfInBounds_toArray, List.set_cons_zero, List.set_cons_succ]
          have hal : Below W1.heap.size W1 (uxr.alloc (.cells #[.bool false, .bool false, .slice none 0 0, .slice none 0 0, .slice none 0 0, .slice none 0 0, .bool false, .bool false] 26)) := (HCxr.out).alloc (HCxr.out).size _
          have hhb : Hb (uxr.alloc (.cells #[.bool false, .bool false, .slice none 0 0, .slice none 0 0, .slice none 0 0, .slice none 0 0, .bool false, .bool false] 26)) uxr.heap.size #[.bool false, .bool false, .slice none 0 0, .slice none 0 0, .slice none 0 0, .slice none 0 0, .bool false, .bool false] := Hb.new uxr _
          have hbn : Below uxr.heap.size uxr (uxr.alloc (.cells #[.bool false, .bool false, .slice none 0 0, .slice none 0 0, .slice none 0 0, .slice none 0 0, .bool false, .bool false] 26)) := below_new12 uxr _
          have hlq : W1.heap.size ≤ uxr.heap.size := (HCxr.out).size
          have hneq : qxr ≠ uxr.heap.size := Nat.ne_of_lt HQxr.out.lt
          replace HQxr := Lib.hid (HQxr.out.on hbn)
          replace HOxr := Lib.hid (HOxr.out.on hbn)
          generalize hwk : (uxr.alloc (.cells #[.bool false, .bool false, .slice none 0 0, .slice none 0 0, .slice none 0 0, .slice none 0 0, .bool false, .bool false] 26)) = wyr2 at *
          generalize hqk : uxr.heap.size = qyr at *
          have HQyr := Lib.hid hhb; have HLyr := Lib.hid hlq; have HAwyr2 := Lib.hid hal
          clear hhb hlq hal hbn
          have HNE := Lib.hid hneq
          clear hneq
          refine wpAnyH_ready (rs := [3]) (by kernel_rfl) (by simp) ?_
          refine AllReadyH.cons (o := _) rfl (fun K hK => ?_) (AllReadyH.nil)
          · go_simp
            go_at_call 16
            refine (refStrip12 (confV d (.slice A1 n1 c1) (.slice A2 n2 c2) (.slice A3 n3 c3) (.slice A4 n4 c4)) d wyr2 (HCB.out _ HAwyr2.out) HSM.out).mono ?_
            rintro r uyr ⟨vyr, rfl, ho, hc⟩
            obtain ⟨vE, vR, vA, vP, lyr, rfl, ho⟩ := ho
            obtain ⟨yrE, nEyr, kEyr, rfl⟩ := sv_shape ho.e
            obtain ⟨yrR, nRyr, kRyr, rfl⟩ := sv_shape ho.r
            obtain ⟨yrA, nAyr, kAyr, rfl⟩ := sv_shape ho.a
            obtain ⟨yrP, nPyr, kPyr, rfl⟩ := pv_shape ho.p
            have HCyr := Lib.hid (show Below W1.heap.size W1 uyr from Below.trans HAwyr2.out (Below.mono hc (HAwyr2.out).size))
            have HOyr := Lib.hid (show Cp uyr uyr.heap.size (stripC d) _ _ _ _ lyr from ho)
            have HOxr := Lib.hid (HOxr.out.on hc)
            have HQxr := Lib.hid (HQxr.out.on hc)
            have HQyr := Lib.hid (HQyr.out.on hc)
            clear hc ho
            go_wp2_with fail
            refine hK.out _ _ ?_ (fun hHeld => ?_)
            · exact HBL.out _ HCyr.out
            clear hK K
            try simp only [Act.put, List.getElem_toArray, List.getElem_cons_zero, List.getElem_cons_succ, List.setIfInBounds_toArray, List.set_cons_zero, List.set_cons_succ]
            have HNSX := Lib.hid noZero
            have HNSxr := HNSX; have HNSyr := HNSX
            refine wpAnyH_ready (rs := [6]) (by kernel_rfl) (by simp) ?_
            refine AllReadyH.cons (o := _) rfl (fun K hK => ?_) AllReadyH.nil
            rw [if_pos (by rfl)]
            refine wp_store_mid 26 (.tmp 3) (.tmp 11) rfl qxr 0 #[.bool d.allow, .bool d.attrsAllow, .slice xrE nExr kExr, .slice xrR nRxr kRxr, .slice xrA nAxr kAxr, .slice xrP nPxr kPxr, .bool d.comments, .bool d.dataAttrs] rfl rfl (HQxr.out.there 8 rfl) size_conf (by simp [Value.oneCell']) ?_
            obtain ⟨WX, hW, hgW, hbW⟩ := res_hb HQxr.out rfl (.bool d.allow) (.bool d.attrsAllow) (.slice xrE nExr kExr) (.slice xrR nRxr kRxr) (.slice xrA nAxr kAxr) (.slice xrP nPxr kPxr) (.bool d.comments) (.bool d.dataAttrs)
            have hblWX : Below W1.heap.size W1 WX := Below.grown HCyr.out hgW (HCyr.out).size (fun q hq => by injection hq with hq; have := HLxr.out; omega)
            have hW' : uyr.setCells qxr 0 (#[.bool d.allow, .bool d.attrsAllow, .slice xrE nExr kExr, .slice xrR nRxr kRxr, .slice xrA nAxr kAxr, .slice xrP nPxr kPxr, .bool d.comments, .bool d.dataAttrs] : Array Value).toList = WX := hW.symm
            rw [hW']
            have HOxr := Lib.hid (cp_boxed HOxr.out HQxr.out HNSxr.out hgW)
            have HOyr := Lib.hid (cp_boxed HOyr.out HQxr.out HNSxr.out hgW)
            have HQyr := Lib.hid (HQyr.out.keep (hgW.block _ HQyr.out.lt (by have := HNE.out; simp; omega)))
            have HQxr := Lib.hid hbW; have HCWX := Lib.hid hblWX
            clear hW hW' hgW hbW hblWX
            refine hK.out _ _ ?_ (fun hHeld => ?_)
            · exact HBL.out _ HCWX.out
            clear hK K
            try simp only [Act.put, List.getElem_toArray, List.getElem_cons_zero, List.getElem_cons_succ, List.setIfInBounds_toArray, List.set_cons_zero, List.set_cons_succ]
            refine wpAnyH_ready (rs := [7]) (by kernel_rfl) (by simp) ?_
            refine AllReadyH.cons (o := _) rfl (fun K hK => ?_) AllReadyH.nil
            rw [if_pos (by rfl)]
            refine wp_store_mid 26 (.tmp 4) (.tmp 13) rfl qyr 0 #[.bool d.allow, .bool d.attrsAllow, .slice yrE nEyr kEyr, .slice yrR nRyr kRyr, .slice yrA nAyr kAyr, .slice yrP nPyr kPyr, .bool d.comments, .bool d.dataAttrs] rfl rfl (HQyr.out.there 8 rfl) size_conf (by simp [Value.oneCell']) ?_
            obtain ⟨WY, hW, hgW, hbW⟩ := res_hb HQyr.out rfl (.bool d.allow) (.bool d.attrsAllow) (.slice yrE nEyr kEyr) (.slice yrR nRyr kRyr) (.slice yrA nAyr kAyr) (.slice yrP nPyr kPyr) (.bool d.comments) (.bool d.dataAttrs)
            have hblWY : Below W1.heap.size W1 WY := Below.grown HCWX.out hgW (HCWX.out).size (fun q hq => by injection hq with hq; have := HLyr.out; omega)
            have hW' : WX.setCells qyr 0 (#[.bool d.allow, .bool d.attrsAllow, .slice yrE nEyr kEyr, .slice yrR nRyr kRyr, .slice yrA nAyr kAyr, .slice yrP nPyr kPyr, .bool d.comments, .bool d.dataAttrs] : Array Value).toList = WY := hW.symm
            rw [hW']
            have HOxr := Lib.hid (cp_boxed HOxr.out HQyr.out HNSyr.out hgW)
            have HOyr := Lib.hid (cp_boxed HOyr.out HQyr.out HNSyr.out hgW)
            have HQxr := Lib.hid (HQxr.out.keep (hgW.block _ HQxr.out.lt (by have := HNE.out; simp; omega)))
            have HQyr := Lib.hid hbW; have HCWY := Lib.hid hblWY
            clear hW hW' hgW hbW hblWY
            refine hK.out _ _ ?_ (fun hHeld => ?_)
            · exact HBL.out _ HCWY.out
            clear hK K
            try simp only [Act.put, List.getElem_toArray, List.getElem_cons_zero, List.getElem_cons_succ, List.setIfInBounds_toArray, List.set_cons_zero, List.set_cons_succ]
            refine wpAnyH_done (by kernel_rfl) ?_ _
            refine NoPanic.normal ?_
            go_wp2
            go_meet
            exact ⟨qxr, qyr, xrE, nExr, kExr, xrR, nRxr, kRxr, xrA, nAxr, kAxr, xrP, nPxr, kPxr, yrE, nEyr, kEyr, yrR, nRyr, kRyr, yrA, nAyr, kAyr, yrP, nPyr, kPyr, lxr, lyr, rfl, rfl, HLxr.out, HLyr.out, HQxr.out, HQyr.out, HOxr.out, HOyr.out, HCWY.out⟩
      · go_simp
        refine hK.out _ _ ?_ (fun hHeld => ?_)
        · exact HBL.out _ ((HAwxr0.out).alloc (HAwxr0.out).size _)
        clear hK K
        try simp only [Act.put, List.getElem_toArray, List.getElem_cons_zero, List.getElem_cons_succ, List.setIfInBounds_toArray, List.set_cons_zero, List.set_cons_succ]
        have hal : Below W1.heap.size W1 (wxr0.alloc (.cells #[.bool false, .bool false, .slice none 0 0, .slice none 0 0, .slice none 0 0, .slice none 0 0, .bool false, .bool false] 26)) := (HAwxr0.out).alloc (HAwxr0.out).size _
        have hhb : Hb (wxr0.alloc (.cells #[.bool false, .bool false, .slice none 0 0, .slice none 0 0, .slice none 0 0, .slice none 0 0, .bool false, .bool false] 26)) wxr0.heap.size #[.bool false, .bool false, .slice none 0 0, .slice none 0 0, .slice none 0 0, .slice none 0 0, .bool false, .bool false] := Hb.new wxr0 _
        have hbn : Below wxr0.heap.size wxr0 (wxr0.alloc (.cells #[.bool false, .bool false, .slice none 0 0, .slice none 0 0, .slice none 0 0, .slice none 0 0, .bool false, .bool false] 26)) := below_new12 wxr0 _
        have hlq : W1.heap.size ≤ wxr0.heap.size := (HAwxr0.out).size
        have hneq : qxr ≠ wxr0.heap.size := Nat.ne_of_lt HQxr.out.lt
        replace HQxr := Lib.hid (HQxr.out.on hbn)
        generalize hwk : (wxr0.alloc (.cells #[.bool false, .bool false, .slice none 0 0, .slice none 0 0, .slice none 0 0, .slice none 0 0, .bool false, .bool false] 26)) = wyr1 at *
        generalize hqk : wxr0.heap.size = qyr at *
        have HQyr := Lib.hid hhb; have HLyr := Lib.hid hlq; have HAwyr1 := Lib.hid hal
        clear hhb hlq hal hbn
        have HNE := Lib.hid hneq
        clear hneq
        refine wpAnyH_ready (rs := [1]) (by kernel_rfl) (by simp) ?_
        refine AllReadyH.cons (o := _) rfl (fun K hK => ?_) (AllReadyH.nil)
        · go_simp
          go_at_call 15
          refine (refCanon12 (confV d (.slice A1 n1 c1) (.slice A2 n2 c2) (.slice A3 n3 c3) (.slice A4 n4 c4)) d wyr1 (HCB.out _ HAwyr1.out) HSM.out).mono ?_
          rintro r uxr ⟨vxr, rfl, ho, hc⟩
          obtain ⟨vE, vR, vA, vP, lxr, rfl, ho⟩ := ho
          obtain ⟨xrE, nExr, kExr, rfl⟩ := sv_shape ho.e
          obtain ⟨xrR, nRxr, kRxr, rfl⟩ := sv_shape ho.r
          obtain ⟨xrA, nAxr, kAxr, rfl⟩ := sv_shape ho.a
          obtain ⟨xrP, nPxr, kPxr, rfl⟩ := pv_shape ho.p
          have HCxr := Lib.hid (show Below W1.heap.size W1 uxr from Below.trans HAwyr1.out (Below.mono hc (HAwyr1.out).size))
          have HOxr := Lib.hid (show Cp uxr uxr.heap.size (canonC d) _ _ _ _ lxr from ho)
          have HQxr := Lib.hid (HQxr.out.on hc)
          have HQyr := Lib.hid (HQyr.out.on hc)
          clear hc ho
          go_wp2_with fail
          refine hK.out _ _ ?_ (fun hHeld => ?_)
          · exact HBL.out _ HCxr.out
          clear hK K
          try simp only [Act.put, List.getElem_toArray, List.getElem_cons_zero, List.getElem_cons_succ, List.setIfInBounds_toArray, List.set_cons_zero, List.set_cons_succ]
          refine wpAnyH_ready (rs := [3]) (by kernel_rfl) (by simp) ?_
          refine AllReadyH.cons (o := _) rfl (fun K hK => ?_) (AllReadyH.nil)
          · go_simp
            go_at_call 16
            refine (refStrip12 (confV d (.slice A1 n1 c1) (.slice A2 n2 c2) (.slice A3 n3 c3) (.slice A4 n4 c4)) d uxr (HCB.out _ HCxr.out) HSM.out).mono ?_
            rintro r uyr ⟨vyr, rfl, ho, hc⟩
            obtain ⟨vE, vR, vA, vP, lyr, rfl, ho⟩ := ho
            obtain ⟨yrE, nEyr, kEyr, rfl⟩ := sv_shape ho.e
            obtain ⟨yrR, nRyr, kRyr, rfl⟩ := sv_shape ho.r
            obtain ⟨yrA, nAyr, kAyr, rfl⟩ := sv_shape ho.a
            obtain ⟨yrP, nPyr, kPyr, rfl⟩ := pv_shape ho.p
            have HCyr := Lib.hid (show Below W1.heap.size W1 uyr from Below.trans HCxr.out (Below.mono hc (HCxr.out).size))
            have HOyr := Lib.hid (show Cp uyr uyr.heap.size (stripC d) _ _ _ _ lyr from ho)
            have HOxr := Lib.hid (HOxr.out.on hc)
            have HQxr := Lib.hid (HQxr.out.on hc)
            have HQyr := Lib.hid (HQyr.out.on hc)
            clear hc ho
            go_wp2_with fail
            refine hK.out _ _ ?_ (fun hHeld => ?_)
            · exact HBL.out _ HCyr.out
            clear hK K
            try simp only [Act.put, List.getElem_toArray, List.getElem_cons_zero, List.getElem_cons_succ, List.setIfInBounds_toArray, List.set_cons_zero, List.set_cons_succ]
            have HNSX := Lib.hid noZero
            have HNSxr := HNSX; have HNSyr := HNSX
            refine wpAnyH_ready (rs := [6]) (by kernel_rfl) (by simp) ?_
            refine AllReadyH.cons (o := _) rfl (fun K hK => ?_) AllReadyH.nil
            rw [if_pos (by rfl)]
            refine wp_store_mid 26 (.tmp 3) (.tmp 11) rfl qxr 0 #[.bool d.allow, .bool d.attrsAllow, .slice xrE nExr kExr, .slice xrR nRxr kRxr, .slice xrA nAxr kAxr, .slice xrP nPxr kPxr, .bool d.comments, .bool d.dataAttrs] rfl rfl (HQxr.out.there 8 rfl) size_conf (by simp [Value.oneCell']) ?_
            obtain ⟨WX, hW, hgW, hbW⟩ := res_hb HQxr.out rfl (.bool d.allow) (.bool d.attrsAllow) (.slice xrE nExr kExr) (.slice xrR nRxr kRxr) (.slice xrA nAxr kAxr) (.slice xrP nPxr kPxr) (.bool d.comments) (.bool d.dataAttrs)
            have hblWX : Below W1.heap.size W1 WX := Below.grown HCyr.out hgW (HCyr.out).size (fun q hq => by injection hq with hq; have := HLxr.out; omega)
            have hW' : uyr.setCells qxr 0 (#[.bool d.allow, .bool d.attrsAllow, .slice xrE nExr kExr, .slice xrR nRxr kRxr, .slice xrA nAxr kAxr, .slice xrP nPxr kPxr, .bool d.comments, .bool d.dataAttrs] : Array Value).toList = WX := hW.symm
            rw [hW']
            have HOxr := Lib.hid (cp_boxed HOxr.out HQxr.out HNSxr.out hgW)
            have HOyr := Lib.hid (cp_boxed HOyr.out HQxr.out HNSxr.out hgW)
            have HQyr := Lib.hid (HQyr.out.keep (hgW.block _ HQyr.out.lt (by have := HNE.out; simp; omega)))
            have HQxr := Lib.hid hbW; have HCWX := Lib.hid hblWX
            clear hW hW' hgW hbW hblWX
            refine hK.out _ _ ?_ (fun hHeld => ?_)
            · exact HBL.out _ HCWX.out
            clear hK K
            try simp only [Act.put, List.getElem_toArray, List.getElem_cons_zero, List.getElem_cons_succ, List.setIfInBounds_toArray, List.set_cons_zero, List.set_cons_succ]
            refine wpAnyH_ready (rs := [7]) (by kernel_rfl) (by simp) ?_
            refine AllReadyH.cons (o := _) rfl (fun K hK => ?_) AllReadyH.nil
            rw [if_pos (by rfl)]
            refine wp_store_mid 26 (.tmp 4) (.tmp 13) rfl qyr 0 #[.bool d.allow, .bool d.attrsAllow, .slice yrE nEyr kEyr, .slice yrR nRyr kRyr, .slice yrA nAyr kAyr, .slice yrP nPyr kPyr, .bool d.comments, .bool d.dataAttrs] rfl rfl (HQyr.out.there 8 rfl) size_conf (by simp [Value.oneCell']) ?_
            obtain ⟨WY, hW, hgW, hbW⟩ := res_hb HQyr.out rfl (.bool d.allow) (.bool d.attrsAllow) (.slice yrE nEyr kEyr) (.slice yrR nRyr kRyr) (.slice yrA nAyr kAyr) (.slice yrP nPyr kPyr) (.bool d.comments) (.bool d.dataAttrs)
            have hblWY : Below W1.heap.size W1 WY := Below.grown HCWX.out hgW (HCWX.out).size (fun q hq => by injection hq with hq; have := HLyr.out; omega)
            have hW' : WX.setCells qyr 0 (#[.bool d.allow, .bool d.attrsAllow, .slice yrE nEyr kEyr, .slice yrR nRyr kRyr, .slice yrA nAyr kAyr, .slice yrP nPyr kPyr, .bool d.comments, .bool d.dataAttrs] : Array Value).toList = WY := hW.symm
            rw [hW']
            have HOxr := Lib.hid (cp_boxed HOxr.out HQyr.out HNSyr.out hgW)
            have HOyr := Lib.hid (cp_boxed HOyr.out HQyr.out HNSyr.out hgW)
            have HQxr := Lib.hid (HQxr.out.keep (hgW.block _ HQxr.out.lt (by have := HNE.out; simp; omega)))
            have HQyr := Lib.hid hbW; have HCWY := Lib.hid hblWY
            clear hW hW' hgW hbW hblWY
            refine hK.out _ _ ?_ (fun hHeld => ?_)
            · exact HBL.out _ HCWY.out
            clear hK K
            try simp only [Act.put, List.getElem_toArray, List.getElem_cons_zero, List.getElem_cons_succ, List.setIfInBounds_toArray, List.set_cons_zero, List.set_cons_succ]
            refine wpAnyH_done (by kernel_rfl) ?_ _
            refine NoPanic.normal ?_
            go_wp2
            go_meet
            exact ⟨qxr, qyr, xrE, nExr, kExr, xrR, nRxr, kRxr, xrA, nAxr, kAxr, xrP, nPxr, kPxr, yrE, nEyr, kEyr, yrR, nRyr, kRyr, yrA, nAyr, kAyr, yrP, nPyr, kPyr, lxr, lyr, rfl, rfl, HLxr.out, HLyr.out, HQxr.out, HQyr.out, HOxr.out, HOyr.out, HCWY.out⟩
    · go_simp
      refine hK.out _ _ ?_ (fun hHeld => ?_)
      · exact HBL.out _ (((show Below W1.heap.size W1 W1.drew from bel_eq12 (Below.refl _ W1) rfl rfl rfl rfl)).alloc ((show Below W1.heap.size W1 W1.drew from bel_eq12 (Below.refl _ W1) rfl rfl rfl rfl)).size _)
      clear hK K
      try simp only [Act.put, List.getElem_toArray, List.getElem_cons_zero, List.getElem_cons_succ, List.setIfInBounds_toArray, List.set_cons_zero, List.set_cons_succ]
      have hal : Below W1.heap.size W1 (W1.alloc (.cells #[.bool false, .bool false, .slice none 0 0, .slice none 0 0, .slice none 0 0, .slice none 0 0, .bool false, .bool false] 26)).drew := bel_eq12 ((Below.refl _ W1).alloc (Nat.le_refl _) _) rfl rfl rfl rfl
      have hhb : Hb (W1.alloc (.cells #[.bool false, .bool false, .slice none 0 0, .slice none 0 0, .slice none 0 0, .slice none 0 0, .bool false, .bool false] 26)).drew W1.heap.size #[.bool false, .bool false, .slice none 0 0, .slice none 0 0, .slice none 0 0, .slice none 0 0, .bool false, .bool false] := Hb.new W1 _
      have hbn : Below W1.heap.size W1 (W1.alloc (.cells #[.bool false, .bool false, .slice none 0 0, .slice none 0 0, .slice none 0 0, .slice none 0 0, .bool false, .bool false] 26)).drew := bel_eq12 (below_new12 W1 _) rfl rfl rfl rfl
      have hlq : W1.heap.size ≤ W1.heap.size := Nat.le_refl _
      generalize hwk : (W1.alloc (.cells #[.bool false, .bool false, .slice none 0 0, .slice none 0 0, .slice none 0 0, .slice none 0 0, .bool false, .bool false] 26)).drew = wyr0 at *
      obtain ⟨qyr, hqk⟩ : ∃ q, W1.heap.size = q := ⟨_, rfl⟩
      rw [hqk]
      rw [hqk] at hhb
      replace hlq : W1.heap.size ≤ qyr := by rw [← hqk]; exact Nat.le_refl _
      have HQyr := Lib.hid hhb; have HLyr := Lib.hid hlq; have HAwyr0 := Lib.hid hal
      clear hhb hlq hal hbn
      refine wpAnyH_ready (rs := [1, 4]) (by kernel_rfl) (by simp) ?_
      refine AllReadyH.cons (o := _) rfl (fun K hK => ?_) (AllReadyH.cons (o := _) rfl (fun K hK => ?_) (AllReadyH.nil))
      · go_simp
        go_at_call 15
        refine (refCanon12 (confV d (.slice A1 n1 c1) (.slice A2 n2 c2) (.slice A3 n3 c3) (.slice A4 n4 c4)) d wyr0 (HCB.out _ HAwyr0.out) HSM.out).mono ?_
        rintro r uxr ⟨vxr, rfl, ho, hc⟩
        obtain ⟨vE, vR, vA, vP, lxr, rfl, ho⟩ := ho
        obtain ⟨xrE, nExr, kExr, rfl⟩ := sv_shape ho.e
        obtain ⟨xrR, nRxr, kRxr, rfl⟩ := sv_shape ho.r
        obtain ⟨xrA, nAxr, kAxr, rfl⟩ := sv_shape ho.a
        obtain ⟨xrP, nPxr, kPxr, rfl⟩ := pv_shape ho.p
        have HCxr := Lib.hid (show Below W1.heap.size W1 uxr from Below.trans HAwyr0.out (Below.mono hc (HAwyr0.out).size))
        have HOxr := Lib.hid (show Cp uxr uxr.heap.size (canonC d) _ _ _ _ lxr from ho)
        have HQyr := Lib.hid (HQyr.out.on hc)
        clear hc ho
        go_wp2_with fail
        refine hK.out _ _ ?_ (fun hHeld => ?_)
        · exact HBL.out _ HCxr.out
        clear hK K
        try simp only [Act.put, List.getElem_toArray, List.getElem_cons_zero, List.getElem_cons_succ, List.setIfInBounds_toArray, List.set_cons_zero, List.set_cons_succ]
        refine wpAnyH_ready (rs := [3, 4]) (by kernel_rfl) (by simp) ?_
        refine AllReadyH.cons (o := _) rfl (fun K hK => ?_) (AllReadyH.cons (o := _) rfl (fun K hK => ?_) (AllReadyH.nil))
        · go_simp
          go_at_call 16
          refine (refStrip12 (confV d (.slice A1 n1 c1) (.slice A2 n2 c2) (.slice A3 n3 c3) (.slice A4 n4 c4)) d uxr (HCB.out _ HCxr.out) HSM.out).mono ?_
          rintro r uyr ⟨vyr, rfl, ho, hc⟩
          obtain ⟨vE, vR, vA, vP, lyr, rfl, ho⟩ := ho
          obtain ⟨yrE, nEyr, kEyr, rfl⟩ := sv_shape ho.e
          obtain ⟨yrR, nRyr, kRyr, rfl⟩ := sv_shape ho.r
          obtain ⟨yrA, nAyr, kAyr, rfl⟩ := sv_shape ho.a
          obtain ⟨yrP, nPyr, kPyr, rfl⟩ := pv_shape ho.p
          have HCyr := Lib.hid (show Below W1.heap.size W1 uyr from Below.trans HCxr.out (Below.mono hc (HCxr.out).size))
          have HOyr := Lib.hid (show Cp uyr uyr.heap.size (stripC d) _ _ _ _ lyr from ho)
          have HOxr := Lib.hid (HOxr.out.on hc)
          have HQyr := Lib.hid (HQyr.out.on hc)
          clear hc ho
          go_wp2_with fail
          refine hK.out _ _ ?_ (fun hHeld => ?_)
          · exact HBL.out _ HCyr.out
          clear hK K
          try simp only [Act.put, List.getElem_toArray, List.getElem_cons_zero, List.getElem_cons_succ, List.setIfInBounds_toArray, List.set_cons_zero, List.set_cons_succ]
          refine wpAnyH_ready (rs := [4]) (by kernel_rfl) (by simp) ?_
          refine AllReadyH.cons (o := _) rfl (fun K hK => ?_) (AllReadyH.nil)
          · go_simp
            refine hK.out _ _ ?_ (fun hHeld => ?_)
            · exact HBL.out _ ((HCyr.out).alloc (HCyr.out).size _)
            clear hK K
            try simp only [Act.put, List.getElem_toArray, List.getElem_cons_zero, List.getElem_cons_succ, List.setIfInBounds_toArray, List.set_cons_zero, List.set_cons_succ]
            have hal : Below W1.heap.size W1 (uyr.alloc (.cells #[.bool false, .bool false, .slice none 0 0, .slice none 0 0, .slice none 0 0, .slice none 0 0, .bool false, .bool false] 26)) := (HCyr.out).alloc (HCyr.out).size _
            have hhb : Hb (uyr.alloc (.cells #[.bool false, .bool false, .slice none 0 0, .slice none 0 0, .slice none 0 0, .slice none 0 0, .bool false, .bool false] 26)) uyr.heap.size #[.bool false, .bool false, .slice none 0 0, .slice none 0 0, .slice none 0 0, .slice none 0 0, .bool false, .bool false] := Hb.new uyr _
            have hbn : Below uyr.heap.size uyr (uyr.alloc (.cells #[.bool false, .bool false, .slice none 0 0, .slice none 0 0, .slice none 0 0, .slice none 0 0, .bool false, .bool false] 26)) := below_new12 uyr _
            have hlq : W1.heap.size ≤ uyr.heap.size := (HCyr.out).size
            have hneq : qyr ≠ uyr.heap.size := Nat.ne_of_lt HQyr.out.lt
            replace HQyr := Lib.hid (HQyr.out.on hbn)
            replace HOxr := Lib.hid (HOxr.out.on hbn)
            replace HOyr := Lib.hid (HOyr.out.on hbn)
            generalize hwk : (uyr.alloc (.cells #[.bool false, .bool false, .slice none 0 0, .slice none 0 0, .slice none 0 0, .slice none 0 0, .bool false, .bool false] 26)) = wxr3 at *
            generalize hqk : uyr.heap.size = qxr at *
            have HQxr := Lib.hid hhb; have HLxr := Lib.hid hlq; have HAwxr3 := Lib.hid hal
            clear hhb hlq hal hbn
            have HNE := Lib.hid hneq
            clear hneq
            have HNSX := Lib.hid noZero
            have HNSxr := HNSX; have HNSyr := HNSX
            refine wpAnyH_ready (rs := [6]) (by kernel_rfl) (by simp) ?_
            refine AllReadyH.cons (o := _) rfl (fun K hK => ?_) AllReadyH.nil
            rw [if_pos (by rfl)]
            refine wp_store_mid 26 (.tmp 3) (.tmp 11) rfl qxr 0 #[.bool d.allow, .bool d.attrsAllow, .slice xrE nExr kExr, .slice xrR nRxr kRxr, .slice xrA nAxr kAxr, .slice xrP nPxr kPxr, .bool d.comments, .bool d.dataAttrs] rfl rfl (HQxr.out.there 8 rfl) size_conf (by simp [Value.oneCell']) ?_
            obtain ⟨WX, hW, hgW, hbW⟩ := res_hb HQxr.out rfl (.bool d.allow) (.bool d.attrsAllow) (.slice xrE nExr kExr) (.slice xrR nRxr kRxr) (.slice xrA nAxr kAxr) (.slice xrP nPxr kPxr) (.bool d.comments) (.bool d.dataAttrs)
            have hblWX : Below W1.heap.size W1 WX := Below.grown HAwxr3.out hgW (HAwxr3.out).size (fun q hq => by injection hq with hq; have := HLxr.out; omega)
            have hW' : wxr3.setCells qxr 0 (#[.bool d.allow, .bool d.attrsAllow, .slice xrE nExr kExr, .slice xrR nRxr kRxr, .slice xrA nAxr kAxr, .slice xrP nPxr kPxr, .bool d.comments, .bool d.dataAttrs] : Array Value).toList = WX := hW.symm
            rw [hW']
            have HOxr := Lib.hid (cp_boxed HOxr.out HQxr.out HNSxr.out hgW)
            have HOyr := Lib.hid (cp_boxed HOyr.out HQxr.out HNSxr.out hgW)
            have HQyr := Lib.hid (HQyr.out.keep (hgW.block _ HQyr.out.lt (by have := HNE.out; simp; omega)))
            have HQxr := Lib.hid hbW; have HCWX := Lib.hid hblWX
            clear hW hW' hgW hbW hblWX
            refine hK.out _ _ ?_ (fun hHeld => ?_)
            · exact HBL.out _ HCWX.out
            clear hK K
            try simp only [Act.put, List.getElem_toArray, List.getElem_cons_zero, List.getElem_cons_succ, List.setIfInBounds_toArray, List.set_cons_zero, List.set_cons_succ]
            refine wpAnyH_ready (rs := [7]) (by kernel_rfl) (by simp) ?_
            refine AllReadyH.cons (o := _) rfl (fun K hK => ?_) AllReadyH.nil
            rw [if_pos (by rfl)]
            refine wp_store_mid 26 (.tmp 4) (.tmp 13) rfl qyr 0 #[.bool d.allow, .bool d.attrsAllow, .slice yrE nEyr kEyr, .slice yrR nRyr kRyr, .slice yrA nAyr kAyr, .slice yrP nPyr kPyr, .bool d.comments, .bool d.dataAttrs] rfl rfl (HQyr.out.there 8 rfl) size_conf (by simp [Value.oneCell']) ?_
            obtain ⟨WY, hW, hgW, hbW⟩ := res_hb HQyr.out rfl (.bool d.allow) (.bool d.attrsAllow) (.slice yrE nEyr kEyr) (.slice yrR nRyr kRyr) (.slice yrA nAyr kAyr) (.slice yrP nPyr kPyr) (.bool d.comments) (.bool d.dataAttrs)
            have hblWY : Below W1.heap.size W1 WY := Below.grown HCWX.out hgW (HCWX.out).size (fun q hq => by injection hq with hq; have := HLyr.out; omega)
            have hW' : WX.setCells qyr 0 (#[.bool d.allow, .bool d.attrsAllow, .slice yrE nEyr kEyr, .slice yrR nRyr kRyr, .slice yrA nAyr kAyr, .slice yrP nPyr kPyr, .bool d.comments, .bool d.dataAttrs] : Array Value).toList = WY := hW.symm
            rw [hW']
            have HOxr := Lib.hid (cp_boxed HOxr.out HQyr.out HNSyr.out hgW)
            have HOyr := Lib.hid (cp_boxed HOyr.out HQyr.out HNSyr.out hgW)
            have HQxr := Lib.hid (HQxr.out.keep (hgW.block _ HQxr.out.lt (by have := HNE.out; simp; omega)))
            have HQyr := Lib.hid hbW; have HCWY := Lib.hid hblWY
            clear hW hW' hgW hbW hblWY
            refine hK.out _ _ ?_ (fun hHeld => ?_)
            · exact HBL.out _ HCWY.out
            clear hK K
            try simp only [Act.put, List.getElem_toArray, List.getElem_cons_zero, List.getElem_cons_succ, List.setIfInBounds_toArray, List.set_cons_zero, List.set_cons_succ]
            refine wpAnyH_done (by kernel_rfl) ?_ _
            refine NoPanic.normal ?_
            go_wp2
            go_meet
            exact ⟨qxr, qyr, xrE, nExr, kExr, xrR, nRxr, kRxr, xrA, nAxr, kAxr, xrP, nPxr, kPxr, yrE, nEyr, kEyr, yrR, nRyr, kRyr, yrA, nAyr, kAyr, yrP, nPyr, kPyr, lxr, lyr, rfl, rfl, HLxr.out, HLyr.out, HQxr.out, HQyr.out, HOxr.out, HOyr.out, HCWY.out⟩
        · go_simp
          refine hK.out _ _ ?_ (fun hHeld => ?_)
          · exact HBL.out _ ((HCxr.out).alloc (HCxr.out).size _)
          clear hK K
          try simp only [Act.put, List.getElem_toArray, List.getElem_cons_zero, List.getElem_cons_succ, List.setIfInBounds_toArray, List.set_cons_zero, List.set_cons_succ]
          have hal : Below W1.heap.size W1 (uxr.alloc (.cells #[.bool false, .bool false, .slice none 0 0, .slice none 0 0, .slice none 0 0, .slice none 0 0, .bool false, .bool false] 26)) := (HCxr.out).alloc (HCxr.out).size _
          have hhb : Hb (uxr.alloc (.cells #[.bool false, .bool false, .slice none 0 0, .slice none 0 0, .slice none 0 0, .slice none 0 0, .bool false, .bool false] 26)) uxr.heap.size #[.bool false, .bool false, .slice none 0 0, .slice none 0 0, .slice none 0 0, .slice none 0 0, .bool false, .bool false] := Hb.new uxr _
          have hbn : Below uxr.heap.size uxr (uxr.alloc (.cells #[.bool false, .bool false, .slice none 0 0, .slice none 0 0, .slice none 0 0, .slice none 0 0, .bool false, .bool false] 26)) := below_new12 uxr _
          have hlq : W1.heap.size ≤ uxr.heap.size := (HCxr.out).size
          have hneq : qyr ≠ uxr.heap.size := Nat.ne_of_lt HQyr.out.lt
          replace HQyr := Lib.hid (HQyr.out.on hbn)
          replace HOxr := Lib.hid (HOxr.out.on hbn)
          generalize hwk : (uxr.alloc (.cells #[.bool false, .bool false, .slice none 0 0, .slice none 0 0, .slice none 0 0, .slice none 0 0, .bool false, .bool false] 26)) = wxr2 at *
          generalize hqk : uxr.heap.size = qxr at *
          have HQxr := Lib.hid hhb; have HLxr := Lib.hid hlq; have HAwxr2 := Lib.hid hal
          clear hhb hlq hal hbn
          have HNE := Lib.hid hneq
          clear hneq
          refine wpAnyH_ready (rs := [3]) (by kernel_rfl) (by simp) ?_
          refine AllReadyH.cons (o := _) rfl (fun K hK => ?_) (AllReadyH.nil)
          · go_simp
            go_at_call 16
            refine (refStrip12 (confV d (.slice A1 n1 c1) (.slice A2 n2 c2) (.slice A3 n3 c3) (.slice A4 n4 c4)) d wxr2 (HCB.out _ HAwxr2.out) HSM.out).mono ?_
            rintro r uyr ⟨vyr, rfl, ho, hc⟩
            obtain ⟨vE, vR, vA, vP, lyr, rfl, ho⟩ := ho
            obtain ⟨yrE, nEyr, kEyr, rfl⟩ := sv_shape ho.e
            obtain ⟨yrR, nRyr, kRyr, rfl⟩ := sv_shape ho.r
            obtain ⟨yrA, nAyr, kAyr, rfl⟩ := sv_shape ho.a
            obtain ⟨yrP, nPyr, kPyr, rfl⟩ := pv_shape ho.p
            have HCyr := Lib.hid (show Below W1.heap.size W1 uyr from Below.trans HAwxr2.out (Below.mono hc (HAwxr2.out).size))
            have HOyr := Lib.hid (show Cp uyr uyr.heap.size (stripC d) _ _ _ _ lyr from ho)
            have HOxr := Lib.hid (HOxr.out.on hc)
            have HQyr := Lib.hid (HQyr.out.on hc)
            have HQxr := Lib.hid (HQxr.out.on hc)
            clear hc ho
            go_wp2_with fail
            refine hK.out _ _ ?_ (fun hHeld => ?_)
            · exact HBL.out _ HCyr.out
            clear hK K
            try simp only [Act.put, List.getElem_toArray, List.getElem_cons_zero, List.getElem_cons_succ, List.setIfInBounds_toArray, List.set_cons_zero, List.set_cons_succ]
            have HNSX := Lib.hid noZero
            have HNSxr := HNSX; have HNSyr := HNSX
            refine wpAnyH_ready (rs := [6]) (by kernel_rfl) (by simp) ?_
            refine AllReadyH.cons (o := _) rfl (fun K hK => ?_) AllReadyH.nil
            rw [if_pos (by rfl)]
            refine wp_store_mid 26 (.tmp 3) (.tmp 11) rfl qxr 0 #[.bool d.allow, .bool d.attrsAllow, .slice xrE nExr kExr, .slice xrR nRxr kRxr, .slice xrA nAxr kAxr, .slice xrP nPxr kPxr, .bool d.comments, .bool d.dataAttrs] rfl rfl (HQxr.out.there 8 rfl) size_conf (by simp [Value.oneCell']) ?_
            obtain ⟨WX, hW, hgW, hbW⟩ := res_hb HQxr.out rfl (.bool d.allow) (.bool d.attrsAllow) (.slice xrE nExr kExr) (.slice xrR nRxr kRxr) (.slice xrA nAxr kAxr) (.slice xrP nPxr kPxr) (.bool d.comments) (.bool d.dataAttrs)
            have hblWX : Below W1.heap.size W1 WX := Below.grown HCyr.out hgW (HCyr.out).size (fun q hq => by injection hq with hq; have := HLxr.out; omega)
            have hW' : uyr.setCells qxr 0 (#[.bool d.allow, .bool d.attrsAllow, .slice xrE nExr kExr, .slice xrR nRxr kRxr, .slice xrA nAxr kAxr, .slice xrP nPxr kPxr, .bool d.comments, .bool d.dataAttrs] : Array Value).toList = WX := hW.symm
            rw [hW']
            have HOxr := Lib.hid (cp_boxed HOxr.out HQxr.out HNSxr.out hgW)
            have HOyr := Lib.hid (cp_boxed HOyr.out HQxr.out HNSxr.out hgW)
            have HQyr := Lib.hid (HQyr.out.keep (hgW.block _ HQyr.out.lt (by have := HNE.out; simp; omega)))
            have HQxr := Lib.hid hbW; have HCWX := Lib.hid hblWX
            clear hW hW' hgW hbW hblWX
            refine hK.out _ _ ?_ (fun hHeld => ?_)
            · exact HBL.out _ HCWX.out
            clear hK K
            try simp only [Act.put, List.getElem_toArray, List.getElem_cons_zero, List.getElem_cons_succ, List.setIfInBounds_toArray, List.set_cons_zero, List.set_cons_succ]
            refine wpAnyH_ready (rs := [7]) (by kernel_rfl) (by simp) ?_
            refine AllReadyH.cons (o := _) rfl (fun K hK => ?_) AllReadyH.nil
            rw [if_pos (by rfl)]
            refine wp_store_mid 26 (.tmp 4) (.tmp 13) rfl qyr 0 #[.bool d.allow, .bool d.attrsAllow, .slice yrE nEyr kEyr, .slice yrR nRyr kRyr, .slice yrA nAyr kAyr, .slice yrP nPyr kPyr, .bool d.comments, .bool d.dataAttrs] rfl rfl (HQyr.out.there 8 rfl) size_conf (by simp [Value.oneCell']) ?_
            obtain ⟨WY, hW, hgW, hbW⟩ := res_hb HQyr.out rfl (.bool d.allow) (.bool d.attrsAllow) (.slice yrE nEyr kEyr) (.slice yrR nRyr kRyr) (.slice yrA nAyr kAyr) (.slice yrP nPyr kPyr) (.bool d.comments) (.bool d.dataAttrs)
            have hblWY : Below W1.heap.size W1 WY := Below.grown HCWX.out hgW (HCWX.out).size (fun q hq => by injection hq with hq; have := HLyr.out; omega)
            have hW' : WX.setCells qyr 0 (#[.bool d.allow, .bool d.attrsAllow, .slice yrE nEyr kEyr, .slice yrR nRyr kRyr, .slice yrA nAyr kAyr, .slice yrP nPyr kPyr, .bool d.comments, .bool d.dataAttrs] : Array Value).toList = WY := hW.symm
            rw [hW']
            have HOxr := Lib.hid (cp_boxed HOxr.out HQyr.out HNSyr.out hgW)
            have HOyr := Lib.hid (cp_boxed HOyr.out HQyr.out HNSyr.out hgW)
            have HQxr := Lib.hid (HQxr.out.keep (hgW.block _ HQxr.out.lt (by have := HNE.out; simp; omega)))
            have HQyr := Lib.hid hbW; have HCWY := Lib.hid hblWY
            clear hW hW' hgW hbW hblWY
            refine hK.out _ _ ?_ (fun hHeld => ?_)
            · exact HBL.out _ HCWY.out
            clear hK K
            try simp only [Act.put, List.getElem_toArray, List.getElem_cons_zero, List.getElem_cons_succ, List.setIfInBounds_toArray, List.set_cons_zero, List.set_cons_succ]
            refine wpAnyH_done (by kernel_rfl) ?_ _
            refine NoPanic.normal ?_
            go_wp2
            go_meet
            exact ⟨qxr, qyr, xrE, nExr, kExr, xrR, nRxr, kRxr, xrA, nAxr, kAxr, xrP, nPxr, kPxr, yrE, nEyr, kEyr, yrR, nRyr, kRyr, yrA, nAyr, kAyr, yrP, nPyr, kPyr, lxr, lyr, rfl, rfl, HLxr.out, HLyr.out, HQxr.out, HQyr.out, HOxr.out, HOyr.out, HCWY.out⟩
      · go_simp
        refine hK.out _ _ ?_ (fun hHeld => ?_)
        · exact HBL.out _ ((HAwyr0.out).alloc (HAwyr0.out).size _)
        clear hK K
        try simp only [Act.put, List.getElem_toArray, List.getElem_cons_zero, List.getElem_cons_succ, List.setIfInBounds_toArray, List.set_cons_zero, List.set_cons_succ]
        have hal : Below W1.heap.size W1 (wyr0.alloc (.cells #[.bool false, .bool false, .slice none 0 0, .slice none 0 0, .slice none 0 0, .slice none 0 0, .bool false, .bool false] 26)) := (HAwyr0.out).alloc (HAwyr0.out).size _
        have hhb : Hb (wyr0.alloc (.cells #[.bool false, .bool false, .slice none 0 0, .slice none 0 0, .slice none 0 0, .slice none 0 0, .bool false, .bool false] 26)) wyr0.heap.size #[.bool false, .bool false, .slice none 0 0, .slice none 0 0, .slice none 0 0, .slice none 0 0, .bool false, .bool false] := Hb.new wyr0 _
        have hbn : Below wyr0.heap.size wyr0 (wyr0.alloc (.cells #[.bool false, .bool false, .slice none 0 0, .slice none 0 0, .slice none 0 0, .slice none 0 0, .bool false, .bool false] 26)) := below_new12 wyr0 _
        have hlq : W1.heap.size ≤ wyr0.heap.size := (HAwyr0.out).size
        have hneq : qyr ≠ wyr0.heap.size := Nat.ne_of_lt HQyr.out.lt
        replace HQyr := Lib.hid (HQyr.out.on hbn)
        generalize hwk : (wyr0.alloc (.cells #[.bool false, .bool false, .slice none 0 0, .slice none 0 0, .slice none 0 0, .slice none 0 0, .bool false, .bool false] 26)) = wxr1 at *
        generalize hqk : wyr0.heap.size = qxr at *
        have HQxr := Lib.hid hhb; have HLxr := Lib.hid hlq; have HAwxr1 := Lib.hid hal
        clear hhb hlq hal hbn
        have HNE := Lib.hid hneq
        clear hneq
        refine wpAnyH_ready (rs := [1]) (by kernel_rfl) (by simp) ?_
        refine AllReadyH.cons (o := _) rfl (fun K hK => ?_) (AllReadyH.nil)
        · go_simp
          go_at_call 15
          refine (refCanon12 (confV d (.slice A1 n1 c1) (.slice A2 n2 c2) (.slice A3 n3 c3) (.slice A4 n4 c4)) d wxr1 (HCB.out _ HAwxr1.out) HSM.out).mono ?_
          rintro r uxr ⟨vxr, rfl, ho, hc⟩
          obtain ⟨vE, vR, vA, vP, lxr, rfl, ho⟩ := ho
          obtain ⟨xrE, nExr, kExr, rfl⟩ := sv_shape ho.e
          obtain ⟨xrR, nRxr, kRxr, rfl⟩ := sv_shape ho.r
          obtain ⟨xrA, nAxr, kAxr, rfl⟩ := sv_shape ho.a
          obtain ⟨xrP, nPxr, kPxr, rfl⟩ := pv_shape ho.p
          have HCxr := Lib.hid (show Below W1.heap.size W1 uxr from Below.trans HAwxr1.out (Below.mono hc (HAwxr1.out).size))
          have HOxr := Lib.hid (show Cp uxr uxr.heap.size (canonC d) _ _ _ _ lxr from ho)
          have HQyr := Lib.hid (HQyr.out.on hc)
          have HQxr := Lib.hid (HQxr.out.on hc)
          clear hc ho
          go_wp2_with fail
          refine hK.out _ _ ?_ (fun hHeld => ?_)
          · exact HBL.out _ HCxr.out
          clear hK K
          try simp only [Act.put, List.getElem_toArray, List.getElem_cons_zero, List.getElem_cons_succ, List.setIfInBounds_toArray, List.set_cons_zero, List.set_cons_succ]
          refine wpAnyH_ready (rs := [3]) (by kernel_rfl) (by simp) ?_
          refine AllReadyH.cons (o := _) rfl (fun K hK => ?_) (AllReadyH.nil)
          · go_simp
            go_at_call 16
            refine (refStrip12 (confV d (.slice A1 n1 c1) (.slice A2 n2 c2) (.slice A3 n3 c3) (.slice A4 n4 c4)) d uxr (HCB.out _ HCxr.out) HSM.out).mono ?_
            rintro r uyr ⟨vyr, rfl, ho, hc⟩
            obtain ⟨vE, vR, vA, vP, lyr, rfl, ho⟩ := ho
            obtain ⟨yrE, nEyr, kEyr, rfl⟩ := sv_shape ho.e
            obtain ⟨yrR, nRyr, kRyr, rfl⟩ := sv_shape ho.r
            obtain ⟨yrA, nAyr, kAyr, rfl⟩ := sv_shape ho.a
            obtain ⟨yrP, nPyr, kPyr, rfl⟩ := pv_shape ho.p
            have HCyr := Lib.hid (show Below W1.heap.size W1 uyr from Below.trans HCxr.out (Below.mono hc (HCxr.out).size))
            have HOyr := Lib.hid (show Cp uyr uyr.heap.size (stripC d) _ _ _ _ lyr from ho)
            have HOxr := Lib.hid (HOxr.out.on hc)
            have HQyr := Lib.hid (HQyr.out.on hc)
            have HQxr := Lib.hid (HQxr.out.on hc)
            clear hc ho
            go_wp2_with fail
            refine hK.out _ _ ?_ (fun hHeld => ?_)
            · exact HBL.out _ HCyr.out
            clear hK K
            try simp only [Act.put, List.getElem_toArray, List.getElem_cons_zero, List.getElem_cons_succ, List.setIfInBounds_toArray, List.set_cons_zero, List.set_cons_succ]
            have HNSX := Lib.hid noZero
            have HNSxr := HNSX; have HNSyr := HNSX
            refine wpAnyH_ready (rs := [6]) (by kernel_rfl) (by simp) ?_
            refine AllReadyH.cons (o := _) rfl (fun K hK => ?_) AllReadyH.nil
            rw [if_pos (by rfl)]
            refine wp_store_mid 26 (.tmp 3) (.tmp 11) rfl qxr 0 #[.bool d.allow, .bool d.attrsAllow, .slice xrE nExr kExr, .slice xrR nRxr kRxr, .slice xrA nAxr kAxr, .slice xrP nPxr kPxr, .bool d.comments, .bool d.dataAttrs] rfl rfl (HQxr.out.there 8 rfl) size_conf (by simp [Value.oneCell']) ?_
            obtain ⟨WX, hW, hgW, hbW⟩ := res_hb HQxr.out rfl (.bool d.allow) (.bool d.attrsAllow) (.slice xrE nExr kExr) (.slice xrR nRxr kRxr) (.slice xrA nAxr kAxr) (.slice xrP nPxr kPxr) (.bool d.comments) (.bool d.dataAttrs)
            have hblWX : Below W1.heap.size W1 WX := Below.grown HCyr.out hgW (HCyr.out).size (fun q hq => by injection hq with hq; have := HLxr.out; omega)
            have hW' : uyr.setCells qxr 0 (#[.bool d.allow, .bool d.attrsAllow, .slice xrE nExr kExr, .slice xrR nRxr kRxr, .slice xrA nAxr kAxr, .slice xrP nPxr kPxr, .bool d.comments, .bool d.dataAttrs] : Array Value).toList = WX := hW.symm
            rw [hW']
            have HOxr := Lib.hid (cp_boxed HOxr.out HQxr.out HNSxr.out hgW)
            have HOyr := Lib.hid (cp_boxed HOyr.out HQxr.out HNSxr.out hgW)
            have HQyr := Lib.hid (HQyr.out.keep (hgW.block _ HQyr.out.lt (by have := HNE.out; simp; omega)))
            have HQxr := Lib.hid hbW; have HCWX := Lib.hid hblWX
            clear hW hW' hgW hbW hblWX
            refine hK.out _ _ ?_ (fun hHeld => ?_)
            · exact HBL.out _ HCWX.out
            clear hK K
            try simp only [Act.put, List.getElem_toArray, List.getElem_cons_zero, List.getElem_cons_succ, List.setIfInBounds_toArray, List.set_cons_zero, List.set_cons_succ]
            refine wpAnyH_ready (rs := [7]) (by kernel_rfl) (by simp) ?_
            refine AllReadyH.cons (o := _) rfl (fun K hK => ?_) AllReadyH.nil
            rw [if_pos (by rfl)]
            refine wp_store_mid 26 (.tmp 4) (.tmp 13) rfl qyr 0 #[.bool d.allow, .bool d.attrsAllow, .slice yrE nEyr kEyr, .slice yrR nRyr kRyr, .slice yrA nAyr kAyr, .slice yrP nPyr kPyr, .bool d.comments, .bool d.dataAttrs] rfl rfl (HQyr.out.there 8 rfl) size_conf (by simp [Value.oneCell']) ?_
            obtain ⟨WY, hW, hgW, hbW⟩ := res_hb HQyr.out rfl (.bool d.allow) (.bool d.attrsAllow) (.slice yrE nEyr kEyr) (.slice yrR nRyr kRyr) (.slice yrA nAyr kAyr) (.slice yrP nPyr kPyr) (.bool d.comments) (.bool d.dataAttrs)
            have hblWY : Below W1.heap.size W1 WY := Below.grown HCWX.out hgW (HCWX.out).size (fun q hq => by injection hq with hq; have := HLyr.out; omega)
            have hW' : WX.setCells qyr 0 (#[.bool d.allow, .bool d.attrsAllow, .slice yrE nEyr kEyr, .slice yrR nRyr kRyr, .slice yrA nAyr kAyr, .slice yrP nPyr kPyr, .bool d.comments, .bool d.dataAttrs] : Array Value).toList = WY := hW.symm
            rw [hW']
            have HOxr := Lib.hid (cp_boxed HOxr.out HQyr.out HNSyr.out hgW)
            have HOyr := Lib.hid (cp_boxed HOyr.out HQyr.out HNSyr.out hgW)
            have HQxr := Lib.hid (HQxr.out.keep (hgW.block _ HQxr.out.lt (by have := HNE.out; simp; omega)))
            have HQyr := Lib.hid hbW; have HCWY := Lib.hid hblWY
            clear hW hW' hgW hbW hblWY
            refine hK.out _ _ ?_ (fun hHeld => ?_)
            · exact HBL.out _ HCWY.out
            clear hK K
            try simp only [Act.put, List.getElem_toArray, List.getElem_cons_zero, List.getElem_cons_succ, List.setIfInBounds_toArray, List.set_cons_zero, List.set_cons_succ]
            refine wpAnyH_done (by kernel_rfl) ?_ _
            refine NoPanic.normal ?_
            go_wp2
            go_meet
            exact ⟨qxr, qyr, xrE, nExr, kExr, xrR, nRxr, kRxr, xrA, nAxr, kAxr, xrP, nPxr, kPxr, yrE, nEyr, kEyr, yrR, nRyr, kRyr, yrA, nAyr, kAyr, yrP, nPyr, kPyr, lxr, lyr, rfl, rfl, HLxr.out, HLyr.out, HQxr.out, HQyr.out, HOxr.out, HOyr.out, HCWY.out⟩
  case rest =>
  obtain ⟨qxr, qyr, xrE, nExr, kExr, xrR, nRxr, kRxr, xrA, nAxr, kAxr, xrP, nPxr, kPxr, yrE, nEyr, kEyr, yrR, nRyr, kRyr, yrA, nAyr, kAyr, yrP, nPyr, kPyr, lxr, lyr, rfl, rfl, hl0, hl1, hq0, hq1, ho0, ho1, hbw⟩ := hcut
  obtain ⟨W2, hW2⟩ : ∃ W2, W2 = wc := ⟨_, rfl⟩
  subst hW2
  have HQX := Lib.hid (fun wx (hb : Below W2.heap.size W2 wx) => (hq0.on hb).range); have HQY := Lib.hid (fun wx (hb : Below W2.heap.size W2 wx) => hq1.on hb)
  have HCX := Lib.hid (fun wx (hb : Below W2.heap.size W2 wx) => show Cv wx wx.heap.size (confV d (.slice xrE nExr kExr) (.slice xrR nRxr kRxr) (.slice xrA nAxr kAxr) (.slice xrP nPxr kPxr)) (canonC d) from ⟨_, _, _, _, _, rfl, ho0.on hb⟩); have HCY := Lib.hid (fun wx (hb : Below W2.heap.size W2 wx) => show Cv wx wx.heap.size (confV d (.slice yrE nEyr kEyr) (.slice yrR nRyr kRyr) (.slice yrA nAyr kAyr) (.slice yrP nPyr kPyr)) (stripC d) from ⟨_, _, _, _, _, rfl, ho1.on hb⟩)
  have HB2 := Lib.hid hbw
  have HBL := Lib.hid (fun wx (hb : Below W2.heap.size W2 wx) => HBL.out wx (HB2.out.trans (hb.mono HB2.out.size))); have HCB := Lib.hid (fun wx (hb : Below W2.heap.size W2 wx) => HCB.out wx (HB2.out.trans (hb.mono HB2.out.size)))
  have hrf := Below.refl W2.heap.size W2
  clear hl0 hl1 hq0 hq1 ho0 ho1 hbw
  go_wp2
  go_loopw [5] (fun i wr => ∃ k : Nat, i = .int .i64 k ∧ k ≤ 2 ∧ Below W2.heap.size W2 wr) (fun i _ => 2 - (intOf i).toNat)
  case atStart => exact ⟨0, rfl, Nat.zero_le _, hrf⟩
  case round =>
    clear hrf
    obtain ⟨k, rfl, hk2, hbr⟩ := hrel
    have HBR := Lib.hid hbr
    by_cases hk : k < 2
    · have HS6 := Lib.hid (fun wx (hb : Below wr.heap.size wr wx) => HBL.out wx (hbr.trans (hb.mono hbr.size))); have HC6 := Lib.hid (fun wx (hb : Below wr.heap.size wr wx) => HCB.out wx (hbr.trans (hb.mono hbr.size)))
      clear hbr
      go_upto_region 6 with (fail)
      try simp only [Act.put, List.getElem_toArray, List.getElem_cons_zero, List.getElem_cons_succ, List.setIfInBounds_toArray, List.set_cons_zero, List.set_cons_succ]
      go_cut [6, 7] from 14 to 21 (fun ux uy wx => ∃ (qxp qyp : Nat) (xpE : Option Addr) (nExp kExp : Nat) (xpR : Option Addr) (nRxp kRxp : Nat) (xpA : Option Addr) (nAxp kAxp : Nat) (xpP : Option Addr) (nPxp kPxp : Nat) (ypE : Option Addr) (nEyp kEyp : Nat) (ypR : Option Addr) (nRyp kRyp : Nat) (ypA : Option Addr) (nAyp kAyp : Nat) (ypP : Option Addr) (nPyp kPyp : Nat) (lxp lyp : List Pw), ux = .pointer (some ⟨qxp, 0, none⟩) ∧ uy = .pointer (some ⟨qyp, 0, none⟩) ∧ wr.heap.size ≤ qxp ∧ wr.heap.size ≤ qyp ∧ Hb wx qxp #[.bool d.allow, .bool d.attrsAllow, .slice xpE nExp kExp, .slice xpR nRxp kRxp, .slice xpA nAxp kAxp, .slice xpP nPxp kPxp, .bool d.comments, .bool d.dataAttrs] ∧ Hb wx qyp #[.bool d.allow, .bool d.attrsAllow, .slice ypE nEyp kEyp, .slice ypR nRyp kRyp, .slice ypA nAyp kAyp, .slice ypP nPyp kPyp, .bool d.comments, .bool d.dataAttrs] ∧ Own12 wr.heap.size wx (canonC d) (.slice xpE nExp kExp) (.slice xpR nRxp kRxp) (.slice xpA nAxp kAxp) (.slice xpP nPxp kPxp) lxp ∧ Own12 wr.heap.size wx (stripC d) (.slice ypE nEyp kEyp) (.slice ypR nRyp kRyp) (.slice ypA nAyp kAyp) (.slice ypP nPyp kPyp) lyp ∧ Below wr.heap.size wr wx)
      case first =>
        go_wp2_with fail
        refine wp_region_noPanic ?_
        refine wp_region_held_drew (S := fun wx => (wx.cell? ⟨w.heap.size, 0, none⟩ = some (.bool d.allow) ∧ wx.cell? ⟨w.heap.size, 1, none⟩ = some (.bool d.attrsAllow) ∧ wx.cell? ⟨w.heap.size, 2, none⟩ = some (.slice A1 n1 c1) ∧ wx.cell? ⟨w.heap.size, 3, none⟩ = some (.slice A2 n2 c2) ∧ wx.cell? ⟨w.heap.size, 4, none⟩ = some (.slice A3 n3 c3) ∧ wx.cell? ⟨w.heap.size, 5, none⟩ = some (.slice A4 n4 c4) ∧ wx.cell? ⟨w.heap.size, 6, none⟩ = some (.bool d.comments) ∧ wx.cell? ⟨w.heap.size, 7, none⟩ = some (.bool d.dataAttrs))) (by kernel_rfl) ?_ (fun hHeld => ?_)
        · exact HS6.out _ (show Below wr.heap.size wr wr.drew from bel_eq12 (Below.refl _ wr) rfl rfl rfl rfl)
        refine wpAnyH_take (i := 0) (oi := _) (v := ?_) rfl (by kernel_rfl) (by kernel_rfl) (by kernel_rfl) (fun _ _ _ h => h) (Or.inl ⟨by rfl, ?_⟩) (by assumption) ?_
        rotate_left
        · intro w hSw; (try dsimp only at hSw); go_simp; all_goals with_reducible rfl
        try simp only [Act.put, List.getElem_toArray, List.getElem_cons_zero, List.getElem_cons_succ, List.setIfInBounds_toArray, List.set_cons_zero, List.set_cons_succ]
        refine wpAnyH_take (i := 2) (oi := _) (v := ?_) rfl (by kernel_rfl) (by kernel_rfl) (by kernel_rfl) (fun _ _ _ h => h) (Or.inl ⟨by rfl, ?_⟩) (by assumption) ?_
        rotate_left
        · intro w hSw; (try dsimp only at hSw); go_simp; all_goals with_reducible rfl
        try simp only [Act.put, List.getElem_toArray, List.getElem_cons_zero, List.getElem_cons_succ, List.setIfInBounds_toArray, List.set_cons_zero, List.set_cons_succ]
        refine wpAnyH_ready (rs := [1, 4, 5]) (by kernel_rfl) (by simp) ?_
        refine AllReadyH.cons (o := _) rfl (fun K hK => ?_) (AllReadyH.cons (o := _) rfl (fun K hK => ?_) (AllReadyH.cons (o := _) rfl (fun K hK => ?_) (AllReadyH.nil)))
        · go_simp
          go_at_call 17
          refine (canon1 (confV d (.slice A1 n1 c1) (.slice A2 n2 c2) (.slice A3 n3 c3) (.slice A4 n4 c4)) d wr.drew (HC6.out _ (show Below wr.heap.size wr wr.drew from bel_eq12 (Below.refl _ wr) rfl rfl rfl rfl)) HSM.out).mono ?_
          rintro r uxp ⟨vxp, rfl, ho, hc⟩
          obtain ⟨vE, vR, vA, vP, lxp, rfl, ho⟩ := ho
          obtain ⟨xpE, nExp, kExp, rfl⟩ := own_shape ho.e
          obtain ⟨xpR, nRxp, kRxp, rfl⟩ := own_shape ho.r
          obtain ⟨xpA, nAxp, kAxp, rfl⟩ := own_shape ho.a
          obtain ⟨xpP, nPxp, kPxp, rfl⟩ := po_shape ho.p
          have HCxp := Lib.hid (show Below wr.heap.size wr uxp from Below.trans (show Below wr.heap.size wr wr.drew from bel_eq12 (Below.refl _ wr) rfl rfl rfl rfl) (Below.mono hc ((show Below wr.heap.size wr wr.drew from bel_eq12 (Below.refl _ wr) rfl rfl rfl rfl)).size))
          have HOxp := Lib.hid (show Own12 wr.heap.size uxp (canonC d) _ _ _ _ lxp from ho.mono ((show Below wr.heap.size wr wr.drew from bel_eq12 (Below.refl _ wr) rfl rfl rfl rfl)).size)
          clear hc ho
          go_wp2_with fail
          refine hK.out _ _ ?_ (fun hHeld => ?_)
          · exact HS6.out _ HCxp.out
          clear hK K
          try simp only [Act.put, List.getElem_toArray, List.getElem_cons_zero, List.getElem_cons_succ, List.setIfInBounds_toArray, List.set_cons_zero, List.set_cons_succ]
          refine wpAnyH_ready (rs := [3, 4, 5]) (by kernel_rfl) (by simp) ?_
          refine AllReadyH.cons (o := _) rfl (fun K hK => ?_) (AllReadyH.cons (o := _) rfl (fun K hK => ?_) (AllReadyH.cons (o := _) rfl (fun K hK => ?_) (AllReadyH.nil)))
          · go_simp
            go_at_call 18
            refine (strip1 (confV d (.slice A1 n1 c1) (.slice A2 n2 c2) (.slice A3 n3 c3) (.slice A4 n4 c4)) d uxp (HC6.out _ HCxp.out) HSM.out).mono ?_
            rintro r uyp ⟨vyp, rfl, ho, hc⟩
            obtain ⟨vE, vR, vA, vP, lyp, rfl, ho⟩ := ho
            obtain ⟨ypE, nEyp, kEyp, rfl⟩ := own_shape ho.e
            obtain ⟨ypR, nRyp, kRyp, rfl⟩ := own_shape ho.r
            obtain ⟨ypA, nAyp, kAyp, rfl⟩ := own_shape ho.a
            obtain ⟨ypP, nPyp, kPyp, rfl⟩ := po_shape ho.p
            have HCyp := Lib.hid (show Below wr.heap.size wr uyp from Below.trans HCxp.out (Below.mono hc (HCxp.out).size))
            have HOyp := Lib.hid (show Own12 wr.heap.size uyp (stripC d) _ _ _ _ lyp from ho.mono (HCxp.out).size)
            have HOxp := Lib.hid (HOxp.out.below hc)
            clear hc ho
            go_wp2_with fail
            refine hK.out _ _ ?_ (fun hHeld => ?_)
            · exact HS6.out _ HCyp.out
            clear hK K
            try simp only [Act.put, List.getElem_toArray, List.getElem_cons_zero, List.getElem_cons_succ, List.setIfInBounds_toArray, List.set_cons_zero, List.set_cons_succ]
            refine wpAnyH_ready (rs := [4, 5]) (by kernel_rfl) (by simp) ?_
            refine AllReadyH.cons (o := _) rfl (fun K hK => ?_) (AllReadyH.cons (o := _) rfl (fun K hK => ?_) (AllReadyH.nil))
            · go_simp
              refine hK.out _ _ ?_ (fun hHeld => ?_)
              · exact HS6.out _ ((HCyp.out).alloc (HCyp.out).size _)
              clear hK K
              try simp only [Act.put, List.getElem_toArray, List.getElem_cons_zero, List.getElem_cons_succ, List.setIfInBounds_toArray, List.set_cons_zero, List.set_cons_succ]
              have hal : Below wr.heap.size wr (uyp.alloc (.cells #[.bool false, .bool false, .slice none 0 0, .slice none 0 0, .slice none 0 0, .slice none 0 0, .bool false, .bool false] 26)) := (HCyp.out).alloc (HCyp.out).size _
              have hhb : Hb (uyp.alloc (.cells #[.bool false, .bool false, .slice none 0 0, .slice none 0 0, .slice none 0 0, .slice none 0 0, .bool false, .bool false] 26)) uyp.heap.size #[.bool false, .bool false, .slice none 0 0, .slice none 0 0, .slice none 0 0, .slice none 0 0, .bool false, .bool false] := Hb.new uyp _
              have hbn : Below uyp.heap.size uyp (uyp.alloc (.cells #[.bool false, .bool false, .slice none 0 0, .slice none 0 0, .slice none 0 0, .slice none 0 0, .bool false, .bool false] 26)) := below_new12 uyp _
              have hlq : wr.heap.size ≤ uyp.heap.size := (HCyp.out).size
              replace HOxp := Lib.hid (HOxp.out.below hbn)
              replace HOyp := Lib.hid (HOyp.out.below hbn)
              generalize hwk : (uyp.alloc (.cells #[.bool false, .bool false, .slice none 0 0, .slice none 0 0, .slice none 0 0, .slice none 0 0, .bool false, .bool false] 26)) = wxp2 at *
              generalize hqk : uyp.heap.size = qxp at *
              have HQxp := Lib.hid hhb; have HLxp := Lib.hid hlq; have HAwxp2 := Lib.hid hal
              clear hhb hlq hal hbn
              refine wpAnyH_ready (rs := [5]) (by kernel_rfl) (by simp) ?_
              refine AllReadyH.cons (o := _) rfl (fun K hK => ?_) (AllReadyH.nil)
              · go_simp
                refine hK.out _ _ ?_ (fun hHeld => ?_)
                · exact HS6.out _ ((HAwxp2.out).alloc (HAwxp2.out).size _)
                clear hK K
                try simp only [Act.put, List.getElem_toArray, List.getElem_cons_zero, List.getElem_cons_succ, List.setIfInBounds_toArray, List.set_cons_zero, List.set_cons_succ]
                have hal : Below wr.heap.size wr (wxp2.alloc (.cells #[.bool false, .bool false, .slice none 0 0, .slice none 0 0, .slice none 0 0, .slice none 0 0, .bool false, .bool false] 26)) := (HAwxp2.out).alloc (HAwxp2.out).size _
                have hhb : Hb (wxp2.alloc (.cells #[.bool false, .bool false, .slice none 0 0, .slice none 0 0, .slice none 0 0, .slice none 0 0, .bool false, .bool false] 26)) wxp2.heap.size #[.bool false, .bool false, .slice none 0 0, .slice none 0 0, .slice none 0 0, .slice none 0 0, .bool false, .bool false] := Hb.new wxp2 _
                have hbn : Below wxp2.heap.size wxp2 (wxp2.alloc (.cells #[.bool false, .bool false, .slice none 0 0, .slice none 0 0, .slice none 0 0, .slice none 0 0, .bool false, .bool false] 26)) := below_new12 wxp2 _
                have hlq : wr.heap.size ≤ wxp2.heap.size := (HAwxp2.out).size
                have hneq : qxp ≠ wxp2.heap.size := Nat.ne_of_lt HQxp.out.lt
                replace HQxp := Lib.hid (HQxp.out.on hbn)
                replace HOxp := Lib.hid (HOxp.out.below hbn)
                replace HOyp := Lib.hid (HOyp.out.below hbn)
                generalize hwk : (wxp2.alloc (.cells #[.bool false, .bool false, .slice none 0 0, .slice none 0 0, .slice none 0 0, .slice none 0 0, .bool false, .bool false] 26)) = wyp3 at *
                generalize hqk : wxp2.heap.size = qyp at *
                have HQyp := Lib.hid hhb; have HLyp := Lib.hid hlq; have HAwyp3 := Lib.hid hal
                clear hhb hlq hal hbn
                have HNE := Lib.hid hneq
                clear hneq
                refine wpAnyH_ready (rs := [6]) (by kernel_rfl) (by simp) ?_
                refine AllReadyH.cons (o := _) rfl (fun K hK => ?_) AllReadyH.nil
                rw [if_pos (by rfl)]
                refine wp_store_mid 26 (.tmp 6) (.tmp 19) rfl qxp 0 #[.bool d.allow, .bool d.attrsAllow, .slice xpE nExp kExp, .slice xpR nRxp kRxp, .slice xpA nAxp kAxp, .slice xpP nPxp kPxp, .bool d.comments, .bool d.dataAttrs] rfl rfl (HQxp.out.there 8 rfl) size_conf (by simp [Value.oneCell']) ?_
                obtain ⟨WX, hW, hgW, hbW⟩ := res_hb HQxp.out rfl (.bool d.allow) (.bool d.attrsAllow) (.slice xpE nExp kExp) (.slice xpR nRxp kRxp) (.slice xpA nAxp kAxp) (.slice xpP nPxp kPxp) (.bool d.comments) (.bool d.dataAttrs)
                have hblWX : Below wr.heap.size wr WX := Below.grown HAwyp3.out hgW (HAwyp3.out).size (fun q hq => by injection hq with hq; have := HLxp.out; omega)
                have hW' : wyp3.setCells qxp 0 (#[.bool d.allow, .bool d.attrsAllow, .slice xpE nExp kExp, .slice xpR nRxp kRxp, .slice xpA nAxp kAxp, .slice xpP nPxp kPxp, .bool d.comments, .bool d.dataAttrs] : Array Value).toList = WX := hW.symm
                rw [hW']
                have HOxp := Lib.hid (HOxp.out.boxed HQxp.out hgW)
                have HOyp := Lib.hid (HOyp.out.boxed HQxp.out hgW)
                have HQyp := Lib.hid (HQyp.out.keep (hgW.block _ HQyp.out.lt (by have := HNE.out; simp; omega)))
                have HQxp := Lib.hid hbW; have HCWX := Lib.hid hblWX
                clear hW hW' hgW hbW hblWX
                refine hK.out _ _ ?_ (fun hHeld => ?_)
                · exact HS6.out _ HCWX.out
                clear hK K
                try simp only [Act.put, List.getElem_toArray, List.getElem_cons_zero, List.getElem_cons_succ, List.setIfInBounds_toArray, List.set_cons_zero, List.set_cons_succ]
                refine wpAnyH_ready (rs := [7]) (by kernel_rfl) (by simp) ?_
                refine AllReadyH.cons (o := _) rfl (fun K hK => ?_) AllReadyH.nil
                rw [if_pos (by rfl)]
                refine wp_store_mid 26 (.tmp 7) (.tmp 21) rfl qyp 0 #[.bool d.allow, .bool d.attrsAllow, .slice ypE nEyp kEyp, .slice ypR nRyp kRyp, .slice ypA nAyp kAyp, .slice ypP nPyp kPyp, .bool d.comments, .bool d.dataAttrs] rfl rfl (HQyp.out.there 8 rfl) size_conf (by simp [Value.oneCell']) ?_
                obtain ⟨WY, hW, hgW, hbW⟩ := res_hb HQyp.out rfl (.bool d.allow) (.bool d.attrsAllow) (.slice ypE nEyp kEyp) (.slice ypR nRyp kRyp) (.slice ypA nAyp kAyp) (.slice ypP nPyp kPyp) (.bool d.comments) (.bool d.dataAttrs)
                have hblWY : Below wr.heap.size wr WY := Below.grown HCWX.out hgW (HCWX.out).size (fun q hq => by injection hq with hq; have := HLyp.out; omega)
                have hW' : WX.setCells qyp 0 (#[.bool d.allow, .bool d.attrsAllow, .slice ypE nEyp kEyp, .slice ypR nRyp kRyp, .slice ypA nAyp kAyp, .slice ypP nPyp kPyp, .bool d.comments, .bool d.dataAttrs] : Array Value).toList = WY := hW.symm
                rw [hW']
                have HOxp := Lib.hid (HOxp.out.boxed HQyp.out hgW)
                have HOyp := Lib.hid (HOyp.out.boxed HQyp.out hgW)
                have HQxp := Lib.hid (HQxp.out.keep (hgW.block _ HQxp.out.lt (by have := HNE.out; simp; omega)))
                have HQyp := Lib.hid hbW; have HCWY := Lib.hid hblWY
                clear hW hW' hgW hbW hblWY
                refine hK.out _ _ ?_ (fun hHeld => ?_)
                · exact HS6.out _ HCWY.out
                clear hK K
                try simp only [Act.put, List.getElem_toArray, List.getElem_cons_zero, List.getElem_cons_succ, List.setIfInBounds_toArray, List.set_cons_zero, List.set_cons_succ]
                refine wpAnyH_done (by kernel_rfl) ?_ _
                refine NoPanic.normal ?_
                go_wp2
                go_meet
                exact ⟨qxp, qyp, xpE, nExp, kExp, xpR, nRxp, kRxp, xpA, nAxp, kAxp, xpP, nPxp, kPxp, ypE, nEyp, kEyp, ypR, nRyp, kRyp, ypA, nAyp, kAyp, ypP, nPyp, kPyp, lxp, lyp, rfl, rfl, HLxp.out, HLyp.out, HQxp.out, HQyp.out, HOxp.out, HOyp.out, HCWY.out⟩
            · go_simp
              refine hK.out _ _ ?_ (fun hHeld => ?_)
              · exact HS6.out _ ((HCyp.out).alloc (HCyp.out).size _)
              clear hK K
              try simp only [Act.put, List.getElem_toArray, List.getElem_cons_zero, List.getElem_cons_succ, List.setIfInBounds_toArray, List.set_cons_zero, List.set_cons_succ]
              have hal : Below wr.heap.size wr (uyp.alloc (.cells #[.bool false, .bool false, .slice none 0 0, .slice none 0 0, .slice none 0 0, .slice none 0 0, .bool false, .bool false] 26)) := (HCyp.out).alloc (HCyp.out).size _
              have hhb : Hb (uyp.alloc (.cells #[.bool false, .bool false, .slice none 0 0, .slice none 0 0, .slice none 0 0, .slice none 0 0, .bool false, .bool false] 26)) uyp.heap.size #[.bool false, .bool false, .slice none 0 0, .slice none 0 0, .slice none 0 0, .slice none 0 0, .bool false, .bool false] := Hb.new uyp _
              have hbn : Below uyp.heap.size uyp (uyp.alloc (.cells #[.bool false, .bool false, .slice none 0 0, .slice none 0 0, .slice none 0 0, .slice none 0 0, .bool false, .bool false] 26)) := below_new12 uyp _
              have hlq : wr.heap.size ≤ uyp.heap.size := (HCyp.out).size
              replace HOxp := Lib.hid (HOxp.out.below hbn)
              replace HOyp := Lib.hid (HOyp.out.below hbn)
              generalize hwk : (uyp.alloc (.cells #[.bool false, .bool false, .slice none 0 0, .slice none 0 0, .slice none 0 0, .slice none 0 0, .bool false, .bool false] 26)) = wyp2 at *
              generalize hqk : uyp.heap.size = qyp at *
              have HQyp := Lib.hid hhb; have HLyp := Lib.hid hlq; have HAwyp2 := Lib.hid hal
              clear hhb hlq hal hbn
              refine wpAnyH_ready (rs := [4]) (by kernel_rfl) (by simp) ?_
              refine AllReadyH.cons (o := _) rfl (fun K hK => ?_) (AllReadyH.nil)
              · go_simp
                refine hK.out _ _ ?_ (fun hHeld => ?_)
                · exact HS6.out _ ((HAwyp2.out).alloc (HAwyp2.out).size _)
                clear hK K
                try simp only [Act.put, List.getElem_toArray, List.getElem_cons_zero, List.getElem_cons_succ, List.setIfInBounds_toArray, List.set_cons_zero, List.set_cons_succ]
                have hal : Below wr.heap.size wr (wyp2.alloc (.cells #[.bool false, .bool false, .slice none 0 0, .slice none 0 0, .slice none 0 0, .slice none 0 0, .bool false, .bool false] 26)) := (HAwyp2.out).alloc (HAwyp2.out).size _
                have hhb : Hb (wyp2.alloc (.cells #[.bool false, .bool false, .slice none 0 0, .slice none 0 0, .slice none 0 0, .slice none 0 0, .bool false, .bool false] 26)) wyp2.heap.size #[.bool false, .bool false, .slice none 0 0, .slice none 0 0, .slice none 0 0, .slice none 0 0, .bool false, .bool false] := Hb.new wyp2 _
                have hbn : Below wyp2.heap.size wyp2 (wyp2.alloc (.cells #[.bool false, .bool false, .slice none 0 0, .slice none 0 0, .slice none 0 0, .slice none 0 0, .bool false, .bool false] 26)) := below_new12 wyp2 _
                have hlq : wr.heap.size ≤ wyp2.heap.size := (HAwyp2.out).size
                have hneq : qyp ≠ wyp2.heap.size := Nat.ne_of_lt HQyp.out.lt
                replace HQyp := Lib.hid (HQyp.out.on hbn)
                replace HOxp := Lib.hid (HOxp.out.below hbn)
                replace HOyp := Lib.hid (HOyp.out.below hbn)
                generalize hwk : (wyp2.alloc (.cells #[.bool false, .bool false, .slice none 0 0, .slice none 0 0, .slice none 0 0, .slice none 0 0, .bool false, .bool false] 26)) = wxp3 at *
                generalize hqk : wyp2.heap.size = qxp at *
                have HQxp := Lib.hid hhb; have HLxp := Lib.hid hlq; have HAwxp3 := Lib.hid hal
                clear hhb hlq hal hbn
                have HNE := Lib.hid hneq
                clear hneq
                refine wpAnyH_ready (rs := [6]) (by kernel_rfl) (by simp) ?_
                refine AllReadyH.cons (o := _) rfl (fun K hK => ?_) AllReadyH.nil
                rw [if_pos (by rfl)]
                refine wp_store_mid 26 (.tmp 6) (.tmp 19) rfl qxp 0 #[.bool d.allow, .bool d.attrsAllow, .slice xpE nExp kExp, .slice xpR nRxp kRxp, .slice xpA nAxp kAxp, .slice xpP nPxp kPxp, .bool d.comments, .bool d.dataAttrs] rfl rfl (HQxp.out.there 8 rfl) size_conf (by simp [Value.oneCell']) ?_
                obtain ⟨WX, hW, hgW, hbW⟩ := res_hb HQxp.out rfl (.bool d.allow) (.bool d.attrsAllow) (.slice xpE nExp kExp) (.slice xpR nRxp kRxp) (.slice xpA nAxp kAxp) (.slice xpP nPxp kPxp) (.bool d.comments) (.bool d.dataAttrs)
                have hblWX : Below wr.heap.size wr WX := Below.grown HAwxp3.out hgW (HAwxp3.out).size (fun q hq => by injection hq with hq; have := HLxp.out; omega)
                have hW' : wxp3.setCells qxp 0 (#[.bool d.allow, .bool d.attrsAllow, .slice xpE nExp kExp, .slice xpR nRxp kRxp, .slice xpA nAxp kAxp, .slice xpP nPxp kPxp, .bool d.comments, .bool d.dataAttrs] : Array Value).toList = WX := hW.symm
                rw [hW']
                have HOxp := Lib.hid (HOxp.out.boxed HQxp.out hgW)
                have HOyp := Lib.hid (HOyp.out.boxed HQxp.out hgW)
                have HQyp := Lib.hid (HQyp.out.keep (hgW.block _ HQyp.out.lt (by have := HNE.out; simp; omega)))
                have HQxp := Lib.hid hbW; have HCWX := Lib.hid hblWX
                clear hW hW' hgW hbW hblWX
                refine hK.out _ _ ?_ (fun hHeld => ?_)
                · exact HS6.out _ HCWX.out
                clear hK K
                try simp only [Act.put, List.getElem_toArray, List.getElem_cons_zero, List.getElem_cons_succ, List.setIfInBounds_toArray, List.set_cons_zero, List.set_cons_succ]
                refine wpAnyH_ready (rs := [7]) (by kernel_rfl) (by simp) ?_
                refine AllReadyH.cons (o := _) rfl (fun K hK => ?_) AllReadyH.nil
                rw [if_pos (by rfl)]
                refine wp_store_mid 26 (.tmp 7) (.tmp 21) rfl qyp 0 #[.bool d.allow, .bool d.attrsAllow, .slice ypE nEyp kEyp, .slice ypR nRyp kRyp, .slice ypA nAyp kAyp, .slice ypP nPyp kPyp, .bool d.comments, .bool d.dataAttrs] rfl rfl (HQyp.out.there 8 rfl) size_conf (by simp [Value.oneCell']) ?_
                obtain ⟨WY, hW, hgW, hbW⟩ := res_hb HQyp.out rfl (.bool d.allow) (.bool d.attrsAllow) (.slice ypE nEyp kEyp) (.slice ypR nRyp kRyp) (.slice ypA nAyp kAyp) (.slice ypP nPyp kPyp) (.bool d.comments) (.bool d.dataAttrs)
                have hblWY : Below wr.heap.size wr WY := Below.grown HCWX.out hgW (HCWX.out).size (fun q hq => by injection hq with hq; have := HLyp.out; omega)
                have hW' : WX.setCells qyp 0 (#[.bool d.allow, .bool d.attrsAllow, .slice ypE nEyp kEyp, .slice ypR nRyp kRyp, .slice ypA nAyp kAyp, .slice ypP nPyp kPyp, .bool d.comments, .bool d.dataAttrs] : Array Value).toList = WY := hW.symm
                rw [hW']
                have HOxp := Lib.hid (HOxp.out.boxed HQyp.out hgW)
                have HOyp := Lib.hid (HOyp.out.boxed HQyp.out hgW)
                have HQxp := Lib.hid (HQxp.out.keep (hgW.block _ HQxp.out.lt (by have := HNE.out; simp; omega)))
                have HQyp := Lib.hid hbW; have HCWY := Lib.hid hblWY
                clear hW hW' hgW hbW hblWY
                refine hK.out _ _ ?_ (fun hHeld => ?_)
                · exact HS6.out _ HCWY.out
                clear hK K
                try simp only [Act.put, List.getElem_toArray, List.getElem_cons_zero, List.getElem_cons_succ, List.setIfInBounds_toArray, List.set_cons_zero, List.set_cons_succ]
                refine wpAnyH_done (by kernel_rfl) ?_ _
                refine NoPanic.normal ?_
                go_wp2
                go_meet
                exact ⟨qxp, qyp, xpE, nExp, kExp, xpR, nRxp, kRxp, xpA, nAxp, kAxp, xpP, nPxp, kPxp, ypE, nEyp, kEyp, ypR, nRyp, kRyp, ypA, nAyp, kAyp, ypP, nPyp, kPyp, lxp, lyp, rfl, rfl, HLxp.out, HLyp.out, HQxp.out, HQyp.out, HOxp.out, HOyp.out, HCWY.out⟩
          · go_simp
            refine hK.out _ _ ?_ (fun hHeld => ?_)
            · exact HS6.out _ ((HCxp.out).alloc (HCxp.out).size _)
            clear hK K
            try simp only [Act.put, List.getElem_toArray, List.getElem_cons_zero, List.getElem_cons_succ, List.setIfInBounds_toArray, List.set_cons_zero, List.set_cons_succ]
            have hal : Below wr.heap.size wr (uxp.alloc (.cells #[.bool false, .bool false, .slice none 0 0, .slice none 0 0, .slice none 0 0, .slice none 0 0, .bool false, .bool false] 26)) := (HCxp.out).alloc (HCxp.out).size _
            have hhb : Hb (uxp.alloc (.cells #[.bool false, .bool false, .slice none 0 0, .slice none 0 0, .slice none 0 0, .slice none 0 0, .bool false, .bool false] 26)) uxp.heap.size #[.bool false, .bool false, .slice none 0 0, .slice none 0 0, .slice none 0 0, .slice none 0 0, .bool false, .bool false] := Hb.new uxp _
            have hbn : Below uxp.heap.size uxp (uxp.alloc (.cells #[.bool false, .bool false, .slice none 0 0, .slice none 0 0, .slice none 0 0, .slice none 0 0, .bool false, .bool false] 26)) := below_new12 uxp _
            have hlq : wr.heap.size ≤ uxp.heap.size := (HCxp.out).size
            replace HOxp := Lib.hid (HOxp.out.below hbn)
            generalize hwk : (uxp.alloc (.cells #[.bool false, .bool false, .slice none 0 0, .slice none 0 0, .slice none 0 0, .slice none 0 0, .bool false, .bool false] 26)) = wxp1 at *
            generalize hqk : uxp.heap.size = qxp at *
            have HQxp := Lib.hid hhb; have HLxp := Lib.hid hlq; have HAwxp1 := Lib.hid hal
            clear hhb hlq hal hbn
            refine wpAnyH_ready (rs := [3, 5]) (by kernel_rfl) (by simp) ?_
            refine AllReadyH.cons (o := _) rfl (fun K hK => ?_) (AllReadyH.cons (o := _) rfl (fun K hK => ?_) (AllReadyH.nil))
            · go_simp
              go_at_call 18
              refine (strip1 (confV d (.slice A1 n1 c1) (.slice A2 n2 c2) (.slice A3 n3 c3) (.slice A4 n4 c4)) d wxp1 (HC6.out _ HAwxp1.out) HSM.out).mono ?_
              rintro r uyp ⟨vyp, rfl, ho, hc⟩
              obtain ⟨vE, vR, vA, vP, lyp, rfl, ho⟩ := ho
              obtain ⟨ypE, nEyp, kEyp, rfl⟩ := own_shape ho.e
              obtain ⟨ypR, nRyp, kRyp, rfl⟩ := own_shape ho.r
              obtain ⟨ypA, nAyp, kAyp, rfl⟩ := own_shape ho.a
              obtain ⟨ypP, nPyp, kPyp, rfl⟩ := po_shape ho.p
              have HCyp := Lib.hid (show Below wr.heap.size wr uyp from Below.trans HAwxp1.out (Below.mono hc (HAwxp1.out).size))
              have HOyp := Lib.hid (show Own12 wr.heap.size uyp (stripC d) _ _ _ _ lyp from ho.mono (HAwxp1.out).size)
              have HOxp := Lib.hid (HOxp.out.below hc)
              have HQxp := Lib.hid (HQxp.out.on hc)
              clear hc ho
              go_wp2_with fail
              refine hK.out _ _ ?_ (fun hHeld => ?_)
              · exact HS6.out _ HCyp.out
              clear hK K
              try simp only [Act.put, List.getElem_toArray, List.getElem_cons_zero, List.getElem_cons_succ, List.setIfInBounds_toArray, List.set_cons_zero, List.set_cons_succ]
              refine wpAnyH_ready (rs := [5]) (by kernel_rfl) (by simp) ?_
              refine AllReadyH.cons (o := _) rfl (fun K hK => ?_) (AllReadyH.nil)
              · go_simp
                refine hK.out _ _ ?_ (fun hHeld => ?_)
                · exact HS6.out _ ((HCyp.out).alloc (HCyp.out).size _)
                clear hK K
                try simp only [Act.put, List.getElem_toArray, List.getElem_cons_zero, List.getElem_cons_succ, List.setIfInBounds_toArray, List.set_cons_zero, List.set_cons_succ]
                have hal : Below wr.heap.size wr (uyp.alloc (.cells #[.bool false, .bool false, .slice none 0 0, .slice none 0 0, .slice none 0 0, .slice none 0 0, .bool false, .bool false] 26)) := (HCyp.out).alloc (HCyp.out).size _
                have hhb : Hb (uyp.alloc (.cells #[.bool false, .bool false, .slice none 0 0, .slice none 0 0, .slice none 0 0, .slice none 0 0, .bool false, .bool false] 26)) uyp.heap.size #[.bool false, .bool false, .slice none 0 0, .slice none 0 0, .slice none 0 0, .slice none 0 0, .bool false, .bool false] := Hb.new uyp _
                have hbn : Below uyp.heap.size uyp (uyp.alloc (.cells #[.bool false, .bool false, .slice none 0 0, .slice none 0 0, .slice none 0 0, .slice none 0 0, .bool false, .bool false] 26)) := below_new12 uyp _
                have hlq : wr.heap.size ≤ uyp.heap.size := (HCyp.out).size
                have hneq : qxp ≠ uyp.heap.size := Nat.ne_of_lt HQxp.out.lt
                replace HQxp := Lib.hid (HQxp.out.on hbn)
                replace HOxp := Lib.hid (HOxp.out.below hbn)
                replace HOyp := Lib.hid (HOyp.out.below hbn)
                generalize hwk : (uyp.alloc (.cells #[.bool false, .bool false, .slice none 0 0, .slice none 0 0, .slice none 0 0, .slice none 0 0, .bool false, .bool false] 26)) = wyp3 at *
                generalize hqk : uyp.heap.size = qyp at *
                have HQyp := Lib.hid hhb; have HLyp := Lib.hid hlq; have HAwyp3 := Lib.hid hal
                clear hhb hlq hal hbn
                have HNE := Lib.hid hneq
                clear hneq
                refine wpAnyH_ready (rs := [6]) (by kernel_rfl) (by simp) ?_
                refine AllReadyH.cons (o := _) rfl (fun K hK => ?_) AllReadyH.nil
                rw [if_pos (by rfl)]
                refine wp_store_mid 26 (.tmp 6) (.tmp 19) rfl qxp 0 #[.bool d.allow, .bool d.attrsAllow, .slice xpE nExp kExp, .slice xpR nRxp kRxp, .slice xpA nAxp kAxp, .slice xpP nPxp kPxp, .bool d.comments, .bool d.dataAttrs] rfl rfl (HQxp.out.there 8 rfl) size_conf (by simp [Value.oneCell']) ?_
                obtain ⟨WX, hW, hgW, hbW⟩ := res_hb HQxp.out rfl (.bool d.allow) (.bool d.attrsAllow) (.slice xpE nExp kExp) (.slice xpR nRxp kRxp) (.slice xpA nAxp kAxp) (.slice xpP nPxp kPxp) (.bool d.comments) (.bool d.dataAttrs)
                have hblWX : Below wr.heap.size wr WX := Below.grown HAwyp3.out hgW (HAwyp3.out).size (fun q hq => by injection hq with hq; have := HLxp.out; omega)
                have hW' : wyp3.setCells qxp 0 (#[.bool d.allow, .bool d.attrsAllow, .slice xpE nExp kExp, .slice xpR nRxp kRxp, .slice xpA nAxp kAxp, .slice xpP nPxp kPxp, .bool d.comments, .bool d.dataAttrs] : Array Value).toList = WX := hW.symm
                rw [hW']
                have HOxp := Lib.hid (HOxp.out.boxed HQxp.out hgW)
                have HOyp := Lib.hid (HOyp.out.boxed HQxp.out hgW)
                have HQyp := Lib.hid (HQyp.out.keep (hgW.block _ HQyp.out.lt (by have := HNE.out; simp; omega)))
                have HQxp := Lib.hid hbW; have HCWX := Lib.hid hblWX
                clear hW hW' hgW hbW hblWX
                refine hK.out _ _ ?_ (fun hHeld => ?_)
                · exact HS6.out _ HCWX.out
                clear hK K
                try simp only [Act.put, List.getElem_toArray, List.getElem_cons_zero, List.getElem_cons_succ, List.setIfInBounds_toArray, List.set_cons_zero, List.set_cons_succ]
                refine wpAnyH_ready (rs := [7]) (by kernel_rfl) (by simp) ?_
                refine AllReadyH.cons (o := _) rfl (fun K hK => ?_) AllReadyH.nil
                rw [if_pos (by rfl)]
                refine wp_store_mid 26 (.tmp 7) (.tmp 21) rfl qyp 0 #[.bool d.allow, .bool d.attrsAllow, .slice ypE nEyp kEyp, .slice ypR nRyp kRyp, .slice ypA nAyp kAyp, .slice ypP nPyp kPyp, .bool d.comments, .bool d.dataAttrs] rfl rfl (HQyp.out.there 8 rfl) size_conf (by simp [Value.oneCell']) ?_
                obtain ⟨WY, hW, hgW, hbW⟩ := res_hb HQyp.out rfl (.bool d.allow) (.bool d.attrsAllow) (.slice ypE nEyp kEyp) (.slice ypR nRyp kRyp) (.slice ypA nAyp kAyp) (.slice ypP nPyp kPyp) (.bool d.comments) (.bool d.dataAttrs)
                have hblWY : Below wr.heap.size wr WY := Below.grown HCWX.out hgW (HCWX.out).size (fun q hq => by injection hq with hq; have := HLyp.out; omega)
                have hW' : WX.setCells qyp 0 (#[.bool d.allow, .bool d.attrsAllow, .slice ypE nEyp kEyp, .slice ypR nRyp kRyp, .slice ypA nAyp kAyp, .slice ypP nPyp kPyp, .bool d.comments, .bool d.dataAttrs] : Array Value).toList = WY := hW.symm
                rw [hW']
                have HOxp := Lib.hid (HOxp.out.boxed HQyp.out hgW)
                have HOyp := Lib.hid (HOyp.out.boxed HQyp.out hgW)
                have HQxp := Lib.hid (HQxp.out.keep (hgW.block _ HQxp.out.lt (by have := HNE.out; simp; omega)))
                have HQyp := Lib.hid hbW; have HCWY := Lib.hid hblWY
                clear hW hW' hgW hbW hblWY
                refine hK.out _ _ ?_ (fun hHeld => ?_)
                · exact HS6.out _ HCWY.out
                clear hK K
                try simp only [Act.put, List.getElem_toArray, List.getElem_cons_zero, List.getElem_cons_succ, List.setIfInBounds_toArray, List.set_cons_zero, List.set_cons_succ]
                refine wpAnyH_done (by kernel_rfl) ?_ _
                refine NoPanic.normal ?_
                go_wp2
                go_meet
                exact ⟨qxp, qyp, xpE, nExp, kExp, xpR, nRxp, kRxp, xpA, nAxp, kAxp, xpP, nPxp, kPxp, ypE, nEyp, kEyp, ypR, nRyp, kRyp, ypA, nAyp, kAyp, ypP, nPyp, kPyp, lxp, lyp, rfl, rfl, HLxp.out, HLyp.out, HQxp.out, HQyp.out, HOxp.out, HOyp.out, HCWY.out⟩
            · go_simp
              refine hK.out _ _ ?_ (fun hHeld => ?_)
              · exact HS6.out _ ((HAwxp1.out).alloc (HAwxp1.out).size _)
              clear hK K
              try simp only [Act.put, List.getElem_toArray, List.getElem_cons_zero, List.getElem_cons_succ, List.setIfInBounds_toArray, List.set_cons_zero, List.set_cons_succ]
              have hal : Below wr.heap.size wr (wxp1.alloc (.cells #[.bool false, .bool false, .slice none 0 0, .slice none 0 0, .slice none 0 0, .slice none 0 0, .bool false, .bool false] 26)) := (HAwxp1.out).alloc (HAwxp1.out).size _
              have hhb : Hb (wxp1.alloc (.cells #[.bool false, .bool false, .slice none 0 0, .slice none 0 0, .slice none 0 0, .slice none 0 0, .bool false, .bool false] 26)) wxp1.heap.size #[.bool false, .bool false, .slice none 0 0, .slice none 0 0, .slice none 0 0, .slice none 0 0, .bool false, .bool false] := Hb.new wxp1 _
              have hbn : Below wxp1.heap.size wxp1 (wxp1.alloc (.cells #[.bool false, .bool false, .slice none 0 0, .slice none 0 0, .slice none 0 0, .slice none 0 0, .bool false, .bool false] 26)) := below_new12 wxp1 _
              have hlq : wr.heap.size ≤ wxp1.heap.size := (HAwxp1.out).size
              have hneq : qxp ≠ wxp1.heap.size := Nat.ne_of_lt HQxp.out.lt
              replace HQxp := Lib.hid (HQxp.out.on hbn)
              replace HOxp := Lib.hid (HOxp.out.below hbn)
              generalize hwk : (wxp1.alloc (.cells #[.bool false, .bool false, .slice none 0 0, .slice none 0 0, .slice none 0 0, .slice none 0 0, .bool false, .bool false] 26)) = wyp2 at *
              generalize hqk : wxp1.heap.size = qyp at *
              have HQyp := Lib.hid hhb; have HLyp := Lib.hid hlq; have HAwyp2 := Lib.hid hal
              clear hhb hlq hal hbn
              have HNE := Lib.hid hneq
              clear hneq
              refine wpAnyH_ready (rs := [3]) (by kernel_rfl) (by simp) ?_
              refine AllReadyH.cons (o := _) rfl (fun K hK => ?_) (AllReadyH.nil)
              · go_simp
                go_at_call 18
                refine (strip1 (confV d (.slice A1 n1 c1) (.slice A2 n2 c2) (.slice A3 n3 c3) (.slice A4 n4 c4)) d wyp2 (HC6.out _ HAwyp2.out) HSM.out).mono ?_
                rintro r uyp ⟨vyp, rfl, ho, hc⟩
                obtain ⟨vE, vR, vA, vP, lyp, rfl, ho⟩ := ho
                obtain ⟨ypE, nEyp, kEyp, rfl⟩ := own_shape ho.e
                obtain ⟨ypR, nRyp, kRyp, rfl⟩ := own_shape ho.r
                obtain ⟨ypA, nAyp, kAyp, rfl⟩ := own_shape ho.a
                obtain ⟨ypP, nPyp, kPyp, rfl⟩ := po_shape ho.p
                have HCyp := Lib.hid (show Below wr.heap.size wr uyp from Below.trans HAwyp2.out (Below.mono hc (HAwyp2.out).size))
                have HOyp := Lib.hid (show Own12 wr.heap.size uyp (stripC d) _ _ _ _ lyp from ho.mono (HAwyp2.out).size)
                have HOxp := Lib.hid (HOxp.out.below hc)
                have HQxp := Lib.hid (HQxp.out.on hc)
                have HQyp := Lib.hid (HQyp.out.on hc)
                clear hc ho
                go_wp2_with fail
                refine hK.out _ _ ?_ (fun hHeld => ?_)
                · exact HS6.out _ HCyp.out
                clear hK K
                try simp only [Act.put, List.getElem_toArray, List.getElem_cons_zero, List.getElem_cons_succ, List.setIfInBounds_toArray, List.set_cons_zero, List.set_cons_succ]
                refine wpAnyH_ready (rs := [6]) (by kernel_rfl) (by simp) ?_
                refine AllReadyH.cons (o := _) rfl (fun K hK => ?_) AllReadyH.nil
                rw [if_pos (by rfl)]
                refine wp_store_mid 26 (.tmp 6) (.tmp 19) rfl qxp 0 #[.bool d.allow, .bool d.attrsAllow, .slice xpE nExp kExp, .slice xpR nRxp kRxp, .slice xpA nAxp kAxp, .slice xpP nPxp kPxp, .bool d.comments, .bool d.dataAttrs] rfl rfl (HQxp.out.there 8 rfl) size_conf (by simp [Value.oneCell']) ?_
                obtain ⟨WX, hW, hgW, hbW⟩ := res_hb HQxp.out rfl (.bool d.allow) (.bool d.attrsAllow) (.slice xpE nExp kExp) (.slice xpR nRxp kRxp) (.slice xpA nAxp kAxp) (.slice xpP nPxp kPxp) (.bool d.comments) (.bool d.dataAttrs)
                have hblWX : Below wr.heap.size wr WX := Below.grown HCyp.out hgW (HCyp.out).size (fun q hq => by injection hq with hq; have := HLxp.out; omega)
                have hW' : uyp.setCells qxp 0 (#[.bool d.allow, .bool d.attrsAllow, .slice xpE nExp kExp, .slice xpR nRxp kRxp, .slice xpA nAxp kAxp, .slice xpP nPxp kPxp, .bool d.comments, .bool d.dataAttrs] : Array Value).toList = WX := hW.symm
                rw [hW']
                have HOxp := Lib.hid (HOxp.out.boxed HQxp.out hgW)
                have HOyp := Lib.hid (HOyp.out.boxed HQxp.out hgW)
                have HQyp := Lib.hid (HQyp.out.keep (hgW.block _ HQyp.out.lt (by have := HNE.out; simp; omega)))
                have HQxp := Lib.hid hbW; have HCWX := Lib.hid hblWX
                clear hW hW' hgW hbW hblWX
                refine hK.out _ _ ?_ (fun hHeld => ?_)
                · exact HS6.out _ HCWX.out
                clear hK K
                try simp only [Act.put, List.getElem_toArray, List.getElem_cons_zero, List.getElem_cons_succ, List.setIfInBounds_toArray, List.set_cons_zero, List.set_cons_succ]
                refine wpAnyH_ready (rs := [7]) (by kernel_rfl) (by simp) ?_
                refine AllReadyH.cons (o := _) rfl (fun K hK => ?_) AllReadyH.nil
                rw [if_pos (by rfl)]
                refine wp_store_mid 26 (.tmp 7) (.tmp 21) rfl qyp 0 #[.bool d.allow, .bool d.attrsAllow, .slice ypE nEyp kEyp, .slice ypR nRyp kRyp, .slice ypA nAyp kAyp, .slice ypP nPyp kPyp, .bool d.comments, .bool d.dataAttrs] rfl rfl (HQyp.out.there 8 rfl) size_conf (by simp [Value.oneCell']) ?_
                obtain ⟨WY, hW, hgW, hbW⟩ := res_hb HQyp.out rfl (.bool d.allow) (.bool d.attrsAllow) (.slice ypE nEyp kEyp) (.slice ypR nRyp kRyp) (.slice ypA nAyp kAyp) (.slice ypP nPyp kPyp) (.bool d.comments) (.bool d.dataAttrs)
                have hblWY : Below wr.heap.size wr WY := Below.grown HCWX.out hgW (HCWX.out).size (fun q hq => by injection hq with hq; have := HLyp.out; omega)
                have hW' : WX.setCells qyp 0 (#[.bool d.allow, .bool d.attrsAllow, .slice ypE nEyp kEyp, .slice ypR nRyp kRyp, .slice ypA nAyp kAyp, .slice ypP nPyp kPyp, .bool d.comments, .bool d.dataAttrs] : Array Value).toList = WY := hW.symm
                rw [hW']
                have HOxp := Lib.hid (HOxp.out.boxed HQyp.out hgW)
                have HOyp := Lib.hid (HOyp.out.boxed HQyp.out hgW)
                have HQxp := Lib.hid (HQxp.out.keep (hgW.block _ HQxp.out.lt (by have := HNE.out; simp; omega)))
                have HQyp := Lib.hid hbW; have HCWY := Lib.hid hblWY
                clear hW hW' hgW hbW hblWY
                refine hK.out _ _ ?_ (fun hHeld => ?_)
                · exact HS6.out _ HCWY.out
                clear hK K
                try simp only [Act.put, List.getElem_toArray, List.getElem_cons_zero, List.getElem_cons_succ, List.setIfInBounds_toArray, List.set_cons_zero, List.set_cons_succ]
                refine wpAnyH_done (by kernel_rfl) ?_ _
                refine NoPanic.normal ?_
                go_wp2
                go_meet
                exact ⟨qxp, qyp, xpE, nExp, kExp, xpR, nRxp, kRxp, xpA, nAxp, kAxp, xpP, nPxp, kPxp, ypE, nEyp, kEyp, ypR, nRyp, kRyp, ypA, nAyp, kAyp, ypP, nPyp, kPyp, lxp, lyp, rfl, rfl, HLxp.out, HLyp.out, HQxp.out, HQyp.out, HOxp.out, HOyp.out, HCWY.out⟩
          · go_simp
            refine hK.out _ _ ?_ (fun hHeld => ?_)
            · exact HS6.out _ ((HCxp.out).alloc (HCxp.out).size _)
            clear hK K
            try simp only [Act.put, List.getElem_toArray, List.getElem_cons_zero, List.getElem_cons_succ, List.setIfInBounds_toArray, List.set_cons_zero, List.set_cons_succ]
            have hal : Below wr.heap.size wr (uxp.alloc (.cells #[.bool false, .bool false, .slice none 0 0, .slice none 0 0, .slice none 0 0, .slice none 0 0, .bool false, .bool false] 26)) := (HCxp.out).alloc (HCxp.out).size _
            have hhb : Hb (uxp.alloc (.cells #[.bool false, .bool false, .slice none 0 0, .slice none 0 0, .slice none 0 0, .slice none 0 0, .bool false, .bool false] 26)) uxp.heap.size #[.bool false, .bool false, .slice none 0 0, .slice none 0 0, .slice none 0 0, .slice none 0 0, .bool false, .bool false] := Hb.new uxp _
            have hbn : Below uxp.heap.size uxp (uxp.alloc (.cells #[.bool false, .bool false, .slice none 0 0, .slice none 0 0, .slice none 0 0, .slice none 0 0, .bool false, .bool false] 26)) := below_new12 uxp _
            have hlq : wr.heap.size ≤ uxp.heap.size := (HCxp.out).size
            replace HOxp := Lib.hid (HOxp.out.below hbn)
            generalize hwk : (uxp.alloc (.cells #[.bool false, .bool false, .slice none 0 0, .slice none 0 0, .slice none 0 0, .slice none 0 0, .bool false, .bool false] 26)) = wyp1 at *
            generalize hqk : uxp.heap.size = qyp at *
            have HQyp := Lib.hid hhb; have HLyp := Lib.hid hlq; have HAwyp1 := Lib.hid hal
            clear hhb hlq hal hbn
            refine wpAnyH_ready (rs := [3, 4]) (by kernel_rfl) (by simp) ?_
            refine AllReadyH.cons (o := _) rfl (fun K hK => ?_) (AllReadyH.cons (o := _) rfl (fun K hK => ?_) (AllReadyH.nil))
            · go_simp
              go_at_call 18
              refine (strip1 (confV d (.slice A1 n1 c1) (.slice A2 n2 c2) (.slice A3 n3 c3) (.slice A4 n4 c4)) d wyp1 (HC6.out _ HAwyp1.out) HSM.out).mono ?_
              rintro r uyp ⟨vyp, rfl, ho, hc⟩
              obtain ⟨vE, vR, vA, vP, lyp, rfl, ho⟩ := ho
              obtain ⟨ypE, nEyp, kEyp, rfl⟩ := own_shape ho.e
              obtain ⟨ypR, nRyp, kRyp, rfl⟩ := own_shape ho.r
              obtain ⟨ypA, nAyp, kAyp, rfl⟩ := own_shape ho.a
              obtain ⟨ypP, nPyp, kPyp, rfl⟩ := po_shape ho.p
              have HCyp := Lib.hid (show Below wr.heap.size wr uyp from Below.trans HAwyp1.out (Below.mono hc (HAwyp1.out).size))
              have HOyp := Lib.hid (show Own12 wr.heap.size uyp (stripC d) _ _ _ _ lyp from ho.mono (HAwyp1.out).size)
              have HOxp := Lib.hid (HOxp.out.below hc)
              have HQyp := Lib.hid (HQyp.out.on hc)
              clear hc ho
              go_wp2_with fail
              refine hK.out _ _ ?_ (fun hHeld => ?_)
              · exact HS6.out _ HCyp.out
              clear hK K
              try simp only [Act.put, List.getElem_toArray, List.getElem_cons_zero, List.getElem_cons_succ, List.setIfInBounds_toArray, List.set_cons_zero, List.set_cons_succ]
              refine wpAnyH_ready (rs := [4]) (by kernel_rfl) (by simp) ?_
              refine AllReadyH.cons (o := _) rfl (fun K hK => ?_) (AllReadyH.nil)
              · go_simp
                refine hK.out _ _ ?_ (fun hHeld => ?_)
                · exact HS6.out _ ((HCyp.out).alloc (HCyp.out).size _)
                clear hK K
                try simp only [Act.put, List.getElem_toArray, List.getElem_cons_zero, List.getElem_cons_succ, List.setIfInBounds_toArray, List.set_cons_zero, List.set_cons_succ]
                have hal : Below wr.heap.size wr (uyp.alloc (.cells #[.bool false, .bool false, .slice none 0 0, .slice none 0 0, .slice none 0 0, .slice none 0 0, .bool false, .bool false] 26)) := (HCyp.out).alloc (HCyp.out).size _
                have hhb : Hb (uyp.alloc (.cells #[.bool false, .bool false, .slice none 0 0, .slice none 0 0, .slice none 0 0, .slice none 0 0, .bool false, .bool false] 26)) uyp.heap.size #[.bool false, .bool false, .slice none 0 0, .slice none 0 0, .slice none 0 0, .slice none 0 0, .bool false, .bool false] := Hb.new uyp _
                have hbn : Below uyp.heap.size uyp (uyp.alloc (.cells #[.bool false, .bool false, .slice none 0 0, .slice none 0 0, .slice none 0 0, .slice none 0 0, .bool false, .bool false] 26)) := below_new12 uyp _
                have hlq : wr.heap.size ≤ uyp.heap.size := (HCyp.out).size
                have hneq : qyp ≠ uyp.heap.size := Nat.ne_of_lt HQyp.out.lt
                replace HQyp := Lib.hid (HQyp.out.on hbn)
                replace HOxp := Lib.hid (HOxp.out.below hbn)
                replace HOyp := Lib.hid (HOyp.out.below hbn)
                generalize hwk : (uyp.alloc (.cells #[.bool false, .bool false, .slice none 0 0, .slice none 0 0, .slice none 0 0, .slice none 0 0, .bool false, .bool false] 26)) = wxp3 at *
                generalize hqk : uyp.heap.size = qxp at *
                have HQxp := Lib.hid hhb; have HLxp := Lib.hid hlq; have HAwxp3 := Lib.hid hal
                clear hhb hlq hal hbn
                have HNE := Lib.hid hneq
                clear hneq
                refine wpAnyH_ready (rs := [6]) (by kernel_rfl) (by simp) ?_
                refine AllReadyH.cons (o := _) rfl (fun K hK => ?_) AllReadyH.nil
                rw [if_pos (by rfl)]
                refine wp_store_mid 26 (.tmp 6) (.tmp 19) rfl qxp 0 #[.bool d.allow, .bool d.attrsAllow, .slice xpE nExp kExp, .slice xpR nRxp kRxp, .slice xpA nAxp kAxp, .slice xpP nPxp kPxp, .bool d.comments, .bool d.dataAttrs] rfl rfl (HQxp.out.there 8 rfl) size_conf (by simp [Value.oneCell']) ?_
                obtain ⟨WX, hW, hgW, hbW⟩ := res_hb HQxp.out rfl (.bool d.allow) (.bool d.attrsAllow) (.slice xpE nExp kExp) (.slice xpR nRxp kRxp) (.slice xpA nAxp kAxp) (.slice xpP nPxp kPxp) (.bool d.comments) (.bool d.dataAttrs)
                have hblWX : Below wr.heap.size wr WX := Below.grown HAwxp3.out hgW (HAwxp3.out).size (fun q hq => by injection hq with hq; have := HLxp.out; omega)
                have hW' : wxp3.setCells qxp 0 (#[.bool d.allow, .bool d.attrsAllow, .slice xpE nExp kExp, .slice xpR nRxp kRxp, .slice xpA nAxp kAxp, .slice xpP nPxp kPxp, .bool d.comments, .bool d.dataAttrs] : Array Value).toList = WX := hW.symm
                rw [hW']
                have HOxp := Lib.hid (HOxp.out.boxed HQxp.out hgW)
                have HOyp := Lib.hid (HOyp.out.boxed HQxp.out hgW)
                have HQyp := Lib.hid (HQyp.out.keep (hgW.block _ HQyp.out.lt (by have := HNE.out; simp; omega)))
                have HQxp := Lib.hid hbW; have HCWX := Lib.hid hblWX
                clear hW hW' hgW hbW hblWX
                refine hK.out _ _ ?_ (fun hHeld => ?_)
                · exact HS6.out _ HCWX.out
                clear hK K
                try simp only [Act.put, List.getElem_toArray, List.getElem_cons_zero, List.getElem_cons_succ, List.setIfInBounds_toArray, List.set_cons_zero, List.set_cons_succ]
                refine wpAnyH_ready (rs := [7]) (by kernel_rfl) (by simp) ?_
                refine AllReadyH.cons (o := _) rfl (fun K hK => ?_) AllReadyH.nil
                rw [if_pos (by rfl)]
                refine wp_store_mid 26 (.tmp 7) (.tmp 21) rfl qyp 0 #[.bool d.allow, .bool d.attrsAllow, .slice ypE nEyp kEyp, .slice ypR nRyp kRyp, .slice ypA nAyp kAyp, .slice ypP nPyp kPyp, .bool d.comments, .bool d.dataAttrs] rfl rfl (HQyp.out.there 8 rfl) size_conf (by simp [Value.oneCell']) ?_
                obtain ⟨WY, hW, hgW, hbW⟩ := res_hb HQyp.out rfl (.bool d.allow) (.bool d.attrsAllow) (.slice ypE nEyp kEyp) (.slice ypR nRyp kRyp) (.slice ypA nAyp kAyp) (.slice ypP nPyp kPyp) (.bool d.comments) (.bool d.dataAttrs)
                have hblWY : Below wr.heap.size wr WY := Below.grown HCWX.out hgW (HCWX.out).size (fun q hq => by injection hq with hq; have := HLyp.out; omega)
                have hW' : WX.setCells qyp 0 (#[.bool d.allow, .bool d.attrsAllow, .slice ypE nEyp kEyp, .slice ypR nRyp kRyp, .slice ypA nAyp kAyp, .slice ypP nPyp kPyp, .bool d.comments, .bool d.dataAttrs] : Array Value).toList = WY := hW.symm
                rw [hW']
                have HOxp := Lib.hid (HOxp.out.boxed HQyp.out hgW)
                have HOyp := Lib.hid (HOyp.out.boxed HQyp.out hgW)
                have HQxp := Lib.hid (HQxp.out.keep (hgW.block _ HQxp.out.lt (by have := HNE.out; simp; omega)))
                have HQyp := Lib.hid hbW; have HCWY := Lib.hid hblWY
                clear hW hW' hgW hbW hblWY
                refine hK.out _ _ ?_ (fun hHeld => ?_)
                · exact HS6.out _ HCWY.out
                clear hK K
                try simp only [Act.put, List.getElem_toArray, List.getElem_cons_zero, List.getElem_cons_succ, List.setIfInBounds_toArray, List.set_cons_zero, List.set_cons_succ]
                refine wpAnyH_done (by kernel_rfl) ?_ _
                refine NoPanic.normal ?_
                go_wp2
                go_meet
                exact ⟨qxp, qyp, xpE, nExp, kExp, xpR, nRxp, kRxp, xpA, nAxp, kAxp, xpP, nPxp, kPxp, ypE, nEyp, kEyp, ypR, nRyp, kRyp, ypA, nAyp, kAyp, ypP, nPyp, kPyp, lxp, lyp, rfl, rfl, HLxp.out, HLyp.out, HQxp.out, HQyp.out, HOxp.out, HOyp.out, HCWY.out⟩
            · go_simp
              refine hK.out _ _ ?_ (fun hHeld => ?_)
              · exact HS6.out _ ((HAwyp1.out).alloc (HAwyp1.out).size _)
              clear hK K
              try simp only [Act.put, List.getElem_toArray, List.getElem_cons_zero, List.getElem_cons_succ, List.setIfInBounds_toArray, List.set_cons_zero, List.set_cons_succ]
              have hal : Below wr.heap.size wr (wyp1.alloc (.cells #[.bool false, .bool false, .slice none 0 0, .slice none 0 0, .slice none 0 0, .slice none 0 0, .bool false, .bool false] 26)) := (HAwyp1.out).alloc (HAwyp1.out).size _
              have hhb : Hb (wyp1.alloc (.cells #[.bool false, .bool false, .slice none 0 0, .slice none 0 0, .slice none 0 0, .slice none 0 0, .bool false, .bool false] 26)) wyp1.heap.size #[.bool false, .bool false, .slice none 0 0, .slice none 0 0, .slice none 0 0, .slice none 0 0, .bool false, .bool false] := Hb.new wyp1 _
              have hbn : Below wyp1.heap.size wyp1 (wyp1.alloc (.cells #[.bool false, .bool false, .slice none 0 0, .slice none 0 0, .slice none 0 0, .slice none 0 0, .bool false, .bool false] 26)) := below_new12 wyp1 _
              have hlq : wr.heap.size ≤ wyp1.heap.size := (HAwyp1.out).size
              have hneq : qyp ≠ wyp1.heap.size := Nat.ne_of_lt HQyp.out.lt
              replace HQyp := Lib.hid (HQyp.out.on hbn)
              replace HOxp := Lib.hid (HOxp.out.below hbn)
              generalize hwk : (wyp1.alloc (.cells #[.bool false, .bool false, .slice none 0 0, .slice none 0 0, .slice none 0 0, .slice none 0 0, .bool false, .bool false] 26)) = wxp2 at *
              generalize hqk : wyp1.heap.size = qxp at *
              have HQxp := Lib.hid hhb; have HLxp := Lib.hid hlq; have HAwxp2 := Lib.hid hal
              clear hhb hlq hal hbn
              have HNE := Lib.hid hneq
              clear hneq
              refine wpAnyH_ready (rs := [3]) (by kernel_rfl) (by simp) ?_
              refine AllReadyH.cons (o := _) rfl (fun K hK => ?_) (AllReadyH.nil)
              · go_simp
                go_at_call 18
                refine (strip1 (confV d (.slice A1 n1 c1) (.slice A2 n2 c2) (.slice A3 n3 c3) (.slice A4 n4 c4)) d wxp2 (HC6.out _ HAwxp2.out) HSM.out).mono ?_
                rintro r uyp ⟨vyp, rfl, ho, hc⟩
                obtain ⟨vE, vR, vA, vP, lyp, rfl, ho⟩ := ho
                obtain ⟨ypE, nEyp, kEyp, rfl⟩ := own_shape ho.e
                obtain ⟨ypR, nRyp, kRyp, rfl⟩ := own_shape ho.r
                obtain ⟨ypA, nAyp, kAyp, rfl⟩ := own_shape ho.a
                obtain ⟨ypP, nPyp, kPyp, rfl⟩ := po_shape ho.p
                have HCyp := Lib.hid (show Below wr.heap.size wr uyp from Below.trans HAwxp2.out (Below.mono hc (HAwxp2.out).size))
                have HOyp := Lib.hid (show Own12 wr.heap.size uyp (stripC d) _ _ _ _ lyp from ho.mono (HAwxp2.out).size)
                have HOxp := Lib.hid (HOxp.out.below hc)
                have HQyp := Lib.hid (HQyp.out.on hc)
                have HQxp := Lib.hid (HQxp.out.on hc)
                clear hc ho
                go_wp2_with fail
                refine hK.out _ _ ?_ (fun hHeld => ?_)
                · exact HS6.out _ HCyp.out
                clear hK K
                try simp only [Act.put, List.getElem_toArray, List.getElem_cons_zero, List.getElem_cons_succ, List.setIfInBounds_toArray, List.set_cons_zero, List.set_cons_succ]
                refine wpAnyH_ready (rs := [6]) (by kernel_rfl) (by simp) ?_
                refine AllReadyH.cons (o := _) rfl (fun K hK => ?_) AllReadyH.nil
                rw [if_pos (by rfl)]
                refine wp_store_mid 26 (.tmp 6) (.tmp 19) rfl qxp 0 #[.bool d.allow, .bool d.attrsAllow, .slice xpE nExp kExp, .slice xpR nRxp kRxp, .slice xpA nAxp kAxp, .slice xpP nPxp kPxp, .bool d.comments, .bool d.dataAttrs] rfl rfl (HQxp.out.there 8 rfl) size_conf (by simp [Value.oneCell']) ?_
                obtain ⟨WX, hW, hgW, hbW⟩ := res_hb HQxp.out rfl (.bool d.allow) (.bool d.attrsAllow) (.slice xpE nExp kExp) (.slice xpR nRxp kRxp) (.slice xpA nAxp kAxp) (.slice xpP nPxp kPxp) (.bool d.comments) (.bool d.dataAttrs)
                have hblWX : Below wr.heap.size wr WX := Below.grown HCyp.out hgW (HCyp.out).size (fun q hq => by injection hq with hq; have := HLxp.out; omega)
                have hW' : uyp.setCells qxp 0 (#[.bool d.allow, .bool d.attrsAllow, .slice xpE nExp kExp, .slice xpR nRxp kRxp, .slice xpA nAxp kAxp, .slice xpP nPxp kPxp, .bool d.comments, .bool d.dataAttrs] : Array Value).toList = WX := hW.symm
                rw [hW']
                have HOxp := Lib.hid (HOxp.out.boxed HQxp.out hgW)
                have HOyp := Lib.hid (HOyp.out.boxed HQxp.out hgW)
                have HQyp := Lib.hid (HQyp.out.keep (hgW.block _ HQyp.out.lt (by have := HNE.out; simp; omega)))
                have HQxp := Lib.hid hbW; have HCWX := Lib.hid hblWX
                clear hW hW' hgW hbW hblWX
                refine hK.out _ _ ?_ (fun hHeld => ?_)
                · exact HS6.out _ HCWX.out
                clear hK K
                try simp only [Act.put, List.getElem_toArray, List.getElem_cons_zero, List.getElem_cons_succ, List.setIfInBounds_toArray, List.set_cons_zero, List.set_cons_succ]
                refine wpAnyH_ready (rs := [7]) (by kernel_rfl) (by simp) ?_
                refine AllReadyH.cons (o := _) rfl (fun K hK => ?_) AllReadyH.nil
                rw [if_pos (by rfl)]
                refine wp_store_mid 26 (.tmp 7) (.tmp 21) rfl qyp 0 #[.bool d.allow, .bool d.attrsAllow, .slice ypE nEyp kEyp, .slice ypR nRyp kRyp, .slice ypA nAyp kAyp, .slice ypP nPyp kPyp, .bool d.comments, .bool d.dataAttrs] rfl rfl (HQyp.out.there 8 rfl) size_conf (by simp [Value.oneCell']) ?_
                obtain ⟨WY, hW, hgW, hbW⟩ := res_hb HQyp.out rfl (.bool d.allow) (.bool d.attrsAllow) (.slice ypE nEyp kEyp) (.slice ypR nRyp kRyp) (.slice ypA nAyp kAyp) (.slice ypP nPyp kPyp) (.bool d.comments) (.bool d.dataAttrs)
                have hblWY : Below wr.heap.size wr WY := Below.grown HCWX.out hgW (HCWX.out).size (fun q hq => by injection hq with hq; have := HLyp.out; omega)
                have hW' : WX.setCells qyp 0 (#[.bool d.allow, .bool d.attrsAllow, .slice ypE nEyp kEyp, .slice ypR nRyp kRyp, .slice ypA nAyp kAyp, .slice ypP nPyp kPyp, .bool d.comments, .bool d.dataAttrs] : Array Value).toList = WY := hW.symm
                rw [hW']
                have HOxp := Lib.hid (HOxp.out.boxed HQyp.out hgW)
                have HOyp := Lib.hid (HOyp.out.boxed HQyp.out hgW)
                have HQxp := Lib.hid (HQxp.out.keep (hgW.block _ HQxp.out.lt (by have := HNE.out; simp; omega)))
                have HQyp := Lib.hid hbW; have HCWY := Lib.hid hblWY
                clear hW hW' hgW hbW hblWY
                refine hK.out _ _ ?_ (fun hHeld => ?_)
                · exact HS6.out _ HCWY.out
                clear hK K
                try simp only [Act.put, List.getElem_toArray, List.getElem_cons_zero, List.getElem_cons_succ, List.setIfInBounds_toArray, List.set_cons_zero, List.set_cons_succ]
                refine wpAnyH_done (by kernel_rfl) ?_ _
                refine NoPanic.normal ?_
                go_wp2
                go_meet
                exact ⟨qxp, qyp, xpE, nExp, kExp, xpR, nRxp, kRxp, xpA, nAxp, kAxp, xpP, nPxp, kPxp, ypE, nEyp, kEyp, ypR, nRyp, kRyp, ypA, nAyp, kAyp, ypP, nPyp, kPyp, lxp, lyp, rfl, rfl, HLxp.out, HLyp.out, HQxp.out, HQyp.out, HOxp.out, HOyp.out, HCWY.out⟩
        · go_simp
          refine hK.out _ _ ?_ (fun hHeld => ?_)
          · exact HS6.out _ (((show Below wr.heap.size wr wr.drew from bel_eq12 (Below.refl _ wr) rfl rfl rfl rfl)).alloc ((show Below wr.heap.size wr wr.drew from bel_eq12 (Below.refl _ wr) rfl rfl rfl rfl)).size _)
          clear hK K
          try simp only [Act.put, List.getElem_toArray, List.getElem_cons_zero, List.getElem_cons_succ, List.setIfInBounds_toArray, List.set_cons_zero, List.set_cons_succ]
          have hal : Below wr.heap.size wr (wr.alloc (.cells #[.bool false, .bool false, .slice none 0 0, .slice none 0 0, .slice none 0 0, .slice none 0 0, .bool false, .bool false] 26)).drew := bel_eq12 ((Below.refl _ wr).alloc (Nat.le_refl _) _) rfl rfl rfl rfl
          have hhb : Hb (wr.alloc (.cells #[.bool false, .bool false, .slice none 0 0, .slice none 0 0, .slice none 0 0, .slice none 0 0, .bool false, .bool false] 26)).drew wr.heap.size #[.bool false, .bool false, .slice none 0 0, .slice none 0 0, .slice none 0 0, .slice none 0 0, .bool false, .bool false] := Hb.new wr _
          have hbn : Below wr.heap.size wr (wr.alloc (.cells #[.bool false, .bool false, .slice none 0 0, .slice none 0 0, .slice none 0 0, .slice none 0 0, .bool false, .bool false] 26)).drew := bel_eq12 (below_new12 wr _) rfl rfl rfl rfl
          have hlq : wr.heap.size ≤ wr.heap.size := Nat.le_refl _
          generalize hwk : (wr.alloc (.cells #[.bool false, .bool false, .slice none 0 0, .slice none 0 0, .slice none 0 0, .slice none 0 0, .bool false, .bool false] 26)).drew = wxp0 at *
          obtain ⟨qxp, hqk⟩ : ∃ q, wr.heap.size = q := ⟨_, rfl⟩
          rw [hqk]
          rw [hqk] at hhb
          replace hlq : wr.heap.size ≤ qxp := by rw [← hqk]; exact Nat.le_refl _
          have HQxp := Lib.hid hhb; have HLxp := Lib.hid hlq; have HAwxp0 := Lib.hid hal
          clear hhb hlq hal hbn
          refine wpAnyH_ready (rs := [1, 5]) (by kernel_rfl) (by simp) ?_
          refine AllReadyH.cons (o := _) rfl (fun K hK => ?_) (AllReadyH.cons (o := _) rfl (fun K hK => ?_) (AllReadyH.nil))
          · go_simp
            go_at_call 17
            refine (canon1 (confV d (.slice A1 n1 c1) (.slice A2 n2 c2) (.slice A3 n3 c3) (.slice A4 n4 c4)) d wxp0 (HC6.out _ HAwxp0.out) HSM.out).mono ?_
            rintro r uxp ⟨vxp, rfl, ho, hc⟩
            obtain ⟨vE, vR, vA, vP, lxp, rfl, ho⟩ := ho
            obtain ⟨xpE, nExp, kExp, rfl⟩ := own_shape ho.e
            obtain ⟨xpR, nRxp, kRxp, rfl⟩ := own_shape ho.r
            obtain ⟨xpA, nAxp, kAxp, rfl⟩ := own_shape ho.a
            obtain ⟨xpP, nPxp, kPxp, rfl⟩ := po_shape ho.p
            have HCxp := Lib.hid (show Below wr.heap.size wr uxp from Below.trans HAwxp0.out (Below.mono hc (HAwxp0.out).size))
            have HOxp := Lib.hid (show Own12 wr.heap.size uxp (canonC d) _ _ _ _ lxp from ho.mono (HAwxp0.out).size)
            have HQxp := Lib.hid (HQxp.out.on hc)
            clear hc ho
            go_wp2_with fail
            refine hK.out _ _ ?_ (fun hHeld => ?_)
            · exact HS6.out _ HCxp.out
            clear hK K
            try simp only [Act.put, List.getElem_toArray, List.getElem_cons_zero, List.getElem_cons_succ, List.setIfInBounds_toArray, List.set_cons_zero, List.set_cons_succ]
            refine wpAnyH_ready (rs := [3, 5]) (by kernel_rfl) (by simp) ?_
            refine AllReadyH.cons (o := _) rfl (fun K hK => ?_) (AllReadyH.cons (o := _) rfl (fun K hK => ?_) (AllReadyH.nil))
            · go_simp
              go_at_call 18
              refine (strip1 (confV d (.slice A1 n1 c1) (.slice A2 n2 c2) (.slice A3 n3 c3) (.slice A4 n4 c4)) d uxp (HC6.out _ HCxp.out) HSM.out).mono ?_
              rintro r uyp ⟨vyp, rfl, ho, hc⟩
              obtain ⟨vE, vR, vA, vP, lyp, rfl, ho⟩ := ho
              obtain ⟨ypE, nEyp, kEyp, rfl⟩ := own_shape ho.e
              obtain ⟨ypR, nRyp, kRyp, rfl⟩ := own_shape ho.r
              obtain ⟨ypA, nAyp, kAyp, rfl⟩ := own_shape ho.a
              obtain ⟨ypP, nPyp, kPyp, rfl⟩ := po_shape ho.p
              have HCyp := Lib.hid (show Below wr.heap.size wr uyp from Below.trans HCxp.out (Below.mono hc (HCxp.out).size))
              have HOyp := Lib.hid (show Own12 wr.heap.size uyp (stripC d) _ _ _ _ lyp from ho.mono (HCxp.out).size)
              have HOxp := Lib.hid (HOxp.out.below hc)
              have HQxp := Lib.hid (HQxp.out.on hc)
              clear hc ho
              go_wp2_with fail
              refine hK.out _ _ ?_ (fun hHeld => ?_)
              · exact HS6.out _ HCyp.out
              clear hK K
              try simp only [Act.put, List.getElem_toArray, List.getElem_cons_zero, List.getElem_cons_succ, List.setIfInBounds_toArray, List.set_cons_zero, List.set_cons_succ]
              refine wpAnyH_ready (rs := [5]) (by kernel_rfl) (by simp) ?_
              refine AllReadyH.cons (o := _) rfl (fun K hK => ?_) (AllReadyH.nil)
              · go_simp
                refine hK.out _ _ ?_ (fun hHeld => ?_)
                · exact HS6.out _ ((HCyp.out).alloc (HCyp.out).size _)
                clear hK K
                try simp only [Act.put, List.getElem_toArray, List.getElem_cons_zero, List.getElem_cons_succ, List.setIfInBounds_toArray, List.set_cons_zero, List.set_cons_succ]
                have hal : Below wr.heap.size wr (uyp.alloc (.cells #[.bool false, .bool false, .slice none 0 0, .slice none 0 0, .slice none 0 0, .slice none 0 0, .bool false, .bool false] 26)) := (HCyp.out).alloc (HCyp.out).size _
                have hhb : Hb (uyp.alloc (.cells #[.bool false, .bool false, .slice none 0 0, .slice none 0 0, .slice none 0 0, .slice none 0 0, .bool false, .bool false] 26)) uyp.heap.size #[.bool false, .bool false, .slice none 0 0, .slice none 0 0, .slice none 0 0, .slice none 0 0, .bool false, .bool false] := Hb.new uyp _
                have hbn : Below uyp.heap.size uyp (uyp.alloc (.cells #[.bool false, .bool false, .slice none 0 0, .slice none 0 0, .slice none 0 0, .slice none 0 0, .bool false, .bool false] 26)) := below_new12 uyp _
                have hlq : wr.heap.size ≤ uyp.heap.size := (HCyp.out).size
                have hneq : qxp ≠ uyp.heap.size := Nat.ne_of_lt HQxp.out.lt
                replace HQxp := Lib.hid (HQxp.out.on hbn)
                replace HOxp := Lib.hid (HOxp.out.below hbn)
                replace HOyp := Lib.hid (HOyp.out.below hbn)
                generalize hwk : (uyp.alloc (.cells #[.bool false, .bool false, .slice none 0 0, .slice none 0 0, .slice none 0 0, .slice none 0 0, .bool false, .bool false] 26)) = wyp3 at *
                generalize hqk : uyp.heap.size = qyp at *
                have HQyp := Lib.hid hhb; have HLyp := Lib.hid hlq; have HAwyp3 := Lib.hid hal
                clear hhb hlq hal hbn
                have HNE := Lib.hid hneq
                clear hneq
                refine wpAnyH_ready (rs := [6]) (by kernel_rfl) (by simp) ?_
                refine AllReadyH.cons (o := _) rfl (fun K hK => ?_) AllReadyH.nil
                rw [if_pos (by rfl)]
                refine wp_store_mid 26 (.tmp 6) (.tmp 19) rfl qxp 0 #[.bool d.allow, .bool d.attrsAllow, .slice xpE nExp kExp, .slice xpR nRxp kRxp, .slice xpA nAxp kAxp, .slice xpP nPxp kPxp, .bool d.comments, .bool d.dataAttrs] rfl rfl (HQxp.out.there 8 rfl) size_conf (by simp [Value.oneCell']) ?_
                obtain ⟨WX, hW, hgW, hbW⟩ := res_hb HQxp.out rfl (.bool d.allow) (.bool d.attrsAllow) (.slice xpE nExp kExp) (.slice xpR nRxp kRxp) (.slice xpA nAxp kAxp) (.slice xpP nPxp kPxp) (.bool d.comments) (.bool d.dataAttrs)
                have hblWX : Below wr.heap.size wr WX := Below.grown HAwyp3.out hgW (HAwyp3.out).size (fun q hq => by injection hq with hq; have := HLxp.out; omega)
                have hW' : wyp3.setCells qxp 0 (#[.bool d.allow, .bool d.attrsAllow, .slice xpE nExp kExp, .slice xpR nRxp kRxp, .slice xpA nAxp kAxp, .slice xpP nPxp kPxp, .bool d.comments, .bool d.dataAttrs] : Array Value).toList = WX := hW.symm
                rw [hW']
                have HOxp := Lib.hid (HOxp.out.boxed HQxp.out hgW)
                have HOyp := Lib.hid (HOyp.out.boxed HQxp.out hgW)
                have HQyp := Lib.hid (HQyp.out.keep (hgW.block _ HQyp.out.lt (by have := HNE.out; simp; omega)))
                have HQxp := Lib.hid hbW; have HCWX := Lib.hid hblWX
                clear hW hW' hgW hbW hblWX
                refine hK.out _ _ ?_ (fun hHeld => ?_)
                · exact HS6.out _ HCWX.out
                clear hK K
                try simp only [Act.put, List.getElem_toArray, List.getElem_cons_zero, List.getElem_cons_succ, List.setIfInBounds_toArray, List.set_cons_zero, List.set_cons_succ]
                refine wpAnyH_ready (rs := [7]) (by kernel_rfl) (by simp) ?_
                refine AllReadyH.cons (o := _) rfl (fun K hK => ?_) AllReadyH.nil
                rw [if_pos (by rfl)]
                refine wp_store_mid 26 (.tmp 7) (.tmp 21) rfl qyp 0 #[.bool d.allow, .bool d.attrsAllow, .slice ypE nEyp kEyp, .slice ypR nRyp kRyp, .slice ypA nAyp kAyp, .slice ypP nPyp kPyp, .bool d.comments, .bool d.dataAttrs] rfl rfl (HQyp.out.there 8 rfl) size_conf (by simp [Value.oneCell']) ?_
                obtain ⟨WY, hW, hgW, hbW⟩ := res_hb HQyp.out rfl (.bool d.allow) (.bool d.attrsAllow) (.slice ypE nEyp kEyp) (.slice ypR nRyp kRyp) (.slice ypA nAyp kAyp) (.slice ypP nPyp kPyp) (.bool d.comments) (.bool d.dataAttrs)
                have hblWY : Below wr.heap.size wr WY := Below.grown HCWX.out hgW (HCWX.out).size (fun q hq => by injection hq with hq; have := HLyp.out; omega)
                have hW' : WX.setCells qyp 0 (#[.bool d.allow, .bool d.attrsAllow, .slice ypE nEyp kEyp, .slice ypR nRyp kRyp, .slice ypA nAyp kAyp, .slice ypP nPyp kPyp, .bool d.comments, .bool d.dataAttrs] : Array Value).toList = WY := hW.symm
                rw [hW']
                have HOxp := Lib.hid (HOxp.out.boxed HQyp.out hgW)
                have HOyp := Lib.hid (HOyp.out.boxed HQyp.out hgW)
                have HQxp := Lib.hid (HQxp.out.keep (hgW.block _ HQxp.out.lt (by have := HNE.out; simp; omega)))
                have HQyp := Lib.hid hbW; have HCWY := Lib.hid hblWY
                clear hW hW' hgW hbW hblWY
                refine hK.out _ _ ?_ (fun hHeld => ?_)
                · exact HS6.out _ HCWY.out
                clear hK K
                try simp only [Act.put, List.getElem_toArray, List.getElem_cons_zero, List.getElem_cons_succ, List.setIfInBounds_toArray, List.set_cons_zero, List.set_cons_succ]
                refine wpAnyH_done (by kernel_rfl) ?_ _
                refine NoPanic.normal ?_
                go_wp2
                go_meet
                exact ⟨qxp, qyp, xpE, nExp, kExp, xpR, nRxp, kRxp, xpA, nAxp, kAxp, xpP, nPxp, kPxp, ypE, nEyp, kEyp, ypR, nRyp, kRyp, ypA, nAyp, kAyp, ypP, nPyp, kPyp, lxp, lyp, rfl, rfl, HLxp.out, HLyp.out, HQxp.out, HQyp.out, HOxp.out, HOyp.out, HCWY.out⟩
            · go_simp
              refine hK.out _ _ ?_ (fun hHeld => ?_)
              · exact HS6.out _ ((HCxp.out).alloc (HCxp.out).size _)
              clear hK K
              try simp only [Act.put, List.getElem_toArray, List.getElem_cons_zero, List.getElem_cons_succ, List.setIfInBounds_toArray, List.set_cons_zero, List.set_cons_succ]
              have hal : Below wr.heap.size wr (uxp.alloc (.cells #[.bool false, .bool false, .slice none 0 0, .slice none 0 0, .slice none 0 0, .slice none 0 0, .bool false, .bool false] 26)) := (HCxp.out).alloc (HCxp.out).size _
              have hhb : Hb (uxp.alloc (.cells #[.bool false, .bool false, .slice none 0 0, .slice none 0 0, .slice none 0 0, .slice none 0 0, .bool false, .bool false] 26)) uxp.heap.size #[.bool false, .bool false, .slice none 0 0, .slice none 0 0, .slice none 0 0, .slice none 0 0, .bool false, .bool false] := Hb.new uxp _
              have hbn : Below uxp.heap.size uxp (uxp.alloc (.cells #[.bool false, .bool false, .slice none 0 0, .slice none 0 0, .slice none 0 0, .slice none 0 0, .bool false, .bool false] 26)) := below_new12 uxp _
              have hlq : wr.heap.size ≤ uxp.heap.size := (HCxp.out).size
              have hneq : qxp ≠ uxp.heap.size := Nat.ne_of_lt HQxp.out.lt
              replace HQxp := Lib.hid (HQxp.out.on hbn)
              replace HOxp := Lib.hid (HOxp.out.below hbn)
              generalize hwk : (uxp.alloc (.cells #[.bool false, .bool false, .slice none 0 0, .slice none 0 0, .slice none 0 0, .slice none 0 0, .bool false, .bool false] 26)) = wyp2 at *
              generalize hqk : uxp.heap.size = qyp at *
              have HQyp := Lib.hid hhb; have HLyp := Lib.hid hlq; have HAwyp2 := Lib.hid hal
              clear hhb hlq hal hbn
              have HNE := Lib.hid hneq
              clear hneq
              refine wpAnyH_ready (rs := [3]) (by kernel_rfl) (by simp) ?_
              refine AllReadyH.cons (o := _) rfl (fun K hK => ?_) (AllReadyH.nil)
              · go_simp
                go_at_call 18
                refine (strip1 (confV d (.slice A1 n1 c1) (.slice A2 n2 c2) (.slice A3 n3 c3) (.slice A4 n4 c4)) d wyp2 (HC6.out _ HAwyp2.out) HSM.out).mono ?_
                rintro r uyp ⟨vyp, rfl, ho, hc⟩
                obtain ⟨vE, vR, vA, vP, lyp, rfl, ho⟩ := ho
                obtain ⟨ypE, nEyp, kEyp, rfl⟩ := own_shape ho.e
                obtain ⟨ypR, nRyp, kRyp, rfl⟩ := own_shape ho.r
                obtain ⟨ypA, nAyp, kAyp, rfl⟩ := own_shape ho.a
                obtain ⟨ypP, nPyp, kPyp, rfl⟩ := po_shape ho.p
                have HCyp := Lib.hid (show Below wr.heap.size wr uyp from Below.trans HAwyp2.out (Below.mono hc (HAwyp2.out).size))
                have HOyp := Lib.hid (show Own12 wr.heap.size uyp (stripC d) _ _ _ _ lyp from ho.mono (HAwyp2.out).size)
                have HOxp := Lib.hid (HOxp.out.below hc)
                have HQxp := Lib.hid (HQxp.out.on hc)
                have HQyp := Lib.hid (HQyp.out.on hc)
                clear hc ho
                go_wp2_with fail
                refine hK.out _ _ ?_ (fun hHeld => ?_)
                · exact HS6.out _ HCyp.out
                clear hK K
                try simp only [Act.put, List.getElem_toArray, List.getElem_cons_zero, List.getElem_cons_succ, List.setIfInBounds_toArray, List.set_cons_zero, List.set_cons_succ]
                refine wpAnyH_ready (rs := [6]) (by kernel_rfl) (by simp) ?_
                refine AllReadyH.cons (o := _) rfl (fun K hK => ?_) AllReadyH.nil
                rw [if_pos (by rfl)]
                refine wp_store_mid 26 (.tmp 6) (.tmp 19) rfl qxp 0 #[.bool d.allow, .bool d.attrsAllow, .slice xpE nExp kExp, .slice xpR nRxp kRxp, .slice xpA nAxp kAxp, .slice xpP nPxp kPxp, .bool d.comments, .bool d.dataAttrs] rfl rfl (HQxp.out.there 8 rfl) size_conf (by simp [Value.oneCell']) ?_
                obtain ⟨WX, hW, hgW, hbW⟩ := res_hb HQxp.out rfl (.bool d.allow) (.bool d.attrsAllow) (.slice xpE nExp kExp) (.slice xpR nRxp kRxp) (.slice xpA nAxp kAxp) (.slice xpP nPxp kPxp) (.bool d.comments) (.bool d.dataAttrs)
                have hblWX : Below wr.heap.size wr WX := Below.grown HCyp.out hgW (HCyp.out).size (fun q hq => by injection hq with hq; have := HLxp.out; omega)
                have hW' : uyp.setCells qxp 0 (#[.bool d.allow, .bool d.attrsAllow, .slice xpE nExp kExp, .slice xpR nRxp kRxp, .slice xpA nAxp kAxp, .slice xpP nPxp kPxp, .bool d.comments, .bool d.dataAttrs] : Array Value).toList = WX := hW.symm
                rw [hW']
                have HOxp := Lib.hid (HOxp.out.boxed HQxp.out hgW)
                have HOyp := Lib.hid (HOyp.out.boxed HQxp.out hgW)
                have HQyp := Lib.hid (HQyp.out.keep (hgW.block _ HQyp.out.lt (by have := HNE.out; simp; omega)))
                have HQxp := Lib.hid hbW; have HCWX := Lib.hid hblWX
                clear hW hW' hgW hbW hblWX
                refine hK.out _ _ ?_ (fun hHeld => ?_)
                · exact HS6.out _ HCWX.out
                clear hK K
                try simp only [Act.put, List.getElem_toArray, List.getElem_cons_zero, List.getElem_cons_succ, List.setIfInBounds_toArray, List.set_cons_zero, List.set_cons_succ]
                refine wpAnyH_ready (rs := [7]) (by kernel_rfl) (by simp) ?_
                refine AllReadyH.cons (o := _) rfl (fun K hK => ?_) AllReadyH.nil
                rw [if_pos (by rfl)]
                refine wp_store_mid 26 (.tmp 7) (.tmp 21) rfl qyp 0 #[.bool d.allow, .bool d.attrsAllow, .slice ypE nEyp kEyp, .slice ypR nRyp kRyp, .slice ypA nAyp kAyp, .slice ypP nPyp kPyp, .bool d.comments, .bool d.dataAttrs] rfl rfl (HQyp.out.there 8 rfl) size_conf (by simp [Value.oneCell']) ?_
                obtain ⟨WY, hW, hgW, hbW⟩ := res_hb HQyp.out rfl (.bool d.allow) (.bool d.attrsAllow) (.slice ypE nEyp kEyp) (.slice ypR nRyp kRyp) (.slice ypA nAyp kAyp) (.slice ypP nPyp kPyp) (.bool d.comments) (.bool d.dataAttrs)
                have hblWY : Below wr.heap.size wr WY := Below.grown HCWX.out hgW (HCWX.out).size (fun q hq => by injection hq with hq; have := HLyp.out; omega)
                have hW' : WX.setCells qyp 0 (#[.bool d.allow, .bool d.attrsAllow, .slice ypE nEyp kEyp, .slice ypR nRyp kRyp, .slice ypA nAyp kAyp, .slice ypP nPyp kPyp, .bool d.comments, .bool d.dataAttrs] : Array Value).toList = WY := hW.symm
                rw [hW']
                have HOxp := Lib.hid (HOxp.out.boxed HQyp.out hgW)
                have HOyp := Lib.hid (HOyp.out.boxed HQyp.out hgW)
                have HQxp := Lib.hid (HQxp.out.keep (hgW.block _ HQxp.out.lt (by have := HNE.out; simp; omega)))
                have HQyp := Lib.hid hbW; have HCWY := Lib.hid hblWY
                clear hW hW' hgW hbW hblWY
                refine hK.out _ _ ?_ (fun hHeld => ?_)
                · exact HS6.out _ HCWY.out
                clear hK K
                try simp only [Act.put, List.getElem_toArray, List.getElem_cons_zero, List.getElem_cons_succ, List.setIfInBounds_toArray, List.set_cons_zero, List.set_cons_succ]
                refine wpAnyH_done (by kernel_rfl) ?_ _
                refine NoPanic.normal ?_
                go_wp2
                go_meet
                exact ⟨qxp, qyp, xpE, nExp, kExp, xpR, nRxp, kRxp, xpA, nAxp, kAxp, xpP, nPxp, kPxp, ypE, nEyp, kEyp, ypR, nRyp, kRyp, ypA, nAyp, kAyp, ypP, nPyp, kPyp, lxp, lyp, rfl, rfl, HLxp.out, HLyp.out, HQxp.out, HQyp.out, HOxp.out, HOyp.out, HCWY.out⟩
          · go_simp
            refine hK.out _ _ ?_ (fun hHeld => ?_)
            · exact HS6.out _ ((HAwxp0.out).alloc (HAwxp0.out).size _)
            clear hK K
            try simp only [Act.put, List.getElem_toArray, List.getElem_cons_zero, List.getElem_cons_succ, List.setIfInBounds_toArray, List.set_cons_zero, List.set_cons_succ]
            have hal : Below wr.heap.size wr (wxp0.alloc (.cells #[.bool false, .bool false, .slice none 0 0, .slice none 0 0, .slice none 0 0, .slice none 0 0, .bool false, .bool false] 26)) := (HAwxp0.out).alloc (HAwxp0.out).size _
            have hhb : Hb (wxp0.alloc (.cells #[.bool false, .bool false, .slice none 0 0, .slice none 0 0, .slice none 0 0, .slice none 0 0, .bool false, .bool false] 26)) wxp0.heap.size #[.bool false, .bool false, .slice none 0 0, .slice none 0 0, .slice none 0 0, .slice none 0 0, .bool false, .bool false] := Hb.new wxp0 _
            have hbn : Below wxp0.heap.size wxp0 (wxp0.alloc (.cells #[.bool false, .bool false, .slice none 0 0, .slice none 0 0, .slice none 0 0, .slice none 0 0, .bool false, .bool false] 26)) := below_new12 wxp0 _
            have hlq : wr.heap.size ≤ wxp0.heap.size := (HAwxp0.out).size
            have hneq : qxp ≠ wxp0.heap.size := Nat.ne_of_lt HQxp.out.lt
            replace HQxp := Lib.hid (HQxp.out.on hbn)
            generalize hwk : (wxp0.alloc (.cells #[.bool false, .bool false, .slice none 0 0, .slice none 0 0, .slice none 0 0, .slice none 0 0, .bool false, .bool false] 26)) = wyp1 at *
            generalize hqk : wxp0.heap.size = qyp at *
            have HQyp := Lib.hid hhb; have HLyp := Lib.hid hlq; have HAwyp1 := Lib.hid hal
            clear hhb hlq hal hbn
            have HNE := Lib.hid hneq
            clear hneq
            refine wpAnyH_ready (rs := [1]) (by kernel_rfl) (by simp) ?_
            refine AllReadyH.cons (o := _) rfl (fun K hK => ?_) (AllReadyH.nil)
            · go_simp
              go_at_call 17
              refine (canon1 (confV d (.slice A1 n1 c1) (.slice A2 n2 c2) (.slice A3 n3 c3) (.slice A4 n4 c4)) d wyp1 (HC6.out _ HAwyp1.out) HSM.out).mono ?_
              rintro r uxp ⟨vxp, rfl, ho, hc⟩
              obtain ⟨vE, vR, vA, vP, lxp, rfl, ho⟩ := ho
              obtain ⟨xpE, nExp, kExp, rfl⟩ := own_shape ho.e
              obtain ⟨xpR, nRxp, kRxp, rfl⟩ := own_shape ho.r
              obtain ⟨xpA, nAxp, kAxp, rfl⟩ := own_shape ho.a
              obtain ⟨xpP, nPxp, kPxp, rfl⟩ := po_shape ho.p
              have HCxp := Lib.hid (show Below wr.heap.size wr uxp from Below.trans HAwyp1.out (Below.mono hc (HAwyp1.out).size))
              have HOxp := Lib.hid (show Own12 wr.heap.size uxp (canonC d) _ _ _ _ lxp from ho.mono (HAwyp1.out).size)
              have HQxp := Lib.hid (HQxp.out.on hc)
              have HQyp := Lib.hid (HQyp.out.on hc)
              clear hc ho
              go_wp2_with fail
              refine hK.out _ _ ?_ (fun hHeld => ?_)
              · exact HS6.out _ HCxp.out
              clear hK K
              try simp only [Act.put, List.getElem_toArray, List.getElem_cons_zero, List.getElem_cons_succ, List.setIfInBounds_toArray, List.set_cons_zero, List.set_cons_succ]
              refine wpAnyH_ready (rs := [3]) (by kernel_rfl) (by simp) ?_
              refine AllReadyH.cons (o := _) rfl (fun K hK => ?_) (AllReadyH.nil)
              · go_simp
                go_at_call 18
                refine (strip1 (confV d (.slice A1 n1 c1) (.slice A2 n2 c2) (.slice A3 n3 c3) (.slice A4 n4 c4)) d uxp (HC6.out _ HCxp.out) HSM.out).mono ?_
                rintro r uyp ⟨vyp, rfl, ho, hc⟩
                obtain ⟨vE, vR, vA, vP, lyp, rfl, ho⟩ := ho
                obtain ⟨ypE, nEyp, kEyp, rfl⟩ := own_shape ho.e
                obtain ⟨ypR, nRyp, kRyp, rfl⟩ := own_shape ho.r
                obtain ⟨ypA, nAyp, kAyp, rfl⟩ := own_shape ho.a
                obtain ⟨ypP, nPyp, kPyp, rfl⟩ := po_shape ho.p
                have HCyp := Lib.hid (show Below wr.heap.size wr uyp from Below.trans HCxp.out (Below.mono hc (HCxp.out).size))
                have HOyp := Lib.hid (show Own12 wr.heap.size uyp (stripC d) _ _ _ _ lyp from ho.mono (HCxp.out).size)
                have HOxp := Lib.hid (HOxp.out.below hc)
                have HQxp := Lib.hid (HQxp.out.on hc)
                have HQyp := Lib.hid (HQyp.out.on hc)
                clear hc ho
                go_wp2_with fail
                refine hK.out _ _ ?_ (fun hHeld => ?_)
                · exact HS6.out _ HCyp.out
                clear hK K
                try simp only [Act.put, List.getElem_toArray, List.getElem_cons_zero, List.getElem_cons_succ, List.setIfInBounds_toArray, List.set_cons_zero, List.set_cons_succ]
                refine wpAnyH_ready (rs := [6]) (by kernel_rfl) (by simp) ?_
                refine AllReadyH.cons (o := _) rfl (fun K hK => ?_) AllReadyH.nil
                rw [if_pos (by rfl)]
                refine wp_store_mid 26 (.tmp 6) (.tmp 19) rfl qxp 0 #[.bool d.allow, .bool d.attrsAllow, .slice xpE nExp kExp, .slice xpR nRxp kRxp, .slice xpA nAxp kAxp, .slice xpP nPxp kPxp, .bool d.comments, .bool d.dataAttrs] rfl rfl (HQxp.out.there 8 rfl) size_conf (by simp [Value.oneCell']) ?_
                obtain ⟨WX, hW, hgW, hbW⟩ := res_hb HQxp.out rfl (.bool d.allow) (.bool d.attrsAllow) (.slice xpE nExp kExp) (.slice xpR nRxp kRxp) (.slice xpA nAxp kAxp) (.slice xpP nPxp kPxp) (.bool d.comments) (.bool d.dataAttrs)
                have hblWX : Below wr.heap.size wr WX := Below.grown HCyp.out hgW (HCyp.out).size (fun q hq => by injection hq with hq; have := HLxp.out; omega)
                have hW' : uyp.setCells qxp 0 (#[.bool d.allow, .bool d.attrsAllow, .slice xpE nExp kExp, .slice xpR nRxp kRxp, .slice xpA nAxp kAxp, .slice xpP nPxp kPxp, .bool d.comments, .bool d.dataAttrs] : Array Value).toList = WX := hW.symm
                rw [hW']
                have HOxp := Lib.hid (HOxp.out.boxed HQxp.out hgW)
                have HOyp := Lib.hid (HOyp.out.boxed HQxp.out hgW)
                have HQyp := Lib.hid (HQyp.out.keep (hgW.block _ HQyp.out.lt (by have := HNE.out; simp; omega)))
                have HQxp := Lib.hid hbW; have HCWX := Lib.hid hblWX
                clear hW hW' hgW hbW hblWX
                refine hK.out _ _ ?_ (fun hHeld => ?_)
                · exact HS6.out _ HCWX.out
                clear hK K
                try simp only [Act.put, List.getElem_toArray, List.getElem_cons_zero, List.getElem_cons_succ, List.setIfInBounds_toArray, List.set_cons_zero, List.set_cons_succ]
                refine wpAnyH_ready (rs := [7]) (by kernel_rfl) (by simp) ?_
                refine AllReadyH.cons (o := _) rfl (fun K hK => ?_) AllReadyH.nil
                rw [if_pos (by rfl)]
                refine wp_store_mid 26 (.tmp 7) (.tmp 21) rfl qyp 0 #[.bool d.allow, .bool d.attrsAllow, .slice ypE nEyp kEyp, .slice ypR nRyp kRyp, .slice ypA nAyp kAyp, .slice ypP nPyp kPyp, .bool d.comments, .bool d.dataAttrs] rfl rfl (HQyp.out.there 8 rfl) size_conf (by simp [Value.oneCell']) ?_
                obtain ⟨WY, hW, hgW, hbW⟩ := res_hb HQyp.out rfl (.bool d.allow) (.bool d.attrsAllow) (.slice ypE nEyp kEyp) (.slice ypR nRyp kRyp) (.slice ypA nAyp kAyp) (.slice ypP nPyp kPyp) (.bool d.comments) (.bool d.dataAttrs)
                have hblWY : Below wr.heap.size wr WY := Below.grown HCWX.out hgW (HCWX.out).size (fun q hq => by injection hq with hq; have := HLyp.out; omega)
                have hW' : WX.setCells qyp 0 (#[.bool d.allow, .bool d.attrsAllow, .slice ypE nEyp kEyp, .slice ypR nRyp kRyp, .slice ypA nAyp kAyp, .slice ypP nPyp kPyp, .bool d.comments, .bool d.dataAttrs] : Array Value).toList = WY := hW.symm
                rw [hW']
                have HOxp := Lib.hid (HOxp.out.boxed HQyp.out hgW)
                have HOyp := Lib.hid (HOyp.out.boxed HQyp.out hgW)
                have HQxp := Lib.hid (HQxp.out.keep (hgW.block _ HQxp.out.lt (by have := HNE.out; simp; omega)))
                have HQyp := Lib.hid hbW; have HCWY := Lib.hid hblWY
                clear hW hW' hgW hbW hblWY
                refine hK.out _ _ ?_ (fun hHeld => ?_)
                · exact HS6.out _ HCWY.out
                clear hK K
                try simp only [Act.put, List.getElem_toArray, List.getElem_cons_zero, List.getElem_cons_succ, List.setIfInBounds_toArray, List.set_cons_zero, List.set_cons_succ]
                refine wpAnyH_done (by kernel_rfl) ?_ _
                refine NoPanic.normal ?_
                go_wp2
                go_meet
                exact ⟨qxp, qyp, xpE, nExp, kExp, xpR, nRxp, kRxp, xpA, nAxp, kAxp, xpP, nPxp, kPxp, ypE, nEyp, kEyp, ypR, nRyp, kRyp, ypA, nAyp, kAyp, ypP, nPyp, kPyp, lxp, lyp, rfl, rfl, HLxp.out, HLyp.out, HQxp.out, HQyp.out, HOxp.out, HOyp.out, HCWY.out⟩
        · go_simp
          refine hK.out _ _ ?_ (fun hHeld => ?_)
          · exact HS6.out _ (((show Below wr.heap.size wr wr.drew from bel_eq12 (Below.refl _ wr) rfl rfl rfl rfl)).alloc ((show Below wr.heap.size wr wr.drew from bel_eq12 (Below.refl _ wr) rfl rfl rfl rfl)).size _)
          clear hK K
          try simp only [Act.put, List.getElem_toArray, List.getElem_cons_zero, List.getElem_cons_succ, List.setIfInBounds_toArray, List.set_cons_zero, List.set_cons_succ]
          have hal : Below wr.heap.size wr (wr.alloc (.cells #[.bool false, .bool false, .slice none 0 0, .slice none 0 0, .slice none 0 0, .slice none 0 0, .bool false, .bool false] 26)).drew := bel_eq12 ((Below.refl _ wr).alloc (Nat.le_refl _) _) rfl rfl rfl rfl
          have hhb : Hb (wr.alloc (.cells #[.bool false, .bool false, .slice none 0 0, .slice none 0 0, .slice none 0 0, .slice none 0 0, .bool false, .bool false] 26)).drew wr.heap.size #[.bool false, .bool false, .slice none 0 0, .slice none 0 0, .slice none 0 0, .slice none 0 0, .bool false, .bool false] := Hb.new wr _
          have hbn : Below wr.heap.size wr (wr.alloc (.cells #[.bool false, .bool false, .slice none 0 0, .slice none 0 0, .slice none 0 0, .slice none 0 0, .bool false, .bool false] 26)).drew := bel_eq12 (below_new12 wr _) rfl rfl rfl rfl
          have hlq : wr.heap.size ≤ wr.heap.size := Nat.le_refl _
          generalize hwk : (wr.alloc (.cells #[.bool false, .bool false, .slice none 0 0, .slice none 0 0, .slice none 0 0, .slice none 0 0, .bool false, .bool false] 26)).drew = wyp0 at *
          obtain ⟨qyp, hqk⟩ : ∃ q, wr.heap.size = q := ⟨_, rfl⟩
          rw [hqk]
          rw [hqk] at hhb
          replace hlq : wr.heap.size ≤ qyp := by rw [← hqk]; exact Nat.le_refl _
          have HQyp := Lib.hid hhb; have HLyp := Lib.hid hlq; have HAwyp0 := Lib.hid hal
          clear hhb hlq hal hbn
          refine wpAnyH_ready (rs := [1, 4]) (by kernel_rfl) (by simp) ?_
          refine AllReadyH.cons (o := _) rfl (fun K hK => ?_) (AllReadyH.cons (o := _) rfl (fun K hK => ?_) (AllReadyH.nil))
          · go_simp
            go_at_call 17
            refine (canon1 (confV d (.slice A1 n1 c1) (.slice A2 n2 c2) (.slice A3 n3 c3) (.slice A4 n4 c4)) d wyp0 (HC6.out _ HAwyp0.out) HSM.out).mono ?_
            rintro r uxp ⟨vxp, rfl, ho, hc⟩
            obtain ⟨vE, vR, vA, vP, lxp, rfl, ho⟩ := ho
            obtain ⟨xpE, nExp, kExp, rfl⟩ := own_shape ho.e
            obtain ⟨xpR, nRxp, kRxp, rfl⟩ := own_shape ho.r
            obtain ⟨xpA, nAxp, kAxp, rfl⟩ := own_shape ho.a
            obtain ⟨xpP, nPxp, kPxp, rfl⟩ := po_shape ho.p
            have HCxp := Lib.hid (show Below wr.heap.size wr uxp from Below.trans HAwyp0.out (Below.mono hc (HAwyp0.out).size))
            have HOxp := Lib.hid (show Own12 wr.heap.size uxp (canonC d) _ _ _ _ lxp from ho.mono (HAwyp0.out).size)
            have HQyp := Lib.hid (HQyp.out.on hc)
            clear hc ho
            go_wp2_with fail
            refine hK.out _ _ ?_ (fun hHeld => ?_)
            · exact HS6.out _ HCxp.out
            clear hK K
            try simp only [Act.put, List.getElem_toArray, List.getElem_cons_zero, List.getElem_cons_succ, List.setIfInBounds_toArray, List.set_cons_zero, List.set_cons_succ]
            refine wpAnyH_ready (rs := [3, 4]) (by kernel_rfl) (by simp) ?_
            refine AllReadyH.cons (o := _) rfl (fun K hK => ?_) (AllReadyH.cons (o := _) rfl (fun K hK => ?_) (AllReadyH.nil))
            · go_simp
              go_at_call 18
              refine (strip1 (confV d (.slice A1 n1 c1) (.slice A2 n2 c2) (.slice A3 n3 c3) (.slice A4 n4 c4)) d uxp (HC6.out _ HCxp.out) HSM.out).mono ?_
              rintro r uyp ⟨vyp, rfl, ho, hc⟩
              obtain ⟨vE, vR, vA, vP, lyp, rfl, ho⟩ := ho
              obtain ⟨ypE, nEyp, kEyp, rfl⟩ := own_shape ho.e
              obtain ⟨ypR, nRyp, kRyp, rfl⟩ := own_shape ho.r
              obtain ⟨ypA, nAyp, kAyp, rfl⟩ := own_shape ho.a
              obtain ⟨ypP, nPyp, kPyp, rfl⟩ := po_shape ho.p
              have HCyp := Lib.hid (show Below wr.heap.size wr uyp from Below.trans HCxp.out (Below.mono hc (HCxp.out).size))
              have HOyp := Lib.hid (show Own12 wr.heap.size uyp (stripC d) _ _ _ _ lyp from ho.mono (HCxp.out).size)
              have HOxp := Lib.hid (HOxp.out.below hc)
              have HQyp := Lib.hid (HQyp.out.on hc)
              clear hc ho
              go_wp2_with fail
              refine hK.out _ _ ?_ (fun hHeld => ?_)
              · exact HS6.out _ HCyp.out
              clear hK K
              try simp only [Act.put, List.getElem_toArray, List.getElem_cons_zero, List.getElem_cons_succ, List.setIfInBounds_toArray, List.set_cons_zero, List.set_cons_succ]
              refine wpAnyH_ready (rs := [4]) (by kernel_rfl) (by simp) ?_
              refine AllReadyH.cons (o := _) rfl (fun K hK => ?_) (AllReadyH.nil)
              · go_simp
                refine hK.out _ _ ?_ (fun hHeld => ?_)
                · exact HS6.out _ ((HCyp.out).alloc (HCyp.out).size _)
                clear hK K
                try simp only [Act.put, List.getElem_toArray, List.getElem_cons_zero, List.getElem_cons_succ, List.setIfInBounds_toArray, List.set_cons_zero, List.set_cons_succ]
                have hal : Below wr.heap.size wr (uyp.alloc (.cells #[.bool false, .bool false, .slice none 0 0, .slice none 0 0, .slice none 0 0, .slice none 0 0, .bool false, .bool false] 26)) := (HCyp.out).alloc (HCyp.out).size _
                have hhb : Hb (uyp.alloc (.cells #[.bool false, .bool false, .slice none 0 0, .slice none 0 0, .slice none 0 0, .slice none 0 0, .bool false, .bool false] 26)) uyp.heap.size #[.bool false, .bool false, .slice none 0 0, .slice none 0 0, .slice none 0 0, .slice none 0 0, .bool false, .bool false] := Hb.new uyp _
                have hbn : Below uyp.heap.size uyp (uyp.alloc (.cells #[.bool false, .bool false, .slice none 0 0, .slice none 0 0, .slice none 0 0, .slice none 0 0, .bool false, .bool false] 26)) := below_new12 uyp _
                have hlq : wr.heap.size ≤ uyp.heap.size := (HCyp.out).size
                have hneq : qyp ≠ uyp.heap.size := Nat.ne_of_lt HQyp.out.lt
                replace HQyp := Lib.hid (HQyp.out.on hbn)
                replace HOxp := Lib.hid (HOxp.out.below hbn)
                replace HOyp := Lib.hid (HOyp.out.below hbn)
                generalize hwk : (uyp.alloc (.cells #[.bool false, .bool false, .slice none 0 0, .slice none 0 0, .slice none 0 0, .slice none 0 0, .bool false, .bool false] 26)) = wxp3 at *
                generalize hqk : uyp.heap.size = qxp at *
                have HQxp := Lib.hid hhb; have HLxp := Lib.hid hlq; have HAwxp3 := Lib.hid hal
                clear hhb hlq hal hbn
                have HNE := Lib.hid hneq
                clear hneq
                refine wpAnyH_ready (rs := [6]) (by kernel_rfl) (by simp) ?_
                refine AllReadyH.cons (o := _) rfl (fun K hK => ?_) AllReadyH.nil
                rw [if_pos (by rfl)]
                refine wp_store_mid 26 (.tmp 6) (.tmp 19) rfl qxp 0 #[.bool d.allow, .bool d.attrsAllow, .slice xpE nExp kExp, .slice xpR nRxp kRxp, .slice xpA nAxp kAxp, .slice xpP nPxp kPxp, .bool d.comments, .bool d.dataAttrs] rfl rfl (HQxp.out.there 8 rfl) size_conf (by simp [Value.oneCell']) ?_
                obtain ⟨WX, hW, hgW, hbW⟩ := res_hb HQxp.out rfl (.bool d.allow) (.bool d.attrsAllow) (.slice xpE nExp kExp) (.slice xpR nRxp kRxp) (.slice xpA nAxp kAxp) (.slice xpP nPxp kPxp) (.bool d.comments) (.bool d.dataAttrs)
                have hblWX : Below wr.heap.size wr WX := Below.grown HAwxp3.out hgW (HAwxp3.out).size (fun q hq => by injection hq with hq; have := HLxp.out; omega)
                have hW' : wxp3.setCells qxp 0 (#[.bool d.allow, .bool d.attrsAllow, .slice xpE nExp kExp, .slice xpR nRxp kRxp, .slice xpA nAxp kAxp, .slice xpP nPxp kPxp, .bool d.comments, .bool d.dataAttrs] : Array Value).toList = WX := hW.symm
                rw [hW']
                have HOxp := Lib.hid (HOxp.out.boxed HQxp.out hgW)
                have HOyp := Lib.hid (HOyp.out.boxed HQxp.out hgW)
                have HQyp := Lib.hid (HQyp.out.keep (hgW.block _ HQyp.out.lt (by have := HNE.out; simp; omega)))
                have HQxp := Lib.hid hbW; have HCWX := Lib.hid hblWX
                clear hW hW' hgW hbW hblWX
                refine hK.out _ _ ?_ (fun hHeld => ?_)
                · exact HS6.out _ HCWX.out
                clear hK K
                try simp only [Act.put, List.getElem_toArray, List.getElem_cons_zero, List.getElem_cons_succ, List.setIfInBounds_toArray, List.set_cons_zero, List.set_cons_succ]
                refine wpAnyH_ready (rs := [7]) (by kernel_rfl) (by simp) ?_
                refine AllReadyH.cons (o := _) rfl (fun K hK => ?_) AllReadyH.nil
                rw [if_pos (by rfl)]
                refine wp_store_mid 26 (.tmp 7) (.tmp 21) rfl qyp 0 #[.bool d.allow, .bool d.attrsAllow, .slice ypE nEyp kEyp, .slice ypR nRyp kRyp, .slice ypA nAyp kAyp, .slice ypP nPyp kPyp, .bool d.comments, .bool d.dataAttrs] rfl rfl (HQyp.out.there 8 rfl) size_conf (by simp [Value.oneCell']) ?_
                obtain ⟨WY, hW, hgW, hbW⟩ := res_hb HQyp.out rfl (.bool d.allow) (.bool d.attrsAllow) (.slice ypE nEyp kEyp) (.slice ypR nRyp kRyp) (.slice ypA nAyp kAyp) (.slice ypP nPyp kPyp) (.bool d.comments) (.bool d.dataAttrs)
                have hblWY : Below wr.heap.size wr WY := Below.grown HCWX.out hgW (HCWX.out).size (fun q hq => by injection hq with hq; have := HLyp.out; omega)
                have hW' : WX.setCells qyp 0 (#[.bool d.allow, .bool d.attrsAllow, .slice ypE nEyp kEyp, .slice ypR nRyp kRyp, .slice ypA nAyp kAyp, .slice ypP nPyp kPyp, .bool d.comments, .bool d.dataAttrs] : Array Value).toList = WY := hW.symm
                rw [hW']
                have HOxp := Lib.hid (HOxp.out.boxed HQyp.out hgW)
                have HOyp := Lib.hid (HOyp.out.boxed HQyp.out hgW)
                have HQxp := Lib.hid (HQxp.out.keep (hgW.block _ HQxp.out.lt (by have := HNE.out; simp; omega)))
                have HQyp := Lib.hid hbW; have HCWY := Lib.hid hblWY
                clear hW hW' hgW hbW hblWY
                refine hK.out _ _ ?_ (fun hHeld => ?_)
                · exact HS6.out _ HCWY.out
                clear hK K
                try simp only [Act.put, List.getElem_toArray, List.getElem_cons_zero, List.getElem_cons_succ, List.setIfInBounds_toArray, List.set_cons_zero, List.set_cons_succ]
                refine wpAnyH_done (by kernel_rfl) ?_ _
                refine NoPanic.normal ?_
                go_wp2
                go_meet
                exact ⟨qxp, qyp, xpE, nExp, kExp, xpR, nRxp, kRxp, xpA, nAxp, kAxp, xpP, nPxp, kPxp, ypE, nEyp, kEyp, ypR, nRyp, kRyp, ypA, nAyp, kAyp, ypP, nPyp, kPyp, lxp, lyp, rfl, rfl, HLxp.out, HLyp.out, HQxp.out, HQyp.out, HOxp.out, HOyp.out, HCWY.out⟩
            · go_simp
              refine hK.out _ _ ?_ (fun hHeld => ?_)
              · exact HS6.out _ ((HCxp.out).alloc (HCxp.out).size _)
              clear hK K
              try simp only [Act.put, List.getElem_toArray, List.getElem_cons_zero, List.getElem_cons_succ, List.setIfInBounds_toArray, List.set_cons_zero, List.set_cons_succ]
              have hal : Below wr.heap.size wr (uxp.alloc (.cells #[.bool false, .bool false, .slice none 0 0, .slice none 0 0, .slice none 0 0, .slice none 0 0, .bool false, .bool false] 26)) := (HCxp.out).alloc (HCxp.out).size _
              have hhb : Hb (uxp.alloc (.cells #[.bool false, .bool false, .slice none 0 0, .slice none 0 0, .slice none 0 0, .slice none 0 0, .bool false, .bool false] 26)) uxp.heap.size #[.bool false, .bool false, .slice none 0 0, .slice none 0 0, .slice none 0 0, .slice none 0 0, .bool false, .bool false] := Hb.new uxp _
              have hbn : Below uxp.heap.size uxp (uxp.alloc (.cells #[.bool false, .bool false, .slice none 0 0, .slice none 0 0, .slice none 0 0, .slice none 0 0, .bool false, .bool false] 26)) := below_new12 uxp _
              have hlq : wr.heap.size ≤ uxp.heap.size := (HCxp.out).size
              have hneq : qyp ≠ uxp.heap.size := Nat.ne_of_lt HQyp.out.lt
              replace HQyp := Lib.hid (HQyp.out.on hbn)
              replace HOxp := Lib.hid (HOxp.out.below hbn)
              generalize hwk : (uxp.alloc (.cells #[.bool false, .bool false, .slice none 0 0, .slice none 0 0, .slice none 0 0, .slice none 0 0, .bool false, .bool false] 26)) = wxp2 at *
              generalize hqk : uxp.heap.size = qxp at *
              have HQxp := Lib.hid hhb; have HLxp := Lib.hid hlq; have HAwxp2 := Lib.hid hal
              clear hhb hlq hal hbn
              have HNE := Lib.hid hneq
              clear hneq
              refine wpAnyH_ready (rs := [3]) (by kernel_rfl) (by simp) ?_
              refine AllReadyH.cons (o := _) rfl (fun K hK => ?_) (AllReadyH.nil)
              · go_simp
                go_at_call 18
                refine (strip1 (confV d (.slice A1 n1 c1) (.slice A2 n2 c2) (.slice A3 n3 c3) (.slice A4 n4 c4)) d wxp2 (HC6.out _ HAwxp2.out) HSM.out).mono ?_
                rintro r uyp ⟨vyp, rfl, ho, hc⟩
                obtain ⟨vE, vR, vA, vP, lyp, rfl, ho⟩ := ho
                obtain ⟨ypE, nEyp, kEyp, rfl⟩ := own_shape ho.e
                obtain ⟨ypR, nRyp, kRyp, rfl⟩ := own_shape ho.r
                obtain ⟨ypA, nAyp, kAyp, rfl⟩ := own_shape ho.a
                obtain ⟨ypP, nPyp, kPyp, rfl⟩ := po_shape ho.p
                have HCyp := Lib.hid (show Below wr.heap.size wr uyp from Below.trans HAwxp2.out (Below.mono hc (HAwxp2.out).size))
                have HOyp := Lib.hid (show Own12 wr.heap.size uyp (stripC d) _ _ _ _ lyp from ho.mono (HAwxp2.out).size)
                have HOxp := Lib.hid (HOxp.out.below hc)
                have HQyp := Lib.hid (HQyp.out.on hc)
                have HQxp := Lib.hid (HQxp.out.on hc)
                clear hc ho
                go_wp2_with fail
                refine hK.out _ _ ?_ (fun hHeld => ?_)
                · exact HS6.out _ HCyp.out
                clear hK K
                try simp only [Act.put, List.getElem_toArray, List.getElem_cons_zero, List.getElem_cons_succ, List.setIfInBounds_toArray, List.set_cons_zero, List.set_cons_succ]
                refine wpAnyH_ready (rs := [6]) (by kernel_rfl) (by simp) ?_
                refine AllReadyH.cons (o := _) rfl (fun K hK => ?_) AllReadyH.nil
                rw [if_pos (by rfl)]
                refine wp_store_mid 26 (.tmp 6) (.tmp 19) rfl qxp 0 #[.bool d.allow, .bool d.attrsAllow, .slice xpE nExp kExp, .slice xpR nRxp kRxp, .slice xpA nAxp kAxp, .slice xpP nPxp kPxp, .bool d.comments, .bool d.dataAttrs] rfl rfl (HQxp.out.there 8 rfl) size_conf (by simp [Value.oneCell']) ?_
                obtain ⟨WX, hW, hgW, hbW⟩ := res_hb HQxp.out rfl (.bool d.allow) (.bool d.attrsAllow) (.slice xpE nExp kExp) (.slice xpR nRxp kRxp) (.slice xpA nAxp kAxp) (.slice xpP nPxp kPxp) (.bool d.comments) (.bool d.dataAttrs)
                have hblWX : Below wr.heap.size wr WX := Below.grown HCyp.out hgW (HCyp.out).size (fun q hq => by injection hq with hq; have := HLxp.out; omega)
                have hW' : uyp.setCells qxp 0 (#[.bool d.allow, .bool d.attrsAllow, .slice xpE nExp kExp, .slice xpR nRxp kRxp, .slice xpA nAxp kAxp, .slice xpP nPxp kPxp, .bool d.comments, .bool d.dataAttrs] : Array Value).toList = WX := hW.symm
                rw [hW']
                have HOxp := Lib.hid (HOxp.out.boxed HQxp.out hgW)
                have HOyp := Lib.hid (HOyp.out.boxed HQxp.out hgW)
                have HQyp := Lib.hid (HQyp.out.keep (hgW.block _ HQyp.out.lt (by have := HNE.out; simp; omega)))
                have HQxp := Lib.hid hbW; have HCWX := Lib.hid hblWX
                clear hW hW' hgW hbW hblWX
                refine hK.out _ _ ?_ (fun hHeld => ?_)
                · exact HS6.out _ HCWX.out
                clear hK K
                try simp only [Act.put, List.getElem_toArray, List.getElem_cons_zero, List.getElem_cons_succ, List.setIfInBounds_toArray, List.set_cons_zero, List.set_cons_succ]
                refine wpAnyH_ready (rs := [7]) (by kernel_rfl) (by simp) ?_
                refine AllReadyH.cons (o := _) rfl (fun K hK => ?_) AllReadyH.nil
                rw [if_pos (by rfl)]
                refine wp_store_mid 26 (.tmp 7) (.tmp 21) rfl qyp 0 #[.bool d.allow, .bool d.attrsAllow, .slice ypE nEyp kEyp, .slice ypR nRyp kRyp, .slice ypA nAyp kAyp, .slice ypP nPyp kPyp, .bool d.comments, .bool d.dataAttrs] rfl rfl (HQyp.out.there 8 rfl) size_conf (by simp [Value.oneCell']) ?_
                obtain ⟨WY, hW, hgW, hbW⟩ := res_hb HQyp.out rfl (.bool d.allow) (.bool d.attrsAllow) (.slice ypE nEyp kEyp) (.slice ypR nRyp kRyp) (.slice ypA nAyp kAyp) (.slice ypP nPyp kPyp) (.bool d.comments) (.bool d.dataAttrs)
                have hblWY : Below wr.heap.size wr WY := Below.grown HCWX.out hgW (HCWX.out).size (fun q hq => by injection hq with hq; have := HLyp.out; omega)
                have hW' : WX.setCells qyp 0 (#[.bool d.allow, .bool d.attrsAllow, .slice ypE nEyp kEyp, .slice ypR nRyp kRyp, .slice ypA nAyp kAyp, .slice ypP nPyp kPyp, .bool d.comments, .bool d.dataAttrs] : Array Value).toList = WY := hW.symm
                rw [hW']
                have HOxp := Lib.hid (HOxp.out.boxed HQyp.out hgW)
                have HOyp := Lib.hid (HOyp.out.boxed HQyp.out hgW)
                have HQxp := Lib.hid (HQxp.out.keep (hgW.block _ HQxp.out.lt (by have := HNE.out; simp; omega)))
                have HQyp := Lib.hid hbW; have HCWY := Lib.hid hblWY
                clear hW hW' hgW hbW hblWY
                refine hK.out _ _ ?_ (fun hHeld => ?_)
                · exact HS6.out _ HCWY.out
                clear hK K
                try simp only [Act.put, List.getElem_toArray, List.getElem_cons_zero, List.getElem_cons_succ, List.setIfInBounds_toArray, List.set_cons_zero, List.set_cons_succ]
                refine wpAnyH_done (by kernel_rfl) ?_ _
                refine NoPanic.normal ?_
                go_wp2
                go_meet
                exact ⟨qxp, qyp, xpE, nExp, kExp, xpR, nRxp, kRxp, xpA, nAxp, kAxp, xpP, nPxp, kPxp, ypE, nEyp, kEyp, ypR, nRyp, kRyp, ypA, nAyp, kAyp, ypP, nPyp, kPyp, lxp, lyp, rfl, rfl, HLxp.out, HLyp.out, HQxp.out, HQyp.out, HOxp.out, HOyp.out, HCWY.out⟩
          · go_simp
            refine hK.out _ _ ?_ (fun hHeld => ?_)
            · exact HS6.out _ ((HAwyp0.out).alloc (HAwyp0.out).size _)
            clear hK K
            try simp only [Act.put, List.getElem_toArray, List.getElem_cons_zero, List.getElem_cons_succ, List.setIfInBounds_toArray, List.set_cons_zero, List.set_cons_succ]
            have hal : Below wr.heap.size wr (wyp0.alloc (.cells #[.bool false, .bool false, .slice none 0 0, .slice none 0 0, .slice none 0 0, .slice none 0 0, .bool false, .bool false] 26)) := (HAwyp0.out).alloc (HAwyp0.out).size _
            have hhb : Hb (wyp0.alloc (.cells #[.bool false, .bool false, .slice none 0 0, .slice none 0 0, .slice none 0 0, .slice none 0 0, .bool false, .bool false] 26)) wyp0.heap.size #[.bool false, .bool false, .slice none 0 0, .slice none 0 0, .slice none 0 0, .slice none 0 0, .bool false, .bool false] := Hb.new wyp0 _
            have hbn : Below wyp0.heap.size wyp0 (wyp0.alloc (.cells #[.bool false, .bool false, .slice none 0 0, .slice none 0 0, .slice none 0 0, .slice none 0 0, .bool false, .bool false] 26)) := below_new12 wyp0 _
            have hlq : wr.heap.size ≤ wyp0.heap.size := (HAwyp0.out).size
            have hneq : qyp ≠ wyp0.heap.size := Nat.ne_of_lt HQyp.out.lt
            replace HQyp := Lib.hid (HQyp.out.on hbn)
            generalize hwk : (wyp0.alloc (.cells #[.bool false, .bool false, .slice none 0 0, .slice none 0 0, .slice none 0 0, .slice none 0 0, .bool false, .bool false] 26)) = wxp1 at *
            generalize hqk : wyp0.heap.size = qxp at *
            have HQxp := Lib.hid hhb; have HLxp := Lib.hid hlq; have HAwxp1 := Lib.hid hal
            clear hhb hlq hal hbn
            have HNE := Lib.hid hneq
            clear hneq
            refine wpAnyH_ready (rs := [1]) (by kernel_rfl) (by simp) ?_
            refine AllReadyH.cons (o := _) rfl (fun K hK => ?_) (AllReadyH.nil)
            · go_simp
              go_at_call 17
              refine (canon1 (confV d (.slice A1 n1 c1) (.slice A2 n2 c2) (.slice A3 n3 c3) (.slice A4 n4 c4)) d wxp1 (HC6.out _ HAwxp1.out) HSM.out).mono ?_
              rintro r uxp ⟨vxp, rfl, ho, hc⟩
              obtain ⟨vE, vR, vA, vP, lxp, rfl, ho⟩ := ho
              obtain ⟨xpE, nExp, kExp, rfl⟩ := own_shape ho.e
              obtain ⟨xpR, nRxp, kRxp, rfl⟩ := own_shape ho.r
              obtain ⟨xpA, nAxp, kAxp, rfl⟩ := own_shape ho.a
              obtain ⟨xpP, nPxp, kPxp, rfl⟩ := po_shape ho.p
              have HCxp := Lib.hid (show Below wr.heap.size wr uxp from Below.trans HAwxp1.out (Below.mono hc (HAwxp1.out).size))
              have HOxp := Lib.hid (show Own12 wr.heap.size uxp (canonC d) _ _ _ _ lxp from ho.mono (HAwxp1.out).size)
              have HQyp := Lib.hid (HQyp.out.on hc)
              have HQxp := Lib.hid (HQxp.out.on hc)
              clear hc ho
              go_wp2_with fail
              refine hK.out _ _ ?_ (fun hHeld => ?_)
              · exact HS6.out _ HCxp.out
              clear hK K
              try simp only [Act.put, List.getElem_toArray, List.getElem_cons_zero, List.getElem_cons_succ, List.setIfInBounds_toArray, List.set_cons_zero, List.set_cons_succ]
              refine wpAnyH_ready (rs := [3]) (by kernel_rfl) (by simp) ?_
              refine AllReadyH.cons (o := _) rfl (fun K hK => ?_) (AllReadyH.nil)
              · go_simp
                go_at_call 18
                refine (strip1 (confV d (.slice A1 n1 c1) (.slice A2 n2 c2) (.slice A3 n3 c3) (.slice A4 n4 c4)) d uxp (HC6.out _ HCxp.out) HSM.out).mono ?_
                rintro r uyp ⟨vyp, rfl, ho, hc⟩
                obtain ⟨vE, vR, vA, vP, lyp, rfl, ho⟩ := ho
                obtain ⟨ypE, nEyp, kEyp, rfl⟩ := own_shape ho.e
                obtain ⟨ypR, nRyp, kRyp, rfl⟩ := own_shape ho.r
                obtain ⟨ypA, nAyp, kAyp, rfl⟩ := own_shape ho.a
                obtain ⟨ypP, nPyp, kPyp, rfl⟩ := po_shape ho.p
                have HCyp := Lib.hid (show Below wr.heap.size wr uyp from Below.trans HCxp.out (Below.mono hc (HCxp.out).size))
                have HOyp := Lib.hid (show Own12 wr.heap.size uyp (stripC d) _ _ _ _ lyp from ho.mono (HCxp.out).size)
                have HOxp := Lib.hid (HOxp.out.below hc)
                have HQyp := Lib.hid (HQyp.out.on hc)
                have HQxp := Lib.hid (HQxp.out.on hc)
                clear hc ho
                go_wp2_with fail
                refine hK.out _ _ ?_ (fun hHeld => ?_)
                · exact HS6.out _ HCyp.out
                clear hK K
                try simp only [Act.put, List.getElem_toArray, List.getElem_cons_zero, List.getElem_cons_succ, List.setIfInBounds_toArray, List.set_cons_zero, List.set_cons_succ]
                refine wpAnyH_ready (rs := [6]) (by kernel_rfl) (by simp) ?_
                refine AllReadyH.cons (o := _) rfl (fun K hK => ?_) AllReadyH.nil
                rw [if_pos (by rfl)]
                refine wp_store_mid 26 (.tmp 6) (.tmp 19) rfl qxp 0 #[.bool d.allow, .bool d.attrsAllow, .slice xpE nExp kExp, .slice xpR nRxp kRxp, .slice xpA nAxp kAxp, .slice xpP nPxp kPxp, .bool d.comments, .bool d.dataAttrs] rfl rfl (HQxp.out.there 8 rfl) size_conf (by simp [Value.oneCell']) ?_
                obtain ⟨WX, hW, hgW, hbW⟩ := res_hb HQxp.out rfl (.bool d.allow) (.bool d.attrsAllow) (.slice xpE nExp kExp) (.slice xpR nRxp kRxp) (.slice xpA nAxp kAxp) (.slice xpP nPxp kPxp) (.bool d.comments) (.bool d.dataAttrs)
                have hblWX : Below wr.heap.size wr WX := Below.grown HCyp.out hgW (HCyp.out).size (fun q hq => by injection hq with hq; have := HLxp.out; omega)
                have hW' : uyp.setCells qxp 0 (#[.bool d.allow, .bool d.attrsAllow, .slice xpE nExp kExp, .slice xpR nRxp kRxp, .slice xpA nAxp kAxp, .slice xpP nPxp kPxp, .bool d.comments, .bool d.dataAttrs] : Array Value).toList = WX := hW.symm
                rw [hW']
                have HOxp := Lib.hid (HOxp.out.boxed HQxp.out hgW)
                have HOyp := Lib.hid (HOyp.out.boxed HQxp.out hgW)
                have HQyp := Lib.hid (HQyp.out.keep (hgW.block _ HQyp.out.lt (by have := HNE.out; simp; omega)))
                have HQxp := Lib.hid hbW; have HCWX := Lib.hid hblWX
                clear hW hW' hgW hbW hblWX
                refine hK.out _ _ ?_ (fun hHeld => ?_)
                · exact HS6.out _ HCWX.out
                clear hK K
                try simp only [Act.put, List.getElem_toArray, List.getElem_cons_zero, List.getElem_cons_succ, List.setIfInBounds_toArray, List.set_cons_zero, List.set_cons_succ]
                refine wpAnyH_ready (rs := [7]) (by kernel_rfl) (by simp) ?_
                refine AllReadyH.cons (o := _) rfl (fun K hK => ?_) AllReadyH.nil
                rw [if_pos (by rfl)]
                refine wp_store_mid 26 (.tmp 7) (.tmp 21) rfl qyp 0 #[.bool d.allow, .bool d.attrsAllow, .slice ypE nEyp kEyp, .slice ypR nRyp kRyp, .slice ypA nAyp kAyp, .slice ypP nPyp kPyp, .bool d.comments, .bool d.dataAttrs] rfl rfl (HQyp.out.there 8 rfl) size_conf (by simp [Value.oneCell']) ?_
                obtain ⟨WY, hW, hgW, hbW⟩ := res_hb HQyp.out rfl (.bool d.allow) (.bool d.attrsAllow) (.slice ypE nEyp kEyp) (.slice ypR nRyp kRyp) (.slice ypA nAyp kAyp) (.slice ypP nPyp kPyp) (.bool d.comments) (.bool d.dataAttrs)
                have hblWY : Below wr.heap.size wr WY := Below.grown HCWX.out hgW (HCWX.out).size (fun q hq => by injection hq with hq; have := HLyp.out; omega)
                have hW' : WX.setCells qyp 0 (#[.bool d.allow, .bool d.attrsAllow, .slice ypE nEyp kEyp, .slice ypR nRyp kRyp, .slice ypA nAyp kAyp, .slice ypP nPyp kPyp, .bool d.comments, .bool d.dataAttrs] : Array Value).toList = WY := hW.symm
                rw [hW']
                have HOxp := Lib.hid (HOxp.out.boxed HQyp.out hgW)
                have HOyp := Lib.hid (HOyp.out.boxed HQyp.out hgW)
                have HQxp := Lib.hid (HQxp.out.keep (hgW.block _ HQxp.out.lt (by have := HNE.out; simp; omega)))
                have HQyp := Lib.hid hbW; have HCWY := Lib.hid hblWY
                clear hW hW' hgW hbW hblWY
                refine hK.out _ _ ?_ (fun hHeld => ?_)
                · exact HS6.out _ HCWY.out
                clear hK K
                try simp only [Act.put, List.getElem_toArray, List.getElem_cons_zero, List.getElem_cons_succ, List.setIfInBounds_toArray, List.set_cons_zero, List.set_cons_succ]
                refine wpAnyH_done (by kernel_rfl) ?_ _
                refine NoPanic.normal ?_
                go_wp2
                go_meet
                exact ⟨qxp, qyp, xpE, nExp, kExp, xpR, nRxp, kRxp, xpA, nAxp, kAxp, xpP, nPxp, kPxp, ypE, nEyp, kEyp, ypR, nRyp, kRyp, ypA, nAyp, kAyp, ypP, nPyp, kPyp, lxp, lyp, rfl, rfl, HLxp.out, HLyp.out, HQxp.out, HQyp.out, HOxp.out, HOyp.out, HCWY.out⟩
      case rest =>
        obtain ⟨qxp, qyp, xpE, nExp, kExp, xpR, nRxp, kRxp, xpA, nAxp, kAxp, xpP, nPxp, kPxp, ypE, nEyp, kEyp, ypR, nRyp, kRyp, ypA, nAyp, kAyp, ypP, nPyp, kPyp, lxp, lyp, rfl, rfl, hl0, hl1, hq0, hq1, ho0, ho1, hbw⟩ := hcut
        obtain ⟨W5, hW5⟩ : ∃ W5, W5 = wc := ⟨_, rfl⟩
        subst hW5
        have hb5 : Below W2.heap.size W2 W5 := HBR.out.trans (hbw.mono HBR.out.size)
        have HQA := Lib.hid (fun wx (hb : Below W5.heap.size W5 wx) => (hq0.on hb).range); have HQB := Lib.hid (fun wx (hb : Below W5.heap.size W5 wx) => hq1.on hb)
        have HCA := Lib.hid (fun wx (hb : Below W5.heap.size W5 wx) => show Cow wr.heap.size wx (confV d (.slice xpE nExp kExp) (.slice xpR nRxp kRxp) (.slice xpA nAxp kAxp) (.slice xpP nPxp kPxp)) (canonC d) from ⟨_, _, _, _, _, rfl, ho0.below hb⟩); have HCBB := Lib.hid (fun wx (hb : Below W5.heap.size W5 wx) => show Cow wr.heap.size wx (confV d (.slice ypE nEyp kEyp) (.slice ypR nRyp kRyp) (.slice ypA nAyp kAyp) (.slice ypP nPyp kPyp)) (stripC d) from ⟨_, _, _, _, _, rfl, ho1.below hb⟩)
        have HB5 := Lib.hid hb5; have HBW5 := Lib.hid hbw; have HRF := Lib.hid (Below.refl W5.heap.size W5); have HLB := Lib.hid hl1
        clear hl0 hl1 hq0 hq1 ho0 ho1 hbw hb5
        go_upto_region 9 with (first
          | (show wpList _ _ _ (⟨_, Op.load 26 (.tmp 6), _, _, _, _⟩ :: _) _ _; refine wpList_load_mid rfl 26 (.tmp 6) rfl qxp 0 rfl _ _ (HQA.out _ HRF.out) Try.underlying26 rfl size_conf ?_)
          | (show wpList _ _ _ (⟨_, Op.load 26 (.tmp 3), _, _, _, _⟩ :: _) _ _; refine wpList_load_mid rfl 26 (.tmp 3) rfl qxr 0 rfl _ _ (HQX.out _ HB5.out) Try.underlying26 rfl size_conf ?_)
          | (go_at_call 19; (with_reducible show Calls _ _ _ W5 _); refine (refSame1 (confV d (.slice xpE nExp kExp) (.slice xpR nRxp kRxp) (.slice xpA nAxp kAxp) (.slice xpP nPxp kPxp)) (confV d (.slice xrE nExr kExr) (.slice xrR nRxr kRxr) (.slice xrA nAxr kAxr) (.slice xrP nPxr kPxr)) (canonC d) W5 (HCA.out _ HRF.out).cv (HCX.out _ HB5.out) HSC.out).mono ?_; rintro r s1 ⟨rfl, hb⟩; have HS1 := Lib.hid hb; have HT1 := Lib.hid (HB5.out.trans (hb.mono HB5.out.size)); have p0 := (HQB.out _ HS1.out).cell 0 _ rfl; have r0 := (HQY.out _ HT1.out).cell 0 _ rfl; have p1 := (HQB.out _ HS1.out).cell 1 _ rfl; have r1 := (HQY.out _ HT1.out).cell 1 _ rfl; have p2 := (HQB.out _ HS1.out).cell 2 _ rfl; have r2 := (HQY.out _ HT1.out).cell 2 _ rfl; have p3 := (HQB.out _ HS1.out).cell 3 _ rfl; have r3 := (HQY.out _ HT1.out).cell 3 _ rfl; have p4 := (HQB.out _ HS1.out).cell 4 _ rfl; have r4 := (HQY.out _ HT1.out).cell 4 _ rfl; have p5 := (HQB.out _ HS1.out).cell 5 _ rfl; have r5 := (HQY.out _ HT1.out).cell 5 _ rfl; have p6 := (HQB.out _ HS1.out).cell 6 _ rfl; have r6 := (HQY.out _ HT1.out).cell 6 _ rfl; have p7 := (HQB.out _ HS1.out).cell 7 _ rfl; have r7 := (HQY.out _ HT1.out).cell 7 _ rfl; clear hb)
          | (go_at_call 19; (with_reducible show Calls _ _ _ s1 _); refine (refSame1 (confV d (.slice ypE nEyp kEyp) (.slice ypR nRyp kRyp) (.slice ypA nAyp kAyp) (.slice ypP nPyp kPyp)) (confV d (.slice yrE nEyr kEyr) (.slice yrR nRyr kRyr) (.slice yrA nAyr kAyr) (.slice yrP nPyr kPyr)) (stripC d) s1 (HCBB.out _ HS1.out).cv (HCY.out _ HT1.out) HSS.out).mono ?_; rintro r s2 ⟨rfl, hb⟩; have HS2 := Lib.hid (HS1.out.trans (hb.mono HS1.out.size)); clear hb)
          | fail)
        clear p0 r0 p1 r1 p2 r2 p3 r3 p4 r4 p5 r5 p6 r6 p7 r7
        go_upto_region 10 with (first
          | (show wpList _ _ _ (⟨_, Op.load 26 (.tmp 6), _, _, _, _⟩ :: _) _ _; refine wpList_load_mid rfl 26 (.tmp 6) rfl qxp 0 rfl _ _ (HQA.out _ HS2.out) Try.underlying26 rfl size_conf ?_)
          | (go_at_call 20; refine (spoil1 (confV d (.slice xpE nExp kExp) (.slice xpR nRxp kRxp) (.slice xpA nAxp kAxp) (.slice xpP nPxp kPxp)) (canonC d) wr.heap.size s2 s2 (HCA.out _ HS2.out) HSC.out (Sp.refl _ _ _)).mono ?_; rintro r s3 ⟨rfl, w3, hb, hsp⟩; have HW3 := Lib.hid (HS2.out.trans (hb.mono HS2.out.size)); have HSP := Lib.hid (hsp.more hb.size); have HQ3 := Lib.hid (show Hb s3 qyp _ from (HQB.out _ HS2.out |>.on hb).keep (hsp.other (HQB.out _ HS2.out |>.on hb) (by decide))); clear hb hsp)
          | fail)
        go_wp2_with (first
          | (show wpList _ _ _ (⟨_, Op.load 26 (.tmp 7), _, _, _, _⟩ :: _) _ _; refine wpList_load_mid rfl 26 (.tmp 7) rfl qyp 0 rfl _ _ (HQ3.out.range) Try.underlying26 rfl size_conf ?_)
          | (go_at_call 20; refine (spoil1 (confV d (.slice ypE nEyp kEyp) (.slice ypR nRyp kRyp) (.slice ypA nAyp kAyp) (.slice ypP nPyp kPyp)) (stripC d) wr.heap.size w3 s3 (HCBB.out _ HW3.out) HSS.out HSP.out).mono ?_; rintro r s4 ⟨rfl, w4, hb, hsp⟩; have HW4 := Lib.hid (HW3.out.trans (hb.mono HW3.out.size)); have HSQ := Lib.hid hsp.below; clear hb hsp)
          | fail)
        have hbn : Below wr.heap.size wr s4 := (HBW5.out.trans (HW4.out.mono HBW5.out.size)).trans HSQ.out
        go_roundw
        case rel => exact ⟨k + 1, by go_num, by omega, HBR.out.trans (hbn.mono HBR.out.size)⟩
        case measure => simp [intOf]; omega
    · have HS6 := Lib.hid (fun wx (hb : Below wr.heap.size wr wx) => HBL.out wx (hbr.trans (hb.mono hbr.size))); have HC6 := Lib.hid (fun wx (hb : Below wr.heap.size wr wx) => HCB.out wx (hbr.trans (hb.mono hbr.size)))
      clear hbr
      obtain ⟨qc, hqc⟩ : ∃ qc, checkN d = qc := ⟨_, rfl⟩
      have hqe : ((qc : Int) == (qc : Int)) = true := by simp
      have HQC := Lib.hid hqc; clear hqc
      go_upto_region 11 with (fail)
      go_region_held3 (fun wx => (wx.cell? ⟨w.heap.size, 0, none⟩ = some (.bool d.allow) ∧ wx.cell? ⟨w.heap.size, 1, none⟩ = some (.bool d.attrsAllow) ∧ wx.cell? ⟨w.heap.size, 2, none⟩ = some (.slice A1 n1 c1) ∧ wx.cell? ⟨w.heap.size, 3, none⟩ = some (.slice A2 n2 c2) ∧ wx.cell? ⟨w.heap.size, 4, none⟩ = some (.slice A3 n3 c3) ∧ wx.cell? ⟨w.heap.size, 5, none⟩ = some (.slice A4 n4 c4) ∧ wx.cell? ⟨w.heap.size, 6, none⟩ = some (.bool d.comments) ∧ wx.cell? ⟨w.heap.size, 7, none⟩ = some (.bool d.dataAttrs))) (first
        | exact HS6.out _ (bel_eq12 (Below.refl _ wr) rfl rfl rfl rfl)
        | exact HS6.out _ HF2.out
        | exact HS6.out _ HF1.out
        | exact HS6.out _ HF0.out
        | go_keep) (first
        | (go_at_call 21; refine (check12 (confV d (.slice A1 n1 c1) (.slice A2 n2 c2) (.slice A3 n3 c3) (.slice A4 n4 c4)) d wr.drew qc (HC6.out _ (bel_eq12 (Below.refl _ wr) rfl rfl rfl rfl)) HSM.out HQC.out).mono ?_; rintro r f0 ⟨rfl, hb⟩; have HF0 := Lib.hid (show Below wr.heap.size wr f0 from ⟨hb.os, hb.tape, hb.output, hb.size, hb.block⟩); clear hb)
        | (go_at_call 22; refine (refCheck12 (confV d (.slice A1 n1 c1) (.slice A2 n2 c2) (.slice A3 n3 c3) (.slice A4 n4 c4)) d f0 qc (HC6.out _ HF0.out) HSM.out HQC.out).mono ?_; rintro r f1 ⟨rfl, hb⟩; have HF1 := Lib.hid (HF0.out.trans (hb.mono HF0.out.size)); clear hb)
        | (go_at_call 23; refine (fixed12 f1).mono ?_; rintro r f2 ⟨rfl, hb⟩; have HF2 := Lib.hid (HF1.out.trans (hb.mono HF1.out.size)); clear hb))
      all_goals
        go_wp2
        go_ret
        exact ⟨rfl, HBW.out.trans ((HB2.out.trans ((HBR.out.trans (HF2.out.mono HBR.out.size)).mono HB2.out.size)).mono HBW.out.size)⟩

end Go.Proofs.Ytgjlfcamgkeibaa.Co
