/-
  Walks of stage 13: the reference's kept.
-/
import Derived.Test.YtgjlfcamgkeibaaCk09
import Derived.Test.YtgjlfcamgkeibaaCk05
import Derived.Test.YtgjlfcamgkeibaaCk07
import Derived.Deep.CutRange
namespace Go.Proofs.Ytgjlfcamgkeibaa.Cn
set_option maxRecDepth 100000
set_option linter.unusedVariables false
set_option linter.unusedSimpArgs false
open Go.RowKit Ba Ro
open Co (Cf Cv Sm confV confO attrB12 elementN bel_eq12)
open To (Aw app_attr)
open Rk (neverB unsafeL)
theorem od_ne {N g : Nat} {w : World} {v : Value} {l : List Cw} (h : Od N w v l) (hg : g < N ∨ w.heap.size ≤ g) : v.ownBlock ≠ some g := fun e => by
  have := World.ownsRow.lt h.1 g e
  omega
theorem below_own {N n : Nat} {w0 w w' : World} {v : Value} {l : List Cw} (hb : Below n w0 w) (h : Od N w v l) (hg : w.grownBy w' v.ownBlock) (hN : n ≤ N) (hs : n ≤ w.heap.size) : Below n w0 w' :=
  hb.grown hg hs fun k hk => by have := (World.ownsRow.lt h.1 k hk).1; omega
theorem bare_fr (N : Nat) (w : World) (d kd : Int) (nm dt : ByteArray) : Fr N w ⟨⟨d, kd, nm, dt, []⟩, none, 0⟩ := ⟨World.ownsRow_nil w N _ 2, fun a ha => by cases ha⟩
theorem nw_cell {M : Nat} {w : World} {kb ko n c : Nat} {ks : List Nat} {j p : Nat} (h : Nw M w (.slice (some ⟨kb, ko, none⟩) n c) ks) (hj : j < ks.length) (hp : ks[j] = p) : w.cell? ⟨kb, ko + j, none⟩ = some (.int .i64 (p : Int)) := by
  obtain ⟨A, c', e, _, _, hR⟩ := h.form
  injection e with e1 _ _
  subst e1
  obtain ⟨b, o, e, _, hc⟩ := hR (by omega)
  injection e with e
  injection e with e1 e2
  subst e1 e2
  rw [← hp]
  exact hc j hj
theorem rr_one {w : World} {g : Nat} {y : Cw} (h : Hv 36 w g (Ro.cells y).toArray) (hy : Att w w.heap.size y) : Rr w w.heap.size (some ⟨g, 0, none⟩) [y] := by
  refine ⟨fun _ => ⟨g, 0, rfl, h.lt, fun j hj => ?_⟩, fun x hx => by rw [List.mem_singleton.1 hx]; exact hy⟩
  have hj0 : j = 0 := by simpa using hj
  subst hj0
  have := h.range
  simpa using this

set_option maxRecDepth 100000 in
set_option maxHeartbeats 32000000 in
theorem kept_step (A0 : Option Addr) (c0 : Nat) (l : List Cw) (v : Value) (c : Cf) (s : Bool) (hlc : l.length ≤ c0) (hcm : c0 ≤ maxLen) (hll : l.length ≤ 1000) (hz : Rz.Small (ros l)) (hf : Few (ros l)) (hs : Sm c) (hrt : right (ros l) = true)
    (i e : Int) (w : World) (h1 : -1 ≤ i) (h2 : i < l.length) (he : 0 ≤ e) (he2 : e ≤ 900000) (hr : Rr w w.heap.size A0 l) (hc : Cv w w.heap.size v c)
    (ih : ∀ (i2 e2 : Int) (w2 : World), (below (ros l) i2).length < (below (ros l) i).length → -1 ≤ i2 → i2 < l.length → e ≤ e2 → e2 ≤ e + 1 → Rr w2 w2.heap.size A0 l → Cv w2 w2.heap.size v c →
      Calls Try.prog 26 #[.slice A0 l.length c0, .int .i64 i2, .int .i64 e2, v, .bool s] w2 fun r w' => ∃ V y, r = .returned V ∧ Od w2.heap.size w' V y ∧ ros y = K (fateN c s) (attrsF c s) e2 (below (ros l) i2) ∧ Below w2.heap.size w2 w') :
    Calls Try.prog 26 #[.slice A0 l.length c0, .int .i64 i, .int .i64 e, v, .bool s] w fun r w' => ∃ V y, r = .returned V ∧ Od w.heap.size w' V y ∧ ros y = K (fateN c s) (attrsF c s) e (below (ros l) i) ∧ Below w.heap.size w w' := by
  obtain ⟨vE, vR, vA, vP, pl, rfl, hc⟩ := hc
  have h2' : i < (ros l).length := by rw [len_ros]; exact h2
  have hwd := below_wd hrt (by rw [len_ros]; exact hll) h1 h2'
  obtain ⟨ks, hks⟩ : ∃ ks, kidsAt (ros l) i = ks := ⟨_, rfl⟩
  have hks0 : ks.drop 0 = kidsFrom (dep (ros l) i + 1) ((i + 1).toNat + 0) ((below (ros l) i).drop 0) := by
    rw [← hks, kidsAt, if_pos ⟨h1, h2'⟩]
    rfl
  have hbl : (below (ros l) i).length ≤ 1000 := by
    obtain ⟨hs1, _⟩ := below_split (l := ros l) i h1
    have := congrArg List.length hs1
    rw [List.length_drop, List.length_append, len_ros] at this
    omega
  have hheld : Held (ros l) := held_deep (right_deep hrt (by rw [len_ros]; exact hll))
  obtain ⟨w1, hw1⟩ : ∃ w1, (w.alloc (confO c vE vR vA vP)).alloc (.cells #[] 36) = w1 := ⟨_, rfl⟩
  have hb1 : Below w.heap.size w w1 := hw1 ▸ below_two w _ _
  have hbx : Co.Bx w1 w.heap.size c vE vR vA vP := hw1 ▸ (Co.Bx.new w c vE vR vA vP).below (below_new _ _) (by simp)
  have hod : Od (w.heap.size + 1) w1 (.slice (some ⟨w.heap.size + 1, 0, none⟩) 0 0) [] := by
    have := Od.made (w.alloc (confO c vE vR vA vP))
    rw [hw1, World.size_alloc] at this
    exact this
  have hz1 : w1.heap.size = w.heap.size + 2 := by rw [← hw1]; simp
  have HKC := Lib.hid (refKids1 (.slice A0 l.length c0) l i w1 ks ⟨A0, c0, rfl, hlc, hcm, rr_on hr hb1, hheld⟩ hll hrt hks)
  have HRL := Lib.hid hr; have HCP := Lib.hid hc; have HSM := Lib.hid hs; have HRT := Lib.hid hrt; have HZ := Lib.hid hz; have HF := Lib.hid hf; have HIH := Lib.hid ih
  have HW1 := Lib.hid hw1; have HB1 := Lib.hid hb1; have HX1 := Lib.hid hbx; have HO1 := Lib.hid hod; have HZ1 := Lib.hid hz1; have HK0 := Lib.hid hks0; have HWD := Lib.hid hwd
  clear hr hc hs hrt hz hf ih hw1 hb1 hbx hod hks0 hwd hks hheld hz1
  go_enter Try.func26, Try.ntmps26
  go_upto_region 2 with (fail)
  rw [HW1.out]
  clear HW1
  go_wp2_with (first
    | (go_at_call 60; refine HKC.out.mono ?_; rintro r w2 ⟨kv, rfl, hnw, hb2⟩; obtain ⟨Ak, ck, rfl, hkc, hkm, -⟩ := hnw.form; have HNW := Lib.hid hnw; have HB2 := Lib.hid hb2; clear hnw hb2)
    | fail)
  have hb2 := HB2.out.size
  have HZ2 := Lib.hid hb2
  clear hb2
  go_loopw [11, 13] (fun u' jv wr => ∃ (j m : Nat) (u : Value) (acc : List Cw), jv = .int .i64 j ∧ u = u' ∧ j ≤ ks.length ∧ Hid (ks.drop j = kidsFrom (dep (ros l) i + 1) ((i + 1).toNat + m) ((below (ros l) i).drop m)) ∧ Hid (Wd (dep (ros l) i + 1) ((below (ros l) i).drop m)) ∧ Hid (ros acc ++ K (fateN c s) (attrsF c s) e ((below (ros l) i).drop m) = K (fateN c s) (attrsF c s) e (below (ros l) i)) ∧ Od (w.heap.size + 1) wr u acc ∧ Nw w1.heap.size wr (.slice Ak ks.length ck) ks ∧ Co.Bx wr w.heap.size c vE vR vA vP ∧ Below w.heap.size w wr ∧ w1.heap.size ≤ wr.heap.size) (fun _ jv _ => ks.length - (intOf jv).toNat)
  case atStart =>
    exact ⟨0, 0, _, [], rfl, rfl, Nat.zero_le _, HK0, HWD, rfl, HO1.out.below HB2.out, HNW.out, HX1.out.below HB2.out (by have := HZ1.out; omega), HB1.out.trans (HB2.out.mono HB1.out.size), HZ2.out⟩
  case round =>
    obtain ⟨j, m, u, acc, rfl, rfl, hj, hkd, hwm, hros, hod, hnw, hbx, hbel, hws⟩ := hrel
    have hz1 := HZ1.out
    have hkm' := hkm
    unfold maxLen at hkm'
    by_cases hp : j < ks.length
    · obtain ⟨x0, r0, hxr⟩ : ∃ x r, (below (ros l) i).drop m = x :: r := by
        cases h : (below (ros l) i).drop m with
        | cons x r => exact ⟨x, r, rfl⟩
        | nil =>
          have := hkd.out
          rw [h] at this
          have h3 := congrArg List.length this
          rw [List.length_drop] at h3
          exact absurd h3 (by show ¬ _ = 0; omega)
      have hwx := hwm.out
      rw [hxr] at hwx
      obtain ⟨hk1, hk2⟩ := kids_next hkd.out hxr hwx
      obtain ⟨hs1, hs2, hs3, hs4⟩ := kid_step h1 hxr hwx
      obtain ⟨hwp1, hwp2, hwp3, hwp4, hwp5, hwp6⟩ := hwx.parts
      have hp2 : (i + 1).toNat + m < l.length := by
        have := congrArg List.length hs1
        rw [List.length_drop, List.length_cons, len_ros] at this
        omega
      have hal : acc.length ≤ 1000 := by
        have h3 := congrArg List.length hros.out
        have h4 := K_len (g := fateN c s) (f := attrsF c s) HWD.out e
        rw [List.length_append, len_ros] at h3
        omega
      obtain ⟨A', c', eA, _, _, hRn⟩ := hnw.form
      injection eA with eA1 _ eA3
      subst eA1 eA3
      obtain ⟨kb, ko, rfl, hkb, hkc⟩ := hRn (by omega)
      have hkj := hkc j hp
      obtain ⟨p, hp0⟩ : ∃ p, (i + 1).toNat + m = p := ⟨_, rfl⟩
      have hksj : ks[j] = p := by
        have h3 := getElem_of_drop hk1
        rw [List.getElem?_eq_getElem hp] at h3
        rw [← hp0]
        exact Option.some.inj h3
      rw [hksj] at hkj
      rw [hp0] at hs1 hs2 hs3 hp2
      obtain ⟨b, off, x, rfl, hb, hdx, hxr2, hxa, hxm⟩ := (HRL.out.below hbel).at_ p hp2
      have hx0 : x.ro = x0 := by
        have h3 := hs1
        rw [ros_drop, hdx, ros_cons] at h3
        exact List.head_eq_of_cons_eq h3
      have hxR : x.ro ∈ ros l := List.mem_map_of_mem hxm
      have hzx := HZ.out _ hxR
      have hfx := HF.out _ hxR
      have hxaw := HRL.out.2 _ hxm
      obtain ⟨⟨xd, kd, nm, dt, ats⟩, A, cc⟩ := x
      obtain ⟨al, aa, els, reps, cats, per, cm, da⟩ := c
      subst hx0
      simp only at hfx hzx hwp3 hwp6 hxr2
      have hcc := hxa.1; have hcx := hxa.2.2.1
      unfold maxLen at hcx
      simp only at hcc hcx
      obtain ⟨hz1', hz2', hz3'⟩ := hzx
      simp only at hz1' hz2' hz3'
      have hlt : (below (ros l) (p : Int)).length < (below (ros l) i).length := by
        rw [hs3]
        have h3 := congrArg List.length hxr
        rw [List.length_drop, List.length_cons] at h3
        have h4 : (r0.take (more (dep (ros l) i + 1) r0)).length ≤ r0.length := List.length_take_le' _ _
        omega
      have hkc2 : K (fateN ⟨al, aa, els, reps, cats, per, cm, da⟩ s) (attrsF ⟨al, aa, els, reps, cats, per, cm, da⟩ s) e ((below (ros l) i).drop m) = one (fateN ⟨al, aa, els, reps, cats, per, cm, da⟩ s) (attrsF ⟨al, aa, els, reps, cats, per, cm, da⟩ s) e ⟨xd, kd, nm, dt, ats⟩ (r0.take (more (dep (ros l) i + 1) r0)) ++ K (fateN ⟨al, aa, els, reps, cats, per, cm, da⟩ s) (attrsF ⟨al, aa, els, reps, cats, per, cm, da⟩ s) e (r0.drop (more (dep (ros l) i + 1) r0)) := by
        rw [hxr]
        exact K_cons e (by rw [← hxr]; exact hwm.out)
      have HRN := Lib.hid (fun (acc' : List Cw) (h : ros acc' = ros acc ++ one (fateN ⟨al, aa, els, reps, cats, per, cm, da⟩ s) (attrsF ⟨al, aa, els, reps, cats, per, cm, da⟩ s) e ⟨xd, kd, nm, dt, ats⟩ (r0.take (more (dep (ros l) i + 1) r0))) => show Hid (ros acc' ++ K (fateN ⟨al, aa, els, reps, cats, per, cm, da⟩ s) (attrsF ⟨al, aa, els, reps, cats, per, cm, da⟩ s) e ((below (ros l) i).drop (m + 1 + more (dep (ros l) i + 1) r0)) = K (fateN ⟨al, aa, els, reps, cats, per, cm, da⟩ s) (attrsF ⟨al, aa, els, reps, cats, per, cm, da⟩ s) e (below (ros l) i)) from by
        have h5 := hros.out
        rw [hkc2, ← List.append_assoc, ← h, ← hs4] at h5
        exact h5)
      have HKN : Hid (Hid (ks.drop (j + 1) = kidsFrom (dep (ros l) i + 1) ((i + 1).toNat + (m + 1 + more (dep (ros l) i + 1) r0)) ((below (ros l) i).drop (m + 1 + more (dep (ros l) i + 1) r0)))) := Lib.hid (by rw [hs4]; exact hk2)
      have HWN : Hid (Hid (Wd (dep (ros l) i + 1) ((below (ros l) i).drop (m + 1 + more (dep (ros l) i + 1) r0)))) := Lib.hid (by rw [hs4]; exact hwp5)
      have HXR := Lib.hid hxr2
      have HKJ := Lib.hid hkj
      have HKSJ := Lib.hid hksj
      have g0 := hkj
      have HBX := Lib.hid hbx; have HBL := Lib.hid hbel; have HOD := Lib.hid hod; have HNW2 := Lib.hid hnw; have HS3 := Lib.hid hs3; have HLT := Lib.hid hlt; have HXA := Lib.hid hxaw; have HFX := Lib.hid hfx; have HZ3 := Lib.hid hz3'; have HOK := Lib.hid hwp3; have HW6 := Lib.hid hwp6
      have hsz := hbel.size
      have HWP4 := Lib.hid hwp4
      clear hkc hkj hbx hbel hod hnw hs3 hs1 hs2 hlt hxa hxaw hfx hz3' hwp3 hwp6 hxr2 hkc2 hxm hxR hdx hRn hksj hk1 hk2 hs4 hwp4 hwp5 hros hwm hkd hwx hxr hwp1
      rcases ok_kinds HOK.out with hk | hk | hk
      · have hk : kd = 0 := hk
        subst hk
        go_upto_region 8 with (first | (refine wpList_load_mid rfl 36 (.tmp 32) rfl b (off + p * 5) rfl _ _ HXR.out Try.underlying36 rfl size_row ?_) | fail)
        obtain ⟨wB, hwB⟩ : ∃ wB, (wr.alloc (rowO ⟨⟨xd, 0, nm, dt, ats⟩, A, cc⟩)).alloc (.cells #[.int .i64 e, .int .i64 0, .string nm, .string dt, .slice none 0 0] 36) = wB := ⟨_, rfl⟩
        rw [hwB]
        have hbB : Below wr.heap.size wr wB := hwB ▸ below_two wr _ _
        have hvX : Hv 36 wB wr.heap.size #[.int .i64 xd, .int .i64 0, .string nm, .string dt, .slice A ats.length cc] := hwB ▸ (Hv.new _ _ _).on (below_new _ _)
        have hvY : Hv 36 wB (wr.heap.size + 1) #[.int .i64 e, .int .i64 0, .string nm, .string dt, .slice none 0 0] := by
          have := Hv.new 36 (wr.alloc (rowO ⟨⟨xd, 0, nm, dt, ats⟩, A, cc⟩)) #[.int .i64 e, .int .i64 0, .string nm, .string dt, .slice none 0 0]
          rw [World.size_alloc] at this
          rw [← hwB]
          exact this
        have hsB : wB.heap.size = wr.heap.size + 2 := by rw [← hwB]; simp
        have HRF := Lib.hid (fun wx (hb' : Below wB.heap.size wB wx) => show wx.rangeAt wr.heap.size 0 [.int .i64 xd, .int .i64 0, .string nm, .string dt, .slice A ats.length cc] from (hvX.on hb').range)
        have HCF := Lib.hid (fun wx (hb' : Below wB.heap.size wB wx) => show Co.Bx wx w.heap.size ⟨al, aa, els, reps, cats, per, cm, da⟩ vE vR vA vP from (HBX.out.below hbB (by omega)).below hb' (by omega))
        have HBF := Lib.hid (fun wx (hb' : Below wB.heap.size wB wx) => show Below w.heap.size w wx from (HBL.out.trans (hbB.mono HBL.out.size)).trans (hb'.mono (by omega)))
        have HCV := Lib.hid (fun wx (hb' : Below wB.heap.size wB wx) => show Cv wx wx.heap.size (confV ⟨al, aa, els, reps, cats, per, cm, da⟩ vE vR vA vP) ⟨al, aa, els, reps, cats, per, cm, da⟩ from ⟨_, _, _, _, _, rfl, HCP.out.on (HBF.out wx hb')⟩)
        have HYF := Lib.hid (fun wx (hb' : Below wB.heap.size wB wx) => hvY.on hb')
        have HOF := Lib.hid (fun wx (hb' : Below wB.heap.size wB wx) => (HOD.out.below hbB).below hb')
        have HNF := Lib.hid (fun wx (hb' : Below wB.heap.size wB wx) => ((HNW2.out.below hbB).below hb'))
        have HSF := Lib.hid (fun wx (hb' : Below wB.heap.size wB wx) => show (wx.cell? ⟨wr.heap.size, 1, none⟩ = some (.int .i64 0) ∧ wx.cell? ⟨wr.heap.size, 2, none⟩ = some (.string nm)) from ⟨(HRF.out wx hb') 1 _ rfl, (HRF.out wx hb') 2 _ rfl⟩)
        have HKF := Lib.hid (fun wx (hb' : Below wB.heap.size wB wx) => show wx.cell? ⟨kb, ko + j, none⟩ = some (.int .i64 (p : Int)) from (hb'.cell (p := ⟨kb, ko + j, none⟩) (show kb < wB.heap.size by omega)).trans ((hbB.cell (p := ⟨kb, ko + j, none⟩) (show kb < wr.heap.size by omega)).trans HKJ.out))
        have HSB := Lib.hid hsB
        have hsB1 : w.heap.size + 2 ≤ wB.heap.size := by omega
        have hsB3 : wr.heap.size + 2 ≤ wB.heap.size := by omega
        have hsB2 : w1.heap.size ≤ wB.heap.size := by omega
        have HBB := Lib.hid hbB
        clear hwB hbB hvX hvY hsB g0
        obtain ⟨t1, t2⟩ := HSF.out wB (Below.refl _ _)
        have t6 := (HCF.out wB (Below.refl _ _)) 6 _ rfl
        go_upto_region 10 with (fail)
        clear t1 t2 t6
        obtain ⟨nv, hnv⟩ : ∃ b, neverB nm = b := ⟨_, rfl⟩
        have HNV := Lib.hid hnv
        clear hnv
        cases s with
        | false =>
          go_wp2_with fail
          refine wp_region_noPanic ?_
          refine wp_region_held_drew (S := fun wx => (wx.cell? ⟨wr.heap.size, 1, none⟩ = some (.int .i64 0) ∧ wx.cell? ⟨wr.heap.size, 2, none⟩ = some (.string nm))) (by kernel_rfl) ?_ (fun hHeld => ?_)
          · exact HSF.out _ (bel_eq12 (Below.refl _ wB) rfl rfl rfl rfl)
          refine wpAnyH_take (i := 0) (oi := _) (v := ?_) rfl (by kernel_rfl) (by kernel_rfl) (by kernel_rfl) (fun _ _ _ h => h) (Or.inl ⟨by rfl, ?_⟩) (by assumption) ?_
          rotate_left
          · intro w hSw; (try dsimp only at hSw); go_simp; all_goals with_reducible rfl
          try simp only [Act.put, List.getElem_toArray, List.getElem_cons_zero, List.getElem_cons_succ, List.setIfInBounds_toArray, List.set_cons_zero, List.set_cons_succ]
          refine wpAnyH_take (i := 1) (oi := _) (v := ?_) rfl (by kernel_rfl) (by kernel_rfl) (by kernel_rfl) (fun _ _ _ h => h) (Or.inl ⟨by rfl, ?_⟩) (by assumption) ?_
          rotate_left
          · intro w hSw; (try dsimp only at hSw); go_simp; all_goals with_reducible rfl
          try simp only [Act.put, List.getElem_toArray, List.getElem_cons_zero, List.getElem_cons_succ, List.setIfInBounds_toArray, List.set_cons_zero, List.set_cons_succ]
          refine wpAnyH_take (i := 2) (oi := _) (v := ?_) rfl (by kernel_rfl) (by kernel_rfl) (by kernel_rfl) (fun _ _ _ h => h) (Or.inl ⟨by rfl, ?_⟩) (by assumption) ?_
          rotate_left
          · intro w hSw; (try dsimp only at hSw); go_simp; all_goals with_reducible rfl
          try simp only [Act.put, List.getElem_toArray, List.getElem_cons_zero, List.getElem_cons_succ, List.setIfInBounds_toArray, List.set_cons_zero, List.set_cons_succ]
          refine wpAnyH_take (i := 3) (oi := _) (v := ?_) rfl (by kernel_rfl) (by kernel_rfl) (by kernel_rfl) (fun _ _ _ h => h) (Or.inl ⟨by rfl, ?_⟩) (by assumption) ?_
          rotate_left
          · intro w hSw; (try dsimp only at hSw); go_simp; all_goals with_reducible rfl
          try simp only [Act.put, List.getElem_toArray, List.getElem_cons_zero, List.getElem_cons_succ, List.setIfInBounds_toArray, List.set_cons_zero, List.set_cons_succ]
          refine wpAnyH_take (i := 4) (oi := _) (v := ?_) rfl (by kernel_rfl) (by kernel_rfl) (by kernel_rfl) (fun _ _ _ h => h) (Or.inl ⟨by rfl, ?_⟩) (by assumption) ?_
          rotate_left
          · intro w hSw; (try dsimp only at hSw); go_simp; all_goals with_reducible rfl
          try simp only [Act.put, List.getElem_toArray, List.getElem_cons_zero, List.getElem_cons_succ, List.setIfInBounds_toArray, List.set_cons_zero, List.set_cons_succ]
          refine wpAnyH_take (i := 5) (oi := _) (v := ?_) rfl (by kernel_rfl) (by kernel_rfl) (by kernel_rfl) (fun _ _ _ h => h) (Or.inl ⟨by rfl, ?_⟩) (by assumption) ?_
          rotate_left
          · intro w hSw; (try dsimp only at hSw); go_simp; all_goals with_reducible rfl
          try simp only [Act.put, List.getElem_toArray, List.getElem_cons_zero, List.getElem_cons_succ, List.setIfInBounds_toArray, List.set_cons_zero, List.set_cons_succ]
          refine wpAnyH_take (i := 6) (oi := _) (v := undef) rfl (by kernel_rfl) (by kernel_rfl) (by kernel_rfl) (fun _ _ _ h => h) (Or.inr ⟨by rfl, rfl⟩) (by assumption) ?_
          try simp only [Act.put, List.getElem_toArray, List.getElem_cons_zero, List.getElem_cons_succ, List.setIfInBounds_toArray, List.set_cons_zero, List.set_cons_succ]
          refine wpAnyH_take (i := 7) (oi := _) (v := undef) rfl (by kernel_rfl) (by kernel_rfl) (by kernel_rfl) (fun _ _ _ h => h) (Or.inr ⟨by rfl, rfl⟩) (by assumption) ?_
          try simp only [Act.put, List.getElem_toArray, List.getElem_cons_zero, List.getElem_cons_succ, List.setIfInBounds_toArray, List.set_cons_zero, List.set_cons_succ]
          refine wpAnyH_take (i := 8) (oi := _) (v := undef) rfl (by kernel_rfl) (by kernel_rfl) (by kernel_rfl) (fun _ _ _ h => h) (Or.inr ⟨by rfl, rfl⟩) (by assumption) ?_
          try simp only [Act.put, List.getElem_toArray, List.getElem_cons_zero, List.getElem_cons_succ, List.setIfInBounds_toArray, List.set_cons_zero, List.set_cons_succ]
          refine wpAnyH_take (i := 9) (oi := _) (v := undef) rfl (by kernel_rfl) (by kernel_rfl) (by kernel_rfl) (fun _ _ _ h => h) (Or.inr ⟨by rfl, rfl⟩) (by assumption) ?_
          try simp only [Act.put, List.getElem_toArray, List.getElem_cons_zero, List.getElem_cons_succ, List.setIfInBounds_toArray, List.set_cons_zero, List.set_cons_succ]
          refine wpAnyH_take (i := 10) (oi := _) (v := ?_) rfl (by kernel_rfl) (by kernel_rfl) (by kernel_rfl) (fun _ _ _ h => h) (Or.inl ⟨by rfl, ?_⟩) (by assumption) ?_
          rotate_left
          · intro w hSw; (try dsimp only at hSw); go_simp; all_goals with_reducible rfl
          try simp only [Act.put, List.getElem_toArray, List.getElem_cons_zero, List.getElem_cons_succ, List.setIfInBounds_toArray, List.set_cons_zero, List.set_cons_succ]
          refine wpAnyH_take (i := 11) (oi := _) (v := ?_) rfl (by kernel_rfl) (by kernel_rfl) (by kernel_rfl) (fun _ _ _ h => h) (Or.inl ⟨by rfl, ?_⟩) (by assumption) ?_
          rotate_left
          · intro w hSw; (try dsimp only at hSw); go_simp; all_goals with_reducible rfl
          try simp only [Act.put, List.getElem_toArray, List.getElem_cons_zero, List.getElem_cons_succ, List.setIfInBounds_toArray, List.set_cons_zero, List.set_cons_succ]
          refine wpAnyH_done (by kernel_rfl) ?_ _
          refine NoPanic.normal ?_
          obtain ⟨wE, hwE⟩ : ∃ wE, wB.drew = wE := ⟨_, rfl⟩
          rw [hwE]
          have HBE := Lib.hid (show Below wB.heap.size wB wE from hwE ▸ bel_eq12 (Below.refl _ wB) rfl rfl rfl rfl)
          clear hwE
          have hgf : ∀ q, elementN ⟨al, aa, els, reps, cats, per, cm, da⟩ nm = q → fateN ⟨al, aa, els, reps, cats, per, cm, da⟩ false ⟨xd, 0, nm, dt, ats⟩ = q := fun q h => by
            rw [fate_el ⟨al, aa, els, reps, cats, per, cm, da⟩ false (x := ⟨xd, 0, nm, dt, ats⟩) rfl]
            show (if (false && neverB nm) = true then 1 else elementN ⟨al, aa, els, reps, cats, per, cm, da⟩ nm) = q
            rw [Bool.false_and]
            exact h
          obtain ⟨q, hq⟩ : ∃ q, elementN ⟨al, aa, els, reps, cats, per, cm, da⟩ nm = q := ⟨_, rfl⟩
          have hq2 : q ≤ 2 := hq ▸ Co.el_few _ _
          have HEL := Lib.hid (Co.refElement1 (confV ⟨al, aa, els, reps, cats, per, cm, da⟩ vE vR vA vP) ⟨al, aa, els, reps, cats, per, cm, da⟩ nm wE q (HCV.out _ HBE.out) HSM.out hq)
          have HGF := Lib.hid (hgf q hq)
          have t2 := (HSF.out _ HBE.out).2
          clear hgf hq
          by_cases hq0 : q = 0
          · subst hq0
            have HONE : Hid (one (fateN ⟨al, aa, els, reps, cats, per, cm, da⟩ false) (attrsF ⟨al, aa, els, reps, cats, per, cm, da⟩ false) e ⟨xd, 0, nm, dt, ats⟩ (r0.take (more (dep (ros l) i + 1) r0)) = ⟨e, 0, nm, dt, attrsF ⟨al, aa, els, reps, cats, per, cm, da⟩ false ⟨xd, 0, nm, dt, ats⟩⟩ :: K (fateN ⟨al, aa, els, reps, cats, per, cm, da⟩ false) (attrsF ⟨al, aa, els, reps, cats, per, cm, da⟩ false) (e + 1) (r0.take (more (dep (ros l) i + 1) r0))) := Lib.hid (by
              have := HGF.out
              unfold one
              rw [if_neg (by omega), if_pos this])
            go_upto_region 14 with (first
              | (show wpList _ _ _ (⟨_, Op.load 26 (.tmp 8), _, _, _, _⟩ :: _) _ _; refine wpList_load_mid rfl 26 (.tmp 8) rfl w.heap.size 0 rfl _ _ (HCF.out _ HBE.out) Try.underlying26 rfl Co.size_conf ?_)
              | (show wpList _ _ _ (⟨_, Op.load 26 (.tmp 8), _, _, _, _⟩ :: _) _ _; refine wpList_load_mid rfl 26 (.tmp 8) rfl w.heap.size 0 rfl _ _ (HCF.out _ HB10.out) Try.underlying26 rfl Co.size_conf ?_)
              | (show wpList _ _ _ (⟨_, Op.load 36 (.tmp 14), _, _, _, _⟩ :: _) _ _; refine wpList_load_mid rfl 36 (.tmp 14) rfl wr.heap.size 0 rfl _ _ (HRF.out _ HB10.out) Try.underlying36 rfl size_row ?_)
              | (go_at_call 62; refine HEL.out.mono ?_; rintro r w10 ⟨rfl, hb10⟩; have HB10 := Lib.hid (HBE.out.trans (hb10.mono HBE.out.size)); clear hb10; have t3 := (HSF.out w10 HB10.out).2)
              | (go_at_call 13; refine (refAttrs_any ⟨⟨xd, 0, nm, dt, ats⟩, A, cc⟩ (confV ⟨al, aa, els, reps, cats, per, cm, da⟩ vE vR vA vP) ⟨al, aa, els, reps, cats, per, cm, da⟩ false w10 ((HXA.out.below (HBF.out _ HB10.out)).more (HBF.out _ HB10.out).size) ⟨hz1', hz2', HZ3.out⟩ (HCV.out _ HB10.out) HSM.out HFX.out).mono ?_; rintro r w11 ⟨v11, rfl, haw, hb11⟩; obtain ⟨A11, c11, rfl⟩ := haw.form; have HB11 := Lib.hid (HB10.out.trans (hb11.mono HB10.out.size)); have HAW := Lib.hid haw; have y4 := (HYF.out w11 HB11.out).cell 4 _ rfl; have z4 := (HYF.out w11 HB11.out).f 4; have hs11 := hb11.size; clear haw hb11)
              | fail)
            obtain ⟨w12, hw12⟩ : ∃ w12, w11.setCell ⟨wr.heap.size + 1, 4, none⟩ (.slice A11 (attrsF ⟨al, aa, els, reps, cats, per, cm, da⟩ false ⟨xd, 0, nm, dt, ats⟩).length c11) = w12 := ⟨_, rfl⟩
            rw [hw12]
            have hs10 := HB10.out.size
            have hb12 : Below wr.heap.size wr w12 := hw12 ▸ (HBB.out.trans (HB11.out.mono HBB.out.size)).setCell (show wr.heap.size ≤ wr.heap.size + 1 by omega) _
            have hv12 : Hv 36 w12 (wr.heap.size + 1) #[.int .i64 e, .int .i64 0, .string nm, .string dt, .slice A11 (attrsF ⟨al, aa, els, reps, cats, per, cm, da⟩ false ⟨xd, 0, nm, dt, ats⟩).length c11] := hw12 ▸ (HYF.out w11 HB11.out).set 4 _
            have hf12 : Fr (w.heap.size + 1) w12 ⟨⟨e, 0, nm, dt, attrsF ⟨al, aa, els, reps, cats, per, cm, da⟩ false ⟨xd, 0, nm, dt, ats⟩⟩, A11, c11⟩ := hw12 ▸ ⟨World.ownsRow.mono (Co.row_elder HAW.out.1 (Co.gcell12 w11 (wr.heap.size + 1) 4 _) (fun q hq => by injection hq with hq; omega)) (by omega), HAW.out.2⟩
            have hs12 := hb12.size
            have HRY := Lib.hid (rr_one (y := ⟨⟨e, 0, nm, dt, attrsF ⟨al, aa, els, reps, cats, per, cm, da⟩ false ⟨xd, 0, nm, dt, ats⟩⟩, A11, c11⟩) hv12 hf12.att)
            have HFY := Lib.hid hf12; have HB12 := Lib.hid hb12
            have HO12 := Lib.hid (HOD.out.below hb12)
            clear t2 t3 y4 z4 hw12 hb12 hv12 hf12
            go_upto_region 15 with (first | (at_builtin; refine app_rowsD w12 rfl (.tmp 83) (.tmp 84) rfl (w.heap.size + 1) u acc [⟨⟨e, 0, nm, dt, attrsF ⟨al, aa, els, reps, cats, per, cm, da⟩ false ⟨xd, 0, nm, dt, ats⟩⟩, A11, c11⟩] (some ⟨wr.heap.size + 1, 0, none⟩) 1 rfl HO12.out rfl (fun e => by cases e) HRY.out (fun y hy => by rw [List.mem_singleton.1 hy]; exact HFY.out) (by simp; omega) (by omega) ?_; intro v14 w14 ho14 hg14) | fail)
            have hs14 := hg14.size
            have hnc : u.ownBlock ≠ some w.heap.size := od_ne HOD.out (.inl (by omega))
            have HO_ := Lib.hid (fun wx (hb' : Below w14.heap.size w14 wx) => ho14.below hb')
            have HN_ := Lib.hid (fun wx (hb' : Below w14.heap.size w14 wx) => (nw_grown (HNW2.out.below HB12.out) HO12.out hg14).below hb')
            have HB_ := Lib.hid (fun wx (hb' : Below w14.heap.size w14 wx) => show Below w.heap.size w wx from (below_own (HBL.out.trans (HB12.out.mono HBL.out.size)) HO12.out hg14 (by omega) (by omega)).trans (hb'.mono (by omega)))
            have HC_ := Lib.hid (fun wx (hb' : Below w14.heap.size w14 wx) => show Co.Bx wx w.heap.size ⟨al, aa, els, reps, cats, per, cm, da⟩ vE vR vA vP from range_keep (HBX.out.below HB12.out (by omega)) fun o => World.cell?_of_block (a := ⟨w.heap.size, o, none⟩) ((hb'.block w.heap.size (by omega)).trans (hg14.block w.heap.size (by omega) (fun e => hnc e.symm))))
            clear ho14 hg14 hnc
            have HKS := Lib.hid (fun wx (hb' : Below w14.heap.size w14 wx) => show (wx.cell? ⟨kb, ko + j, none⟩ = some (.int .i64 (p : Int)) ∧ wx.cell? ⟨w.heap.size, 0, none⟩ = some (.bool al) ∧ wx.cell? ⟨w.heap.size, 1, none⟩ = some (.bool aa) ∧ wx.cell? ⟨w.heap.size, 2, none⟩ = some (vE) ∧ wx.cell? ⟨w.heap.size, 3, none⟩ = some (vR) ∧ wx.cell? ⟨w.heap.size, 4, none⟩ = some (vA) ∧ wx.cell? ⟨w.heap.size, 5, none⟩ = some (vP) ∧ wx.cell? ⟨w.heap.size, 6, none⟩ = some (.bool cm) ∧ wx.cell? ⟨w.heap.size, 7, none⟩ = some (.bool da)) from by
              obtain ⟨a0, a1, a2, a3, a4, a5, a6, a7⟩ := (HC_.out wx hb').at_
              exact ⟨nw_cell (HN_.out wx hb') hp HKSJ.out, a0, a1, a2, a3, a4, a5, a6, a7⟩)
            have HKP := Lib.hid (fun wx (hb' : Below w14.heap.size w14 wx) => (HIH.out p (e + 1) wx HLT.out (by omega) (by omega) (by omega) (by omega) (rr_on HRL.out (HB_.out wx hb')) ⟨_, _, _, _, _, rfl, HCP.out.on (HB_.out wx hb')⟩).mono fun r w' ⟨V, y, e1, e2, e3, e4⟩ => (show ∃ A5 c5 y, r = Ending.returned (.slice A5 (List.length y) c5) ∧ (A5 = none → c5 = 0) ∧ Rr w' w'.heap.size A5 y ∧ Od (w.heap.size + 1) w' (.slice A5 (List.length y) c5) y ∧ ros y = K (fateN ⟨al, aa, els, reps, cats, per, cm, da⟩ false) (attrsF ⟨al, aa, els, reps, cats, per, cm, da⟩ false) (e + 1) (r0.take (more (dep (ros l) i + 1) r0)) ∧ Below w14.heap.size w14 w' from by
              obtain ⟨A5, c5, e6, _, _, e7, e8⟩ := e2.ow.form
              subst e6
              exact ⟨A5, c5, y, e1, e7, e8, e2.mono (by have := hb'.size; omega), by rw [e3, HS3.out], hb'.trans (e4.mono hb'.size)⟩))
            have hV : v14 = v14 := rfl
            go_wp2_with fail
            refine wp_region_noPanic ?_
            refine wp_region_held_drew (S := fun wx => (wx.cell? ⟨kb, ko + j, none⟩ = some (.int .i64 (p : Int)) ∧ wx.cell? ⟨w.heap.size, 0, none⟩ = some (.bool al) ∧ wx.cell? ⟨w.heap.size, 1, none⟩ = some (.bool aa) ∧ wx.cell? ⟨w.heap.size, 2, none⟩ = some (vE) ∧ wx.cell? ⟨w.heap.size, 3, none⟩ = some (vR) ∧ wx.cell? ⟨w.heap.size, 4, none⟩ = some (vA) ∧ wx.cell? ⟨w.heap.size, 5, none⟩ = some (vP) ∧ wx.cell? ⟨w.heap.size, 6, none⟩ = some (.bool cm) ∧ wx.cell? ⟨w.heap.size, 7, none⟩ = some (.bool da))) (by kernel_rfl) ?_ (fun hHeld => ?_)
            · exact HKS.out _ (bel_eq12 (Below.refl _ w14) rfl rfl rfl rfl)
            refine wpAnyH_take (i := 0) (oi := _) (v := ?_) rfl (by kernel_rfl) (by kernel_rfl) (by kernel_rfl) (fun _ _ _ h => h) (Or.inl ⟨by rfl, ?_⟩) (by assumption) ?_
            rotate_left
            · intro w hSw; (try dsimp only at hSw); go_simp; all_goals with_reducible rfl
            try simp only [Act.put, List.getElem_toArray, List.getElem_cons_zero, List.getElem_cons_succ, List.setIfInBounds_toArray, List.set_cons_zero, List.set_cons_succ]
            refine wpAnyH_take (i := 1) (oi := _) (v := ?_) rfl (by kernel_rfl) (by kernel_rfl) (by kernel_rfl) (fun _ _ _ h => h) (Or.inl ⟨by rfl, ?_⟩) (by assumption) ?_
            rotate_left
            · intro w hSw; (try dsimp only at hSw); go_simp; all_goals with_reducible rfl
            try simp only [Act.put, List.getElem_toArray, List.getElem_cons_zero, List.getElem_cons_succ, List.setIfInBounds_toArray, List.set_cons_zero, List.set_cons_succ]
            refine wpAnyH_take (i := 2) (oi := _) (v := ?_) rfl (by kernel_rfl) (by kernel_rfl) (by kernel_rfl) (fun _ _ _ h => h) (Or.inl ⟨by rfl, ?_⟩) (by assumption) ?_
            rotate_left
            · intro w hSw; (try dsimp only at hSw); go_simp; all_goals with_reducible rfl
            try simp only [Act.put, List.getElem_toArray, List.getElem_cons_zero, List.getElem_cons_succ, List.setIfInBounds_toArray, List.set_cons_zero, List.set_cons_succ]
            refine wpAnyH_take (i := 3) (oi := _) (v := ?_) rfl (by kernel_rfl) (by kernel_rfl) (by kernel_rfl) (fun _ _ _ h => h) (Or.inl ⟨by rfl, ?_⟩) (by assumption) ?_
            rotate_left
            · intro w hSw; (try dsimp only at hSw); go_simp; all_goals with_reducible rfl
            try simp only [Act.put, List.getElem_toArray, List.getElem_cons_zero, List.getElem_cons_succ, List.setIfInBounds_toArray, List.set_cons_zero, List.set_cons_succ]
            refine wpAnyH_take (i := 4) (oi := _) (v := ?_) rfl (by kernel_rfl) (by kernel_rfl) (by kernel_rfl) (fun _ _ _ h => h) (Or.inl ⟨by rfl, ?_⟩) (by assumption) ?_
            rotate_left
            · intro w hSw; (try dsimp only at hSw); go_simp; all_goals with_reducible rfl
            try simp only [Act.put, List.getElem_toArray, List.getElem_cons_zero, List.getElem_cons_succ, List.setIfInBounds_toArray, List.set_cons_zero, List.set_cons_succ]
            refine wpAnyH_take (i := 5) (oi := _) (v := ?_) rfl (by kernel_rfl) (by kernel_rfl) (by kernel_rfl) (fun _ _ _ h => h) (Or.inl ⟨by rfl, ?_⟩) (by assumption) ?_
            rotate_left
            · intro w hSw; (try dsimp only at hSw); go_simp; all_goals with_reducible rfl
            try simp only [Act.put, List.getElem_toArray, List.getElem_cons_zero, List.getElem_cons_succ, List.setIfInBounds_toArray, List.set_cons_zero, List.set_cons_succ]
            refine wpAnyH_take (i := 6) (oi := _) (v := ?_) rfl (by kernel_rfl) (by kernel_rfl) (by kernel_rfl) (fun _ _ _ h => h) (Or.inl ⟨by rfl, ?_⟩) (by assumption) ?_
            rotate_left
            · intro w hSw; (try dsimp only at hSw); go_simp; all_goals with_reducible rfl
            try simp only [Act.put, List.getElem_toArray, List.getElem_cons_zero, List.getElem_cons_succ, List.setIfInBounds_toArray, List.set_cons_zero, List.set_cons_succ]
            refine wpAnyH_take (i := 7) (oi := _) (v := ?_) rfl (by kernel_rfl) (by kernel_rfl) (by kernel_rfl) (fun _ _ _ h => h) (Or.inl ⟨by rfl, ?_⟩) (by assumption) ?_
            rotate_left
            · intro w hSw; (try dsimp only at hSw); go_simp; rw [show IntKind.i64.wrap (e + 1) = e + 1 from by rw [IntKind.wrap_i64]; omega]; all_goals with_reducible rfl
            try simp only [Act.put, List.getElem_toArray, List.getElem_cons_zero, List.getElem_cons_succ, List.setIfInBounds_toArray, List.set_cons_zero, List.set_cons_succ]
            refine wpAnyH_take (i := 8) (oi := _) (v := ?_) rfl (by kernel_rfl) (by kernel_rfl) (by kernel_rfl) (fun _ _ _ h => h) (Or.inl ⟨by rfl, ?_⟩) (by assumption) ?_
            rotate_left
            · intro w hSw; (try dsimp only at hSw); go_simp; all_goals with_reducible rfl
            try simp only [Act.put, List.getElem_toArray, List.getElem_cons_zero, List.getElem_cons_succ, List.setIfInBounds_toArray, List.set_cons_zero, List.set_cons_succ]
            refine wpAnyH_take (i := 9) (oi := _) (v := ?_) rfl (by kernel_rfl) (by kernel_rfl) (by kernel_rfl) (fun _ _ _ h => h) (Or.inl ⟨by rfl, ?_⟩) (by assumption) ?_
            rotate_left
            · intro w hSw; (try dsimp only at hSw); go_simp; all_goals with_reducible rfl
            try simp only [Act.put, List.getElem_toArray, List.getElem_cons_zero, List.getElem_cons_succ, List.setIfInBounds_toArray, List.set_cons_zero, List.set_cons_succ]
            refine wpAnyH_ready (rs := [10]) (by kernel_rfl) (by simp) ?_
            refine AllReadyH.cons (o := _) rfl (fun K hK => ?_) AllReadyH.nil
            go_simp
            go_at_call 26
            refine (HKP.out _ (by exact bel_eq12 (Below.refl _ w14) rfl rfl rfl rfl)).mono ?_
            rintro r x5 ⟨A5, c5, y5, rfl, hA5, hr5, ho5, hy5, hbx5⟩
            have hy5l : y5.length ≤ 1000 := by
              have h3 := congrArg List.length hy5
              rw [len_ros] at h3
              have h4 := K_len (g := fateN ⟨al, aa, els, reps, cats, per, cm, da⟩ false) (f := attrsF ⟨al, aa, els, reps, cats, per, cm, da⟩ false) HWP4.out (e + 1)
              have h5 := HLT.out
              rw [HS3.out] at h5
              omega
            have HX5 := Lib.hid hbx5
            have HO5 := Lib.hid ho5
            have HY5 := Lib.hid hy5
            have HR5 := Lib.hid hr5
            have HA5 := Lib.hid hA5
            have hs5 := hbx5.size
            clear hbx5 ho5 hy5 hr5 hA5
            go_wp2_with fail
            refine hK.out _ _ ?_ (fun hHeld => ?_)
            · exact HKS.out _ (bel_eq12 HX5.out rfl rfl rfl rfl)
            clear hK K
            try simp only [Act.put, List.getElem_toArray, List.getElem_cons_zero, List.getElem_cons_succ, List.setIfInBounds_toArray, List.set_cons_zero, List.set_cons_succ]
            refine wpAnyH_ready (rs := [11]) (by kernel_rfl) (by simp) ?_
            refine AllReadyH.cons (o := _) rfl (fun K hK => ?_) AllReadyH.nil
            refine step_app_rows x5 (by rfl) (.tmp 86) (.tmp 96) (by rfl) (w.heap.size + 1) (v14) (acc ++ [⟨⟨e, 0, nm, dt, attrsF ⟨al, aa, els, reps, cats, per, cm, da⟩ false ⟨xd, 0, nm, dt, ats⟩⟩, A11, c11⟩]) y5 A5 c5 (HO_.out x5 HX5.out) HA5.out HR5.out (HO5.out).2 (by omega) (by first | omega | (simp; omega)) (by simp [Act.eval, Act.put]) (by simp [Act.eval, Act.put]) ?_
            intro v6 w6 ho6 hg6
            have hs6 := hg6.size
            have hnc6 : (v14).ownBlock ≠ some w.heap.size := od_ne (HO_.out x5 HX5.out) (.inl (by omega))
            have HN6 := Lib.hid (fun wx (hb' : Below w6.heap.size w6 wx) => (nw_grown (HN_.out x5 HX5.out) (HO_.out x5 HX5.out) hg6).below hb')
            have HC6 := Lib.hid (fun wx (hb' : Below w6.heap.size w6 wx) => show Co.Bx wx w.heap.size ⟨al, aa, els, reps, cats, per, cm, da⟩ vE vR vA vP from range_keep (HC_.out x5 HX5.out) fun o => World.cell?_of_block (a := ⟨w.heap.size, o, none⟩) ((hb'.block w.heap.size (by omega)).trans (hg6.block w.heap.size (by omega) (fun e => hnc6 e.symm))))
            have HB6 := Lib.hid (fun wx (hb' : Below w6.heap.size w6 wx) => show Below w.heap.size w wx from (below_own (HB_.out x5 HX5.out) (HO_.out x5 HX5.out) hg6 (by omega) (by omega)).trans (hb'.mono (by omega)))
            have HO6 := Lib.hid (fun wx (hb' : Below w6.heap.size w6 wx) => ho6.below hb')
            have HS6 := Lib.hid (fun wx (hb' : Below w6.heap.size w6 wx) => show (wx.cell? ⟨kb, ko + j, none⟩ = some (.int .i64 (p : Int)) ∧ wx.cell? ⟨w.heap.size, 0, none⟩ = some (.bool al) ∧ wx.cell? ⟨w.heap.size, 1, none⟩ = some (.bool aa) ∧ wx.cell? ⟨w.heap.size, 2, none⟩ = some (vE) ∧ wx.cell? ⟨w.heap.size, 3, none⟩ = some (vR) ∧ wx.cell? ⟨w.heap.size, 4, none⟩ = some (vA) ∧ wx.cell? ⟨w.heap.size, 5, none⟩ = some (vP) ∧ wx.cell? ⟨w.heap.size, 6, none⟩ = some (.bool cm) ∧ wx.cell? ⟨w.heap.size, 7, none⟩ = some (.bool da)) from by
              obtain ⟨a0, a1, a2, a3, a4, a5, a6, a7⟩ := (HC6.out wx hb').at_
              exact ⟨nw_cell (HN6.out wx hb') hp HKSJ.out, a0, a1, a2, a3, a4, a5, a6, a7⟩)
            clear hg6 ho6 hnc6
            refine hK.out _ _ ?_ (fun hHeld => ?_)
            · exact HS6.out _ (bel_eq12 (Below.refl _ w6) rfl rfl rfl rfl)
            clear hK K
            try simp only [Act.put, List.getElem_toArray, List.getElem_cons_zero, List.getElem_cons_succ, List.setIfInBounds_toArray, List.set_cons_zero, List.set_cons_succ]
            refine wpAnyH_take (i := 12) (oi := _) (v := ?_) rfl (by kernel_rfl) (by kernel_rfl) (by kernel_rfl) (fun _ _ _ h => h) (Or.inl ⟨by rfl, ?_⟩) (by assumption) ?_
            rotate_left
            · intro w hSw; (try dsimp only at hSw); go_simp; all_goals with_reducible rfl
            try simp only [Act.put, List.getElem_toArray, List.getElem_cons_zero, List.getElem_cons_succ, List.setIfInBounds_toArray, List.set_cons_zero, List.set_cons_succ]
            refine wpAnyH_done (by kernel_rfl) ?_ _
            refine NoPanic.normal ?_
            have hw6 : w1.heap.size ≤ w6.heap.size := by omega
            go_wp2
            go_roundw
            case rel => exact ⟨j + 1, m + 1 + more (dep (ros l) i + 1) r0, _, acc ++ [⟨⟨e, 0, nm, dt, attrsF ⟨al, aa, els, reps, cats, per, cm, da⟩ false ⟨xd, 0, nm, dt, ats⟩⟩, A11, c11⟩] ++ y5, by go_num, rfl, by omega, HKN.out, HWN.out, HRN.out _ (by rw [ros_append, ros_append, HY5.out, HONE.out, List.append_assoc]; rfl), HO6.out w6 (Below.refl _ _), HN6.out w6 (Below.refl _ _), HC6.out w6 (Below.refl _ _), HB6.out w6 (Below.refl _ _), hw6⟩
            case measure => simp [intOf]; omega
          · by_cases hq1 : q = 1
            · subst hq1
              have HONE : Hid (one (fateN ⟨al, aa, els, reps, cats, per, cm, da⟩ false) (attrsF ⟨al, aa, els, reps, cats, per, cm, da⟩ false) e ⟨xd, 0, nm, dt, ats⟩ (r0.take (more (dep (ros l) i + 1) r0)) = []) := Lib.hid (by
                have := HGF.out
                unfold one
                rw [if_pos this])
              go_wp2_with (first | (show wpList _ _ _ (⟨_, Op.load 26 (.tmp 8), _, _, _, _⟩ :: _) _ _; refine wpList_load_mid rfl 26 (.tmp 8) rfl w.heap.size 0 rfl _ _ (HCF.out _ HBE.out) Try.underlying26 rfl Co.size_conf ?_) | (go_at_call 62; refine HEL.out.mono ?_; rintro r w10 ⟨rfl, hb10⟩; have HB10 := Lib.hid (HBE.out.trans (hb10.mono HBE.out.size)); clear hb10; have t3 := (HSF.out w10 HB10.out).2) | fail)
              have hw10 : w1.heap.size ≤ w10.heap.size := Nat.le_trans hsB2 HB10.out.size
              go_roundw
              case rel => exact ⟨j + 1, m + 1 + more (dep (ros l) i + 1) r0, _, acc, by go_num, rfl, by omega, HKN.out, HWN.out, HRN.out _ (by rw [HONE.out, List.append_nil]), HOF.out w10 HB10.out, HNF.out w10 HB10.out, HCF.out w10 HB10.out, HBF.out w10 HB10.out, hw10⟩
              case measure => simp [intOf]; omega
            · have hq3 : q = 2 := by omega
              subst hq3
              have HONE : Hid (one (fateN ⟨al, aa, els, reps, cats, per, cm, da⟩ false) (attrsF ⟨al, aa, els, reps, cats, per, cm, da⟩ false) e ⟨xd, 0, nm, dt, ats⟩ (r0.take (more (dep (ros l) i + 1) r0)) = K (fateN ⟨al, aa, els, reps, cats, per, cm, da⟩ false) (attrsF ⟨al, aa, els, reps, cats, per, cm, da⟩ false) e (r0.take (more (dep (ros l) i + 1) r0))) := Lib.hid (by
                have := HGF.out
                unfold one
                rw [if_neg (by omega), if_neg (by omega)])
              go_upto_region 17 with (first | (show wpList _ _ _ (⟨_, Op.load 26 (.tmp 8), _, _, _, _⟩ :: _) _ _; refine wpList_load_mid rfl 26 (.tmp 8) rfl w.heap.size 0 rfl _ _ (HCF.out _ HBE.out) Try.underlying26 rfl Co.size_conf ?_) | (go_at_call 62; refine HEL.out.mono ?_; rintro r w10 ⟨rfl, hb10⟩; have HB10 := Lib.hid (HBE.out.trans (hb10.mono HBE.out.size)); clear hb10; have t3 := (HSF.out w10 HB10.out).2) | fail)
              have hs10 := HB10.out.size
              have HO_ := Lib.hid (fun wx (hb' : Below w10.heap.size w10 wx) => HOF.out wx (HB10.out.trans (hb'.mono hs10)))
              have HN_ := Lib.hid (fun wx (hb' : Below w10.heap.size w10 wx) => HNF.out wx (HB10.out.trans (hb'.mono hs10)))
              have HB_ := Lib.hid (fun wx (hb' : Below w10.heap.size w10 wx) => HBF.out wx (HB10.out.trans (hb'.mono hs10)))
              have HC_ := Lib.hid (fun wx (hb' : Below w10.heap.size w10 wx) => HCF.out wx (HB10.out.trans (hb'.mono hs10)))
              clear t2 t3
              have HKS := Lib.hid (fun wx (hb' : Below w10.heap.size w10 wx) => show (wx.cell? ⟨kb, ko + j, none⟩ = some (.int .i64 (p : Int)) ∧ wx.cell? ⟨w.heap.size, 0, none⟩ = some (.bool al) ∧ wx.cell? ⟨w.heap.size, 1, none⟩ = some (.bool aa) ∧ wx.cell? ⟨w.heap.size, 2, none⟩ = some (vE) ∧ wx.cell? ⟨w.heap.size, 3, none⟩ = some (vR) ∧ wx.cell? ⟨w.heap.size, 4, none⟩ = some (vA) ∧ wx.cell? ⟨w.heap.size, 5, none⟩ = some (vP) ∧ wx.cell? ⟨w.heap.size, 6, none⟩ = some (.bool cm) ∧ wx.cell? ⟨w.heap.size, 7, none⟩ = some (.bool da)) from by
                obtain ⟨a0, a1, a2, a3, a4, a5, a6, a7⟩ := (HC_.out wx hb').at_
                exact ⟨nw_cell (HN_.out wx hb') hp HKSJ.out, a0, a1, a2, a3, a4, a5, a6, a7⟩)
              have HKP := Lib.hid (fun wx (hb' : Below w10.heap.size w10 wx) => (HIH.out p (e) wx HLT.out (by omega) (by omega) (by omega) (by omega) (rr_on HRL.out (HB_.out wx hb')) ⟨_, _, _, _, _, rfl, HCP.out.on (HB_.out wx hb')⟩).mono fun r w' ⟨V, y, e1, e2, e3, e4⟩ => (show ∃ A5 c5 y, r = Ending.returned (.slice A5 (List.length y) c5) ∧ (A5 = none → c5 = 0) ∧ Rr w' w'.heap.size A5 y ∧ Od (w.heap.size + 1) w' (.slice A5 (List.length y) c5) y ∧ ros y = K (fateN ⟨al, aa, els, reps, cats, per, cm, da⟩ false) (attrsF ⟨al, aa, els, reps, cats, per, cm, da⟩ false) (e) (r0.take (more (dep (ros l) i + 1) r0)) ∧ Below w10.heap.size w10 w' from by
                obtain ⟨A5, c5, e6, _, _, e7, e8⟩ := e2.ow.form
                subst e6
                exact ⟨A5, c5, y, e1, e7, e8, e2.mono (by have := hb'.size; omega), by rw [e3, HS3.out], hb'.trans (e4.mono hb'.size)⟩))
              have hV : u = u := rfl
              go_wp2_with fail
              refine wp_region_noPanic ?_
              refine wp_region_held_drew (S := fun wx => (wx.cell? ⟨kb, ko + j, none⟩ = some (.int .i64 (p : Int)) ∧ wx.cell? ⟨w.heap.size, 0, none⟩ = some (.bool al) ∧ wx.cell? ⟨w.heap.size, 1, none⟩ = some (.bool aa) ∧ wx.cell? ⟨w.heap.size, 2, none⟩ = some (vE) ∧ wx.cell? ⟨w.heap.size, 3, none⟩ = some (vR) ∧ wx.cell? ⟨w.heap.size, 4, none⟩ = some (vA) ∧ wx.cell? ⟨w.heap.size, 5, none⟩ = some (vP) ∧ wx.cell? ⟨w.heap.size, 6, none⟩ = some (.bool cm) ∧ wx.cell? ⟨w.heap.size, 7, none⟩ = some (.bool da))) (by kernel_rfl) ?_ (fun hHeld => ?_)
              · exact HKS.out _ (bel_eq12 (Below.refl _ w10) rfl rfl rfl rfl)
              refine wpAnyH_take (i := 0) (oi := _) (v := ?_) rfl (by kernel_rfl) (by kernel_rfl) (by kernel_rfl) (fun _ _ _ h => h) (Or.inl ⟨by rfl, ?_⟩) (by assumption) ?_
              rotate_left
              · intro w hSw; (try dsimp only at hSw); go_simp; all_goals with_reducible rfl
              try simp only [Act.put, List.getElem_toArray, List.getElem_cons_zero, List.getElem_cons_succ, List.setIfInBounds_toArray, List.set_cons_zero, List.set_cons_succ]
              refine wpAnyH_take (i := 1) (oi := _) (v := ?_) rfl (by kernel_rfl) (by kernel_rfl) (by kernel_rfl) (fun _ _ _ h => h) (Or.inl ⟨by rfl, ?_⟩) (by assumption) ?_
              rotate_left
              · intro w hSw; (try dsimp only at hSw); go_simp; all_goals with_reducible rfl
              try simp only [Act.put, List.getElem_toArray, List.getElem_cons_zero, List.getElem_cons_succ, List.setIfInBounds_toArray, List.set_cons_zero, List.set_cons_succ]
              refine wpAnyH_take (i := 2) (oi := _) (v := ?_) rfl (by kernel_rfl) (by kernel_rfl) (by kernel_rfl) (fun _ _ _ h => h) (Or.inl ⟨by rfl, ?_⟩) (by assumption) ?_
              rotate_left
              · intro w hSw; (try dsimp only at hSw); go_simp; all_goals with_reducible rfl
              try simp only [Act.put, List.getElem_toArray, List.getElem_cons_zero, List.getElem_cons_succ, List.setIfInBounds_toArray, List.set_cons_zero, List.set_cons_succ]
              refine wpAnyH_take (i := 3) (oi := _) (v := ?_) rfl (by kernel_rfl) (by kernel_rfl) (by kernel_rfl) (fun _ _ _ h => h) (Or.inl ⟨by rfl, ?_⟩) (by assumption) ?_
              rotate_left
              · intro w hSw; (try dsimp only at hSw); go_simp; all_goals with_reducible rfl
              try simp only [Act.put, List.getElem_toArray, List.getElem_cons_zero, List.getElem_cons_succ, List.setIfInBounds_toArray, List.set_cons_zero, List.set_cons_succ]
              refine wpAnyH_take (i := 4) (oi := _) (v := ?_) rfl (by kernel_rfl) (by kernel_rfl) (by kernel_rfl) (fun _ _ _ h => h) (Or.inl ⟨by rfl, ?_⟩) (by assumption) ?_
              rotate_left
              · intro w hSw; (try dsimp only at hSw); go_simp; all_goals with_reducible rfl
              try simp only [Act.put, List.getElem_toArray, List.getElem_cons_zero, List.getElem_cons_succ, List.setIfInBounds_toArray, List.set_cons_zero, List.set_cons_succ]
              refine wpAnyH_take (i := 5) (oi := _) (v := ?_) rfl (by kernel_rfl) (by kernel_rfl) (by kernel_rfl) (fun _ _ _ h => h) (Or.inl ⟨by rfl, ?_⟩) (by assumption) ?_
              rotate_left
              · intro w hSw; (try dsimp only at hSw); go_simp; all_goals with_reducible rfl
              try simp only [Act.put, List.getElem_toArray, List.getElem_cons_zero, List.getElem_cons_succ, List.setIfInBounds_toArray, List.set_cons_zero, List.set_cons_succ]
              refine wpAnyH_take (i := 6) (oi := _) (v := ?_) rfl (by kernel_rfl) (by kernel_rfl) (by kernel_rfl) (fun _ _ _ h => h) (Or.inl ⟨by rfl, ?_⟩) (by assumption) ?_
              rotate_left
              · intro w hSw; (try dsimp only at hSw); go_simp; all_goals with_reducible rfl
              try simp only [Act.put, List.getElem_toArray, List.getElem_cons_zero, List.getElem_cons_succ, List.setIfInBounds_toArray, List.set_cons_zero, List.set_cons_succ]
              refine wpAnyH_take (i := 7) (oi := _) (v := ?_) rfl (by kernel_rfl) (by kernel_rfl) (by kernel_rfl) (fun _ _ _ h => h) (Or.inl ⟨by rfl, ?_⟩) (by assumption) ?_
              rotate_left
              · intro w hSw; (try dsimp only at hSw); go_simp; all_goals with_reducible rfl
              try simp only [Act.put, List.getElem_toArray, List.getElem_cons_zero, List.getElem_cons_succ, List.setIfInBounds_toArray, List.set_cons_zero, List.set_cons_succ]
              refine wpAnyH_take (i := 8) (oi := _) (v := ?_) rfl (by kernel_rfl) (by kernel_rfl) (by kernel_rfl) (fun _ _ _ h => h) (Or.inl ⟨by rfl, ?_⟩) (by assumption) ?_
              rotate_left
              · intro w hSw; (try dsimp only at hSw); go_simp; all_goals with_reducible rfl
              try simp only [Act.put, List.getElem_toArray, List.getElem_cons_zero, List.getElem_cons_succ, List.setIfInBounds_toArray, List.set_cons_zero, List.set_cons_succ]
              refine wpAnyH_ready (rs := [9]) (by kernel_rfl) (by simp) ?_
              refine AllReadyH.cons (o := _) rfl (fun K hK => ?_) AllReadyH.nil
              go_simp
              go_at_call 26
              refine (HKP.out _ (by exact bel_eq12 (Below.refl _ w10) rfl rfl rfl rfl)).mono ?_
              rintro r x5 ⟨A5, c5, y5, rfl, hA5, hr5, ho5, hy5, hbx5⟩
              have hy5l : y5.length ≤ 1000 := by
                have h3 := congrArg List.length hy5
                rw [len_ros] at h3
                have h4 := K_len (g := fateN ⟨al, aa, els, reps, cats, per, cm, da⟩ false) (f := attrsF ⟨al, aa, els, reps, cats, per, cm, da⟩ false) HWP4.out (e)
                have h5 := HLT.out
                rw [HS3.out] at h5
                omega
              have HX5 := Lib.hid hbx5
              have HO5 := Lib.hid ho5
              have HY5 := Lib.hid hy5
              have HR5 := Lib.hid hr5
              have HA5 := Lib.hid hA5
              have hs5 := hbx5.size
              clear hbx5 ho5 hy5 hr5 hA5
              go_wp2_with fail
              refine hK.out _ _ ?_ (fun hHeld => ?_)
              · exact HKS.out _ (bel_eq12 HX5.out rfl rfl rfl rfl)
              clear hK K
              try simp only [Act.put, List.getElem_toArray, List.getElem_cons_zero, List.getElem_cons_succ, List.setIfInBounds_toArray, List.set_cons_zero, List.set_cons_succ]
              refine wpAnyH_ready (rs := [10]) (by kernel_rfl) (by simp) ?_
              refine AllReadyH.cons (o := _) rfl (fun K hK => ?_) AllReadyH.nil
              refine step_app_rows x5 (by rfl) (.tmp 100) (.tmp 109) (by rfl) (w.heap.size + 1) (u) (acc) y5 A5 c5 (HO_.out x5 HX5.out) HA5.out HR5.out (HO5.out).2 (by omega) (by first | omega | (simp; omega)) (by simp [Act.eval, Act.put]) (by simp [Act.eval, Act.put]) ?_
              intro v6 w6 ho6 hg6
              have hs6 := hg6.size
              have hnc6 : (u).ownBlock ≠ some w.heap.size := od_ne (HO_.out x5 HX5.out) (.inl (by omega))
              have HN6 := Lib.hid (fun wx (hb' : Below w6.heap.size w6 wx) => (nw_grown (HN_.out x5 HX5.out) (HO_.out x5 HX5.out) hg6).below hb')
              have HC6 := Lib.hid (fun wx (hb' : Below w6.heap.size w6 wx) => show Co.Bx wx w.heap.size ⟨al, aa, els, reps, cats, per, cm, da⟩ vE vR vA vP from range_keep (HC_.out x5 HX5.out) fun o => World.cell?_of_block (a := ⟨w.heap.size, o, none⟩) ((hb'.block w.heap.size (by omega)).trans (hg6.block w.heap.size (by omega) (fun e => hnc6 e.symm))))
              have HB6 := Lib.hid (fun wx (hb' : Below w6.heap.size w6 wx) => show Below w.heap.size w wx from (below_own (HB_.out x5 HX5.out) (HO_.out x5 HX5.out) hg6 (by omega) (by omega)).trans (hb'.mono (by omega)))
              have HO6 := Lib.hid (fun wx (hb' : Below w6.heap.size w6 wx) => ho6.below hb')
              have HS6 := Lib.hid (fun wx (hb' : Below w6.heap.size w6 wx) => show (wx.cell? ⟨kb, ko + j, none⟩ = some (.int .i64 (p : Int)) ∧ wx.cell? ⟨w.heap.size, 0, none⟩ = some (.bool al) ∧ wx.cell? ⟨w.heap.size, 1, none⟩ = some (.bool aa) ∧ wx.cell? ⟨w.heap.size, 2, none⟩ = some (vE) ∧ wx.cell? ⟨w.heap.size, 3, none⟩ = some (vR) ∧ wx.cell? ⟨w.heap.size, 4, none⟩ = some (vA) ∧ wx.cell? ⟨w.heap.size, 5, none⟩ = some (vP) ∧ wx.cell? ⟨w.heap.size, 6, none⟩ = some (.bool cm) ∧ wx.cell? ⟨w.heap.size, 7, none⟩ = some (.bool da)) from by
                obtain ⟨a0, a1, a2, a3, a4, a5, a6, a7⟩ := (HC6.out wx hb').at_
                exact ⟨nw_cell (HN6.out wx hb') hp HKSJ.out, a0, a1, a2, a3, a4, a5, a6, a7⟩)
              clear hg6 ho6 hnc6
              refine hK.out _ _ ?_ (fun hHeld => ?_)
              · exact HS6.out _ (bel_eq12 (Below.refl _ w6) rfl rfl rfl rfl)
              clear hK K
              try simp only [Act.put, List.getElem_toArray, List.getElem_cons_zero, List.getElem_cons_succ, List.setIfInBounds_toArray, List.set_cons_zero, List.set_cons_succ]
              refine wpAnyH_take (i := 11) (oi := _) (v := ?_) rfl (by kernel_rfl) (by kernel_rfl) (by kernel_rfl) (fun _ _ _ h => h) (Or.inl ⟨by rfl, ?_⟩) (by assumption) ?_
              rotate_left
              · intro w hSw; (try dsimp only at hSw); go_simp; all_goals with_reducible rfl
              try simp only [Act.put, List.getElem_toArray, List.getElem_cons_zero, List.getElem_cons_succ, List.setIfInBounds_toArray, List.set_cons_zero, List.set_cons_succ]
              refine wpAnyH_done (by kernel_rfl) ?_ _
              refine NoPanic.normal ?_
              have hw6 : w1.heap.size ≤ w6.heap.size := by omega
              go_wp2
              go_roundw
              case rel => exact ⟨j + 1, m + 1 + more (dep (ros l) i + 1) r0, _, acc ++ y5, by go_num, rfl, by omega, HKN.out, HWN.out, HRN.out _ (by rw [ros_append, HY5.out, HONE.out]), HO6.out w6 (Below.refl _ _), HN6.out w6 (Below.refl _ _), HC6.out w6 (Below.refl _ _), HB6.out w6 (Below.refl _ _), hw6⟩
              case measure => simp [intOf]; omega
        | true =>
          cases nv with
          | true =>
            have HONE : Hid (one (fateN ⟨al, aa, els, reps, cats, per, cm, da⟩ true) (attrsF ⟨al, aa, els, reps, cats, per, cm, da⟩ true) e ⟨xd, 0, nm, dt, ats⟩ (r0.take (more (dep (ros l) i + 1) r0)) = []) := Lib.hid (by
              have h : fateN ⟨al, aa, els, reps, cats, per, cm, da⟩ true ⟨xd, 0, nm, dt, ats⟩ = 1 := by
                rw [fate_el ⟨al, aa, els, reps, cats, per, cm, da⟩ true (x := ⟨xd, 0, nm, dt, ats⟩) rfl]
                show (if (true && neverB nm) = true then 1 else elementN ⟨al, aa, els, reps, cats, per, cm, da⟩ nm) = 1
                rw [HNV.out]
                rfl
              unfold one
              rw [if_pos h])
            go_wp2_with fail
            refine wp_region_noPanic ?_
            refine wp_region_held_drew (S := fun wx => (wx.cell? ⟨wr.heap.size, 1, none⟩ = some (.int .i64 0) ∧ wx.cell? ⟨wr.heap.size, 2, none⟩ = some (.string nm))) (by kernel_rfl) ?_ (fun hHeld => ?_)
            · exact HSF.out _ (bel_eq12 (Below.refl _ wB) rfl rfl rfl rfl)
            refine wpAnyH_take (i := 0) (oi := _) (v := ?_) rfl (by kernel_rfl) (by kernel_rfl) (by kernel_rfl) (fun _ _ _ h => h) (Or.inl ⟨by rfl, ?_⟩) (by assumption) ?_
            rotate_left
            · intro w hSw; (try dsimp only at hSw); go_simp; all_goals with_reducible rfl
            try simp only [Act.put, List.getElem_toArray, List.getElem_cons_zero, List.getElem_cons_succ, List.setIfInBounds_toArray, List.set_cons_zero, List.set_cons_succ]
            refine wpAnyH_take (i := 1) (oi := _) (v := ?_) rfl (by kernel_rfl) (by kernel_rfl) (by kernel_rfl) (fun _ _ _ h => h) (Or.inl ⟨by rfl, ?_⟩) (by assumption) ?_
            rotate_left
            · intro w hSw; (try dsimp only at hSw); go_simp; all_goals with_reducible rfl
            try simp only [Act.put, List.getElem_toArray, List.getElem_cons_zero, List.getElem_cons_succ, List.setIfInBounds_toArray, List.set_cons_zero, List.set_cons_succ]
            refine wpAnyH_take (i := 2) (oi := _) (v := ?_) rfl (by kernel_rfl) (by kernel_rfl) (by kernel_rfl) (fun _ _ _ h => h) (Or.inl ⟨by rfl, ?_⟩) (by assumption) ?_
            rotate_left
            · intro w hSw; (try dsimp only at hSw); go_simp; all_goals with_reducible rfl
            try simp only [Act.put, List.getElem_toArray, List.getElem_cons_zero, List.getElem_cons_succ, List.setIfInBounds_toArray, List.set_cons_zero, List.set_cons_succ]
            refine wpAnyH_take (i := 3) (oi := _) (v := ?_) rfl (by kernel_rfl) (by kernel_rfl) (by kernel_rfl) (fun _ _ _ h => h) (Or.inl ⟨by rfl, ?_⟩) (by assumption) ?_
            rotate_left
            · intro w hSw; (try dsimp only at hSw); go_simp; all_goals with_reducible rfl
            try simp only [Act.put, List.getElem_toArray, List.getElem_cons_zero, List.getElem_cons_succ, List.setIfInBounds_toArray, List.set_cons_zero, List.set_cons_succ]
            refine wpAnyH_take (i := 4) (oi := _) (v := ?_) rfl (by kernel_rfl) (by kernel_rfl) (by kernel_rfl) (fun _ _ _ h => h) (Or.inl ⟨by rfl, ?_⟩) (by assumption) ?_
            rotate_left
            · intro w hSw; (try dsimp only at hSw); go_simp; all_goals with_reducible rfl
            try simp only [Act.put, List.getElem_toArray, List.getElem_cons_zero, List.getElem_cons_succ, List.setIfInBounds_toArray, List.set_cons_zero, List.set_cons_succ]
            refine wpAnyH_take (i := 5) (oi := _) (v := ?_) rfl (by kernel_rfl) (by kernel_rfl) (by kernel_rfl) (fun _ _ _ h => h) (Or.inl ⟨by rfl, ?_⟩) (by assumption) ?_
            rotate_left
            · intro w hSw; (try dsimp only at hSw); go_simp; all_goals with_reducible rfl
            try simp only [Act.put, List.getElem_toArray, List.getElem_cons_zero, List.getElem_cons_succ, List.setIfInBounds_toArray, List.set_cons_zero, List.set_cons_succ]
            refine wpAnyH_take (i := 7) (oi := _) (v := ?_) rfl (by kernel_rfl) (by kernel_rfl) (by kernel_rfl) (fun _ _ _ h => h) (Or.inl ⟨by rfl, ?_⟩) (by assumption) ?_
            rotate_left
            · intro w hSw; (try dsimp only at hSw); go_simp; all_goals with_reducible rfl
            try simp only [Act.put, List.getElem_toArray, List.getElem_cons_zero, List.getElem_cons_succ, List.setIfInBounds_toArray, List.set_cons_zero, List.set_cons_succ]
            refine wpAnyH_take (i := 8) (oi := _) (v := ?_) rfl (by kernel_rfl) (by kernel_rfl) (by kernel_rfl) (fun _ _ _ h => h) (Or.inl ⟨by rfl, ?_⟩) (by assumption) ?_
            rotate_left
            · intro w hSw; (try dsimp only at hSw); go_simp; all_goals with_reducible rfl
            try simp only [Act.put, List.getElem_toArray, List.getElem_cons_zero, List.getElem_cons_succ, List.setIfInBounds_toArray, List.set_cons_zero, List.set_cons_succ]
            refine wpAnyH_ready (rs := [6]) (by kernel_rfl) (by simp) ?_
            refine AllReadyH.cons (o := _) rfl (fun K hK => ?_) AllReadyH.nil
            go_simp
            go_at_call 39
            refine (Co.unsafe12 _).mono ?_
            rintro r x1 ⟨v5, rfl, hv5, hbx⟩
            have HBE := Lib.hid (show Below wB.heap.size wB x1 from (bel_eq12 (Below.refl _ wB) rfl rfl rfl rfl : Below wB.heap.size wB wB.drew).trans hbx)
            have HV5 := Lib.hid (Fo.sv_own hv5)
            clear hbx hv5
            go_wp2_with fail
            refine hK.out _ _ ?_ (fun hHeld => ?_)
            · exact HSF.out _ (bel_eq12 HBE.out rfl rfl rfl rfl)
            clear hK K
            try simp only [Act.put, List.getElem_toArray, List.getElem_cons_zero, List.getElem_cons_succ, List.setIfInBounds_toArray, List.set_cons_zero, List.set_cons_succ]
            refine wpAnyH_ready (rs := [9]) (by kernel_rfl) (by simp) ?_
            refine AllReadyH.cons (o := _) rfl (fun K hK => ?_) AllReadyH.nil
            go_simp
            go_at_call 61
            refine (Co.has1 _ _ unsafeL nm _ true HV5.out (by decide) HNV.out).mono ?_
            rintro r x3 ⟨rfl, rfl⟩
            go_wp2_with fail
            refine hK.out _ _ ?_ (fun hHeld => ?_)
            · exact HSF.out _ (bel_eq12 HBE.out rfl rfl rfl rfl)
            clear hK K
            try simp only [Act.put, List.getElem_toArray, List.getElem_cons_zero, List.getElem_cons_succ, List.setIfInBounds_toArray, List.set_cons_zero, List.set_cons_succ]
            refine wpAnyH_take (i := 10) (oi := _) (v := ?_) rfl (by kernel_rfl) (by kernel_rfl) (by kernel_rfl) (fun _ _ _ h => h) (Or.inl ⟨by rfl, ?_⟩) (by assumption) ?_
            rotate_left
            · intro w hSw; (try dsimp only at hSw); go_simp; all_goals with_reducible rfl
            try simp only [Act.put, List.getElem_toArray, List.getElem_cons_zero, List.getElem_cons_succ, List.setIfInBounds_toArray, List.set_cons_zero, List.set_cons_succ]
            refine wpAnyH_take (i := 11) (oi := _) (v := ?_) rfl (by kernel_rfl) (by kernel_rfl) (by kernel_rfl) (fun _ _ _ h => h) (Or.inl ⟨by rfl, ?_⟩) (by assumption) ?_
            rotate_left
            · intro w hSw; (try dsimp only at hSw); go_simp; all_goals with_reducible rfl
            try simp only [Act.put, List.getElem_toArray, List.getElem_cons_zero, List.getElem_cons_succ, List.setIfInBounds_toArray, List.set_cons_zero, List.set_cons_succ]
            refine wpAnyH_done (by kernel_rfl) ?_ _
            refine NoPanic.normal ?_
            have hw10 : w1.heap.size ≤ x1.heap.size := Nat.le_trans hsB2 HBE.out.size
            go_wp2
            go_roundw
            case rel => exact ⟨j + 1, m + 1 + more (dep (ros l) i + 1) r0, _, acc, by go_num, rfl, by omega, HKN.out, HWN.out, HRN.out _ (by rw [HONE.out, List.append_nil]), HOF.out x1 HBE.out, HNF.out x1 HBE.out, HCF.out x1 HBE.out, HBF.out x1 HBE.out, hw10⟩
            case measure => simp [intOf]; omega
          | false =>
            go_wp2_with fail
            refine wp_region_noPanic ?_
            refine wp_region_held_drew (S := fun wx => (wx.cell? ⟨wr.heap.size, 1, none⟩ = some (.int .i64 0) ∧ wx.cell? ⟨wr.heap.size, 2, none⟩ = some (.string nm))) (by kernel_rfl) ?_ (fun hHeld => ?_)
            · exact HSF.out _ (bel_eq12 (Below.refl _ wB) rfl rfl rfl rfl)
            refine wpAnyH_take (i := 0) (oi := _) (v := ?_) rfl (by kernel_rfl) (by kernel_rfl) (by kernel_rfl) (fun _ _ _ h => h) (Or.inl ⟨by rfl, ?_⟩) (by assumption) ?_
            rotate_left
            · intro w hSw; (try dsimp only at hSw); go_simp; all_goals with_reducible rfl
            try simp only [Act.put, List.getElem_toArray, List.getElem_cons_zero, List.getElem_cons_succ, List.setIfInBounds_toArray, List.set_cons_zero, List.set_cons_succ]
            refine wpAnyH_take (i := 1) (oi := _) (v := ?_) rfl (by kernel_rfl) (by kernel_rfl) (by kernel_rfl) (fun _ _ _ h => h) (Or.inl ⟨by rfl, ?_⟩) (by assumption) ?_
            rotate_left
            · intro w hSw; (try dsimp only at hSw); go_simp; all_goals with_reducible rfl
            try simp only [Act.put, List.getElem_toArray, List.getElem_cons_zero, List.getElem_cons_succ, List.setIfInBounds_toArray, List.set_cons_zero, List.set_cons_succ]
            refine wpAnyH_take (i := 2) (oi := _) (v := ?_) rfl (by kernel_rfl) (by kernel_rfl) (by kernel_rfl) (fun _ _ _ h => h) (Or.inl ⟨by rfl, ?_⟩) (by assumption) ?_
            rotate_left
            · intro w hSw; (try dsimp only at hSw); go_simp; all_goals with_reducible rfl
            try simp only [Act.put, List.getElem_toArray, List.getElem_cons_zero, List.getElem_cons_succ, List.setIfInBounds_toArray, List.set_cons_zero, List.set_cons_succ]
            refine wpAnyH_take (i := 3) (oi := _) (v := ?_) rfl (by kernel_rfl) (by kernel_rfl) (by kernel_rfl) (fun _ _ _ h => h) (Or.inl ⟨by rfl, ?_⟩) (by assumption) ?_
            rotate_left
            · intro w hSw; (try dsimp only at hSw); go_simp; all_goals with_reducible rfl
            try simp only [Act.put, List.getElem_toArray, List.getElem_cons_zero, List.getElem_cons_succ, List.setIfInBounds_toArray, List.set_cons_zero, List.set_cons_succ]
            refine wpAnyH_take (i := 4) (oi := _) (v := ?_) rfl (by kernel_rfl) (by kernel_rfl) (by kernel_rfl) (fun _ _ _ h => h) (Or.inl ⟨by rfl, ?_⟩) (by assumption) ?_
            rotate_left
            · intro w hSw; (try dsimp only at hSw); go_simp; all_goals with_reducible rfl
            try simp only [Act.put, List.getElem_toArray, List.getElem_cons_zero, List.getElem_cons_succ, List.setIfInBounds_toArray, List.set_cons_zero, List.set_cons_succ]
            refine wpAnyH_take (i := 5) (oi := _) (v := ?_) rfl (by kernel_rfl) (by kernel_rfl) (by kernel_rfl) (fun _ _ _ h => h) (Or.inl ⟨by rfl, ?_⟩) (by assumption) ?_
            rotate_left
            · intro w hSw; (try dsimp only at hSw); go_simp; all_goals with_reducible rfl
            try simp only [Act.put, List.getElem_toArray, List.getElem_cons_zero, List.getElem_cons_succ, List.setIfInBounds_toArray, List.set_cons_zero, List.set_cons_succ]
            refine wpAnyH_take (i := 7) (oi := _) (v := ?_) rfl (by kernel_rfl) (by kernel_rfl) (by kernel_rfl) (fun _ _ _ h => h) (Or.inl ⟨by rfl, ?_⟩) (by assumption) ?_
            rotate_left
            · intro w hSw; (try dsimp only at hSw); go_simp; all_goals with_reducible rfl
            try simp only [Act.put, List.getElem_toArray, List.getElem_cons_zero, List.getElem_cons_succ, List.setIfInBounds_toArray, List.set_cons_zero, List.set_cons_succ]
            refine wpAnyH_take (i := 8) (oi := _) (v := ?_) rfl (by kernel_rfl) (by kernel_rfl) (by kernel_rfl) (fun _ _ _ h => h) (Or.inl ⟨by rfl, ?_⟩) (by assumption) ?_
            rotate_left
            · intro w hSw; (try dsimp only at hSw); go_simp; all_goals with_reducible rfl
            try simp only [Act.put, List.getElem_toArray, List.getElem_cons_zero, List.getElem_cons_succ, List.setIfInBounds_toArray, List.set_cons_zero, List.set_cons_succ]
            refine wpAnyH_ready (rs := [6]) (by kernel_rfl) (by simp) ?_
            refine AllReadyH.cons (o := _) rfl (fun K hK => ?_) AllReadyH.nil
            go_simp
            go_at_call 39
            refine (Co.unsafe12 _).mono ?_
            rintro r x1 ⟨v5, rfl, hv5, hbx⟩
            have HBE := Lib.hid (show Below wB.heap.size wB x1 from (bel_eq12 (Below.refl _ wB) rfl rfl rfl rfl : Below wB.heap.size wB wB.drew).trans hbx)
            have HV5 := Lib.hid (Fo.sv_own hv5)
            clear hbx hv5
            go_wp2_with fail
            refine hK.out _ _ ?_ (fun hHeld => ?_)
            · exact HSF.out _ (bel_eq12 HBE.out rfl rfl rfl rfl)
            clear hK K
            try simp only [Act.put, List.getElem_toArray, List.getElem_cons_zero, List.getElem_cons_succ, List.setIfInBounds_toArray, List.set_cons_zero, List.set_cons_succ]
            refine wpAnyH_ready (rs := [9]) (by kernel_rfl) (by simp) ?_
            refine AllReadyH.cons (o := _) rfl (fun K hK => ?_) AllReadyH.nil
            go_simp
            go_at_call 61
            refine (Co.has1 _ _ unsafeL nm _ false HV5.out (by decide) HNV.out).mono ?_
            rintro r x3 ⟨rfl, rfl⟩
            go_wp2_with fail
            refine hK.out _ _ ?_ (fun hHeld => ?_)
            · exact HSF.out _ (bel_eq12 HBE.out rfl rfl rfl rfl)
            clear hK K
            try simp only [Act.put, List.getElem_toArray, List.getElem_cons_zero, List.getElem_cons_succ, List.setIfInBounds_toArray, List.set_cons_zero, List.set_cons_succ]
            refine wpAnyH_take (i := 10) (oi := _) (v := ?_) rfl (by kernel_rfl) (by kernel_rfl) (by kernel_rfl) (fun _ _ _ h => h) (Or.inl ⟨by rfl, ?_⟩) (by assumption) ?_
            rotate_left
            · intro w hSw; (try dsimp only at hSw); go_simp; all_goals with_reducible rfl
            try simp only [Act.put, List.getElem_toArray, List.getElem_cons_zero, List.getElem_cons_succ, List.setIfInBounds_toArray, List.set_cons_zero, List.set_cons_succ]
            refine wpAnyH_take (i := 11) (oi := _) (v := ?_) rfl (by kernel_rfl) (by kernel_rfl) (by kernel_rfl) (fun _ _ _ h => h) (Or.inl ⟨by rfl, ?_⟩) (by assumption) ?_
            rotate_left
            · intro w hSw; (try dsimp only at hSw); go_simp; all_goals with_reducible rfl
            try simp only [Act.put, List.getElem_toArray, List.getElem_cons_zero, List.getElem_cons_succ, List.setIfInBounds_toArray, List.set_cons_zero, List.set_cons_succ]
            refine wpAnyH_done (by kernel_rfl) ?_ _
            refine NoPanic.normal ?_
            have hgf : ∀ q, elementN ⟨al, aa, els, reps, cats, per, cm, da⟩ nm = q → fateN ⟨al, aa, els, reps, cats, per, cm, da⟩ true ⟨xd, 0, nm, dt, ats⟩ = q := fun q h => by
              rw [fate_el ⟨al, aa, els, reps, cats, per, cm, da⟩ true (x := ⟨xd, 0, nm, dt, ats⟩) rfl]
              show (if (true && neverB nm) = true then 1 else elementN ⟨al, aa, els, reps, cats, per, cm, da⟩ nm) = q
              rw [HNV.out]
              exact h
            obtain ⟨q, hq⟩ : ∃ q, elementN ⟨al, aa, els, reps, cats, per, cm, da⟩ nm = q := ⟨_, rfl⟩
            have hq2 : q ≤ 2 := hq ▸ Co.el_few _ _
            have HEL := Lib.hid (Co.refElement1 (confV ⟨al, aa, els, reps, cats, per, cm, da⟩ vE vR vA vP) ⟨al, aa, els, reps, cats, per, cm, da⟩ nm x1 q (HCV.out _ HBE.out) HSM.out hq)
            have HGF := Lib.hid (hgf q hq)
            have t2 := (HSF.out _ HBE.out).2
            clear hgf hq
            by_cases hq0 : q = 0
            · subst hq0
              have HONE : Hid (one (fateN ⟨al, aa, els, reps, cats, per, cm, da⟩ true) (attrsF ⟨al, aa, els, reps, cats, per, cm, da⟩ true) e ⟨xd, 0, nm, dt, ats⟩ (r0.take (more (dep (ros l) i + 1) r0)) = ⟨e, 0, nm, dt, attrsF ⟨al, aa, els, reps, cats, per, cm, da⟩ true ⟨xd, 0, nm, dt, ats⟩⟩ :: K (fateN ⟨al, aa, els, reps, cats, per, cm, da⟩ true) (attrsF ⟨al, aa, els, reps, cats, per, cm, da⟩ true) (e + 1) (r0.take (more (dep (ros l) i + 1) r0))) := Lib.hid (by
                have := HGF.out
                unfold one
                rw [if_neg (by omega), if_pos this])
              go_upto_region 14 with (first
                | (show wpList _ _ _ (⟨_, Op.load 26 (.tmp 8), _, _, _, _⟩ :: _) _ _; refine wpList_load_mid rfl 26 (.tmp 8) rfl w.heap.size 0 rfl _ _ (HCF.out _ HBE.out) Try.underlying26 rfl Co.size_conf ?_)
                | (show wpList _ _ _ (⟨_, Op.load 26 (.tmp 8), _, _, _, _⟩ :: _) _ _; refine wpList_load_mid rfl 26 (.tmp 8) rfl w.heap.size 0 rfl _ _ (HCF.out _ HB10.out) Try.underlying26 rfl Co.size_conf ?_)
                | (show wpList _ _ _ (⟨_, Op.load 36 (.tmp 14), _, _, _, _⟩ :: _) _ _; refine wpList_load_mid rfl 36 (.tmp 14) rfl wr.heap.size 0 rfl _ _ (HRF.out _ HB10.out) Try.underlying36 rfl size_row ?_)
                | (go_at_call 62; refine HEL.out.mono ?_; rintro r w10 ⟨rfl, hb10⟩; have HB10 := Lib.hid (HBE.out.trans (hb10.mono HBE.out.size)); clear hb10; have t3 := (HSF.out w10 HB10.out).2)
                | (go_at_call 13; refine (refAttrs_any ⟨⟨xd, 0, nm, dt, ats⟩, A, cc⟩ (confV ⟨al, aa, els, reps, cats, per, cm, da⟩ vE vR vA vP) ⟨al, aa, els, reps, cats, per, cm, da⟩ true w10 ((HXA.out.below (HBF.out _ HB10.out)).more (HBF.out _ HB10.out).size) ⟨hz1', hz2', HZ3.out⟩ (HCV.out _ HB10.out) HSM.out HFX.out).mono ?_; rintro r w11 ⟨v11, rfl, haw, hb11⟩; obtain ⟨A11, c11, rfl⟩ := haw.form; have HB11 := Lib.hid (HB10.out.trans (hb11.mono HB10.out.size)); have HAW := Lib.hid haw; have y4 := (HYF.out w11 HB11.out).cell 4 _ rfl; have z4 := (HYF.out w11 HB11.out).f 4; have hs11 := hb11.size; clear haw hb11)
                | fail)
              obtain ⟨w12, hw12⟩ : ∃ w12, w11.setCell ⟨wr.heap.size + 1, 4, none⟩ (.slice A11 (attrsF ⟨al, aa, els, reps, cats, per, cm, da⟩ true ⟨xd, 0, nm, dt, ats⟩).length c11) = w12 := ⟨_, rfl⟩
              rw [hw12]
              have hs10 := HB10.out.size
              have hb12 : Below wr.heap.size wr w12 := hw12 ▸ (HBB.out.trans (HB11.out.mono HBB.out.size)).setCell (show wr.heap.size ≤ wr.heap.size + 1 by omega) _
              have hv12 : Hv 36 w12 (wr.heap.size + 1) #[.int .i64 e, .int .i64 0, .string nm, .string dt, .slice A11 (attrsF ⟨al, aa, els, reps, cats, per, cm, da⟩ true ⟨xd, 0, nm, dt, ats⟩).length c11] := hw12 ▸ (HYF.out w11 HB11.out).set 4 _
              have hf12 : Fr (w.heap.size + 1) w12 ⟨⟨e, 0, nm, dt, attrsF ⟨al, aa, els, reps, cats, per, cm, da⟩ true ⟨xd, 0, nm, dt, ats⟩⟩, A11, c11⟩ := hw12 ▸ ⟨World.ownsRow.mono (Co.row_elder HAW.out.1 (Co.gcell12 w11 (wr.heap.size + 1) 4 _) (fun q hq => by injection hq with hq; omega)) (by omega), HAW.out.2⟩
              have hs12 := hb12.size
              have HRY := Lib.hid (rr_one (y := ⟨⟨e, 0, nm, dt, attrsF ⟨al, aa, els, reps, cats, per, cm, da⟩ true ⟨xd, 0, nm, dt, ats⟩⟩, A11, c11⟩) hv12 hf12.att)
              have HFY := Lib.hid hf12; have HB12 := Lib.hid hb12
              have HO12 := Lib.hid (HOD.out.below hb12)
              clear t2 t3 y4 z4 hw12 hb12 hv12 hf12
              go_upto_region 15 with (first | (at_builtin; refine app_rowsD w12 rfl (.tmp 83) (.tmp 84) rfl (w.heap.size + 1) u acc [⟨⟨e, 0, nm, dt, attrsF ⟨al, aa, els, reps, cats, per, cm, da⟩ true ⟨xd, 0, nm, dt, ats⟩⟩, A11, c11⟩] (some ⟨wr.heap.size + 1, 0, none⟩) 1 rfl HO12.out rfl (fun e => by cases e) HRY.out (fun y hy => by rw [List.mem_singleton.1 hy]; exact HFY.out) (by simp; omega) (by omega) ?_; intro v14 w14 ho14 hg14) | fail)
              have hs14 := hg14.size
              have hnc : u.ownBlock ≠ some w.heap.size := od_ne HOD.out (.inl (by omega))
              have HO_ := Lib.hid (fun wx (hb' : Below w14.heap.size w14 wx) => ho14.below hb')
              have HN_ := Lib.hid (fun wx (hb' : Below w14.heap.size w14 wx) => (nw_grown (HNW2.out.below HB12.out) HO12.out hg14).below hb')
              have HB_ := Lib.hid (fun wx (hb' : Below w14.heap.size w14 wx) => show Below w.heap.size w wx from (below_own (HBL.out.trans (HB12.out.mono HBL.out.size)) HO12.out hg14 (by omega) (by omega)).trans (hb'.mono (by omega)))
              have HC_ := Lib.hid (fun wx (hb' : Below w14.heap.size w14 wx) => show Co.Bx wx w.heap.size ⟨al, aa, els, reps, cats, per, cm, da⟩ vE vR vA vP from range_keep (HBX.out.below HB12.out (by omega)) fun o => World.cell?_of_block (a := ⟨w.heap.size, o, none⟩) ((hb'.block w.heap.size (by omega)).trans (hg14.block w.heap.size (by omega) (fun e => hnc e.symm))))
              clear ho14 hg14 hnc
              have HKS := Lib.hid (fun wx (hb' : Below w14.heap.size w14 wx) => show (wx.cell? ⟨kb, ko + j, none⟩ = some (.int .i64 (p : Int)) ∧ wx.cell? ⟨w.heap.size, 0, none⟩ = some (.bool al) ∧ wx.cell? ⟨w.heap.size, 1, none⟩ = some (.bool aa) ∧ wx.cell? ⟨w.heap.size, 2, none⟩ = some (vE) ∧ wx.cell? ⟨w.heap.size, 3, none⟩ = some (vR) ∧ wx.cell? ⟨w.heap.size, 4, none⟩ = some (vA) ∧ wx.cell? ⟨w.heap.size, 5, none⟩ = some (vP) ∧ wx.cell? ⟨w.heap.size, 6, none⟩ = some (.bool cm) ∧ wx.cell? ⟨w.heap.size, 7, none⟩ = some (.bool da)) from by
                obtain ⟨a0, a1, a2, a3, a4, a5, a6, a7⟩ := (HC_.out wx hb').at_
                exact ⟨nw_cell (HN_.out wx hb') hp HKSJ.out, a0, a1, a2, a3, a4, a5, a6, a7⟩)
              have HKP := Lib.hid (fun wx (hb' : Below w14.heap.size w14 wx) => (HIH.out p (e + 1) wx HLT.out (by omega) (by omega) (by omega) (by omega) (rr_on HRL.out (HB_.out wx hb')) ⟨_, _, _, _, _, rfl, HCP.out.on (HB_.out wx hb')⟩).mono fun r w' ⟨V, y, e1, e2, e3, e4⟩ => (show ∃ A5 c5 y, r = Ending.returned (.slice A5 (List.length y) c5) ∧ (A5 = none → c5 = 0) ∧ Rr w' w'.heap.size A5 y ∧ Od (w.heap.size + 1) w' (.slice A5 (List.length y) c5) y ∧ ros y = K (fateN ⟨al, aa, els, reps, cats, per, cm, da⟩ true) (attrsF ⟨al, aa, els, reps, cats, per, cm, da⟩ true) (e + 1) (r0.take (more (dep (ros l) i + 1) r0)) ∧ Below w14.heap.size w14 w' from by
                obtain ⟨A5, c5, e6, _, _, e7, e8⟩ := e2.ow.form
                subst e6
                exact ⟨A5, c5, y, e1, e7, e8, e2.mono (by have := hb'.size; omega), by rw [e3, HS3.out], hb'.trans (e4.mono hb'.size)⟩))
              have hV : v14 = v14 := rfl
              go_wp2_with fail
              refine wp_region_noPanic ?_
              refine wp_region_held_drew (S := fun wx => (wx.cell? ⟨kb, ko + j, none⟩ = some (.int .i64 (p : Int)) ∧ wx.cell? ⟨w.heap.size, 0, none⟩ = some (.bool al) ∧ wx.cell? ⟨w.heap.size, 1, none⟩ = some (.bool aa) ∧ wx.cell? ⟨w.heap.size, 2, none⟩ = some (vE) ∧ wx.cell? ⟨w.heap.size, 3, none⟩ = some (vR) ∧ wx.cell? ⟨w.heap.size, 4, none⟩ = some (vA) ∧ wx.cell? ⟨w.heap.size, 5, none⟩ = some (vP) ∧ wx.cell? ⟨w.heap.size, 6, none⟩ = some (.bool cm) ∧ wx.cell? ⟨w.heap.size, 7, none⟩ = some (.bool da))) (by kernel_rfl) ?_ (fun hHeld => ?_)
              · exact HKS.out _ (bel_eq12 (Below.refl _ w14) rfl rfl rfl rfl)
              refine wpAnyH_take (i := 0) (oi := _) (v := ?_) rfl (by kernel_rfl) (by kernel_rfl) (by kernel_rfl) (fun _ _ _ h => h) (Or.inl ⟨by rfl, ?_⟩) (by assumption) ?_
              rotate_left
              · intro w hSw; (try dsimp only at hSw); go_simp; all_goals with_reducible rfl
              try simp only [Act.put, List.getElem_toArray, List.getElem_cons_zero, List.getElem_cons_succ, List.setIfInBounds_toArray, List.set_cons_zero, List.set_cons_succ]
              refine wpAnyH_take (i := 1) (oi := _) (v := ?_) rfl (by kernel_rfl) (by kernel_rfl) (by kernel_rfl) (fun _ _ _ h => h) (Or.inl ⟨by rfl, ?_⟩) (by assumption) ?_
              rotate_left
              · intro w hSw; (try dsimp only at hSw); go_simp; all_goals with_reducible rfl
              try simp only [Act.put, List.getElem_toArray, List.getElem_cons_zero, List.getElem_cons_succ, List.setIfInBounds_toArray, List.set_cons_zero, List.set_cons_succ]
              refine wpAnyH_take (i := 2) (oi := _) (v := ?_) rfl (by kernel_rfl) (by kernel_rfl) (by kernel_rfl) (fun _ _ _ h => h) (Or.inl ⟨by rfl, ?_⟩) (by assumption) ?_
              rotate_left
              · intro w hSw; (try dsimp only at hSw); go_simp; all_goals with_reducible rfl
              try simp only [Act.put, List.getElem_toArray, List.getElem_cons_zero, List.getElem_cons_succ, List.setIfInBounds_toArray, List.set_cons_zero, List.set_cons_succ]
              refine wpAnyH_take (i := 3) (oi := _) (v := ?_) rfl (by kernel_rfl) (by kernel_rfl) (by kernel_rfl) (fun _ _ _ h => h) (Or.inl ⟨by rfl, ?_⟩) (by assumption) ?_
              rotate_left
              · intro w hSw; (try dsimp only at hSw); go_simp; all_goals with_reducible rfl
              try simp only [Act.put, List.getElem_toArray, List.getElem_cons_zero, List.getElem_cons_succ, List.setIfInBounds_toArray, List.set_cons_zero, List.set_cons_succ]
              refine wpAnyH_take (i := 4) (oi := _) (v := ?_) rfl (by kernel_rfl) (by kernel_rfl) (by kernel_rfl) (fun _ _ _ h => h) (Or.inl ⟨by rfl, ?_⟩) (by assumption) ?_
              rotate_left
              · intro w hSw; (try dsimp only at hSw); go_simp; all_goals with_reducible rfl
              try simp only [Act.put, List.getElem_toArray, List.getElem_cons_zero, List.getElem_cons_succ, List.setIfInBounds_toArray, List.set_cons_zero, List.set_cons_succ]
              refine wpAnyH_take (i := 5) (oi := _) (v := ?_) rfl (by kernel_rfl) (by kernel_rfl) (by kernel_rfl) (fun _ _ _ h => h) (Or.inl ⟨by rfl, ?_⟩) (by assumption) ?_
              rotate_left
              · intro w hSw; (try dsimp only at hSw); go_simp; all_goals with_reducible rfl
              try simp only [Act.put, List.getElem_toArray, List.getElem_cons_zero, List.getElem_cons_succ, List.setIfInBounds_toArray, List.set_cons_zero, List.set_cons_succ]
              refine wpAnyH_take (i := 6) (oi := _) (v := ?_) rfl (by kernel_rfl) (by kernel_rfl) (by kernel_rfl) (fun _ _ _ h => h) (Or.inl ⟨by rfl, ?_⟩) (by assumption) ?_
              rotate_left
              · intro w hSw; (try dsimp only at hSw); go_simp; all_goals with_reducible rfl
              try simp only [Act.put, List.getElem_toArray, List.getElem_cons_zero, List.getElem_cons_succ, List.setIfInBounds_toArray, List.set_cons_zero, List.set_cons_succ]
              refine wpAnyH_take (i := 7) (oi := _) (v := ?_) rfl (by kernel_rfl) (by kernel_rfl) (by kernel_rfl) (fun _ _ _ h => h) (Or.inl ⟨by rfl, ?_⟩) (by assumption) ?_
              rotate_left
              · intro w hSw; (try dsimp only at hSw); go_simp; rw [show IntKind.i64.wrap (e + 1) = e + 1 from by rw [IntKind.wrap_i64]; omega]; all_goals with_reducible rfl
              try simp only [Act.put, List.getElem_toArray, List.getElem_cons_zero, List.getElem_cons_succ, List.setIfInBounds_toArray, List.set_cons_zero, List.set_cons_succ]
              refine wpAnyH_take (i := 8) (oi := _) (v := ?_) rfl (by kernel_rfl) (by kernel_rfl) (by kernel_rfl) (fun _ _ _ h => h) (Or.inl ⟨by rfl, ?_⟩) (by assumption) ?_
              rotate_left
              · intro w hSw; (try dsimp only at hSw); go_simp; all_goals with_reducible rfl
              try simp only [Act.put, List.getElem_toArray, List.getElem_cons_zero, List.getElem_cons_succ, List.setIfInBounds_toArray, List.set_cons_zero, List.set_cons_succ]
              refine wpAnyH_take (i := 9) (oi := _) (v := ?_) rfl (by kernel_rfl) (by kernel_rfl) (by kernel_rfl) (fun _ _ _ h => h) (Or.inl ⟨by rfl, ?_⟩) (by assumption) ?_
              rotate_left
              · intro w hSw; (try dsimp only at hSw); go_simp; all_goals with_reducible rfl
              try simp only [Act.put, List.getElem_toArray, List.getElem_cons_zero, List.getElem_cons_succ, List.setIfInBounds_toArray, List.set_cons_zero, List.set_cons_succ]
              refine wpAnyH_ready (rs := [10]) (by kernel_rfl) (by simp) ?_
              refine AllReadyH.cons (o := _) rfl (fun K hK => ?_) AllReadyH.nil
              go_simp
              go_at_call 26
              refine (HKP.out _ (by exact bel_eq12 (Below.refl _ w14) rfl rfl rfl rfl)).mono ?_
              rintro r x5 ⟨A5, c5, y5, rfl, hA5, hr5, ho5, hy5, hbx5⟩
              have hy5l : y5.length ≤ 1000 := by
                have h3 := congrArg List.length hy5
                rw [len_ros] at h3
                have h4 := K_len (g := fateN ⟨al, aa, els, reps, cats, per, cm, da⟩ true) (f := attrsF ⟨al, aa, els, reps, cats, per, cm, da⟩ true) HWP4.out (e + 1)
                have h5 := HLT.out
                rw [HS3.out] at h5
                omega
              have HX5 := Lib.hid hbx5
              have HO5 := Lib.hid ho5
              have HY5 := Lib.hid hy5
              have HR5 := Lib.hid hr5
              have HA5 := Lib.hid hA5
              have hs5 := hbx5.size
              clear hbx5 ho5 hy5 hr5 hA5
              go_wp2_with fail
              refine hK.out _ _ ?_ (fun hHeld => ?_)
              · exact HKS.out _ (bel_eq12 HX5.out rfl rfl rfl rfl)
              clear hK K
              try simp only [Act.put, List.getElem_toArray, List.getElem_cons_zero, List.getElem_cons_succ, List.setIfInBounds_toArray, List.set_cons_zero, List.set_cons_succ]
              refine wpAnyH_ready (rs := [11]) (by kernel_rfl) (by simp) ?_
              refine AllReadyH.cons (o := _) rfl (fun K hK => ?_) AllReadyH.nil
              refine step_app_rows x5 (by rfl) (.tmp 86) (.tmp 96) (by rfl) (w.heap.size + 1) (v14) (acc ++ [⟨⟨e, 0, nm, dt, attrsF ⟨al, aa, els, reps, cats, per, cm, da⟩ true ⟨xd, 0, nm, dt, ats⟩⟩, A11, c11⟩]) y5 A5 c5 (HO_.out x5 HX5.out) HA5.out HR5.out (HO5.out).2 (by omega) (by first | omega | (simp; omega)) (by simp [Act.eval, Act.put]) (by simp [Act.eval, Act.put]) ?_
              intro v6 w6 ho6 hg6
              have hs6 := hg6.size
              have hnc6 : (v14).ownBlock ≠ some w.heap.size := od_ne (HO_.out x5 HX5.out) (.inl (by omega))
              have HN6 := Lib.hid (fun wx (hb' : Below w6.heap.size w6 wx) => (nw_grown (HN_.out x5 HX5.out) (HO_.out x5 HX5.out) hg6).below hb')
              have HC6 := Lib.hid (fun wx (hb' : Below w6.heap.size w6 wx) => show Co.Bx wx w.heap.size ⟨al, aa, els, reps, cats, per, cm, da⟩ vE vR vA vP from range_keep (HC_.out x5 HX5.out) fun o => World.cell?_of_block (a := ⟨w.heap.size, o, none⟩) ((hb'.block w.heap.size (by omega)).trans (hg6.block w.heap.size (by omega) (fun e => hnc6 e.symm))))
              have HB6 := Lib.hid (fun wx (hb' : Below w6.heap.size w6 wx) => show Below w.heap.size w wx from (below_own (HB_.out x5 HX5.out) (HO_.out x5 HX5.out) hg6 (by omega) (by omega)).trans (hb'.mono (by omega)))
              have HO6 := Lib.hid (fun wx (hb' : Below w6.heap.size w6 wx) => ho6.below hb')
              have HS6 := Lib.hid (fun wx (hb' : Below w6.heap.size w6 wx) => show (wx.cell? ⟨kb, ko + j, none⟩ = some (.int .i64 (p : Int)) ∧ wx.cell? ⟨w.heap.size, 0, none⟩ = some (.bool al) ∧ wx.cell? ⟨w.heap.size, 1, none⟩ = some (.bool aa) ∧ wx.cell? ⟨w.heap.size, 2, none⟩ = some (vE) ∧ wx.cell? ⟨w.heap.size, 3, none⟩ = some (vR) ∧ wx.cell? ⟨w.heap.size, 4, none⟩ = some (vA) ∧ wx.cell? ⟨w.heap.size, 5, none⟩ = some (vP) ∧ wx.cell? ⟨w.heap.size, 6, none⟩ = some (.bool cm) ∧ wx.cell? ⟨w.heap.size, 7, none⟩ = some (.bool da)) from by
                obtain ⟨a0, a1, a2, a3, a4, a5, a6, a7⟩ := (HC6.out wx hb').at_
                exact ⟨nw_cell (HN6.out wx hb') hp HKSJ.out, a0, a1, a2, a3, a4, a5, a6, a7⟩)
              clear hg6 ho6 hnc6
              refine hK.out _ _ ?_ (fun hHeld => ?_)
              · exact HS6.out _ (bel_eq12 (Below.refl _ w6) rfl rfl rfl rfl)
              clear hK K
              try simp only [Act.put, List.getElem_toArray, List.getElem_cons_zero, List.getElem_cons_succ, List.setIfInBounds_toArray, List.set_cons_zero, List.set_cons_succ]
              refine wpAnyH_take (i := 12) (oi := _) (v := ?_) rfl (by kernel_rfl) (by kernel_rfl) (by kernel_rfl) (fun _ _ _ h => h) (Or.inl ⟨by rfl, ?_⟩) (by assumption) ?_
              rotate_left
              · intro w hSw; (try dsimp only at hSw); go_simp; all_goals with_reducible rfl
              try simp only [Act.put, List.getElem_toArray, List.getElem_cons_zero, List.getElem_cons_succ, List.setIfInBounds_toArray, List.set_cons_zero, List.set_cons_succ]
              refine wpAnyH_done (by kernel_rfl) ?_ _
              refine NoPanic.normal ?_
              have hw6 : w1.heap.size ≤ w6.heap.size := by omega
              go_wp2
              go_roundw
              case rel => exact ⟨j + 1, m + 1 + more (dep (ros l) i + 1) r0, _, acc ++ [⟨⟨e, 0, nm, dt, attrsF ⟨al, aa, els, reps, cats, per, cm, da⟩ true ⟨xd, 0, nm, dt, ats⟩⟩, A11, c11⟩] ++ y5, by go_num, rfl, by omega, HKN.out, HWN.out, HRN.out _ (by rw [ros_append, ros_append, HY5.out, HONE.out, List.append_assoc]; rfl), HO6.out w6 (Below.refl _ _), HN6.out w6 (Below.refl _ _), HC6.out w6 (Below.refl _ _), HB6.out w6 (Below.refl _ _), hw6⟩
              case measure => simp [intOf]; omega
            · by_cases hq1 : q = 1
              · subst hq1
                have HONE : Hid (one (fateN ⟨al, aa, els, reps, cats, per, cm, da⟩ true) (attrsF ⟨al, aa, els, reps, cats, per, cm, da⟩ true) e ⟨xd, 0, nm, dt, ats⟩ (r0.take (more (dep (ros l) i + 1) r0)) = []) := Lib.hid (by
                  have := HGF.out
                  unfold one
                  rw [if_pos this])
                go_wp2_with (first | (show wpList _ _ _ (⟨_, Op.load 26 (.tmp 8), _, _, _, _⟩ :: _) _ _; refine wpList_load_mid rfl 26 (.tmp 8) rfl w.heap.size 0 rfl _ _ (HCF.out _ HBE.out) Try.underlying26 rfl Co.size_conf ?_) | (go_at_call 62; refine HEL.out.mono ?_; rintro r w10 ⟨rfl, hb10⟩; have HB10 := Lib.hid (HBE.out.trans (hb10.mono HBE.out.size)); clear hb10; have t3 := (HSF.out w10 HB10.out).2) | fail)
                have hw10 : w1.heap.size ≤ w10.heap.size := Nat.le_trans hsB2 HB10.out.size
                go_roundw
                case rel => exact ⟨j + 1, m + 1 + more (dep (ros l) i + 1) r0, _, acc, by go_num, rfl, by omega, HKN.out, HWN.out, HRN.out _ (by rw [HONE.out, List.append_nil]), HOF.out w10 HB10.out, HNF.out w10 HB10.out, HCF.out w10 HB10.out, HBF.out w10 HB10.out, hw10⟩
                case measure => simp [intOf]; omega
              · have hq3 : q = 2 := by omega
                subst hq3
                have HONE : Hid (one (fateN ⟨al, aa, els, reps, cats, per, cm, da⟩ true) (attrsF ⟨al, aa, els, reps, cats, per, cm, da⟩ true) e ⟨xd, 0, nm, dt, ats⟩ (r0.take (more (dep (ros l) i + 1) r0)) = K (fateN ⟨al, aa, els, reps, cats, per, cm, da⟩ true) (attrsF ⟨al, aa, els, reps, cats, per, cm, da⟩ true) e (r0.take (more (dep (ros l) i + 1) r0))) := Lib.hid (by
                  have := HGF.out
                  unfold one
                  rw [if_neg (by omega), if_neg (by omega)])
                go_upto_region 17 with (first | (show wpList _ _ _ (⟨_, Op.load 26 (.tmp 8), _, _, _, _⟩ :: _) _ _; refine wpList_load_mid rfl 26 (.tmp 8) rfl w.heap.size 0 rfl _ _ (HCF.out _ HBE.out) Try.underlying26 rfl Co.size_conf ?_) | (go_at_call 62; refine HEL.out.mono ?_; rintro r w10 ⟨rfl, hb10⟩; have HB10 := Lib.hid (HBE.out.trans (hb10.mono HBE.out.size)); clear hb10; have t3 := (HSF.out w10 HB10.out).2) | fail)
                have hs10 := HB10.out.size
                have HO_ := Lib.hid (fun wx (hb' : Below w10.heap.size w10 wx) => HOF.out wx (HB10.out.trans (hb'.mono hs10)))
                have HN_ := Lib.hid (fun wx (hb' : Below w10.heap.size w10 wx) => HNF.out wx (HB10.out.trans (hb'.mono hs10)))
                have HB_ := Lib.hid (fun wx (hb' : Below w10.heap.size w10 wx) => HBF.out wx (HB10.out.trans (hb'.mono hs10)))
                have HC_ := Lib.hid (fun wx (hb' : Below w10.heap.size w10 wx) => HCF.out wx (HB10.out.trans (hb'.mono hs10)))
                clear t2 t3
                have HKS := Lib.hid (fun wx (hb' : Below w10.heap.size w10 wx) => show (wx.cell? ⟨kb, ko + j, none⟩ = some (.int .i64 (p : Int)) ∧ wx.cell? ⟨w.heap.size, 0, none⟩ = some (.bool al) ∧ wx.cell? ⟨w.heap.size, 1, none⟩ = some (.bool aa) ∧ wx.cell? ⟨w.heap.size, 2, none⟩ = some (vE) ∧ wx.cell? ⟨w.heap.size, 3, none⟩ = some (vR) ∧ wx.cell? ⟨w.heap.size, 4, none⟩ = some (vA) ∧ wx.cell? ⟨w.heap.size, 5, none⟩ = some (vP) ∧ wx.cell? ⟨w.heap.size, 6, none⟩ = some (.bool cm) ∧ wx.cell? ⟨w.heap.size, 7, none⟩ = some (.bool da)) from by
                  obtain ⟨a0, a1, a2, a3, a4, a5, a6, a7⟩ := (HC_.out wx hb').at_
                  exact ⟨nw_cell (HN_.out wx hb') hp HKSJ.out, a0, a1, a2, a3, a4, a5, a6, a7⟩)
                have HKP := Lib.hid (fun wx (hb' : Below w10.heap.size w10 wx) => (HIH.out p (e) wx HLT.out (by omega) (by omega) (by omega) (by omega) (rr_on HRL.out (HB_.out wx hb')) ⟨_, _, _, _, _, rfl, HCP.out.on (HB_.out wx hb')⟩).mono fun r w' ⟨V, y, e1, e2, e3, e4⟩ => (show ∃ A5 c5 y, r = Ending.returned (.slice A5 (List.length y) c5) ∧ (A5 = none → c5 = 0) ∧ Rr w' w'.heap.size A5 y ∧ Od (w.heap.size + 1) w' (.slice A5 (List.length y) c5) y ∧ ros y = K (fateN ⟨al, aa, els, reps, cats, per, cm, da⟩ true) (attrsF ⟨al, aa, els, reps, cats, per, cm, da⟩ true) (e) (r0.take (more (dep (ros l) i + 1) r0)) ∧ Below w10.heap.size w10 w' from by
                  obtain ⟨A5, c5, e6, _, _, e7, e8⟩ := e2.ow.form
                  subst e6
                  exact ⟨A5, c5, y, e1, e7, e8, e2.mono (by have := hb'.size; omega), by rw [e3, HS3.out], hb'.trans (e4.mono hb'.size)⟩))
                have hV : u = u := rfl
                go_wp2_with fail
                refine wp_region_noPanic ?_
                refine wp_region_held_drew (S := fun wx => (wx.cell? ⟨kb, ko + j, none⟩ = some (.int .i64 (p : Int)) ∧ wx.cell? ⟨w.heap.size, 0, none⟩ = some (.bool al) ∧ wx.cell? ⟨w.heap.size, 1, none⟩ = some (.bool aa) ∧ wx.cell? ⟨w.heap.size, 2, none⟩ = some (vE) ∧ wx.cell? ⟨w.heap.size, 3, none⟩ = some (vR) ∧ wx.cell? ⟨w.heap.size, 4, none⟩ = some (vA) ∧ wx.cell? ⟨w.heap.size, 5, none⟩ = some (vP) ∧ wx.cell? ⟨w.heap.size, 6, none⟩ = some (.bool cm) ∧ wx.cell? ⟨w.heap.size, 7, none⟩ = some (.bool da))) (by kernel_rfl) ?_ (fun hHeld => ?_)
                · exact HKS.out _ (bel_eq12 (Below.refl _ w10) rfl rfl rfl rfl)
                refine wpAnyH_take (i := 0) (oi := _) (v := ?_) rfl (by kernel_rfl) (by kernel_rfl) (by kernel_rfl) (fun _ _ _ h => h) (Or.inl ⟨by rfl, ?_⟩) (by assumption) ?_
                rotate_left
                · intro w hSw; (try dsimp only at hSw); go_simp; all_goals with_reducible rfl
                try simp only [Act.put, List.getElem_toArray, List.getElem_cons_zero, List.getElem_cons_succ, List.setIfInBounds_toArray, List.set_cons_zero, List.set_cons_succ]
                refine wpAnyH_take (i := 1) (oi := _) (v := ?_) rfl (by kernel_rfl) (by kernel_rfl) (by kernel_rfl) (fun _ _ _ h => h) (Or.inl ⟨by rfl, ?_⟩) (by assumption) ?_
                rotate_left
                · intro w hSw; (try dsimp only at hSw); go_simp; all_goals with_reducible rfl
                try simp only [Act.put, List.getElem_toArray, List.getElem_cons_zero, List.getElem_cons_succ, List.setIfInBounds_toArray, List.set_cons_zero, List.set_cons_succ]
                refine wpAnyH_take (i := 2) (oi := _) (v := ?_) rfl (by kernel_rfl) (by kernel_rfl) (by kernel_rfl) (fun _ _ _ h => h) (Or.inl ⟨by rfl, ?_⟩) (by assumption) ?_
                rotate_left
                · intro w hSw; (try dsimp only at hSw); go_simp; all_goals with_reducible rfl
                try simp only [Act.put, List.getElem_toArray, List.getElem_cons_zero, List.getElem_cons_succ, List.setIfInBounds_toArray, List.set_cons_zero, List.set_cons_succ]
                refine wpAnyH_take (i := 3) (oi := _) (v := ?_) rfl (by kernel_rfl) (by kernel_rfl) (by kernel_rfl) (fun _ _ _ h => h) (Or.inl ⟨by rfl, ?_⟩) (by assumption) ?_
                rotate_left
                · intro w hSw; (try dsimp only at hSw); go_simp; all_goals with_reducible rfl
                try simp only [Act.put, List.getElem_toArray, List.getElem_cons_zero, List.getElem_cons_succ, List.setIfInBounds_toArray, List.set_cons_zero, List.set_cons_succ]
                refine wpAnyH_take (i := 4) (oi := _) (v := ?_) rfl (by kernel_rfl) (by kernel_rfl) (by kernel_rfl) (fun _ _ _ h => h) (Or.inl ⟨by rfl, ?_⟩) (by assumption) ?_
                rotate_left
                · intro w hSw; (try dsimp only at hSw); go_simp; all_goals with_reducible rfl
                try simp only [Act.put, List.getElem_toArray, List.getElem_cons_zero, List.getElem_cons_succ, List.setIfInBounds_toArray, List.set_cons_zero, List.set_cons_succ]
                refine wpAnyH_take (i := 5) (oi := _) (v := ?_) rfl (by kernel_rfl) (by kernel_rfl) (by kernel_rfl) (fun _ _ _ h => h) (Or.inl ⟨by rfl, ?_⟩) (by assumption) ?_
                rotate_left
                · intro w hSw; (try dsimp only at hSw); go_simp; all_goals with_reducible rfl
                try simp only [Act.put, List.getElem_toArray, List.getElem_cons_zero, List.getElem_cons_succ, List.setIfInBounds_toArray, List.set_cons_zero, List.set_cons_succ]
                refine wpAnyH_take (i := 6) (oi := _) (v := ?_) rfl (by kernel_rfl) (by kernel_rfl) (by kernel_rfl) (fun _ _ _ h => h) (Or.inl ⟨by rfl, ?_⟩) (by assumption) ?_
                rotate_left
                · intro w hSw; (try dsimp only at hSw); go_simp; all_goals with_reducible rfl
                try simp only [Act.put, List.getElem_toArray, List.getElem_cons_zero, List.getElem_cons_succ, List.setIfInBounds_toArray, List.set_cons_zero, List.set_cons_succ]
                refine wpAnyH_take (i := 7) (oi := _) (v := ?_) rfl (by kernel_rfl) (by kernel_rfl) (by kernel_rfl) (fun _ _ _ h => h) (Or.inl ⟨by rfl, ?_⟩) (by assumption) ?_
                rotate_left
                · intro w hSw; (try dsimp only at hSw); go_simp; all_goals with_reducible rfl
                try simp only [Act.put, List.getElem_toArray, List.getElem_cons_zero, List.getElem_cons_succ, List.setIfInBounds_toArray, List.set_cons_zero, List.set_cons_succ]
                refine wpAnyH_take (i := 8) (oi := _) (v := ?_) rfl (by kernel_rfl) (by kernel_rfl) (by kernel_rfl) (fun _ _ _ h => h) (Or.inl ⟨by rfl, ?_⟩) (by assumption) ?_
                rotate_left
                · intro w hSw; (try dsimp only at hSw); go_simp; all_goals with_reducible rfl
                try simp only [Act.put, List.getElem_toArray, List.getElem_cons_zero, List.getElem_cons_succ, List.setIfInBounds_toArray, List.set_cons_zero, List.set_cons_succ]
                refine wpAnyH_ready (rs := [9]) (by kernel_rfl) (by simp) ?_
                refine AllReadyH.cons (o := _) rfl (fun K hK => ?_) AllReadyH.nil
                go_simp
                go_at_call 26
                refine (HKP.out _ (by exact bel_eq12 (Below.refl _ w10) rfl rfl rfl rfl)).mono ?_
                rintro r x5 ⟨A5, c5, y5, rfl, hA5, hr5, ho5, hy5, hbx5⟩
                have hy5l : y5.length ≤ 1000 := by
                  have h3 := congrArg List.length hy5
                  rw [len_ros] at h3
                  have h4 := K_len (g := fateN ⟨al, aa, els, reps, cats, per, cm, da⟩ true) (f := attrsF ⟨al, aa, els, reps, cats, per, cm, da⟩ true) HWP4.out (e)
                  have h5 := HLT.out
                  rw [HS3.out] at h5
                  omega
                have HX5 := Lib.hid hbx5
                have HO5 := Lib.hid ho5
                have HY5 := Lib.hid hy5
                have HR5 := Lib.hid hr5
                have HA5 := Lib.hid hA5
                have hs5 := hbx5.size
                clear hbx5 ho5 hy5 hr5 hA5
                go_wp2_with fail
                refine hK.out _ _ ?_ (fun hHeld => ?_)
                · exact HKS.out _ (bel_eq12 HX5.out rfl rfl rfl rfl)
                clear hK K
                try simp only [Act.put, List.getElem_toArray, List.getElem_cons_zero, List.getElem_cons_succ, List.setIfInBounds_toArray, List.set_cons_zero, List.set_cons_succ]
                refine wpAnyH_ready (rs := [10]) (by kernel_rfl) (by simp) ?_
                refine AllReadyH.cons (o := _) rfl (fun K hK => ?_) AllReadyH.nil
                refine step_app_rows x5 (by rfl) (.tmp 100) (.tmp 109) (by rfl) (w.heap.size + 1) (u) (acc) y5 A5 c5 (HO_.out x5 HX5.out) HA5.out HR5.out (HO5.out).2 (by omega) (by first | omega | (simp; omega)) (by simp [Act.eval, Act.put]) (by simp [Act.eval, Act.put]) ?_
                intro v6 w6 ho6 hg6
                have hs6 := hg6.size
                have hnc6 : (u).ownBlock ≠ some w.heap.size := od_ne (HO_.out x5 HX5.out) (.inl (by omega))
                have HN6 := Lib.hid (fun wx (hb' : Below w6.heap.size w6 wx) => (nw_grown (HN_.out x5 HX5.out) (HO_.out x5 HX5.out) hg6).below hb')
                have HC6 := Lib.hid (fun wx (hb' : Below w6.heap.size w6 wx) => show Co.Bx wx w.heap.size ⟨al, aa, els, reps, cats, per, cm, da⟩ vE vR vA vP from range_keep (HC_.out x5 HX5.out) fun o => World.cell?_of_block (a := ⟨w.heap.size, o, none⟩) ((hb'.block w.heap.size (by omega)).trans (hg6.block w.heap.size (by omega) (fun e => hnc6 e.symm))))
                have HB6 := Lib.hid (fun wx (hb' : Below w6.heap.size w6 wx) => show Below w.heap.size w wx from (below_own (HB_.out x5 HX5.out) (HO_.out x5 HX5.out) hg6 (by omega) (by omega)).trans (hb'.mono (by omega)))
                have HO6 := Lib.hid (fun wx (hb' : Below w6.heap.size w6 wx) => ho6.below hb')
                have HS6 := Lib.hid (fun wx (hb' : Below w6.heap.size w6 wx) => show (wx.cell? ⟨kb, ko + j, none⟩ = some (.int .i64 (p : Int)) ∧ wx.cell? ⟨w.heap.size, 0, none⟩ = some (.bool al) ∧ wx.cell? ⟨w.heap.size, 1, none⟩ = some (.bool aa) ∧ wx.cell? ⟨w.heap.size, 2, none⟩ = some (vE) ∧ wx.cell? ⟨w.heap.size, 3, none⟩ = some (vR) ∧ wx.cell? ⟨w.heap.size, 4, none⟩ = some (vA) ∧ wx.cell? ⟨w.heap.size, 5, none⟩ = some (vP) ∧ wx.cell? ⟨w.heap.size, 6, none⟩ = some (.bool cm) ∧ wx.cell? ⟨w.heap.size, 7, none⟩ = some (.bool da)) from by
                  obtain ⟨a0, a1, a2, a3, a4, a5, a6, a7⟩ := (HC6.out wx hb').at_
                  exact ⟨nw_cell (HN6.out wx hb') hp HKSJ.out, a0, a1, a2, a3, a4, a5, a6, a7⟩)
                clear hg6 ho6 hnc6
                refine hK.out _ _ ?_ (fun hHeld => ?_)
                · exact HS6.out _ (bel_eq12 (Below.refl _ w6) rfl rfl rfl rfl)
                clear hK K
                try simp only [Act.put, List.getElem_toArray, List.getElem_cons_zero, List.getElem_cons_succ, List.setIfInBounds_toArray, List.set_cons_zero, List.set_cons_succ]
                refine wpAnyH_take (i := 11) (oi := _) (v := ?_) rfl (by kernel_rfl) (by kernel_rfl) (by kernel_rfl) (fun _ _ _ h => h) (Or.inl ⟨by rfl, ?_⟩) (by assumption) ?_
                rotate_left
                · intro w hSw; (try dsimp only at hSw); go_simp; all_goals with_reducible rfl
                try simp only [Act.put, List.getElem_toArray, List.getElem_cons_zero, List.getElem_cons_succ, List.setIfInBounds_toArray, List.set_cons_zero, List.set_cons_succ]
                refine wpAnyH_done (by kernel_rfl) ?_ _
                refine NoPanic.normal ?_
                have hw6 : w1.heap.size ≤ w6.heap.size := by omega
                go_wp2
                go_roundw
                case rel => exact ⟨j + 1, m + 1 + more (dep (ros l) i + 1) r0, _, acc ++ y5, by go_num, rfl, by omega, HKN.out, HWN.out, HRN.out _ (by rw [ros_append, HY5.out, HONE.out]), HO6.out w6 (Below.refl _ _), HN6.out w6 (Below.refl _ _), HC6.out w6 (Below.refl _ _), HB6.out w6 (Below.refl _ _), hw6⟩
                case measure => simp [intOf]; omega
      · have hk : kd = 1 := hk
        subst hk
        have HONE : Hid (one (fateN ⟨al, aa, els, reps, cats, per, cm, da⟩ s) (attrsF ⟨al, aa, els, reps, cats, per, cm, da⟩ s) e ⟨xd, 1, nm, dt, ats⟩ (r0.take (more (dep (ros l) i + 1) r0)) = [⟨e, 1, nm, dt, []⟩]) := Lib.hid (by
          obtain ⟨q1, q2⟩ := text_kept ⟨al, aa, els, reps, cats, per, cm, da⟩ s ⟨xd, 1, nm, dt, ats⟩ HOK.out rfl
          unfold one
          rw [if_neg (by omega), if_pos q1, q2, HW6.out (by decide)]
          rfl)
        go_upto_region 8 with (first | (refine wpList_load_mid rfl 36 (.tmp 32) rfl b (off + p * 5) rfl _ _ HXR.out Try.underlying36 rfl size_row ?_) | fail)
        obtain ⟨wB, hwB⟩ : ∃ wB, (wr.alloc (rowO ⟨⟨xd, 1, nm, dt, ats⟩, A, cc⟩)).alloc (.cells #[.int .i64 e, .int .i64 1, .string nm, .string dt, .slice none 0 0] 36) = wB := ⟨_, rfl⟩
        rw [hwB]
        have hbB : Below wr.heap.size wr wB := hwB ▸ below_two wr _ _
        have hvX : Hv 36 wB wr.heap.size #[.int .i64 xd, .int .i64 1, .string nm, .string dt, .slice A ats.length cc] := hwB ▸ (Hv.new _ _ _).on (below_new _ _)
        have hvY : Hv 36 wB (wr.heap.size + 1) #[.int .i64 e, .int .i64 1, .string nm, .string dt, .slice none 0 0] := by
          have := Hv.new 36 (wr.alloc (rowO ⟨⟨xd, 1, nm, dt, ats⟩, A, cc⟩)) #[.int .i64 e, .int .i64 1, .string nm, .string dt, .slice none 0 0]
          rw [World.size_alloc] at this
          rw [← hwB]
          exact this
        have hsB : wB.heap.size = wr.heap.size + 2 := by rw [← hwB]; simp
        have HRF := Lib.hid (fun wx (hb' : Below wB.heap.size wB wx) => show wx.rangeAt wr.heap.size 0 [.int .i64 xd, .int .i64 1, .string nm, .string dt, .slice A ats.length cc] from (hvX.on hb').range)
        have HCF := Lib.hid (fun wx (hb' : Below wB.heap.size wB wx) => show Co.Bx wx w.heap.size ⟨al, aa, els, reps, cats, per, cm, da⟩ vE vR vA vP from (HBX.out.below hbB (by omega)).below hb' (by omega))
        have HBF := Lib.hid (fun wx (hb' : Below wB.heap.size wB wx) => show Below w.heap.size w wx from (HBL.out.trans (hbB.mono HBL.out.size)).trans (hb'.mono (by omega)))
        have HCV := Lib.hid (fun wx (hb' : Below wB.heap.size wB wx) => show Cv wx wx.heap.size (confV ⟨al, aa, els, reps, cats, per, cm, da⟩ vE vR vA vP) ⟨al, aa, els, reps, cats, per, cm, da⟩ from ⟨_, _, _, _, _, rfl, HCP.out.on (HBF.out wx hb')⟩)
        have HYF := Lib.hid (fun wx (hb' : Below wB.heap.size wB wx) => hvY.on hb')
        have HOF := Lib.hid (fun wx (hb' : Below wB.heap.size wB wx) => (HOD.out.below hbB).below hb')
        have HNF := Lib.hid (fun wx (hb' : Below wB.heap.size wB wx) => ((HNW2.out.below hbB).below hb'))
        have HSF := Lib.hid (fun wx (hb' : Below wB.heap.size wB wx) => show (wx.cell? ⟨wr.heap.size, 1, none⟩ = some (.int .i64 1) ∧ wx.cell? ⟨wr.heap.size, 2, none⟩ = some (.string nm)) from ⟨(HRF.out wx hb') 1 _ rfl, (HRF.out wx hb') 2 _ rfl⟩)
        have HKF := Lib.hid (fun wx (hb' : Below wB.heap.size wB wx) => show wx.cell? ⟨kb, ko + j, none⟩ = some (.int .i64 (p : Int)) from (hb'.cell (p := ⟨kb, ko + j, none⟩) (show kb < wB.heap.size by omega)).trans ((hbB.cell (p := ⟨kb, ko + j, none⟩) (show kb < wr.heap.size by omega)).trans HKJ.out))
        have HSB := Lib.hid hsB
        have hsB1 : w.heap.size + 2 ≤ wB.heap.size := by omega
        have hsB3 : wr.heap.size + 2 ≤ wB.heap.size := by omega
        have hsB2 : w1.heap.size ≤ wB.heap.size := by omega
        have HBB := Lib.hid hbB
        clear hwB hbB hvX hvY hsB g0
        have HRY := Lib.hid (rr_one (y := ⟨⟨e, 1, nm, dt, []⟩, none, 0⟩) (HYF.out wB (Below.refl _ _)) (bare_fr (w.heap.size + 1) wB e 1 nm dt).att)
        have HFY := Lib.hid (bare_fr (w.heap.size + 1) wB e 1 nm dt)
        have HOB := Lib.hid (HOF.out wB (Below.refl _ _))
        obtain ⟨t1, t2⟩ := HSF.out wB (Below.refl _ _)
        have t6 := (HCF.out wB (Below.refl _ _)) 6 _ rfl
        go_upto_region 10 with (first | (at_builtin; refine app_rowsD wB rfl (.tmp 55) (.tmp 56) rfl (w.heap.size + 1) u acc [⟨⟨e, 1, nm, dt, []⟩, none, 0⟩] (some ⟨wr.heap.size + 1, 0, none⟩) 1 rfl HOB.out rfl (fun e => by cases e) HRY.out (fun y hy => by rw [List.mem_singleton.1 hy]; exact HFY.out) (by simp; omega) (by omega) ?_; intro v9 w9 ho9 hg9) | fail)
        have hs9 := hg9.size
        have hne : u.ownBlock ≠ some wr.heap.size := od_ne HOD.out (.inr (Nat.le_refl _))
        have hnc : u.ownBlock ≠ some w.heap.size := od_ne HOB.out (.inl (by omega))
        have HS9 := Lib.hid (fun wx (hb' : Below w9.heap.size w9 wx) => show (wx.cell? ⟨wr.heap.size, 1, none⟩ = some (.int .i64 1) ∧ wx.cell? ⟨wr.heap.size, 2, none⟩ = some (.string nm)) from by
          have h := (hb'.block wr.heap.size (by have := HSB.out; omega)).trans (hg9.block wr.heap.size (by have := HSB.out; omega) (fun e => hne e.symm))
          obtain ⟨a, b⟩ := HSF.out wB (Below.refl _ _)
          exact ⟨(World.cell?_of_block (a := ⟨wr.heap.size, 1, none⟩) h).trans a, (World.cell?_of_block (a := ⟨wr.heap.size, 2, none⟩) h).trans b⟩)
        have HO9 := Lib.hid (fun wx (hb' : Below w9.heap.size w9 wx) => ho9.below hb')
        have HN9 := Lib.hid (fun wx (hb' : Below w9.heap.size w9 wx) => ((nw_grown (HNF.out wB (Below.refl _ _)) HOB.out hg9).below hb'))
        have HB9 := Lib.hid (fun wx (hb' : Below w9.heap.size w9 wx) => show Below w.heap.size w wx from (below_own (HBF.out wB (Below.refl _ _)) HOB.out hg9 (by omega) (by omega)).trans (hb'.mono (by omega)))
        have HC9 := Lib.hid (fun wx (hb' : Below w9.heap.size w9 wx) => show Co.Bx wx w.heap.size ⟨al, aa, els, reps, cats, per, cm, da⟩ vE vR vA vP from range_keep (HCF.out wB (Below.refl _ _)) fun o => World.cell?_of_block (a := ⟨w.heap.size, o, none⟩) ((hb'.block w.heap.size (by omega)).trans (hg9.block w.heap.size (by omega) (fun e => hnc e.symm))))
        have hw9 : w1.heap.size ≤ w9.heap.size := by omega
        clear ho9 hg9 hne hnc t1 t2 t6
        go_wp2_with fail
        refine wp_region_noPanic ?_
        refine wp_region_held_drew (S := fun wx => (wx.cell? ⟨wr.heap.size, 1, none⟩ = some (.int .i64 1) ∧ wx.cell? ⟨wr.heap.size, 2, none⟩ = some (.string nm))) (by kernel_rfl) ?_ (fun hHeld => ?_)
        · exact HS9.out _ (bel_eq12 (Below.refl _ w9) rfl rfl rfl rfl)
        refine wpAnyH_take (i := 0) (oi := _) (v := ?_) rfl (by kernel_rfl) (by kernel_rfl) (by kernel_rfl) (fun _ _ _ h => h) (Or.inl ⟨by rfl, ?_⟩) (by assumption) ?_
        rotate_left
        · intro w hSw; (try dsimp only at hSw); go_simp; all_goals with_reducible rfl
        try simp only [Act.put, List.getElem_toArray, List.getElem_cons_zero, List.getElem_cons_succ, List.setIfInBounds_toArray, List.set_cons_zero, List.set_cons_succ]
        refine wpAnyH_take (i := 1) (oi := _) (v := ?_) rfl (by kernel_rfl) (by kernel_rfl) (by kernel_rfl) (fun _ _ _ h => h) (Or.inl ⟨by rfl, ?_⟩) (by assumption) ?_
        rotate_left
        · intro w hSw; (try dsimp only at hSw); go_simp; all_goals with_reducible rfl
        try simp only [Act.put, List.getElem_toArray, List.getElem_cons_zero, List.getElem_cons_succ, List.setIfInBounds_toArray, List.set_cons_zero, List.set_cons_succ]
        refine wpAnyH_take (i := 2) (oi := _) (v := ?_) rfl (by kernel_rfl) (by kernel_rfl) (by kernel_rfl) (fun _ _ _ h => h) (Or.inl ⟨by rfl, ?_⟩) (by assumption) ?_
        rotate_left
        · intro w hSw; (try dsimp only at hSw); go_simp; all_goals with_reducible rfl
        try simp only [Act.put, List.getElem_toArray, List.getElem_cons_zero, List.getElem_cons_succ, List.setIfInBounds_toArray, List.set_cons_zero, List.set_cons_succ]
        refine wpAnyH_take (i := 3) (oi := _) (v := ?_) rfl (by kernel_rfl) (by kernel_rfl) (by kernel_rfl) (fun _ _ _ h => h) (Or.inl ⟨by rfl, ?_⟩) (by assumption) ?_
        rotate_left
        · intro w hSw; (try dsimp only at hSw); go_simp; all_goals with_reducible rfl
        try simp only [Act.put, List.getElem_toArray, List.getElem_cons_zero, List.getElem_cons_succ, List.setIfInBounds_toArray, List.set_cons_zero, List.set_cons_succ]
        refine wpAnyH_take (i := 4) (oi := _) (v := undef) rfl (by kernel_rfl) (by kernel_rfl) (by kernel_rfl) (fun _ _ _ h => h) (Or.inr ⟨by rfl, rfl⟩) (by assumption) ?_
        try simp only [Act.put, List.getElem_toArray, List.getElem_cons_zero, List.getElem_cons_succ, List.setIfInBounds_toArray, List.set_cons_zero, List.set_cons_succ]
        refine wpAnyH_take (i := 5) (oi := _) (v := undef) rfl (by kernel_rfl) (by kernel_rfl) (by kernel_rfl) (fun _ _ _ h => h) (Or.inr ⟨by rfl, rfl⟩) (by assumption) ?_
        try simp only [Act.put, List.getElem_toArray, List.getElem_cons_zero, List.getElem_cons_succ, List.setIfInBounds_toArray, List.set_cons_zero, List.set_cons_succ]
        refine wpAnyH_take (i := 6) (oi := _) (v := undef) rfl (by kernel_rfl) (by kernel_rfl) (by kernel_rfl) (fun _ _ _ h => h) (Or.inr ⟨by rfl, rfl⟩) (by assumption) ?_
        try simp only [Act.put, List.getElem_toArray, List.getElem_cons_zero, List.getElem_cons_succ, List.setIfInBounds_toArray, List.set_cons_zero, List.set_cons_succ]
        refine wpAnyH_take (i := 7) (oi := _) (v := undef) rfl (by kernel_rfl) (by kernel_rfl) (by kernel_rfl) (fun _ _ _ h => h) (Or.inr ⟨by rfl, rfl⟩) (by assumption) ?_
        try simp only [Act.put, List.getElem_toArray, List.getElem_cons_zero, List.getElem_cons_succ, List.setIfInBounds_toArray, List.set_cons_zero, List.set_cons_succ]
        refine wpAnyH_take (i := 8) (oi := _) (v := undef) rfl (by kernel_rfl) (by kernel_rfl) (by kernel_rfl) (fun _ _ _ h => h) (Or.inr ⟨by rfl, rfl⟩) (by assumption) ?_
        try simp only [Act.put, List.getElem_toArray, List.getElem_cons_zero, List.getElem_cons_succ, List.setIfInBounds_toArray, List.set_cons_zero, List.set_cons_succ]
        refine wpAnyH_take (i := 9) (oi := _) (v := undef) rfl (by kernel_rfl) (by kernel_rfl) (by kernel_rfl) (fun _ _ _ h => h) (Or.inr ⟨by rfl, rfl⟩) (by assumption) ?_
        try simp only [Act.put, List.getElem_toArray, List.getElem_cons_zero, List.getElem_cons_succ, List.setIfInBounds_toArray, List.set_cons_zero, List.set_cons_succ]
        refine wpAnyH_take (i := 10) (oi := _) (v := undef) rfl (by kernel_rfl) (by kernel_rfl) (by kernel_rfl) (fun _ _ _ h => h) (Or.inr ⟨by rfl, rfl⟩) (by assumption) ?_
        try simp only [Act.put, List.getElem_toArray, List.getElem_cons_zero, List.getElem_cons_succ, List.setIfInBounds_toArray, List.set_cons_zero, List.set_cons_succ]
        refine wpAnyH_take (i := 11) (oi := _) (v := ?_) rfl (by kernel_rfl) (by kernel_rfl) (by kernel_rfl) (fun _ _ _ h => h) (Or.inl ⟨by rfl, ?_⟩) (by assumption) ?_
        rotate_left
        · intro w hSw; (try dsimp only at hSw); go_simp; all_goals with_reducible rfl
        try simp only [Act.put, List.getElem_toArray, List.getElem_cons_zero, List.getElem_cons_succ, List.setIfInBounds_toArray, List.set_cons_zero, List.set_cons_succ]
        refine wpAnyH_done (by kernel_rfl) ?_ _
        refine NoPanic.normal ?_
        go_wp2
        go_roundw
        case rel => exact ⟨j + 1, m + 1 + more (dep (ros l) i + 1) r0, _, acc ++ [⟨⟨e, 1, nm, dt, []⟩, none, 0⟩], by go_num, rfl, by omega, HKN.out, HWN.out, HRN.out _ (by rw [ros_append, HONE.out]; rfl), HO9.out w9.drew (bel_eq12 (Below.refl _ w9) rfl rfl rfl rfl), HN9.out w9.drew (bel_eq12 (Below.refl _ w9) rfl rfl rfl rfl), HC9.out w9.drew (bel_eq12 (Below.refl _ w9) rfl rfl rfl rfl), HB9.out w9.drew (bel_eq12 (Below.refl _ w9) rfl rfl rfl rfl), hw9⟩
        case measure => simp [intOf]; omega
      · have hk : kd = 2 := hk
        subst hk
        cases cm with
        | true =>
          have HONE : Hid (one (fateN ⟨al, aa, els, reps, cats, per, true, da⟩ s) (attrsF ⟨al, aa, els, reps, cats, per, true, da⟩ s) e ⟨xd, 2, nm, dt, ats⟩ (r0.take (more (dep (ros l) i + 1) r0)) = [⟨e, 2, nm, dt, []⟩]) := Lib.hid (by
            have q1 : fateN ⟨al, aa, els, reps, cats, per, true, da⟩ s ⟨xd, 2, nm, dt, ats⟩ = 0 := rfl
            have q2 : attrsF ⟨al, aa, els, reps, cats, per, true, da⟩ s ⟨xd, 2, nm, dt, ats⟩ = [] := by unfold attrsF; rw [no_attrs HOK.out (show (2 : Int) ≠ 0 by decide)]; rfl
            unfold one
            rw [if_neg (by omega), if_pos q1, q2, HW6.out (by decide)]
            rfl)
          go_upto_region 8 with (first | (refine wpList_load_mid rfl 36 (.tmp 32) rfl b (off + p * 5) rfl _ _ HXR.out Try.underlying36 rfl size_row ?_) | fail)
          obtain ⟨wB, hwB⟩ : ∃ wB, (wr.alloc (rowO ⟨⟨xd, 2, nm, dt, ats⟩, A, cc⟩)).alloc (.cells #[.int .i64 e, .int .i64 2, .string nm, .string dt, .slice none 0 0] 36) = wB := ⟨_, rfl⟩
          rw [hwB]
          have hbB : Below wr.heap.size wr wB := hwB ▸ below_two wr _ _
          have hvX : Hv 36 wB wr.heap.size #[.int .i64 xd, .int .i64 2, .string nm, .string dt, .slice A ats.length cc] := hwB ▸ (Hv.new _ _ _).on (below_new _ _)
          have hvY : Hv 36 wB (wr.heap.size + 1) #[.int .i64 e, .int .i64 2, .string nm, .string dt, .slice none 0 0] := by
            have := Hv.new 36 (wr.alloc (rowO ⟨⟨xd, 2, nm, dt, ats⟩, A, cc⟩)) #[.int .i64 e, .int .i64 2, .string nm, .string dt, .slice none 0 0]
            rw [World.size_alloc] at this
            rw [← hwB]
            exact this
          have hsB : wB.heap.size = wr.heap.size + 2 := by rw [← hwB]; simp
          have HRF := Lib.hid (fun wx (hb' : Below wB.heap.size wB wx) => show wx.rangeAt wr.heap.size 0 [.int .i64 xd, .int .i64 2, .string nm, .string dt, .slice A ats.length cc] from (hvX.on hb').range)
          have HCF := Lib.hid (fun wx (hb' : Below wB.heap.size wB wx) => show Co.Bx wx w.heap.size ⟨al, aa, els, reps, cats, per, true, da⟩ vE vR vA vP from (HBX.out.below hbB (by omega)).below hb' (by omega))
          have HBF := Lib.hid (fun wx (hb' : Below wB.heap.size wB wx) => show Below w.heap.size w wx from (HBL.out.trans (hbB.mono HBL.out.size)).trans (hb'.mono (by omega)))
          have HCV := Lib.hid (fun wx (hb' : Below wB.heap.size wB wx) => show Cv wx wx.heap.size (confV ⟨al, aa, els, reps, cats, per, true, da⟩ vE vR vA vP) ⟨al, aa, els, reps, cats, per, true, da⟩ from ⟨_, _, _, _, _, rfl, HCP.out.on (HBF.out wx hb')⟩)
          have HYF := Lib.hid (fun wx (hb' : Below wB.heap.size wB wx) => hvY.on hb')
          have HOF := Lib.hid (fun wx (hb' : Below wB.heap.size wB wx) => (HOD.out.below hbB).below hb')
          have HNF := Lib.hid (fun wx (hb' : Below wB.heap.size wB wx) => ((HNW2.out.below hbB).below hb'))
          have HSF := Lib.hid (fun wx (hb' : Below wB.heap.size wB wx) => show (wx.cell? ⟨wr.heap.size, 1, none⟩ = some (.int .i64 2) ∧ wx.cell? ⟨wr.heap.size, 2, none⟩ = some (.string nm)) from ⟨(HRF.out wx hb') 1 _ rfl, (HRF.out wx hb') 2 _ rfl⟩)
          have HKF := Lib.hid (fun wx (hb' : Below wB.heap.size wB wx) => show wx.cell? ⟨kb, ko + j, none⟩ = some (.int .i64 (p : Int)) from (hb'.cell (p := ⟨kb, ko + j, none⟩) (show kb < wB.heap.size by omega)).trans ((hbB.cell (p := ⟨kb, ko + j, none⟩) (show kb < wr.heap.size by omega)).trans HKJ.out))
          have HSB := Lib.hid hsB
          have hsB1 : w.heap.size + 2 ≤ wB.heap.size := by omega
          have hsB3 : wr.heap.size + 2 ≤ wB.heap.size := by omega
          have hsB2 : w1.heap.size ≤ wB.heap.size := by omega
          have HBB := Lib.hid hbB
          clear hwB hbB hvX hvY hsB g0
          have HRY := Lib.hid (rr_one (y := ⟨⟨e, 2, nm, dt, []⟩, none, 0⟩) (HYF.out wB (Below.refl _ _)) (bare_fr (w.heap.size + 1) wB e 2 nm dt).att)
          have HFY := Lib.hid (bare_fr (w.heap.size + 1) wB e 2 nm dt)
          have HOB := Lib.hid (HOF.out wB (Below.refl _ _))
          obtain ⟨t1, t2⟩ := HSF.out wB (Below.refl _ _)
          have t6 := (HCF.out wB (Below.refl _ _)) 6 _ rfl
          go_upto_region 10 with (first | (at_builtin; refine app_rowsD wB rfl (.tmp 55) (.tmp 56) rfl (w.heap.size + 1) u acc [⟨⟨e, 2, nm, dt, []⟩, none, 0⟩] (some ⟨wr.heap.size + 1, 0, none⟩) 1 rfl HOB.out rfl (fun e => by cases e) HRY.out (fun y hy => by rw [List.mem_singleton.1 hy]; exact HFY.out) (by simp; omega) (by omega) ?_; intro v9 w9 ho9 hg9) | fail)
          have hs9 := hg9.size
          have hne : u.ownBlock ≠ some wr.heap.size := od_ne HOD.out (.inr (Nat.le_refl _))
          have hnc : u.ownBlock ≠ some w.heap.size := od_ne HOB.out (.inl (by omega))
          have HS9 := Lib.hid (fun wx (hb' : Below w9.heap.size w9 wx) => show (wx.cell? ⟨wr.heap.size, 1, none⟩ = some (.int .i64 2) ∧ wx.cell? ⟨wr.heap.size, 2, none⟩ = some (.string nm)) from by
            have h := (hb'.block wr.heap.size (by have := HSB.out; omega)).trans (hg9.block wr.heap.size (by have := HSB.out; omega) (fun e => hne e.symm))
            obtain ⟨a, b⟩ := HSF.out wB (Below.refl _ _)
            exact ⟨(World.cell?_of_block (a := ⟨wr.heap.size, 1, none⟩) h).trans a, (World.cell?_of_block (a := ⟨wr.heap.size, 2, none⟩) h).trans b⟩)
          have HO9 := Lib.hid (fun wx (hb' : Below w9.heap.size w9 wx) => ho9.below hb')
          have HN9 := Lib.hid (fun wx (hb' : Below w9.heap.size w9 wx) => ((nw_grown (HNF.out wB (Below.refl _ _)) HOB.out hg9).below hb'))
          have HB9 := Lib.hid (fun wx (hb' : Below w9.heap.size w9 wx) => show Below w.heap.size w wx from (below_own (HBF.out wB (Below.refl _ _)) HOB.out hg9 (by omega) (by omega)).trans (hb'.mono (by omega)))
          have HC9 := Lib.hid (fun wx (hb' : Below w9.heap.size w9 wx) => show Co.Bx wx w.heap.size ⟨al, aa, els, reps, cats, per, true, da⟩ vE vR vA vP from range_keep (HCF.out wB (Below.refl _ _)) fun o => World.cell?_of_block (a := ⟨w.heap.size, o, none⟩) ((hb'.block w.heap.size (by omega)).trans (hg9.block w.heap.size (by omega) (fun e => hnc e.symm))))
          have hw9 : w1.heap.size ≤ w9.heap.size := by omega
          clear ho9 hg9 hne hnc t1 t2 t6
          go_wp2_with fail
          refine wp_region_noPanic ?_
          refine wp_region_held_drew (S := fun wx => (wx.cell? ⟨wr.heap.size, 1, none⟩ = some (.int .i64 2) ∧ wx.cell? ⟨wr.heap.size, 2, none⟩ = some (.string nm))) (by kernel_rfl) ?_ (fun hHeld => ?_)
          · exact HS9.out _ (bel_eq12 (Below.refl _ w9) rfl rfl rfl rfl)
          refine wpAnyH_take (i := 0) (oi := _) (v := ?_) rfl (by kernel_rfl) (by kernel_rfl) (by kernel_rfl) (fun _ _ _ h => h) (Or.inl ⟨by rfl, ?_⟩) (by assumption) ?_
          rotate_left
          · intro w hSw; (try dsimp only at hSw); go_simp; all_goals with_reducible rfl
          try simp only [Act.put, List.getElem_toArray, List.getElem_cons_zero, List.getElem_cons_succ, List.setIfInBounds_toArray, List.set_cons_zero, List.set_cons_succ]
          refine wpAnyH_take (i := 1) (oi := _) (v := ?_) rfl (by kernel_rfl) (by kernel_rfl) (by kernel_rfl) (fun _ _ _ h => h) (Or.inl ⟨by rfl, ?_⟩) (by assumption) ?_
          rotate_left
          · intro w hSw; (try dsimp only at hSw); go_simp; all_goals with_reducible rfl
          try simp only [Act.put, List.getElem_toArray, List.getElem_cons_zero, List.getElem_cons_succ, List.setIfInBounds_toArray, List.set_cons_zero, List.set_cons_succ]
          refine wpAnyH_take (i := 2) (oi := _) (v := ?_) rfl (by kernel_rfl) (by kernel_rfl) (by kernel_rfl) (fun _ _ _ h => h) (Or.inl ⟨by rfl, ?_⟩) (by assumption) ?_
          rotate_left
          · intro w hSw; (try dsimp only at hSw); go_simp; all_goals with_reducible rfl
          try simp only [Act.put, List.getElem_toArray, List.getElem_cons_zero, List.getElem_cons_succ, List.setIfInBounds_toArray, List.set_cons_zero, List.set_cons_succ]
          refine wpAnyH_take (i := 3) (oi := _) (v := ?_) rfl (by kernel_rfl) (by kernel_rfl) (by kernel_rfl) (fun _ _ _ h => h) (Or.inl ⟨by rfl, ?_⟩) (by assumption) ?_
          rotate_left
          · intro w hSw; (try dsimp only at hSw); go_simp; all_goals with_reducible rfl
          try simp only [Act.put, List.getElem_toArray, List.getElem_cons_zero, List.getElem_cons_succ, List.setIfInBounds_toArray, List.set_cons_zero, List.set_cons_succ]
          refine wpAnyH_take (i := 4) (oi := _) (v := undef) rfl (by kernel_rfl) (by kernel_rfl) (by kernel_rfl) (fun _ _ _ h => h) (Or.inr ⟨by rfl, rfl⟩) (by assumption) ?_
          try simp only [Act.put, List.getElem_toArray, List.getElem_cons_zero, List.getElem_cons_succ, List.setIfInBounds_toArray, List.set_cons_zero, List.set_cons_succ]
          refine wpAnyH_take (i := 5) (oi := _) (v := undef) rfl (by kernel_rfl) (by kernel_rfl) (by kernel_rfl) (fun _ _ _ h => h) (Or.inr ⟨by rfl, rfl⟩) (by assumption) ?_
          try simp only [Act.put, List.getElem_toArray, List.getElem_cons_zero, List.getElem_cons_succ, List.setIfInBounds_toArray, List.set_cons_zero, List.set_cons_succ]
          refine wpAnyH_take (i := 6) (oi := _) (v := undef) rfl (by kernel_rfl) (by kernel_rfl) (by kernel_rfl) (fun _ _ _ h => h) (Or.inr ⟨by rfl, rfl⟩) (by assumption) ?_
          try simp only [Act.put, List.getElem_toArray, List.getElem_cons_zero, List.getElem_cons_succ, List.setIfInBounds_toArray, List.set_cons_zero, List.set_cons_succ]
          refine wpAnyH_take (i := 7) (oi := _) (v := undef) rfl (by kernel_rfl) (by kernel_rfl) (by kernel_rfl) (fun _ _ _ h => h) (Or.inr ⟨by rfl, rfl⟩) (by assumption) ?_
          try simp only [Act.put, List.getElem_toArray, List.getElem_cons_zero, List.getElem_cons_succ, List.setIfInBounds_toArray, List.set_cons_zero, List.set_cons_succ]
          refine wpAnyH_take (i := 8) (oi := _) (v := undef) rfl (by kernel_rfl) (by kernel_rfl) (by kernel_rfl) (fun _ _ _ h => h) (Or.inr ⟨by rfl, rfl⟩) (by assumption) ?_
          try simp only [Act.put, List.getElem_toArray, List.getElem_cons_zero, List.getElem_cons_succ, List.setIfInBounds_toArray, List.set_cons_zero, List.set_cons_succ]
          refine wpAnyH_take (i := 9) (oi := _) (v := undef) rfl (by kernel_rfl) (by kernel_rfl) (by kernel_rfl) (fun _ _ _ h => h) (Or.inr ⟨by rfl, rfl⟩) (by assumption) ?_
          try simp only [Act.put, List.getElem_toArray, List.getElem_cons_zero, List.getElem_cons_succ, List.setIfInBounds_toArray, List.set_cons_zero, List.set_cons_succ]
          refine wpAnyH_take (i := 10) (oi := _) (v := undef) rfl (by kernel_rfl) (by kernel_rfl) (by kernel_rfl) (fun _ _ _ h => h) (Or.inr ⟨by rfl, rfl⟩) (by assumption) ?_
          try simp only [Act.put, List.getElem_toArray, List.getElem_cons_zero, List.getElem_cons_succ, List.setIfInBounds_toArray, List.set_cons_zero, List.set_cons_succ]
          refine wpAnyH_take (i := 11) (oi := _) (v := ?_) rfl (by kernel_rfl) (by kernel_rfl) (by kernel_rfl) (fun _ _ _ h => h) (Or.inl ⟨by rfl, ?_⟩) (by assumption) ?_
          rotate_left
          · intro w hSw; (try dsimp only at hSw); go_simp; all_goals with_reducible rfl
          try simp only [Act.put, List.getElem_toArray, List.getElem_cons_zero, List.getElem_cons_succ, List.setIfInBounds_toArray, List.set_cons_zero, List.set_cons_succ]
          refine wpAnyH_done (by kernel_rfl) ?_ _
          refine NoPanic.normal ?_
          go_wp2
          go_roundw
          case rel => exact ⟨j + 1, m + 1 + more (dep (ros l) i + 1) r0, _, acc ++ [⟨⟨e, 2, nm, dt, []⟩, none, 0⟩], by go_num, rfl, by omega, HKN.out, HWN.out, HRN.out _ (by rw [ros_append, HONE.out]; rfl), HO9.out w9.drew (bel_eq12 (Below.refl _ w9) rfl rfl rfl rfl), HN9.out w9.drew (bel_eq12 (Below.refl _ w9) rfl rfl rfl rfl), HC9.out w9.drew (bel_eq12 (Below.refl _ w9) rfl rfl rfl rfl), HB9.out w9.drew (bel_eq12 (Below.refl _ w9) rfl rfl rfl rfl), hw9⟩
          case measure => simp [intOf]; omega
        | false =>
          have HONE : Hid (one (fateN ⟨al, aa, els, reps, cats, per, false, da⟩ s) (attrsF ⟨al, aa, els, reps, cats, per, false, da⟩ s) e ⟨xd, 2, nm, dt, ats⟩ (r0.take (more (dep (ros l) i + 1) r0)) = []) := Lib.hid (by
            have q1 : fateN ⟨al, aa, els, reps, cats, per, false, da⟩ s ⟨xd, 2, nm, dt, ats⟩ = 1 := rfl
            unfold one
            rw [if_pos q1])
          go_upto_region 8 with (first | (refine wpList_load_mid rfl 36 (.tmp 32) rfl b (off + p * 5) rfl _ _ HXR.out Try.underlying36 rfl size_row ?_) | fail)
          obtain ⟨wB, hwB⟩ : ∃ wB, (wr.alloc (rowO ⟨⟨xd, 2, nm, dt, ats⟩, A, cc⟩)).alloc (.cells #[.int .i64 e, .int .i64 2, .string nm, .string dt, .slice none 0 0] 36) = wB := ⟨_, rfl⟩
          rw [hwB]
          have hbB : Below wr.heap.size wr wB := hwB ▸ below_two wr _ _
          have hvX : Hv 36 wB wr.heap.size #[.int .i64 xd, .int .i64 2, .string nm, .string dt, .slice A ats.length cc] := hwB ▸ (Hv.new _ _ _).on (below_new _ _)
          have hvY : Hv 36 wB (wr.heap.size + 1) #[.int .i64 e, .int .i64 2, .string nm, .string dt, .slice none 0 0] := by
            have := Hv.new 36 (wr.alloc (rowO ⟨⟨xd, 2, nm, dt, ats⟩, A, cc⟩)) #[.int .i64 e, .int .i64 2, .string nm, .string dt, .slice none 0 0]
            rw [World.size_alloc] at this
            rw [← hwB]
            exact this
          have hsB : wB.heap.size = wr.heap.size + 2 := by rw [← hwB]; simp
          have HRF := Lib.hid (fun wx (hb' : Below wB.heap.size wB wx) => show wx.rangeAt wr.heap.size 0 [.int .i64 xd, .int .i64 2, .string nm, .string dt, .slice A ats.length cc] from (hvX.on hb').range)
          have HCF := Lib.hid (fun wx (hb' : Below wB.heap.size wB wx) => show Co.Bx wx w.heap.size ⟨al, aa, els, reps, cats, per, false, da⟩ vE vR vA vP from (HBX.out.below hbB (by omega)).below hb' (by omega))
          have HBF := Lib.hid (fun wx (hb' : Below wB.heap.size wB wx) => show Below w.heap.size w wx from (HBL.out.trans (hbB.mono HBL.out.size)).trans (hb'.mono (by omega)))
          have HCV := Lib.hid (fun wx (hb' : Below wB.heap.size wB wx) => show Cv wx wx.heap.size (confV ⟨al, aa, els, reps, cats, per, false, da⟩ vE vR vA vP) ⟨al, aa, els, reps, cats, per, false, da⟩ from ⟨_, _, _, _, _, rfl, HCP.out.on (HBF.out wx hb')⟩)
          have HYF := Lib.hid (fun wx (hb' : Below wB.heap.size wB wx) => hvY.on hb')
          have HOF := Lib.hid (fun wx (hb' : Below wB.heap.size wB wx) => (HOD.out.below hbB).below hb')
          have HNF := Lib.hid (fun wx (hb' : Below wB.heap.size wB wx) => ((HNW2.out.below hbB).below hb'))
          have HSF := Lib.hid (fun wx (hb' : Below wB.heap.size wB wx) => show (wx.cell? ⟨wr.heap.size, 1, none⟩ = some (.int .i64 2) ∧ wx.cell? ⟨wr.heap.size, 2, none⟩ = some (.string nm)) from ⟨(HRF.out wx hb') 1 _ rfl, (HRF.out wx hb') 2 _ rfl⟩)
          have HKF := Lib.hid (fun wx (hb' : Below wB.heap.size wB wx) => show wx.cell? ⟨kb, ko + j, none⟩ = some (.int .i64 (p : Int)) from (hb'.cell (p := ⟨kb, ko + j, none⟩) (show kb < wB.heap.size by omega)).trans ((hbB.cell (p := ⟨kb, ko + j, none⟩) (show kb < wr.heap.size by omega)).trans HKJ.out))
          have HSB := Lib.hid hsB
          have hsB1 : w.heap.size + 2 ≤ wB.heap.size := by omega
          have hsB3 : wr.heap.size + 2 ≤ wB.heap.size := by omega
          have hsB2 : w1.heap.size ≤ wB.heap.size := by omega
          have HBB := Lib.hid hbB
          clear hwB hbB hvX hvY hsB g0
          obtain ⟨t1, t2⟩ := HSF.out wB (Below.refl _ _)
          have t6 := (HCF.out wB (Below.refl _ _)) 6 _ rfl
          go_upto_region 10 with (fail)
          clear t1 t2 t6
          go_wp2_with fail
          refine wp_region_noPanic ?_
          refine wp_region_held_drew (S := fun wx => (wx.cell? ⟨wr.heap.size, 1, none⟩ = some (.int .i64 2) ∧ wx.cell? ⟨wr.heap.size, 2, none⟩ = some (.string nm))) (by kernel_rfl) ?_ (fun hHeld => ?_)
          · exact HSF.out _ (bel_eq12 (Below.refl _ wB) rfl rfl rfl rfl)
          refine wpAnyH_take (i := 0) (oi := _) (v := ?_) rfl (by kernel_rfl) (by kernel_rfl) (by kernel_rfl) (fun _ _ _ h => h) (Or.inl ⟨by rfl, ?_⟩) (by assumption) ?_
          rotate_left
          · intro w hSw; (try dsimp only at hSw); go_simp; all_goals with_reducible rfl
          try simp only [Act.put, List.getElem_toArray, List.getElem_cons_zero, List.getElem_cons_succ, List.setIfInBounds_toArray, List.set_cons_zero, List.set_cons_succ]
          refine wpAnyH_take (i := 1) (oi := _) (v := ?_) rfl (by kernel_rfl) (by kernel_rfl) (by kernel_rfl) (fun _ _ _ h => h) (Or.inl ⟨by rfl, ?_⟩) (by assumption) ?_
          rotate_left
          · intro w hSw; (try dsimp only at hSw); go_simp; all_goals with_reducible rfl
          try simp only [Act.put, List.getElem_toArray, List.getElem_cons_zero, List.getElem_cons_succ, List.setIfInBounds_toArray, List.set_cons_zero, List.set_cons_succ]
          refine wpAnyH_take (i := 2) (oi := _) (v := ?_) rfl (by kernel_rfl) (by kernel_rfl) (by kernel_rfl) (fun _ _ _ h => h) (Or.inl ⟨by rfl, ?_⟩) (by assumption) ?_
          rotate_left
          · intro w hSw; (try dsimp only at hSw); go_simp; all_goals with_reducible rfl
          try simp only [Act.put, List.getElem_toArray, List.getElem_cons_zero, List.getElem_cons_succ, List.setIfInBounds_toArray, List.set_cons_zero, List.set_cons_succ]
          refine wpAnyH_take (i := 3) (oi := _) (v := ?_) rfl (by kernel_rfl) (by kernel_rfl) (by kernel_rfl) (fun _ _ _ h => h) (Or.inl ⟨by rfl, ?_⟩) (by assumption) ?_
          rotate_left
          · intro w hSw; (try dsimp only at hSw); go_simp; all_goals with_reducible rfl
          try simp only [Act.put, List.getElem_toArray, List.getElem_cons_zero, List.getElem_cons_succ, List.setIfInBounds_toArray, List.set_cons_zero, List.set_cons_succ]
          refine wpAnyH_take (i := 4) (oi := _) (v := undef) rfl (by kernel_rfl) (by kernel_rfl) (by kernel_rfl) (fun _ _ _ h => h) (Or.inr ⟨by rfl, rfl⟩) (by assumption) ?_
          try simp only [Act.put, List.getElem_toArray, List.getElem_cons_zero, List.getElem_cons_succ, List.setIfInBounds_toArray, List.set_cons_zero, List.set_cons_succ]
          refine wpAnyH_take (i := 5) (oi := _) (v := undef) rfl (by kernel_rfl) (by kernel_rfl) (by kernel_rfl) (fun _ _ _ h => h) (Or.inr ⟨by rfl, rfl⟩) (by assumption) ?_
          try simp only [Act.put, List.getElem_toArray, List.getElem_cons_zero, List.getElem_cons_succ, List.setIfInBounds_toArray, List.set_cons_zero, List.set_cons_succ]
          refine wpAnyH_take (i := 6) (oi := _) (v := undef) rfl (by kernel_rfl) (by kernel_rfl) (by kernel_rfl) (fun _ _ _ h => h) (Or.inr ⟨by rfl, rfl⟩) (by assumption) ?_
          try simp only [Act.put, List.getElem_toArray, List.getElem_cons_zero, List.getElem_cons_succ, List.setIfInBounds_toArray, List.set_cons_zero, List.set_cons_succ]
          refine wpAnyH_take (i := 7) (oi := _) (v := undef) rfl (by kernel_rfl) (by kernel_rfl) (by kernel_rfl) (fun _ _ _ h => h) (Or.inr ⟨by rfl, rfl⟩) (by assumption) ?_
          try simp only [Act.put, List.getElem_toArray, List.getElem_cons_zero, List.getElem_cons_succ, List.setIfInBounds_toArray, List.set_cons_zero, List.set_cons_succ]
          refine wpAnyH_take (i := 8) (oi := _) (v := undef) rfl (by kernel_rfl) (by kernel_rfl) (by kernel_rfl) (fun _ _ _ h => h) (Or.inr ⟨by rfl, rfl⟩) (by assumption) ?_
          try simp only [Act.put, List.getElem_toArray, List.getElem_cons_zero, List.getElem_cons_succ, List.setIfInBounds_toArray, List.set_cons_zero, List.set_cons_succ]
          refine wpAnyH_take (i := 9) (oi := _) (v := undef) rfl (by kernel_rfl) (by kernel_rfl) (by kernel_rfl) (fun _ _ _ h => h) (Or.inr ⟨by rfl, rfl⟩) (by assumption) ?_
          try simp only [Act.put, List.getElem_toArray, List.getElem_cons_zero, List.getElem_cons_succ, List.setIfInBounds_toArray, List.set_cons_zero, List.set_cons_succ]
          refine wpAnyH_take (i := 10) (oi := _) (v := undef) rfl (by kernel_rfl) (by kernel_rfl) (by kernel_rfl) (fun _ _ _ h => h) (Or.inr ⟨by rfl, rfl⟩) (by assumption) ?_
          try simp only [Act.put, List.getElem_toArray, List.getElem_cons_zero, List.getElem_cons_succ, List.setIfInBounds_toArray, List.set_cons_zero, List.set_cons_succ]
          refine wpAnyH_take (i := 11) (oi := _) (v := ?_) rfl (by kernel_rfl) (by kernel_rfl) (by kernel_rfl) (fun _ _ _ h => h) (Or.inl ⟨by rfl, ?_⟩) (by assumption) ?_
          rotate_left
          · intro w hSw; (try dsimp only at hSw); go_simp; all_goals with_reducible rfl
          try simp only [Act.put, List.getElem_toArray, List.getElem_cons_zero, List.getElem_cons_succ, List.setIfInBounds_toArray, List.set_cons_zero, List.set_cons_succ]
          refine wpAnyH_done (by kernel_rfl) ?_ _
          refine NoPanic.normal ?_
          go_wp2
          go_roundw
          case rel => exact ⟨j + 1, m + 1 + more (dep (ros l) i + 1) r0, _, acc, by go_num, rfl, by omega, HKN.out, HWN.out, HRN.out _ (by rw [HONE.out, List.append_nil]), HOF.out wB.drew (bel_eq12 (Below.refl _ wB) rfl rfl rfl rfl), HNF.out wB.drew (bel_eq12 (Below.refl _ wB) rfl rfl rfl rfl), HCF.out wB.drew (bel_eq12 (Below.refl _ wB) rfl rfl rfl rfl), HBF.out wB.drew (bel_eq12 (Below.refl _ wB) rfl rfl rfl rfl), hsB2⟩
          case measure => simp [intOf]; omega
    · have hje : j = ks.length := by omega
      have hfin : ros acc = K (fateN c s) (attrsF c s) e (below (ros l) i) := by
        have h3 := hkd.out
        rw [hje, List.drop_length] at h3
        have h4 := kids_end hwm.out h3
        have h5 := hros.out
        rw [h4, K_nil, List.append_nil] at h5
        exact h5
      have HFIN := Lib.hid hfin; have HOD := Lib.hid hod; have HBL := Lib.hid hbel
      clear hfin hod hbel hnw hbx hkd hwm hros
      go_wp2
      go_ret
      exact ⟨_, acc, rfl, HOD.out.mono (by omega), HFIN.out, HBL.out⟩

theorem kept_any (A0 : Option Addr) (c0 : Nat) (l : List Cw) (v : Value) (c : Cf) (s : Bool) (hlc : l.length ≤ c0) (hcm : c0 ≤ maxLen) (hll : l.length ≤ 1000) (hz : Rz.Small (ros l)) (hf : Few (ros l)) (hs : Sm c) (hrt : right (ros l) = true) :
    ∀ (n : Nat) (i e : Int) (w : World), (below (ros l) i).length ≤ n → -1 ≤ i → i < l.length → 0 ≤ e → e + n ≤ 900000 → Rr w w.heap.size A0 l → Cv w w.heap.size v c →
    Calls Try.prog 26 #[.slice A0 l.length c0, .int .i64 i, .int .i64 e, v, .bool s] w fun r w' => ∃ V y, r = .returned V ∧ Od w.heap.size w' V y ∧ ros y = K (fateN c s) (attrsF c s) e (below (ros l) i) ∧ Below w.heap.size w w'
  | 0, i, e, w, hn, h1, h2, he, hen, hr, hc => kept_step A0 c0 l v c s hlc hcm hll hz hf hs hrt i e w h1 h2 he (by omega) hr hc fun i2 e2 w2 hlt => absurd hlt (by omega)
  | n + 1, i, e, w, hn, h1, h2, he, hen, hr, hc => kept_step A0 c0 l v c s hlc hcm hll hz hf hs hrt i e w h1 h2 he (by omega) hr hc fun i2 e2 w2 hlt h3 h4 h5 h6 hr2 hc2 =>
    kept_any A0 c0 l v c s hlc hcm hll hz hf hs hrt n i2 e2 w2 (by omega) h3 h4 (by omega) (by omega) hr2 hc2

end Go.Proofs.Ytgjlfcamgkeibaa.Cn
