/-
  Walks of stage 12: contradicts, Check.
  Walks of stage 13: the program's Rows.
  fold.merged.
  fold.Find, of a list that rises.
  fold.Sorted, which calls itself, and fold.Minus.
  boltingref02.Minus and boltingref02.Sorted.
  Walks of stage 12: copied, safe, neverSafe; the document's Unsafe, Minus.
  A region whose loads may be taken first though its own last stores write the cells that they load: the condition on the world is asked for only as long as the first of those stores has not come up.
  append within a region that draws its order: of one api.Per, of names.
  Walk of stage 12: remade, with fold.Sorted and with copied.
  Groups of api.Per: slices of them in a slice, each of the call's own, no two in one block.
  Walk of stage 12: grouped.
  Walks of stage 12: Canon, All, Plain.
  Walks of stage 12: Strip.
  Walks of stage 12: All, Plain, the document's Plain.
  Walks of stage 5: names.inElement, inAttr, every, Right, Attr, and the document's bad, May.
  Walks of stage 12: the document's may, once, meet, of.
  boltingref02.Equal, of slices that read as one list.
  Walk of stage 12: the document's Same, for values that read as one configuration.
  Walk of stage 12: the calls whose answers the document fixes.
  Stage 13: what the law asks ahead: calls whose answers are fixed.
  Stage 13: the law's bound: forty rows of eight attributes.
-/
import Derived.Test.YtgjlfcamgkeibaaCk06
import Derived.Test.YtgjlfcamgkeibaaCk03
import Derived.Deep.RegionWith
import Derived.Test.YtgjlfcamgkeibaaCk04
import Derived.Test.YtgjlfcamgkeibaaCk05
import Derived.Test.YtgjlfcamgkeibaaRows
import Derived.Deep.RegionHeld3
import Derived.Deep.RegionLaw
import Derived.Deep.AppendLies
import Derived.BigRegion
import Derived.Deep.Cut
import Derived.Deep.OwnRows
import Derived.Test.YtgjlfcamgkeibaaCk02
namespace Go.Proofs.Ytgjlfcamgkeibaa.Co
set_option maxRecDepth 100000
set_option linter.unusedVariables false
set_option linter.unusedSimpArgs false
open Go.RowKit Ba Fm Fo Nm Rk
theorem meetSP_eq (a : List ByteArray) (l : List Pe) : meetSPB a l = l.any fun p => meetB p.at_ a := by
  unfold meetSPB
  rw [Bool.eq_iff_iff, List.any_eq_true, List.any_eq_true]
  constructor
  · rintro ⟨x, hx, h⟩
    obtain ⟨p, hp, hi⟩ := List.any_eq_true.1 h
    exact ⟨p, hp, meet_iff.2 ⟨x, isIn_of hi, hx⟩⟩
  · rintro ⟨p, hp, h⟩
    obtain ⟨x, h1, h2⟩ := meet_iff.1 h
    exact ⟨x, h2, any_yes _ _ p hp (isIn_yes h1)⟩
set_option maxRecDepth 100000 in
set_option maxHeartbeats 4000000 in
theorem contradicts1 (v : Value) (c : Cf) (w : World) (q : Bool) (h : Cv w w.heap.size v c) (hs : Sm c) (hq : bothB c = q) :
    Calls Try.prog 51 #[v] w fun r w' => r = .returned (.bool q) ∧ Below w.heap.size w w' := by
  obtain ⟨vE, vR, vA, vP, l, rfl, h⟩ := h
  obtain ⟨al, aa, els, reps, ats, per, cm, da⟩ := c
  obtain ⟨O, hO⟩ : ∃ O : Obj, O = .cells #[.bool al, .bool aa, vE, vR, vA, vP, .bool cm, .bool da] 26 := ⟨_, rfl⟩
  have hb1 : Below w.heap.size w (w.alloc O) := below_new12 w O
  have hz : w.heap.size < (w.alloc O).heap.size := by simp
  have hbx : Bx (w.alloc O) w.heap.size ⟨al, aa, els, reps, ats, per, cm, da⟩ vE vR vA vP := by rw [hO]; exact Bx.new w ⟨al, aa, els, reps, ats, per, cm, da⟩ vE vR vA vP
  have h0 := h.on hb1
  have hpl : per.length = l.length := by have := h.m; simp only at this; rw [← this, len_pes]
  have hl : l.length ≤ 1000 := by have := hs.p; simp only at this; omega
  have hlen : ∀ x ∈ l, x.pe.at_.length ≤ 1000000 := fun x hx => Nat.le_trans (hs.pa x.pe (by rw [← h.m]; exact List.mem_map.2 ⟨x, hx, rfl⟩)) (by omega)
  obtain ⟨e1, he1⟩ : ∃ b, meetB els reps = b := ⟨_, rfl⟩
  obtain ⟨e2, he2⟩ : ∃ b, meetSPB ats (pes l) = b := ⟨_, rfl⟩
  have hfin : (e1 || e2 || (da && !aa)) = q := by
    rw [← hq, ← he1, ← he2, meetSP_eq, h.m]
    show (meetB els reps || (per.any fun p => meetB p.at_ ats) || (da && !aa)) = (meetB els reps || (da && !aa) || per.any fun p => meetB p.at_ ats)
    rw [Bool.or_assoc, Bool.or_assoc, Bool.or_comm (per.any _)]
  have hls := hs.e; have hlr := hs.r; have hla := hs.a
  simp only at hls hlr hla
  have HE := Lib.hid (fun wx (hw : w.alloc O = wx) => meetSS vE vR wx.heap.size wx.heap.size els reps wx e1 (by subst hw; exact h0.e) (by subst hw; exact h0.r) (by omega) (by omega) he1)
  have HP := Lib.hid (fun wx (hw : w.alloc O = wx) => meetSP vA vP ats l wx e2 (by subst hw; exact h0.a) (by subst hw; exact h0.p) (by omega) (by omega) hlen he2)
  have H1 := Lib.hid (fun (wx : World) (hb : Below (w.alloc O).heap.size (w.alloc O) wx) => show wx.cell? ⟨w.heap.size, 1, none⟩ = some (.bool aa) ∧ wx.cell? ⟨w.heap.size, 7, none⟩ = some (.bool da) from ⟨(hbx.below hb hz).at_.2.1, (hbx.below hb hz).at_.2.2.2.2.2.2.2⟩)
  have HB1 := Lib.hid hb1; have HQ := Lib.hid hfin
  clear hq hfin hlen hs h h0 hpl hb1 hbx he1 he2 hls hlr hla
  subst hO
  cases e1 with
  | true =>
    go_enter Try.func51, Try.ntmps51
    go_wp2_with (go_at_call 90; refine (HE.out _ rfl).mono ?_; rintro r w3 ⟨rfl, rfl⟩)
    go_ret
    exact ⟨ret_bool (by rw [← HQ.out]; rfl), HB1.out⟩
  | false =>
    cases e2 with
    | true =>
      go_enter Try.func51, Try.ntmps51
      go_wp2_with (first
        | (go_at_call 90; refine (HE.out _ rfl).mono ?_; rintro r w3 ⟨rfl, rfl⟩)
        | (go_at_call 91; refine (HP.out _ rfl).mono ?_; rintro r w3 ⟨rfl, hb3⟩))
      go_ret
      exact ⟨ret_bool (by rw [← HQ.out]; rfl), bt HB1.out hb3⟩
    | false =>
      cases da with
      | true =>
        go_enter Try.func51, Try.ntmps51
        go_wp2_with (first
          | (go_at_call 90; refine (HE.out _ rfl).mono ?_; rintro r w3 ⟨rfl, rfl⟩)
          | (go_at_call 91; refine (HP.out _ rfl).mono ?_; rintro r w3 ⟨rfl, hb3⟩; obtain ⟨g1, g7⟩ := H1.out _ hb3))
        go_ret
        exact ⟨ret_bool (by rw [← HQ.out]; simp), bt HB1.out hb3⟩
      | false =>
        go_enter Try.func51, Try.ntmps51
        go_wp2_with (first
          | (go_at_call 90; refine (HE.out _ rfl).mono ?_; rintro r w3 ⟨rfl, rfl⟩)
          | (go_at_call 91; refine (HP.out _ rfl).mono ?_; rintro r w3 ⟨rfl, hb3⟩; obtain ⟨g1, g7⟩ := H1.out _ hb3))
        go_ret
        exact ⟨ret_bool (by rw [← HQ.out]; rfl), bt HB1.out hb3⟩
set_option maxRecDepth 100000 in
set_option maxHeartbeats 4000000 in
theorem check12 (v : Value) (c : Cf) (w : World) (q : Nat) (h : Cv w w.heap.size v c) (hs : Sm c) (hq : checkN c = q) :
    Calls Try.prog 21 #[v] w fun r w' => r = .returned (.int .i64 q) ∧ Below w.heap.size w w' := by
  obtain ⟨vE, vR, vA, vP, l, rfl, h⟩ := h
  obtain ⟨w0, hw0⟩ : ∃ w0, w.alloc (confO c vE vR vA vP) = w0 := ⟨_, rfl⟩
  have hb1 : Below w.heap.size w w0 := hw0 ▸ below_new12 w (confO c vE vR vA vP)
  have hbx : Bx w0 w.heap.size c vE vR vA vP := hw0 ▸ Bx.new w c vE vR vA vP
  have hz : w.heap.size < w0.heap.size := by rw [← hw0]; simp
  have hcv : Cv w0 w0.heap.size (confV c vE vR vA vP) c := ⟨vE, vR, vA, vP, l, rfl, h.on hb1⟩
  obtain ⟨e1, he1⟩ : ∃ b, bigB c = b := ⟨_, rfl⟩
  obtain ⟨e2, he2⟩ : ∃ b, (!namesB c) = b := ⟨_, rfl⟩
  obtain ⟨e3, he3⟩ : ∃ b, (!singleB c) = b := ⟨_, rfl⟩
  obtain ⟨e4, he4⟩ : ∃ b, bothB c = b := ⟨_, rfl⟩
  have hfin : (if e1 = true then 2 else if e2 = true then 121 else if e3 = true then 122 else if e4 = true then 120 else 0) = q := by
    rw [← hq, ← he1, ← he2, ← he3, ← he4]
    unfold checkN
    cases namesB c <;> cases singleB c <;> rfl
  have HBX := Lib.hid (fun wx (hb : Below w0.heap.size w0 wx) => (hbx.below hb hz).at_)
  have H1 := Lib.hid (fun wx hb => exceeds1 (confV c vE vR vA vP) c wx e1 (hcv.on hb) hs he1)
  have H2 := Lib.hid (fun wx hb => misnames1 (confV c vE vR vA vP) c wx e2 (hcv.on hb) hs he2)
  have H3 := Lib.hid (fun wx hb => repeats1 (confV c vE vR vA vP) c wx e3 (hcv.on hb) hs he3)
  have H4 := Lib.hid (fun wx hb => contradicts1 (confV c vE vR vA vP) c wx e4 (hcv.on hb) hs he4)
  have HW := Lib.hid hw0; have HB1 := Lib.hid hb1
  clear hq hs h hb1 hbx he1 he2 he3 he4 hw0 hcv
  go_enter Try.func21, Try.ntmps21
  go_wp2_with fail
  rw [HW.out]
  refine (H1.out _ (Below.refl _ _)).mono ?_
  rintro r w1 ⟨rfl, hb1⟩
  have HL1 := Lib.hid hb1
  obtain ⟨g0, g1, g2, g3, g4, g5, g6, g7⟩ := HBX.out w1 hb1
  clear hb1
  cases e1 with
  | true =>
    rw [if_pos rfl] at hfin
    subst hfin
    go_wp2
    go_ret
    exact ⟨rfl, HB1.out.trans (HL1.out.mono (Nat.le_of_lt hz))⟩
  | false =>
  rw [if_neg (by simp)] at hfin
  go_wp2_with fail
  refine (H2.out _ HL1.out).mono ?_
  rintro r w2 ⟨rfl, hb2⟩
  have HL2 := Lib.hid (HL1.out.trans (hb2.mono HL1.out.size))
  clear g0 g1 g2 g3 g4 g5 g6 g7 hb2
  obtain ⟨g0, g1, g2, g3, g4, g5, g6, g7⟩ := HBX.out w2 HL2.out
  cases e2 with
  | true =>
    rw [if_pos rfl] at hfin
    subst hfin
    go_wp2
    go_ret
    exact ⟨rfl, HB1.out.trans (HL2.out.mono (Nat.le_of_lt hz))⟩
  | false =>
  rw [if_neg (by simp)] at hfin
  go_wp2_with fail
  refine (H3.out _ HL2.out).mono ?_
  rintro r w3 ⟨rfl, hb3⟩
  have HL3 := Lib.hid (HL2.out.trans (hb3.mono HL2.out.size))
  clear g0 g1 g2 g3 g4 g5 g6 g7 hb3
  obtain ⟨g0, g1, g2, g3, g4, g5, g6, g7⟩ := HBX.out w3 HL3.out
  cases e3 with
  | true =>
    rw [if_pos rfl] at hfin
    subst hfin
    go_wp2
    go_ret
    exact ⟨rfl, HB1.out.trans (HL3.out.mono (Nat.le_of_lt hz))⟩
  | false =>
  rw [if_neg (by simp)] at hfin
  go_wp2_with fail
  refine (H4.out _ HL3.out).mono ?_
  rintro r w4 ⟨rfl, hb4⟩
  have HL4 := Lib.hid (HL3.out.trans (hb4.mono HL3.out.size))
  clear g0 g1 g2 g3 g4 g5 g6 g7 hb4
  cases e4 with
  | true =>
    rw [if_pos rfl] at hfin
    subst hfin
    go_wp2
    go_ret
    exact ⟨rfl, HB1.out.trans (HL4.out.mono (Nat.le_of_lt hz))⟩
  | false =>
    rw [if_neg (by simp)] at hfin
    subst hfin
    go_wp2
    go_ret
    exact ⟨rfl, HB1.out.trans (HL4.out.mono (Nat.le_of_lt hz))⟩

end Go.Proofs.Ytgjlfcamgkeibaa.Co

namespace Go.Proofs.Ytgjlfcamgkeibaa.Cn
set_option maxRecDepth 100000
set_option linter.unusedVariables false
set_option linter.unusedSimpArgs false
open Go.RowKit Ba Ro
open Co (Cf Cv Sm confV confO attrB12 elementN checkN bel_eq12)
set_option maxRecDepth 100000 in
set_option maxHeartbeats 2000000 in
theorem rows13 (u v : Value) (l : List Cw) (c : Cf) (s : Bool) (w : World) (hl : Rv w u l) (hll : l.length ≤ 1000000) (hz : Rz.Small (ros l)) (hf : Few (ros l)) (ht : (txt (ros l)).length ≤ 1000000000) (hc : Cv w w.heap.size v c) (hs : Sm c) (E : Int) (q : List Ro) (hE : errI c (ros l) = E) (hq : outL c s (ros l) = q) :
    Calls Try.prog 9 #[u, v, .bool s] w fun r w' => ∃ V y, r = .returned (.tuple #[V, .int .i64 E]) ∧ Od w.heap.size w' V y ∧ ros y = q ∧ Rv w' V y ∧ Below w.heap.size w w' := by
  obtain ⟨vE, vR, vA, vP, pl, rfl, hc⟩ := hc
  obtain ⟨w1, hw1⟩ : ∃ w1, w.alloc (confO c vE vR vA vP) = w1 := ⟨_, rfl⟩
  have hb1 : Below w.heap.size w w1 := hw1 ▸ below_new w _
  have hbx : Co.Bx w1 w.heap.size c vE vR vA vP := hw1 ▸ Co.Bx.new w c vE vR vA vP
  have hz1 : w.heap.size < w1.heap.size := by rw [← hw1]; simp
  have hcv : Cv w1 w1.heap.size (confV c vE vR vA vP) c := ⟨_, _, _, _, _, rfl, hc.on hb1⟩
  obtain ⟨qc, hqc⟩ : ∃ q, checkN c = q := ⟨_, rfl⟩
  obtain ⟨qr, hqr⟩ : ∃ q, check (ros l) = q := ⟨_, rfl⟩
  have HCK := Lib.hid (Co.check12 (confV c vE vR vA vP) c w1 qc hcv hs hqc)
  have hl1 := hl.below hb1
  have HBX := Lib.hid hbx; have HW1 := Lib.hid hw1; have HB1 := Lib.hid hb1; have HCV := Lib.hid hcv; have HL1 := Lib.hid hl1; have HSM := Lib.hid hs; have HZ := Lib.hid hz; have HF := Lib.hid hf; have HT := Lib.hid ht; have HE := Lib.hid hE; have HQ := Lib.hid hq; have HQC := Lib.hid hqc; have HQR := Lib.hid hqr
  have HCP := Lib.hid hc
  clear hc hl hs hz hf ht hE hq hw1 hb1 hbx hcv hl1 hqc hqr
  have nil13 : ∀ w' : World, Rv w' (.slice none 0 0) [] := fun w' => ⟨none, 0, rfl, Nat.le_refl _, Nat.zero_le _, Rr.nil _ _ _, fun x hx => by cases hx⟩
  have HNL := Lib.hid nil13
  clear nil13
  go_enter Try.func9, Try.ntmps9
  go_upto_region 1 with (fail)
  rw [HW1.out]
  clear HW1
  by_cases h0 : qc = 0
  · subst h0
    go_upto_region 4 with (first
      | (show wpList _ _ _ (⟨_, Op.load 26 (.tmp 4), _, _, _, _⟩ :: _) _ _; refine wpList_load_mid rfl 26 (.tmp 4) rfl w.heap.size 0 rfl _ _ HBX.out Try.underlying26 rfl Co.size_conf ?_)
      | (go_at_call 21; refine HCK.out.mono ?_; rintro r w2 ⟨rfl, hb2⟩; have HB2 := Lib.hid hb2; clear hb2)
      | fail)
    have HBX2 := Lib.hid (HBX.out.below HB2.out hz1)
    have HRC := Lib.hid (check1 u l w2 qr (HL1.out.below HB2.out) hll HQR.out)
    have hz2 := HB2.out.size
    by_cases h1 : qr = 0
    · subst h1
      obtain ⟨hex, hrt⟩ := check_parts HQR.out
      have hEq : E = 0 := by rw [← HE.out]; exact err_ok.2 ⟨HQC.out, HQR.out⟩
      subst hEq
      have hqn : normal (keptL c s (ros l)) = q := by rw [← HQ.out]; unfold outL; rw [if_pos HE.out]; rfl
      have hkf : Few (keptL c s (ros l)) := few_kept hrt HF.out
      have hkl : (keptL c s (ros l)).length ≤ 1000000 := Nat.le_trans (K_len (fo_right hrt) 0) (by rw [len_ros]; exact hll)
      have hkt : (txt (keptL c s (ros l))).length ≤ 1000000000 := Nat.le_trans (txt_K (fo_right hrt) 0) HT.out
      have hkh : Held (keptL c s (ros l)) := fun y hy => by
        obtain ⟨x, hx, _, hd, _⟩ := K_mem (fo_right hrt) 0 (by omega) y hy
        have h3 := held_check HQR.out x hx
        have h4 := (kept_wd c s hrt).1 y hy
        omega
      have hqh : Held q := by rw [← hqn]; exact held_check (clean_check c s HQR.out)
      have HQN := Lib.hid hqn; have HKF := Lib.hid hkf; have HKL := Lib.hid hkl; have HKT := Lib.hid hkt; have HKH := Lib.hid hkh; have HQH := Lib.hid hqh
      clear hex hrt hqn hkf hkl hkt hkh hqh
      go_upto_region 7 with (first
        | (go_at_call 27; refine HRC.out.mono ?_; rintro r w3 ⟨rfl, hb3⟩; have HB3 := Lib.hid (HB2.out.trans (hb3.mono HB2.out.size)); clear hb3)
        | fail)
      have HBX3 := Lib.hid (HBX.out.below HB3.out hz1)
      have hb03 := HB1.out.trans (HB3.out.mono HB1.out.size)
      obtain ⟨A0, c0, eU, hlc, hcm, hrr, hhe⟩ := HL1.out.below HB3.out
      subst eU
      have HFI := Lib.hid (filtered_any A0 c0 l (confV c vE vR vA vP) c s w3 hrr hlc hcm HZ.out HF.out ⟨_, _, _, _, _, rfl, HCP.out.on hb03⟩ HSM.out HQR.out)
      have HB03 := Lib.hid hb03
      clear hb03 hlc hcm hrr hhe
      go_wp2_with (first
        | (show wpList _ _ _ (⟨_, Op.load 26 (.tmp 4), _, _, _, _⟩ :: _) _ _; refine wpList_load_mid rfl 26 (.tmp 4) rfl w.heap.size 0 rfl _ _ HBX3.out Try.underlying26 rfl Co.size_conf ?_)
        | (go_at_call 29; refine HFI.out.mono ?_; rintro r w4 ⟨v4, l4, rfl, ho4, hr4, hb4⟩; have HO4 := Lib.hid ho4; have HR4 := Lib.hid hr4; have HB4 := Lib.hid hb4; clear ho4 hr4 hb4)
        | (go_at_call 28; refine (normal1 v4 l4 w4 q (HO4.out.ow.rv (by rw [HR4.out]; exact HKH.out)) (by rw [← len_ros, HR4.out]; exact HKL.out) (by rw [HR4.out]; exact HKF.out) (by rw [HR4.out]; exact HKT.out) (by rw [HR4.out]; exact HQN.out) HQH.out).mono ?_; rintro r w5 ⟨v5, y5, rfl, ho5, hf5, hy5, hv5, hb5⟩; have HO5 := Lib.hid ho5; have HF5 := Lib.hid hf5; have HY5 := Lib.hid hy5; have HV5 := Lib.hid hv5; have HB5 := Lib.hid hb5; clear ho5 hf5 hy5 hv5 hb5)
        | fail)
      go_ret2
      have h4 := HB03.out.trans (HB4.out.mono HB03.out.size)
      exact ⟨v5, y5, rfl, (show Od _ w5 v5 y5 from ⟨HO5.out.1, HF5.out⟩).mono h4.size, HY5.out, HV5.out, h4.trans (HB5.out.mono h4.size)⟩
    · have hEq : E = qr := by rw [← HE.out]; unfold errI; rw [if_pos HQC.out, HQR.out]
      subst hEq
      have hq0 : q = [] := by rw [← HQ.out]; unfold outL; rw [if_neg (by rw [HE.out]; exact h1)]
      subst hq0
      have hqb : (E == 0) = false := by simpa using h1
      go_wp2_with (first
        | (go_at_call 27; refine HRC.out.mono ?_; rintro r w3 ⟨rfl, hb3⟩; have HB3 := Lib.hid (HB2.out.trans (hb3.mono HB2.out.size)); clear hb3)
        | fail)
      go_ret2
      exact ⟨_, [], rfl, Od.nil _ _, rfl, HNL.out _, HB1.out.trans (HB3.out.mono HB1.out.size)⟩
  · have hEq : E = (qc : Int) := by rw [← HE.out]; unfold errI; rw [if_neg (by rw [HQC.out]; exact h0), HQC.out]
    subst hEq
    have hq0 : q = [] := by rw [← HQ.out]; unfold outL; rw [if_neg (by rw [HE.out]; omega)]
    subst hq0
    have hqb : ((qc : Int) == 0) = false := by simp; omega
    go_wp2_with (first
      | (show wpList _ _ _ (⟨_, Op.load 26 (.tmp 4), _, _, _, _⟩ :: _) _ _; refine wpList_load_mid rfl 26 (.tmp 4) rfl w.heap.size 0 rfl _ _ HBX.out Try.underlying26 rfl Co.size_conf ?_)
      | (go_at_call 21; refine HCK.out.mono ?_; rintro r w2 ⟨rfl, hb2⟩; have HB2 := Lib.hid hb2; clear hb2)
      | fail)
    go_ret2
    exact ⟨_, [], rfl, Od.nil _ _, rfl, HNL.out _, HB1.out.trans (HB2.out.mono HB1.out.size)⟩

end Go.Proofs.Ytgjlfcamgkeibaa.Cn

namespace Go.Proofs.Ytgjlfcamgkeibaa.Fo
set_option maxRecDepth 100000
set_option linter.unusedSimpArgs false
set_option linter.unusedVariables false
open Go.RowKit Ba Fm
end Go.Proofs.Ytgjlfcamgkeibaa.Fo

namespace Go.Proofs.Ytgjlfcamgkeibaa.Fo
set_option maxRecDepth 100000
set_option linter.unusedSimpArgs false
set_option linter.unusedVariables false
open Go.RowKit Ba Fm
end Go.Proofs.Ytgjlfcamgkeibaa.Fo

namespace Go.Proofs.Ytgjlfcamgkeibaa.Fo
set_option maxRecDepth 100000
set_option linter.unusedSimpArgs false
set_option linter.unusedVariables false
open Go.RowKit Ba Fm
end Go.Proofs.Ytgjlfcamgkeibaa.Fo

namespace Go.Proofs.Ytgjlfcamgkeibaa.Fo
set_option maxRecDepth 100000
set_option linter.unusedSimpArgs false
set_option linter.unusedVariables false
open Go.RowKit Ba Fm
end Go.Proofs.Ytgjlfcamgkeibaa.Fo

namespace Go.Proofs.Ytgjlfcamgkeibaa.Co
set_option maxRecDepth 100000
set_option linter.unusedVariables false
set_option linter.unusedSimpArgs false
open Go.RowKit Ba Fm Fo Nm Rk
theorem own_lit12 (w : World) (l : List ByteArray) (hl : l.length ≤ 1000) : Sown w.heap.size (w.alloc (.cells (l.map sc).toArray 9)) (.slice (some ⟨w.heap.size, 0, none⟩) l.length l.length) l :=
  World.ownsRow_lit w (l.map sc).toArray l.length (Nat.le_refl _) (by unfold maxLen; omega) (by simp)
theorem unsafe12 (w : World) : Calls Try.prog 39 #[] w fun r w' => ∃ v', r = .returned v' ∧ Sown w.heap.size w' v' unsafeL ∧ Below w.heap.size w w' := by
  have hs := own_lit12 w unsafeL (by decide)
  have hb := below_new12 w (.cells (unsafeL.map sc).toArray 9)
  go_enter Try.func39, Try.ntmps39
  go_wp2
  go_ret
  exact ⟨_, rfl, hs, hb⟩
end Go.Proofs.Ytgjlfcamgkeibaa.Co

namespace Go.Proofs.Ytgjlfcamgkeibaa.Ph
set_option linter.unusedVariables false
set_option linter.unusedSimpArgs false
open Go
section
variable {P : Program} {ops : Array Oper} {Q : Exit → Act → World → Prop} {md : Region.Mode} {S : World → Prop} {st : Nat}
/-- Whatever comes up next; till number 'st' has come up, S is shown of each world. -/
def anyT (P : Program) (md : Region.Mode) (ops : Array Oper) (Q : Exit → Act → World → Prop) (S : World → Prop) (st : Nat) : Nat → Array Bool → Act → World → Prop
  | 0, l, a, w => Region.ready md ops l = [] ∧ Q .normal a w
  | n + 1, l, a, w => (Region.ready md ops l = [] → Q .normal a w) ∧
    ∀ i ∈ Region.ready md ops l, wpOp P ops Q i (fun a' w' => ((l.setIfInBounds i true).getD st true = false → S w') ∧ anyT P md ops Q S st n (l.setIfInBounds i true) a' w') a w
theorem any_of_T : ∀ (n : Nat) (l : Array Bool) (a : Act) (w : World), anyT P md ops Q S st n l a w → wpAny P md ops Q n l a w
  | 0, _, _, _, h => h
  | n + 1, _, _, _, h => ⟨h.1, fun i hi => wpOp_mono (fun a' w' k => any_of_T n _ a' w' k.2) (h.2 i hi)⟩

/-- Number st waits for number i. -/
def waits (md : Region.Mode) (ops : Array Oper) (st i : Nat) : Bool := ((ops[st]?).map fun o => o.after.any fun e => Region.binds md e && e.on == i).getD false
theorem waits_not {i : Nat} {l : Array Bool} (hw : waits md ops st i = true) (hi : i ∈ Region.ready md ops l) : st ∉ Region.ready md ops l := fun hs => by
  obtain ⟨_, o, ho, hall⟩ := mem_ready.1 hs
  have hi0 := (mem_ready.1 hi).1
  unfold waits at hw
  rw [ho] at hw
  simp only [Option.map_some, Option.getD_some] at hw
  obtain ⟨e, he, hb⟩ := Array.any_eq_true'.1 hw
  rw [Bool.and_eq_true, beq_iff_eq] at hb
  have h1 := hall e he hb.1
  rw [hb.2] at h1
  by_cases hlt : i < l.size
  · simp [hlt] at hi0 h1
    rw [hi0] at h1
    cases h1
  · simp [Array.getElem?_eq_none (Nat.le_of_not_lt hlt)] at h1

theorem T_first {i : Nat} {oi : Oper} {v : Value} (hi : ops[i]? = some oi) (hsel : ∀ (j : Nat) (o : Oper) cs b, ops[j]? = some o → o.op ≠ .select cs b)
    (hQ : ∀ c a w, Q (.panic c) (a.put oi.dst v) w → Q (.panic c) a w) (hw : waits md ops st i = true) (hne : i ≠ st) :
    ∀ (n : Nat) (l : Array Bool) (a : Act) (w : World),
      (∀ j oj, ops[j]? = some oj → j ≠ i → l.getD j true = false → (∀ e ∈ oj.after, Region.binds md e = true → e.on ≠ i) → oi.apart ops oj = true) →
      l.getD st true = false → i ∈ Region.ready md ops l → YieldsIf P ops S oi v a → S w → anyT P md ops Q S st n (l.setIfInBounds i true) (a.put oi.dst v) w → anyT P md ops Q S st (n + 1) l a w := by
  intro n
  induction n with
  | zero =>
    intro l a w hf hst hr hy hS H
    refine ⟨fun e => by rw [e] at hr; (cases hr), fun j hj => ?_⟩
    by_cases hji : j = i
    · rw [hji]
      exact hy.wpOp hi hS ⟨fun _ => hS, H⟩
    · have hj' := ready_mono hj hji
      rw [H.1] at hj'
      cases hj'
  | succ n ih =>
    intro l a w hf hst hr hy hS H
    refine ⟨fun e => by rw [e] at hr; (cases hr), fun j hj => ?_⟩
    by_cases hji : j = i
    · rw [hji]
      exact hy.wpOp hi hS ⟨fun _ => hS, H⟩
    · have hjs : j ≠ st := fun e => waits_not hw hr (e ▸ hj)
      obtain ⟨hun, oj, hoj, hall⟩ := mem_ready.1 hj
      have hno : ∀ e ∈ oj.after, Region.binds md e = true → e.on ≠ i := fun e he hb hon => by
        have h1 := hall e he hb
        have h0 := (mem_ready.1 hr).1
        rw [hon] at h1
        by_cases hlt : i < l.size
        · simp [hlt] at h0 h1
          rw [h0] at h1
          cases h1
        · simp [Array.getElem?_eq_none (Nat.le_of_not_lt hlt)] at h1
      have hst' : (l.setIfInBounds j true).getD st true = false := (getD_set_ne true hjs).trans hst
      have hf' : ∀ k ok, ops[k]? = some ok → k ≠ i → (l.setIfInBounds j true).getD k true = false → (∀ e ∈ ok.after, Region.binds md e = true → e.on ≠ i) → oi.apart ops ok = true := fun k ok hk hki hku hkn => by
        by_cases hjk : j = k
        · exact hf k ok hk hki (hjk ▸ hun) hkn
        · rw [getD_set_ne true hjk] at hku
          exact hf k ok hk hki hku hkn
      refine wpOp_mono (fun a' w' k => ?_) (wpOp_putIf hoj (hf j oj hoj hji hun hno) (fun cs b => hsel i oi cs b hi) (fun cs b => hsel j oj cs b hoj) hQ hy (H.2 j (ready_mono hj hji)))
      have hS' : S w' := k.2.1 (by rw [getD_set_ne true hjs, getD_set_ne true hne]; exact hst)
      exact ⟨fun _ => hS', ih (l.setIfInBounds j true) a' w' hf' hst' (ready_mono hr (Ne.symm hji)) k.1 hS' (by rw [Array.setIfInBounds_comm _ _ hji]; exact k.2.2)⟩
theorem T_pure0 {i : Nat} {oi : Oper} {v : Value} (hi : ops[i]? = some oi) (hsel : ∀ (j : Nat) (o : Oper) cs b, ops[j]? = some o → o.op ≠ .select cs b)
    (hQ : ∀ c a w, Q (.panic c) (a.put oi.dst v) w → Q (.panic c) a w) (hne : i ≠ st) :
    ∀ (n : Nat) (l : Array Bool) (a : Act) (w : World),
      (∀ j oj, ops[j]? = some oj → j ≠ i → l.getD j true = false → (∀ e ∈ oj.after, Region.binds md e = true → e.on ≠ i) → oi.apart ops oj = true) →
      i ∈ Region.ready md ops l → YieldsIf P ops (fun _ => True) oi v a → (l.getD st true = false → S w) → anyT P md ops Q S st n (l.setIfInBounds i true) (a.put oi.dst v) w → anyT P md ops Q S st (n + 1) l a w := by
  intro n
  induction n with
  | zero =>
    intro l a w hf hr hy hS H
    refine ⟨fun e => by rw [e] at hr; (cases hr), fun j hj => ?_⟩
    by_cases hji : j = i
    · rw [hji]
      exact hy.wpOp hi trivial ⟨fun e => hS (by rw [getD_set_ne true hne] at e; exact e), H⟩
    · have hj' := ready_mono hj hji
      rw [H.1] at hj'
      cases hj'
  | succ n ih =>
    intro l a w hf hr hy hS H
    refine ⟨fun e => by rw [e] at hr; (cases hr), fun j hj => ?_⟩
    by_cases hji : j = i
    · rw [hji]
      exact hy.wpOp hi trivial ⟨fun e => hS (by rw [getD_set_ne true hne] at e; exact e), H⟩
    · obtain ⟨hun, oj, hoj, hall⟩ := mem_ready.1 hj
      have hno : ∀ e ∈ oj.after, Region.binds md e = true → e.on ≠ i := fun e he hb hon => by
        have h1 := hall e he hb
        have h0 := (mem_ready.1 hr).1
        rw [hon] at h1
        by_cases hlt : i < l.size
        · simp [hlt] at h0 h1
          rw [h0] at h1
          cases h1
        · simp [Array.getElem?_eq_none (Nat.le_of_not_lt hlt)] at h1
      have hf' : ∀ k ok, ops[k]? = some ok → k ≠ i → (l.setIfInBounds j true).getD k true = false → (∀ e ∈ ok.after, Region.binds md e = true → e.on ≠ i) → oi.apart ops ok = true := fun k ok hk hki hku hkn => by
        by_cases hjk : j = k
        · exact hf k ok hk hki (hjk ▸ hun) hkn
        · rw [getD_set_ne true hjk] at hku
          exact hf k ok hk hki hku hkn
      refine wpOp_mono (fun a' w' k => ?_) (wpOp_putIf hoj (hf j oj hoj hji hun hno) (fun cs b => hsel i oi cs b hi) (fun cs b => hsel j oj cs b hoj) hQ hy (H.2 j (ready_mono hj hji)))
      have hS' : (l.setIfInBounds j true).getD st true = false → S w' := fun e => k.2.1 (by rw [Array.setIfInBounds_comm _ _ (Ne.symm hji), getD_set_ne true hne]; exact e)
      exact ⟨hS', ih (l.setIfInBounds j true) a' w' hf' (ready_mono hr (Ne.symm hji)) k.1 hS' (by rw [Array.setIfInBounds_comm _ _ hji]; exact k.2.2)⟩
/-- Number i, which yields its value in whatever world, is taken first. -/
theorem T_pure {i : Nat} {oi : Oper} {v : Value} {n : Nat} {l : Array Bool} {a : Act} {w : World} (hi : ops[i]? = some oi) (hs : Region.noSelect ops = true) (hf : Region.free md ops l i = true) (hr : (Region.ready md ops l).contains i = true)
    (hw : (i != st) = true) (hQ : ∀ c a w, Q (.panic c) (a.put oi.dst v) w → Q (.panic c) a w) (hy : YieldsIf P ops (fun _ => True) oi v a) (hS : S w)
    (h : S w → anyT P md ops Q S st n (l.setIfInBounds i true) (a.put oi.dst v) w) : anyT P md ops Q S st (n + 1) l a w :=
  T_pure0 hi (Region.noSelect_spec hs) hQ (by simpa using hw) n l a w (Region.free_spec hi hf) (by simpa using hr) hy (fun _ => hS) (h hS)
/-- Number i is taken first. -/
theorem T_take {i : Nat} {oi : Oper} {v : Value} {n : Nat} {l : Array Bool} {a : Act} {w : World} (hi : ops[i]? = some oi) (hs : Region.noSelect ops = true) (hf : Region.free md ops l i = true) (hr : (Region.ready md ops l).contains i = true)
    (hw : (waits md ops st i && i != st && !l.getD st true) = true) (hQ : ∀ c a w, Q (.panic c) (a.put oi.dst v) w → Q (.panic c) a w) (hy : YieldsIf P ops S oi v a) (hS : S w)
    (h : S w → anyT P md ops Q S st n (l.setIfInBounds i true) (a.put oi.dst v) w) : anyT P md ops Q S st (n + 1) l a w := by
  simp only [Bool.and_eq_true, bne_iff_ne, ne_eq, Bool.not_eq_true'] at hw
  exact T_first hi (Region.noSelect_spec hs) hQ hw.1.1 hw.1.2 n l a w (Region.free_spec hi hf) hw.2 (by simpa using hr) hy hS (h hS)
/-- One alone may come up, ahead of number st. -/
theorem T_one {i : Nat} {o : Oper} {n : Nat} {l : Array Bool} {a : Act} {w : World} (hr : Region.ready md ops l = [i]) (ho : ops[i]? = some o)
    (h : ∀ K' : Act → World → Prop, Shut (∀ a w, S w → (S w → anyT P md ops Q S st n (l.setIfInBounds i true) a w) → K' a w) → if Region.wanted o (yielded ops a.tmps) = true then Oper.wp P o a w K' Q else K' (a.put o.dst undef) w) :
    anyT P md ops Q S st (n + 1) l a w := by
  refine ⟨fun e => (by rw [e] at hr; cases hr), fun j hj => ?_⟩
  rw [hr, List.mem_singleton] at hj
  rw [hj]
  exact wpOp_step ho fun K' hK => h K' fun a w hS hW => hK a w ⟨fun _ => hS, hW hS⟩
/-- What yields in whatever world, behind number st. -/
theorem T_free {i : Nat} {oi : Oper} {v : Value} {n : Nat} {l : Array Bool} {a : Act} {w : World} (hr : Region.ready md ops l = [i]) (hst : (l.setIfInBounds i true).getD st true = true) (hi : ops[i]? = some oi)
    (hy : Yields P ops oi v a) (h : anyT P md ops Q S st n (l.setIfInBounds i true) (a.put oi.dst v) w) : anyT P md ops Q S st (n + 1) l a w := by
  refine ⟨fun e => (by rw [e] at hr; cases hr), fun j hj => ?_⟩
  rw [hr, List.mem_singleton] at hj
  rw [hj]
  exact (Yields.yieldsIf (S := fun _ => True) hy).wpOp hi trivial ⟨fun e => (by rw [hst] at e; cases e), h⟩
theorem T_done {l : Array Bool} {a : Act} {w : World} (hr : Region.ready md ops l = []) (h : Q .normal a w) : ∀ n, anyT P md ops Q S st n l a w
  | 0 => ⟨hr, h⟩
  | _ + 1 => ⟨fun _ => h, by rw [hr]; simp⟩
/-- The beginning. -/
theorem T_begin (S : World → Prop) (st : Nat) {id : Nat} {a : Act} {w : World} (hm : P.follows .mixedOrders = true) (hS : S w.drew) (h : S w.drew → anyT P .any ops Q S st ops.size (Array.replicate ops.size false) a w.drew) : (Code.region id ops true).wp P Q a w :=
  wp_region_any hm (any_of_T _ _ _ _ (h hS))
end
end Go.Proofs.Ytgjlfcamgkeibaa.Ph

namespace Go.Proofs.Ytgjlfcamgkeibaa.Co
set_option maxRecDepth 100000
set_option linter.unusedVariables false
set_option linter.unusedSimpArgs false
open Go.RowKit Ba Fm Fo
theorem grown_none {w0 w w1 : World} {row : Option Nat} (hg : w0.grownBy w none) (h2 : w.grownBy w1 row) : w0.grownBy w1 row :=
  ⟨h2.os.trans hg.os, h2.tape.trans hg.tape, h2.output.trans hg.output, Nat.le_trans hg.size h2.size, fun i hi hne => (h2.block i (Nat.lt_of_lt_of_le hi hg.size) hne).trans (hg.block i hi (by simp))⟩
theorem grown_drew (w : World) (n : Nat) (row : Option Nat) : w.grownBy (w.drewN n) row := ⟨rfl, rfl, rfl, Nat.le_refl _, fun _ _ _ => rfl⟩
theorem step_app_per {ops : Array Oper} {o : Oper} {a : Act} {K : Act → World → Prop} {Q : Exit → Act → World → Prop} {E : Prop} (W : World) (hgd : o.guard = none) (s x : Operand)
    (ho : o.op = .call { callee := .builtin .append, args := #[s, x], argTypes := #[24, 24] })
    (W0 : World) (N : Nat) (v : Value) (l : List Pw) (z : Pw) (hr : Po N W0 v l) (hz1 : Sx W0 W0.heap.size z) (hz2 : Ap W0 N z) (hg : W0.grownBy W none) (hN : N ≤ W0.heap.size) (hl : l.length ≤ 2000000)
    (hs : a.eval s = v) (g0 : Nat) (hx : a.eval x = .slice (some ⟨g0, 0, none⟩) 1 1) (hz : W.heap[g0]? = some (perO z))
    (h : ∀ v' w', Po N w' v' (l ++ [z]) → W0.grownBy w' v.ownBlock → K (a.put o.dst v') w') :
    if Region.wanted o (yielded ops a.tmps) = true then Oper.wp Try.prog o a W K Q else E := by
  obtain ⟨i0, hi, hz0, hz1', hz2'⟩ := info_parts info_per
  have hown : W.ownsRow N 48 2 v l.length (l.flatMap pcells) := World.ownsRow.kept hr.1 hg (by cases hv : v.ownBlock with
    | none => exact .inl rfl
    | some k => right; simp)
  refine step_append_lies W hgd s x 24 ho N 48 i0 _ 2 40 Try.underlying24 hi hz0 hz1' hz2' rfl (by decide) v l.length (l.flatMap pcells) hs hown ⟨g0, 0, none⟩ 1 1 (pcells z) hx rfl (fun j u hu => World.news_of_block hz j u hu) (pcells_one z) (by decide) (by unfold maxLen; omega) (by omega) (Nat.le_trans hN hg.size) _ rfl ?_
  intro g cap w1 h1 h2 _ _
  have hgw : W0.grownBy w1 v.ownBlock := grown_none hg h2
  refine h _ w1 ⟨by rw [List.length_append, List.flatMap_append]; simpa using h1, fun y hy => ?_⟩ hgw
  rcases List.mem_append.1 hy with hy | hy
  · exact ⟨(hr.2 y hy).1.grown hr.1 hgw (hr.2 y hy).2, (hr.2 y hy).2.grown hr.1 hgw⟩
  · obtain rfl := List.mem_singleton.1 hy
    exact ⟨hz1.grown hr.1 hgw hz2, hz2.grown hr.1 hgw⟩

end Go.Proofs.Ytgjlfcamgkeibaa.Co

namespace Go.Proofs.Ytgjlfcamgkeibaa.Co
set_option maxRecDepth 100000
set_option linter.unusedVariables false
set_option linter.unusedSimpArgs false
open Go.RowKit Ba Fm Fo Nm Rk
end Go.Proofs.Ytgjlfcamgkeibaa.Co

namespace Go.Proofs.Ytgjlfcamgkeibaa.Co
set_option maxRecDepth 100000
set_option linter.unusedVariables false
set_option linter.unusedSimpArgs false
open Go.RowKit Ba Fm Fo
def pickW (l : List Pw) (e : ByteArray) : List Pw := l.filter fun x => decide (x.pe.el = e) && decide (x.pe.at_ ≠ [])
/-- What is the call's own stays where another block is written that holds neither. -/
theorem po_aside {N g : Nat} {w w' : World} {v : Value} {l : List Pw} (h : Po N w v l) (hg : w.grownBy w' (some g)) (hN : N ≤ g) (hp : ∀ cs fr, w.heap[g]? ≠ some (.cells cs 48 fr)) (hs : ∀ cs fr, w.heap[g]? ≠ some (.cells cs 9 fr)) : Po N w' v l := by
  refine ⟨⟨h.1.1, ?_⟩, fun x hx => ⟨?_, ?_⟩⟩
  · rcases h.1.2 with hn | ⟨b, cap, cur, hv, hb, hh, rest⟩
    · exact .inl hn
    · refine .inr ⟨b, cap, cur, hv, hb, ?_, rest⟩
      have hne : b ≠ g := fun e => hp _ _ (e ▸ hh)
      rw [hg.block b (Array.getElem?_eq_some_iff.1 hh).1 (by simpa using hne)]
      exact hh
  · obtain ⟨h1, h2⟩ := h.2 x hx
    obtain ⟨A, c, e, h3, h4, h5⟩ := h1
    refine ⟨A, c, e, h3, h4, fun h0 => ?_⟩
    obtain ⟨b, off, e2, hb, hc⟩ := h5 h0
    obtain ⟨b', off', e3, ha⟩ := h2 h0
    injection e with e4 e5 e6
    rw [e4, e2] at e3
    injection e3 with e3
    injection e3 with e7 e8
    subst e7
    have hne : b ≠ g := by
      rcases ha with ha | ⟨cs, fr, ha⟩
      · omega
      · exact fun e => hs _ _ (e ▸ ha)
    exact ⟨b, off, e2, Nat.lt_of_lt_of_le hb hg.size, fun j hj => (World.cell?_of_block (a := ⟨b, off + j, none⟩) (hg.block b hb (by simpa using hne))).trans (hc j hj)⟩
  · intro h0
    obtain ⟨b, off, e, ha⟩ := (h.2 x hx).2 h0
    refine ⟨b, off, e, ha.imp id ?_⟩
    rintro ⟨cs, fr, ha⟩
    have hne : b ≠ g := fun e => hs _ _ (e ▸ ha)
    exact ⟨cs, fr, (hg.block b (Array.getElem?_eq_some_iff.1 ha).1 (by simpa using hne)).trans ha⟩
/-- And where another one of the call's own grows. -/
theorem po_beside {N : Nat} {w w' : World} {v u : Value} {l m : List Pw} (h : Po N w u m) (hv : Po N w v l) (hg : w.grownBy w' v.ownBlock) (hne : ∀ b, u.ownBlock = some b → v.ownBlock ≠ some b) : Po N w' u m := by
  refine ⟨⟨h.1.1, ?_⟩, fun x hx => ⟨(h.2 x hx).1.grown hv.1 hg (h.2 x hx).2, (h.2 x hx).2.grown hv.1 hg⟩⟩
  rcases h.1.2 with hn | ⟨b, cap, cur, e, hb, hh, rest⟩
  · exact .inl hn
  · refine .inr ⟨b, cap, cur, e, hb, ?_, rest⟩
    subst e
    rw [hg.block b (Array.getElem?_eq_some_iff.1 hh).1 (fun e => hne b rfl e.symm)]
    exact hh

/-- Groups. -/
structure Gr (N : Nat) (w : World) (g : Nat) (gs : Array Value) (ps : List (List Pw)) : Prop where
  heap : w.heap[g]? = some (.cells gs 24)
  size : gs.size = ps.length
  low : N ≤ g
  own : ∀ (i : Nat) v p, gs[i]? = some v → ps[i]? = some p → Po N w v p
  apart : ∀ (i j : Nat) v u b, gs[i]? = some v → gs[j]? = some u → i ≠ j → v.ownBlock = some b → u.ownBlock ≠ some b
theorem Gr.lt {N g : Nat} {w : World} {gs : Array Value} {ps : List (List Pw)} (h : Gr N w g gs ps) : g < w.heap.size := (Array.getElem?_eq_some_iff.1 h.heap).1
theorem Gr.below {N g : Nat} {w w' : World} {gs : Array Value} {ps : List (List Pw)} (h : Gr N w g gs ps) (hb : Below w.heap.size w w') : Gr N w' g gs ps :=
  ⟨(hb.block g h.lt).trans h.heap, h.size, h.low, fun i v p h1 h2 => (h.own i v p h1 h2).below hb, h.apart⟩
theorem Gr.cell {N g : Nat} {w : World} {gs : Array Value} {ps : List (List Pw)} (h : Gr N w g gs ps) {j : Nat} {v : Value} (hj : gs[j]? = some v) : w.cell? ⟨g, j, none⟩ = some v ∧ w.frozen? ⟨g, j, none⟩ = false := by
  refine ⟨by rw [cell_of_row w g j _ _ _ h.heap]; exact hj, ?_⟩
  have := h.heap
  simp [World.frozen?, this]
theorem Gr.ne {N g : Nat} {w : World} {gs : Array Value} {ps : List (List Pw)} (h : Gr N w g gs ps) : (∀ cs fr, w.heap[g]? ≠ some (.cells cs 48 fr)) ∧ ∀ cs fr, w.heap[g]? ≠ some (.cells cs 9 fr) := by
  refine ⟨fun cs fr e => ?_, fun cs fr e => ?_⟩ <;>
  · rw [h.heap] at e
    injection e with e
    injection e with _ ht
    exact absurd ht (by decide)
theorem Gr.put {N g j : Nat} {w w1 : World} {gs : Array Value} {ps : List (List Pw)} {v v' : Value} {p : List Pw} {x : Pw} (h : Gr N w g gs ps) (hv : gs[j]? = some v) (hp : ps[j]? = some p) (hg : w.grownBy w1 v.ownBlock) (ho : Po N w1 v' (p ++ [x]))
    (hb : ∀ b, v'.ownBlock = some b → v.ownBlock = some b ∨ w.heap.size ≤ b) : Gr N (w1.setCell ⟨g, j, none⟩ v') g (gs.setIfInBounds j v') (ps.set j (p ++ [x])) := by
  have hjl : j < gs.size := (Array.getElem?_eq_some_iff.1 hv).1
  have hov := h.own j v p hv hp
  have hgne : some g ≠ v.ownBlock := fun e => by
    rcases hov.1.2 with ⟨e1, _⟩ | ⟨b, cap, cur, e1, _, hh, _⟩
    · subst e1
      simp [Value.ownBlock] at e
    · subst e1
      have e : g = b := by simpa [Value.ownBlock] using e
      subst e
      exact h.ne.1 _ _ hh
  have h1 : w1.heap[g]? = some (.cells gs 24) := (hg.block g h.lt hgne).trans h.heap
  have hne1 : (∀ cs fr, w1.heap[g]? ≠ some (.cells cs 48 fr)) ∧ ∀ cs fr, w1.heap[g]? ≠ some (.cells cs 9 fr) := by
    rw [h1, ← h.heap]
    exact h.ne
  refine ⟨?_, by rw [Array.size_setIfInBounds, List.length_set]; exact h.size, h.low, fun i u q hu hq => ?_, fun i i2 u u2 b hu hu2 hii hub => ?_⟩
  · simp [World.setCell, Array.getElem?_modify, h1, Array.setIfInBounds, hjl]
  · refine po_aside ?_ (gcell12 w1 g j v') h.low hne1.1 hne1.2
    by_cases hij : i = j
    · subst hij
      rw [Array.getElem?_setIfInBounds_self_of_lt hjl] at hu
      rw [List.getElem?_set_self (by rw [← h.size]; exact hjl)] at hq
      injection hu with hu
      injection hq with hq
      subst hu hq
      exact ho
    · rw [Array.getElem?_setIfInBounds_ne (Ne.symm hij)] at hu
      rw [List.getElem?_set_ne (Ne.symm hij)] at hq
      exact po_beside (h.own i u q hu hq) hov hg fun b hb => h.apart i j u v b hu hv hij hb
  · by_cases hij : i = j
    · subst hij
      rw [Array.getElem?_setIfInBounds_self_of_lt hjl] at hu
      injection hu with hu
      subst hu
      rw [Array.getElem?_setIfInBounds_ne hii] at hu2
      rcases hb b hub with e | e
      · exact h.apart i i2 v u2 b hv hu2 hii e
      · intro e2
        have hlt : i2 < ps.length := by rw [← h.size]; exact (Array.getElem?_eq_some_iff.1 hu2).1
        have := (World.ownsRow.lt (h.own i2 u2 _ hu2 (List.getElem?_eq_getElem hlt)).1 b e2).2
        omega
    · rw [Array.getElem?_setIfInBounds_ne (Ne.symm hij)] at hu
      by_cases hij2 : i2 = j
      · subst hij2
        rw [Array.getElem?_setIfInBounds_self_of_lt hjl] at hu2
        injection hu2 with hu2
        subst hu2
        intro e2
        rcases hb b e2 with e | e
        · exact h.apart i i2 u v b hu hv hii hub e
        · have hlt : i < ps.length := by rw [← h.size]; exact (Array.getElem?_eq_some_iff.1 hu).1
          have := (World.ownsRow.lt (h.own i u _ hu (List.getElem?_eq_getElem hlt)).1 b hub).2
          omega
      · rw [Array.getElem?_setIfInBounds_ne (Ne.symm hij2)] at hu2
        exact h.apart i i2 u u2 b hu hu2 hii hub

end Go.Proofs.Ytgjlfcamgkeibaa.Co

namespace Go.Proofs.Ytgjlfcamgkeibaa.Co
set_option maxRecDepth 100000
set_option linter.unusedVariables false
set_option linter.unusedSimpArgs false
open Go.RowKit Ba Fm Fo Nm Rk
theorem made_at (n i : Nat) (h : i < n) : (madeCells #[Value.slice none 0 0] n)[i]? = some (.slice none 0 0) := by
  unfold madeCells
  rw [Array.getElem?_map, Array.getElem?_range, if_pos h]
  simp [Nat.mod_one]
theorem Gr.made (N : Nat) (w : World) (hN : N ≤ w.heap.size) (es : List ByteArray) : Gr N (w.alloc (.cells (madeCells #[.slice none 0 0] es.length) 24)) w.heap.size (madeCells #[.slice none 0 0] es.length) (es.map (pickW [])) := by
  have hz : ∀ (i : Nat) v, (madeCells #[Value.slice none 0 0] es.length)[i]? = some v → v = .slice none 0 0 := fun i v hv => by
    have hi : i < es.length := by
      have := (Array.getElem?_eq_some_iff.1 hv).1
      rwa [size_madeCells] at this
    rw [made_at _ _ hi] at hv
    injection hv with hv
    exact hv.symm
  refine ⟨heap_alloc_new w _, by rw [size_madeCells, List.length_map], hN, fun i v p hv hp => ?_, fun i j v u b hv _ _ hb => ?_⟩
  · have := hz i v hv
    subst this
    rw [List.getElem?_map] at hp
    obtain ⟨e, _, rfl⟩ := Option.map_eq_some_iff.1 hp
    exact Po.nil _ _
  · have := hz i v hv
    subst this
    simp [Value.ownBlock] at hb
end Go.Proofs.Ytgjlfcamgkeibaa.Co

namespace Go.Proofs.Ytgjlfcamgkeibaa.Co
set_option maxRecDepth 100000
set_option linter.unusedVariables false
set_option linter.unusedSimpArgs false
open Go.RowKit Ba Fm Fo Nm Rk
end Go.Proofs.Ytgjlfcamgkeibaa.Co

namespace Go.Proofs.Ytgjlfcamgkeibaa.Co
set_option maxRecDepth 100000
set_option linter.unusedVariables false
set_option linter.unusedSimpArgs false
open Go.RowKit Ba Fm Fo Nm Rk
end Go.Proofs.Ytgjlfcamgkeibaa.Co

namespace Go.Proofs.Ytgjlfcamgkeibaa.Co
set_option maxRecDepth 100000
set_option linter.unusedVariables false
set_option linter.unusedSimpArgs false
open Go.RowKit Ba Fm Fo Nm Rk
theorem all1 (w : World) : Calls Try.prog 35 #[] w fun r w' => ∃ v', r = .returned v' ∧ Cow w.heap.size w' v' allC ∧ Below w.heap.size w w' := by
  have hb := below_new12 w (.cells #[.bool false, .bool false, .slice none 0 0, .slice none 0 0, .slice none 0 0, .slice none 0 0, .bool true, .bool false] 26)
  have ho : ∀ w', Own12 w.heap.size w' allC (.slice none 0 0) (.slice none 0 0) (.slice none 0 0) (.slice none 0 0) [] := fun w' => ⟨Sown.nil _ _, Sown.nil _ _, Sown.nil _ _, Po.nil _ _, (fun x hx => by cases hx), rfl⟩
  have hc : ∀ w', Cow w.heap.size w' (.agg #[.bool false, .bool false, .slice none 0 0, .slice none 0 0, .slice none 0 0, .slice none 0 0, .bool true, .bool false]) allC := fun w' => ⟨_, _, _, _, _, rfl, ho w'⟩
  have HC := Lib.hid hc; have HB := Lib.hid hb
  clear ho hc hb
  go_enter Try.func35, Try.ntmps35
  go_wp2
  exact bodyPost_ret (v := .agg #[.bool false, .bool false, .slice none 0 0, .slice none 0 0, .slice none 0 0, .slice none 0 0, .bool true, .bool false]) (by simp [results, Try.f35, go_sem]) rfl ⟨_, rfl, HC.out _, HB.out⟩

/-- Names written down, in a block of their own. -/
theorem lit_own (w u : World) (l : List ByteArray) (N k : Nat) (hl : l.length ≤ 1000) (hk : k = w.heap.size) (hN : N ≤ k) (hb : Below (w.alloc (.cells (l.map sc).toArray 9)).heap.size (w.alloc (.cells (l.map sc).toArray 9)) u) : Sown N u (.slice (some ⟨k, 0, none⟩) l.length l.length) l := by
  subst hk
  exact ((own_lit12 w l hl).below hb (Nat.le_refl _)).mono hN
def pHref : List ByteArray := [⟨#[104, 114, 101, 102]⟩]
def pSrc : List ByteArray := [⟨#[115, 114, 99]⟩]
def pSpan : List ByteArray := [⟨#[99, 111, 108, 115, 112, 97, 110]⟩, ⟨#[114, 111, 119, 115, 112, 97, 110]⟩]
def pList (k : Nat) : List Pw := [⟨⟨⟨#[97]⟩, pHref⟩, some ⟨k + 1 + 1, 0, none⟩, 1⟩, ⟨⟨⟨#[105, 109, 103]⟩, pSrc⟩, some ⟨k + 1 + 1 + 1, 0, none⟩, 1⟩, ⟨⟨⟨#[116, 100]⟩, pSpan⟩, some ⟨k + 1 + 1 + 1 + 1, 0, none⟩, 2⟩]
def plainW (u : World) (k : Nat) : World := (((((u.alloc (.cells (plainEls.map sc).toArray 9)).alloc (.cells (plainAts.map sc).toArray 9)).alloc (.cells (pHref.map sc).toArray 9)).alloc (.cells (pSrc.map sc).toArray 9)).alloc (.cells (pSpan.map sc).toArray 9)).alloc (.cells ((pList k).flatMap pcells).toArray 48)
theorem below_step {w u : World} {o : Obj} (h : Below (w.alloc o).heap.size (w.alloc o) u) : Below w.heap.size w u := (below_new12 w o).trans (h.mono (below_new12 w o).size)
theorem plain_own (u : World) (N k : Nat) (hk : k = u.heap.size) (hN : N ≤ k) : Own12 N (plainW u k) plainC (.slice (some ⟨k, 0, none⟩) 36 36) (.slice none 0 0) (.slice (some ⟨k + 1, 0, none⟩) 8 8) (.slice (some ⟨k + 1 + 1 + 1 + 1 + 1, 0, none⟩) 3 3) (pList k) ∧ Below u.heap.size u (plainW u k) := by
  unfold plainW
  have h6 : Below ((((((u.alloc (.cells (plainEls.map sc).toArray 9)).alloc (.cells (plainAts.map sc).toArray 9)).alloc (.cells (pHref.map sc).toArray 9)).alloc (.cells (pSrc.map sc).toArray 9)).alloc (.cells (pSpan.map sc).toArray 9)).alloc (.cells ((pList k).flatMap pcells).toArray 48)).heap.size ((((((u.alloc (.cells (plainEls.map sc).toArray 9)).alloc (.cells (plainAts.map sc).toArray 9)).alloc (.cells (pHref.map sc).toArray 9)).alloc (.cells (pSrc.map sc).toArray 9)).alloc (.cells (pSpan.map sc).toArray 9)).alloc (.cells ((pList k).flatMap pcells).toArray 48)) ((((((u.alloc (.cells (plainEls.map sc).toArray 9)).alloc (.cells (plainAts.map sc).toArray 9)).alloc (.cells (pHref.map sc).toArray 9)).alloc (.cells (pSrc.map sc).toArray 9)).alloc (.cells (pSpan.map sc).toArray 9)).alloc (.cells ((pList k).flatMap pcells).toArray 48)) := Below.refl _ _
  have h5 := below_step h6
  have h4 := below_step h5
  have h3 := below_step h4
  have h2 := below_step h3
  have h1 := below_step h2
  have hf : ∀ x ∈ pList k, Fp N ((((((u.alloc (.cells (plainEls.map sc).toArray 9)).alloc (.cells (plainAts.map sc).toArray 9)).alloc (.cells (pHref.map sc).toArray 9)).alloc (.cells (pSrc.map sc).toArray 9)).alloc (.cells (pSpan.map sc).toArray 9)).alloc (.cells ((pList k).flatMap pcells).toArray 48)) x := fun x hx => by
    simp only [pList, List.mem_cons, List.not_mem_nil, or_false] at hx
    rcases hx with rfl | rfl | rfl
    · exact lit_own _ _ pHref N (k + 1 + 1) (by decide) (by simp [hk]) (by omega) h3
    · exact lit_own _ _ pSrc N (k + 1 + 1 + 1) (by decide) (by simp [hk]) (by omega) h4
    · exact lit_own _ _ pSpan N (k + 1 + 1 + 1 + 1) (by decide) (by simp [hk]) (by omega) h5
  refine ⟨⟨lit_own _ _ plainEls N k (by decide) hk hN h1, Sown.nil _ _, lit_own _ _ plainAts N (k + 1) (by decide) (by simp [hk]) (by omega) h2, po_of ?_ hf, hf, rfl⟩, below_step h1⟩
  have := World.ownsRow_lit (e := 48) (size := 2) (base := N) ((((((u.alloc (.cells (plainEls.map sc).toArray 9)).alloc (.cells (plainAts.map sc).toArray 9)).alloc (.cells (pHref.map sc).toArray 9)).alloc (.cells (pSrc.map sc).toArray 9)).alloc (.cells (pSpan.map sc).toArray 9))) ((pList k).flatMap pcells).toArray 3 (by simp; omega) (by decide) rfl
  simp only [World.size_alloc, ← hk] at this
  exact this
set_option maxRecDepth 100000 in
theorem plain1 (w : World) : Calls Try.prog 55 #[] w fun r w' => ∃ v', r = .returned v' ∧ Cow w.heap.size w' v' plainC ∧ Below w.heap.size w w' := by
  have hp := fun O => plain_own (w.alloc O) w.heap.size (w.heap.size + 1) (by simp) (by omega)
  have hb := fun O => below_new12 w O
  have HP := Lib.hid hp; have HB := Lib.hid hb
  clear hp hb
  go_enter Try.func55, Try.ntmps55
  go_wp2
  refine bodyPost_ret (v := .agg #[.bool true, .bool true, .slice (some ⟨w.heap.size + 1, 0, none⟩) 36 36, .slice none 0 0, .slice (some ⟨w.heap.size + 1 + 1, 0, none⟩) 8 8, .slice (some ⟨w.heap.size + 1 + 1 + 1 + 1 + 1 + 1, 0, none⟩) 3 3, .bool false, .bool false]) ?_ rfl ⟨_, rfl, ⟨_, _, _, _, _, rfl, (HP.out _).1⟩, (HB.out _).trans ((HP.out _).2.mono (HB.out _).size)⟩
  simp [results, Try.f55, go_sem]
end Go.Proofs.Ytgjlfcamgkeibaa.Co

namespace Go.Proofs.Ytgjlfcamgkeibaa.Na
set_option maxRecDepth 100000
set_option linter.unusedSimpArgs false
set_option linter.unusedVariables false
open Go.RowKit Ba Fm Fo Nm
theorem bad_eq (c : UInt8) (at_ : Bool) : (if at_ = true then atB c else elB c) = !(sp c || (decide ((65 : Int) ≤ c.toNat) && decide ((c.toNat : Int) ≤ 90)) || c == 0 || c == 47 || c == 62 || (at_ && (c == 34 || c == 39 || c == 60 || c == 61))) := by
  unfold atB elB
  rw [← u8_range]
  cases at_ <;> cases sp c <;> cases (decide ((65 : UInt8) ≤ c) && decide (c ≤ 90)) <;> cases (c == 0) <;> cases (c == 47) <;> cases (c == 62) <;> cases (c == 34) <;> cases (c == 39) <;> cases (c == 60) <;> cases (c == 61) <;> rfl

/-- One byte that no name has. -/
def badB (c : UInt8) (a : Bool) : Bool := !(if a = true then atB c else elB c)

set_option maxHeartbeats 4000000 in
theorem bad_any (c : UInt8) (a : Bool) (w : World) :
    Calls Try.prog 112 #[.int .u8 c.toNat, .bool a] w fun e w' => e = .returned (.bool (badB c a)) ∧ w = w' := by
  have e0 : ((c.toNat : Int) == 0) = (c == 0) := u8_eq (b := 0)
  have e47 : ((c.toNat : Int) == 47) = (c == 47) := u8_eq (b := 47)
  have e62 : ((c.toNat : Int) == 62) = (c == 62) := u8_eq (b := 62)
  have e34 : ((c.toNat : Int) == 34) = (c == 34) := u8_eq (b := 34)
  have e39 : ((c.toNat : Int) == 39) = (c == 39) := u8_eq (b := 39)
  have e60 : ((c.toNat : Int) == 60) = (c == 60) := u8_eq (b := 60)
  have e61 : ((c.toNat : Int) == 61) = (c == 61) := u8_eq (b := 61)
  have he : badB c a = (sp c || (decide ((65 : Int) ≤ c.toNat) && decide ((c.toNat : Int) ≤ 90)) || c == 0 || c == 47 || c == 62 || (a && (c == 34 || c == 39 || c == 60 || c == 61))) := by unfold badB; rw [bad_eq, Bool.not_not]
  obtain ⟨q, hq⟩ : ∃ q, badB c a = q := ⟨_, rfl⟩
  rw [hq] at he ⊢
  clear hq
  obtain ⟨b0, h0⟩ : ∃ b, (c == 0) = b := ⟨_, rfl⟩
  obtain ⟨b47, h47⟩ : ∃ b, (c == 47) = b := ⟨_, rfl⟩
  obtain ⟨b62, h62⟩ : ∃ b, (c == 62) = b := ⟨_, rfl⟩
  obtain ⟨b34, h34⟩ : ∃ b, (c == 34) = b := ⟨_, rfl⟩
  obtain ⟨b39, h39⟩ : ∃ b, (c == 39) = b := ⟨_, rfl⟩
  obtain ⟨b60, h60⟩ : ∃ b, (c == 60) = b := ⟨_, rfl⟩
  obtain ⟨b61, h61⟩ : ∃ b, (c == 61) = b := ⟨_, rfl⟩
  rw [h0] at e0
  rw [h47] at e47
  rw [h62] at e62
  rw [h34] at e34
  rw [h39] at e39
  rw [h60] at e60
  rw [h61] at e61
  rw [h0, h47, h62, h34, h39, h60, h61] at he
  clear h0 h47 h62 h34 h39 h60 h61
  obtain ⟨g, hg⟩ : ∃ g, sp c = g := ⟨_, rfl⟩
  obtain ⟨r1, hr1⟩ : ∃ r, decide ((65 : Int) ≤ c.toNat) = r := ⟨_, rfl⟩
  obtain ⟨r2, hr2⟩ : ∃ r, decide ((c.toNat : Int) ≤ 90) = r := ⟨_, rfl⟩
  rw [hg, hr1, hr2] at he
  have HG := Lib.hid hg; have HE := Lib.hid he
  clear hg he
  cases g with
  | true =>
    go_enter Try.func112, Try.ntmps112
    go_wp2_with (go_at_call 120; refine (refSpace_any c _).mono ?_; rw [HG.out]; rintro e w' ⟨rfl, rfl⟩)
    go_ret
    exact ⟨ret_bool (by rw [HE.out]; simp), rfl⟩
  | false =>
    go_enter Try.func112, Try.ntmps112
    go_wp2_with (go_at_call 120; refine (refSpace_any c _).mono ?_; rw [HG.out]; rintro e w' ⟨rfl, rfl⟩)
    all_goals
      go_ret
      exact ⟨ret_bool (by rw [HE.out]; simp [*]), rfl⟩

/-- No byte is bad. -/
def noBad (s : ByteArray) (a : Bool) : Bool := (L s).all fun c => !badB c a
def mayB (s : ByteArray) (a : Bool) : Bool := if a = true then attrB s else rightB s
theorem noBad_eq (s : ByteArray) (a : Bool) : noBad s a = if a = true then atBAll s else elBAll s := by
  unfold noBad badB atBAll elBAll
  cases a <;> simp
theorem may_nil {s : ByteArray} (a : Bool) (h : s.size = 0) : mayB s a = false := by
  unfold mayB
  rw [attrB_nil h, rightB_nil h]
  cases a <;> rfl
theorem may_cons {s : ByteArray} (a : Bool) (h : 0 < s.size) : mayB s a = (noBad s a && (a || (decide ((97 : Int) ≤ s[0].toNat) && decide ((s[0].toNat : Int) ≤ 122)))) := by
  rw [noBad_eq, ← u8_small]
  unfold mayB
  rw [attrB_cons (by omega), rightB_cons h]
  cases a
  · simp [Bool.and_comm]
  · simp

set_option maxHeartbeats 2000000 in
theorem may_any (s : ByteArray) (a : Bool) (w : World) (hs : s.size ≤ 140737488355328) :
    Calls Try.prog 92 #[.string s, .bool a] w fun e w' => e = .returned (.bool (mayB s a)) ∧ w = w' := by
  go_enter Try.func92, Try.ntmps92
  go_wp2
  go_loop [5] (fun i => ∃ k : Nat, i = .int .i64 k ∧ k ≤ s.size ∧ ((L s).take k).all (fun c => !badB c a) = true) (fun i => s.size - (intOf i).toNat)
  case atStart => exact ⟨0, rfl, Nat.zero_le _, by simp⟩
  case round =>
    obtain ⟨k, rfl, hks, hn⟩ := hrel
    by_cases hp : k < s.size
    · have hsn := all_snoc (fun c => !badB c a) s k hp
      rw [hn] at hsn
      cases hb : badB s[k] a with
      | false =>
        rw [hb] at hsn
        have HB := Lib.hid hb; have HS := Lib.hid hsn; clear hb hsn hn
        go_wp2_with (go_at_call 112; refine (bad_any s[k] a _).mono ?_; rw [HB.out]; rintro e w' ⟨rfl, rfl⟩)
        go_round
        case rel => exact ⟨k + 1, by go_num, by omega, HS.out⟩
        case measure => simp [intOf]; omega
      | true =>
        have hno : noBad s a = false := all_no (fun c => !badB c a) s k hp (by rw [hb]; rfl)
        have hm : mayB s a = false := by rw [may_cons a (by omega), hno]; rfl
        have HB := Lib.hid hb; have HN := Lib.hid hm; clear hb hsn hn hno hm
        go_wp2_with (go_at_call 112; refine (bad_any s[k] a _).mono ?_; rw [HB.out]; rintro e w' ⟨rfl, rfl⟩)
        go_ret
        exact ⟨ret_bool HN.out.symm, rfl⟩
    · rw [List.take_of_length_le (by rw [size_L]; omega)] at hn
      by_cases h0 : s.size = 0
      · have hm := may_nil a h0
        have HN := Lib.hid hm; clear hn hm
        have hd : decide ((0 : Int) < (s.size : Int)) = false := decide_eq_false (by omega)
        go_wp2
        go_ret
        exact ⟨ret_bool HN.out.symm, rfl⟩
      · have h1 : 0 < s.size := by omega
        have hm := may_cons a h1
        rw [show noBad s a = true from hn, Bool.true_and] at hm
        obtain ⟨r1, hr1⟩ : ∃ r, decide ((97 : Int) ≤ s[0].toNat) = r := ⟨_, rfl⟩
        obtain ⟨r2, hr2⟩ : ∃ r, decide ((s[0].toNat : Int) ≤ 122) = r := ⟨_, rfl⟩
        rw [hr1, hr2] at hm
        have HM := Lib.hid hm
        clear hm hn h0
        go_wp2
        all_goals
          go_ret
          exact ⟨ret_bool (by have hm := HM.out; clear hr1 hr2; simp_all), rfl⟩

end Go.Proofs.Ytgjlfcamgkeibaa.Na

namespace Go.Proofs.Ytgjlfcamgkeibaa.Co
set_option maxRecDepth 100000
set_option linter.unusedVariables false
set_option linter.unusedSimpArgs false
open Go.RowKit Ba Fm Fo Nm Rk
theorem all_snocL (p : ByteArray → Bool) (l : List ByteArray) (k : Nat) (h : k < l.length) : (l.take (k + 1)).all p = ((l.take k).all p && p l[k]) := by
  rw [List.take_succ_eq_append_getElem h, List.all_append]
  simp
theorem all_noL {p : ByteArray → Bool} {l : List ByteArray} {k : Nat} (h : k < l.length) (hp : p l[k] = false) : l.all p = false := by
  rw [List.all_eq_false]
  exact ⟨l[k], List.getElem_mem h, by simp [hp]⟩
set_option maxHeartbeats 1000000 in
theorem refMay1 (v : Value) (l : List ByteArray) (a : Bool) (N : Nat) (w : World) (q : Bool) (h : Sv w N v l) (hl : l.length ≤ 1000000) (hsz : ∀ s ∈ l, s.size ≤ 140737488355328) (hq : l.all (fun s => Na.mayB s a) = q) :
    Calls Try.prog 52 #[v, .bool a] w fun e w' => e = .returned (.bool q) ∧ w = w' := by
  obtain ⟨A, c, rfl, hc, hna, hr⟩ := h
  have HSZ := Lib.hid hsz; have HQ := Lib.hid hq; clear hsz hq
  go_enter Try.func52, Try.ntmps52
  go_wp2
  go_loopw [5] (fun i wr => ∃ k : Nat, i = .int .i64 k ∧ k ≤ l.length ∧ (l.take k).all (fun s => Na.mayB s a) = true ∧ w = wr) (fun i _ => l.length - (intOf i).toNat)
  case atStart => exact ⟨0, rfl, Nat.zero_le _, rfl, rfl⟩
  case round =>
    obtain ⟨k, rfl, hks, hn, rfl⟩ := hrel
    by_cases hk : k < l.length
    · obtain ⟨b, off, rfl, _, hcc⟩ := hr (by omega)
      have hcell := hcc k hk
      have hxs := HSZ.out _ (List.getElem_mem hk)
      have hsn := all_snocL (fun s => Na.mayB s a) l k hk
      rw [hn, Bool.true_and] at hsn
      have hno := fun h => all_noL (p := fun s => Na.mayB s a) hk h
      generalize l[k] = x at *
      clear hcc hr hn
      cases hm : Na.mayB x a with
      | true =>
        have HM := Lib.hid hm; have HS := Lib.hid (hsn.trans hm); clear hm hsn hno
        go_wp2_with (go_at_call 92; refine (Na.may_any x a _ hxs).mono ?_; rw [HM.out]; rintro e w' ⟨rfl, rfl⟩)
        go_roundw
        case rel => exact ⟨k + 1, by go_num, by omega, HS.out, by trivial⟩
        case measure => simp [intOf]; omega
      | false =>
        have HM := Lib.hid hm; have HN := Lib.hid (hno hm); clear hm hsn hno
        go_wp2_with (go_at_call 92; refine (Na.may_any x a _ hxs).mono ?_; rw [HM.out]; rintro e w' ⟨rfl, rfl⟩)
        go_ret
        exact ⟨ret_bool (by rw [← HQ.out, HN.out]), rfl⟩
    · rw [List.take_of_length_le (by omega), HQ.out] at hn
      subst hn
      go_wp2
      go_ret
      exact ⟨rfl, rfl⟩
set_option maxHeartbeats 2000000 in
theorem refOnce1 (v : Value) (l : List ByteArray) (w : World) (q : Bool) (h : Sv w w.heap.size v l) (hl : l.length ≤ 1000000) (hq : onceB l = q) :
    Calls Try.prog 53 #[v] w fun e w' => e = .returned (.bool q) ∧ Below w.heap.size w w' := by
  obtain ⟨A, c, rfl, hlc, hna, hr⟩ := h
  have HQ := Lib.hid hq; clear hq
  go_enter Try.func53, Try.ntmps53
  go_wp2
  go_loopw [3] (fun i wr => ∃ k : Nat, i = .int .i64 k ∧ k ≤ l.length ∧ (l.take k).Nodup ∧ Below w.heap.size w wr) (fun i _ => l.length - (intOf i).toNat)
  case atStart => exact ⟨0, rfl, Nat.zero_le _, by simp, Below.refl _ _⟩
  case round =>
    obtain ⟨k, rfl, hks, hn, hbel⟩ := hrel
    by_cases hk : k < l.length
    · obtain ⟨b0, off, rfl, hb0, hcc⟩ := hr (by omega)
      have hcell : wr.cell? ⟨b0, off + k, none⟩ = some (.string l[k]) := (hbel.cell (p := ⟨b0, off + k, none⟩) hb0).trans (hcc k hk)
      have hr1 := hr.below hbel (Nat.le_refl _)
      have h1 : Sv wr w.heap.size (.slice (some ⟨b0, off, none⟩) k c) (l.take k) := ⟨_, c, by rw [List.length_take, Nat.min_eq_left hks], by rw [List.length_take]; omega, hna, hr1.take k⟩
      obtain ⟨m, hm⟩ : ∃ m, isIn l[k] (l.take k) = m := ⟨_, rfl⟩
      have HM := Lib.hid (has_q _ _ (l.take k) l[k] wr m h1 (by rw [List.length_take]; omega) hm)
      have HI := Lib.hid hm; have HN := Lib.hid hn
      have hk0 : (0 : Int) ≤ (k : Int) := by omega
      have hk1 : (k : Int) ≤ (c : Int) := by omega
      have hk2 : (k : Int) < (l.length : Int) := by omega
      have hck : ¬ c = k := by omega
      cases m with
      | true =>
        have HF := Lib.hid (show onceB l = false from decide_eq_false (once_no hk (isIn_of HI.out)))
        clear h1 hm hn hcc hr hr1
        go_wp2
        go_quiet ((go_at_call 61; exact HM.out _))
        go_wp2
        go_ret
        exact ⟨ret_bool (by rw [← HQ.out, HF.out]), below_dN hbel _⟩
      | false =>
        have HN1 := Lib.hid (once_snoc hk HN.out (notIn_of HI.out))
        clear h1 hm hn hcc hr hr1
        go_wp2
        go_quiet ((go_at_call 61; exact HM.out _))
        go_wp2
        go_roundw
        case rel => exact ⟨k + 1, by go_num, by omega, HN1.out, below_dN hbel _⟩
        case measure => simp [intOf]; omega
    · rw [List.take_of_length_le (by omega)] at hn
      have hq : true = q := by rw [← HQ.out]; exact (decide_eq_true hn).symm
      subst hq
      go_wp2
      go_ret
      exact ⟨rfl, hbel⟩
set_option maxHeartbeats 1000000 in
theorem refMeet1 (va vb : Value) (N M : Nat) (a b : List ByteArray) (w : World) (q : Bool) (ha : Sv w N va a) (hb : Sv w M vb b) (hla : a.length ≤ 1000000) (hlb : b.length ≤ 1000000) (hq : meetB a b = q) :
    Calls Try.prog 54 #[va, vb] w fun e w' => e = .returned (.bool q) ∧ w = w' := by
  obtain ⟨A, c, rfl, _, _, hr⟩ := ha
  have HB := Lib.hid hb; have HQ := Lib.hid hq; clear hb hq
  go_enter Try.func54, Try.ntmps54
  go_wp2
  go_loopw [5] (fun i wr => ∃ k : Nat, i = .int .i64 k ∧ k ≤ a.length ∧ meetB (a.take k) b = false ∧ w = wr) (fun i _ => a.length - (intOf i).toNat)
  case atStart => exact ⟨0, rfl, Nat.zero_le _, rfl, rfl⟩
  case round =>
    obtain ⟨k, rfl, hks, hn, rfl⟩ := hrel
    by_cases hk : k < a.length
    · obtain ⟨b0, off, rfl, _, hcc⟩ := hr (by omega)
      have hcell := hcc k hk
      have hsn := any_snoc' (fun x => isIn x b) a k hk
      have hn' : (a.take k).any (fun x => isIn x b) = false := hn
      rw [hn', Bool.false_or] at hsn
      have hxm := List.getElem_mem hk
      generalize a[k] = x at *
      clear hcc hr hn hn'
      cases hm : isIn x b with
      | true =>
        have HM := Lib.hid hm; have HF := Lib.hid (show meetB a b = true from meet_iff.2 ⟨x, hxm, isIn_of hm⟩); clear hm hsn
        go_wp2_with (go_at_call 61; refine (has1 vb M b x _ true HB.out (by omega) HM.out).mono ?_; rintro e w' ⟨rfl, rfl⟩)
        go_ret
        exact ⟨ret_bool (by rw [← HQ.out, HF.out]), rfl⟩
      | false =>
        have HM := Lib.hid hm; have HS := Lib.hid (show meetB (a.take (k + 1)) b = false from hsn.trans hm); clear hm hsn
        go_wp2_with (go_at_call 61; refine (has1 vb M b x _ false HB.out (by omega) HM.out).mono ?_; rintro e w' ⟨rfl, rfl⟩)
        go_roundw
        case rel => exact ⟨k + 1, by go_num, by omega, HS.out, by trivial⟩
        case measure => simp [intOf]; omega
    · rw [List.take_of_length_le (by omega), HQ.out] at hn
      subst hn
      go_wp2
      go_ret
      exact ⟨rfl, rfl⟩
theorem els_snoc {l : List Pw} {k : Nat} {x : Pw} (h : l[k]? = some x) : (pes (l.take (k + 1))).map Pe.el = (pes (l.take k)).map Pe.el ++ [x.pe.el] := by
  have hk : k < l.length := (List.getElem?_eq_some_iff.1 h).1
  have hx : l[k] = x := (List.getElem?_eq_some_iff.1 h).2
  rw [List.take_succ_eq_append_getElem hk, pes_append, hx, List.map_append]
  rfl
set_option maxHeartbeats 2000000 in
theorem refOf1 (v : Value) (c : Cf) (w : World) (h : Cv w w.heap.size v c) (hs : Sm c) :
    Calls Try.prog 37 #[v] w fun r w' => ∃ v', r = .returned v' ∧ Sown w.heap.size w' v' (c.per.map Pe.el) ∧ Below w.heap.size w w' := by
  obtain ⟨vE, vR, vA, vP, l, rfl, h⟩ := h
  obtain ⟨w0, hw0⟩ : ∃ w0, (w.alloc (confO c vE vR vA vP)).alloc (.cells #[] 9) = w0 := ⟨_, rfl⟩
  have hba := below_new12 w (confO c vE vR vA vP)
  have hb1 : Below w.heap.size w w0 := hw0 ▸ hba.trans ((below_new12 _ _).mono hba.size)
  have hbx : Bx w0 w.heap.size c vE vR vA vP := hw0 ▸ (Bx.new w c vE vR vA vP).below (below_new12 _ _) (by simp)
  have hz : w0.heap.size = w.heap.size + 2 := by rw [← hw0]; simp
  have hm0 : Sown (w.heap.size + 1) w0 (.slice (some ⟨w.heap.size + 1, 0, none⟩) 0 0) [] := by
    have := Sown.made (w.alloc (confO c vE vR vA vP))
    rw [World.size_alloc] at this
    exact hw0 ▸ this
  obtain ⟨A, cp, rfl, hcp, hna, hr⟩ := h.p
  have hpl : c.per.length = l.length := by rw [← h.m, len_pes]
  have hl : l.length ≤ 1000 := by have := hs.p; omega
  have HM := Lib.hid h.m; have HR := Lib.hid hr; have HB1 := Lib.hid hb1; have HBX := Lib.hid hbx; have HW := Lib.hid hw0
  clear h hs hr hb1 hbx hw0 hba hpl
  go_enter Try.func37, Try.ntmps37
  go_upto_region 2 with (fail)
  rw [HW.out]
  go_wp2
  go_loopw [3, 4] (fun v i wr => ∃ k : Nat, i = .int .i64 k ∧ k ≤ l.length ∧ Sown (w.heap.size + 1) wr v ((pes (l.take k)).map Pe.el) ∧ Below (w.heap.size + 1) w0 wr) (fun _ i _ => l.length - (intOf i).toNat)
  case atStart => exact ⟨0, rfl, Nat.zero_le _, hm0, Below.refl _ _⟩
  case round =>
    clear hm0
    obtain ⟨k, rfl, hks, hown, hbel⟩ := hrel
    have g5 := (HBX.out.below hbel (by omega)).at_.2.2.2.2.2.1
    have hbw : Below w.heap.size w wr := HB1.out.trans (hbel.mono (Nat.le_succ _))
    by_cases hk : k < l.length
    · obtain ⟨b, off, x, rfl, hb, hx, hcs, hsx, hxm⟩ := (HR.out.below hbw).at_ k hk
      obtain ⟨k0, k1⟩ := range2p hcs
      have hbd : (((pes (l.take k)).map Pe.el).length + 1) * 16 ≤ 140737488355328 := by
        rw [List.length_map, len_pes, List.length_take]
        omega
      have hsz : w.heap.size + 1 ≤ wr.heap.size := Nat.le_trans (by omega) hbel.size
      have HE := Lib.hid (els_snoc hx); have HO := Lib.hid hown; have HBL := Lib.hid hbel
      clear hcs hsx hown hbel hbw hx
      go_wp2_with (at_builtin; refine app_one wr rfl (.tmp 13) (.tmp 20) rfl (w.heap.size + 1) _ _ x.pe.el rfl HO.out rfl hbd hsz ?_; intro v3 w3 hown3 hk3 _)
      go_roundw
      case rel => exact ⟨k + 1, by go_num, by omega, by rw [HE.out]; exact hown3, hk3 _ HBL.out⟩
      case measure => simp [intOf]; omega
    · rw [List.take_of_length_le (by omega), HM.out] at hown
      have HO := Lib.hid (hown.mono (Nat.le_succ _)); have HBW := Lib.hid hbw
      clear hown hbel hbw
      go_wp2
      go_ret
      exact ⟨_, rfl, HO.out, HBW.out⟩

end Go.Proofs.Ytgjlfcamgkeibaa.Co

namespace Go.Proofs.Ytgjlfcamgkeibaa.Fo
set_option maxRecDepth 100000
set_option linter.unusedSimpArgs false
set_option linter.unusedVariables false
open Go.RowKit Ba Fm
end Go.Proofs.Ytgjlfcamgkeibaa.Fo

namespace Go.Proofs.Ytgjlfcamgkeibaa.Co
set_option maxRecDepth 100000
set_option linter.unusedVariables false
set_option linter.unusedSimpArgs false
open Go.RowKit Ba Fm Fo Nm Rk
theorem drew_more {w wr : World} {m n : Nat} (h : wr = w.drewN m) : wr.drewN n = w.drewN (m + n) := by rw [h]; simp [World.drewN, Nat.add_assoc]
theorem below_two (w : World) (o p : Obj) : Below w.heap.size w ((w.alloc o).alloc p) := (below_new12 w o).trans ((below_new12 (w.alloc o) p).mono (below_new12 w o).size)
theorem equal_drew (A C : Option Addr) (c d : Nat) (l : List ByteArray) (w : World) (hr : Rd w w.heap.size A l) (hq : Rd w w.heap.size C l) (hl : l.length ≤ 1000000) :
    Calls Try.prog 47 #[.slice A l.length c, .slice C l.length d] w fun e w' => e = .returned (.bool true) ∧ ∃ m, w' = w.drewN m := by
  go_enter Try.func47, Try.ntmps47
  go_wp2
  go_loopw [5] (fun i wr => ∃ k : Nat, i = .int .i64 k ∧ k ≤ l.length ∧ ∃ m, wr = w.drewN m) (fun i _ => l.length - (intOf i).toNat)
  case atStart => exact ⟨0, rfl, Nat.zero_le _, 0, rfl⟩
  case round =>
    obtain ⟨k, rfl, hks, m, hw⟩ := hrel
    have hbel : Below w.heap.size w wr := hw ▸ below_dN (Below.refl _ _) m
    have HW := Lib.hid hw
    clear hw
    by_cases hp : k < l.length
    · obtain ⟨b, off, rfl, hb1, hc⟩ := hr (by omega)
      obtain ⟨b', off', rfl, hb2, hc'⟩ := hq (by omega)
      have hcell : wr.cell? ⟨b, off + k, none⟩ = some (.string l[k]) := (hbel.cell (p := ⟨b, off + k, none⟩) hb1).trans (hc k hp)
      have hcell' : wr.cell? ⟨b', off' + k, none⟩ = some (.string l[k]) := (hbel.cell (p := ⟨b', off' + k, none⟩) hb2).trans (hc' k hp)
      clear hc hc' hr hq hb1 hb2 hbel
      have hk0 : (0 : Int) ≤ (k : Int) := by omega
      have hk1 : (k : Int) < (l.length : Int) := by omega
      go_wp2
      go_quiet (fail)
      go_wp2
      go_roundw
      case rel => exact ⟨k + 1, by go_num, by omega, _, drew_more HW.out⟩
      case measure => simp [intOf]; omega
    · clear hbel
      go_wp2
      go_ret
      exact ⟨rfl, m, HW.out⟩
theorem eq12 (u v : Value) (l : List ByteArray) (w0 w : World) (hu : Sv w0 w0.heap.size u l) (hv : Sv w0 w0.heap.size v l) (hl : l.length ≤ 1000000) (hb : Below w0.heap.size w0 w) :
    Calls Try.prog 47 #[u, v] w fun e w' => e = .returned (.bool true) ∧ Below w0.heap.size w0 w' := by
  obtain ⟨A, c, rfl, _, _, hr⟩ := sv_on hu hb
  obtain ⟨C, d, rfl, _, _, hq⟩ := sv_on hv hb
  exact (equal_drew A C c d l w hr hq hl).mono fun e w' ⟨he, m, hw⟩ => ⟨he, hw ▸ below_dN hb m⟩
theorem equal_q (u v : Value) (N : Nat) (l : List ByteArray) (w : World) (hu : Sv w N u l) (hv : Sv w N v l) (hN : N ≤ w.heap.size) (hl : l.length ≤ 1000000) (n : Nat) :
    Calls Try.prog 47 #[u, v] (w.drewN n) fun e w'' => e = .returned (.bool true) ∧ ∃ m, w'' = w.drewN m := by
  have hu' : Sv (w.drewN n) (w.drewN n).heap.size u l := Sv.more hu hN
  have hv' : Sv (w.drewN n) (w.drewN n).heap.size v l := Sv.more hv hN
  obtain ⟨A, c, rfl, _, _, hr⟩ := hu'
  obtain ⟨C, d, rfl, _, _, hq⟩ := hv'
  exact (equal_drew A C c d l _ hr hq hl).mono fun e w' ⟨he, m, hw⟩ => ⟨he, n + m, by rw [hw]; simp [World.drewN, Nat.add_assoc]⟩
set_option maxRecDepth 100000 in
set_option maxHeartbeats 1000000 in
theorem refSame1 (u v : Value) (c : Cf) (w : World) (hu : Cv w w.heap.size u c) (hv : Cv w w.heap.size v c) (hs : Sm c) :
    Calls Try.prog 19 #[u, v] w fun e w' => e = .returned (.bool true) ∧ Below w.heap.size w w' := by
  obtain ⟨uE, uR, uA, uP, lu, rfl, hu⟩ := hu
  obtain ⟨vE, vR, vA, vP, lv, rfl, hv⟩ := hv
  obtain ⟨al, aa, els, reps, ats, per, cm, da⟩ := c
  obtain ⟨w0, hw0⟩ : ∃ w0, (w.alloc (.cells #[.bool al, .bool aa, uE, uR, uA, uP, .bool cm, .bool da] 26)).alloc (.cells #[.bool al, .bool aa, vE, vR, vA, vP, .bool cm, .bool da] 26) = w0 := ⟨_, rfl⟩
  have hb1 : Below w.heap.size w w0 := hw0 ▸ below_two w _ _
  have hx1 : Bx w0 w.heap.size ⟨al, aa, els, reps, ats, per, cm, da⟩ uE uR uA uP := hw0 ▸ (Bx.new w ⟨al, aa, els, reps, ats, per, cm, da⟩ uE uR uA uP).below (below_new12 _ _) (by simp)
  have hx2 : Bx w0 (w.heap.size + 1) ⟨al, aa, els, reps, ats, per, cm, da⟩ vE vR vA vP := by
    have := Bx.new (w.alloc (confO ⟨al, aa, els, reps, ats, per, cm, da⟩ uE uR uA uP)) ⟨al, aa, els, reps, ats, per, cm, da⟩ vE vR vA vP
    rw [World.size_alloc] at this
    exact hw0 ▸ this
  have hz : w.heap.size + 1 < w0.heap.size := by rw [← hw0]; simp
  have h0 := hu.on hb1
  have k0 := hv.on hb1
  have hl : lu.length ≤ 1000 := by have := hs.p; have e := hu.m; simp only at this e; rw [← e, len_pes] at this; exact this
  have hm : pes lu = pes lv := hu.m.trans hv.m.symm
  have hln : lv.length = lu.length := by rw [← len_pes lv, ← hm, len_pes]
  have hpl : ∀ x ∈ lu, x.pe.at_.length ≤ 1000 := fun x hx => by
    have hmm : x.pe ∈ per := by have := hu.m; simp only at this; rw [← this]; exact List.mem_map.2 ⟨x, hx, rfl⟩
    exact hs.pa _ hmm
  have HE := Lib.hid (fun wx hb => eq12 uE vE els w0 wx h0.e k0.e (by have := hs.e; simp only at this; omega) hb)
  have HR := Lib.hid (fun wx hb => eq12 uR vR reps w0 wx h0.r k0.r (by have := hs.r; simp only at this; omega) hb)
  have HA := Lib.hid (fun wx hb => eq12 uA vA ats w0 wx h0.a k0.a (by have := hs.a; simp only at this; omega) hb)
  obtain ⟨PA, pc, rfl, hpc, hpn, hpr⟩ := h0.p
  obtain ⟨QA, qc, rfl, hqc, hqn, hqr⟩ := k0.p
  have HX1 := Lib.hid hx1; have HX2 := Lib.hid hx2; have HB1 := Lib.hid hb1; have HP := Lib.hid hpr; have HQ := Lib.hid hqr; have HM := Lib.hid hm; have HPL := Lib.hid hpl; have HW := Lib.hid hw0
  rw [hln] at hqc HX2 HW ⊢
  have HLN := Lib.hid hln
  clear hw0 hb1 hx1 hx2 h0 k0 hu hv hs hm hpl hpr hqr hln
  go_enter Try.func19, Try.ntmps19
  go_upto_region 1 with (fail)
  rw [HW.out]
  obtain ⟨g0, g1, g2, g3, g4, g5, g6, g7⟩ := HX1.out.at_
  obtain ⟨f0, f1, f2, f3, f4, f5, f6, f7⟩ := HX2.out.at_
  go_wp2
  clear g0 g1 g2 g3 g4 g5 g6 g7 f0 f1 f2 f3 f4 f5 f6 f7
  go_loopw [5] (fun i wr => ∃ k : Nat, i = .int .i64 k ∧ k ≤ lu.length ∧ Below w0.heap.size w0 wr) (fun i _ => lu.length - (intOf i).toNat)
  case atStart => exact ⟨0, rfl, Nat.zero_le _, Below.refl _ _⟩
  case round =>
    obtain ⟨k, rfl, hks, hbel⟩ := hrel
    obtain ⟨g0, g1, g2, g3, g4, g5, g6, g7⟩ := (HX1.out.below hbel (by omega)).at_
    obtain ⟨f0, f1, f2, f3, f4, f5, f6, f7⟩ := (HX2.out.below hbel (by omega)).at_
    have hz' : w0.heap.size ≤ wr.heap.size := hbel.size
    by_cases hk : k < lu.length
    · obtain ⟨b, off, x, rfl, hb, hx, hcs, hsx, hxm⟩ := (HP.out.below hbel).at_ k hk
      obtain ⟨b', off', y, rfl, hb', hy, hcs', hsy, hym⟩ := (HQ.out.below hbel).at_ k (by rw [HLN.out]; exact hk)
      obtain ⟨k0, k1⟩ := range2p hcs
      obtain ⟨j0, j1⟩ := range2p hcs'
      have hxy : y.pe = x.pe := by
        have h1 : (pes lu)[k]? = some x.pe := by unfold pes; rw [List.getElem?_map, hx]; rfl
        have h2 : (pes lv)[k]? = some y.pe := by unfold pes; rw [List.getElem?_map, hy]; rfl
        rw [HM.out, h2] at h1
        exact Option.some.inj h1
      obtain ⟨⟨xe, xa⟩, XA, xc⟩ := x
      obtain ⟨⟨ye, ya⟩, YA, yc⟩ := y
      simp only [Pe.mk.injEq] at hxy
      obtain ⟨rfl, rfl⟩ := hxy
      have hal := HPL.out _ hxm
      simp only at k0 k1 j0 j1 hal
      have HC := Lib.hid (equal_q (.slice XA ya.length xc) (.slice YA ya.length yc) w0.heap.size ya wr hsx hsy hz' (by omega))
      have HBL := Lib.hid hbel
      have hk0 : (0 : Int) ≤ (k : Int) := by omega
      have hk1 : (k : Int) < (lu.length : Int) := by omega
      clear hcs hcs' hsx hsy hx hy hxm hym hbel g0 g1 g2 g3 g4 g6 g7 f0 f1 f2 f3 f4 f6 f7
      go_wp2
      go_quiet ((go_at_call 47; exact HC.out _))
      go_wp2
      go_roundw
      case rel => exact ⟨k + 1, by go_num, by omega, below_dN HBL.out _⟩
      case measure => simp [intOf]; omega
    · have HBL := Lib.hid hbel
      clear hbel
      go_wp2_with (go_at_call 47; first
        | ((with_reducible show Calls _ _ #[uE, vE] _ _); refine (HE.out _ HBL.out).mono ?_; rintro r wA ⟨rfl, hbA⟩; have HBA := Lib.hid hbA; obtain ⟨p0, p1, p2, p3, p4, p5, p6, p7⟩ := (HX1.out.below hbA (by omega)).at_; obtain ⟨q0, q1, q2, q3, q4, q5, q6, q7⟩ := (HX2.out.below hbA (by omega)).at_; clear hbA)
        | ((with_reducible show Calls _ _ #[uR, vR] _ _); refine (HR.out _ HBA.out).mono ?_; rintro r wB ⟨rfl, hbB⟩; have HBB := Lib.hid hbB; obtain ⟨s0, s1, s2, s3, s4, s5, s6, s7⟩ := (HX1.out.below hbB (by omega)).at_; obtain ⟨t0, t1, t2, t3, t4, t5, t6, t7⟩ := (HX2.out.below hbB (by omega)).at_; clear hbB)
        | ((with_reducible show Calls _ _ #[uA, vA] _ _); refine (HA.out _ HBB.out).mono ?_; rintro r wC ⟨rfl, hbC⟩; have HBC := Lib.hid hbC; clear hbC))
      go_ret
      exact ⟨rfl, HB1.out.trans (HBC.out.mono HB1.out.size)⟩

end Go.Proofs.Ytgjlfcamgkeibaa.Co

namespace Go.Proofs.Ytgjlfcamgkeibaa.Co
set_option maxRecDepth 100000
set_option linter.unusedVariables false
set_option linter.unusedSimpArgs false
open Go.RowKit Ba Fm Fo Nm Rk
theorem sv_nil12 (w : World) (N : Nat) : Sv w N (.slice none 0 0) [] := ⟨none, 0, rfl, Nat.le_refl _, fun _ => rfl, Rd.nil _ _ _⟩
theorem sv_lit12 {w : World} {g : Nat} {l : List ByteArray} (h : w.heap[g]? = some (.cells (l.map sc).toArray 9)) : Sv w w.heap.size (.slice (some ⟨g, 0, none⟩) l.length l.length) l :=
  ⟨some ⟨g, 0, none⟩, l.length, rfl, Nat.le_refl _, (fun e => by cases e), fun h0 => ⟨g, 0, rfl, (Array.getElem?_eq_some_iff.1 h).1, fun j hj => by
    rw [Nat.zero_add, cell_of_row w g j _ _ _ h]
    simp [List.getElem?_eq_getElem hj, sc]⟩⟩
theorem sm_few {c : Cf} (h : c.els.length ≤ 1000 ∧ c.reps.length ≤ 1000 ∧ c.ats.length ≤ 1000 ∧ c.per.length ≤ 1000 ∧ c.els.all (·.size ≤ 1000) ∧ c.reps.all (·.size ≤ 1000) ∧ c.ats.all (·.size ≤ 1000) ∧ c.per.all (fun p => decide (p.at_.length ≤ 1000) && decide (p.el.size ≤ 1000) && p.at_.all (·.size ≤ 1000)) = true) : Sm c := by
  obtain ⟨h1, h2, h3, h4, h5, h6, h7, h8⟩ := h
  have hb : ∀ {l : List ByteArray}, l.all (·.size ≤ 1000) = true → ∀ s ∈ l, s.size ≤ 140737488355328 := fun h s hs => Nat.le_trans (by simpa using List.all_eq_true.1 h s hs) (show 1000 ≤ 140737488355328 by omega)
  have h9 := fun p hp => List.all_eq_true.1 h8 p hp
  simp only [Bool.and_eq_true, decide_eq_true_eq] at h9
  exact ⟨h1, h2, h3, h4, fun p hp => (h9 p hp).1.1, hb h5, hb h6, hb h7, fun p hp => ⟨Nat.le_trans (h9 p hp).1.2 (by omega), hb (h9 p hp).2⟩⟩
theorem sm_all : Sm allC := sm_few (by decide +kernel)
end Go.Proofs.Ytgjlfcamgkeibaa.Co

namespace Go.Proofs.Ytgjlfcamgkeibaa.Cn
set_option maxRecDepth 100000
set_option linter.unusedVariables false
set_option linter.unusedSimpArgs false
open Go.RowKit Ba Ro
open Co (Cf Cv Sm confV confO attrB12 elementN checkN bel_eq12 allC sv_lit12 sv_nil12)
def treeL : List Ro := [⟨0, 0, ⟨#[98]⟩, .empty, [⟨⟨#[111, 110, 99, 108, 105, 99, 107]⟩, ⟨#[120]⟩⟩, ⟨⟨#[105, 100]⟩, .empty⟩]⟩, ⟨1, 1, .empty, ⟨#[97]⟩, []⟩, ⟨1, 0, ⟨#[115, 99, 114, 105, 112, 116]⟩, .empty, []⟩, ⟨2, 1, .empty, ⟨#[121]⟩, []⟩]
def X1 : List Ro := [⟨0, 0, ⟨#[98]⟩, .empty, [⟨⟨#[105, 100]⟩, .empty⟩]⟩, ⟨1, 1, .empty, ⟨#[97]⟩, []⟩]
def X2 : List Ro := [⟨0, 1, .empty, ⟨#[97]⟩, []⟩]
def cRep : Cf := ⟨false, false, [], [⟨#[98]⟩], [], [], false, false⟩
def cDat : Cf := ⟨false, false, [], [], [], [], false, true⟩
theorem tree_check : check treeL = 0 := by decide +kernel
theorem tree_right : right treeL = true := by decide +kernel
theorem err1 : errI allC treeL = 0 := by decide +kernel
theorem err2 : errI cRep treeL = 0 := by decide +kernel
theorem err4 : errI cDat treeL = 120 := by decide +kernel
theorem err5 : errI allC (treeL.drop 1) = 40 := by decide +kernel
theorem out1 : outL allC true treeL = X1 := by
  unfold outL
  rw [if_pos err1, clean_nr allC true tree_right]
  decide +kernel
theorem out2 : outL cRep true treeL = X2 := by
  unfold outL
  rw [if_pos err2, clean_nr cRep true tree_right]
  decide +kernel
theorem out3 : outL allC false treeL = treeL := by
  unfold outL
  rw [if_pos err1, clean_nr allC false tree_right]
  decide +kernel
theorem out4 : outL cDat true treeL = [] := by
  unfold outL
  rw [if_neg (by rw [err4]; decide)]
theorem out5 : outL allC true (treeL.drop 1) = [] := by
  unfold outL
  rw [if_neg (by rw [err5]; decide)]
theorem sm_rep : Sm cRep := Co.sm_few (by decide +kernel)
theorem sm_dat : Sm cDat := Co.sm_few (by decide +kernel)
theorem small_dec {l : List Ro} (h : (l.all fun x => decide (x.name.size ≤ 1000) && decide (x.data.size ≤ 1000) && x.attrs.all fun a => decide (a.name.size ≤ 1000) && decide (a.value.size ≤ 1000)) = true) : Rz.Small l := fun x hx => by
  have := List.all_eq_true.1 h x hx
  simp only [Bool.and_eq_true, decide_eq_true_eq, List.all_eq_true] at this
  exact ⟨by omega, by omega, fun a ha => by have := this.2 a ha; omega⟩
theorem tree_small : Rz.Small treeL := small_dec (by decide +kernel)
theorem few_dec {l : List Ro} (h : (l.all fun x => decide (x.attrs.length ≤ 1000000)) = true) : Few l := fun x hx => of_decide_eq_true (List.all_eq_true.1 h x hx)
theorem tree_few : Few treeL := few_dec (by decide +kernel)
theorem tree_txt : (txt treeL).length ≤ 1000000000 := by decide +kernel
theorem tree_txt1 : (txt (treeL.drop 1)).length ≤ 1000000000 := by decide +kernel
theorem tree_small1 : Rz.Small (treeL.drop 1) := small_dec (by decide +kernel)
theorem tree_few1 : Few (treeL.drop 1) := few_dec (by decide +kernel)
theorem tree_held : Held treeL := held_check tree_check

/-- Rows freshly written down, with their attributes. -/
theorem rows_lit (w : World) (l : List Cw) (cs : Array Value) (n : Nat) (hn : l.length = n) (hm : n ≤ maxLen) (hcs : cs.toList = l.flatMap cells) (hl : ∀ x ∈ l, Att (w.alloc (.cells cs 36)) (w.alloc (.cells cs 36)).heap.size x ∧ Ap (w.alloc (.cells cs 36)) w.heap.size x) :
    Ow w.heap.size (w.alloc (.cells cs 36)) (.slice (some ⟨w.heap.size, 0, none⟩) n n) l := by
  have hfl : (l.flatMap cells).length = n * 5 := by rw [flat_len cells 5 len_cells, hn]
  have hsz : cs.size = n * 5 := by rw [← Array.length_toList, hcs, hfl]
  refine ⟨⟨by rw [hn, hfl], .inr ⟨w.heap.size, n, cs, by rw [hn], Nat.le_refl _, heap_alloc_new w _, by rw [hn]; exact Nat.le_refl _, hm, hsz, ?_⟩⟩, hl⟩
  rw [hn, hcs, ← hfl, List.take_length]
/-- A row whose attributes fill block g. -/
theorem att_lit {w : World} {g : Nat} (d k : Int) (nm dt : ByteArray) (l : List At) (h : w.heap[g]? = some (.cells (l.flatMap acells).toArray 40)) (hm : l.length ≤ maxLen) (hs : Sh l) : Att w w.heap.size ⟨⟨d, k, nm, dt, l⟩, some ⟨g, 0, none⟩, l.length⟩ := by
  refine ⟨Nat.le_refl _, (fun e => by cases e), hm, fun _ => ⟨g, 0, rfl, (Array.getElem?_eq_some_iff.1 h).1, fun j hj i u hu => ?_⟩, hs⟩
  have hi : i < 2 := (List.getElem?_eq_some_iff.1 hu).1
  rw [cell_of_row w g (0 + j * 2 + i) _ _ _ h]
  rw [List.getElem?_toArray, show 0 + j * 2 + i = j * 2 + i by omega, flat_at acells 2 len_acells _ _ _ hj hi]
  exact hu
def aX1 (g : Nat) : List Cw := [⟨⟨0, 0, ⟨#[98]⟩, .empty, [⟨⟨#[105, 100]⟩, .empty⟩]⟩, some ⟨g, 0, none⟩, 1⟩, bare ⟨1, 1, .empty, ⟨#[97]⟩, []⟩]
theorem lit_rv (w : World) (g : Nat) (x : Cw) (l : List Ro) (cs : Array Value) (n : Nat) (hn : l.length + 1 = n) (hm : n ≤ 1000) (hcs : cs.toList = (x :: l.map bare).flatMap cells) (hx : Att w w.heap.size x) (hl : ∀ r ∈ l, r.attrs = []) (hh : Held (ros (x :: l.map bare))) :
    Rv (w.alloc (.cells cs 36)) (.slice (some ⟨w.heap.size, 0, none⟩) n n) (x :: l.map bare) := by
  refine (rows_lit w (x :: l.map bare) cs n (by rw [List.length_cons, List.length_map, hn]) (by unfold maxLen; omega) hcs fun y hy => ?_).rv hh
  rcases List.mem_cons.1 hy with rfl | hy
  · exact ⟨(hx.below (below_new w _)).more (below_new w _).size, (hx.below (below_new w _)).apart⟩
  · obtain ⟨r, hr, rfl⟩ := List.mem_map.1 hy
    exact ⟨bare_att _ _ (hl r hr), bare_ap _ _ (hl r hr)⟩
theorem bel_drew {n : Nat} {w v : World} (h : Below n w.drew v) : Below n w v := ⟨h.os, h.tape, h.output, h.size, h.block⟩
theorem tree1 (w : World) : Calls Try.prog 34 #[] w fun r w' => ∃ g y, r = .returned (.slice (some ⟨g, 0, none⟩) 4 4) ∧ Rv w' (.slice (some ⟨g, 0, none⟩) 4 4) y ∧ ros y = treeL ∧ Below w.heap.size w w' := by
  have h0 : (w.alloc (.cells #[.string ⟨#[111, 110, 99, 108, 105, 99, 107]⟩, .string ⟨#[120]⟩, .string ⟨#[105, 100]⟩, .string .empty] 40)).heap[w.heap.size]? = some (.cells #[.string ⟨#[111, 110, 99, 108, 105, 99, 107]⟩, .string ⟨#[120]⟩, .string ⟨#[105, 100]⟩, .string .empty] 40) := heap_alloc_new w _
  have ha := att_lit 0 0 ⟨#[98]⟩ .empty [⟨⟨#[111, 110, 99, 108, 105, 99, 107]⟩, ⟨#[120]⟩⟩, ⟨⟨#[105, 100]⟩, .empty⟩] h0 (by decide) (fun a ha => by
    have : a.name.size ≤ 7 := by
      rcases List.mem_cons.1 ha with rfl | ha
      · decide
      · rw [List.mem_singleton.1 ha]; decide
    unfold maxLen; omega)
  have hv := lit_rv _ w.heap.size _ [⟨1, 1, .empty, ⟨#[97]⟩, []⟩, ⟨1, 0, ⟨#[115, 99, 114, 105, 112, 116]⟩, .empty, []⟩, ⟨2, 1, .empty, ⟨#[121]⟩, []⟩] #[.int .i64 0, .int .i64 0, .string ⟨#[98]⟩, .string .empty, .slice (some ⟨w.heap.size, 0, none⟩) 2 2, .int .i64 1, .int .i64 1, .string .empty, .string ⟨#[97]⟩, .slice none 0 0, .int .i64 1, .int .i64 0, .string ⟨#[115, 99, 114, 105, 112, 116]⟩, .string .empty, .slice none 0 0, .int .i64 2, .int .i64 1, .string .empty, .string ⟨#[121]⟩, .slice none 0 0] 4 rfl (by decide) rfl ha (by decide) tree_held
  rw [World.size_alloc] at hv
  have hb := below_two w (.cells #[.string ⟨#[111, 110, 99, 108, 105, 99, 107]⟩, .string ⟨#[120]⟩, .string ⟨#[105, 100]⟩, .string .empty] 40) (.cells #[.int .i64 0, .int .i64 0, .string ⟨#[98]⟩, .string .empty, .slice (some ⟨w.heap.size, 0, none⟩) 2 2, .int .i64 1, .int .i64 1, .string .empty, .string ⟨#[97]⟩, .slice none 0 0, .int .i64 1, .int .i64 0, .string ⟨#[115, 99, 114, 105, 112, 116]⟩, .string .empty, .slice none 0 0, .int .i64 2, .int .i64 1, .string .empty, .string ⟨#[121]⟩, .slice none 0 0] 36)
  have HV := Lib.hid hv; have HB := Lib.hid hb
  clear h0 ha hv hb
  go_enter Try.func34, Try.ntmps34
  go_wp2
  go_ret
  exact ⟨_, _, rfl, HV.out, rfl, HB.out⟩
theorem rows_of (V v : Value) (y : List Cw) (T : List Ro) (c : Cf) (s : Bool) (w : World) (hV : Rv w V y) (hy : ros y = T) (hl : T.length ≤ 1000) (hz : Rz.Small T) (hf : Few T) (ht : (txt T).length ≤ 1000000000) (hc : Cv w w.heap.size v c) (hs : Sm c) (E : Int) (q : List Ro) (hE : errI c T = E) (hq : outL c s T = q) :
    Calls Try.prog 9 #[V, v, .bool s] w fun r w' => ∃ V y, r = .returned (.tuple #[V, .int .i64 E]) ∧ ros y = q ∧ Rv w' V y ∧ Below w.heap.size w w' := by
  subst hy
  refine (rows13 V v y c s w hV (by rw [← len_ros]; omega) hz hf ht hc hs E q hE hq).mono ?_
  rintro r w' ⟨V', y', h1, h2, h3, h4, h5⟩
  exact ⟨V', y', h1, h3, h4, h5⟩
theorem cut_rv {w : World} {g : Nat} {y : List Cw} (h : Rv w (.slice (some ⟨g, 0, none⟩) 4 4) y) : Rv w (.slice (some ⟨g, 5, none⟩) 3 3) (y.drop 1) := by
  obtain ⟨A, c, e, h1, h2, h3, h4⟩ := h
  injection e with e1 e2 e3
  subst e1 e3
  have hp := h3.mid 1 y.length 4 (by omega) (by omega) (by omega) (by decide)
  rw [List.take_length] at hp
  refine ⟨_, 3, by rw [List.length_drop, ← e2]; rfl, by rw [List.length_drop]; omega, by decide, hp, fun x hx => ?_⟩
  rw [← ros_drop] at hx
  exact h4 x (List.mem_of_mem_drop hx)
theorem conf_rep {w : World} {g : Nat} (h : w.heap[g]? = some (.cells #[.string ⟨#[98]⟩] 9)) : Cv w w.heap.size (.agg #[.bool false, .bool false, .slice none 0 0, .slice (some ⟨g, 0, none⟩) 1 1, .slice none 0 0, .slice none 0 0, .bool false, .bool false]) cRep :=
  ⟨_, _, _, _, [], rfl, ⟨sv_nil12 _ _, sv_lit12 (l := [⟨#[98]⟩]) h, sv_nil12 _ _, ⟨none, 0, rfl, Nat.le_refl _, fun _ => rfl, Co.Pr.nil _ _ _⟩, rfl⟩⟩
theorem conf_dat (w : World) : Cv w w.heap.size (.agg #[.bool false, .bool false, .slice none 0 0, .slice none 0 0, .slice none 0 0, .slice none 0 0, .bool false, .bool true]) cDat :=
  ⟨_, _, _, _, [], rfl, ⟨sv_nil12 _ _, sv_nil12 _ _, sv_nil12 _ _, ⟨none, 0, rfl, Nat.le_refl _, fun _ => rfl, Co.Pr.nil _ _ _⟩, rfl⟩⟩
theorem x1_rv (w : World) : Rv ((w.alloc (.cells #[.string ⟨#[105, 100]⟩, .string .empty] 40)).alloc (.cells #[.int .i64 0, .int .i64 0, .string ⟨#[98]⟩, .string .empty, .slice (some ⟨w.heap.size, 0, none⟩) 1 1, .int .i64 1, .int .i64 1, .string .empty, .string ⟨#[97]⟩, .slice none 0 0] 36)) (.slice (some ⟨w.heap.size + 1, 0, none⟩) 2 2) (aX1 w.heap.size) := by
  have h0 : (w.alloc (.cells #[.string ⟨#[105, 100]⟩, .string .empty] 40)).heap[w.heap.size]? = some (.cells #[.string ⟨#[105, 100]⟩, .string .empty] 40) := heap_alloc_new w _
  have ha := att_lit 0 0 ⟨#[98]⟩ .empty [⟨⟨#[105, 100]⟩, .empty⟩] h0 (by decide) (fun a ha => by rw [List.mem_singleton.1 ha]; decide)
  have hv := lit_rv _ w.heap.size _ [⟨1, 1, .empty, ⟨#[97]⟩, []⟩] #[.int .i64 0, .int .i64 0, .string ⟨#[98]⟩, .string .empty, .slice (some ⟨w.heap.size, 0, none⟩) 1 1, .int .i64 1, .int .i64 1, .string .empty, .string ⟨#[97]⟩, .slice none 0 0] 2 rfl (by decide) rfl ha (by decide) (fun x hx => by
    have hx : x ∈ X1 := hx
    rcases List.mem_cons.1 hx with rfl | hx
    · exact ⟨by decide, by decide⟩
    · rw [List.mem_singleton.1 hx]; exact ⟨by decide, by decide⟩)
  rwa [World.size_alloc] at hv
theorem x2_rv (w : World) : Rv (w.alloc (.cells #[.int .i64 0, .int .i64 1, .string .empty, .string ⟨#[97]⟩, .slice none 0 0] 36)) (.slice (some ⟨w.heap.size, 0, none⟩) 1 1) [bare ⟨0, 1, .empty, ⟨#[97]⟩, []⟩] :=
  (rows_new w [bare ⟨0, 1, .empty, ⟨#[97]⟩, []⟩] _ 1 rfl (by decide) rfl (fun x hx => ⟨_, List.mem_singleton.1 hx, rfl⟩)).rv (fun x hx => by
    have := List.mem_singleton.1 hx
    subst this
    exact ⟨by decide, by decide⟩)

set_option maxRecDepth 100000 in
set_option maxHeartbeats 40000000 in
theorem fixed13 (w : World) : Calls Try.prog 14 #[] w fun e w' => e = .returned (.bool true) ∧ Below w.heap.size w w' := by
  go_enter Try.func14, Try.ntmps14
  go_upto_region 2 with (first
    | (go_at_call 34; refine (tree1 _).mono ?_; rintro r a1 ⟨g1, y1, rfl, hv1, hy1, hb⟩; have HV1 := Lib.hid hv1; have HY1 := Lib.hid hy1; have HA1 := Lib.hid (hb); clear hv1 hy1 hb)
    | (go_at_call 35; refine (Co.all1 _).mono ?_; rintro r b1 ⟨vA1, rfl, ho, hb⟩; have HBA1 := Lib.hid hb; have HO1 := Lib.hid ho.cv; have HB1 := Lib.hid (HA1.out.trans (hb.mono HA1.out.size)); clear ho hb)
    | (go_at_call 9; refine (rows_of _ vA1 y1 treeL allC true b1 (HV1.out.below HBA1.out) HY1.out (by decide) tree_small tree_few tree_txt HO1.out Co.sm_all 0 X1 err1 out1).mono ?_; rintro r c1 ⟨V1, z1, rfl, hz1, hr1, hb⟩; have HZ1 := Lib.hid hz1; have HR1 := Lib.hid hr1; have HC1 := Lib.hid (HB1.out.trans (hb.mono HB1.out.size)); clear hz1 hr1 hb)
    | fail)
  go_upto_region 3 with (first
    | (go_at_call 34; refine (tree1 _).mono ?_; rintro r a2 ⟨g2, y2, rfl, hv2, hy2, hb⟩; have HV2 := Lib.hid hv2; have HY2 := Lib.hid hy2; have HA2 := Lib.hid (HC1.out.trans (hb.mono HC1.out.size)); have HR1 := Lib.hid (HR1.out.below (hb)); clear hv2 hy2 hb)
    | (go_at_call 9; refine (rows_of _ _ y2 treeL cRep true _ (HV2.out.below (below_new a2 _)) HY2.out (by decide) tree_small tree_few tree_txt (conf_rep (heap_alloc_new a2 _)) sm_rep 0 X2 err2 out2).mono ?_; rintro r c2 ⟨V2, z2, rfl, hz2, hr2, hb⟩; have HZ2 := Lib.hid hz2; have HR2 := Lib.hid hr2; have HC2 := Lib.hid (HA2.out.trans (((below_new a2 _).trans (hb.mono (by simp))).mono HA2.out.size)); have HR1 := Lib.hid (HR1.out.below ((below_new a2 _).trans (hb.mono (by simp)))); clear hz2 hr2 hb)
    | fail)
  go_upto_region 4 with (first
    | (go_at_call 34; refine (tree1 _).mono ?_; rintro r a3 ⟨g3, y3, rfl, hv3, hy3, hb⟩; have HV3 := Lib.hid hv3; have HY3 := Lib.hid hy3; have HA3 := Lib.hid (HC2.out.trans (hb.mono HC2.out.size)); have HR1 := Lib.hid (HR1.out.below (hb)); have HR2 := Lib.hid (HR2.out.below (hb)); clear hv3 hy3 hb)
    | (go_at_call 35; refine (Co.all1 _).mono ?_; rintro r b3 ⟨vA3, rfl, ho, hb⟩; have HBA3 := Lib.hid hb; have HO3 := Lib.hid ho.cv; have HB3 := Lib.hid (HA3.out.trans (hb.mono HA3.out.size)); have HR1 := Lib.hid (HR1.out.below (hb)); have HR2 := Lib.hid (HR2.out.below (hb)); clear ho hb)
    | (go_at_call 9; refine (rows_of _ vA3 y3 treeL allC false b3 (HV3.out.below HBA3.out) HY3.out (by decide) tree_small tree_few tree_txt HO3.out Co.sm_all 0 treeL err1 out3).mono ?_; rintro r c3 ⟨V3, z3, rfl, hz3, hr3, hb⟩; have HZ3 := Lib.hid hz3; have HR3 := Lib.hid hr3; have HC3 := Lib.hid (HB3.out.trans (hb.mono HB3.out.size)); have HR1 := Lib.hid (HR1.out.below (hb)); have HR2 := Lib.hid (HR2.out.below (hb)); clear hz3 hr3 hb)
    | fail)
  go_upto_region 5 with (first
    | (go_at_call 34; refine (tree1 _).mono ?_; rintro r a4 ⟨g4, y4, rfl, hv4, hy4, hb⟩; have HV4 := Lib.hid hv4; have HY4 := Lib.hid hy4; have HA4 := Lib.hid (HC3.out.trans (hb.mono HC3.out.size)); have HR1 := Lib.hid (HR1.out.below (hb)); have HR2 := Lib.hid (HR2.out.below (hb)); have HR3 := Lib.hid (HR3.out.below (hb)); clear hv4 hy4 hb)
    | (go_at_call 9; refine (rows_of _ _ y4 treeL cDat true a4 HV4.out HY4.out (by decide) tree_small tree_few tree_txt (conf_dat _) sm_dat 120 [] err4 out4).mono ?_; rintro r c4 ⟨V4, z4, rfl, hz4, hr4, hb⟩; have HZ4 := Lib.hid hz4; have HR4 := Lib.hid hr4; have HC4 := Lib.hid (HA4.out.trans (hb.mono HA4.out.size)); have HR1 := Lib.hid (HR1.out.below (hb)); have HR2 := Lib.hid (HR2.out.below (hb)); have HR3 := Lib.hid (HR3.out.below (hb)); clear hz4 hr4 hb)
    | fail)
  go_region_held3 (fun wx => True) (first | exact trivial | go_keep) (first
    | (go_at_call 34; refine (tree1 _).mono ?_; rintro r a5 ⟨g5, y5, rfl, hv5, hy5, hb⟩; have HV5 := Lib.hid hv5; have HY5 := Lib.hid hy5; clear hv5 hy5; first | (have hq : Below c4.heap.size c4 a5 := bel_drew hb; have HA5 := Lib.hid (HC4.out.trans (hq.mono HC4.out.size)); have HR1 := Lib.hid (HR1.out.below hq); have HR2 := Lib.hid (HR2.out.below hq); have HR3 := Lib.hid (HR3.out.below hq); clear hq hb) | (have hq : Below b5.heap.size b5 a5 := hb; have HA5 := Lib.hid (HB5.out.trans (hq.mono HB5.out.size)); have HL := Lib.hid hq; have HR1 := Lib.hid (HR1.out.below hq); have HR2 := Lib.hid (HR2.out.below hq); have HR3 := Lib.hid (HR3.out.below hq); clear hq hb))
    | (go_at_call 35; refine (Co.all1 _).mono ?_; rintro r b5 ⟨vA5, rfl, ho, hb⟩; have HO5 := Lib.hid ho.cv; clear ho; first | (have hq : Below c4.heap.size c4 b5 := bel_drew hb; have HB5 := Lib.hid (HC4.out.trans (hq.mono HC4.out.size)); have HR1 := Lib.hid (HR1.out.below hq); have HR2 := Lib.hid (HR2.out.below hq); have HR3 := Lib.hid (HR3.out.below hq); clear hq hb) | (have hq : Below a5.heap.size a5 b5 := hb; have HB5 := Lib.hid (HA5.out.trans (hq.mono HA5.out.size)); have HL := Lib.hid hq; have HR1 := Lib.hid (HR1.out.below hq); have HR2 := Lib.hid (HR2.out.below hq); have HR3 := Lib.hid (HR3.out.below hq); clear hq hb))
    | (go_at_call 9; (with_reducible show Calls _ _ _ b5 _); refine (rows_of _ vA5 (y5.drop 1) (treeL.drop 1) allC true b5 (cut_rv (HV5.out.below HL.out)) (by rw [← ros_drop, HY5.out]) (by decide) tree_small1 tree_few1 tree_txt1 HO5.out Co.sm_all 40 [] err5 out5).mono ?_; rintro r c5 ⟨V5, z5, rfl, -, -, hq⟩; have HC5 := Lib.hid (HB5.out.trans (hq.mono HB5.out.size)); have HR1 := Lib.hid (HR1.out.below hq); have HR2 := Lib.hid (HR2.out.below hq); have HR3 := Lib.hid (HR3.out.below hq); clear hq)
    | (go_at_call 9; refine (rows_of _ vA5 (y5.drop 1) (treeL.drop 1) allC true a5 (cut_rv HV5.out) (by rw [← ros_drop, HY5.out]) (by decide) tree_small1 tree_few1 tree_txt1 (HO5.out.on HL.out) Co.sm_all 40 [] err5 out5).mono ?_; rintro r c5 ⟨V5, z5, rfl, -, -, hq⟩; have HC5 := Lib.hid (HA5.out.trans (hq.mono HA5.out.size)); have HR1 := Lib.hid (HR1.out.below hq); have HR2 := Lib.hid (HR2.out.below hq); have HR3 := Lib.hid (HR3.out.below hq); clear hq))
  all_goals go_wp2_with (first
    | (go_at_call 10; (with_reducible show Calls _ _ #[V1, _] _ _); refine (refSame1 V1 _ z1 (aX1 c5.heap.size) _ true (HR1.out.below (below_two c5 _ _)) (x1_rv c5) (by rw [← len_ros, HZ1.out]; decide) (show 2 ≤ 1000000 by omega) (decide_eq_true (HZ1.out.trans (show X1 = ros (aX1 c5.heap.size) from rfl)))).mono ?_; rintro r d1 ⟨rfl, hb⟩; have hq := (below_two c5 _ _).trans (hb.mono (below_two c5 _ _).size); have HD1 := Lib.hid (HC5.out.trans (hq.mono HC5.out.size)); have HR2 := Lib.hid (HR2.out.below hq); have HR3 := Lib.hid (HR3.out.below hq); clear hb hq)
    | (go_at_call 10; (with_reducible show Calls _ _ #[V2, _] _ _); refine (refSame1 V2 _ z2 [bare ⟨0, 1, .empty, ⟨#[97]⟩, []⟩] _ true (HR2.out.below (below_new d1 _)) (x2_rv d1) (by rw [← len_ros, HZ2.out]; decide) (show 1 ≤ 1000000 by omega) (decide_eq_true (HZ2.out.trans (show X2 = ros [bare ⟨0, 1, .empty, ⟨#[97]⟩, []⟩] from rfl)))).mono ?_; rintro r d2 ⟨rfl, hb⟩; have hq := (below_new d1 _).trans (hb.mono (below_new d1 _).size); have HD2 := Lib.hid (HD1.out.trans (hq.mono HD1.out.size)); have HR3 := Lib.hid (HR3.out.below hq); clear hb hq)
    | (go_at_call 34; refine (tree1 _).mono ?_; rintro r a6 ⟨g6, y6, rfl, hv6, hy6, hb⟩; have HV6 := Lib.hid hv6; have HY6 := Lib.hid hy6; have HA6 := Lib.hid (HD2.out.trans (hb.mono HD2.out.size)); have HR3 := Lib.hid (HR3.out.below hb); clear hv6 hy6 hb)
    | (go_at_call 10; (with_reducible show Calls _ _ #[V3, _] _ _); refine (refSame1 V3 _ z3 y6 a6 true HR3.out HV6.out (by rw [← len_ros, HZ3.out]; decide) (by rw [← len_ros, HY6.out]; decide) (decide_eq_true (HZ3.out.trans HY6.out.symm))).mono ?_; rintro r d3 ⟨rfl, hb⟩; have HD3 := Lib.hid (HA6.out.trans (hb.mono HA6.out.size)); clear hb)
    | fail)
  all_goals go_ret
  all_goals exact ⟨rfl, HD3.out⟩

end Go.Proofs.Ytgjlfcamgkeibaa.Cn

namespace Go.Proofs.Ytgjlfcamgkeibaa.Cn
set_option maxRecDepth 100000
set_option linter.unusedVariables false
set_option linter.unusedSimpArgs false
open Go.RowKit Ba Ro
/-- No more than 40 rows, of no more than 8 attributes. -/
def boundR (l : List Ro) : List Ro := (l.take 40).map fun x => { x with attrs := x.attrs.take 8 }
theorem AttR.cut {w : World} {N : Nat} {x : Cw} (h : Att w N x) : Att w N (cut x (x.ro.attrs.take 8)) :=
  ⟨Nat.le_trans (List.length_take_le' _ _) h.1, h.2.1, h.2.2.1, h.2.2.2.1.take 8, fun a ha => h.2.2.2.2 a (List.mem_of_mem_take ha)⟩
theorem boundR_at {l : List Cw} {k : Nat} {x : Cw} (h : l[k]? = some x) (hk : k < 40) : (boundR (ros l)).take (k + 1) = (boundR (ros l)).take k ++ [{ x.ro with attrs := x.ro.attrs.take 8 }] := by
  rw [List.take_add_one]
  congr 1
  rw [boundR, List.getElem?_map, List.getElem?_take_of_lt hk, ros, List.getElem?_map, h]
  rfl
theorem len_boundR (l : List Cw) : (boundR (ros l)).length = min 40 l.length := by rw [boundR, List.length_map, List.length_take, len_ros]
set_option maxRecDepth 100000 in
set_option maxHeartbeats 1000000 in
theorem boundR_any (A : Option Addr) (c : Nat) (l : List Cw) (w : World) (hr : Rr w w.heap.size A l) (hc : l.length ≤ c) (hm : c ≤ maxLen) :
    Calls Try.prog 5 #[.slice A l.length c] w fun e w' => ∃ v l', e = .returned v ∧ Ow w.heap.size w' v l' ∧ (∀ x ∈ l', Att w' w.heap.size x) ∧ ros l' = boundR (ros l) ∧ Below w.heap.size w w' := by
  unfold maxLen at hm
  go_enter Try.func5, Try.ntmps5
  go_wp2
  go_loopw [3, 4] (fun v i wr => ∃ (k : Nat) (acc : List Cw), i = .int .i64 k ∧ k ≤ l.length ∧ k ≤ 40 ∧ acc.length = k ∧ Ow w.heap.size wr v acc ∧ (∀ x ∈ acc, Att wr w.heap.size x) ∧ ros acc = (boundR (ros l)).take k ∧ Below w.heap.size w wr) (fun _ i _ => l.length - (intOf i).toNat)
  case atStart => exact ⟨0, [], rfl, by omega, by omega, rfl, Ow.made w, fun _ h => by simp at h, rfl, below_new w _⟩
  case round =>
    obtain ⟨k, acc, rfl, hk, hk6, hal, hown, hatt, hros, hbel⟩ := hrel
    have hsz := hbel.size
    by_cases hp : k < l.length
    · by_cases hp6 : k < 40
      · obtain ⟨b, off, x, rfl, hb, hdx, hx, hxa, hxm⟩ := (hr.below hbel).at_ k hp
        have hs : ros acc ++ [{ x.ro with attrs := x.ro.attrs.take 8 }] = (boundR (ros l)).take (k + 1) := by rw [hros, boundR_at (getElem_of_drop hdx) hp6]
        have hca := AttR.cut hxa
        obtain ⟨ys, hys⟩ : ∃ ys, x.ro.attrs.take 8 = ys := ⟨_, rfl⟩
        have hyl : ys.length = min x.ro.attrs.length 8 := by rw [← hys, List.length_take, Nat.min_comm]
        rw [hys] at hs hca
        have hmin := fun w => min_any x.ro.attrs.length 8 8 rfl ys.length hyl w
        have hyc : ys.length ≤ x.c := hca.1
        have hxc := hxa.1
        have hxm2 := hxa.2.2.1
        unfold maxLen at hxm2
        have HS := Lib.hid hs; have HOW := Lib.hid hown; have HATT := Lib.hid hatt; have HAL := Lib.hid hal; have HCA := Lib.hid hca
        have HC1 : Hid (Att wr wr.heap.size (cut x ys)) := Lib.hid (hca.more hsz)
        have HC2 : Hid (Ap wr w.heap.size (cut x ys)) := Lib.hid hca.apart
        have HC3 : Hid (Att (wr.alloc (rowO (cut x ys))) (wr.alloc (rowO (cut x ys))).heap.size (cut x ys)) := Lib.hid (HC1.out.boxed (Below.refl _ _) _)
        have hacc : acc.length ≤ 2000000 := by omega
        clear hros hdx hs hown hatt hxa hal hca hys hyl
        go_wp2_with (first
          | (refine wpList_load_mid rfl 36 (.tmp 19) rfl b (off + k * 5) rfl _ _ hx Try.underlying36 rfl size_row ?_)
          | (at_builtin; refine app_row _ rfl (.tmp 29) (.tmp 31) rfl w.heap.size _ acc (cut x ys) rfl (HOW.out.alloc _) HC3.out (HC2.out.below (below_new _ _)) (wr.heap.size + 1) (by simp) rfl hacc (by simp; omega) ?_; intro v3 w3 ho3 hk3 hf3))
        go_roundw
        case rel =>
          have hb3 := hk3 w (hbel.alloc hsz _)
          refine ⟨k + 1, acc ++ [cut x ys], by go_num, by omega, by omega, by rw [List.length_append, HAL.out]; rfl, ho3, fun z hz => ?_, by rw [ros_append]; exact HS.out, hb3⟩
          have hbw : Below w.heap.size wr w3 := hk3 wr (below_new wr _ |>.mono hsz)
          rcases List.mem_append.1 hz with h | h
          · exact (HATT.out z h).below hbw
          · obtain rfl := List.mem_singleton.1 h
            exact HCA.out.below hbw
        case measure => simp [intOf]; omega
      · obtain rfl : k = 40 := by omega
        have hrs : ros acc = boundR (ros l) := by rw [hros, List.take_of_length_le]; rw [len_boundR]; omega
        have HR := Lib.hid hrs
        clear hros hrs
        go_wp2
        go_ret
        exact ⟨_, acc, rfl, hown, hatt, HR.out, hbel⟩
    · have hrs : ros acc = boundR (ros l) := by rw [hros, List.take_of_length_le]; rw [len_boundR]; omega
      have HR := Lib.hid hrs
      clear hros hrs
      go_wp2
      go_ret
      exact ⟨_, acc, rfl, hown, hatt, HR.out, hbel⟩

/-- What is bounded is no greater. -/
theorem small_bound {l : List Ro} (h : Rz.Small l) : Rz.Small (boundR l) := fun x hx => by
  obtain ⟨y, hy, rfl⟩ := List.mem_map.1 hx
  obtain ⟨h1, h2, h3⟩ := h y (List.mem_of_mem_take hy)
  exact ⟨h1, h2, fun a ha => h3 a (List.mem_of_mem_take ha)⟩
theorem held_bound {l : List Ro} (h : Held l) : Held (boundR l) := fun x hx => by
  obtain ⟨y, hy, rfl⟩ := List.mem_map.1 hx
  exact h y (List.mem_of_mem_take hy)
theorem len_bound40 (l : List Ro) : (boundR l).length ≤ 40 := by
  unfold boundR
  rw [List.length_map, List.length_take]
  omega
theorem attrs_bound8 {l : List Ro} : ∀ x ∈ boundR l, x.attrs.length ≤ 8 := fun x hx => by
  obtain ⟨y, hy, rfl⟩ := List.mem_map.1 hx
  show (y.attrs.take 8).length ≤ 8
  rw [List.length_take]
  omega
end Go.Proofs.Ytgjlfcamgkeibaa.Cn
