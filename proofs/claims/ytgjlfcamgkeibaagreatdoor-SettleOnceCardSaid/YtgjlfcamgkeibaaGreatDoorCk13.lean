/-
  Walks of stage 12: contradicts, Check.
  Walks of stage 13: the program's Rows.
  Walks of stage 14: the filter and a round.
  Walks of stage 14: Trees and Text.
  Stage 3: where the package's table reads as its text lays it, the walks' table is there; the door's own heap is such a world.
  Stage 7: the calls whose answers the document fixes.
  Stage 14, in plain words: the samples that the document fixes.
  fold.merged.
  fold.Find, of a list that rises.
  fold.Sorted, which calls itself, and fold.Minus.
  boltingref02.Minus and boltingref02.Sorted.
  Walks of stage 12: copied, safe, neverSafe; the document's Unsafe, Minus.
  A region whose loads may be taken first though its own last stores write the cells that they load: the condition on the world is asked for only as long as the first of those stores has not come up.
  append within a region that draws its order: of one api.Per, of names.
  Walk of stage 12: remade, with fold.Sorted and with copied.
  Groups of api.Per: slices of them in a slice, each of the call's own, no two in one block.
  Walk of stage 12: grouped.
  Walks of stage 12: Canon, All, Plain.
  Walks of stage 12: Strip.
  Walks of stage 12: All, Plain, the document's Plain.
  Walks of stage 5: names.inElement, inAttr, every, Right, Attr, and the document's bad, May.
  Walks of stage 12: the document's may, once, meet, of.
  boltingref02.Equal, of slices that read as one list.
  Walk of stage 12: the document's Same, for values that read as one configuration.
  Walk of stage 12: the calls whose answers the document fixes.
  Stage 14: what the laws ask ahead: calls whose answers are fixed.
  Stage 14's law SettleOnce: it returns true.
-/
import Derived.Test.YtgjlfcamgkeibaaGreatDoorCk12
import Derived.Test.YtgjlfcamgkeibaaGreatDoorCk02
import Derived.Test.YtgjlfcamgkeibaaGreatDoorCk10
import Derived.Deep.QuietTactic
import Derived.BigQuiet
import Derived.Test.YtgjlfcamgkeibaaGreatDoorCk04
import Derived.ProofKit
import Derived.LaidMore
import Derived.OpenShut
import Derived.Stop.Joined
import Derived.Test.YtgjlfcamgkeibaaGreatDoorCk09
import Derived.Test.YtgjlfcamgkeibaaGreatDoorCk07
import Derived.Test.YtgjlfcamgkeibaaGreatDoorCk08
import Derived.Deep.RegionWith
import Derived.Test.YtgjlfcamgkeibaaGreatDoorCk05
import Derived.Test.YtgjlfcamgkeibaaGreatDoorCk11
import Derived.Test.YtgjlfcamgkeibaaGreatDoorRows
import Derived.Deep.RegionHeld3
import Derived.Deep.RegionLaw
import Derived.Deep.AppendLies
import Derived.BigRegion
import Derived.Deep.Cut
import Derived.Deep.OwnRows
import Derived.Test.YtgjlfcamgkeibaaGreatDoorCk03
namespace Go.Proofs.YtgjlfcamgkeibaaGreatDoor.Co
set_option maxRecDepth 100000
set_option linter.unusedVariables false
set_option linter.unusedSimpArgs false
open Go.RowKit Ba Fm Fo Nm Rk
theorem meetSP_eq (a : List ByteArray) (l : List Pe) : meetSPB a l = l.any fun p => meetB p.at_ a := by
  unfold meetSPB
  rw [Bool.eq_iff_iff, List.any_eq_true, List.any_eq_true]
  constructor
  · rintro ⟨x, hx, h⟩
    obtain ⟨p, hp, hi⟩ := List.any_eq_true.1 h
    exact ⟨p, hp, meet_iff.2 ⟨x, isIn_of hi, hx⟩⟩
  · rintro ⟨p, hp, h⟩
    obtain ⟨x, h1, h2⟩ := meet_iff.1 h
    exact ⟨x, h2, any_yes _ _ p hp (isIn_yes h1)⟩
set_option maxRecDepth 100000 in
set_option maxHeartbeats 4000000 in
theorem contradicts1 (v : Value) (c : Cf) (w : World) (q : Bool) (h : Cv w w.heap.size v c) (hs : Sm c) (hq : bothB c = q) :
    Calls Tryz.prog 96 #[v] w fun r w' => r = .returned (.bool q) ∧ Below w.heap.size w w' := by
  obtain ⟨vE, vR, vA, vP, l, rfl, h⟩ := h
  obtain ⟨al, aa, els, reps, ats, per, cm, da⟩ := c
  obtain ⟨O, hO⟩ : ∃ O : Obj, O = .cells #[.bool al, .bool aa, vE, vR, vA, vP, .bool cm, .bool da] 26 := ⟨_, rfl⟩
  have hb1 : Below w.heap.size w (w.alloc O) := below_new12 w O
  have hz : w.heap.size < (w.alloc O).heap.size := by simp
  have hbx : Bx (w.alloc O) w.heap.size ⟨al, aa, els, reps, ats, per, cm, da⟩ vE vR vA vP := by rw [hO]; exact Bx.new w ⟨al, aa, els, reps, ats, per, cm, da⟩ vE vR vA vP
  have h0 := h.on hb1
  have hpl : per.length = l.length := by have := h.m; simp only at this; rw [← this, len_pes]
  have hl : l.length ≤ 1000 := by have := hs.p; simp only at this; omega
  have hlen : ∀ x ∈ l, x.pe.at_.length ≤ 1000000 := fun x hx => Nat.le_trans (hs.pa x.pe (by rw [← h.m]; exact List.mem_map.2 ⟨x, hx, rfl⟩)) (by omega)
  obtain ⟨e1, he1⟩ : ∃ b, meetB els reps = b := ⟨_, rfl⟩
  obtain ⟨e2, he2⟩ : ∃ b, meetSPB ats (pes l) = b := ⟨_, rfl⟩
  have hfin : (e1 || e2 || (da && !aa)) = q := by
    rw [← hq, ← he1, ← he2, meetSP_eq, h.m]
    show (meetB els reps || (per.any fun p => meetB p.at_ ats) || (da && !aa)) = (meetB els reps || (da && !aa) || per.any fun p => meetB p.at_ ats)
    rw [Bool.or_assoc, Bool.or_assoc, Bool.or_comm (per.any _)]
  have hls := hs.e; have hlr := hs.r; have hla := hs.a
  simp only at hls hlr hla
  have HE := Lib.hid (fun wx (hw : w.alloc O = wx) => meetSS vE vR wx.heap.size wx.heap.size els reps wx e1 (by subst hw; exact h0.e) (by subst hw; exact h0.r) (by omega) (by omega) he1)
  have HP := Lib.hid (fun wx (hw : w.alloc O = wx) => meetSP vA vP ats l wx e2 (by subst hw; exact h0.a) (by subst hw; exact h0.p) (by omega) (by omega) hlen he2)
  have H1 := Lib.hid (fun (wx : World) (hb : Below (w.alloc O).heap.size (w.alloc O) wx) => show wx.cell? ⟨w.heap.size, 1, none⟩ = some (.bool aa) ∧ wx.cell? ⟨w.heap.size, 7, none⟩ = some (.bool da) from ⟨(hbx.below hb hz).at_.2.1, (hbx.below hb hz).at_.2.2.2.2.2.2.2⟩)
  have HB1 := Lib.hid hb1; have HQ := Lib.hid hfin
  clear hq hfin hlen hs h h0 hpl hb1 hbx he1 he2 hls hlr hla
  subst hO
  cases e1 with
  | true =>
    go_enter Tryz.func96, Tryz.ntmps96
    go_wp2_with (go_at_call 150; refine (HE.out _ rfl).mono ?_; rintro r w3 ⟨rfl, rfl⟩)
    go_ret
    exact ⟨ret_bool (by rw [← HQ.out]; rfl), HB1.out⟩
  | false =>
    cases e2 with
    | true =>
      go_enter Tryz.func96, Tryz.ntmps96
      go_wp2_with (first
        | (go_at_call 150; refine (HE.out _ rfl).mono ?_; rintro r w3 ⟨rfl, rfl⟩)
        | (go_at_call 151; refine (HP.out _ rfl).mono ?_; rintro r w3 ⟨rfl, hb3⟩))
      go_ret
      exact ⟨ret_bool (by rw [← HQ.out]; rfl), bt HB1.out hb3⟩
    | false =>
      cases da with
      | true =>
        go_enter Tryz.func96, Tryz.ntmps96
        go_wp2_with (first
          | (go_at_call 150; refine (HE.out _ rfl).mono ?_; rintro r w3 ⟨rfl, rfl⟩)
          | (go_at_call 151; refine (HP.out _ rfl).mono ?_; rintro r w3 ⟨rfl, hb3⟩; obtain ⟨g1, g7⟩ := H1.out _ hb3))
        go_ret
        exact ⟨ret_bool (by rw [← HQ.out]; simp), bt HB1.out hb3⟩
      | false =>
        go_enter Tryz.func96, Tryz.ntmps96
        go_wp2_with (first
          | (go_at_call 150; refine (HE.out _ rfl).mono ?_; rintro r w3 ⟨rfl, rfl⟩)
          | (go_at_call 151; refine (HP.out _ rfl).mono ?_; rintro r w3 ⟨rfl, hb3⟩; obtain ⟨g1, g7⟩ := H1.out _ hb3))
        go_ret
        exact ⟨ret_bool (by rw [← HQ.out]; rfl), bt HB1.out hb3⟩
set_option maxRecDepth 100000 in
set_option maxHeartbeats 4000000 in
theorem check12 (v : Value) (c : Cf) (w : World) (q : Nat) (h : Cv w w.heap.size v c) (hs : Sm c) (hq : checkN c = q) :
    Calls Tryz.prog 64 #[v] w fun r w' => r = .returned (.int .i64 q) ∧ Below w.heap.size w w' := by
  obtain ⟨vE, vR, vA, vP, l, rfl, h⟩ := h
  obtain ⟨w0, hw0⟩ : ∃ w0, w.alloc (confO c vE vR vA vP) = w0 := ⟨_, rfl⟩
  have hb1 : Below w.heap.size w w0 := hw0 ▸ below_new12 w (confO c vE vR vA vP)
  have hbx : Bx w0 w.heap.size c vE vR vA vP := hw0 ▸ Bx.new w c vE vR vA vP
  have hz : w.heap.size < w0.heap.size := by rw [← hw0]; simp
  have hcv : Cv w0 w0.heap.size (confV c vE vR vA vP) c := ⟨vE, vR, vA, vP, l, rfl, h.on hb1⟩
  obtain ⟨e1, he1⟩ : ∃ b, bigB c = b := ⟨_, rfl⟩
  obtain ⟨e2, he2⟩ : ∃ b, (!namesB c) = b := ⟨_, rfl⟩
  obtain ⟨e3, he3⟩ : ∃ b, (!singleB c) = b := ⟨_, rfl⟩
  obtain ⟨e4, he4⟩ : ∃ b, bothB c = b := ⟨_, rfl⟩
  have hfin : (if e1 = true then 2 else if e2 = true then 121 else if e3 = true then 122 else if e4 = true then 120 else 0) = q := by
    rw [← hq, ← he1, ← he2, ← he3, ← he4]
    unfold checkN
    cases namesB c <;> cases singleB c <;> rfl
  have HBX := Lib.hid (fun wx (hb : Below w0.heap.size w0 wx) => (hbx.below hb hz).at_)
  have H1 := Lib.hid (fun wx hb => exceeds1 (confV c vE vR vA vP) c wx e1 (hcv.on hb) hs he1)
  have H2 := Lib.hid (fun wx hb => misnames1 (confV c vE vR vA vP) c wx e2 (hcv.on hb) hs he2)
  have H3 := Lib.hid (fun wx hb => repeats1 (confV c vE vR vA vP) c wx e3 (hcv.on hb) hs he3)
  have H4 := Lib.hid (fun wx hb => contradicts1 (confV c vE vR vA vP) c wx e4 (hcv.on hb) hs he4)
  have HW := Lib.hid hw0; have HB1 := Lib.hid hb1
  clear hq hs h hb1 hbx he1 he2 he3 he4 hw0 hcv
  go_enter Tryz.func64, Tryz.ntmps64
  go_wp2_with fail
  rw [HW.out]
  refine (H1.out _ (Below.refl _ _)).mono ?_
  rintro r w1 ⟨rfl, hb1⟩
  have HL1 := Lib.hid hb1
  obtain ⟨g0, g1, g2, g3, g4, g5, g6, g7⟩ := HBX.out w1 hb1
  clear hb1
  cases e1 with
  | true =>
    rw [if_pos rfl] at hfin
    subst hfin
    go_wp2
    go_ret
    exact ⟨rfl, HB1.out.trans (HL1.out.mono (Nat.le_of_lt hz))⟩
  | false =>
  rw [if_neg (by simp)] at hfin
  go_wp2_with fail
  refine (H2.out _ HL1.out).mono ?_
  rintro r w2 ⟨rfl, hb2⟩
  have HL2 := Lib.hid (HL1.out.trans (hb2.mono HL1.out.size))
  clear g0 g1 g2 g3 g4 g5 g6 g7 hb2
  obtain ⟨g0, g1, g2, g3, g4, g5, g6, g7⟩ := HBX.out w2 HL2.out
  cases e2 with
  | true =>
    rw [if_pos rfl] at hfin
    subst hfin
    go_wp2
    go_ret
    exact ⟨rfl, HB1.out.trans (HL2.out.mono (Nat.le_of_lt hz))⟩
  | false =>
  rw [if_neg (by simp)] at hfin
  go_wp2_with fail
  refine (H3.out _ HL2.out).mono ?_
  rintro r w3 ⟨rfl, hb3⟩
  have HL3 := Lib.hid (HL2.out.trans (hb3.mono HL2.out.size))
  clear g0 g1 g2 g3 g4 g5 g6 g7 hb3
  obtain ⟨g0, g1, g2, g3, g4, g5, g6, g7⟩ := HBX.out w3 HL3.out
  cases e3 with
  | true =>
    rw [if_pos rfl] at hfin
    subst hfin
    go_wp2
    go_ret
    exact ⟨rfl, HB1.out.trans (HL3.out.mono (Nat.le_of_lt hz))⟩
  | false =>
  rw [if_neg (by simp)] at hfin
  go_wp2_with fail
  refine (H4.out _ HL3.out).mono ?_
  rintro r w4 ⟨rfl, hb4⟩
  have HL4 := Lib.hid (HL3.out.trans (hb4.mono HL3.out.size))
  clear g0 g1 g2 g3 g4 g5 g6 g7 hb4
  cases e4 with
  | true =>
    rw [if_pos rfl] at hfin
    subst hfin
    go_wp2
    go_ret
    exact ⟨rfl, HB1.out.trans (HL4.out.mono (Nat.le_of_lt hz))⟩
  | false =>
    rw [if_neg (by simp)] at hfin
    subst hfin
    go_wp2
    go_ret
    exact ⟨rfl, HB1.out.trans (HL4.out.mono (Nat.le_of_lt hz))⟩

end Go.Proofs.YtgjlfcamgkeibaaGreatDoor.Co

namespace Go.Proofs.YtgjlfcamgkeibaaGreatDoor.Cn
set_option maxRecDepth 100000
set_option linter.unusedVariables false
set_option linter.unusedSimpArgs false
open Go.RowKit Ba Ro
open Co (Cf Cv Sm confV confO attrB12 elementN checkN bel_eq12)
set_option maxRecDepth 100000 in
set_option maxHeartbeats 2000000 in
theorem rows13 (u v : Value) (l : List Cw) (c : Cf) (s : Bool) (w : World) (hl : Rv w u l) (hll : l.length ≤ 1000000) (hz : Rz.Small (ros l)) (hf : Few (ros l)) (ht : (txt (ros l)).length ≤ 1000000000) (hc : Cv w w.heap.size v c) (hs : Sm c) (E : Int) (q : List Ro) (hE : errI c (ros l) = E) (hq : outL c s (ros l) = q) :
    Calls Tryz.prog 30 #[u, v, .bool s] w fun r w' => ∃ V y, r = .returned (.tuple #[V, .int .i64 E]) ∧ Od w.heap.size w' V y ∧ ros y = q ∧ Rv w' V y ∧ Below w.heap.size w w' := by
  obtain ⟨vE, vR, vA, vP, pl, rfl, hc⟩ := hc
  obtain ⟨w1, hw1⟩ : ∃ w1, w.alloc (confO c vE vR vA vP) = w1 := ⟨_, rfl⟩
  have hb1 : Below w.heap.size w w1 := hw1 ▸ below_new w _
  have hbx : Co.Bx w1 w.heap.size c vE vR vA vP := hw1 ▸ Co.Bx.new w c vE vR vA vP
  have hz1 : w.heap.size < w1.heap.size := by rw [← hw1]; simp
  have hcv : Cv w1 w1.heap.size (confV c vE vR vA vP) c := ⟨_, _, _, _, _, rfl, hc.on hb1⟩
  obtain ⟨qc, hqc⟩ : ∃ q, checkN c = q := ⟨_, rfl⟩
  obtain ⟨qr, hqr⟩ : ∃ q, check (ros l) = q := ⟨_, rfl⟩
  have HCK := Lib.hid (Co.check12 (confV c vE vR vA vP) c w1 qc hcv hs hqc)
  have hl1 := hl.below hb1
  have HBX := Lib.hid hbx; have HW1 := Lib.hid hw1; have HB1 := Lib.hid hb1; have HCV := Lib.hid hcv; have HL1 := Lib.hid hl1; have HSM := Lib.hid hs; have HZ := Lib.hid hz; have HF := Lib.hid hf; have HT := Lib.hid ht; have HE := Lib.hid hE; have HQ := Lib.hid hq; have HQC := Lib.hid hqc; have HQR := Lib.hid hqr
  have HCP := Lib.hid hc
  clear hc hl hs hz hf ht hE hq hw1 hb1 hbx hcv hl1 hqc hqr
  have nil13 : ∀ w' : World, Rv w' (.slice none 0 0) [] := fun w' => ⟨none, 0, rfl, Nat.le_refl _, Nat.zero_le _, Rr.nil _ _ _, fun x hx => by cases hx⟩
  have HNL := Lib.hid nil13
  clear nil13
  go_enter Tryz.func30, Tryz.ntmps30
  go_upto_region 1 with (fail)
  rw [HW1.out]
  clear HW1
  by_cases h0 : qc = 0
  · subst h0
    go_upto_region 4 with (first
      | (show wpList _ _ _ (⟨_, Op.load 26 (.tmp 4), _, _, _, _⟩ :: _) _ _; refine wpList_load_mid rfl 26 (.tmp 4) rfl w.heap.size 0 rfl _ _ HBX.out Tryz.underlying26 rfl Co.size_conf ?_)
      | (go_at_call 64; refine HCK.out.mono ?_; rintro r w2 ⟨rfl, hb2⟩; have HB2 := Lib.hid hb2; clear hb2)
      | fail)
    have HBX2 := Lib.hid (HBX.out.below HB2.out hz1)
    have HRC := Lib.hid (check1 u l w2 qr (HL1.out.below HB2.out) hll HQR.out)
    have hz2 := HB2.out.size
    by_cases h1 : qr = 0
    · subst h1
      obtain ⟨hex, hrt⟩ := check_parts HQR.out
      have hEq : E = 0 := by rw [← HE.out]; exact err_ok.2 ⟨HQC.out, HQR.out⟩
      subst hEq
      have hqn : normal (keptL c s (ros l)) = q := by rw [← HQ.out]; unfold outL; rw [if_pos HE.out]; rfl
      have hkf : Few (keptL c s (ros l)) := few_kept hrt HF.out
      have hkl : (keptL c s (ros l)).length ≤ 1000000 := Nat.le_trans (K_len (fo_right hrt) 0) (by rw [len_ros]; exact hll)
      have hkt : (txt (keptL c s (ros l))).length ≤ 1000000000 := Nat.le_trans (txt_K (fo_right hrt) 0) HT.out
      have hkh : Held (keptL c s (ros l)) := fun y hy => by
        obtain ⟨x, hx, _, hd, _⟩ := K_mem (fo_right hrt) 0 (by omega) y hy
        have h3 := held_check HQR.out x hx
        have h4 := (kept_wd c s hrt).1 y hy
        omega
      have hqh : Held q := by rw [← hqn]; exact held_check (clean_check c s HQR.out)
      have HQN := Lib.hid hqn; have HKF := Lib.hid hkf; have HKL := Lib.hid hkl; have HKT := Lib.hid hkt; have HKH := Lib.hid hkh; have HQH := Lib.hid hqh
      clear hex hrt hqn hkf hkl hkt hkh hqh
      go_upto_region 7 with (first
        | (go_at_call 65; refine HRC.out.mono ?_; rintro r w3 ⟨rfl, hb3⟩; have HB3 := Lib.hid (HB2.out.trans (hb3.mono HB2.out.size)); clear hb3)
        | fail)
      have HBX3 := Lib.hid (HBX.out.below HB3.out hz1)
      have hb03 := HB1.out.trans (HB3.out.mono HB1.out.size)
      obtain ⟨A0, c0, eU, hlc, hcm, hrr, hhe⟩ := HL1.out.below HB3.out
      subst eU
      have HFI := Lib.hid (filtered_any A0 c0 l (confV c vE vR vA vP) c s w3 hrr hlc hcm HZ.out HF.out ⟨_, _, _, _, _, rfl, HCP.out.on hb03⟩ HSM.out HQR.out)
      have HB03 := Lib.hid hb03
      clear hb03 hlc hcm hrr hhe
      go_wp2_with (first
        | (show wpList _ _ _ (⟨_, Op.load 26 (.tmp 4), _, _, _, _⟩ :: _) _ _; refine wpList_load_mid rfl 26 (.tmp 4) rfl w.heap.size 0 rfl _ _ HBX3.out Tryz.underlying26 rfl Co.size_conf ?_)
        | (go_at_call 67; refine HFI.out.mono ?_; rintro r w4 ⟨v4, l4, rfl, ho4, hr4, hb4⟩; have HO4 := Lib.hid ho4; have HR4 := Lib.hid hr4; have HB4 := Lib.hid hb4; clear ho4 hr4 hb4)
        | (go_at_call 66; refine (normal1 v4 l4 w4 q (HO4.out.ow.rv (by rw [HR4.out]; exact HKH.out)) (by rw [← len_ros, HR4.out]; exact HKL.out) (by rw [HR4.out]; exact HKF.out) (by rw [HR4.out]; exact HKT.out) (by rw [HR4.out]; exact HQN.out) HQH.out).mono ?_; rintro r w5 ⟨v5, y5, rfl, ho5, hf5, hy5, hv5, hb5⟩; have HO5 := Lib.hid ho5; have HF5 := Lib.hid hf5; have HY5 := Lib.hid hy5; have HV5 := Lib.hid hv5; have HB5 := Lib.hid hb5; clear ho5 hf5 hy5 hv5 hb5)
        | fail)
      go_ret2
      have h4 := HB03.out.trans (HB4.out.mono HB03.out.size)
      exact ⟨v5, y5, rfl, (show Od _ w5 v5 y5 from ⟨HO5.out.1, HF5.out⟩).mono h4.size, HY5.out, HV5.out, h4.trans (HB5.out.mono h4.size)⟩
    · have hEq : E = qr := by rw [← HE.out]; unfold errI; rw [if_pos HQC.out, HQR.out]
      subst hEq
      have hq0 : q = [] := by rw [← HQ.out]; unfold outL; rw [if_neg (by rw [HE.out]; exact h1)]
      subst hq0
      have hqb : (E == 0) = false := by simpa using h1
      go_wp2_with (first
        | (go_at_call 65; refine HRC.out.mono ?_; rintro r w3 ⟨rfl, hb3⟩; have HB3 := Lib.hid (HB2.out.trans (hb3.mono HB2.out.size)); clear hb3)
        | fail)
      go_ret2
      exact ⟨_, [], rfl, Od.nil _ _, rfl, HNL.out _, HB1.out.trans (HB3.out.mono HB1.out.size)⟩
  · have hEq : E = (qc : Int) := by rw [← HE.out]; unfold errI; rw [if_neg (by rw [HQC.out]; exact h0), HQC.out]
    subst hEq
    have hq0 : q = [] := by rw [← HQ.out]; unfold outL; rw [if_neg (by rw [HE.out]; omega)]
    subst hq0
    have hqb : ((qc : Int) == 0) = false := by simp; omega
    go_wp2_with (first
      | (show wpList _ _ _ (⟨_, Op.load 26 (.tmp 4), _, _, _, _⟩ :: _) _ _; refine wpList_load_mid rfl 26 (.tmp 4) rfl w.heap.size 0 rfl _ _ HBX.out Tryz.underlying26 rfl Co.size_conf ?_)
      | (go_at_call 64; refine HCK.out.mono ?_; rintro r w2 ⟨rfl, hb2⟩; have HB2 := Lib.hid hb2; clear hb2)
      | fail)
    go_ret2
    exact ⟨_, [], rfl, Od.nil _ _, rfl, HNL.out _, HB1.out.trans (HB2.out.mono HB1.out.size)⟩

end Go.Proofs.YtgjlfcamgkeibaaGreatDoor.Cn

namespace Go.Proofs.YtgjlfcamgkeibaaGreatDoor.Se
set_option maxRecDepth 100000
set_option linter.unusedVariables false
set_option linter.unusedSimpArgs false
open Go.RowKit Ba Ro
open Wr (rb insideB rsum)
open Bu (SaysM rdy)
open Re (Tab)
open Co (Cf Cv Sm confV confO)
open Cn (Hv errI outL)
theorem rv_form {w : World} {v : Value} {l : List Cw} (h : Rv w v l) : ∃ A c, v = .slice A l.length c := by
  obtain ⟨A, c, e, _⟩ := h
  exact ⟨A, c, e⟩
theorem rv_nil14 (w : World) : Rv w (.slice none 0 0) [] := (Ow.nil 0 w).rv (fun x hx => by cases hx)
theorem tab_low {w w' : World} {a : Nat} (h : Tab w) (ha : 0 < a) (hb : Below a w w') : Tab w' := by
  refine ⟨fun j v hv => ?_, Nat.lt_of_lt_of_le h.2 hb.size⟩
  rw [hb.cell (p := ⟨0, 0 + j, none⟩) ha]
  exact h.1 j v hv
def filV (p : Nat) : Value := .func (.func 32) #[] #[.pointer (some ⟨p, 0, none⟩), .pointer (some ⟨p + 1, 0, none⟩)]
set_option maxRecDepth 100000 in
set_option maxHeartbeats 400000 in
theorem filter1 (p : Nat) (u : Value) (l : List Cw) (c : Cf) (s : Bool) (vE vR vA vP : Value) (w : World) (hp : w.rangeAt p 0 [.bool c.allow, .bool c.attrsAllow, vE, vR, vA, vP, .bool c.comments, .bool c.dataAttrs]) (hs : w.cell? ⟨p + 1, 0, none⟩ = some (.bool s)) (hl : Rv w u l) (hf : Fit (ros l)) (hw : Few (ros l)) (hc : Cv w w.heap.size (confV c vE vR vA vP) c) (hm : Sm c) (E : Int) (q : List Ro) (hE : errI c (ros l) = E) (hq : outL c s (ros l) = q) :
    Calls Tryz.prog 32 #[u, .pointer (some ⟨p, 0, none⟩), .pointer (some ⟨p + 1, 0, none⟩)] w fun r w' => ∃ V y, r = .returned (.tuple #[V, .int .i64 E]) ∧ ros y = q ∧ Rv w' V y ∧ Below w.heap.size w w' := by
  have hll := hf.len
  rw [len_ros] at hll
  have HC := Lib.hid (Cn.rows13 u _ l c s w hl (by omega) hf.small hw hf.txt hc hm E q hE hq)
  have HP := Lib.hid hp
  clear hp hl hf hw hc hm hE hq hll
  go_enter Tryz.func32, Tryz.ntmps32
  go_wp2_with (first
    | (show wpList _ _ _ (⟨_, Op.load 26 (.tmp 1), _, _, _, _⟩ :: _) _ _; refine wpList_load_mid rfl 26 (.tmp 1) rfl p 0 rfl _ _ HP.out Tryz.underlying26 rfl Co.size_conf ?_)
    | (go_at_call 30; refine HC.out.mono ?_; rintro r w1 ⟨V, y, rfl, -, hy, hv, hb⟩; have HY := Lib.hid hy; have HV := Lib.hid hv; have HB := Lib.hid hb; clear hy hv hb)
    | fail)
  go_ret2
  exact ⟨V, y, rfl, HY.out, HV.out, HB.out⟩

def Round (a : Nat) (vf : Value) (c : Cf) (s : Bool) (G : List Ro × Nat × Int) (M n0 : Nat) (w : World) (e : Ending) (w' : World) : Prop :=
  ∃ (go : Bool) (vl vk : Value) (f : Int) (n : Nat), e = .returned (.bool go) ∧ Bxs w' a vl vf vk f n ∧ Below M w w' ∧
    (go = false → ∃ y, Rv w' vk y ∧ (ros y, n, f) = G) ∧
    (go = true → vk = .slice none 0 0 ∧ f = 0 ∧ n0 < n ∧ n < 8 ∧ ∃ x, Rv w' vl x ∧ Fit (ros x) ∧ Few (ros x) ∧ loopM c s (8 - n) n (ros x) = G)
set_option maxRecDepth 100000 in
set_option maxHeartbeats 1000000 in
theorem round1 (a p : Nat) (vl : Value) (x : List Cw) (n : Nat) (c : Cf) (s : Bool) (vE vR vA vP : Value) (w : World) (hB : Bxs w a vl (filV p) (.slice none 0 0) 0 n) (hpa : p + 1 < a) (hp : w.rangeAt p 0 [.bool c.allow, .bool c.attrsAllow, vE, vR, vA, vP, .bool c.comments, .bool c.dataAttrs]) (hs : w.cell? ⟨p + 1, 0, none⟩ = some (.bool s)) (hl : Rv w vl x) (hf : Fit (ros x)) (hw : Few (ros x)) (hc : Cv w w.heap.size (confV c vE vR vA vP) c) (hm : Sm c) (hT : Tab w) (hn : n < 8) (G : List Ro × Nat × Int) (hG : loopM c s (8 - n) n (ros x) = G) :
    Calls Tryz.prog 68 #[.pointer (some ⟨a + 1, 0, none⟩), .pointer (some ⟨a, 0, none⟩), .pointer (some ⟨a + 2, 0, none⟩), .pointer (some ⟨a + 3, 0, none⟩), .pointer (some ⟨a + 4, 0, none⟩)] w (Round a (filV p) c s G a n w) := by
  obtain ⟨E, hE⟩ : ∃ E, errI c (ros x) = E := ⟨_, rfl⟩
  obtain ⟨q, hq⟩ : ∃ q, outL c s (ros x) = q := ⟨_, rfl⟩
  obtain ⟨r, hr⟩ : ∃ r, par (insideB q (-1)) = r := ⟨_, rfl⟩
  obtain ⟨k, hk⟩ : ∃ k, 8 - n = k + 1 := ⟨7 - n, by omega⟩
  have hqf : Fit q := by rw [← hq]; exact out_fit hf
  rw [hk, loopM, hE, hq, hr] at hG
  have HC := Lib.hid (filter1 p vl x c s vE vR vA vP w hp hs hl hf hw hc hm E q hE hq)
  have HB := Lib.hid hB; have HL := Lib.hid hl; have HG := Lib.hid hG; have HT := Lib.hid hT; have HK := Lib.hid hk; have HR := Lib.hid hr; have HQF := Lib.hid hqf
  have HQN := Lib.hid (show E ≠ 0 → q = [] from fun h => by rw [← hq, outL, if_neg (by rw [hE]; exact h)])
  have gF := hB.g.cell 0 _ rfl
  have gL := hB.l.cell 0 _ rfl
  have hlt := hB.lt
  clear hp hs hl hf hw hc hm hE hq hr hG hT hB hqf
  unfold filV at gF
  have hqn : E ≠ 0 → q = [] := HQN.out
  clear HQN
  go_enter Tryz.func68, Tryz.ntmps68
  go_upto_region 2 with (first
    | (refine HC.out.mono ?_; rintro e w1 ⟨V, y, rfl, hy, hv, hb⟩; obtain ⟨A2, c2, rfl⟩ := rv_form hv; have HV := Lib.hid hv; have HY := Lib.hid hy; have HB1 := Lib.hid (HB.out.on hb); have HBL1 := Lib.hid hb; have gK1 := HB1.out.k.cell 0 _ rfl; have fK1 := HB1.out.k.f 0; have gF1 := HB1.out.f.cell 0 _ rfl; have fF1 := HB1.out.f.f 0; clear hv hy hb)
    | fail)
  obtain ⟨w2, hw2⟩ : ∃ w2, (w1.setCell ⟨a + 2, 0, none⟩ (.slice A2 y.length c2)).setCell ⟨a + 3, 0, none⟩ (.int .i64 E) = w2 := ⟨_, rfl⟩
  rw [hw2]
  have hB2 : Bxs w2 a vl (filV p) (.slice A2 y.length c2) E n := hw2 ▸ (HB1.out.setK (.slice A2 y.length c2)).setF E
  have hv2 : Rv w2 (.slice A2 y.length c2) y := hw2 ▸ rv_set (rv_set HV.out HB1.out.k (noS_slice _ _ _) _) (HB1.out.setK (.slice A2 y.length c2)).f (noS_int _) _
  have hb2 : Below a w w2 := hw2 ▸ below_set (below_set (HBL1.out.mono (by omega)) (by omega) _) (by omega) _
  have HB2 := Lib.hid hB2; have HV2 := Lib.hid hv2; have HL2 := Lib.hid hb2
  have gF2 := hB2.f.cell 0 _ rfl
  clear hw2 hB2 hv2 hb2 gK1 fK1 gF1 fF1 gF gL HV HB1 HBL1 HC
  by_cases hE0 : E = 0
  · subst hE0
    have gN2 := HB2.out.n.cell 0 _ rfl
    have fN2 := HB2.out.n.f 0
    have hG := HG.out
    rw [if_pos rfl] at hG
    go_upto_region 5 with (fail)
    obtain ⟨w3, hw3⟩ : ∃ w3, w2.setCell ⟨a + 4, 0, none⟩ (.int .i64 ((n + 1 : Nat) : Int)) = w3 := ⟨_, rfl⟩
    have hw3' : w2.setCell ⟨a + 4, 0, none⟩ (.int .i64 ((n : Int) + 1)) = w3 := hw3
    rw [hw3']
    have hB3 : Bxs w3 a vl (filV p) (.slice A2 y.length c2) 0 ((n + 1 : Nat) : Int) := hw3 ▸ HB2.out.setN _
    have hv3 : Rv w3 (.slice A2 y.length c2) y := hw3 ▸ rv_set HV2.out HB2.out.n (noS_int _) _
    have hb3 : Below a w w3 := hw3 ▸ below_set HL2.out (by omega) _
    have HC3 := Lib.hid (again14 (.slice A2 y.length c2) y w3 hv3 (by rw [HY.out]; exact HQF.out) (tab_low HT.out (by omega) hb3) r (by rw [HY.out]; exact HR.out))
    have HB3 := Lib.hid hB3; have HV3 := Lib.hid hv3; have HL3 := Lib.hid hb3
    have gK3 := hB3.k.cell 0 _ rfl
    clear hw3 hw3' hB3 hv3 hb3 gF2 gN2 fN2 HB2 HV2 HL2
    cases r with
    | none =>
      have hG2 : (([] : List Ro), n + 1, (0 : Int)) = G := hG
      go_wp2_with (first
        | (go_at_call 38; refine HC3.out.mono ?_; rintro e w4 ⟨rfl, hb4⟩; have HB4 := Lib.hid (HB3.out.on hb4); have HL4 := Lib.hid (HL3.out.trans (hb4.mono (Nat.le_trans (by omega : a ≤ w.heap.size) HL3.out.size))); have gK4 := HB4.out.k.cell 0 _ rfl; have fK4 := HB4.out.k.f 0; have gL4 := HB4.out.l.cell 0 _ rfl; have fL4 := HB4.out.l.f 0; clear hb4)
        | fail)
      go_ret
      exact ⟨false, .slice none 0 0, .slice none 0 0, 0, n + 1, rfl, (HB4.out.setK _).setL _, below_set (below_set HL4.out (by omega) _) (by omega) _, fun _ => ⟨[], rv_nil14 _, hG2⟩, fun h => by cases h⟩
    | some o =>
      by_cases hoq : o = q
      · have hG2 : (o, n + 1, (0 : Int)) = G := by
          rw [← hG]
          show _ = (if o = q then _ else _ : List Ro × Nat × Int)
          rw [if_pos hoq]
        go_wp2_with (first
          | (go_at_call 38; refine HC3.out.mono ?_; rintro e w4 ⟨⟨u, z, rfl, hu, hz, hm⟩, hb4⟩; obtain ⟨A4, c4, rfl⟩ := rv_form hu; have HS := Lib.hid (same1 (.slice A4 z.length c4) (.slice A2 y.length c2) z y w4 true hu (HV3.out.below hb4) (by have := (par_fit HR.out).len; rw [← hz, len_ros] at this; omega) (by have := HQF.out.len; rw [← HY.out, len_ros] at this; omega) (decide_eq_true (by rw [hz, HY.out, hoq]))); have HU := Lib.hid hu; have HZ := Lib.hid hz; have HM := Lib.hid hm.1; have HB4 := Lib.hid (HB3.out.on hb4); have HV4 := Lib.hid (HV3.out.below hb4); have HL4 := Lib.hid (HL3.out.trans (hb4.mono (Nat.le_trans (by omega : a ≤ w.heap.size) HL3.out.size))); have gK4 := HB4.out.k.cell 0 _ rfl; clear hu hz hm hb4)
          | (go_at_call 39; refine HS.out.mono ?_; rintro e w5 ⟨rfl, hb5⟩; have HB5 := Lib.hid (HB4.out.on hb5); have HV5 := Lib.hid (HV4.out.below hb5); have HU5 := Lib.hid (HU.out.below hb5); have HL5 := Lib.hid (HL4.out.trans (hb5.mono (Nat.le_trans (by omega : a ≤ w.heap.size) HL4.out.size))); clear hb5)
          | fail)
        go_ret
        exact ⟨false, vl, .slice A2 y.length c2, 0, n + 1, rfl, HB5.out, HL5.out, fun _ => ⟨y, HV5.out, by rw [HY.out, ← hoq]; exact hG2⟩, fun h => by cases h⟩
      · have hG2 : (if k = 0 then ([], n + 1, 0) else loopM c s k (n + 1) o) = G := by
          rw [← hG]
          show _ = (if o = q then _ else _ : List Ro × Nat × Int)
          rw [if_neg hoq]
        obtain ⟨d, hd⟩ : ∃ d, decide (((n + 1 : Nat) : Int) < 8) = d := ⟨_, rfl⟩
        have hd' : decide ((n : Int) + 1 < 8) = d := hd
        have HD := Lib.hid hd
        have HG2 := Lib.hid hG2
        clear hd hG hG2
        go_wp2_with (first
          | (go_at_call 38; refine HC3.out.mono ?_; rintro e w4 ⟨⟨u, z, rfl, hu, hz, hm⟩, hb4⟩; obtain ⟨A4, c4, rfl⟩ := rv_form hu; have HS := Lib.hid (same1 (.slice A4 z.length c4) (.slice A2 y.length c2) z y w4 false hu (HV3.out.below hb4) (by have := (par_fit HR.out).len; rw [← hz, len_ros] at this; omega) (by have := HQF.out.len; rw [← HY.out, len_ros] at this; omega) (decide_eq_false (by rw [hz, HY.out]; exact hoq))); have HU := Lib.hid hu; have HZ := Lib.hid hz; have HM := Lib.hid hm.1; have HB4 := Lib.hid (HB3.out.on hb4); have HV4 := Lib.hid (HV3.out.below hb4); have HL4 := Lib.hid (HL3.out.trans (hb4.mono (Nat.le_trans (by omega : a ≤ w.heap.size) HL3.out.size))); have gK4 := HB4.out.k.cell 0 _ rfl; clear hu hz hm hb4)
          | (go_at_call 39; refine HS.out.mono ?_; rintro e w5 ⟨rfl, hb5⟩; have HB5 := Lib.hid (HB4.out.on hb5); have HV5 := Lib.hid (HV4.out.below hb5); have HU5 := Lib.hid (HU.out.below hb5); have HL5 := Lib.hid (HL4.out.trans (hb5.mono (Nat.le_trans (by omega : a ≤ w.heap.size) HL4.out.size))); have gK5 := HB5.out.k.cell 0 _ rfl; have fK5 := HB5.out.k.f 0; have gL5 := HB5.out.l.cell 0 _ rfl; have fL5 := HB5.out.l.f 0; have gN5 := HB5.out.n.cell 0 _ rfl; clear hb5)
          | fail)
        go_ret
        have hvU : Rv ((w5.setCell ⟨a + 2, 0, none⟩ (.slice none 0 0)).setCell ⟨a, 0, none⟩ (.slice A4 z.length c4)) (.slice A4 z.length c4) z := rv_set (rv_set HU5.out HB5.out.k (noS_slice _ _ _) _) (HB5.out.setK _).l (noS_rv HL.out) _
        cases d with
        | true =>
          have hk0 : k ≠ 0 := by have := of_decide_eq_true HD.out; omega
          have hG3 := HG2.out
          rw [if_neg hk0] at hG3
          exact ⟨true, .slice A4 z.length c4, .slice none 0 0, 0, n + 1, rfl, (HB5.out.setK _).setL _, below_set (below_set HL5.out (by omega) _) (by omega) _, (fun h => by cases h), fun _ => ⟨rfl, rfl, Nat.lt_succ_self n, by have := of_decide_eq_true HD.out; omega, z, hvU, by rw [HZ.out]; exact par_fit HR.out, by rw [HZ.out]; exact HM.out, by rw [HZ.out, show 8 - (n + 1) = k by omega]; exact hG3⟩⟩
        | false =>
          have hk0 : k = 0 := by have := of_decide_eq_false HD.out; omega
          have hG3 := HG2.out
          rw [if_pos hk0] at hG3
          exact ⟨false, .slice A4 z.length c4, .slice none 0 0, 0, n + 1, rfl, (HB5.out.setK _).setL _, below_set (below_set HL5.out (by omega) _) (by omega) _, (fun _ => ⟨[], rv_nil14 _, hG3⟩), fun h => by cases h⟩
  · have hne : (E != 0) = true := by simpa using hE0
    have hG := HG.out
    rw [if_neg hE0] at hG
    go_wp2
    go_ret
    exact ⟨false, vl, .slice A2 y.length c2, E, n, rfl, HB2.out, HL2.out, fun _ => ⟨y, HV2.out, by rw [HY.out, hqn hE0]; exact hG⟩, fun h => by cases h⟩

end Go.Proofs.YtgjlfcamgkeibaaGreatDoor.Se

namespace Go.Proofs.YtgjlfcamgkeibaaGreatDoor.Se
set_option maxRecDepth 100000
set_option linter.unusedVariables false
set_option linter.unusedSimpArgs false
open Go.RowKit Ba Ro
open Wr (rb insideB)
open Bu (SaysM rdy)
open Re (Tab)
open Co (Cf Cv Sm confV confO)
open Cn (Hv errI outL)
def nOf (a : Nat) (w : World) : Nat := match w.cell? ⟨a + 4, 0, none⟩ with
  | some (.int _ n) => n.toNat
  | _ => 0
theorem nOf_box {a : Nat} {w : World} {vl vf vk : Value} {f : Int} {n : Nat} (h : Bxs w a vl vf vk f n) : nOf a w = n := by
  have := h.n.cell 0 (.int .i64 n) rfl
  unfold nOf
  rw [this]
  exact Int.toNat_natCast n
theorem hv_at {w : World} {g : Nat} (t : TypeId) (cs : Array Value) (h : g = w.heap.size) : Hv t (w.alloc (.cells cs t)) g cs := h ▸ Hv.new t w cs
theorem bel_new (w : World) (o : Obj) : Below w.heap.size w (w.alloc o) := (Below.refl _ _).alloc (Nat.le_refl _) _
theorem bxs_new (w : World) (u vf : Value) : Bxs (((((w.alloc (.cells #[u] 22)).alloc (.cells #[vf] 59)).alloc (.cells #[.slice none 0 0] 22)).alloc (.cells #[.int .i64 0] 29)).alloc (.cells #[.int .i64 0] 3)) w.heap.size u vf (.slice none 0 0) 0 0 :=
  ⟨((((hv_at _ _ rfl).on (bel_new _ _)).on (bel_new _ _)).on (bel_new _ _)).on (bel_new _ _), (((hv_at _ _ (by simp)).on (bel_new _ _)).on (bel_new _ _)).on (bel_new _ _), ((hv_at _ _ (by simp)).on (bel_new _ _)).on (bel_new _ _), (hv_at _ _ (by simp)).on (bel_new _ _), hv_at _ _ (by simp)⟩
theorem bel_drewN (w : World) (n : Nat) : Below w.heap.size w (w.drewN n) := ⟨rfl, rfl, rfl, Nat.le_refl _, fun _ _ => rfl⟩
theorem below_five (w : World) (a b c d e : Obj) : Below w.heap.size w (((((w.alloc a).alloc b).alloc c).alloc d).alloc e) := by
  have h1 := bel_new w a
  have h2 := bt h1 (bel_new _ b)
  have h3 := bt h2 (bel_new _ c)
  have h4 := bt h3 (bel_new _ d)
  exact bt h4 (bel_new _ e)
set_option maxRecDepth 100000 in
set_option maxHeartbeats 1000000 in
theorem settled1 (p : Nat) (A : Option Addr) (c0 : Nat) (x : List Cw) (c : Cf) (s : Bool) (vE vR vA vP : Value) (w : World) (hpw : p + 1 < w.heap.size) (hp : ∀ wx, Below w.heap.size w wx → wx.rangeAt p 0 [.bool c.allow, .bool c.attrsAllow, vE, vR, vA, vP, .bool c.comments, .bool c.dataAttrs] ∧ wx.cell? ⟨p + 1, 0, none⟩ = some (.bool s)) (hl : Rv w (.slice A x.length c0) x) (hf : Fit (ros x)) (hw : Few (ros x)) (hc : ∀ wx, Below w.heap.size w wx → Cv wx wx.heap.size (confV c vE vR vA vP) c) (hm : Sm c) (hT : Tab w) (G : List Ro × Nat × Int) (hG : loopM c s 8 0 (ros x) = G) :
    Calls Tryz.prog 31 #[.slice A x.length c0, filV p] w fun e w' => ∃ V y, e = .returned (.tuple #[V, .int .i64 G.2.1, .int .i64 G.2.2]) ∧ ros y = G.1 ∧ Rv w' V y ∧ Below w.heap.size w w' := by
  have hmf : ∀ (fn : Fn) (first cap : Array Value) (w : World), (Instr.makeFunc fn first cap).run Tryz.prog w = .ok (.func fn first cap) w := fun _ _ _ _ => rfl
  have hB := bxs_new w (.slice A x.length c0) (filV p)
  have hb0 : Below w.heap.size w (((((w.alloc (.cells #[(.slice A x.length c0)] 22)).alloc (.cells #[filV p] 59)).alloc (.cells #[.slice none 0 0] 22)).alloc (.cells #[.int .i64 0] 29)).alloc (.cells #[.int .i64 0] 3)) := below_five w _ _ _ _ _
  unfold filV at hB hb0 ⊢
  have HP := Lib.hid hp; have HL := Lib.hid hl; have HF := Lib.hid hf; have HW := Lib.hid hw; have HC := Lib.hid hc; have HM := Lib.hid hm; have HT := Lib.hid hT; have HG := Lib.hid hG; have HB := Lib.hid hB; have HB0 := Lib.hid hb0
  clear hp hl hf hw hc hm hT hG hB hb0
  go_enter Tryz.func31, Tryz.ntmps31
  go_upto_region 4 with (fail)
  obtain ⟨W, hW⟩ : ∃ W, (((((w.alloc (.cells #[(.slice A x.length c0)] 22)).alloc (.cells #[.func (.func 32) #[] #[.pointer (some ⟨p, 0, none⟩), .pointer (some ⟨p + 1, 0, none⟩)]] 59)).alloc (.cells #[.slice none 0 0] 22)).alloc (.cells #[.int .i64 0] 29)).alloc (.cells #[.int .i64 0] 3)) = W := ⟨_, rfl⟩
  rw [hW]
  have hB : Bxs W w.heap.size (.slice A x.length c0) (filV p) (.slice none 0 0) 0 ((0 : Nat) : Int) := hW ▸ HB.out
  have hb0 : Below w.heap.size w W := hW ▸ HB0.out
  clear HB HB0 hW
  go_wp2
  go_loopw [13] (fun _ wr => ∃ (vl : Value) (z : List Cw) (n : Nat), Bxs wr w.heap.size vl (filV p) (.slice none 0 0) 0 (n : Int) ∧ Rv wr vl z ∧ Fit (ros z) ∧ Few (ros z) ∧ n < 8 ∧ loopM c s (8 - n) n (ros z) = G ∧ Below w.heap.size w wr) (fun _ wr => 8 - nOf w.heap.size wr)
  case atStart => exact ⟨_, x, 0, hB, HL.out.below hb0, HF.out, HW.out, by omega, HG.out, hb0⟩
  case round =>
    clear hB hb0
    obtain ⟨vl, z, n, hB, hz, hfz, hwz, hn, hG, hbel⟩ := hrel
    have HR := Lib.hid (round1 w.heap.size p vl z n c s vE vR vA vP wr hB hpw (HP.out wr hbel).1 (HP.out wr hbel).2 hz hfz hwz (HC.out wr hbel) HM.out (HT.out.below hbel) hn G hG)
    have HN := Lib.hid (nOf_box hB)
    have HBE := Lib.hid hbel
    clear hB hz hfz hwz hG hbel
    go_wp2_with fail
    refine HR.out.mono ?_
    rintro e w5 ⟨go, vl5, vk5, f5, n5, rfl, hB5, hb5, h1, h2⟩
    have HB5 := Lib.hid hB5
    have HL5 := Lib.hid (HBE.out.trans hb5)
    clear hb5 HR
    cases go with
    | true =>
      obtain ⟨rfl, rfl, hlt, hn5, x5, hv5, hf5, hw5, hG5⟩ := h2 rfl
      have hm5 := nOf_box hB5
      clear h1 h2 hB5
      go_wp2
      go_roundw
      case rel => exact ⟨vl5, x5, n5, HB5.out, hv5, hf5, hw5, hn5, hG5, HL5.out⟩
      case measure => rw [hm5, HN.out]; omega
    | false =>
      obtain ⟨y, hvy, hGy⟩ := h1 rfl
      have hGy := hGy.symm
      subst hGy
      have gK := hB5.k.cell 0 _ rfl
      have gN := hB5.n.cell 0 _ rfl
      have gF := hB5.f.cell 0 _ rfl
      have HV := Lib.hid hvy
      clear h1 h2 hB5 hvy
      go_wp2_with fail
      go_quiet (fail)
      go_wp2
      go_ret3
      exact ⟨vk5, rfl, y, rfl, HV.out.below (bel_drewN _ _), HL5.out.trans ((bel_drewN _ _).mono HL5.out.size)⟩
set_option maxRecDepth 100000 in
set_option maxHeartbeats 1000000 in
theorem trees14 (u v : Value) (l : List Cw) (c : Cf) (s : Bool) (w : World) (hl : Rv w u l) (hf : Fit (ros l)) (hw : Few (ros l)) (hT : Tab w) (hc : Cv w w.heap.size v c) (hm : Sm c) (G : List Ro × Nat × Int) (hG : loopM c s 8 0 (ros l) = G) :
    Calls Tryz.prog 12 #[u, v, .bool s] w fun e w' => ∃ V y, e = .returned (.tuple #[V, .int .i64 G.2.1, .int .i64 G.2.2]) ∧ ros y = G.1 ∧ Rv w' V y ∧ Below w.heap.size w w' := by
  obtain ⟨A, c0, rfl⟩ := rv_form hl
  obtain ⟨vE, vR, vA, vP, pl, rfl, hc⟩ := hc
  obtain ⟨W, hW⟩ : ∃ W, (w.alloc (.cells #[.bool c.allow, .bool c.attrsAllow, vE, vR, vA, vP, .bool c.comments, .bool c.dataAttrs] 26)).alloc (.cells #[.bool s] 4) = W := ⟨_, rfl⟩
  have hb0 : Below w.heap.size w W := hW ▸ bt (bel_new w _) (bel_new _ _)
  have hv0 : Hv 26 W w.heap.size #[.bool c.allow, .bool c.attrsAllow, vE, vR, vA, vP, .bool c.comments, .bool c.dataAttrs] := hW ▸ (hv_at _ _ rfl).on (bel_new _ _)
  have hv1 : Hv 4 W (w.heap.size + 1) #[.bool s] := hW ▸ hv_at _ _ (by simp)
  have HC := Lib.hid (settled1 w.heap.size A c0 l c s vE vR vA vP W hv1.lt (fun wx hb => ⟨(hv0.on hb).range, (hv1.on hb).cell 0 _ rfl⟩) (hl.below hb0) hf hw (fun wx hb => ⟨_, _, _, _, _, rfl, (hc.on hb0).on hb⟩) hm (hT.below hb0) G hG)
  have HW := Lib.hid hW; have HB := Lib.hid hb0
  clear hl hf hw hT hc hm hG hW hb0 hv0 hv1
  go_enter Tryz.func12, Tryz.ntmps12
  go_upto_region 1 with (fail)
  rw [HW.out]
  go_wp2_with (first
    | (go_at_call 31; refine HC.out.mono ?_; rintro e w1 ⟨V, y, rfl, hy, hv, hb⟩; have HY := Lib.hid hy; have HV := Lib.hid hv; have HB1 := Lib.hid (bt HB.out hb); clear hy hv hb)
    | fail)
  go_ret3
  exact ⟨V, y, rfl, HY.out, HV.out, HB1.out⟩

def textM (c : Cf) (s : Bool) (t : List UInt8) : List UInt8 × Int := match par t with
  | none => ([], 2)
  | some o => (insideB (loopM c s 8 0 o).1 (-1), (loopM c s 8 0 o).2.2)
set_option maxRecDepth 100000 in
set_option maxHeartbeats 1000000 in
theorem text14 (t : ByteArray) (v : Value) (c : Cf) (s : Bool) (w : World) (ht : t.size ≤ 200000000000) (hT : Tab w) (hc : Cv w w.heap.size v c) (hm : Sm c) (q : ByteArray) (E : Int) (hq : textM c s (L t) = (L q, E)) :
    Calls Tryz.prog 19 #[.string t, v, .bool s] w fun e w' => e = .returned (.tuple #[.string q, .int .i64 E]) ∧ Below w.heap.size w w' := by
  obtain ⟨r, hr⟩ : ∃ r, par (L t) = r := ⟨_, rfl⟩
  unfold textM at hq
  rw [hr] at hq
  obtain ⟨vE, vR, vA, vP, pl, rfl, hc⟩ := hc
  obtain ⟨W, hW⟩ : ∃ W, w.alloc (.cells #[.bool c.allow, .bool c.attrsAllow, vE, vR, vA, vP, .bool c.comments, .bool c.dataAttrs] 26) = W := ⟨_, rfl⟩
  have hb0 : Below w.heap.size w W := hW ▸ bel_new w _
  have hv0 : Hv 26 W w.heap.size #[.bool c.allow, .bool c.attrsAllow, vE, vR, vA, vP, .bool c.comments, .bool c.dataAttrs] := hW ▸ hv_at _ _ rfl
  have HRG := Lib.hid (fun wx (hb : Below W.heap.size W wx) => show wx.rangeAt w.heap.size 0 [.bool c.allow, .bool c.attrsAllow, vE, vR, vA, vP, .bool c.comments, .bool c.dataAttrs] from (hv0.on hb).range)
  have HCF := Lib.hid (fun wx (hb : Below W.heap.size W wx) => show Cv wx wx.heap.size (confV c vE vR vA vP) c from ⟨_, _, _, _, _, rfl, (hc.on hb0).on hb⟩)
  have HP := Lib.hid (parse14 t W r ht (hT.below hb0) hr)
  have HT := Lib.hid (hT.below hb0); have HW := Lib.hid hW; have HB := Lib.hid hb0; have HM := Lib.hid hm; have HR := Lib.hid hr
  clear hT hc hm hW hb0 hv0 hr
  go_enter Tryz.func19, Tryz.ntmps19
  go_upto_region 1 with (fail)
  rw [HW.out]
  clear HW
  cases r with
  | none =>
    have hq2 : (([] : List UInt8), (2 : Int)) = (L q, E) := hq
    have h1 : ([] : List UInt8) = L q := congrArg Prod.fst hq2
    have h2 : (2 : Int) = E := congrArg Prod.snd hq2
    subst h2
    have hq0 : q = .empty := by rw [← B_L q, ← h1]; rfl
    subst hq0
    clear hq hq2 h1
    go_wp2_with fail
    refine HP.out.mono ?_
    rintro e w1 ⟨h1, hb⟩
    have h1' : e = .returned (.tuple #[.slice none 0 0, .int .i64 2]) := h1
    subst h1'
    have HB1 := Lib.hid (bt HB.out hb)
    clear hb h1
    go_wp2
    go_ret2
    exact ⟨rfl, HB1.out⟩
  | some o =>
    obtain ⟨G, hG⟩ : ∃ G, loopM c s 8 0 o = G := ⟨_, rfl⟩
    have hq2 : (insideB (loopM c s 8 0 o).1 (-1), (loopM c s 8 0 o).2.2) = (L q, E) := hq
    have hfG := loop_fit c s 8 0 o (par_fit HR.out)
    rw [hG] at hfG
    have h1 : insideB G.1 (-1) = L q := by rw [← hG]; exact congrArg Prod.fst hq2
    have h2 : G.2.2 = E := by rw [← hG]; exact congrArg Prod.snd hq2
    have HG := Lib.hid hG; have H1 := Lib.hid h1; have H2 := Lib.hid h2; have HFG := Lib.hid hfG
    clear hq2 hq hG h1 h2 hfG
    go_wp2_with (first
      | (go_at_call 21; refine HP.out.mono ?_; rintro e w1 ⟨⟨u, z, rfl, hu, hz, hmm⟩, hb⟩; have HU := Lib.hid (trees14 u (confV c vE vR vA vP) z c s w1 hu (by rw [hz]; exact par_fit HR.out) (by rw [hz]; exact hmm.1) (HT.out.below hb) (HCF.out w1 hb) HM.out G (by rw [hz]; exact HG.out)); have HB1 := Lib.hid hb; clear hu hz hmm hb)
      | (show wpList _ _ _ (⟨_, Op.load 26 (.tmp 4), _, _, _, _⟩ :: _) _ _; refine wpList_load_mid rfl 26 (.tmp 4) rfl w.heap.size 0 rfl _ _ (HRG.out _ HB1.out) Tryz.underlying26 rfl Co.size_conf ?_)
      | (go_at_call 12; refine HU.out.mono ?_; rintro e w2 ⟨V, y, rfl, hy, hv, hb⟩; have HS := Lib.hid (write14 V y w2 hv (by rw [hy]; exact HFG.out) q (by rw [hy, H1.out, B_L])); have HB2 := Lib.hid (bt (bt HB.out HB1.out) hb); clear hy hv hb)
      | (go_at_call 22; refine HS.out.mono ?_; rintro e w3 ⟨rfl, hb⟩; have HB3 := Lib.hid (bt HB2.out hb); clear hb)
      | fail)
    go_ret2
    exact ⟨by rw [← H2.out]; rfl, HB3.out⟩

end Go.Proofs.YtgjlfcamgkeibaaGreatDoor.Se

namespace Go.Proofs.YtgjlfcamgkeibaaGreatDoor.Re
set_option maxRecDepth 100000
set_option linter.unusedSimpArgs false
set_option linter.unusedVariables false
open Go.ChangeShapes Go.WideShapes Go.ChangeAt Go.RowKit Ba Rm
abbrev laidL : List (String × DataW Unit) := [("bolting/refs.named", Rows.laid_bolting_refs_named)]
theorem gNamed : Tryz.prog.globalNamed "bolting/refs.named" = some 0 := by kernel_rfl
theorem tNamed : (Tryz.prog.globals[0]?).map (·.type) = some 184 := by kernel_rfl
theorem datum : (Rows.laid_bolting_refs_named : DataW Unit) = .agg (tab.map fun p => .agg [.lit (.string p.1), .lit (.int .i64 p.2)]) := by kernel_rfl
theorem c34 : Tryz.prog.cellsOf 183 = 2 := by kernel_rfl
theorem c9 : Tryz.prog.cellsOf 9 = 1 := by kernel_rfl
theorem c3 : Tryz.prog.cellsOf 3 = 1 := by kernel_rfl

theorem door_met (os : Os) (args : Array Value) : laidMetH Tryz.prog laidL ((World.doorLaid Tryz.prog 400 os).forCall (fun _ _ => 0) ⟨#[], args, []⟩).memory :=
  laidMetH_of_parts3 (fuel := 8) (laidMet_of_run' 8 (by kernel_rfl) (by kernel_rfl)) (by kernel_rfl) (by kernel_rfl)

theorem pair_at {W : World} {enc : TypeId × Value → Unit} {sp : Nat → Bool} {hd : Bool} {m : Nat} {cs : List Value} {x : DataW Unit × List MemPlace} {p : List UInt8 × Nat}
    (h : DataW.trod enc Tryz.prog W 0 sp hd m 183 cs = some x) (e : x.1 = .agg [.lit (.string p.1), .lit (.int .i64 p.2)]) : cs = [.string (B p.1), .int .i64 p.2] := by
  obtain ⟨y0, y1, n, rfl, hl, h0, h1⟩ := trod_struct2 Tryz.underlying183 h
  rw [c34] at hl
  simp only [DataW.agg.injEq, List.cons.injEq, and_true] at e
  obtain ⟨e0, e1⟩ := e
  obtain ⟨s, q0, rfl, _⟩ := DataW.trod_string Tryz.underlying9 h0
  obtain ⟨k, q1, rfl, _⟩ := DataW.trod_int Tryz.underlying3 h1
  simp only [DataW.lit.injEq, Lit.string.injEq, Lit.int.injEq, true_and] at e0 e1
  have q0' : (cs.drop 0).take 1 = [.string s] := by rw [← q0]; rw [show Tryz.prog.cellsOf _ = 1 from c9]
  have q1' : (cs.drop 1).take 1 = [.int .i64 k] := by rw [← q1]; rw [show Tryz.prog.cellsOf _ = 1 from c3]
  match cs, hl, q0', q1' with
  | [a, b], _, q0', q1' =>
    simp at q0' q1'
    rw [q0', q1', e1, show s = B p.1 from B_of e0]

set_option maxRecDepth 100000 in
theorem tab_of_laid {W : World} (h : laidMetH Tryz.prog laidL W) : Tab W := by
  rw [MakeChecks.laidMetH_plain _ _ _ (by kernel_rfl)] at h
  obtain ⟨ps, ⟨g0, t0, cs0, f0, p0, q0, hg0, ht0, hv0, hd0, _, _⟩, _, _⟩ := h
  obtain rfl := Option.some.inj (gNamed.symm.trans hg0)
  obtain rfl := Option.some.inj (tNamed.symm.trans ht0)
  rw [datum] at hd0
  obtain ⟨xs, m, rfl, hx, hlen, hn, hel⟩ := DataW.trod_array Tryz.underlying184 hd0
  simp only [Prod.mk.injEq, DataW.agg.injEq] at hx
  have hc : ∀ i, i < 24 → ∀ p, tab[i]? = some p → (cs0.toList.drop (2 * i)).take 2 = [.string (B p.1), .int .i64 p.2] := by
    intro i hi p hp
    have h1 := hel i hi
    rw [c34, Nat.mul_comm i 2] at h1
    have hxi : i < xs.length := by omega
    rw [List.getElem?_eq_getElem hxi] at h1
    refine pair_at h1 ?_
    have h2 := congrArg (fun l => l[i]?) hx.1
    simp only [List.getElem?_map, hp, Option.map_some, List.getElem?_eq_getElem hxi, Option.some.injEq] at h2
    exact h2.symm
  have hcell : ∀ j v, (cellsOf2 tab)[j]? = some v → W.cell? ⟨0, j, none⟩ = some v := by
    intro j v hv
    rw [World.var?_cell hg0 hv0 j, ← Array.getElem?_toList]
    have hj : j < 48 := (List.getElem?_eq_some_iff.1 hv).1
    have hi : j / 2 < 24 := by omega
    obtain ⟨p, hp⟩ : ∃ p, tab[j / 2]? = some p := ⟨_, List.getElem?_eq_getElem (show j / 2 < tab.length from hi)⟩
    have h1 := hc (j / 2) hi p hp
    have h2 : ((cellsOf2 tab).drop (2 * (j / 2))).take 2 = [.string (B p.1), .int .i64 p.2] := by
      rw [cellsOf2_drop]
      have : tab.drop (j / 2) = p :: tab.drop (j / 2 + 1) := by
        rw [List.drop_eq_getElem_cons (show j / 2 < tab.length from hi)]
        congr 1
        rw [List.getElem?_eq_getElem (show j / 2 < tab.length from hi)] at hp
        exact Option.some.inj hp
      rw [this]; rfl
    have h3 : ∀ l : List Value, ((l.drop (2 * (j / 2))).take 2)[j % 2]? = l[j]? := fun l => by
      rw [List.getElem?_take_of_lt (by omega), List.getElem?_drop]
      congr 1
      omega
    rw [← h3, h1, ← h2, h3]
    exact hv
  refine ⟨fun j v hv => by rw [Nat.zero_add]; exact hcell j v hv, ?_⟩
  have h0 := hcell 0 (.string (B [97, 109, 112])) rfl
  cases hz : W.heap.size with
  | succ n => omega
  | zero =>
    have : W.heap[0]? = none := Array.getElem?_eq_none (by omega)
    simp [World.cell?, this] at h0

end Go.Proofs.YtgjlfcamgkeibaaGreatDoor.Re

namespace Go.Proofs.YtgjlfcamgkeibaaGreatDoor.Bu
set_option maxRecDepth 100000
set_option linter.unusedVariables false
set_option linter.unusedSimpArgs false
open Go.RowKit Ba Fm Fo Nm Bm
open Ro (At Ro Cw ros Fr Ow Rv cells bare rows_new refSame1)
open Tm (Tk within tx)
open Re (Tab)
theorem rdy_plain {l : List UInt8} (h : Ch.plain l) : rdy l = l := by unfold rdy; rw [Ch.plain_dL l h, Ch.plain_ln l h]
end Go.Proofs.YtgjlfcamgkeibaaGreatDoor.Bu

namespace Go.Proofs.YtgjlfcamgkeibaaGreatDoor.Se
set_option linter.unusedVariables false
set_option linter.unusedSimpArgs false
open Ba Ro
open Co (Cf plainC allC)
open Cn (errI outL clean_nr)
open Wm (oneR ppR holds inn beh node tagW endW)
open Wr (insideB)
open Bm (treeB rE rT t1 t2 tree_eval)
open Bu (rdy rdy_plain)
open Tm (within within_eval tx)
def cDat : Cf := ⟨false, false, [], [], [], [], false, true⟩
def S0 : List UInt8 := [60, 112, 62, 97, 60, 115, 99, 114, 105, 112, 116, 62, 98, 60, 47, 115, 99, 114, 105, 112, 116, 62]
def S1 : List UInt8 := [60, 112, 62, 97, 60, 47, 112, 62]
def S2 : List UInt8 := [60, 112, 62, 60, 112, 62, 60, 47, 112, 62, 60, 47, 112, 62]
def S3 : List UInt8 := [60, 112, 62, 60, 47, 112, 62, 60, 112, 62, 60, 47, 112, 62, 60, 112, 62, 60, 47, 112, 62]
def P0 : List Ro := [rE 0 [112], rT 1 [97], rE 1 [115, 99, 114, 105, 112, 116], rT 2 [98]]
def P3 : List Ro := [rE 0 [112], rE 0 [112], rE 0 [112]]
def Q0 : List Ro := [rE 0 [112], rT 1 [97]]
set_option maxRecDepth 100000 in
theorem tok0 : within [] S0 = [t1 [112], tx [97], t1 [115, 99, 114, 105, 112, 116], tx [98], t2 [115, 99, 114, 105, 112, 116]] := by unfold S0; rw [within_eval]; decide
set_option maxRecDepth 100000 in
theorem tre0 : treeB ⟨[], []⟩ [t1 [112], tx [97], t1 [115, 99, 114, 105, 112, 116], tx [98], t2 [115, 99, 114, 105, 112, 116]] = some P0 := by rw [tree_eval]; decide
set_option maxRecDepth 100000 in
theorem tok1 : within [] S1 = [t1 [112], tx [97], t2 [112]] := by unfold S1; rw [within_eval]; decide
set_option maxRecDepth 100000 in
theorem tre1 : treeB ⟨[], []⟩ [t1 [112], tx [97], t2 [112]] = some Q0 := by rw [tree_eval]; decide
set_option maxRecDepth 100000 in
theorem tok2 : within [] S2 = [t1 [112], t1 [112], t2 [112], t2 [112]] := by unfold S2; rw [within_eval]; decide
set_option maxRecDepth 100000 in
theorem tre2 : treeB ⟨[], []⟩ [t1 [112], t1 [112], t2 [112], t2 [112]] = some P3 := by rw [tree_eval]; decide
set_option maxRecDepth 100000 in
theorem tok3 : within [] S3 = [t1 [112], t2 [112], t1 [112], t2 [112], t1 [112], t2 [112]] := by unfold S3; rw [within_eval]; decide
set_option maxRecDepth 100000 in
theorem tre3 : treeB ⟨[], []⟩ [t1 [112], t2 [112], t1 [112], t2 [112], t1 [112], t2 [112]] = some P3 := by rw [tree_eval]; decide
theorem par_of {s : List UInt8} {t : List Tm.Tk} {o : Option (List Ro)} (hs : s.length ≤ 1000) (hp : Ch.plain s) (ht : within [] s = t) (ho : treeB ⟨[], []⟩ t = o) : par s = o := by
  unfold par
  rw [if_neg (by omega), rdy_plain hp, ht, ho]
theorem par0 : par S0 = some P0 := par_of (by decide) (by unfold Ch.plain; decide) tok0 tre0
theorem par1 : par S1 = some Q0 := par_of (by decide) (by unfold Ch.plain; decide) tok1 tre1
theorem par2 : par S2 = some P3 := par_of (by decide) (by unfold Ch.plain; decide) tok2 tre2
theorem par3 : par S3 = some P3 := par_of (by decide) (by unfold Ch.plain; decide) tok3 tre3
theorem wr_el (raw : Bool) (d : Int) (r : List Ro) : Wm.wr raw (rE d [112] :: r) = [60, 112, 62] ++ ((Wm.wr false (inn (rE d [112]) r) ++ [60, 47, 112, 62]) ++ Wm.wr raw (beh (rE d [112]) r)) := by
  have h3 : holds (rE d [112]) = true := by unfold holds; rfl
  rw [Wm.wr_cons, h3, if_pos rfl]
  rfl
theorem ins1 : insideB Q0 (-1) = S1 := by
  have : Q0 = oneR (B [112]) (B [97]) := rfl
  rw [this, Wm.wr_one _ _ (by decide), Tm.esc_eval]
  decide
theorem ins2 : insideB ppR (-1) = S2 := by
  rw [Wm.inside_all (by decide)]
  show Wm.wr false (rE 0 [112] :: [rE 1 [112]]) = _
  have h1 : inn (rE 0 [112]) [rE 1 [112]] = [rE 1 [112]] := rfl
  have h2 : beh (rE 0 [112]) [rE 1 [112]] = [] := rfl
  have h3 : inn (rE 1 [112]) [] = [] := rfl
  have h4 : beh (rE 1 [112]) [] = [] := rfl
  rw [wr_el, h1, h2, wr_el, h3, h4, Wm.wr_nil]
  rfl
theorem ins3 : insideB P3 (-1) = S3 := by
  rw [Wm.inside_all (by decide)]
  show Wm.wr false (rE 0 [112] :: rE 0 [112] :: [rE 0 [112]]) = _
  have h1 : inn (rE 0 [112]) [rE 0 [112], rE 0 [112]] = [] := rfl
  have h2 : beh (rE 0 [112]) [rE 0 [112], rE 0 [112]] = [rE 0 [112], rE 0 [112]] := rfl
  have h3 : inn (rE 0 [112]) [rE 0 [112]] = [] := rfl
  have h4 : beh (rE 0 [112]) [rE 0 [112]] = [rE 0 [112]] := rfl
  have h5 : inn (rE 0 [112]) [] = [] := rfl
  have h6 : beh (rE 0 [112]) [] = [] := rfl
  rw [wr_el, h1, h2, wr_el, h3, h4, wr_el, h5, h6, Wm.wr_nil]
  rfl
theorem right0 : right P0 = true := by decide +kernel
theorem right2 : right ppR = true := by decide +kernel
theorem right3 : right P3 = true := by decide +kernel
theorem e0 : errI plainC P0 = 0 := by decide +kernel
theorem e2 : errI allC ppR = 0 := by decide +kernel
theorem e3 : errI allC P3 = 0 := by decide +kernel
theorem e4 : errI cDat [] = 120 := by decide +kernel
theorem o0 : outL plainC true P0 = Q0 := by
  unfold outL
  rw [if_pos e0, clean_nr plainC true right0]
  decide +kernel
theorem o2 : outL allC true ppR = ppR := by
  unfold outL
  rw [if_pos e2, clean_nr allC true right2]
  decide +kernel
theorem o3 : outL allC true P3 = P3 := by
  unfold outL
  rw [if_pos e3, clean_nr allC true right3]
  decide +kernel
theorem ne23 : P3 ≠ ppR := by decide
theorem loop0 : loopM plainC true 8 0 P0 = (Q0, 1, 0) := by
  rw [loopM, if_pos e0, o0, ins1, par1]
  show (if _ = _ then _ else _ : List Ro × Nat × Int) = _
  rw [if_pos rfl]
theorem loop2 : loopM allC true 8 0 ppR = (P3, 2, 0) := by
  rw [loopM, if_pos e2, o2, ins2, par2]
  show (if _ = _ then _ else _ : List Ro × Nat × Int) = _
  rw [if_neg ne23, if_neg (by decide), loopM, if_pos e3, o3, ins3, par3]
  show (if _ = _ then _ else _ : List Ro × Nat × Int) = _
  rw [if_pos rfl]
theorem loop4 : loopM cDat true 8 0 [] = ([], 0, 120) := by
  rw [loop_err (by rw [e4]; decide), e4]
theorem st2 : stableB ppR = false := by
  unfold stableB
  rw [ins2, par2]
  exact decide_eq_false fun h => ne23 (Option.some.inj h)

end Go.Proofs.YtgjlfcamgkeibaaGreatDoor.Se

namespace Go.Proofs.YtgjlfcamgkeibaaGreatDoor.Fo
set_option linter.unusedSimpArgs false
set_option linter.unusedVariables false
open Go.RowKit Ba Fm
end Go.Proofs.YtgjlfcamgkeibaaGreatDoor.Fo

namespace Go.Proofs.YtgjlfcamgkeibaaGreatDoor.Fo
set_option linter.unusedSimpArgs false
set_option linter.unusedVariables false
open Go.RowKit Ba Fm
def Kn (l : List ByteArray) (s : ByteArray) (lo hi : Nat) : Prop :=
  (∀ i, (h : i < l.length) → i < lo → lt l[i] s = true) ∧ (∀ i, (h : i < l.length) → hi ≤ i → lt l[i] s = false)
theorem Kn.end_ {l : List ByteArray} {s : ByteArray} {k : Nat} (h : Kn l s k k) (hk : k ≤ l.length) : below lt l s = k :=
  below_of hk (fun i hi => h.1 i (by omega) hi) fun i hki hi => h.2 i hi hki
theorem Kn.none_ {l : List ByteArray} {s : ByteArray} {k : Nat} (h : Kn l s k k) (hk : ¬ k < l.length) : isIn s l = false :=
  isIn_no (notfound_of ord_lt fun i hi => h.1 i hi (by omega))
end Go.Proofs.YtgjlfcamgkeibaaGreatDoor.Fo

namespace Go.Proofs.YtgjlfcamgkeibaaGreatDoor.Fo
set_option linter.unusedSimpArgs false
set_option linter.unusedVariables false
open Go.RowKit Ba Fm
end Go.Proofs.YtgjlfcamgkeibaaGreatDoor.Fo

namespace Go.Proofs.YtgjlfcamgkeibaaGreatDoor.Fo
set_option linter.unusedSimpArgs false
set_option linter.unusedVariables false
open Go.RowKit Ba Fm
end Go.Proofs.YtgjlfcamgkeibaaGreatDoor.Fo

namespace Go.Proofs.YtgjlfcamgkeibaaGreatDoor.Co
set_option maxRecDepth 100000
set_option linter.unusedVariables false
set_option linter.unusedSimpArgs false
open Go.RowKit Ba Fm Fo Nm Rk
theorem own_lit12 (w : World) (l : List ByteArray) (hl : l.length ≤ 1000) : Sown w.heap.size (w.alloc (.cells (l.map sc).toArray 9)) (.slice (some ⟨w.heap.size, 0, none⟩) l.length l.length) l :=
  World.ownsRow_lit w (l.map sc).toArray l.length (Nat.le_refl _) (by unfold maxLen; omega) (by simp)
end Go.Proofs.YtgjlfcamgkeibaaGreatDoor.Co

namespace Go.Proofs.YtgjlfcamgkeibaaGreatDoor.Ph
set_option linter.unusedVariables false
set_option linter.unusedSimpArgs false
open Go
section
variable {P : Program} {ops : Array Oper} {Q : Exit → Act → World → Prop} {md : Region.Mode} {S : World → Prop} {st : Nat}
end
end Go.Proofs.YtgjlfcamgkeibaaGreatDoor.Ph

namespace Go.Proofs.YtgjlfcamgkeibaaGreatDoor.Co
set_option maxRecDepth 100000
set_option linter.unusedVariables false
set_option linter.unusedSimpArgs false
open Go.RowKit Ba Fm Fo
end Go.Proofs.YtgjlfcamgkeibaaGreatDoor.Co

namespace Go.Proofs.YtgjlfcamgkeibaaGreatDoor.Co
set_option linter.unusedVariables false
set_option linter.unusedSimpArgs false
open Go.RowKit Ba Fm Fo Nm Rk
end Go.Proofs.YtgjlfcamgkeibaaGreatDoor.Co

namespace Go.Proofs.YtgjlfcamgkeibaaGreatDoor.Co
set_option maxRecDepth 100000
set_option linter.unusedVariables false
set_option linter.unusedSimpArgs false
open Go.RowKit Ba Fm Fo
def pickW (l : List Pw) (e : ByteArray) : List Pw := l.filter fun x => decide (x.pe.el = e) && decide (x.pe.at_ ≠ [])
theorem po_aside {N g : Nat} {w w' : World} {v : Value} {l : List Pw} (h : Po N w v l) (hg : w.grownBy w' (some g)) (hN : N ≤ g) (hp : ∀ cs fr, w.heap[g]? ≠ some (.cells cs 57 fr)) (hs : ∀ cs fr, w.heap[g]? ≠ some (.cells cs 9 fr)) : Po N w' v l := by
  refine ⟨⟨h.1.1, ?_⟩, fun x hx => ⟨?_, ?_⟩⟩
  · rcases h.1.2 with hn | ⟨b, cap, cur, hv, hb, hh, rest⟩
    · exact .inl hn
    · refine .inr ⟨b, cap, cur, hv, hb, ?_, rest⟩
      have hne : b ≠ g := fun e => hp _ _ (e ▸ hh)
      rw [hg.block b (Array.getElem?_eq_some_iff.1 hh).1 (by simpa using hne)]
      exact hh
  · obtain ⟨h1, h2⟩ := h.2 x hx
    obtain ⟨A, c, e, h3, h4, h5⟩ := h1
    refine ⟨A, c, e, h3, h4, fun h0 => ?_⟩
    obtain ⟨b, off, e2, hb, hc⟩ := h5 h0
    obtain ⟨b', off', e3, ha⟩ := h2 h0
    injection e with e4 e5 e6
    rw [e4, e2] at e3
    injection e3 with e3
    injection e3 with e7 e8
    subst e7
    have hne : b ≠ g := by
      rcases ha with ha | ⟨cs, fr, ha⟩
      · omega
      · exact fun e => hs _ _ (e ▸ ha)
    exact ⟨b, off, e2, Nat.lt_of_lt_of_le hb hg.size, fun j hj => (World.cell?_of_block (a := ⟨b, off + j, none⟩) (hg.block b hb (by simpa using hne))).trans (hc j hj)⟩
  · intro h0
    obtain ⟨b, off, e, ha⟩ := (h.2 x hx).2 h0
    refine ⟨b, off, e, ha.imp id ?_⟩
    rintro ⟨cs, fr, ha⟩
    have hne : b ≠ g := fun e => hs _ _ (e ▸ ha)
    exact ⟨cs, fr, (hg.block b (Array.getElem?_eq_some_iff.1 ha).1 (by simpa using hne)).trans ha⟩
theorem po_beside {N : Nat} {w w' : World} {v u : Value} {l m : List Pw} (h : Po N w u m) (hv : Po N w v l) (hg : w.grownBy w' v.ownBlock) (hne : ∀ b, u.ownBlock = some b → v.ownBlock ≠ some b) : Po N w' u m := by
  refine ⟨⟨h.1.1, ?_⟩, fun x hx => ⟨(h.2 x hx).1.grown hv.1 hg (h.2 x hx).2, (h.2 x hx).2.grown hv.1 hg⟩⟩
  rcases h.1.2 with hn | ⟨b, cap, cur, e, hb, hh, rest⟩
  · exact .inl hn
  · refine .inr ⟨b, cap, cur, e, hb, ?_, rest⟩
    subst e
    rw [hg.block b (Array.getElem?_eq_some_iff.1 hh).1 (fun e => hne b rfl e.symm)]
    exact hh

structure Gr (N : Nat) (w : World) (g : Nat) (gs : Array Value) (ps : List (List Pw)) : Prop where
  heap : w.heap[g]? = some (.cells gs 24)
  size : gs.size = ps.length
  low : N ≤ g
  own : ∀ (i : Nat) v p, gs[i]? = some v → ps[i]? = some p → Po N w v p
  apart : ∀ (i j : Nat) v u b, gs[i]? = some v → gs[j]? = some u → i ≠ j → v.ownBlock = some b → u.ownBlock ≠ some b
theorem Gr.lt {N g : Nat} {w : World} {gs : Array Value} {ps : List (List Pw)} (h : Gr N w g gs ps) : g < w.heap.size := (Array.getElem?_eq_some_iff.1 h.heap).1
theorem Gr.below {N g : Nat} {w w' : World} {gs : Array Value} {ps : List (List Pw)} (h : Gr N w g gs ps) (hb : Below w.heap.size w w') : Gr N w' g gs ps :=
  ⟨(hb.block g h.lt).trans h.heap, h.size, h.low, fun i v p h1 h2 => (h.own i v p h1 h2).below hb, h.apart⟩
theorem Gr.cell {N g : Nat} {w : World} {gs : Array Value} {ps : List (List Pw)} (h : Gr N w g gs ps) {j : Nat} {v : Value} (hj : gs[j]? = some v) : w.cell? ⟨g, j, none⟩ = some v ∧ w.frozen? ⟨g, j, none⟩ = false := by
  refine ⟨by rw [cell_of_row w g j _ _ _ h.heap]; exact hj, ?_⟩
  have := h.heap
  simp [World.frozen?, this]
theorem Gr.ne {N g : Nat} {w : World} {gs : Array Value} {ps : List (List Pw)} (h : Gr N w g gs ps) : (∀ cs fr, w.heap[g]? ≠ some (.cells cs 57 fr)) ∧ ∀ cs fr, w.heap[g]? ≠ some (.cells cs 9 fr) := by
  refine ⟨fun cs fr e => ?_, fun cs fr e => ?_⟩ <;>
  · rw [h.heap] at e
    injection e with e
    injection e with _ ht
    exact absurd ht (by decide)
theorem Gr.put {N g j : Nat} {w w1 : World} {gs : Array Value} {ps : List (List Pw)} {v v' : Value} {p : List Pw} {x : Pw} (h : Gr N w g gs ps) (hv : gs[j]? = some v) (hp : ps[j]? = some p) (hg : w.grownBy w1 v.ownBlock) (ho : Po N w1 v' (p ++ [x]))
    (hb : ∀ b, v'.ownBlock = some b → v.ownBlock = some b ∨ w.heap.size ≤ b) : Gr N (w1.setCell ⟨g, j, none⟩ v') g (gs.setIfInBounds j v') (ps.set j (p ++ [x])) := by
  have hjl : j < gs.size := (Array.getElem?_eq_some_iff.1 hv).1
  have hov := h.own j v p hv hp
  have hgne : some g ≠ v.ownBlock := fun e => by
    rcases hov.1.2 with ⟨e1, _⟩ | ⟨b, cap, cur, e1, _, hh, _⟩
    · subst e1
      simp [Value.ownBlock] at e
    · subst e1
      have e : g = b := by simpa [Value.ownBlock] using e
      subst e
      exact h.ne.1 _ _ hh
  have h1 : w1.heap[g]? = some (.cells gs 24) := (hg.block g h.lt hgne).trans h.heap
  have hne1 : (∀ cs fr, w1.heap[g]? ≠ some (.cells cs 57 fr)) ∧ ∀ cs fr, w1.heap[g]? ≠ some (.cells cs 9 fr) := by
    rw [h1, ← h.heap]
    exact h.ne
  refine ⟨?_, by rw [Array.size_setIfInBounds, List.length_set]; exact h.size, h.low, fun i u q hu hq => ?_, fun i i2 u u2 b hu hu2 hii hub => ?_⟩
  · simp [World.setCell, Array.getElem?_modify, h1, Array.setIfInBounds, hjl]
  · refine po_aside ?_ (gcell12 w1 g j v') h.low hne1.1 hne1.2
    by_cases hij : i = j
    · subst hij
      rw [Array.getElem?_setIfInBounds_self_of_lt hjl] at hu
      rw [List.getElem?_set_self (by rw [← h.size]; exact hjl)] at hq
      injection hu with hu
      injection hq with hq
      subst hu hq
      exact ho
    · rw [Array.getElem?_setIfInBounds_ne (Ne.symm hij)] at hu
      rw [List.getElem?_set_ne (Ne.symm hij)] at hq
      exact po_beside (h.own i u q hu hq) hov hg fun b hb => h.apart i j u v b hu hv hij hb
  · by_cases hij : i = j
    · subst hij
      rw [Array.getElem?_setIfInBounds_self_of_lt hjl] at hu
      injection hu with hu
      subst hu
      rw [Array.getElem?_setIfInBounds_ne hii] at hu2
      rcases hb b hub with e | e
      · exact h.apart i i2 v u2 b hv hu2 hii e
      · intro e2
        have hlt : i2 < ps.length := by rw [← h.size]; exact (Array.getElem?_eq_some_iff.1 hu2).1
        have := (World.ownsRow.lt (h.own i2 u2 _ hu2 (List.getElem?_eq_getElem hlt)).1 b e2).2
        omega
    · rw [Array.getElem?_setIfInBounds_ne (Ne.symm hij)] at hu
      by_cases hij2 : i2 = j
      · subst hij2
        rw [Array.getElem?_setIfInBounds_self_of_lt hjl] at hu2
        injection hu2 with hu2
        subst hu2
        intro e2
        rcases hb b e2 with e | e
        · exact h.apart i i2 u v b hu hv hii hub e
        · have hlt : i < ps.length := by rw [← h.size]; exact (Array.getElem?_eq_some_iff.1 hu).1
          have := (World.ownsRow.lt (h.own i u _ hu (List.getElem?_eq_getElem hlt)).1 b hub).2
          omega
      · rw [Array.getElem?_setIfInBounds_ne (Ne.symm hij2)] at hu2
        exact h.apart i i2 u u2 b hu hu2 hii hub

end Go.Proofs.YtgjlfcamgkeibaaGreatDoor.Co

namespace Go.Proofs.YtgjlfcamgkeibaaGreatDoor.Co
set_option maxRecDepth 100000
set_option linter.unusedVariables false
set_option linter.unusedSimpArgs false
open Go.RowKit Ba Fm Fo Nm Rk
theorem made_at (n i : Nat) (h : i < n) : (madeCells #[Value.slice none 0 0] n)[i]? = some (.slice none 0 0) := by
  unfold madeCells
  rw [Array.getElem?_map, Array.getElem?_range, if_pos h]
  simp [Nat.mod_one]
theorem Gr.made (N : Nat) (w : World) (hN : N ≤ w.heap.size) (es : List ByteArray) : Gr N (w.alloc (.cells (madeCells #[.slice none 0 0] es.length) 24)) w.heap.size (madeCells #[.slice none 0 0] es.length) (es.map (pickW [])) := by
  have hz : ∀ (i : Nat) v, (madeCells #[Value.slice none 0 0] es.length)[i]? = some v → v = .slice none 0 0 := fun i v hv => by
    have hi : i < es.length := by
      have := (Array.getElem?_eq_some_iff.1 hv).1
      rwa [size_madeCells] at this
    rw [made_at _ _ hi] at hv
    injection hv with hv
    exact hv.symm
  refine ⟨heap_alloc_new w _, by rw [size_madeCells, List.length_map], hN, fun i v p hv hp => ?_, fun i j v u b hv _ _ hb => ?_⟩
  · have := hz i v hv
    subst this
    rw [List.getElem?_map] at hp
    obtain ⟨e, _, rfl⟩ := Option.map_eq_some_iff.1 hp
    exact Po.nil _ _
  · have := hz i v hv
    subst this
    simp [Value.ownBlock] at hb
end Go.Proofs.YtgjlfcamgkeibaaGreatDoor.Co

namespace Go.Proofs.YtgjlfcamgkeibaaGreatDoor.Co
set_option linter.unusedVariables false
set_option linter.unusedSimpArgs false
open Go.RowKit Ba Fm Fo Nm Rk
end Go.Proofs.YtgjlfcamgkeibaaGreatDoor.Co

namespace Go.Proofs.YtgjlfcamgkeibaaGreatDoor.Co
set_option linter.unusedVariables false
set_option linter.unusedSimpArgs false
open Go.RowKit Ba Fm Fo Nm Rk
end Go.Proofs.YtgjlfcamgkeibaaGreatDoor.Co

namespace Go.Proofs.YtgjlfcamgkeibaaGreatDoor.Co
set_option maxRecDepth 100000
set_option linter.unusedVariables false
set_option linter.unusedSimpArgs false
open Go.RowKit Ba Fm Fo Nm Rk
theorem all1 (w : World) : Calls Tryz.prog 29 #[] w fun r w' => ∃ v', r = .returned v' ∧ Cow w.heap.size w' v' allC ∧ Below w.heap.size w w' := by
  have hb := below_new12 w (.cells #[.bool false, .bool false, .slice none 0 0, .slice none 0 0, .slice none 0 0, .slice none 0 0, .bool true, .bool false] 26)
  have ho : ∀ w', Own12 w.heap.size w' allC (.slice none 0 0) (.slice none 0 0) (.slice none 0 0) (.slice none 0 0) [] := fun w' => ⟨Sown.nil _ _, Sown.nil _ _, Sown.nil _ _, Po.nil _ _, (fun x hx => by cases hx), rfl⟩
  have hc : ∀ w', Cow w.heap.size w' (.agg #[.bool false, .bool false, .slice none 0 0, .slice none 0 0, .slice none 0 0, .slice none 0 0, .bool true, .bool false]) allC := fun w' => ⟨_, _, _, _, _, rfl, ho w'⟩
  have HC := Lib.hid hc; have HB := Lib.hid hb
  clear ho hc hb
  go_enter Tryz.func29, Tryz.ntmps29
  go_wp2
  exact bodyPost_ret (v := .agg #[.bool false, .bool false, .slice none 0 0, .slice none 0 0, .slice none 0 0, .slice none 0 0, .bool true, .bool false]) (by simp [results, Tryz.f29, go_sem]) rfl ⟨_, rfl, HC.out _, HB.out⟩

theorem lit_own (w u : World) (l : List ByteArray) (N k : Nat) (hl : l.length ≤ 1000) (hk : k = w.heap.size) (hN : N ≤ k) (hb : Below (w.alloc (.cells (l.map sc).toArray 9)).heap.size (w.alloc (.cells (l.map sc).toArray 9)) u) : Sown N u (.slice (some ⟨k, 0, none⟩) l.length l.length) l := by
  subst hk
  exact ((own_lit12 w l hl).below hb (Nat.le_refl _)).mono hN
def pHref : List ByteArray := [⟨#[104, 114, 101, 102]⟩]
def pSrc : List ByteArray := [⟨#[115, 114, 99]⟩]
def pSpan : List ByteArray := [⟨#[99, 111, 108, 115, 112, 97, 110]⟩, ⟨#[114, 111, 119, 115, 112, 97, 110]⟩]
def pList (k : Nat) : List Pw := [⟨⟨⟨#[97]⟩, pHref⟩, some ⟨k + 1 + 1, 0, none⟩, 1⟩, ⟨⟨⟨#[105, 109, 103]⟩, pSrc⟩, some ⟨k + 1 + 1 + 1, 0, none⟩, 1⟩, ⟨⟨⟨#[116, 100]⟩, pSpan⟩, some ⟨k + 1 + 1 + 1 + 1, 0, none⟩, 2⟩]
def plainW (u : World) (k : Nat) : World := (((((u.alloc (.cells (plainEls.map sc).toArray 9)).alloc (.cells (plainAts.map sc).toArray 9)).alloc (.cells (pHref.map sc).toArray 9)).alloc (.cells (pSrc.map sc).toArray 9)).alloc (.cells (pSpan.map sc).toArray 9)).alloc (.cells ((pList k).flatMap pcells).toArray 57)
theorem below_step {w u : World} {o : Obj} (h : Below (w.alloc o).heap.size (w.alloc o) u) : Below w.heap.size w u := (below_new12 w o).trans (h.mono (below_new12 w o).size)
theorem plain_own (u : World) (N k : Nat) (hk : k = u.heap.size) (hN : N ≤ k) : Own12 N (plainW u k) plainC (.slice (some ⟨k, 0, none⟩) 36 36) (.slice none 0 0) (.slice (some ⟨k + 1, 0, none⟩) 8 8) (.slice (some ⟨k + 1 + 1 + 1 + 1 + 1, 0, none⟩) 3 3) (pList k) ∧ Below u.heap.size u (plainW u k) := by
  unfold plainW
  have h6 : Below ((((((u.alloc (.cells (plainEls.map sc).toArray 9)).alloc (.cells (plainAts.map sc).toArray 9)).alloc (.cells (pHref.map sc).toArray 9)).alloc (.cells (pSrc.map sc).toArray 9)).alloc (.cells (pSpan.map sc).toArray 9)).alloc (.cells ((pList k).flatMap pcells).toArray 57)).heap.size ((((((u.alloc (.cells (plainEls.map sc).toArray 9)).alloc (.cells (plainAts.map sc).toArray 9)).alloc (.cells (pHref.map sc).toArray 9)).alloc (.cells (pSrc.map sc).toArray 9)).alloc (.cells (pSpan.map sc).toArray 9)).alloc (.cells ((pList k).flatMap pcells).toArray 57)) ((((((u.alloc (.cells (plainEls.map sc).toArray 9)).alloc (.cells (plainAts.map sc).toArray 9)).alloc (.cells (pHref.map sc).toArray 9)).alloc (.cells (pSrc.map sc).toArray 9)).alloc (.cells (pSpan.map sc).toArray 9)).alloc (.cells ((pList k).flatMap pcells).toArray 57)) := Below.refl _ _
  have h5 := below_step h6
  have h4 := below_step h5
  have h3 := below_step h4
  have h2 := below_step h3
  have h1 := below_step h2
  have hf : ∀ x ∈ pList k, Fp N ((((((u.alloc (.cells (plainEls.map sc).toArray 9)).alloc (.cells (plainAts.map sc).toArray 9)).alloc (.cells (pHref.map sc).toArray 9)).alloc (.cells (pSrc.map sc).toArray 9)).alloc (.cells (pSpan.map sc).toArray 9)).alloc (.cells ((pList k).flatMap pcells).toArray 57)) x := fun x hx => by
    simp only [pList, List.mem_cons, List.not_mem_nil, or_false] at hx
    rcases hx with rfl | rfl | rfl
    · exact lit_own _ _ pHref N (k + 1 + 1) (by decide) (by simp [hk]) (by omega) h3
    · exact lit_own _ _ pSrc N (k + 1 + 1 + 1) (by decide) (by simp [hk]) (by omega) h4
    · exact lit_own _ _ pSpan N (k + 1 + 1 + 1 + 1) (by decide) (by simp [hk]) (by omega) h5
  refine ⟨⟨lit_own _ _ plainEls N k (by decide) hk hN h1, Sown.nil _ _, lit_own _ _ plainAts N (k + 1) (by decide) (by simp [hk]) (by omega) h2, po_of ?_ hf, hf, rfl⟩, below_step h1⟩
  have := World.ownsRow_lit (e := 57) (size := 2) (base := N) ((((((u.alloc (.cells (plainEls.map sc).toArray 9)).alloc (.cells (plainAts.map sc).toArray 9)).alloc (.cells (pHref.map sc).toArray 9)).alloc (.cells (pSrc.map sc).toArray 9)).alloc (.cells (pSpan.map sc).toArray 9))) ((pList k).flatMap pcells).toArray 3 (by simp; omega) (by decide) rfl
  simp only [World.size_alloc, ← hk] at this
  exact this
set_option maxRecDepth 100000 in
theorem plain1 (w : World) : Calls Tryz.prog 35 #[] w fun r w' => ∃ v', r = .returned v' ∧ Cow w.heap.size w' v' plainC ∧ Below w.heap.size w w' := by
  have hp := fun O => plain_own (w.alloc O) w.heap.size (w.heap.size + 1) (by simp) (by omega)
  have hb := fun O => below_new12 w O
  have HP := Lib.hid hp; have HB := Lib.hid hb
  clear hp hb
  go_enter Tryz.func35, Tryz.ntmps35
  go_wp2
  refine bodyPost_ret (v := .agg #[.bool true, .bool true, .slice (some ⟨w.heap.size + 1, 0, none⟩) 36 36, .slice none 0 0, .slice (some ⟨w.heap.size + 1 + 1, 0, none⟩) 8 8, .slice (some ⟨w.heap.size + 1 + 1 + 1 + 1 + 1 + 1, 0, none⟩) 3 3, .bool false, .bool false]) ?_ rfl ⟨_, rfl, ⟨_, _, _, _, _, rfl, (HP.out _).1⟩, (HB.out _).trans ((HP.out _).2.mono (HB.out _).size)⟩
  simp [results, Tryz.f35, go_sem]
end Go.Proofs.YtgjlfcamgkeibaaGreatDoor.Co

namespace Go.Proofs.YtgjlfcamgkeibaaGreatDoor.Na
set_option maxRecDepth 100000
set_option linter.unusedSimpArgs false
set_option linter.unusedVariables false
open Go.RowKit Ba Fm Fo Nm
end Go.Proofs.YtgjlfcamgkeibaaGreatDoor.Na

namespace Go.Proofs.YtgjlfcamgkeibaaGreatDoor.Co
set_option maxRecDepth 100000
set_option linter.unusedVariables false
set_option linter.unusedSimpArgs false
open Go.RowKit Ba Fm Fo Nm Rk
end Go.Proofs.YtgjlfcamgkeibaaGreatDoor.Co

namespace Go.Proofs.YtgjlfcamgkeibaaGreatDoor.Fo
set_option linter.unusedSimpArgs false
set_option linter.unusedVariables false
open Go.RowKit Ba Fm
end Go.Proofs.YtgjlfcamgkeibaaGreatDoor.Fo

namespace Go.Proofs.YtgjlfcamgkeibaaGreatDoor.Co
set_option linter.unusedVariables false
set_option linter.unusedSimpArgs false
open Go.RowKit Ba Fm Fo Nm Rk
end Go.Proofs.YtgjlfcamgkeibaaGreatDoor.Co

namespace Go.Proofs.YtgjlfcamgkeibaaGreatDoor.Co
set_option linter.unusedVariables false
set_option linter.unusedSimpArgs false
open Go.RowKit Ba Fm Fo Nm Rk
theorem sv_nil12 (w : World) (N : Nat) : Sv w N (.slice none 0 0) [] := ⟨none, 0, rfl, Nat.le_refl _, fun _ => rfl, Rd.nil _ _ _⟩
theorem sm_few {c : Cf} (h : c.els.length ≤ 1000 ∧ c.reps.length ≤ 1000 ∧ c.ats.length ≤ 1000 ∧ c.per.length ≤ 1000 ∧ c.els.all (·.size ≤ 1000) ∧ c.reps.all (·.size ≤ 1000) ∧ c.ats.all (·.size ≤ 1000) ∧ c.per.all (fun p => decide (p.at_.length ≤ 1000) && decide (p.el.size ≤ 1000) && p.at_.all (·.size ≤ 1000)) = true) : Sm c := by
  obtain ⟨h1, h2, h3, h4, h5, h6, h7, h8⟩ := h
  have hb : ∀ {l : List ByteArray}, l.all (·.size ≤ 1000) = true → ∀ s ∈ l, s.size ≤ 140737488355328 := fun h s hs => Nat.le_trans (by simpa using List.all_eq_true.1 h s hs) (show 1000 ≤ 140737488355328 by omega)
  have h9 := fun p hp => List.all_eq_true.1 h8 p hp
  simp only [Bool.and_eq_true, decide_eq_true_eq] at h9
  exact ⟨h1, h2, h3, h4, fun p hp => (h9 p hp).1.1, hb h5, hb h6, hb h7, fun p hp => ⟨Nat.le_trans (h9 p hp).1.2 (by omega), hb (h9 p hp).2⟩⟩
theorem sm_plain : Sm plainC := sm_few (by decide +kernel)
theorem sm_all : Sm allC := sm_few (by decide +kernel)
end Go.Proofs.YtgjlfcamgkeibaaGreatDoor.Co

namespace Go.Proofs.YtgjlfcamgkeibaaGreatDoor.Se
set_option maxRecDepth 100000
set_option linter.unusedVariables false
set_option linter.unusedSimpArgs false
open Go.RowKit Ba Ro
open Re (Tab)
open Co (Cf Cv Sm confV confO allC plainC sv_nil12)
open Wr (insideB)
theorem text0 : textM plainC true S0 = (S1, 0) := by
  unfold textM
  rw [par0]
  show (insideB (loopM plainC true 8 0 P0).1 (-1), (loopM plainC true 8 0 P0).2.2) = _
  rw [loop0]
  show (insideB Q0 (-1), (0 : Int)) = _
  rw [ins1]
theorem fit_pp : Fit Wm.ppR := Fit.of (by decide) right2 (by decide +kernel)
theorem few_pp : Few Wm.ppR := fun x hx => by
  rcases List.mem_cons.1 hx with rfl | hx
  · exact Nat.zero_le _
  · rw [List.mem_singleton.1 hx]; exact Nat.zero_le _
theorem few_nil : Few [] := fun x hx => by cases hx
def ppC : List Cw := [bare ⟨0, 0, ⟨#[112]⟩, .empty, []⟩, bare ⟨1, 0, ⟨#[112]⟩, .empty, []⟩]
def p3C : List Cw := [bare ⟨0, 0, ⟨#[112]⟩, .empty, []⟩, bare ⟨0, 0, ⟨#[112]⟩, .empty, []⟩, bare ⟨0, 0, ⟨#[112]⟩, .empty, []⟩]
theorem held_few {l : List Ro} (h : ∀ x ∈ l, 0 ≤ x.depth ∧ x.depth ≤ 60) : Held l := fun x hx => by have := h x hx; omega
theorem pp_rv (w : World) : Rv (w.alloc (.cells #[.int .i64 0, .int .i64 0, .string ⟨#[112]⟩, .string .empty, .slice none 0 0, .int .i64 1, .int .i64 0, .string ⟨#[112]⟩, .string .empty, .slice none 0 0] 47)) (.slice (some ⟨w.heap.size, 0, none⟩) 2 2) ppC :=
  (rows_new w ppC _ 2 rfl (by decide) rfl (fun x hx => by
    rcases List.mem_cons.1 hx with rfl | hx
    · exact ⟨_, rfl, rfl⟩
    · rw [List.mem_singleton.1 hx]; exact ⟨_, rfl, rfl⟩)).rv (held_few (by decide))
theorem p3_rv (w : World) : Rv (w.alloc (.cells #[.int .i64 0, .int .i64 0, .string ⟨#[112]⟩, .string .empty, .slice none 0 0, .int .i64 0, .int .i64 0, .string ⟨#[112]⟩, .string .empty, .slice none 0 0, .int .i64 0, .int .i64 0, .string ⟨#[112]⟩, .string .empty, .slice none 0 0] 47)) (.slice (some ⟨w.heap.size, 0, none⟩) 3 3) p3C :=
  (rows_new w p3C _ 3 rfl (by decide) rfl (fun x hx => by
    rcases List.mem_cons.1 hx with rfl | hx
    · exact ⟨_, rfl, rfl⟩
    rcases List.mem_cons.1 hx with rfl | hx
    · exact ⟨_, rfl, rfl⟩
    · rw [List.mem_singleton.1 hx]; exact ⟨_, rfl, rfl⟩)).rv (held_few (by decide))
theorem sm_dat : Sm cDat := Co.sm_few (by decide +kernel)
theorem conf_dat14 (w : World) : Cv w w.heap.size (.agg #[.bool false, .bool false, .slice none 0 0, .slice none 0 0, .slice none 0 0, .slice none 0 0, .bool false, .bool true]) cDat :=
  ⟨_, _, _, _, [], rfl, ⟨sv_nil12 _ _, sv_nil12 _ _, sv_nil12 _ _, ⟨none, 0, rfl, Nat.le_refl _, fun _ => rfl, Co.Pr.nil _ _ _⟩, rfl⟩⟩
set_option maxRecDepth 100000 in
set_option maxHeartbeats 2000000 in
theorem fixed14 (w : World) (hT : Tab w) : Calls Tryz.prog 14 #[] w fun e w' => e = .returned (.bool true) ∧ Below w.heap.size w w' := by
  have HT := Lib.hid hT
  clear hT
  go_enter Tryz.func14, Tryz.ntmps14
  go_upto_region 2 with (first
    | (go_at_call 35; refine (Co.plain1 _).mono ?_; rintro r b1 ⟨vP, rfl, ho, hb⟩; have HO1 := Lib.hid ho.cv; have HB1 := Lib.hid hb; clear ho hb)
    | (go_at_call 19; refine (text14 ⟨#[60, 112, 62, 97, 60, 115, 99, 114, 105, 112, 116, 62, 98, 60, 47, 115, 99, 114, 105, 112, 116, 62]⟩ vP plainC true b1 (by decide) (HT.out.below HB1.out) HO1.out Co.sm_plain ⟨#[60, 112, 62, 97, 60, 47, 112, 62]⟩ 0 text0).mono ?_; rintro r b2 ⟨rfl, hb⟩; have HB2 := Lib.hid (bt HB1.out hb); clear hb)
    | fail)
  go_upto_region 3 with (first
    | (go_at_call 29; refine (Co.all1 _).mono ?_; rintro r b3 ⟨vA, rfl, ho, hb⟩; have HO3 := Lib.hid ho.cv; have HR3 := Lib.hid ((pp_rv b2).below hb); have HB3 := Lib.hid (bt (bt HB2.out (bel_new b2 _)) hb); clear ho hb)
    | (go_at_call 12; refine (trees14 _ vA ppC allC true b3 HR3.out fit_pp few_pp (HT.out.below HB3.out) HO3.out Co.sm_all (P3, 2, 0) loop2).mono ?_; rintro r b4 ⟨V4, y4, rfl, hy, hv, hb⟩; have HY4 := Lib.hid hy; have HV4 := Lib.hid hv; have HB4 := Lib.hid (bt HB3.out hb); clear hy hv hb)
    | fail)
  go_upto_region 4 with (first
    | (go_at_call 12; refine (trees14 (.slice none 0 0) _ [] cDat true b4 (rv_nil14 _) Fit.nil few_nil (HT.out.below HB4.out) (conf_dat14 b4) sm_dat ([], 0, 120) loop4).mono ?_; rintro r b5 ⟨V5, y5, rfl, -, -, hb⟩; have HB5 := Lib.hid (bt HB4.out hb); have HV4 := Lib.hid (HV4.out.below hb); clear hb)
    | fail)
  have hy4 := congrArg List.length HY4.out
  rw [len_ros] at hy4
  have hy4 : y4.length ≤ 10 := by rw [hy4]; decide
  go_wp2_with (first
    | (go_at_call 15; refine (refSame1 _ _ y4 p3C _ true (HV4.out.below (bel_new b5 _)) (p3_rv b5) (by omega) (by decide) (decide_eq_true HY4.out)).mono ?_; rintro r b6 ⟨rfl, hb⟩; have HB6 := Lib.hid (bt (bt HB5.out (bel_new b5 _)) hb); clear hb)
    | (go_at_call 17; (with_reducible show Calls _ _ #[.slice none 0 0] _ _); refine (stable14 (.slice none 0 0) [] b6 (rv_nil14 _) Fit.nil (HT.out.below HB6.out) true nil_stable).mono ?_; rintro r b7 ⟨rfl, hb⟩; have HB7 := Lib.hid (bt HB6.out hb); clear hb)
    | (go_at_call 17; refine (stable14 _ ppC _ (pp_rv b7) fit_pp (HT.out.below (bt HB7.out (bel_new b7 _))) false st2).mono ?_; rintro r b8 ⟨rfl, hb⟩; have HB8 := Lib.hid (bt (bt HB7.out (bel_new b7 _)) hb); clear hb)
    | fail)
  go_ret
  exact ⟨rfl, HB8.out⟩

end Go.Proofs.YtgjlfcamgkeibaaGreatDoor.Se

namespace Go.Proofs.YtgjlfcamgkeibaaGreatDoor.Se
set_option maxRecDepth 100000
set_option linter.unusedVariables false
set_option linter.unusedSimpArgs false
open Go.RowKit Ba Ro
open Re (Tab)
open Co (Cf Cv Sm confV confO allC plainC)
open Wr (insideB)
set_option maxRecDepth 100000 in
set_option maxHeartbeats 2000000 in
theorem law_once (s : ByteArray) (hs : s.size ≤ 140737488351232) (w : World) (hT : Tab w) :
    Calls Tryz.prog 8 #[.string s] w fun e w' => e = .returned (.bool true) ∧ Below w.heap.size w w' := by
  have HT := Lib.hid hT
  clear hT
  obtain ⟨k1, hk1, hk2, -, hmin⟩ := Sm.min_any s.size 300 300 rfl w
  obtain ⟨u, hu⟩ : ∃ u, s.extract 0 k1 = u := ⟨_, rfl⟩
  have hus : u.size ≤ 300 := by
    rw [← hu, ← size_L, L_extract, List.length_take]
    omega
  obtain ⟨r, hr⟩ : ∃ r, par (L u) = r := ⟨_, rfl⟩
  have HR := Lib.hid hr; have HU := Lib.hid hu
  have HP := Lib.hid (parse14 u w r (by omega) HT.out hr)
  clear hr hu
  go_enter Tryz.func8, Tryz.ntmps8
  go_wp2_with fail
  rw [HU.out]
  refine HP.out.mono ?_
  intro e w1 h1
  cases r with
  | none =>
    obtain ⟨rfl, hb1⟩ := h1
    have HB1 := Lib.hid hb1
    clear hb1
    go_wp2_with fail
    refine (fixed14 w1 (HT.out.below HB1.out)).mono ?_
    rintro e w2 ⟨rfl, hb2⟩
    have HB2 := Lib.hid (bt HB1.out hb2)
    clear hb2
    go_wp2
    go_ret
    exact ⟨rfl, HB2.out⟩
  | some o =>
    obtain ⟨⟨v, x, rfl, hv, hx, hm⟩, hb1⟩ := h1
    have hul : (L u).length ≤ 500 := by rw [size_L]; omega
    have hfx : Fit (ros x) := by rw [hx]; exact par_fit HR.out
    have hxl := hfx.len
    rw [len_ros] at hxl
    have HV := Lib.hid hv; have HX := Lib.hid hx; have HB1 := Lib.hid hb1; have HF := Lib.hid hfx
    have HM := Lib.hid (show Few (ros x) from by rw [hx]; exact hm.1)
    have HG := Lib.hid (show loopM allC false 8 0 (ros x) = (o, 1, 0) from by rw [hx]; exact par_once hul HR.out 7 0)
    have HST := Lib.hid (show stableB (ros x) = true from by rw [hx]; exact decide_eq_true (par_back hul HR.out))
    clear hv hx hb1 hm hfx hul hmin
    go_wp2_with (first
      | (go_at_call 29; refine (Co.all1 _).mono ?_; rintro r b3 ⟨vA, rfl, ho, hb⟩; have HO3 := Lib.hid ho.cv; have HV3 := Lib.hid (HV.out.below hb); have HB3 := Lib.hid (bt HB1.out hb); clear ho hb)
      | (go_at_call 12; refine (trees14 v vA x allC false b3 HV3.out HF.out HM.out (HT.out.below HB3.out) HO3.out Co.sm_all (o, 1, 0) HG.out).mono ?_; rintro r b4 ⟨V4, y4, rfl, hy, hv, hb⟩; have hy4 : y4.length ≤ 5000 := by { have := congrArg List.length hy; rw [len_ros] at this; have h2 := congrArg List.length HX.out; rw [len_ros] at h2; have h3 : y4.length = o.length := this; omega }; have HY4 := Lib.hid hy; have HV4 := Lib.hid hv; have HVX := Lib.hid (HV3.out.below hb); have HB4 := Lib.hid (bt HB3.out hb); clear hy hv hb)
      | (go_at_call 15; refine (refSame1 V4 v y4 x b4 true HV4.out HVX.out (by omega) (by omega) (decide_eq_true (HY4.out.trans HX.out.symm))).mono ?_; rintro r b6 ⟨rfl, hb⟩; have HV6 := Lib.hid (HVX.out.below hb); have HB6 := Lib.hid (bt HB4.out hb); clear hb)
      | (go_at_call 17; refine (stable14 v x b6 HV6.out HF.out (HT.out.below HB6.out) true HST.out).mono ?_; rintro r b7 ⟨rfl, hb⟩; have HB7 := Lib.hid (bt HB6.out hb); clear hb)
      | (go_at_call 14; refine (fixed14 b7 (HT.out.below HB7.out)).mono ?_; rintro r b8 ⟨rfl, hb⟩; have HB8 := Lib.hid (bt HB7.out hb); clear hb)
      | fail)
    go_ret
    exact ⟨rfl, HB8.out⟩

end Go.Proofs.YtgjlfcamgkeibaaGreatDoor.Se
