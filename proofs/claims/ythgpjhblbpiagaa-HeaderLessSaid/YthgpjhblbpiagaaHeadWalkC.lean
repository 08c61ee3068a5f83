/-
  Walks of stage 15: header.Parts.
-/
import Derived.Test.YthgpjhblbpiagaaHeadWalkA
import Derived.Test.YthgpjhblbpiagaaHeadWalkB
import Derived.Test.YthgpjhblbpiagaaHeadWalkD
import Derived.Deep.CutRange
import Derived.Deep.LoopGhost
import Derived.WalkMore
namespace Go.Proofs.Ythgpjhblbpiagaa.He
set_option maxRecDepth 100000
set_option linter.unusedSimpArgs false
set_option linter.unusedVariables false
open Go.RowKit Ba Fm Fo Go.Maps

def accK (s : ByteArray) (k : Nat) : List (List ByteArray) := (((pcs s).map dir).take k).foldl stepD []
theorem accK_zero (s : ByteArray) : accK s 0 = [] := rfl
theorem accK_succ {s : ByteArray} {k : Nat} (h : k < (pcs s).length) : accK s (k + 1) = stepD (accK s k) (dir (pcs s)[k]) := by
  unfold accK
  rw [List.take_succ_eq_append_getElem (by rw [List.length_map]; exact h), List.foldl_append, List.getElem_map]
  rfl
theorem accK_all (s : ByteArray) {k : Nat} (h : (pcs s).length ≤ k) : accK s k = parts s := by
  unfold accK parts
  rw [List.take_of_length_le (by rw [List.length_map]; exact h)]
theorem accK_len (s : ByteArray) (k : Nat) : (accK s k).length ≤ k := by
  have := len_fold (((pcs s).map dir).take k) []
  rw [List.length_take] at this
  unfold accK
  simp at this
  omega

/-- What holds of Parts' outer loop at k. -/
structure Pi (s : ByteArray) (w2 : World) (p m k : Nat) (v : Value) (wr : World) : Prop where
  so : So w2.heap.size wr.heap.size wr v (accK s k)
  set : ∃ asked, Fi wr p m asked ∧ asked.length ≤ k ∧ ∀ x, isIn x asked = isIn x (heads (accK s k))
  grown : w2.grownBy wr (some m)
/-- And of its inner loop at j: d is the directive. -/
structure Qi (N M p m : Nat) (asked : List ByteArray) (acc : List (List ByteArray)) (d : List ByteArray) (v : Value) (wa : World) (j : Nat) (u : Value) (wi : World) : Prop where
  own : Sown wa.heap.size wi u (d.take j)
  fi : Fi wi p m (if j = 0 then asked else asked ++ [hd d])
  new : 0 < j → isIn (hd d) (heads acc) = false
  so : So N M wi v acc
  grown : wa.grownBy wi (some m)

theorem dirW_zero {l : List ByteArray} (h : 0 < l.length) : (dirW l).take 1 = [lo l[0]] ∧ hd (dirW l) = lo l[0] := by
  cases l with
  | nil => simp at h
  | cons n v => exact ⟨rfl, rfl⟩
theorem dirW_succ {l : List ByteArray} {j : Nat} (h : j + 1 < l.length) : (dirW l).take (j + 2) = (dirW l).take (j + 1) ++ [l[j + 1]] := by
  cases l with
  | nil => simp at h
  | cons n v =>
    have hj : j < v.length := by simpa using h
    show lo n :: v.take (j + 1) = lo n :: (v.take j) ++ [v[j]]
    rw [List.take_succ_eq_append_getElem hj]
    rfl

theorem len_wordx : ∀ (l cur : List UInt8) (x : List UInt8), x ∈ wL cur l → x.length ≤ cur.length + l.length
  | [], cur, x, h => by
    rw [wL_end] at h
    split at h
    · cases h
    · rw [List.mem_singleton.1 h]; exact Nat.le_add_right _ _
  | c :: l, cur, x, h => by
    cases hs : sp c with
    | false =>
      rw [wL_no _ _ hs] at h
      have := len_wordx l _ x h
      simp at this ⊢
      omega
    | true =>
      by_cases h0 : cur = []
      · subst h0
        rw [wL_sp0 _ hs] at h
        have := len_wordx l [] x h
        simp at this ⊢
        omega
      · rw [wL_sp _ hs h0] at h
        rcases List.mem_cons.1 h with rfl | h
        · exact Nat.le_add_right _ _
        · have := len_wordx l [] x h
          simp at this ⊢
          omega

set_option maxHeartbeats 8000000 in
theorem parts_any (s : ByteArray) (w : World) (hs : s.size ≤ 1000000) :
    Calls Try.prog 12 #[.string s] w fun e w' => ∃ v, e = .returned v ∧ So w.heap.size w'.heap.size w' v (parts s) ∧ Below w.heap.size w w' := by
  go_enter Try.func12, Try.ntmps12
  go_wp2
  go_step3
  go_wp2_with fail
  refine (firsts_any w).mono ?_
  rintro e w1 ⟨rfl, hfi, hb1⟩
  go_wp2
  go_step3
  go_wp2_with fail
  refine (divided_any s w1 hs).mono ?_
  rintro e w2 ⟨u, rfl, hu, hb2⟩
  have hfi2 : Fi w2 (w.heap.size + 1) w.heap.size [] := hfi.kept (grown_below hb2) (by simp) (by simp)
  obtain ⟨A, c, rfl, hlc, _, hrd⟩ := hu.form
  have hlen := len_pcs s
  have hsm : ∀ x ∈ pcs s, x.size ≤ 1000000 := fun x hx => Nat.le_trans (small_pcs hx) hs
  obtain ⟨p, hp⟩ : ∃ p, w.heap.size + 1 = p := ⟨_, rfl⟩
  obtain ⟨m, hm⟩ : ∃ m, w.heap.size = m := ⟨_, rfl⟩
  rw [hp, hm] at hfi2
  have hb02 : Below w.heap.size w w2 := bt hb1 hb2
  have hN2 := hb02.size
  have hpm := hfi2.lt
  have hp1 : p < w1.heap.size := by rw [← hp]; exact (by have := hfi.lt; rw [hm] at this ⊢; exact this.2)
  obtain ⟨ps, hps⟩ : ∃ ps, pcs s = ps := ⟨_, rfl⟩
  have hfv : fnV (w.heap.size + 1) = .func (.func 33) #[] #[.pointer (some ⟨p, 0, none⟩)] := by rw [hp]; rfl
  rw [hfv, hps]
  rw [hps] at hlen hsm hrd hlc
  obtain ⟨n, hn⟩ : ∃ n, ps.length = n := ⟨_, rfl⟩
  have HM := Lib.hid hm; have HP := Lib.hid hp; have HFI := Lib.hid hfi2; have HB := Lib.hid hb02; have HRD := Lib.hid hrd; have HSM := Lib.hid hsm; have HL := Lib.hid hlen; have HPS := Lib.hid hps; have HN2 := Lib.hid hN2; have HPM := Lib.hid hpm; have HN := Lib.hid hn
  clear hm hp hfi2 hb02 hrd hsm hlen hps hN2 hpm hfi hb1 hb2 hu hlc hfv hp1
  rw [hn]
  clear hn
  go_wp2
  go_loopg [3, 14] n (fun g v i wr => ∃ k : Nat, k + g = n ∧ i = .int .i64 k ∧ Hid (Pi s w2 p m k v wr))
  case atStart => exact ⟨0, by omega, rfl, Lib.hid ⟨So.nil _ _ _, ⟨[], HFI.out, Nat.le_refl _, fun x => rfl⟩, ⟨rfl, rfl, rfl, Nat.le_refl _, fun _ _ _ => rfl⟩⟩⟩
  case round =>
    obtain ⟨k, hkg, rfl, HPI⟩ := hrel
    obtain ⟨G, rfl⟩ : ∃ G, G = gk := ⟨_, rfl⟩
    obtain ⟨w5, rfl⟩ : ∃ w5, w5 = wr := ⟨_, rfl⟩
    by_cases hp : k < n
    · obtain ⟨asked, hfi5, hal, hsame⟩ := HPI.out.set
      have hrd5 := rd_grown HRD.out HPI.out.grown HFI.out.isMap
      have hkl : k < ps.length := by rw [HN.out]; exact hp
      obtain ⟨b, off, rfl, hbN, hc⟩ := hrd5 (by omega)
      have hcell := hc k hkl
      obtain ⟨P, hP⟩ : ∃ P, ps[k] = P := ⟨_, rfl⟩
      rw [hP] at hcell
      have hPs : P.size ≤ 1000000 := by rw [← hP]; exact HSM.out _ (List.getElem_mem _)
      have hnext : accK s (k + 1) = stepD (accK s k) (dir P) := by
        have hk2 : k < (pcs s).length := by rw [HPS.out]; exact hkl
        rw [accK_succ hk2]
        congr 2
        rw [← hP]
        simp only [HPS.out]
      have hn1 := HL.out
      have hn2 := HN.out
      have hkb : k < 1000001 := by omega
      obtain ⟨acc, hacc⟩ : ∃ acc, accK s k = acc := ⟨_, rfl⟩
      have haccl : acc.length ≤ 1000001 := by
        have := accK_len s k
        rw [hacc] at this
        omega
      have hso5 := HPI.out.so
      have hg5 := HPI.out.grown
      rw [hacc] at hsame hnext hso5
      have HAC := Lib.hid haccl; have HNX := Lib.hid hnext; have HPZ := Lib.hid hPs; have HSA := Lib.hid hsame; have HAL := Lib.hid hal; have HF5 := Lib.hid hfi5; have HS5 := Lib.hid hso5; have HG5 := Lib.hid hg5; have HA := Lib.hid hacc
      clear hc hrd5 hkl hP hnext hPs hsame hal hfi5 hso5 hg5 hacc hn1 hn2 haccl
      go_wp2_with fail
      refine (words_any P w5 HPZ.out).mono ?_
      rintro e wa ⟨x, rfl, hx, hba⟩
      obtain ⟨Ax, cx, rfl, hlx, _, hrx⟩ := hx.form
      obtain ⟨ws, hws⟩ : ∃ ws, wds P = ws := ⟨_, rfl⟩
      have hwl := len_wds P
      rw [hws] at hlx hrx hwl
      rw [hws]
      obtain ⟨nw, hnw⟩ : ∃ nw, ws.length = nw := ⟨_, rfl⟩
      rw [hnw]
      have hd : dir P = dirW ws := by unfold dir; rw [hws]
      have hfa : Fi wa p m asked := HF5.out.kept (row := none) (grown_below hba) (by simp) (by simp)
      have hsa : So w2.heap.size w5.heap.size wa u3 (accK s k) := by rw [HA.out]; exact HS5.out.below hba (Nat.le_refl _)
      rw [HA.out] at hsa
      have hszw : ∀ z ∈ ws, z.size ≤ 1000000 := fun z hz => by
        rw [← hws] at hz
        unfold wds at hz
        obtain ⟨y, hy, rfl⟩ := List.mem_map.1 hz
        rw [size_B]
        have h1 := len_wordx (L P) [] y hy
        rw [size_L] at h1
        have := HPZ.out
        simp at h1
        omega
      have HWS := Lib.hid hws; have HNW := Lib.hid hnw; have HD := Lib.hid hd; have HFA := Lib.hid hfa; have HSO := Lib.hid hsa; have HRX := Lib.hid hrx; have HBA := Lib.hid hba; have HSZ := Lib.hid hszw; have HWL := Lib.hid hwl
      have hnwb : nw ≤ 1000000 := by have := HPZ.out; omega
      clear hws hnw hd hfa hsa hrx hba hx hlx hszw hwl
      go_wp2
      go_loopg [7, 21] nw (fun g2 u j wi => ∃ jj : Nat, jj + g2 = nw ∧ j = .int .i64 jj ∧ Hid (Qi w2.heap.size w5.heap.size p m asked acc (dirW ws) u3 wa jj u wi))
      case atStart => exact ⟨0, by omega, rfl, Lib.hid ⟨Sown.nil _ _, HFA.out, fun h => by omega, HSO.out, ⟨rfl, rfl, rfl, Nat.le_refl _, fun _ _ _ => rfl⟩⟩⟩
      case round =>
        obtain ⟨jj, hjg, rfl, HQ⟩ := hrel
        have hgA : wa.grownBy wr (some m) := HQ.out.grown
        have hg5 : w5.grownBy wr (some m) := (grown_below HBA.out).but _ |>.trans hgA
        have hg2 : w2.grownBy wr (some m) := HG5.out.trans hg5
        by_cases hj : jj < nw
        · have hjl : jj < ws.length := by rw [HNW.out]; exact hj
          obtain ⟨bx, ox, rfl, hbx, hcx⟩ := (rd_grown HRX.out hgA HFA.out.isMap) (by omega)
          have hcell2 := hcx jj hjl
          obtain ⟨y, hy⟩ : ∃ y, ws[jj] = y := ⟨_, rfl⟩
          rw [hy] at hcell2
          have hys : y.size ≤ 1000000 := by rw [← hy]; exact HSZ.out _ (List.getElem_mem _)
          cases jj with
          | zero =>
            rw [Nat.add_zero] at hcell2
            obtain ⟨ht1, ht2⟩ := dirW_zero hjl
            rw [hy] at ht1 ht2
            obtain ⟨z, hz⟩ : ∃ z, lo y = z := ⟨_, rfl⟩
            have hzs : z.size ≤ 1000000 := by rw [← hz, size_lo]; exact hys
            rw [hz] at ht1 ht2
            have hfi : Fi wr p m asked := HQ.out.fi
            have hown : Sown wa.heap.size wr u7 [] := HQ.out.own
            have hso := HQ.out.so
            have HT1 := Lib.hid ht1; have HT2 := Lib.hid ht2; have HZ := Lib.hid hz; have HZS := Lib.hid hzs; have HFI2 := Lib.hid hfi; have HOW := Lib.hid hown; have HSO2 := Lib.hid hso; have HYS := Lib.hid hys; have HGA := Lib.hid hgA; have HG2 := Lib.hid hg2; have HG5 := Lib.hid hg5
            clear ht1 ht2 hz hzs hfi hown hso hys hgA hg2 hg5 hcx hy hjl
            go_wp2_with fail
            refine (lower_any y wr (by have := HYS.out; omega)).mono ?_
            rintro e wl ⟨rfl, hbl⟩
            rw [show B (lowL (L y)) = z from HZ.out]
            obtain ⟨q, hq⟩ : ∃ q, isIn z asked = q := ⟨_, rfl⟩
            have HQQ := Lib.hid hq; have HBL := Lib.hid hbl; clear hq hbl
            have hfl : Fi wl p m asked := HFI2.out.kept (row := none) (grown_below HBL.out) (by simp) (by simp)
            have hgl : wr.grownBy wl none := grown_below HBL.out
            have hol : Sown wa.heap.size wl u7 [] := HOW.out.below HBL.out (Nat.le_refl _)
            have hsl : So w2.heap.size w5.heap.size wl u3 acc := HSO2.out.grown0 hgl
            have hnl : wa.heap.size ≤ wl.heap.size := Nat.le_trans HGA.out.size HBL.out.size
            have HFL := Lib.hid hfl; have HGL := Lib.hid hgl; have HOL := Lib.hid hol; have HSL := Lib.hid hsl; have HNL := Lib.hid hnl
            clear hfl hgl hol hsl hnl
            go_wp2_with fail
            refine (first_any z p m asked wl (by have := HZS.out; omega) HFL.out (by have := HAL.out; omega) q HQQ.out).mono ?_
            rintro e wf ⟨rfl, hff, hgf⟩
            have HFF := Lib.hid hff; have HGF := Lib.hid hgf; clear hff hgf
            cases q with
            | true =>
              go_wp2
              go_roundg (n - (k + 1))
              case measure => omega
              case rel =>
                have hgf2 : w2.grownBy wf (some m) := (HG2.out.trans (HGL.out.but _)).trans HGF.out
                have hin : isIn (hd (dir P)) (heads acc) = true := by rw [HD.out, HT2.out, ← HSA.out]; exact HQQ.out
                refine ⟨k + 1, by omega, by go_num, Lib.hid ⟨?_, ⟨asked ++ [z], HFF.out, ?_, fun x => ?_⟩, hgf2⟩⟩
                · rw [HNX.out, stepD_old hin]
                  exact (HSL.out.grown HGF.out (fun cs fr => HFL.out.isMap _ _ _) fun cs fr => HFL.out.isMap _ _ _).tops
                · rw [List.length_append]
                  have := HAL.out
                  simp
                  omega
                · rw [HNX.out, stepD_old hin, isIn_snoc, ← HSA.out]
                  by_cases hxz : x = z
                  · rw [hxz, HQQ.out]; rfl
                  · rw [decide_eq_false hxz, Bool.or_false]
            | false =>
              have hof : Sown wa.heap.size wf u7 [] := sown_grown HOL.out HGF.out (sown_other HOL.out fun cs fr => HFL.out.isMap _ _ _)
              have hsf : So w2.heap.size w5.heap.size wf u3 acc := HSL.out.grown HGF.out (fun cs fr => HFL.out.isMap _ _ _) fun cs fr => HFL.out.isMap _ _ _
              have hnf : wa.heap.size ≤ wf.heap.size := Nat.le_trans HNL.out HGF.out.size
              have HSF := Lib.hid hsf; clear hsf
              go_wp2_with (at_builtin; refine app_one wf rfl (.tmp 34) (.tmp 36) rfl wa.heap.size _ [] z rfl hof rfl (by decide) hnf ?_; intro v2 w7 hown2 hk2 _)
              go_roundg (nw - 1)
              case measure => omega
              case rel =>
                have hbk : Below wa.heap.size wf w7 := hk2 wf (Below.refl _ _)
                refine ⟨1, by omega, by go_num, Lib.hid ⟨?_, ?_, fun _ => ?_, ?_, ?_⟩⟩
                · rw [HT1.out]; exact hown2
                · rw [if_neg (by decide), HT2.out]
                  exact HFF.out.low hbk HFA.out.lt.1 HFA.out.lt.2
                · rw [HT2.out, ← HSA.out]; exact HQQ.out
                · exact HSF.out.low hbk HBA.out.size
                · exact grown_low ((HGA.out.trans (HGL.out.but _)).trans HGF.out) hbk
          | succ jj =>
            have ht1 := dirW_succ hjl
            rw [hy] at ht1
            have hz : ((((jj + 1 : Nat) : Int)) == 0) = false := by rw [beq_eq_false_iff_ne]; omega
            have hfi : Fi wr p m (asked ++ [hd (dirW ws)]) := HQ.out.fi
            have hown := HQ.out.own
            have hln : ((dirW ws).take (jj + 1)).length = jj + 1 := by rw [List.length_take, len_dirW]; omega
            have hnf : wa.heap.size ≤ wr.heap.size := hgA.size
            have HT1 := Lib.hid ht1; have HFI2 := Lib.hid hfi; have HYS := Lib.hid hys; have HGA := Lib.hid hgA; have HG2 := Lib.hid hg2; have HG5 := Lib.hid hg5; have HLN := Lib.hid hln
            clear ht1 hfi hys hgA hg2 hg5 hcx hy hjl hln
            go_wp2_with (at_builtin; refine app_one wr rfl (.tmp 34) (.tmp 36) rfl wa.heap.size _ ((dirW ws).take (jj + 1)) y rfl hown rfl (by rw [HLN.out]; omega) hnf ?_; intro v2 w7 hown2 hk2 _)
            go_roundg (nw - (jj + 2))
            case measure => omega
            case rel =>
              have hbk : Below wa.heap.size wr w7 := hk2 wr (Below.refl _ _)
              refine ⟨jj + 2, by omega, by go_num, Lib.hid ⟨?_, ?_, fun _ => HQ.out.new (by omega), ?_, ?_⟩⟩
              · rw [HT1.out]; exact hown2
              · rw [if_neg (by omega)]
                exact HFI2.out.low hbk HFA.out.lt.1 HFA.out.lt.2
              · exact HQ.out.so.low hbk HBA.out.size
              · exact grown_low HGA.out hbk
        · obtain rfl : jj = nw := by omega
          have htk : (dirW ws).take jj = dirW ws := List.take_of_length_le (by rw [len_dirW, HNW.out]; exact Nat.le_refl _)
          have hown := HQ.out.own
          rw [htk] at hown
          have hlen2 : (dirW ws).length = jj := by rw [len_dirW, HNW.out]
          obtain ⟨Ad, cd, rfl, hld, _, hrd⟩ := hown.form
          have HOW := Lib.hid hown; have HGA := Lib.hid hgA; have HG2 := Lib.hid hg2; have HG5 := Lib.hid hg5; have HLN := Lib.hid hlen2
          clear hown hgA hg2 hg5 hrd hld htk
          by_cases h0 : 0 < jj
          · have hne : dirW ws ≠ [] := fun e => by have := HLN.out; rw [e] at this; simp at this; omega
            have hnew := HQ.out.new h0
            have hfi : Fi wr p m (asked ++ [hd (dirW ws)]) := by
              have := HQ.out.fi
              rwa [if_neg (by omega)] at this
            have hso : So w2.heap.size wa.heap.size wr u3 acc := HQ.out.so.more HBA.out.size
            have HNE := Lib.hid hne; have HNW2 := Lib.hid hnew; have HFI2 := Lib.hid hfi; have HSO2 := Lib.hid hso
            have hnf : w2.heap.size ≤ wr.heap.size := HG2.out.size
            have hna : w2.heap.size ≤ wa.heap.size := Nat.le_trans HPI.out.grown.size HBA.out.size
            clear hne hnew hfi hso
            have how2 : Sown wa.heap.size wr (.slice Ad jj cd) (dirW ws) := by
              have := HOW.out
              rwa [HLN.out] at this
            have HOW2 := Lib.hid how2; clear how2
            rw [HLN.out]
            go_wp2_with (at_builtin; refine app_group wr rfl (.tmp 42) (.tmp 44) rfl w2.heap.size wa.heap.size _ acc _ (dirW ws) rfl HSO2.out HOW2.out hna rfl rfl (by have := HAC.out; omega) hnf ?_; intro v2 w7 hso2 hgw)
            go_roundg (n - (k + 1))
            case measure => omega
            case rel =>
              have hb3 : ∀ b, u3.ownBlock = some b → w2.heap.size ≤ b := fun b e => (HSO2.out.lt e).1
              have e2 : accK s (k + 1) = acc ++ [dirW ws] := by rw [HNX.out, HD.out, stepD_new HNE.out HNW2.out]
              refine ⟨k + 1, by omega, by go_num, Lib.hid ⟨?_, ⟨asked ++ [hd (dirW ws)], ?_, ?_, fun x => ?_⟩, ?_⟩⟩
              · rw [e2]; exact hso2
              · exact HFI2.out.kept hgw (fun e => by have := hb3 m e.symm; have := HPM.out.1; omega) fun e => by have := hb3 p e.symm; have := HPM.out.2; omega
              · rw [List.length_append]
                have := HAL.out
                simp
                omega
              · rw [e2, heads_append, isIn_snoc, HSA.out, show heads [dirW ws] = [hd (dirW ws)] from rfl, isIn_snoc]
              · exact World.grownBy.andThen HG2.out hgw fun j e => .inl (hb3 j e)
          · obtain rfl : jj = 0 := by omega
            have hnil : dirW ws = [] := List.eq_nil_of_length_eq_zero HLN.out
            have hfi : Fi wr p m asked := HQ.out.fi
            have hso := HQ.out.so
            have e2 : accK s (k + 1) = acc := by rw [HNX.out, HD.out, hnil, stepD_nil]
            have HE2 := Lib.hid e2; have HFI2 := Lib.hid hfi; have HSO2 := Lib.hid hso
            clear e2 hfi hso hnil
            rw [HLN.out]
            go_wp2
            go_roundg (n - (k + 1))
            case measure => omega
            case rel =>
              refine ⟨k + 1, by omega, by go_num, Lib.hid ⟨?_, ⟨asked, HFI2.out, Nat.le_succ_of_le HAL.out, fun x => ?_⟩, HG2.out⟩⟩
              · rw [HE2.out]; exact HSO2.out.tops
              · rw [HE2.out]; exact HSA.out x
    · have hall : accK s k = parts s := accK_all s (by rw [HPS.out, HN.out]; omega)
      have hso := HPI.out.so
      rw [hall] at hso
      have hg := HPI.out.grown
      have HSO := Lib.hid hso; have HG := Lib.hid hg
      clear hso hg hall
      go_wp2
      try rw [Exit.noGoto_ret]
      go_ret
      exact ⟨_, rfl, (HSO.out.tops).mono HN2.out, bel_m HB.out HG.out HN2.out (by rw [HM.out]; exact Nat.le_refl _)⟩

end Go.Proofs.Ythgpjhblbpiagaa.He
