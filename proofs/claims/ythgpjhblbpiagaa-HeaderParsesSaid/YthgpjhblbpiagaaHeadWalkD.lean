/-
  Walks of stage 15: header.namesOf.
-/
import Derived.Test.YthgpjhblbpiagaaHeadWalkA
import Derived.Test.YthgpjhblbpiagaaHeadWalkB
namespace Go.Proofs.Ythgpjhblbpiagaa.He
set_option maxRecDepth 100000
set_option linter.unusedSimpArgs false
set_option linter.unusedVariables false
open Go.RowKit Ba Fm Fo Go.Maps

theorem isIn_snoc (x s : ByteArray) (l : List ByteArray) : isIn x (l ++ [s]) = (isIn x l || decide (x = s)) := by
  unfold isIn
  rw [Bool.eq_iff_iff]
  simp
theorem bel_m {w0 w w' : World} {N m : Nat} (h : Below N w0 w) (hg : w.grownBy w' (some m)) (hN : N ≤ w.heap.size) (hm : N ≤ m) : Below N w0 w' := h.grown hg hN fun k hk => by injection hk with hk; omega
structure Ni (vs : List ByteArray) (w1 : World) (p m k : Nat) (v : Value) (wr : World) : Prop where
  own : Sown w1.heap.size wr v (namesF [] (vs.take k))
  set : ∃ asked, Fi wr p m asked ∧ asked.length ≤ k ∧ ∀ x, isIn x asked = isIn x (namesF [] (vs.take k))
  grown : w1.grownBy wr (some m)

set_option maxHeartbeats 4000000 in
theorem namesOf_any (A : Option Addr) (c N : Nat) (vs : List ByteArray) (w : World) (hr : Rd w N A vs) (hN : N ≤ w.heap.size) (hl : vs.length ≤ 1000000) (hz : ∀ z ∈ vs, z.size ≤ 140737488355328) :
    Calls Try.prog 29 #[.slice A vs.length c] w fun e w' => ∃ v, e = .returned v ∧ Sown w.heap.size w' v (namesM vs) ∧ Below w.heap.size w w' := by
  go_enter Try.func29, Try.ntmps29
  go_wp2_with fail
  refine (firsts_any w).mono ?_
  rintro e w1 ⟨rfl, hfi, hb1⟩
  obtain ⟨p, hp⟩ : ∃ p, w.heap.size + 1 = p := ⟨_, rfl⟩
  obtain ⟨m, hm⟩ : ∃ m, w.heap.size = m := ⟨_, rfl⟩
  have hfv : fnV (w.heap.size + 1) = .func (.func 33) #[] #[.pointer (some ⟨p, 0, none⟩)] := by rw [hp]; rfl
  rw [hfv]
  rw [hp, hm] at hfi
  have hr1 : Rd w1 w1.heap.size A vs := (hr.below hb1 hN).more (Nat.le_trans hN hb1.size)
  have HM := Lib.hid hm; have HP := Lib.hid hp; have HFI := Lib.hid hfi; have HB := Lib.hid hb1; have HRD := Lib.hid hr1; have HZ := Lib.hid hz
  clear hm hp hfi hb1 hr1 hz hfv hr
  go_wp2
  go_loopw [3, 10] (fun v i wr => ∃ k : Nat, i = .int .i64 k ∧ k ≤ vs.length ∧ Hid (Ni vs w1 p m k v wr)) (fun _ i _ => vs.length - (intOf i).toNat)
  case atStart => exact ⟨0, rfl, Nat.zero_le _, Lib.hid ⟨Sown.nil _ _, ⟨[], HFI.out, Nat.le_refl _, fun x => rfl⟩, ⟨rfl, rfl, rfl, Nat.le_refl _, fun _ _ _ => rfl⟩⟩⟩
  case round =>
    obtain ⟨k, rfl, hks, HNI⟩ := hrel
    by_cases hp : k < vs.length
    · obtain ⟨asked, hfi, hal, hsame⟩ := HNI.out.set
      obtain ⟨b, off, rfl, hbN, hc⟩ := (rd_grown HRD.out HNI.out.grown HFI.out.isMap) (by omega)
      have hcell := hc k hp
      have hnext := namesF_snoc (acc := []) hp
      have hln : (namesF [] (vs.take k)).length ≤ k := by
        have := len_namesF (vs.take k) []
        rw [List.length_take] at this
        simp at this
        omega
      obtain ⟨y, hy⟩ : ∃ y, vs[k] = y := ⟨_, rfl⟩
      have hys : y.size ≤ 140737488355328 := by rw [← hy]; exact HZ.out _ (List.getElem_mem _)
      rw [hy] at hcell hnext
      obtain ⟨acc, hacc⟩ : ∃ acc, namesF [] (vs.take k) = acc := ⟨_, rfl⟩
      have hown := HNI.out.own
      have hg := HNI.out.grown
      rw [hacc] at hown hsame hnext hln
      obtain ⟨q, hq⟩ : ∃ q, mayB y = q := ⟨_, rfl⟩
      have HS := Lib.hid hsame; have HF := Lib.hid hfi; have HAL := Lib.hid hal; have HNX := Lib.hid hnext; have HLN := Lib.hid hln; have HYS := Lib.hid hys; have HOW := Lib.hid hown; have HG := Lib.hid hg; have HQ := Lib.hid hq
      clear hsame hfi hal hnext hln hys hown hg hq hc hy hacc HNI
      go_wp2_with fail
      refine (valid1 y wr HYS.out q HQ.out).mono ?_
      rintro e w2 ⟨rfl, rfl⟩
      cases q with
      | false =>
        go_wp2
        go_roundw
        case rel =>
          have e2 : namesF [] (vs.take (k + 1)) = acc := by rw [HNX.out, stepN_bad HQ.out]
          refine ⟨k + 1, by go_num, by omega, Lib.hid ⟨?_, ⟨asked, HF.out, Nat.le_succ_of_le HAL.out, fun x => ?_⟩, HG.out⟩⟩
          · rw [e2]; exact HOW.out
          · rw [e2]; exact HS.out x
        case measure => simp [intOf]; omega
      | true =>
        obtain ⟨r, hr⟩ : ∃ r, isIn y asked = r := ⟨_, rfl⟩
        have HR := Lib.hid hr; clear hr
        go_wp2_with fail
        refine (first_any y p m asked wr HYS.out HF.out (by have := HAL.out; omega) r HR.out).mono ?_
        rintro e wf ⟨rfl, hff, hgf⟩
        have hgf2 : w1.grownBy wf (some m) := HG.out.trans hgf
        have hof := sown_grown HOW.out hgf (sown_other HOW.out fun cs fr => HF.out.isMap _ _ _)
        have HFF := Lib.hid hff; have HGF := Lib.hid hgf2; clear hff hgf hgf2
        cases r with
        | true =>
          have HOF := Lib.hid hof; clear hof
          go_wp2
          go_roundw
          case rel =>
            have e2 : namesF [] (vs.take (k + 1)) = acc := by rw [HNX.out, stepN_old (by rw [← HS.out]; exact HR.out)]
            refine ⟨k + 1, by go_num, by omega, Lib.hid ⟨?_, ⟨asked ++ [y], HFF.out, ?_, fun x => ?_⟩, HGF.out⟩⟩
            · rw [e2]; exact HOF.out
            · rw [List.length_append]
              have := HAL.out
              simp
              omega
            · rw [e2, isIn_snoc, ← HS.out]
              by_cases hxz : x = y
              · rw [hxz, HR.out]; rfl
              · rw [decide_eq_false hxz, Bool.or_false]
          case measure => simp [intOf]; omega
        | false =>
          have hnf : w1.heap.size ≤ wf.heap.size := HGF.out.size
          go_wp2_with (at_builtin; refine app_one wf rfl (.tmp 21) (.tmp 23) rfl w1.heap.size _ acc y rfl hof rfl (by have := HLN.out; omega) hnf ?_; intro v2 w7 hown2 hk2 _)
          go_roundw
          case rel =>
            have hbk : Below w1.heap.size wf w7 := hk2 wf (Below.refl _ _)
            have e2 : namesF [] (vs.take (k + 1)) = acc ++ [y] := by rw [HNX.out, stepN_yes HQ.out (by rw [← HS.out]; exact HR.out)]
            refine ⟨k + 1, by go_num, by omega, Lib.hid ⟨?_, ⟨asked ++ [y], ?_, ?_, fun x => ?_⟩, ?_⟩⟩
            · rw [e2]; exact hown2
            · exact HFF.out.low hbk HFI.out.lt.1 HFI.out.lt.2
            · rw [List.length_append]
              have := HAL.out
              simp
              omega
            · rw [e2, isIn_snoc, isIn_snoc, HS.out]
            · exact grown_low HGF.out hbk
          case measure => simp [intOf]; omega
    · have hall : namesF [] (vs.take k) = namesM vs := by rw [List.take_of_length_le (by omega)]; rfl
      have hown := HNI.out.own
      have hg := HNI.out.grown
      rw [hall] at hown
      have HOW := Lib.hid hown; have HG := Lib.hid hg
      clear hown hg hall
      go_wp2
      go_ret
      exact ⟨_, rfl, HOW.out.mono HB.out.size, bel_m HB.out HG.out HB.out.size (by rw [HM.out]; exact Nat.le_refl _)⟩

end Go.Proofs.Ythgpjhblbpiagaa.He
