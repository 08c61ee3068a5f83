/-
  Walks of stage 4: Put and its reference.
-/
import Derived.Test.YtblefklfgaohfaaRowWalkR
import Derived.Laws.MakeOwn
import Derived.Deep.DeepCutAuto
namespace Go.Proofs.Ytblefklfgaohfaa.Ro
set_option linter.unusedVariables false
set_option linter.unusedSimpArgs false
open Go.RowKit Ba

/-- Is it what has the roots, or an element? -/
def elemAt (l : List Ro) (p : Int) : Bool := decide (p = -1) || (decide (0 ≤ p ∧ p < l.length) && decide (((l[p.toNat]?).map (·.kind)).getD 1 = 0))
def put (l : List Ro) (p at_ : Int) (sub : List Ro) : Int × List Ro :=
  if elemAt l p = false then (41, [])
  else if (placeAt l p at_).2 = false then (1, [])
  else if right sub = false then (40, [])
  else if exceeds sub (4096 - l.length) (60 - (dep l p + 1)) = true then (2, [])
  else (0, l.take (placeAt l p at_).1.toNat ++ deeper (dep l p + 1) sub ++ l.drop (placeAt l p at_).1.toNat)

theorem made_rows (n : Nat) (h : n ≤ 10000000) :
    ∃ O : Obj, (∀ W : World, (Instr.makeSlice 22 (.int .i64 0) (.int .i64 (n : Nat))).run Try.prog W = .ok (.slice (some ⟨W.heap.size, 0, none⟩) 0 n) (W.alloc O)) ∧ ∀ W : World, Ow W.heap.size (W.alloc O) (.slice (some ⟨W.heap.size, 0, none⟩) 0 n) [] := by
  have hi : ∃ i, Try.prog.info? 43 = some i ∧ (∃ z, i.zero = some z ∧ z.cells.size = 5) ∧ i.size = 5 ∧ i.bytes = 72 := ⟨_, rfl, ⟨_, rfl, rfl⟩, rfl, rfl⟩
  obtain ⟨i, hi, ⟨z, hz, hz5⟩, h5, h72⟩ := hi
  refine ⟨.cells (madeCells z.cells (n * i.size)) 43, fun W => ?_, fun W => ⟨World.ownsRow_made W _ n (Nat.le_refl _) (by unfold maxLen; omega) ?_, fun _ h => by simp at h⟩⟩
  · have := run_make (P := Try.prog) W 22 43 i z rfl hi hz .i64 .i64 0 n (by omega) (by omega) (by rw [h72]; omega) (by omega)
    simp only [Int.toNat_natCast] at this
    exact this
  · rw [h5]
    simp [madeCells, hz5]

theorem Rr.take {w : World} {N : Nat} {A : Option Addr} {l : List Cw} (h : Rr w N A l) (k : Nat) : Rr w N A (l.take k) := by
  refine ⟨fun h0 => ?_, fun x hx => h.2 x (List.mem_of_mem_take hx)⟩
  rw [List.length_take] at h0
  obtain ⟨b, off, e, hb, hcc⟩ := h.1 (by omega)
  refine ⟨b, off, e, hb, fun j hj => ?_⟩
  rw [List.length_take] at hj
  rw [List.getElem_take]
  exact hcc j (by omega)
theorem Rr.rest {w : World} {N : Nat} {A : Option Addr} {l : List Cw} (h : Rr w N A l) (k cap : Nat) (hk : k ≤ l.length) (hc : l.length ≤ cap) : Rr w N (if cap = k then A else A.map (·.add (k * 5))) (l.drop k) := by
  have := h.part k l.length cap hk (Nat.le_refl _) hc
  rwa [List.take_length] at this
theorem elem_top (l : List Ro) : elemAt l (-1) = true := by simp [elemAt]

theorem kids_in (d : Int) : ∀ (l : List Ro) (k : Nat), ∀ x ∈ kidsFrom d k l, k ≤ x ∧ x < k + l.length
  | [], _, x, h => by cases h
  | y :: r, k, x, h => by
    rw [kidsFrom] at h
    rw [List.length_cons]
    split at h
    · rcases List.mem_cons.1 h with rfl | h
      · omega
      · have := kids_in d r (k + 1) x h
        omega
    · have := kids_in d r (k + 1) x h
      omega
theorem below_len (l : List Ro) (i : Int) (h1 : -1 ≤ i) (h2 : i < l.length) : (i + 1).toNat + (below l i).length ≤ l.length := by
  have := (List.takeWhile_sublist (fun x => decide (dep l i < x.depth)) (l := l.drop (i + 1).toNat)).length_le
  rw [List.length_drop] at this
  have e : (below l i).length ≤ l.length - (i + 1).toNat := this
  omega
theorem kids_at (l : List Ro) (i : Int) (h1 : -1 ≤ i) (h2 : i < l.length) : ∀ x ∈ kids l i, i < (x : Int) ∧ x < l.length := fun x hx => by
  have := kids_in _ _ _ x hx
  have := below_len l i h1 h2
  omega
theorem place_in (l : List Ro) (i at_ : Int) (h1 : -1 ≤ i) (h2 : i < l.length) : ∃ P : Nat, (placeAt l i at_).1 = P ∧ P ≤ l.length := by
  rw [placeAt]
  split
  · next h =>
    rw [List.getElem?_eq_getElem (by omega), Option.getD_some]
    refine ⟨_, rfl, ?_⟩
    have := kids_at l i h1 h2 _ (List.getElem_mem (show at_.toNat < (kids l i).length by omega))
    omega
  · refine ⟨_, rfl, endOf_le l i h2⟩
theorem right_ge : ∀ (l : List Ro) (m : Int), rightFrom m l = true → ∀ x ∈ l, 0 ≤ x.depth
  | [], _, _, x, h => by cases h
  | y :: r, m, h, x, hx => by
    rw [rightFrom] at h
    simp only [Bool.and_eq_true, decide_eq_true_eq] at h
    rcases List.mem_cons.1 hx with rfl | hx
    · exact h.1.1.1
    · exact right_ge r _ h.2 x hx

set_option maxRecDepth 100000 in
set_option maxHeartbeats 2000000 in
theorem Put_any (A B : Option Addr) (ca cb : Nat) (l s : List Cw) (p at_ : Int) (w : World) (hr : Rr w w.heap.size A l) (hs : Rr w w.heap.size B s) (hc : l.length ≤ ca) (hcs : s.length ≤ cb) (hm : l.length ≤ 1000000) (hms : s.length ≤ 1000000) (hf : Few (ros l)) (hfs : Few (ros s)) (hdp : Deep (ros l)) :
    Calls Try.prog 28 #[.slice A l.length ca, .int .i64 p, .int .i64 at_, .slice B s.length cb] w fun e w' => ∃ v l', e = .returned (.tuple #[v, .int .i64 (put (ros l) p at_ (ros s)).1]) ∧ Ow w.heap.size w' v l' ∧ (∀ x ∈ l', Fr w.heap.size w' x) ∧ ros l' = (put (ros l) p at_ (ros s)).2 ∧ Below w.heap.size w w' := by
  by_cases hE : elemAt (ros l) p = false
  · rw [put, if_pos hE]
    have hp1 : ¬ p = -1 := fun e => by rw [e, elem_top] at hE; cases hE
    have hp2 : (p != -1) = true := by rw [bne_iff_ne]; exact hp1
    by_cases hin : 0 ≤ p ∧ p < l.length
    · obtain ⟨j, rfl⟩ := Int.eq_ofNat_of_zero_le hin.1
      have hj : j < l.length := by omega
      obtain ⟨b0, off0, y, rfl, hbl, hdy, hy, _, _⟩ := hr.at_ j hj
      have hk : (y.ro.kind == 0) = false := by
        have e : (ros l)[j]? = some y.ro := by rw [ros, List.getElem?_map, getElem_of_drop hdy]; rfl
        rw [elemAt, decide_eq_false hp1, decide_eq_true (by rw [len_ros]; exact hin), Int.toNat_natCast, e] at hE
        simpa using hE
      obtain ⟨f0, f1, f2, f3, f4⟩ := range5 hy
      clear hE hdy hy f0 f2 f3 f4
      go_enter Try.func28, Try.ntmps28
      go_wp2_with fail
      refine (hasYes_any _ _ ca j w hc (by omega) (by omega)).mono ?_
      rintro e w1 ⟨rfl, rfl⟩
      go_wp2
      go_ret2
      exact ⟨_, [], rfl, Ow.nil _ _, fun _ h => by simp at h, rfl, Below.refl _ _⟩
    · clear hE
      go_enter Try.func28, Try.ntmps28
      go_wp2_with fail
      refine (hasNo_any _ _ ca p w hc hin).mono ?_
      rintro e w1 ⟨rfl, rfl⟩
      go_wp2
      go_ret2
      exact ⟨_, [], rfl, Ow.nil _ _, fun _ h => by simp at h, rfl, Below.refl _ _⟩
  · rw [put, if_neg hE]
    have hE1 : -1 ≤ p ∧ p < l.length := by
      rw [elemAt, len_ros] at hE
      by_cases h1 : p = -1
      · omega
      · by_cases h2 : 0 ≤ p ∧ p < l.length
        · omega
        · rw [decide_eq_false h1, decide_eq_false h2] at hE
          exact absurd rfl hE
    have hE2 : p = -1 ∨ ∃ j : Nat, p = j ∧ j < l.length ∧ ∀ y : Cw, l.drop j = y :: l.drop (j + 1) → (y.ro.kind == 0) = true := by
      by_cases h1 : p = -1
      · exact .inl h1
      · obtain ⟨j, rfl⟩ := Int.eq_ofNat_of_zero_le (show 0 ≤ p by omega)
        refine .inr ⟨j, rfl, by omega, fun y hdy => ?_⟩
        have e : (ros l)[j]? = some y.ro := by rw [ros, List.getElem?_map, getElem_of_drop hdy]; rfl
        rw [elemAt, decide_eq_false h1, decide_eq_true (by rw [len_ros]; omega), Int.toNat_natCast, e] at hE
        simpa using hE
    obtain ⟨D, hD⟩ : ∃ D, dep (ros l) p = D := ⟨_, rfl⟩
    have hD1 : -1 ≤ D ∧ D ≤ 1000000 := by
      rw [← hD]
      rcases hE2 with rfl | ⟨j, rfl, hj, _⟩
      · rw [dep_top]; omega
      · rw [dep_at (show (ros l)[j]? = some ((ros l)[j]'(by rw [len_ros]; exact hj)) from List.getElem?_eq_getElem (by rw [len_ros]; exact hj))]
        have := hdp _ (List.getElem_mem (show j < (ros l).length by rw [len_ros]; exact hj))
        omega
    obtain ⟨P, hP, hP1⟩ := place_in (ros l) p at_ hE1.1 (by rw [len_ros]; exact hE1.2)
    obtain ⟨b, hb⟩ : ∃ b, (placeAt (ros l) p at_).2 = b := ⟨_, rfl⟩
    have hpl := placeOf_any A ca l p at_ w hr hc hm hE1.1 hE1.2 (by rw [hD]; omega) (by rw [hD]; omega)
    rw [len_ros] at hP1
    rw [hP, hb] at hpl
    rw [hb, hP, hD, len_ros, Int.toNat_natCast]
    obtain ⟨R, hR⟩ : ∃ R, (if b = false then ((1 : Int), ([] : List Ro)) else if right (ros s) = false then (40, []) else if exceeds (ros s) (4096 - l.length) (60 - (D + 1)) = true then (2, []) else (0, (ros l).take P ++ deeper (D + 1) (ros s) ++ (ros l).drop P)) = R := ⟨_, rfl⟩
    rw [hR]
    have HRES := Lib.hid hR; have HPL := Lib.hid hpl; have HDE := Lib.hid hD
    clear hpl hD hP hb hE hR
    obtain ⟨hD1, hD2⟩ := hD1
    go_enter Try.func28, Try.ntmps28
    go_upto_region 1 with fail
    go_cut [29] (fun t wx => t = .bool false ∧ w = wx)
    case first =>
      rcases hE2 with rfl | ⟨j, rfl, hj, hk⟩
      · go_wp2
        go_meet
        exact ⟨rfl, rfl⟩
      · obtain ⟨b0, off0, y, rfl, hbl, hdy, hy, _, _⟩ := hr.at_ j hj
        have hk := hk y hdy
        obtain ⟨f0, f1, f2, f3, f4⟩ := range5 hy
        have hp2 : ((j : Int) != -1) = true := by rw [bne_iff_ne]; omega
        clear hdy hy f0 f2 f3 f4
        go_wp2_with fail
        refine (hasYes_any _ _ ca j w hc (by omega) (by omega)).mono ?_
        rintro e w1 ⟨rfl, rfl⟩
        go_wp2
        go_meet
        exact ⟨rfl, rfl⟩
    case rest =>
      obtain ⟨rfl, rfl⟩ := hcut
      clear hE2
      go_wp2_with fail
      refine HPL.out.mono ?_
      rintro e w1 ⟨rfl, hb1⟩
      have hs1 := hs.below hb1
      cases b with
      | false =>
        obtain rfl := (if_pos rfl).symm.trans HRES.out
        go_wp2
        go_ret2
        exact ⟨_, rfl, [], Ow.nil _ _, fun _ h => by simp at h, rfl, hb1⟩
      | true =>
        have hres := (if_neg (by decide)).symm.trans HRES.out
        obtain ⟨r, hrt⟩ : ∃ r, right (ros s) = r := ⟨_, rfl⟩
        rw [hrt] at hres
        have hv := valid_any B cb s w1 (hs1.more hb1.size) hcs hms
        rw [hrt] at hv
        have HR := Lib.hid hrt; have HB1 := Lib.hid hb1; have HV := Lib.hid hv; have HRES2 := Lib.hid hres
        clear hrt hb1 hv HRES hres
        cases r with
        | false =>
          obtain rfl := (if_pos rfl).symm.trans HRES2.out
          go_wp2_with fail
          refine HV.out.mono ?_
          rintro e w2 ⟨rfl, hb2⟩
          go_wp2
          go_ret2
          exact ⟨_, rfl, [], Ow.nil _ _, fun _ h => by simp at h, rfl, bt HB1.out hb2⟩
        | true =>
          have hres := (if_neg (by decide)).symm.trans HRES2.out
          have e1 : IntKind.i64.wrap (D + 1) = D + 1 := IntWalk.i64_in _ (by omega)
          have HRES := Lib.hid hres
          clear hres HRES2
          go_wp2_with fail
          refine HV.out.mono ?_
          rintro e w2 ⟨rfl, hb2⟩
          have HB2 := Lib.hid (bt HB1.out hb2)
          have hdep := depthOf_any A ca l p w2 ((hr.below HB2.out).more HB2.out.size) hc hm hE1.1 hE1.2
          rw [HDE.out] at hdep
          have HDEP := Lib.hid hdep
          have HS2 := Lib.hid ((hs.below HB2.out).more HB2.out.size)
          clear hb2 hdep hs1
          go_wp2_with fail
          refine HDEP.out.mono ?_
          rintro e w3 ⟨rfl, rfl⟩
          go_wp2_with fail
          have hres := HRES.out
          obtain ⟨x, hx⟩ : ∃ x, exceeds (ros s) (4096 - l.length) (60 - (D + 1)) = x := ⟨_, rfl⟩
          have hxc := exceeds_any B cb s (4096 - l.length) (60 - (D + 1)) w2 HS2.out hcs hms
          rw [hx] at hxc hres
          have hfit : x = false → l.length + s.length ≤ 4096 ∧ Fits (D + 1) (ros s) := fun e => by
            rw [e, exceeds, Bool.or_eq_false_iff, List.any_eq_false] at hx
            have h0 := hx.1
            rw [decide_eq_false_iff_not, len_ros] at h0
            refine ⟨by omega, ?_⟩
            intro z hz
            have h1 := right_ge _ _ HR.out z hz
            have h2 := hx.2 z hz
            rw [decide_eq_true_eq] at h2
            omega
          have HXC := Lib.hid hxc; have HRES3 := Lib.hid hres; have HFIT := Lib.hid hfit
          clear hx hxc hres hfit HRES
          refine HXC.out.mono ?_
          rintro e w3 ⟨rfl, hb3⟩
          have HB3 := Lib.hid (HB2.out.trans (hb3.mono HB2.out.size))
          clear hb3
          cases x with
          | true =>
            obtain rfl := (if_pos rfl).symm.trans HRES3.out
            go_wp2
            go_ret2
            exact ⟨_, rfl, [], Ow.nil _ _, fun _ h => by simp at h, rfl, HB3.out⟩
          | false =>
            have hres := (if_neg (by decide)).symm.trans HRES3.out
            have HRES := Lib.hid hres; have HF := Lib.hid (HFIT.out rfl).2
            have hsum := (HFIT.out rfl).1
            clear hres HRES3 HFIT
            obtain ⟨O, hmk, hown⟩ := made_rows (l.length + s.length) (by omega)
            rw [Int.natCast_add] at hmk
            have HOWN := Lib.hid hown
            have hPc : P ≤ ca := by omega
            have e2 : IntKind.i64.wrap ((l.length : Int) + s.length) = l.length + s.length := IntWalk.i64_in _ (by omega)
            clear hown
            have hB4 : Below w.heap.size w (w3.alloc O).drew := below_dN (HB3.out.trans ((below_new w3 O).mono HB3.out.size)) 1
            have hO4 : Ow w.heap.size (w3.alloc O).drew (.slice (some ⟨w3.heap.size, 0, none⟩) 0 (l.length + s.length)) [] := Ow.mono (HOWN.out w3) HB3.out.size (fun _ h => by simp at h)
            have hM := appendMoved_any w.heap.size (.slice (some ⟨w3.heap.size, 0, none⟩) 0 (l.length + s.length)) [] A ca (l.take P) 0 (w3.alloc O).drew hB4.size hO4 (fun _ h => by simp at h) (by decide) ((hr.take P).below hB4) (by rw [List.length_take]; omega) (by rw [List.length_take]; omega) (by rw [← ros_take]; exact hf.take P) (fun z hz => by
              rw [← ros_take] at hz
              have := hdp z (List.mem_of_mem_take hz)
              omega)
            rw [List.length_take, Nat.min_eq_left hP1] at hM
            have HM := Lib.hid hM; have HB4 := Lib.hid hB4
            clear hM hB4 hO4
            go_upto_region 11 with fail
            go_cut [13] (fun t wx => ∃ l', Ow w.heap.size wx t l' ∧ (∀ x ∈ l', Fr w.heap.size wx x) ∧ ros l' = (ros l).take P ∧ Below w.heap.size w wx)
            case first =>
              go_region_with (go_at_call 48; refine HM.out.mono ?_; rintro e w4 ⟨v1, l1, rfl, ho1, hfr1, hros1, hb1⟩)
              go_wp2_with fail
              go_meet
              exact ⟨l1, ho1, hfr1, by rw [hros1, deeper_zero, ros_take]; rfl, HB4.out.trans hb1⟩
            case rest =>
              obtain ⟨l1, ho1, hfr1, hros1, hb1⟩ := hcut
              have hl1 : l1.length ≤ l.length := by
                have := congrArg List.length hros1
                rw [len_ros, List.length_take, len_ros] at this
                omega
              have HO1 := Lib.hid ho1; have HFR1 := Lib.hid hfr1; have HROS1 := Lib.hid hros1; have HB5 := Lib.hid hb1
              have HS5 := Lib.hid (hs.below hb1)
              have hmv := appendMoved_any w.heap.size u13 l1 B cb s (D + 1) wc hb1.size ho1 hfr1 (by omega) (hs.below hb1) hcs hms hfs HF.out
              have HMV := Lib.hid hmv
              clear ho1 hfr1 hros1 hb1 hmv
              go_wp2_with fail
              refine HMV.out.mono ?_
              rintro e w5 ⟨v2, l2, rfl, ho2, hfr2, hros2, hb2⟩
              have hl2 : l2.length ≤ 1000000 := by
                have := congrArg List.length hros2
                rw [List.length_append, deeper, List.length_map, len_ros, len_ros, len_ros] at this
                omega
              have hfd : Fits 0 (ros (l.drop P)) := fun z hz => by
                rw [← ros_drop] at hz
                have := hdp z (List.mem_of_mem_drop hz)
                omega
              have hb6 := HB5.out.trans hb2
              have hld : (l.drop P).length = l.length - P := List.length_drop
              have HO2 := Lib.hid ho2; have HFR2 := Lib.hid hfr2; have HROS2 := Lib.hid hros2; have HB6 := Lib.hid hb6; have HFD := Lib.hid hfd; have HLD := Lib.hid hld
              have hpd := (hr.rest P ca hP1 hc).below hb6
              clear ho2 hfr2 hros2 hb2 hb6 hfd hld
              by_cases hcE : ca = P
              · rw [if_pos hcE] at hpd
                have HPD := Lib.hid hpd
                clear hpd
                go_wp2_with fail
                rw [← HLD.out]
                refine (appendMoved_any w.heap.size v2 l2 (A) (0) (l.drop P) 0 w5 HB6.out.size HO2.out HFR2.out hl2 HPD.out (by have := HLD.out; omega) (by have := HLD.out; omega) (by rw [← ros_drop]; exact hf.drop P) HFD.out).mono ?_
                rintro e w6 ⟨v3, l3, rfl, ho3, hfr3, hros3, hb3⟩
                obtain rfl := HRES.out
                go_wp2
                go_ret2
                exact ⟨v3, rfl, l3, ho3, hfr3, by rw [hros3, HROS2.out, HROS1.out, deeper_zero, ros_drop, List.append_assoc], HB6.out.trans hb3⟩
              · rw [if_neg hcE] at hpd
                have HPD := Lib.hid hpd
                clear hpd
                go_wp2_with fail
                rw [← HLD.out]
                refine (appendMoved_any w.heap.size v2 l2 (Option.map (fun x => x.add (P * 5)) A) (ca - P) (l.drop P) 0 w5 HB6.out.size HO2.out HFR2.out hl2 HPD.out (by have := HLD.out; omega) (by have := HLD.out; omega) (by rw [← ros_drop]; exact hf.drop P) HFD.out).mono ?_
                rintro e w6 ⟨v3, l3, rfl, ho3, hfr3, hros3, hb3⟩
                obtain rfl := HRES.out
                go_wp2
                go_ret2
                exact ⟨v3, rfl, l3, ho3, hfr3, by rw [hros3, HROS2.out, HROS1.out, deeper_zero, ros_drop, List.append_assoc], HB6.out.trans hb3⟩

end Go.Proofs.Ytblefklfgaohfaa.Ro
