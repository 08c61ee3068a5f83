/-
  Walks of stage 4: nums; Kids and its reference out of range; Take, Drop.
-/
import Derived.Test.YtblefklfgaohfaaRowWalkQ
import Derived.Test.YtblefklfgaohfaaRowWalkM
import Derived.Test.YtblefklfgaohfaaRowWalkH
import Derived.Test.YtblefklfgaohfaaRowWalkP
namespace Go.Proofs.Ytblefklfgaohfaa.Ro
set_option linter.unusedVariables false
set_option linter.unusedSimpArgs false
open Go.RowKit Ba

theorem Rn.at_ {w : World} {N : Nat} {A : Option Addr} {l : List Nat} (h : Rn w N A l) (k : Nat) (hk : k < l.length) :
    ∃ b off x, A = some ⟨b, off, none⟩ ∧ b < N ∧ l.drop k = x :: l.drop (k + 1) ∧ w.cell? ⟨b, off + k, none⟩ = some (.int .i64 (x : Nat)) := by
  obtain ⟨b, off, e, hb, hc⟩ := h (by omega)
  exact ⟨b, off, l[k], e, hb, List.drop_eq_getElem_cons hk, hc k hk⟩

set_option maxRecDepth 100000 in
set_option maxHeartbeats 1000000 in
theorem nums_any (A B : Option Addr) (ca cb : Nat) (xs ys : List Nat) (w : World) (hra : Rn w w.heap.size A xs) (hrb : Rn w w.heap.size B ys) (hca : xs.length ≤ ca) (hcb : ys.length ≤ cb) (hma : ca ≤ maxLen) (hmb : cb ≤ maxLen) :
    Calls Try.prog 23 #[.slice A xs.length ca, .slice B ys.length cb] w fun e w' => e = .returned (.bool (decide (xs = ys))) ∧ ∃ n, w' = w.drewN n := by
  unfold maxLen at hma hmb
  by_cases hlen : xs.length = ys.length
  · obtain ⟨V, hV⟩ : ∃ V, decide (xs = ys) = V := ⟨_, rfl⟩
    rw [hV]
    have hne : ((xs.length : Int) != (ys.length : Int)) = false := by rw [hlen]; simp
    have HV := Lib.hid hV; have HL := Lib.hid hlen
    clear hV hlen
    go_enter Try.func23, Try.ntmps23
    go_wp2
    go_loopw [5] (fun i wr => ∃ k : Nat, i = .int .i64 k ∧ k ≤ xs.length ∧ decide (xs.drop k = ys.drop k) = V ∧ ∃ n, wr = w.drewN n) (fun i _ => xs.length - (intOf i).toNat)
    case atStart => exact ⟨0, rfl, by omega, HV.out, 0, rfl⟩
    case round =>
      clear HV
      obtain ⟨k, rfl, hk, hv, n, rfl⟩ := hrel
      by_cases hp : k < xs.length
      · obtain ⟨b1, o1, x, rfl, _, hdx, hx⟩ := hra.at_ k hp
        have hp2 : k < ys.length := by have := HL.out; omega
        obtain ⟨b2, o2, y, rfl, _, hdy, hy⟩ := hrb.at_ k hp2
        rw [hdx, hdy] at hv
        obtain ⟨v1, v2⟩ := dec_cons hv
        clear hv hdx hdy
        by_cases hxy : x = y
        · subst hxy
          have HV := Lib.hid (v1 rfl)
          have hne2 : ((x : Int) != (x : Int)) = false := by simp
          clear v1 v2
          go_wp2
          go_quiet (fail)
          go_wp2
          go_roundw
          case rel => exact ⟨k + 1, by go_num, by omega, HV.out, _, rfl⟩
          case measure => simp [intOf]; omega
        · obtain rfl := v2 hxy
          have hne2 : ((x : Int) != (y : Int)) = true := by rw [bne_iff_ne]; omega
          clear v1 v2 hxy
          go_wp2
          go_quiet (fail)
          go_wp2
          go_ret
          exact ⟨rfl, _, World.drewN_drewN _ _ _⟩
      · rw [List.drop_eq_nil_of_le (by omega), List.drop_eq_nil_of_le (by have := HL.out; omega)] at hv
        have HV := Lib.hid hv
        clear hv
        go_wp2
        go_ret
        exact ⟨ret_bool (by rw [← HV.out]; rfl), _, rfl⟩
  · have e : decide (xs = ys) = false := decide_eq_false fun e => hlen (by rw [e])
    rw [e]
    have hne : ((xs.length : Int) != (ys.length : Int)) = true := by rw [bne_iff_ne]; omega
    clear e hlen
    go_enter Try.func23, Try.ntmps23
    go_wp2
    go_ret
    exact ⟨rfl, 0, rfl⟩

theorem KidsOut_any (A : Option Addr) (n c : Nat) (i : Int) (w : World) (hc : n ≤ c) (hm : n ≤ 1000000) (h : ¬ (-1 ≤ i ∧ i < n)) :
    Calls Try.prog 24 #[.slice A n c, .int .i64 i] w fun e w' => e = .returned (.slice none 0 0) ∧ w = w' := by
  have h1 : (i == -1) = false := beq_eq_false_iff_ne.2 (by omega)
  have h2 : (i != -1) = true := by rw [bne_iff_ne]; omega
  have h3 : ¬ (0 ≤ i ∧ i < n) := by omega
  clear h
  go_enter Try.func24, Try.ntmps24
  go_wp2_with fail
  refine (hasNo_any A n c i w hc h3).mono ?_
  rintro e w1 ⟨rfl, rfl⟩
  go_wp2
  go_ret
  exact ⟨rfl, rfl⟩
theorem refKidsOut_any (A : Option Addr) (n c : Nat) (i : Int) (w : World) (hc : n ≤ c) (hm : n ≤ 1000000) (h : ¬ (-1 ≤ i ∧ i < n)) :
    Calls Try.prog 25 #[.slice A n c, .int .i64 i] w fun e w' => e = .returned (.slice (some ⟨w.heap.size, 0, none⟩) 0 0) ∧ w' = w.alloc (.cells #[] 3) := by
  by_cases h1 : i < -1
  · clear h
    go_enter Try.func25, Try.ntmps25
    go_wp2
    go_ret
    exact ⟨rfl, rfl⟩
  · have h1' : decide (i < -1) = false := decide_eq_false h1
    have h2 : (n : Int) ≤ i := by omega
    clear h
    go_enter Try.func25, Try.ntmps25
    go_wp2
    go_ret
    exact ⟨rfl, rfl⟩

/-- The tree of row i, as a root. -/
def takeAt (l : List Ro) (i : Int) : List Ro := deeper (-(dep l i)) ((l.take (endOf l i)).drop i.toNat)
def dropAt (l : List Ro) (i : Int) : List Ro := l.take i.toNat ++ l.drop (endOf l i)

theorem TakeNo_any (A : Option Addr) (n c : Nat) (i : Int) (w : World) (hc : n ≤ c) (h : ¬ (0 ≤ i ∧ i < n)) :
    Calls Try.prog 30 #[.slice A n c, .int .i64 i] w fun e w' => e = .returned (.tuple #[.slice none 0 0, .int .i64 41]) ∧ w = w' := by
  go_enter Try.func30, Try.ntmps30
  go_wp2_with fail
  refine (hasNo_any A n c i w hc h).mono ?_
  rintro e w1 ⟨rfl, rfl⟩
  go_wp2
  go_ret2
  exact ⟨rfl, rfl⟩
theorem DropNo_any (A : Option Addr) (n c : Nat) (i : Int) (w : World) (hc : n ≤ c) (h : ¬ (0 ≤ i ∧ i < n)) :
    Calls Try.prog 31 #[.slice A n c, .int .i64 i] w fun e w' => e = .returned (.tuple #[.slice none 0 0, .int .i64 41]) ∧ w = w' := by
  go_enter Try.func31, Try.ntmps31
  go_wp2_with fail
  refine (hasNo_any A n c i w hc h).mono ?_
  rintro e w1 ⟨rfl, rfl⟩
  go_wp2
  go_ret2
  exact ⟨rfl, rfl⟩

set_option maxRecDepth 100000 in
set_option maxHeartbeats 2000000 in
theorem Take_any (A : Option Addr) (c : Nat) (l : List Cw) (j : Nat) (w : World) (hr : Rr w w.heap.size A l) (hc : l.length ≤ c) (hm : l.length ≤ 1000000) (hj : j < l.length) (hf : Few (ros l)) (hdp : Deep (ros l)) :
    Calls Try.prog 30 #[.slice A l.length c, .int .i64 j] w fun e w' => ∃ v l', e = .returned (.tuple #[v, .int .i64 0]) ∧ Ow w.heap.size w' v l' ∧ (∀ x ∈ l', Fr w.heap.size w' x) ∧ ros l' = takeAt (ros l) j ∧ Below w.heap.size w w' := by
  obtain ⟨b0, off0, y, rfl, _, hdy, hy, _, hym⟩ := hr.at_ j hj
  obtain ⟨d, hd⟩ : ∃ d, dep (ros l) j = d := ⟨_, rfl⟩
  have e : dep (ros l) j = y.ro.depth := dep_at (by rw [ros, List.getElem?_map, getElem_of_drop hdy]; rfl)
  obtain ⟨q1, q2⟩ := hdp.at_ hym
  rw [← e, hd] at q1 q2
  have hgy := (range5 hy).1
  rw [← e, hd] at hgy
  obtain ⟨E, hE⟩ : ∃ E, endOf (ros l) j = E := ⟨_, rfl⟩
  have hE1 := endOf_le (ros l) j (by rw [len_ros]; omega)
  rw [len_ros, hE] at hE1
  have hE2 := endOf_ge (ros l) j
  rw [hE] at hE2
  have hE3 : j ≤ E := by omega
  have hend : Calls Try.prog 43 #[.slice (some ⟨b0, off0, none⟩) l.length c, .int .i64 j] w.drew fun e w'' => e = .returned (.int .i64 E) ∧ w'' = w.drew := by
    have := endOf_any _ c l j w.drew (by exact hr) hc hm (by omega) (by omega)
    rw [hE] at this
    exact this.mono fun e w' h => ⟨h.1, h.2.symm⟩
  have hneg : IntKind.i64.wrap (-d) = -d := IntWalk.i64_in _ (by omega)
  have HEND := Lib.hid hend
  have hcj : ¬ c = j := by omega
  have hEc : E ≤ c := by omega
  have hpart := hr.mids j E c hE3 hE1 hc (by omega)
  have hlen := len_part l j E hE1
  have hpr := ros_part l j E
  have hV : takeAt (ros l) j = deeper (-d) (ros ((l.take E).drop j)) := by rw [takeAt, hd, hE, hpr]; rfl
  rw [hV]
  obtain ⟨m, hm1⟩ : ∃ m, (l.take E).drop j = m := ⟨_, rfl⟩
  rw [hm1] at hpart hlen hpr ⊢
  have hfm : Few (ros m) := by rw [hpr]; exact (hf.take E).drop j
  have hdm : Fits (-d) (ros m) := fun z hz => by
    rw [hpr] at hz
    have := hdp z (List.mem_of_mem_take (List.mem_of_mem_drop hz))
    omega
  have HP := Lib.hid hpart; have HL := Lib.hid hlen; have HFM := Lib.hid hfm; have HDM := Lib.hid hdm
  clear hend hd hE hdy hy e hE2 hpart hlen hpr hV hm1 hfm hdm
  go_enter Try.func30, Try.ntmps30
  go_wp2_with fail
  refine (hasYes_any _ _ c j w hc (by omega) (by omega)).mono ?_
  rintro e w1 ⟨rfl, rfl⟩
  go_wp2
  go_still_tail 12, (by kernel_rfl)
  still_call HEND.out
  repeat still_step
  refine wpStill_nil ?_
  change wpList _ _ _ _ _ w.drew
  go_wp2_with fail
  rw [← HL.out]
  refine (appendMoved_any w.heap.size (.slice none 0 0) [] (some ⟨b0, off0 + j * 5, none⟩) (c - j) m (-d) w.drew (Nat.le_refl _) (Ow.nil _ _) (fun _ h => by simp at h) (by decide) HP.out (by have := HL.out; omega) (by have := HL.out; omega) HFM.out HDM.out).mono ?_
  rintro e w1 ⟨v, l', rfl, ho, hfr, hros, hb⟩
  go_wp2
  go_ret2
  exact ⟨v, l', rfl, ho, hfr, by rw [hros]; rfl, (below_dN (Below.refl _ w) 1).trans hb⟩

set_option maxRecDepth 100000 in
set_option maxHeartbeats 2000000 in
theorem Drop_any (A : Option Addr) (c : Nat) (l : List Cw) (j : Nat) (w : World) (hr : Rr w w.heap.size A l) (hc : l.length ≤ c) (hm : l.length ≤ 1000000) (hj : j < l.length) (hf : Few (ros l)) (hdp : Deep (ros l)) :
    Calls Try.prog 31 #[.slice A l.length c, .int .i64 j] w fun e w' => ∃ v l', e = .returned (.tuple #[v, .int .i64 0]) ∧ Ow w.heap.size w' v l' ∧ (∀ x ∈ l', Fr w.heap.size w' x) ∧ ros l' = dropAt (ros l) j ∧ Below w.heap.size w w' := by
  obtain ⟨E, hE⟩ : ∃ E, endOf (ros l) j = E := ⟨_, rfl⟩
  have hE1 := endOf_le (ros l) j (by rw [len_ros]; omega)
  rw [len_ros, hE] at hE1
  have hEc : E ≤ c := by omega
  obtain ⟨b0, off0, y, rfl, hbl, _, _, _, _⟩ := hr.at_ j hj
  have hp1 := hr.mids 0 j c (by omega) (by omega) hc (by omega)
  rw [Nat.zero_mul, Nat.add_zero] at hp1
  have hp2 := hr.part E l.length c hE1 (by omega) hc
  have hV : dropAt (ros l) j = deeper 0 (ros ((l.take j).drop 0)) ++ deeper 0 (ros ((l.take l.length).drop E)) := by
    rw [dropAt, hE, deeper_zero, deeper_zero, List.take_length, ros_take, ros_drop]; rfl
  rw [hV]
  have hl1 := len_part l 0 j (by omega)
  have hl2 := len_part l E l.length (by omega)
  have hf1 : Few (ros ((l.take j).drop 0)) := by rw [ros_part]; exact (hf.take _).drop _
  have hf2 : Few (ros ((l.take l.length).drop E)) := by rw [ros_part]; exact (hf.take _).drop _
  have hd1 : Fits 0 (ros ((l.take j).drop 0)) := fun z hz => by
    rw [ros_part] at hz
    have := hdp z (List.mem_of_mem_take (List.mem_of_mem_drop hz))
    omega
  have hd2 : Fits 0 (ros ((l.take l.length).drop E)) := fun z hz => by
    rw [ros_part] at hz
    have := hdp z (List.mem_of_mem_take (List.mem_of_mem_drop hz))
    omega
  obtain ⟨m1, hm1⟩ : ∃ m, (l.take j).drop 0 = m := ⟨_, rfl⟩
  obtain ⟨m2, hm2⟩ : ∃ m, (l.take l.length).drop E = m := ⟨_, rfl⟩
  rw [hm1, Nat.sub_zero] at hl1
  rw [hm1] at hp1 hf1 hd1 ⊢
  rw [hm2] at hp2 hl2 hf2 hd2 ⊢
  have hHE := hE
  have HP1 := Lib.hid hp1; have HL1 := Lib.hid hl1; have HF1 := Lib.hid hf1; have HD1 := Lib.hid hd1; have HP2 := Lib.hid hp2; have HL2 := Lib.hid hl2; have HF2 := Lib.hid hf2; have HD2 := Lib.hid hd2; have HE := Lib.hid hHE
  clear hHE hE hp1 hl1 hf1 hd1 hp2 hl2 hf2 hd2 hV hm1 hm2 hdp hf
  go_enter Try.func31, Try.ntmps31
  go_wp2_with fail
  refine (hasYes_any _ _ c j w hc (by omega) (by omega)).mono ?_
  rintro e w1 ⟨rfl, rfl⟩
  go_wp2_with fail
  rw [show Value.slice (some ⟨b0, off0, none⟩) j c = Value.slice (some ⟨b0, off0, none⟩) m1.length c by rw [HL1.out]]
  refine (appendMoved_any w.heap.size (.slice none 0 0) [] (some ⟨b0, off0, none⟩) c m1 0 w (Nat.le_refl _) (Ow.nil _ _) (fun _ h => by simp at h) (by decide) HP1.out (by have := HL1.out; omega) (by have := HL1.out; omega) HF1.out HD1.out).mono ?_
  rintro e w1 ⟨v1, l1, rfl, ho1, hfr1, hros1, hb1⟩
  have hl1 : l1.length ≤ 1000000 := by
    have := congrArg List.length hros1
    simp only [List.length_append, deeper, List.length_map, len_ros, List.length_nil] at this
    rw [HL1.out] at this
    omega
  have HP3 := Lib.hid (HP2.out.below hb1)
  have hend := endOf_any (some ⟨b0, off0, none⟩) c l j w1 ((hr.below hb1).more hb1.size) hc hm (by omega) (by omega)
  rw [HE.out] at hend
  have HO1 := Lib.hid ho1; have HFR1 := Lib.hid hfr1; have HR1 := Lib.hid hros1; have HEND := Lib.hid hend; have HB1 := Lib.hid hb1
  have hwz : w.heap.size ≤ w1.heap.size := hb1.size
  clear ho1 hfr1 hros1 hend hb1 HP2
  go_wp2_with fail
  refine HEND.out.mono ?_
  rintro e w2 ⟨rfl, rfl⟩
  by_cases hcE : c = E
  · have HP := HP3.out
    rw [if_pos hcE] at HP
    go_wp2_with fail
    rw [← HL2.out]
    refine (appendMoved_any w.heap.size v1 l1 (some ⟨b0, off0, none⟩) (0) m2 0 w1 hwz HO1.out HFR1.out hl1 HP (by have := HL2.out; omega) (by have := HL2.out; omega) HF2.out HD2.out).mono ?_
    rintro e w2 ⟨v2, l2, rfl, ho2, hfr2, hros2, hb2⟩
    go_wp2
    go_ret2
    exact ⟨v2, l2, rfl, ho2, hfr2, by rw [hros2, HR1.out]; rfl, HB1.out.trans hb2⟩
  · have HP := HP3.out
    rw [if_neg hcE, Option.map_some, WideShapes.add_plain] at HP
    go_wp2_with fail
    rw [← HL2.out]
    refine (appendMoved_any w.heap.size v1 l1 (some ⟨b0, off0 + E * 5, none⟩) (c - E) m2 0 w1 hwz HO1.out HFR1.out hl1 HP (by have := HL2.out; omega) (by have := HL2.out; omega) HF2.out HD2.out).mono ?_
    rintro e w2 ⟨v2, l2, rfl, ho2, hfr2, hros2, hb2⟩
    go_wp2
    go_ret2
    exact ⟨v2, l2, rfl, ho2, hfr2, by rw [hros2, HR1.out]; rfl, HB1.out.trans hb2⟩

end Go.Proofs.Ytblefklfgaohfaa.Ro
