/-
  The laws of stage 4, walked: Texts.
-/
import Derived.Test.YtblefklfgaohfaaRowTexts
namespace Go.Proofs.Ytblefklfgaohfaa.Ro
set_option linter.unusedVariables false
set_option linter.unusedSimpArgs false
open Go.RowKit Ba

/-- A row's cells, one by one. -/
theorem Rr.five {w : World} {N : Nat} {A : Option Addr} {l : List Cw} (h : Rr w N A l) (k : Nat) (hk : k < l.length) :
    ∃ b off, A = some ⟨b, off, none⟩ ∧ b < N ∧ w.cell? ⟨b, off + k * 5, none⟩ = some (.int .i64 l[k].ro.depth) ∧ w.cell? ⟨b, off + k * 5 + 1, none⟩ = some (.int .i64 l[k].ro.kind) ∧ w.cell? ⟨b, off + k * 5 + 2, none⟩ = some (.string l[k].ro.name) ∧ w.cell? ⟨b, off + k * 5 + 3, none⟩ = some (.string l[k].ro.data) := by
  obtain ⟨b, off, e, hb, hc⟩ := h.1 (by omega)
  exact ⟨b, off, e, hb, hc k hk 0 _ rfl, hc k hk 1 _ rfl, hc k hk 2 _ rfl, hc k hk 3 _ rfl⟩
theorem eqint {a b : Int} (h : a = b) : (a == b) = true := beq_iff_eq.2 h
theorem neint {a b : Int} (h : ¬ a = b) : (a == b) = false := beq_eq_false_iff_ne.2 h

theorem nrm_z {z : List Cw} (h : Nrm (ros z)) (k : Nat) (hk : k < z.length) (h1 : z[k].ro.kind = 1) : z[k].ro.data.toList ≠ [] ∧ ∀ (h2 : k + 1 < z.length), z[k + 1].ro.kind = 1 → z[k + 1].ro.depth ≠ z[k].ro.depth := by
  have := nrm_at h k (by rw [len_ros]; exact hk)
  rw [ros_at z k hk] at this
  refine ⟨(this h1).1, fun h2 h3 => ?_⟩
  have h4 := (this h1).2 (by rw [len_ros]; exact h2)
  rw [ros_at z (k + 1) h2] at h4
  exact h4 h3

set_option maxRecDepth 100000 in
set_option maxHeartbeats 4000000 in
theorem law_texts (v : Value) (l : List Cw) (w : World) (hv : Rv w v l) (ht : (txt (ros l)).length ≤ 1000000000) :
    Calls Try.prog 9 #[v] w fun e w' => e = .returned (.bool true) ∧ Below w.heap.size w w' := by
  go_enter Try.func9, Try.ntmps9
  go_wp2_with fail
  refine (bound1 v l w hv).mono ?_
  rintro e w1 ⟨v1, x, rfl, _, hv1, hx, h60, hf, hh, hb1⟩
  have htx : (txt (ros x)).length ≤ 1000000000 := by rw [hx]; exact Nat.le_trans (txt_bounded _) ht
  have HV1 := Lib.hid hv1
  clear hx hv ht hv1
  obtain ⟨C, hC⟩ : ∃ C, check (ros x) = C := ⟨_, rfl⟩
  have HC := Lib.hid hC
  clear hC
  go_wp2_with fail
  refine (check1 v1 x w1 C HV1.out (by omega) HC.out).mono ?_
  rintro e w2 ⟨rfl, hb2⟩
  have HV2 := Lib.hid (HV1.out.below hb2)
  have HB2 := Lib.hid (bt hb1 hb2)
  clear hb1 hb2 HV1
  by_cases hc0 : C = 0
  · subst hc0
    obtain ⟨q, hq⟩ : ∃ q, normal (ros x) = q := ⟨_, rfl⟩
    have hqh : Held q := by rw [← hq]; exact held_normal hh
    have hql : q.length ≤ x.length := by rw [← hq]; have := len_normal (ros x); rwa [len_ros] at this
    have hr := (check_parts HC.out).2
    have hqc : check q = 0 := by rw [← hq]; exact check_normal HC.out
    have hqr : rightFrom 0 q = true := (check_parts hqc).2
    have hqn : Nrm q := by rw [← hq]; exact nrm_normal _ _ 0 (Nat.le_refl _) hr
    have hqt : txt q = txt (ros x) := by rw [← hq]; exact txt_normal _ _ (Nat.le_refl _)
    have hqq : normal q = q := normal_nrm q 0 hqr hqn
    have hqf : Few q := by
      intro y hy
      rw [← hq] at hy
      exact few_normal hf hy
    have HQ := Lib.hid hq; have HQN := Lib.hid hqn; have HQT := Lib.hid hqt; have HQQ := Lib.hid hqq; have HQC := Lib.hid hqc
    clear hq hr hqr hqn hqt hqq hqc
    go_wp2_with fail
    refine (normal1 v1 x w2 q HV2.out (by omega) hf htx HQ.out hqh).mono ?_
    rintro e w3 ⟨v3, z, rfl, _, _, hz, hv3, hb3⟩
    have hzl : z.length ≤ x.length := by rw [← len_ros, hz]; exact hql
    have HZ := Lib.hid hz
    have HV3 := Lib.hid (HV2.out.below hb3)
    have HW3 := Lib.hid hv3
    have HB3 := Lib.hid (bt HB2.out hb3)
    clear hb3 HV2 HB2 hz hv3
    go_wp2_with fail
    refine (check1 v3 z w3 0 HW3.out (by omega) (by rw [HZ.out]; exact HQC.out)).mono ?_
    rintro e w4 ⟨rfl, hb4⟩
    have HV4 := Lib.hid (HV3.out.below hb4)
    have HW4 := Lib.hid (HW3.out.below hb4)
    have HB4 := Lib.hid (bt HB3.out hb4)
    clear hb4 HV3 HB3 HW3
    obtain ⟨T, hT⟩ : ∃ T, B (textAt (ros x) (-1)) = T := ⟨_, rfl⟩
    have hT2 : B (textAt (ros z) (-1)) = T := by rw [← hT, textAt, textAt, if_pos rfl, if_pos rfl, HZ.out, HQT.out]
    have hTz : (txt (ros z)).length ≤ 1000000000 := by rw [HZ.out, HQT.out]; exact htx
    have HT := Lib.hid hT; have HT2 := Lib.hid hT2
    clear hT hT2
    go_wp2_with fail
    refine (text1 v3 z (-1) w4 T HW4.out (by omega) hTz HT2.out).mono ?_
    rintro e w5 ⟨rfl, hb5⟩
    have HV5 := Lib.hid (HV4.out.below hb5)
    have HW5 := Lib.hid (HW4.out.below hb5)
    have HB5 := Lib.hid (bt HB4.out hb5)
    clear hb5 HV4 HB4 HW4
    go_wp2_with fail
    refine (text1 v1 x (-1) w5 T HV5.out (by omega) htx HT.out).mono ?_
    rintro e w6 ⟨rfl, hb6⟩
    have HV6 := Lib.hid (HV5.out.below hb6)
    have HW6 := Lib.hid (HW5.out.below hb6)
    have HB6 := Lib.hid (bt HB5.out hb6)
    clear hb6 HV5 HB5 HW5
    go_wp2_with fail
    refine (normal1 v3 z w6 q HW6.out (by omega) (by rw [HZ.out]; exact hqf) hTz (by rw [HZ.out]; exact HQQ.out) hqh).mono ?_
    rintro e w7 ⟨v7, z7, rfl, _, _, hz7, hv7, hb7⟩
    have hz7l : z7.length ≤ x.length := by rw [← len_ros, hz7]; exact hql
    have hE7 : decide (ros z7 = ros z) = true := decide_eq_true (hz7.trans HZ.out.symm)
    have HE7 := Lib.hid hE7
    have HV7 := Lib.hid (HV6.out.below hb7)
    have HW7 := Lib.hid (HW6.out.below hb7)
    have HX7 := Lib.hid hv7
    have HB7 := Lib.hid (bt HB6.out hb7)
    clear hb7 HV6 HB6 HW6 hz7 hv7 hE7
    go_wp2_with fail
    refine (same1 v7 v3 z7 z w7 true HX7.out HW7.out (by omega) (by omega) HE7.out).mono ?_
    rintro e w8 ⟨rfl, hb8⟩
    have HW8 := Lib.hid (HW7.out.below hb8)
    have HB8 := Lib.hid (bt HB7.out hb8)
    obtain ⟨A1, c1, hv1, _⟩ := HV7.out
    subst hv1
    obtain ⟨A3, c3, hv3, _, _, hr3, _⟩ := HW8.out
    subst hv3
    have HR3 := Lib.hid hr3
    have HR7 := Lib.hid HV7.out
    have hgt : decide (x.length < z.length) = false := decide_eq_false (by omega)
    clear hb8 HB7 HW7 HX7 HV7 HE7 hr3
    go_wp2
    go_loopw [4] (fun i wr => ∃ k : Nat, i = .int .i64 k ∧ k ≤ z.length ∧ Below w8.heap.size w8 wr) (fun i _ => z.length - (intOf i).toNat)
    case atStart => exact ⟨0, rfl, Nat.zero_le _, Below.refl _ _⟩
    case round =>
      obtain ⟨w9, hw9⟩ : ∃ x, x = wr := ⟨_, rfl⟩
      subst hw9
      obtain ⟨k, rfl, hks, hbel⟩ := hrel
      have HBL := Lib.hid hbel
      clear hbel
      by_cases hp : k < z.length
      · obtain ⟨b, off, rfl, hb9, c0, ck, _, cd⟩ := (HR3.out.below HBL.out).five k hp
        have hn := nrm_z (by rw [HZ.out]; exact HQN.out) k hp
        have hn1 : ∀ j (e : k = j + 1), z[j].ro.kind = 1 → z[k].ro.kind = 1 → z[k].ro.depth ≠ z[j].ro.depth := fun j e h1 h2 => by
          subst e
          exact (nrm_z (by rw [HZ.out]; exact HQN.out) j (by omega) h1).2 hp h2
        by_cases e1 : z[k].ro.kind = 1
        · obtain ⟨hd, _⟩ := hn e1
          have hi0 : (0 : Int) ≤ (k : Int) := by omega
          have hi1 : (k : Int) < (z.length : Int) := by omega
          have f1 := eqint e1
          have hd2 : (z[k].ro.data.toList == []) = false := by
            cases he : z[k].ro.data.toList with
            | nil => exact absurd he hd
            | cons a r => rfl
          have hd3 : z[k].ro.data.toList.isEmpty = false := by
            cases he : z[k].ro.data.toList with
            | nil => exact absurd he hd
            | cons a r => rfl
          cases k with
          | zero =>
            clear hn hn1 c0 e1
            generalize z[0].ro.kind = K at *
            generalize z[0].ro.data = S at *
            have hgt0 : decide ((0 : Int) < ((0 : Nat) : Int)) = false := by decide
            go_wp2
            go_quiet (fail)
            go_wp2
            go_roundw
            case rel => exact ⟨1, by go_num, by omega, below_dN HBL.out _⟩
            case measure => simp [intOf]; omega
          | succ j =>
            obtain ⟨b', off', he, _, c0', ck', _, _⟩ := (HR3.out.below HBL.out).five j (by omega)
            injection he with he
            injection he with he1 he2
            subst he1 he2
            have hne := hn1 j rfl
            have hj0 : (0 : Int) ≤ (j : Int) := by omega
            have hj1 : (j : Int) < (z.length : Int) := by omega
            have hj2 : (j : Int) + 1 < (z.length : Int) := by omega
            have hgt0 : decide ((0 : Int) < ((j + 1 : Nat) : Int)) = true := decide_eq_true (by omega)
            by_cases e2 : z[j].ro.kind = 1
            · have f2 := eqint e2
              have f3 := neint fun e => hne e2 e1 e.symm
              clear hn hn1 hne e1 e2
              generalize z[j + 1].ro.kind = K at *
              generalize z[j + 1].ro.data = S at *
              generalize z[j + 1].ro.depth = D at *
              generalize z[j].ro.kind = K' at *
              generalize z[j].ro.depth = D' at *
              go_wp2
              go_quiet (fail)
              go_wp2
              go_roundw
              case rel => exact ⟨j + 2, by go_num, by omega, below_dN HBL.out _⟩
              case measure => simp [intOf]; omega
            · have f2 := neint e2
              clear hn hn1 hne e1 e2 c0 c0'
              generalize z[j + 1].ro.kind = K at *
              generalize z[j + 1].ro.data = S at *
              generalize z[j].ro.kind = K' at *
              go_wp2
              go_quiet (fail)
              go_wp2
              go_roundw
              case rel => exact ⟨j + 2, by go_num, by omega, below_dN HBL.out _⟩
              case measure => simp [intOf]; omega
        · have hi0 : (0 : Int) ≤ (k : Int) := by omega
          have hi1 : (k : Int) < (z.length : Int) := by omega
          have f1 := neint e1
          clear hn hn1 c0 cd e1
          generalize z[k].ro.kind = K at *
          go_wp2
          go_quiet (fail)
          go_wp2
          go_roundw
          case rel => exact ⟨k + 1, by go_num, by omega, below_dN HBL.out _⟩
          case measure => simp [intOf]; omega
      · go_wp2_with fail
        refine (fixed_any w9).mono ?_
        rintro e w10 ⟨rfl, hb10⟩
        go_wp2
        go_ret
        exact ⟨rfl, bt HB8.out (bt HBL.out hb10)⟩
  · have n1 : (C != 0) = true := by simpa using hc0
    have n2 : (C == 0) = false := by simpa using hc0
    go_wp2_with fail
    refine (fixed_any w2).mono ?_
    rintro e w3 ⟨rfl, hb3⟩
    go_wp2
    go_ret
    exact ⟨rfl, bt HB2.out hb3⟩

end Go.Proofs.Ytblefklfgaohfaa.Ro
