/-
  Walks of stage 15: header.Allows; boltingref15.Allows, Same.
-/
import Derived.Test.YthgpjhblbpiagaaHeadWalkE
import Derived.Test.YthgpjhblbpiagaaRefEqual
namespace Go.Proofs.Ythgpjhblbpiagaa.He
set_option maxRecDepth 100000
set_option linter.unusedSimpArgs false
set_option linter.unusedVariables false
open Go.RowKit Ba Fm Fo Go.Maps

theorem has1 (A : Option Addr) (c N : Nat) (l : List ByteArray) (s : ByteArray) (w : World) (hr : Rd w N A l) (hl : l.length ≤ 8796093022208) (q : Bool) (hq : isIn s l = q) :
    Calls Try.prog 22 #[.slice A l.length c, .string s] w fun e w' => e = .returned (.bool q) ∧ w = w' := by
  have := has_any A c N l s w hr hl
  rw [hq] at this
  exact this

set_option maxHeartbeats 8000000 in
theorem allows_any (v : Value) (g : Gd) (n : ByteArray) (had : Int) (w : World) (N : Nat) (h : Gv w N v g) (hN : N ≤ w.heap.size) (hn : n.size ≤ 140737488355328) (hl : g.names.length ≤ 8796093022208) :
    Calls Try.prog 17 #[v, .string n, .int .i64 had] w fun e w' => e = .returned (.bool (allowB g n had)) ∧ Below w.heap.size w w' := by
  obtain ⟨A, c, rfl, hlc, _, hrd⟩ := h
  obtain ⟨on, rep, names, any, twice⟩ := g
  unfold gV
  simp only at hlc hrd hl ⊢
  obtain ⟨W, hW⟩ : ∃ W, w.alloc (.cells #[.bool on, .bool rep, .slice A names.length c, .bool any, .bool twice] 26) = W := ⟨_, rfl⟩
  have hbW : Below w.heap.size w W := by rw [← hW]; exact (Below.refl _ _).alloc (Nat.le_refl _) _
  have hbx : Hb W w.heap.size #[.bool on, .bool rep, .slice A names.length c, .bool any, .bool twice] := by rw [← hW]; exact Hb.new _ _
  have hrW : Rd W N A names := by rw [← hW]; exact hrd.alloc hN _
  have hv : allowB ⟨on, rep, names, any, twice⟩ n had = (mayB n && (any || isIn n names) && (decide (had ≤ 0) || twice)) := rfl
  obtain ⟨q, hq⟩ : ∃ q, mayB n = q := ⟨_, rfl⟩
  obtain ⟨q2, hq2⟩ : ∃ q, isIn n names = q := ⟨_, rfl⟩
  have HV := Lib.hid hv; have HQ := Lib.hid hq; have HQ2 := Lib.hid hq2; have HR := Lib.hid hrW; have HB := Lib.hid hbW; have HW := Lib.hid hW
  clear hv hq hq2 hrW hbW hW hrd
  cases q with
  | false =>
    clear hbx
    go_enter Try.func17, Try.ntmps17
    go_upto_region 1 with (fail)
    rw [HW.out]
    go_wp2_with fail
    refine (valid1 n W hn false HQ.out).mono ?_
    rintro e w1 ⟨rfl, rfl⟩
    go_wp2
    go_ret
    exact ⟨ret_bool (by rw [HV.out, HQ.out]; rfl), HB.out⟩
  | true =>
    cases any with
    | true =>
      cases twice <;> by_cases h0 : had ≤ 0
      all_goals
        have H0 := Lib.hid h0
        have k3 := hbx.cell 3 _ rfl; have k4 := hbx.cell 4 _ rfl
        go_enter Try.func17, Try.ntmps17
        go_upto_region 1 with (fail)
        rw [HW.out]
        go_wp2_with fail
        refine (valid1 n W hn true HQ.out).mono ?_
        rintro e w1 ⟨rfl, rfl⟩
        go_wp2
        go_ret
        exact ⟨ret_bool (by rw [HV.out, HQ.out]; simp [H0.out]), HB.out⟩
    | false =>
      cases q2 with
      | false =>
        have k3 := hbx.cell 3 _ rfl; have k2 := hbx.cell 2 _ rfl
        go_enter Try.func17, Try.ntmps17
        go_upto_region 1 with (fail)
        rw [HW.out]
        go_wp2_with fail
        refine (valid1 n W hn true HQ.out).mono ?_
        rintro e w1 ⟨rfl, rfl⟩
        go_wp2_with fail
        refine (isIn1 A c N names n W HR.out hl false HQ2.out).mono ?_
        rintro e w1 ⟨rfl, rfl⟩
        go_wp2
        go_ret
        exact ⟨ret_bool (by rw [HV.out, HQ.out, HQ2.out]; rfl), HB.out⟩
      | true =>
        cases twice <;> by_cases h0 : had ≤ 0
        all_goals
          have H0 := Lib.hid h0
          have k3 := hbx.cell 3 _ rfl; have k4 := hbx.cell 4 _ rfl; have k2 := hbx.cell 2 _ rfl
          go_enter Try.func17, Try.ntmps17
          go_upto_region 1 with (fail)
          rw [HW.out]
          go_wp2_with fail
          refine (valid1 n W hn true HQ.out).mono ?_
          rintro e w1 ⟨rfl, rfl⟩
          go_wp2_with fail
          refine (isIn1 A c N names n W HR.out hl true HQ2.out).mono ?_
          rintro e w1 ⟨rfl, rfl⟩
          go_wp2
          go_ret
          exact ⟨ret_bool (by rw [HV.out, HQ.out, HQ2.out]; simp [H0.out]), HB.out⟩

set_option maxHeartbeats 8000000 in
theorem refAllows_any (v : Value) (g : Gd) (n : ByteArray) (had : Int) (w : World) (N : Nat) (h : Gv w N v g) (hN : N ≤ w.heap.size) (hn : n.size ≤ 140737488355328) (hl : g.names.length ≤ 8796093022208) :
    Calls Try.prog 18 #[v, .string n, .int .i64 had] w fun e w' => e = .returned (.bool (allowB g n had)) ∧ Below w.heap.size w w' := by
  obtain ⟨A, c, rfl, hlc, _, hrd⟩ := h
  obtain ⟨on, rep, names, any, twice⟩ := g
  unfold gV
  simp only at hlc hrd hl ⊢
  obtain ⟨W, hW⟩ : ∃ W, w.alloc (.cells #[.bool on, .bool rep, .slice A names.length c, .bool any, .bool twice] 26) = W := ⟨_, rfl⟩
  have hbW : Below w.heap.size w W := by rw [← hW]; exact (Below.refl _ _).alloc (Nat.le_refl _) _
  have hbx : Hb W w.heap.size #[.bool on, .bool rep, .slice A names.length c, .bool any, .bool twice] := by rw [← hW]; exact Hb.new _ _
  have hrW : Rd W N A names := by rw [← hW]; exact hrd.alloc hN _
  have hv : allowB ⟨on, rep, names, any, twice⟩ n had = (mayB n && (any || isIn n names) && (decide (had ≤ 0) || twice)) := rfl
  obtain ⟨q, hq⟩ : ∃ q, mayB n = q := ⟨_, rfl⟩
  obtain ⟨q2, hq2⟩ : ∃ q, isIn n names = q := ⟨_, rfl⟩
  have HV := Lib.hid hv; have HQ := Lib.hid hq; have HQ2 := Lib.hid hq2; have HR := Lib.hid hrW; have HB := Lib.hid hbW; have HW := Lib.hid hW
  clear hv hq hq2 hrW hbW hW hrd
  cases q with
  | false =>
    clear hbx
    go_enter Try.func18, Try.ntmps18
    go_upto_region 1 with (fail)
    rw [HW.out]
    go_wp2_with fail
    refine (may1 n W hn false HQ.out).mono ?_
    rintro e w1 ⟨rfl, rfl⟩
    go_wp2
    go_ret
    exact ⟨ret_bool (by rw [HV.out, HQ.out]; rfl), HB.out⟩
  | true =>
    cases any with
    | true =>
      cases twice <;> by_cases h0 : had ≤ 0
      all_goals
        have H0 := Lib.hid h0
        have k3 := hbx.cell 3 _ rfl; have k4 := hbx.cell 4 _ rfl
        go_enter Try.func18, Try.ntmps18
        go_upto_region 1 with (fail)
        rw [HW.out]
        go_wp2_with fail
        refine (may1 n W hn true HQ.out).mono ?_
        rintro e w1 ⟨rfl, rfl⟩
        go_wp2
        go_ret
        exact ⟨ret_bool (by rw [HV.out, HQ.out]; simp [H0.out]), HB.out⟩
    | false =>
      cases q2 with
      | false =>
        have k3 := hbx.cell 3 _ rfl; have k2 := hbx.cell 2 _ rfl
        go_enter Try.func18, Try.ntmps18
        go_upto_region 1 with (fail)
        rw [HW.out]
        go_wp2_with fail
        refine (may1 n W hn true HQ.out).mono ?_
        rintro e w1 ⟨rfl, rfl⟩
        go_wp2_with fail
        refine (has1 A c N names n W HR.out hl false HQ2.out).mono ?_
        rintro e w1 ⟨rfl, rfl⟩
        go_wp2
        go_ret
        exact ⟨ret_bool (by rw [HV.out, HQ.out, HQ2.out]; rfl), HB.out⟩
      | true =>
        cases twice <;> by_cases h0 : had ≤ 0
        all_goals
          have H0 := Lib.hid h0
          have k3 := hbx.cell 3 _ rfl; have k4 := hbx.cell 4 _ rfl; have k2 := hbx.cell 2 _ rfl
          go_enter Try.func18, Try.ntmps18
          go_upto_region 1 with (fail)
          rw [HW.out]
          go_wp2_with fail
          refine (may1 n W hn true HQ.out).mono ?_
          rintro e w1 ⟨rfl, rfl⟩
          go_wp2_with fail
          refine (has1 A c N names n W HR.out hl true HQ2.out).mono ?_
          rintro e w1 ⟨rfl, rfl⟩
          go_wp2
          go_ret
          exact ⟨ret_bool (by rw [HV.out, HQ.out, HQ2.out]; simp [H0.out]), HB.out⟩

set_option maxHeartbeats 8000000 in
/-- Two values that read as one guard. -/
theorem same15_any (v u : Value) (g : Gd) (w : World) (h : Gv w w.heap.size v g) (k : Gv w w.heap.size u g) (hl : g.names.length ≤ 8796093022208) :
    Calls Try.prog 14 #[v, u] w fun e w' => e = .returned (.bool true) ∧ Below w.heap.size w w' := by
  obtain ⟨A, c, rfl, hlc, _, hrd⟩ := h
  obtain ⟨A2, c2, rfl, hlc2, _, hrd2⟩ := k
  obtain ⟨on, rep, names, any, twice⟩ := g
  unfold gV
  simp only at hlc hrd hl hlc2 hrd2 ⊢
  obtain ⟨W1, hW1⟩ : ∃ W, w.alloc (.cells #[.bool on, .bool rep, .slice A names.length c, .bool any, .bool twice] 26) = W := ⟨_, rfl⟩
  obtain ⟨W, hW⟩ : ∃ W, W1.alloc (.cells #[.bool on, .bool rep, .slice A2 names.length c2, .bool any, .bool twice] 26) = W := ⟨_, rfl⟩
  have hs1 : W1.heap.size = w.heap.size + 1 := by rw [← hW1]; simp
  have hb1 : Below w.heap.size w W1 := by rw [← hW1]; exact (Below.refl _ _).alloc (Nat.le_refl _) _
  have hbW : Below w.heap.size w W := by rw [← hW]; exact hb1.alloc (by omega) _
  have hx1 : Hb W1 w.heap.size #[.bool on, .bool rep, .slice A names.length c, .bool any, .bool twice] := by rw [← hW1]; exact Hb.new _ _
  have hbx : Hb W w.heap.size #[.bool on, .bool rep, .slice A names.length c, .bool any, .bool twice] := by rw [← hW]; exact hx1.keep (heap_alloc_old _ _ (by omega))
  have hby : Hb W (w.heap.size + 1) #[.bool on, .bool rep, .slice A2 names.length c2, .bool any, .bool twice] := by rw [← hW, ← hs1]; exact Hb.new _ _
  have hr1 : Rd W W.heap.size A names := (hrd.below hbW (Nat.le_refl _)).more hbW.size
  have hr2 : Rd W W.heap.size A2 names := (hrd2.below hbW (Nat.le_refl _)).more hbW.size
  have HR1 := Lib.hid hr1; have HR2 := Lib.hid hr2; have HB := Lib.hid hbW; have HW := Lib.hid hW; have HW1 := Lib.hid hW1; have HBX := Lib.hid hbx; have HBY := Lib.hid hby
  clear hr1 hr2 hbW hW hW1 hrd hrd2 hb1 hx1 hs1 hbx hby
  go_enter Try.func14, Try.ntmps14
  go_upto_region 1 with (fail)
  rw [HW1.out, HW.out]
  have k0 := HBX.out.cell 0 _ rfl; have k1 := HBX.out.cell 1 _ rfl; have k2 := HBX.out.cell 2 _ rfl; have k3 := HBX.out.cell 3 _ rfl; have k4 := HBX.out.cell 4 _ rfl
  have l0 := HBY.out.cell 0 _ rfl; have l1 := HBY.out.cell 1 _ rfl; have l2 := HBY.out.cell 2 _ rfl; have l3 := HBY.out.cell 3 _ rfl; have l4 := HBY.out.cell 4 _ rfl
  have q0 : ∀ b : Bool, (b == b) = true := by decide
  go_wp2_with fail
  refine (equal_any A A2 c c2 names W HR1.out HR2.out hl).mono ?_
  rintro e w1 ⟨rfl, hb⟩
  have HB2 := Lib.hid hb; clear hb
  go_wp2
  go_ret
  exact ⟨rfl, bt HB.out HB2.out⟩

end Go.Proofs.Ythgpjhblbpiagaa.He
