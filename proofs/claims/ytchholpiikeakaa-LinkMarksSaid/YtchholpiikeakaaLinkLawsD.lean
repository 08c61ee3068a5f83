/-
  Walk of stage 9's law LinkMarks: it returns true.
-/
import Derived.Test.YtchholpiikeakaaLinkFixed
import Derived.Laws.BitsAllLaws
import Derived.IntWalk
namespace Go.Proofs.Ytchholpiikeakaa.Lk
set_option maxRecDepth 100000
set_option linter.unusedSimpArgs false
set_option linter.unusedVariables false
open Go.RowKit Ba Fm Fo

/-- A digit of a text of digits. -/
def dg (D : ByteArray) (n : Nat) : UInt8 := (L D).getD n 0
theorem one_dg (D : ByteArray) (a : Nat) (h : a < D.size) : D.extract a (a + 1) = B [dg D a] := by
  refine B_of ?_
  have hl : a < (L D).length := by rw [size_L]; exact h
  rw [L_extract, show a + 1 - a = 1 by omega, List.drop_eq_getElem_cons hl]
  unfold dg
  rw [List.getD_eq_getElem?_getD, List.getElem?_eq_getElem hl]
  rfl
theorem below_drewN' {N : Nat} {w0 w : World} (h : Below N w0 w) (n : Nat) : Below N w0 (w.drewN n) := ⟨h.os, h.tape, h.output, h.size, h.block⟩
theorem js_lit : (∀ c ∈ L ⟨#[106, 97, 118, 97, 115, 99, 114, 105, 112, 116, 58]⟩, edge c = false) ∧ colonL (L ⟨#[106, 97, 118, 97, 115, 99, 114, 105, 112, 116, 58]⟩) = some 10 ∧ lowL ((L ⟨#[106, 97, 118, 97, 115, 99, 114, 105, 112, 116, 58]⟩).take 10) = js :=
  ⟨by decide, by kernel_rfl, by kernel_rfl⟩

set_option maxHeartbeats 4000000 in
theorem law_marks9 (s : ByteArray) (g : Bool) (hs : s.size ≤ 140737488351232) (w : World) :
    Calls Try.prog 9 #[.string s, .bool g] w fun e w' => e = .returned (.bool true) ∧ Below w.heap.size w w' := by
  obtain ⟨k, hk1, hk2, -, hmin1⟩ := cut_any s.size 200 200 rfl w
  obtain ⟨u, hu⟩ : ∃ u, s.extract 0 k = u := ⟨_, rfl⟩
  have hus : u.size ≤ 200 := by rw [← hu]; exact Nat.le_trans (cut_le s k) hk2
  have HU := Lib.hid hu
  clear hu
  cases g with
  | false =>
    obtain ⟨D, hD, hDs, hdg⟩ : ∃ D : ByteArray, (⟨#[48, 49, 50, 51, 52, 53, 54, 55, 56, 57, 97, 98, 99, 100, 101, 102]⟩ : ByteArray) = D ∧ D.size = 16 ∧ ∀ n, n < 16 → hb (dg D n) = true ∧ hv (dg D n) = n ∧ edge (dg D n) = false := ⟨_, rfl, rfl, by decide +kernel⟩
    have hDl : D.size ≤ 16 := by omega
    have hDg : 16 ≤ D.size := by omega
    have hone : ∀ a, a < 16 → D.extract a (a + 1) = B [dg D a] := fun a ha => one_dg D a (by omega)
    have HD := Lib.hid hD; have HDG := Lib.hid hdg; have HONE := Lib.hid hone
    clear hD hdg hone hDs
    go_enter Try.func9, Try.ntmps9
    go_upto_region 5 with fail
    simp only [HU.out]
    rw [HD.out]
    clear hmin1
    go_wp2
    go_loopw [6, 7] (fun v i wr => ∃ (k : Nat) (t : ByteArray), v = .string t ∧ i = .int .i64 k ∧ k ≤ u.size ∧ L t = marks (dg D) ((L u).take k) ∧ Below w.heap.size w wr) (fun _ i _ => u.size - (intOf i).toNat)
    case atStart => exact ⟨0, ⟨#[]⟩, rfl, rfl, Nat.zero_le _, rfl, Below.refl _ _⟩
    case round =>
      obtain ⟨j, t, rfl, rfl, hj, hm, hbel⟩ := hrel
      have htl : t.size ≤ 600 := by
        rw [← size_L, hm, marks_len, List.length_take, size_L]
        omega
      have HB := Lib.hid hbel; clear hbel
      by_cases hp : j < u.size
      · obtain ⟨a, ha⟩ : ∃ a, u[j].toNat / 16 = a := ⟨_, rfl⟩
        obtain ⟨b, hb'⟩ : ∃ b, u[j].toNat % 16 = b := ⟨_, rfl⟩
        have hc := u[j].toNat_lt
        have ha16 : a < 16 := by omega
        have hb16 : b < 16 := by omega
        have hn : marks (dg D) ((L u).take (j + 1)) = L t ++ [37, dg D a, dg D b] := by
          rw [take_snoc u j hp, marks_snoc, hm, ha, hb']
        have ea : D.extract a (a + 1) = B [dg D a] := HONE.out a ha16
        have eb : D.extract b (b + 1) = B [dg D b] := HONE.out b hb16
        have hfin : L (t ++ ((⟨#[37]⟩ ++ D.extract a (a + 1)) ++ D.extract b (b + 1))) = marks (dg D) ((L u).take (j + 1)) := by
          rw [hn, ea, eb, L_append, L_append, L_append, L_B, L_B]
          rfl
        have y1 : (u[j].toNat : Int) / 16 = (a : Int) := by omega
        have y2 : bits .and .u8 (u[j].toNat : Int) 15 = (b : Int) := by
          have := u8_and_nat u[j].toNat 15 (by omega) (by omega)
          rw [show ((15 : Nat) : Int) = 15 from rfl] at this
          rw [this, ← hb']
          congr 1
          exact Nat.and_two_pow_sub_one_eq_mod u[j].toNat 4
        have y3 : IntKind.u8.wrap ((a : Int) + 1) = (a : Int) + 1 := IntWalk.u8_in _ (by omega)
        have y4 : IntKind.u8.wrap ((b : Int) + 1) = (b : Int) + 1 := IntWalk.u8_in _ (by omega)
        have z1 : ((a : Int) + 1).toNat = a + 1 := by omega
        have z2 : ((b : Int) + 1).toNat = b + 1 := by omega
        have m1 : (0 : Int) ≤ (a : Int) + 1 := by omega
        have m2 : (0 : Int) ≤ (b : Int) + 1 := by omega
        have m3 : (a : Int) + 1 ≤ D.size := by omega
        have m4 : (b : Int) + 1 ≤ D.size := by omega
        have m5 : (a : Int) ≤ (a : Int) + 1 := by omega
        have m6 : (b : Int) ≤ (b : Int) + 1 := by omega
        have hj1 : j + 1 ≤ u.size := by omega
        have hj2 : u.size - (j + 1) < u.size - j := by omega
        have sa : (D.extract a (a + 1)).size ≤ 16 := Nat.le_trans (size_extract _ _ _) hDl
        have sb : (D.extract b (b + 1)).size ≤ 16 := Nat.le_trans (size_extract _ _ _) hDl
        have HF := Lib.hid hfin
        clear hfin hn ea eb ha hb' hm
        go_wp2
        go_quiet (fail)
        clear y1 y2 y3 y4
        go_wp2
        go_roundw
        case rel => exact ⟨j + 1, _, rfl, by go_num, hj1, HF.out, below_drewN' HB.out _⟩
        case measure => simp [intOf]; omega
      · rw [List.take_of_length_le (by rw [size_L]; omega)] at hm
        have hte : ∀ c ∈ L t, edge c = false := by rw [hm]; exact marks_edge _ (fun n h => (HDG.out n h).2.2) _
        have hpt : B (pct (L t)) = u := by rw [hm, pct_marks _ (fun n h => ⟨(HDG.out n h).1, (HDG.out n h).2.1⟩), B_L]
        obtain ⟨z, hz⟩ : ∃ z : ByteArray, (⟨#[106, 97, 118, 97, 115, 99, 114, 105, 112, 116, 58]⟩ : ByteArray) ++ t = z := ⟨_, rfl⟩
        have q2 : (⟨#[106, 97, 118, 97, 115, 99, 114, 105, 112, 116, 58]⟩ : ByteArray).size = 11 := rfl
        have hzl : z.size ≤ 140737488355328 := by rw [← hz, size_append]; omega
        have htl' : t.size ≤ 140737488355328 := by omega
        obtain ⟨z1, z2⟩ := source_known (a := L ⟨#[106, 97, 118, 97, 115, 99, 114, 105, 112, 116, 58]⟩) (m := L t) js_lit.1 js_lit.2.1 rfl js_lit.2.2 hte
        rw [← L_append, hz] at z1 z2
        have z3 : B (sourceL (L z)) = u := by rw [z2, hpt]
        have z4 : scriptL (L z) = true := decide_eq_true z1
        have HZ := Lib.hid hz; have Z3 := Lib.hid z3; have Z4 := Lib.hid z4; have HP := Lib.hid hpt
        clear hz z1 z2 z3 z4 hpt hte hm q2
        go_wp2_with fail
        rw [HZ.out]
        refine (source1 z wr hzl u true Z3.out Z4.out).mono ?_
        rintro e w2 ⟨rfl, b2⟩
        go_wp2_with fail
        refine (percent1 t w2 htl' u HP.out).mono ?_
        rintro e w3 ⟨rfl, b3⟩
        go_wp2_with fail
        refine (fixed9_any w3).mono ?_
        rintro e w4 ⟨rfl, b4⟩
        go_wp2
        go_ret
        exact ⟨rfl, bt HB.out (bt b2 (bt b3 b4))⟩
  | true =>
    obtain ⟨D, hD, hDs, hdg⟩ : ∃ D : ByteArray, (⟨#[48, 49, 50, 51, 52, 53, 54, 55, 56, 57, 65, 66, 67, 68, 69, 70]⟩ : ByteArray) = D ∧ D.size = 16 ∧ ∀ n, n < 16 → hb (dg D n) = true ∧ hv (dg D n) = n ∧ edge (dg D n) = false := ⟨_, rfl, rfl, by decide +kernel⟩
    have hDl : D.size ≤ 16 := by omega
    have hDg : 16 ≤ D.size := by omega
    have hone : ∀ a, a < 16 → D.extract a (a + 1) = B [dg D a] := fun a ha => one_dg D a (by omega)
    have HD := Lib.hid hD; have HDG := Lib.hid hdg; have HONE := Lib.hid hone
    clear hD hdg hone hDs
    go_enter Try.func9, Try.ntmps9
    go_upto_region 5 with fail
    simp only [HU.out]
    rw [HD.out]
    clear hmin1
    go_wp2
    go_loopw [6, 7] (fun v i wr => ∃ (k : Nat) (t : ByteArray), v = .string t ∧ i = .int .i64 k ∧ k ≤ u.size ∧ L t = marks (dg D) ((L u).take k) ∧ Below w.heap.size w wr) (fun _ i _ => u.size - (intOf i).toNat)
    case atStart => exact ⟨0, ⟨#[]⟩, rfl, rfl, Nat.zero_le _, rfl, Below.refl _ _⟩
    case round =>
      obtain ⟨j, t, rfl, rfl, hj, hm, hbel⟩ := hrel
      have htl : t.size ≤ 600 := by
        rw [← size_L, hm, marks_len, List.length_take, size_L]
        omega
      have HB := Lib.hid hbel; clear hbel
      by_cases hp : j < u.size
      · obtain ⟨a, ha⟩ : ∃ a, u[j].toNat / 16 = a := ⟨_, rfl⟩
        obtain ⟨b, hb'⟩ : ∃ b, u[j].toNat % 16 = b := ⟨_, rfl⟩
        have hc := u[j].toNat_lt
        have ha16 : a < 16 := by omega
        have hb16 : b < 16 := by omega
        have hn : marks (dg D) ((L u).take (j + 1)) = L t ++ [37, dg D a, dg D b] := by
          rw [take_snoc u j hp, marks_snoc, hm, ha, hb']
        have ea : D.extract a (a + 1) = B [dg D a] := HONE.out a ha16
        have eb : D.extract b (b + 1) = B [dg D b] := HONE.out b hb16
        have hfin : L (t ++ ((⟨#[37]⟩ ++ D.extract a (a + 1)) ++ D.extract b (b + 1))) = marks (dg D) ((L u).take (j + 1)) := by
          rw [hn, ea, eb, L_append, L_append, L_append, L_B, L_B]
          rfl
        have y1 : (u[j].toNat : Int) / 16 = (a : Int) := by omega
        have y2 : bits .and .u8 (u[j].toNat : Int) 15 = (b : Int) := by
          have := u8_and_nat u[j].toNat 15 (by omega) (by omega)
          rw [show ((15 : Nat) : Int) = 15 from rfl] at this
          rw [this, ← hb']
          congr 1
          exact Nat.and_two_pow_sub_one_eq_mod u[j].toNat 4
        have y3 : IntKind.u8.wrap ((a : Int) + 1) = (a : Int) + 1 := IntWalk.u8_in _ (by omega)
        have y4 : IntKind.u8.wrap ((b : Int) + 1) = (b : Int) + 1 := IntWalk.u8_in _ (by omega)
        have z1 : ((a : Int) + 1).toNat = a + 1 := by omega
        have z2 : ((b : Int) + 1).toNat = b + 1 := by omega
        have m1 : (0 : Int) ≤ (a : Int) + 1 := by omega
        have m2 : (0 : Int) ≤ (b : Int) + 1 := by omega
        have m3 : (a : Int) + 1 ≤ D.size := by omega
        have m4 : (b : Int) + 1 ≤ D.size := by omega
        have m5 : (a : Int) ≤ (a : Int) + 1 := by omega
        have m6 : (b : Int) ≤ (b : Int) + 1 := by omega
        have hj1 : j + 1 ≤ u.size := by omega
        have hj2 : u.size - (j + 1) < u.size - j := by omega
        have sa : (D.extract a (a + 1)).size ≤ 16 := Nat.le_trans (size_extract _ _ _) hDl
        have sb : (D.extract b (b + 1)).size ≤ 16 := Nat.le_trans (size_extract _ _ _) hDl
        have HF := Lib.hid hfin
        clear hfin hn ea eb ha hb' hm
        go_wp2
        go_quiet (fail)
        clear y1 y2 y3 y4
        go_wp2
        go_roundw
        case rel => exact ⟨j + 1, _, rfl, by go_num, hj1, HF.out, below_drewN' HB.out _⟩
        case measure => simp [intOf]; omega
      · rw [List.take_of_length_le (by rw [size_L]; omega)] at hm
        have hte : ∀ c ∈ L t, edge c = false := by rw [hm]; exact marks_edge _ (fun n h => (HDG.out n h).2.2) _
        have hpt : B (pct (L t)) = u := by rw [hm, pct_marks _ (fun n h => ⟨(HDG.out n h).1, (HDG.out n h).2.1⟩), B_L]
        obtain ⟨z, hz⟩ : ∃ z : ByteArray, (⟨#[106, 97, 118, 97, 115, 99, 114, 105, 112, 116, 58]⟩ : ByteArray) ++ t = z := ⟨_, rfl⟩
        have q2 : (⟨#[106, 97, 118, 97, 115, 99, 114, 105, 112, 116, 58]⟩ : ByteArray).size = 11 := rfl
        have hzl : z.size ≤ 140737488355328 := by rw [← hz, size_append]; omega
        have htl' : t.size ≤ 140737488355328 := by omega
        obtain ⟨z1, z2⟩ := source_known (a := L ⟨#[106, 97, 118, 97, 115, 99, 114, 105, 112, 116, 58]⟩) (m := L t) js_lit.1 js_lit.2.1 rfl js_lit.2.2 hte
        rw [← L_append, hz] at z1 z2
        have z3 : B (sourceL (L z)) = u := by rw [z2, hpt]
        have z4 : scriptL (L z) = true := decide_eq_true z1
        have HZ := Lib.hid hz; have Z3 := Lib.hid z3; have Z4 := Lib.hid z4; have HP := Lib.hid hpt
        clear hz z1 z2 z3 z4 hpt hte hm q2
        go_wp2_with fail
        rw [HZ.out]
        refine (source1 z wr hzl u true Z3.out Z4.out).mono ?_
        rintro e w2 ⟨rfl, b2⟩
        go_wp2_with fail
        refine (percent1 t w2 htl' u HP.out).mono ?_
        rintro e w3 ⟨rfl, b3⟩
        go_wp2_with fail
        refine (fixed9_any w3).mono ?_
        rintro e w4 ⟨rfl, b4⟩
        go_wp2
        go_ret
        exact ⟨rfl, bt HB.out (bt b2 (bt b3 b4))⟩

end Go.Proofs.Ytchholpiikeakaa.Lk
