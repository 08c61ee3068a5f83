/-
  Walk of stage 2's law FoldFinds: it returns true.
-/
import Derived.Test.YtknllnjpbbldkaaFoldLawsD
namespace Go.Proofs.Ytknllnjpbbldkaa.Fo
open Go.RowKit Ba Fm

theorem find1 (w : World) (v : Value) (l : List ByteArray) (s : ByteArray) (n : Nat) (q : Bool) (hv : Sv w w.heap.size v l) (hl : l.length ≤ 60) (ha : Asc lt l) (hn : below lt l s = n) (hq : isIn s l = q) :
    Calls Try.prog 27 #[v, .string s] w fun e w' => e = .returned (.tuple #[.int .i64 n, .bool q]) ∧ Below w.heap.size w w' := by
  obtain ⟨A, c, rfl, _, _, hr⟩ := hv
  have h := find_any A c l s w hr (by omega) ha
  rw [hn, hq] at h
  exact h
theorem sorted1 (w : World) (v : Value) (l r : List ByteArray) (hv : Sv w w.heap.size v l) (hl : l.length ≤ 60) (h : srt lt l = r) :
    Calls Try.prog 23 #[v] w fun e w' => ∃ v', e = .returned v' ∧ Sown w.heap.size w' v' r ∧ Below w.heap.size w w' := by
  have k := sorted_any v l w hv (by omega)
  rw [h] at k
  exact k
theorem is1 (w : World) (v : Value) (l : List ByteArray) (hv : Sv w w.heap.size v l) (hl : l.length ≤ 60) (ha : Asc lt l) :
    Calls Try.prog 30 #[v] w fun e w' => e = .returned (.bool true) ∧ Below w.heap.size w w' := by
  obtain ⟨A, c, rfl, _, _, hr⟩ := hv
  exact is_any A c l w hr (by omega) ha
theorem found_at (r : List ByteArray) (ha : Asc lt r) (x : ByteArray) (hx : x ∈ r) : ∃ n, below lt r x = n ∧ ∃ h : n < r.length, r[n] = x := by
  obtain ⟨i, hi, rfl⟩ := List.getElem_of_mem hx
  exact ⟨i, below_at ord_lt ha hi, hi, rfl⟩
/-- What a slice holds at a place. -/
theorem sv_cell {w : World} {N n c : Nat} {A : Option Addr} {l : List ByteArray} (h : Sv w N (.slice A n c) l) {j : Nat} (hj : j < l.length) : ∃ b off, A = some ⟨b, off, none⟩ ∧ b < N ∧ w.cell? ⟨b, off + j, none⟩ = some (.string l[j]) := by
  obtain ⟨b, off, e, hb, hc⟩ := h.rd (by omega)
  exact ⟨b, off, e, hb, hc j hj⟩

set_option maxRecDepth 100000 in
set_option maxHeartbeats 4000000 in
theorem law_finds (va : Value) (la : List ByteArray) (w : World) (hva : Sv w w.heap.size va la) (_hza : la.length ≤ maxLen) :
    Calls Try.prog 6 #[va] w fun e w' => e = .returned (.bool true) ∧ Below w.heap.size w w' := by
  obtain ⟨A, ca, rfl, hca, hna, hra⟩ := hva
  obtain ⟨k, hk1, hk2, -, hmin1⟩ := min_any la.length 60 60 rfl w
  have hsa := sv_take hra hca hna hk1
  have hla : (la.take k).length = k := by rw [List.length_take]; omega
  generalize la.take k = l at *
  have hll : l.length ≤ 60 := by omega
  obtain ⟨r, hr⟩ : ∃ r, srt lt l = r := ⟨_, rfl⟩
  have hrl : r.length ≤ 60 := by rw [← hr]; exact Nat.le_trans (len_srt lt l) hll
  have hra' : Asc lt r := by rw [← hr]; exact (srt_is ord_lt l).1
  have hmem : ∀ z, z ∈ r ↔ z ∈ l := by rw [← hr]; exact (srt_is ord_lt l).2
  have hrr : srt lt r = r := by rw [← hr, srt_srt ord_lt]
  have hmn : mns l r = [] := mns_self l r fun x hx => (hmem x).2 hx
  have HR := Lib.hid hr; have HLA := Lib.hid hla; have HA := Lib.hid hra'; have HM := Lib.hid hmem; have HRR := Lib.hid hrr; have HMN := Lib.hid hmn
  clear hr hla hra' hmem hrr hmn hra hna
  go_enter Try.func6, Try.ntmps6
  go_wp2_with fail
  refine (sorted1 w _ l r hsa hll HR.out).mono ?_
  rintro e w1 ⟨v1, rfl, ho1, hb1⟩
  clear hmin1
  have hs1 := sv_own ho1
  go_wp2_with fail
  refine (is1 w1 v1 r hs1 hrl HA.out).mono ?_
  rintro e w2 ⟨rfl, hb2⟩
  have hs2 := (hs1.below hb2 (Nat.le_refl _)).more hb2.size
  have hb02 := bt hb1 hb2
  have hsa2 := (hsa.below hb02 (Nat.le_refl _)).more hb02.size
  clear hs1 ho1 hb1 hb2 hsa
  obtain ⟨D, cd, rfl, hcd, hnd, hrd⟩ := hs2
  have hs2 : Sv w2 w2.heap.size (.slice D r.length cd) r := ⟨D, cd, rfl, hcd, hnd, hrd⟩
  clear hnd hrd
  go_wp2
  go_loopw [4, 5, 6] (fun i _ _ wr => ∃ j : Nat, i = .int .i64 j ∧ j ≤ k ∧ Below w2.heap.size w2 wr) (fun i _ _ _ => k - (intOf i).toNat)
  case atStart => exact ⟨0, rfl, Nat.zero_le _, Below.refl _ _⟩
  case round =>
    obtain ⟨w5, hw5⟩ : ∃ x, x = wr := ⟨_, rfl⟩
    subst hw5
    obtain ⟨j, rfl, hjk, hbel⟩ := hrel
    have hN := hbel.size
    have hs5 := (hs2.below hbel (Nat.le_refl _)).more hN
    have hsa5 := (hsa2.below hbel (Nat.le_refl _)).more hN
    by_cases hp : j < k
    · have hpl : j < l.length := by have := HLA.out; omega
      obtain ⟨n, hn, hnr, hrn⟩ := found_at r HA.out l[j] ((HM.out _).2 (List.getElem_mem _))
      have hin := isIn_yes ((HM.out l[j]).2 (List.getElem_mem _))
      obtain ⟨b, off, rfl, _, hcell⟩ := sv_cell hsa5 hpl
      have hs5' := hs5
      obtain ⟨b', off', rfl, hbb', hcell'⟩ := sv_cell hs5' hnr
      rw [hrn] at hcell'
      have HN := Lib.hid hn; have HI := Lib.hid hin
      clear hn hin hrn hs5'
      generalize l[j] = y at *
      have hge : decide (r.length ≤ n) = false := decide_eq_false (by omega)
      have hj0 : (0 : Int) ≤ (j : Int) := by omega
      have hj1 : (j : Int) < (k : Int) := by omega
      have hn0 : (0 : Int) ≤ (n : Int) := by omega
      have hn1 : (n : Int) < (r.length : Int) := by omega
      have hneg : decide ((n : Int) < 0) = false := decide_eq_false (by omega)
      go_wp2_with fail
      refine (find1 w5 _ r y n true hs5 hrl HA.out HN.out HI.out).mono ?_
      rintro e w6 ⟨rfl, hb6⟩
      have hc6 : w6.cell? ⟨b, off + j, none⟩ = some (.string y) := (hb6.cell (p := ⟨b, off + j, none⟩) (by assumption)).trans hcell
      have hc6' : w6.cell? ⟨b', off' + n, none⟩ = some (.string y) := (hb6.cell (p := ⟨b', off' + n, none⟩) hbb').trans hcell'
      have hbel6 := hbel.trans (hb6.mono hN)
      clear hcell hcell' hb6
      go_wp2
      go_quiet (fail)
      go_wp2
      go_roundw
      case rel => exact ⟨j + 1, by go_num, by omega, below_dN hbel6 _⟩
      case measure => simp [intOf]; omega
    · obtain rfl : j = k := by omega
      go_wp2
      go_loopw [7, 8, 9] (fun i _ _ wr => ∃ x : Nat, i = .int .i64 x ∧ x ≤ r.length ∧ Below w5.heap.size w5 wr) (fun i _ _ _ => r.length - (intOf i).toNat)
      case atStart => exact ⟨0, rfl, Nat.zero_le _, Below.refl _ _⟩
      case round =>
        obtain ⟨x, rfl, hxr, hbel2⟩ := hrel
        have hN2 := hbel2.size
        have hs6 := (hs5.below hbel2 (Nat.le_refl _)).more hN2
        have hsa6 := (hsa5.below hbel2 (Nat.le_refl _)).more hN2
        by_cases hq : x < r.length
        · have hbl := below_at ord_lt HA.out hq
          have hin := isIn_yes (List.getElem_mem hq)
          have hin2 := isIn_yes ((HM.out r[x]).1 (List.getElem_mem hq))
          have hs6' := hs6
          obtain ⟨b, off, rfl, hbb, hcell⟩ := sv_cell hs6' hq
          have HB := Lib.hid hbl; have HI := Lib.hid hin; have HI2 := Lib.hid hin2
          clear hbl hin hin2 hs6'
          generalize r[x] = y at *
          go_wp2_with fail
          refine (find1 wr _ r y x true hs6 hrl HA.out HB.out HI.out).mono ?_
          rintro e w6 ⟨rfl, hb6⟩
          have hc6 : w6.cell? ⟨b, off + x, none⟩ = some (.string y) := (hb6.cell (p := ⟨b, off + x, none⟩) hbb).trans hcell
          have hsa7 := (hsa6.below hb6 (Nat.le_refl _)).more hb6.size
          have hbel6 := hbel2.trans (hb6.mono hN2)
          clear hcell hb6
          go_wp2_with fail
          refine (has1 w6 _ l y true hsa7 hll HI2.out).mono ?_
          rintro e w7 ⟨rfl, rfl⟩
          go_wp2
          go_roundw
          case rel => exact ⟨x + 1, by go_num, by omega, hbel6⟩
          case measure => simp [intOf]; omega
        · go_wp2_with fail
          refine (sorted1 wr _ r r hs6 hrl HRR.out).mono ?_
          rintro e w6 ⟨v6, rfl, ho6, hb6⟩
          have hs7 := (hs6.below hb6 (Nat.le_refl _)).more hb6.size
          have hsa7 := (hsa6.below hb6 (Nat.le_refl _)).more hb6.size
          go_wp2_with fail
          refine (equalS w6 v6 _ r (sv_own ho6) hs7 (by omega)).mono ?_
          rintro e w7 ⟨rfl, hb7⟩
          have hs8 := (hs7.below hb7 (Nat.le_refl _)).more hb7.size
          have hsa8 := (hsa7.below hb7 (Nat.le_refl _)).more hb7.size
          go_wp2_with fail
          refine (minus1 w7 _ _ l r [] hsa8 hs8 hll hrl HMN.out).mono ?_
          rintro e w8 ⟨v8, rfl, ho8, hb8⟩
          obtain ⟨A8, c8, rfl, _, _, _⟩ := sv_own ho8
          simp only [List.length_nil]
          go_wp2_with fail
          refine (fixed_any w8).mono ?_
          rintro e w9 ⟨rfl, hb9⟩
          go_wp2
          go_ret
          exact ⟨rfl, bt hb02 (bt hbel (bt hbel2 (bt hb6 (bt hb7 (bt hb8 hb9)))))⟩

end Go.Proofs.Ytknllnjpbbldkaa.Fo
