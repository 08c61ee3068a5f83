/-
  Walk of stage 2's law FoldMinus: it returns true.
-/
import Derived.Test.YtknllnjpbbldkaaFoldLawsC
namespace Go.Proofs.Ytknllnjpbbldkaa.Fo
open Go.RowKit Ba Fm

theorem mns_append (a b m : List ByteArray) : mns (a ++ b) m = mns a m ++ mns b m := by unfold mns; rw [List.filter_append]
theorem mns_split (l m : List ByteArray) (i : Nat) (hi : i < l.length) (hn : isIn l[i] m = false) : mns l m = mns (l.take i) m ++ l[i] :: mns (l.drop (i + 1)) m := by
  conv => lhs; rw [← List.take_append_drop i l, drop_consS l i hi, mns_append]
  congr 1
  unfold mns
  rw [List.filter_cons, if_pos (by simp [hn])]
theorem mns_get (l m : List ByteArray) (i : Nat) (hi : i < l.length) (hn : isIn l[i] m = false) : ∃ h : (mns (l.take i) m).length < (mns l m).length, (mns l m)[(mns (l.take i) m).length] = l[i] := by
  have e := mns_split l m i hi hn
  have h : (mns (l.take i) m).length < (mns l m).length := by rw [e, List.length_append]; simp
  refine ⟨h, ?_⟩
  have e2 : (mns l m)[(mns (l.take i) m).length]? = some l[i] := by
    conv => lhs; rw [e]
    rw [List.getElem?_append_right (Nat.le_refl _), Nat.sub_self]
    rfl
  rw [List.getElem?_eq_getElem h] at e2
  exact Option.some.inj e2

theorem minus1 (w : World) (va vb : Value) (l m r : List ByteArray) (hva : Sv w w.heap.size va l) (hvb : Sv w w.heap.size vb m) (hl : l.length ≤ 60) (hm : m.length ≤ 60) (h : mns l m = r) :
    Calls Try.prog 24 #[va, vb] w fun e w' => ∃ v, e = .returned v ∧ Sown w.heap.size w' v r ∧ Below w.heap.size w w' := by
  have k := minus_any va vb l m w hva hvb (by omega) (by omega)
  rw [h] at k
  exact k
theorem has1 (w : World) (va : Value) (l : List ByteArray) (s : ByteArray) (q : Bool) (hva : Sv w w.heap.size va l) (hl : l.length ≤ 60) (h : isIn s l = q) :
    Calls Try.prog 29 #[va, .string s] w fun e w' => e = .returned (.bool q) ∧ w = w' := by
  obtain ⟨A, c, rfl, _, _, hr⟩ := hva
  have k := has_any A c _ l s w hr (by omega)
  rw [h] at k
  exact k
theorem sv_nil (w : World) (N : Nat) : Sv w N (.slice none 0 0) [] := ⟨none, 0, rfl, Nat.le_refl _, fun _ => rfl, Rd.nil _ _ _⟩
/-- The first k of a slice. -/
theorem sv_first {w : World} {N n k c : Nat} {A : Option Addr} {l : List ByteArray} (h : Sv w N (.slice A n c) l) (hk : k ≤ n) : Sv w N (.slice A k c) (l.take k) ∧ (l.take k).length = k ∧ n ≤ c := by
  obtain ⟨A', c', e, h1, h2, h3⟩ := h
  injection e with e1 e2 e3
  subst e1 e2 e3
  exact ⟨sv_take h3 h1 h2 hk, by rw [List.length_take]; omega, h1⟩

set_option maxRecDepth 100000 in
set_option maxHeartbeats 4000000 in
theorem law_minus (va vb : Value) (la lb : List ByteArray) (w : World) (hva : Sv w w.heap.size va la) (hvb : Sv w w.heap.size vb lb) (_hza : la.length ≤ maxLen) (_hzb : lb.length ≤ maxLen) :
    Calls Try.prog 8 #[va, vb] w fun e w' => e = .returned (.bool true) ∧ Below w.heap.size w w' := by
  obtain ⟨A, ca, rfl, hca, hna, hra⟩ := hva
  obtain ⟨C, cb, rfl, hcb, hnb, hrb⟩ := hvb
  obtain ⟨k, hk1, hk2, -, hmin1⟩ := min_any la.length 60 60 rfl w
  obtain ⟨n, hn1, hn2, -, hmin2⟩ := min_any lb.length 60 60 rfl w
  have hsa := sv_take hra hca hna hk1
  have hsb := sv_take hrb hcb hnb hn1
  have hla : (la.take k).length = k := by rw [List.length_take]; omega
  have hlb : (lb.take n).length = n := by rw [List.length_take]; omega
  generalize la.take k = l at *
  generalize lb.take n = m at *
  have hll : l.length ≤ 60 := by omega
  have hml : m.length ≤ 60 := by omega
  obtain ⟨r, hr⟩ : ∃ r, mns l m = r := ⟨_, rfl⟩
  have hrl : r.length ≤ 60 := by rw [← hr]; exact Nat.le_trans (len_mns l m) hll
  have HR := Lib.hid hr; have HLA := Lib.hid hla; have HLB := Lib.hid hlb
  clear hr hla hlb hra hrb hna hnb
  go_enter Try.func8, Try.ntmps8
  go_wp2_with fail
  refine (minus1 w _ _ l m r hsa hsb hll hml HR.out).mono ?_
  rintro e w1 ⟨v1, rfl, ho1, hb1⟩
  clear hmin1 hmin2
  obtain ⟨D, cd, rfl, hcd, _, hrd⟩ := sv_own ho1
  go_wp2
  go_loopw [6, 7] (fun kk i wr => ∃ j : Nat, i = .int .i64 j ∧ j ≤ k ∧ kk = .int .i64 (mns (l.take j) m).length ∧ Below w1.heap.size w1 wr) (fun _ i _ => k - (intOf i).toNat)
  case atStart => exact ⟨0, rfl, Nat.zero_le _, rfl, Below.refl _ _⟩
  case round =>
    obtain ⟨j, rfl, hjk, rfl, hbel⟩ := hrel
    have hN := hbel.size
    have hN1 := hb1.size
    have hsa' := ((hsa.below hb1 (Nat.le_refl _)).below hbel hN1).more (Nat.le_trans hN1 hN)
    have hsb' := ((hsb.below hb1 (Nat.le_refl _)).below hbel hN1).more (Nat.le_trans hN1 hN)
    have hlt := len_mns (l.take j) m
    rw [List.length_take] at hlt
    by_cases hp : j < k
    · have hpl : j < l.length := by have := HLA.out; omega
      obtain ⟨A', ca', e, _, _, hra⟩ := hsa'
      injection e with e1 e2 e3
      clear e2
      subst e1 e3
      have hra0 := hra
      obtain ⟨b, off, rfl, hbb, hc⟩ := hra0 (by omega)
      have hcell : wr.cell? ⟨b, off + j, none⟩ = some (.string l[j]) := hc j hpl
      clear hc hra hra0
      have hsn := take_snocS l j hpl
      cases hin : isIn l[j] m with
      | true =>
        have hmn := mns_yes (l.take j) m _ hin
        rw [← hsn] at hmn
        have HI := Lib.hid hin; have HM := Lib.hid hmn; clear hin hsn hmn
        go_wp2_with fail
        refine (has1 wr _ m l[j] true hsb' hml HI.out).mono ?_
        rintro e w2 ⟨rfl, rfl⟩
        go_wp2
        go_roundw
        case rel => exact ⟨j + 1, by go_num, by omega, by rw [HM.out], hbel⟩
        case measure => simp [intOf]; omega
      | false =>
        have hmn := mns_no (l.take j) m _ hin
        rw [← hsn] at hmn
        obtain ⟨hg1, hg2⟩ := mns_get l m j hpl hin
        have hrd0 := hrd
        obtain ⟨b', off', rfl, hbb', hc'⟩ := hrd0 (by rw [← HR.out]; omega)
        have hgr : (mns (l.take j) m).length < r.length := by rw [← HR.out]; exact hg1
        have hcell2 : wr.cell? ⟨b', off' + (mns (l.take j) m).length, none⟩ = some (.string l[j]) := by
          refine (hbel.cell (p := ⟨b', off' + (mns (l.take j) m).length, none⟩) hbb').trans ?_
          rw [hc' _ hgr]
          congr 2
          rw [← hg2]
          congr 1
          exact HR.out.symm
        have HI := Lib.hid hin; have HM := Lib.hid hmn; clear hin hsn hmn hg1 hg2 hc' hrd0
        generalize hy : l[j] = y at *
        generalize hz : (mns (l.take j) m).length = z at *
        have HZ := Lib.hid hz; clear hz hy
        have hge : decide (r.length ≤ z) = false := decide_eq_false (by omega)
        have hj0 : (0 : Int) ≤ (j : Int) := by omega
        have hj1 : (j : Int) < (k : Int) := by omega
        have hz0 : (0 : Int) ≤ (z : Int) := by omega
        have hz1 : (z : Int) < (r.length : Int) := by omega
        go_wp2_with fail
        refine (has1 wr _ m y false hsb' hml HI.out).mono ?_
        rintro e w2 ⟨rfl, rfl⟩
        go_wp2
        go_quiet (fail)
        go_wp2
        go_roundw
        case rel => exact ⟨j + 1, by go_num, by omega, by rw [HM.out, List.length_append, HZ.out]; go_num, below_dN hbel _⟩
        case measure => simp [intOf]; omega
    · obtain rfl : j = k := by omega
      have hfin : (mns (l.take j) m).length = r.length := by rw [List.take_of_length_le (by have := HLA.out; omega), HR.out]
      have hnil := mns_nil l
      have hself := mns_self l l fun x hx => hx
      have HN := Lib.hid hnil; have HS := Lib.hid hself; clear hnil hself
      go_wp2_with fail
      refine (minus1 wr _ _ l [] l hsa' (sv_nil _ _) hll (by simp) HN.out).mono ?_
      rintro e w2 ⟨v2, rfl, ho2, hb2⟩
      have hsa2 := (hsa'.below hb2 (Nat.le_refl _)).more hb2.size
      go_wp2_with fail
      refine (equalS w2 v2 _ l (sv_own ho2) hsa2 (by omega)).mono ?_
      rintro e w3 ⟨rfl, hb3⟩
      have hsa3 := (hsa2.below hb3 (Nat.le_refl _)).more hb3.size
      go_wp2_with fail
      refine (minus1 w3 _ _ l l [] hsa3 hsa3 hll hll HS.out).mono ?_
      rintro e w4 ⟨v4, rfl, ho4, hb4⟩
      obtain ⟨A4, c4, rfl, _, _, _⟩ := sv_own ho4
      simp only [List.length_nil]
      go_wp2_with fail
      refine (fixed_any w4).mono ?_
      rintro e w5 ⟨rfl, hb5⟩
      go_wp2
      go_ret
      exact ⟨rfl, bt hb1 (bt hbel (bt hb2 (bt hb3 (bt hb4 hb5))))⟩

end Go.Proofs.Ytknllnjpbbldkaa.Fo
