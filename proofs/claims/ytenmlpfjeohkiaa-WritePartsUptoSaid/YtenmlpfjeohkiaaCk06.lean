/-
  Walks of stage 7: closed, leftOpen, Nested, endWalls, passedOver.
  Walks of stage 3: a text written out (boltingref03.Write).
  Walks of stage 8: the reference's tag.
  Walks of stage 8: legalAttrs, legal, legalWithin.
  Stage 7, in plain words: rows whose texts are joined at the end are those whose texts were joined one by one; nothing of the program.
  Stage 7: a builder in memory: its open elements, its rows, each of the call's own.
  Walks of stage 8: Legal.
  Stage 8: the calls whose answers the document fixes.
  Stage 8's law WriteTwo: it returns true.
  Stage 4, plain: kids, one behind the other; each row is the kid of its parent alone.
  Walks of stage 5: bolting/boltingref05.Closes: what an element closes, and what ends the search.
  Walks of stage 5: bolting/boltingref05.Walls: what an element closes, and what ends the search.
  Walks of stage 7: the document's own Found, closed, para, opened, Nested.
  Walks of stage 8: the reference's Within.
-/
import Derived.Test.YtenmlpfjeohkiaaCk05
import Derived.Test.YtenmlpfjeohkiaaCk02
import Derived.Test.YtenmlpfjeohkiaaCk04
import Derived.Deep.RegionHeld3
import Derived.Deep.CutBlock
import Derived.Deep.DeepCutAuto
import Derived.Test.YtenmlpfjeohkiaaCk01
import Derived.Deep.AppendLies
import Derived.Deep.RegionLaw
import Derived.BigRegion
import Derived.StillTailTactics
namespace Go.Proofs.Ytenmlpfjeohkiaa.Bu
set_option maxRecDepth 100000
set_option linter.unusedVariables false
set_option linter.unusedSimpArgs false
open Go.RowKit Ba Fm Fo Nm Bm
theorem closes_len (n : ByteArray) : (closesL n).length ≤ 1000 := by
  have : ∀ q : List ByteArray, closesL n = q → q.length ≤ 1000 := fun q h => by
    unfold closesL at h
    subst h
    repeat' split
    all_goals decide
  exact this _ rfl
theorem walls_len (n : ByteArray) : (wallsL n).length ≤ 1000 := by
  have : ∀ q : List ByteArray, wallsL n = q → q.length ≤ 1000 := fun q h => by
    unfold wallsL at h
    subst h
    repeat' split
    all_goals decide
  exact this _ rfl
theorem idx_take {ns ws o : List ByteArray} : (idx ns ws o = -1 ∧ findS ns ws o.reverse = none) ∨ (∃ k : Nat, idx ns ws o = k ∧ k < o.length ∧ findS ns ws o.reverse = some (o.take k).reverse) := by
  unfold idx
  cases h : findS ns ws o.reverse with
  | none => exact .inl ⟨rfl, rfl⟩
  | some r =>
    obtain ⟨e, hl⟩ := found_take h
    exact .inr ⟨r.length, rfl, hl, by rw [← e]⟩

theorem find1 (V V1 V2 : Value) (M : Nat) (l ns ws : List ByteArray) (w : World) (hm : l.length ≤ 1000000) (A : Option Addr) (c : Nat) (hV : V = .slice A l.length c) (hr : Rd w w.heap.size A l) (h1 : Sv w w.heap.size V1 ns) (h2 : Sv w w.heap.size V2 ws) (hn1 : ns.length ≤ 1000) (hn2 : ws.length ≤ 1000) (i : Int) (hi : idx ns ws l = i) :
    Calls Try.prog 77 #[V, V1, V2] w fun e w' => e = .returned (.int .i64 i) ∧ Below w.heap.size w w' := by
  obtain ⟨A1, c1, rfl, _, _, hr1⟩ := h1
  obtain ⟨A2, c2, rfl, _, _, hr2⟩ := h2
  subst hV; subst hi
  exact find_any A A1 A2 c c1 c2 l ns ws w hm hr hr1 hr2 hn1 hn2

set_option maxRecDepth 100000 in
set_option maxHeartbeats 1000000 in
theorem closed_any (A : Option Addr) (c : Nat) (l : List ByteArray) (n : ByteArray) (w : World) (hm : l.length ≤ 1000000) (hc : l.length ≤ c) (hr : Rd w w.heap.size A l) :
    Calls Try.prog 73 #[.slice A l.length c, .string n] w fun e w' => ∃ k : Nat, e = .returned (.slice A k c) ∧ k ≤ l.length ∧ (l.take k).reverse = closedS (closesL n) (wallsL n) l.reverse ∧ Below w.heap.size w w' := by
  have hL1 := closes_len n
  have hL2 := walls_len n
  go_enter Try.func73, Try.ntmps73
  go_wp2_with fail
  refine (Na.closes_any n w).mono ?_
  rintro e w1 ⟨V1, rfl, s1, b1⟩
  go_wp2_with fail
  refine (Na.walls_any n w1).mono ?_
  rintro e w2 ⟨V2, rfl, s2, b2⟩
  have v1 : Sv w2 w2.heap.size V1 (closesL n) := sv_own (s1.below b2 (Nat.le_refl _))
  have v2 : Sv w2 w2.heap.size V2 (wallsL n) := sv_own s2
  have B2 := bt b1 b2
  have hr2 : Rd w2 w2.heap.size A l := (hr.below B2 (Nat.le_refl _)).more B2.size
  have HV1 := Lib.hid v1; have HV2 := Lib.hid v2; have HB2 := Lib.hid B2; have HR2 := Lib.hid hr2
  clear v1 v2 s1 s2 b1 b2 B2 hr hr2
  obtain ⟨i, hi⟩ : ∃ i, idx (closesL n) (wallsL n) l = i := ⟨_, rfl⟩
  go_wp2_with fail
  refine (find1 _ V1 V2 0 l (closesL n) (wallsL n) w2 hm A c rfl HR2.out HV1.out HV2.out hL1 hL2 i hi).mono ?_
  rintro e w3 ⟨rfl, b3⟩
  have HI := Lib.hid hi
  have HB3 := Lib.hid b3
  clear hi b3
  go_wp2
  go_loopw [0, 7] (fun v x wr => ∃ (k : Nat) (j : Int), v = .slice A k c ∧ x = .int .i64 j ∧ k ≤ l.length ∧ idx (closesL n) (wallsL n) (l.take k) = j ∧ closedS (closesL n) (wallsL n) (l.take k).reverse = closedS (closesL n) (wallsL n) l.reverse ∧ Below w2.heap.size w2 wr) (fun v _ _ => lenOf v)
  case atStart => exact ⟨l.length, i, rfl, rfl, Nat.le_refl _, by rw [List.take_length]; exact HI.out, by rw [List.take_length], HB3.out⟩
  case round =>
    obtain ⟨k, j, rfl, rfl, hk, hj, hcl, hb⟩ := hrel
    rcases idx_take (ns := closesL n) (ws := wallsL n) (o := l.take k) with ⟨e1, e2⟩ | ⟨m, e1, hmk, e2⟩
    · rw [hj] at e1
      subst e1
      rw [closedS_no e2] at hcl
      have HC := Lib.hid hcl; have HB := Lib.hid hb
      clear hcl hb hj e2
      go_wp2
      go_ret
      exact ⟨k, rfl, hk, HC.out, bt HB2.out HB.out⟩
    · rw [hj] at e1
      subst e1
      have hlk : (l.take k).length = k := by rw [List.length_take]; omega
      rw [hlk] at hmk
      have et : (l.take k).take m = l.take m := by rw [List.take_take, Nat.min_eq_left (by omega)]
      rw [closedS_yes e2, et] at hcl
      have hge : decide ((0 : Int) ≤ (m : Int)) = true := decide_eq_true (by omega)
      have hr3 : Rd wr wr.heap.size A (l.take m) := ((HR2.out.below hb (Nat.le_refl _)).more hb.size).take m
      have v1 := (HV1.out.below hb (Nat.le_refl _)).more hb.size
      have v2 := (HV2.out.below hb (Nat.le_refl _)).more hb.size
      have hml : (l.take m).length = m := by rw [List.length_take]; omega
      obtain ⟨i2, hi2⟩ : ∃ i, idx (closesL n) (wallsL n) (l.take m) = i := ⟨_, rfl⟩
      have HC := Lib.hid hcl; have HB := Lib.hid hb; have HV1' := Lib.hid v1; have HV2' := Lib.hid v2; have HR3 := Lib.hid hr3; have HML := Lib.hid hml; have HI2 := Lib.hid hi2
      clear hcl hb hj e2 v1 v2 hr3 hml hi2 et hlk
      have hm0 : (0 : Int) ≤ (m : Int) := by omega
      have hmc : (m : Int) ≤ (c : Int) := by omega
      go_wp2_with fail
      refine (find1 _ V1 V2 0 (l.take m) (closesL n) (wallsL n) wr (by rw [HML.out]; omega) A c (by rw [HML.out]) HR3.out HV1'.out HV2'.out hL1 hL2 i2 HI2.out).mono ?_
      rintro e w4 ⟨rfl, b4⟩
      have HB4 := Lib.hid b4
      clear b4
      go_wp2
      go_roundw
      case rel => exact ⟨m, i2, rfl, rfl, by omega, HI2.out, HC.out, bt HB.out HB4.out⟩
      case measure => simp [lenOf]; omega

theorem closed1 (V : Value) (l : List ByteArray) (n : ByteArray) (w : World) (hm : l.length ≤ 1000000) (A : Option Addr) (c : Nat) (hV : V = .slice A l.length c) (hc : l.length ≤ c) (hr : Rd w w.heap.size A l) :
    Calls Try.prog 73 #[V, .string n] w fun e w' => ∃ k : Nat, e = .returned (.slice A k c) ∧ k ≤ l.length ∧ (l.take k).reverse = closedS (closesL n) (wallsL n) l.reverse ∧ Below w.heap.size w w' := by
  subst hV
  exact closed_any A c l n w hm hc hr

/-- Is it one of the three that close a paragraph besides? -/
theorem para_true {n : ByteArray} (h : para n = true) : (n.toList == [108, 105]) = true ∨ ((n.toList == [108, 105]) = false ∧ (n.toList == [100, 100]) = true) ∨ ((n.toList == [108, 105]) = false ∧ (n.toList == [100, 100]) = false ∧ (n.toList == [100, 116]) = true) := by
  unfold para at h
  rw [Bool.or_eq_true, Bool.or_eq_true, decide_eq_true_iff, decide_eq_true_iff, decide_eq_true_iff] at h
  have e1 : n_li.toList = [108, 105] := by rw [toList_L]
  have e2 : n_dd.toList = [100, 100] := by rw [toList_L]
  have e3 : n_dt.toList = [100, 116] := by rw [toList_L]
  rcases h with (rfl | rfl) | rfl
  · exact .inl (by rw [e1]; rfl)
  · exact .inr (.inl ⟨by rw [e2]; rfl, by rw [e2]; rfl⟩)
  · exact .inr (.inr ⟨by rw [e3]; rfl, by rw [e3]; rfl, by rw [e3]; rfl⟩)
theorem para_false {n : ByteArray} (h : para n = false) : (n.toList == [108, 105]) = false ∧ (n.toList == [100, 100]) = false ∧ (n.toList == [100, 116]) = false := by
  unfold para at h
  rw [Bool.or_eq_false_iff, Bool.or_eq_false_iff, decide_eq_false_iff_not, decide_eq_false_iff_not, decide_eq_false_iff_not] at h
  have e1 : n_li.toList = [108, 105] := by rw [toList_L]
  have e2 : n_dd.toList = [100, 100] := by rw [toList_L]
  have e3 : n_dt.toList = [100, 116] := by rw [toList_L]
  rw [← e1, ← e2, ← e3, eq_of_toList, eq_of_toList, eq_of_toList]
  exact ⟨decide_eq_false h.1.1, decide_eq_false h.1.2, decide_eq_false h.2⟩
theorem opened_yes {n : ByteArray} (h : para n = true) (s : List ByteArray) : openedS n s = closedS (closesL n_p) (wallsL n_p) (closedS (closesL n) (wallsL n) s) := by
  unfold openedS
  rw [if_pos h]
  rfl
theorem opened_no {n : ByteArray} (h : para n = false) (s : List ByteArray) : openedS n s = closedS (closesL n) (wallsL n) s := by
  unfold openedS
  rw [if_neg (by rw [h]; simp)]

set_option maxRecDepth 100000 in
set_option maxHeartbeats 1000000 in
theorem leftOpen_yes (A : Option Addr) (c : Nat) (l : List ByteArray) (n : ByteArray) (w : World) (hm : l.length ≤ 1000000) (hc : l.length ≤ c) (hr : Rd w w.heap.size A l) (hp : para n = true) :
    Calls Try.prog 67 #[.slice A l.length c, .string n] w fun e w' => ∃ k : Nat, e = .returned (.slice A k c) ∧ k ≤ l.length ∧ (l.take k).reverse = openedS n l.reverse ∧ Below w.heap.size w w' := by
  have HR := Lib.hid hr; have HO := Lib.hid (opened_yes hp l.reverse)
  have hq := para_true hp
  clear hr hp
  rcases hq with q1 | ⟨q1, q2⟩ | ⟨q1, q2, q3⟩
  · have HH := HO
    clear HH
    go_enter Try.func67, Try.ntmps67
    go_wp2_with fail
    refine (closed_any A c l n w hm hc HR.out).mono ?_
    rintro e w1 ⟨k, rfl, hk, hcl, b1⟩
    have hkl : (l.take k).length = k := by rw [List.length_take]; omega
    have hr1 : Rd w1 w1.heap.size A (l.take k) := ((HR.out.below b1 (Nat.le_refl _)).more b1.size).take k
    have HC := Lib.hid hcl; have HB := Lib.hid b1; have HKL := Lib.hid hkl; have HR1 := Lib.hid hr1
    clear hcl b1 hkl hr1
    go_wp2_with fail
    refine (closed1 _ (l.take k) n_p w1 (by rw [HKL.out]; omega) A c (by rw [HKL.out]) (by rw [HKL.out]; omega) HR1.out).mono ?_
    rintro e w2 ⟨k2, rfl, hk2, hcl2, b2⟩
    rw [HKL.out] at hk2
    have et : (l.take k).take k2 = l.take k2 := by rw [List.take_take, Nat.min_eq_left hk2]
    rw [et, HC.out] at hcl2
    have HC2 := Lib.hid hcl2
    have HB2 := Lib.hid (bt HB.out b2)
    clear hcl2 et b2
    go_wp2
    go_ret
    exact ⟨k2, rfl, Nat.le_trans hk2 hk, by rw [HC2.out, HO.out], HB2.out⟩
  · have HH := HO
    clear HH
    go_enter Try.func67, Try.ntmps67
    go_wp2_with fail
    refine (closed_any A c l n w hm hc HR.out).mono ?_
    rintro e w1 ⟨k, rfl, hk, hcl, b1⟩
    have hkl : (l.take k).length = k := by rw [List.length_take]; omega
    have hr1 : Rd w1 w1.heap.size A (l.take k) := ((HR.out.below b1 (Nat.le_refl _)).more b1.size).take k
    have HC := Lib.hid hcl; have HB := Lib.hid b1; have HKL := Lib.hid hkl; have HR1 := Lib.hid hr1
    clear hcl b1 hkl hr1
    go_wp2_with fail
    refine (closed1 _ (l.take k) n_p w1 (by rw [HKL.out]; omega) A c (by rw [HKL.out]) (by rw [HKL.out]; omega) HR1.out).mono ?_
    rintro e w2 ⟨k2, rfl, hk2, hcl2, b2⟩
    rw [HKL.out] at hk2
    have et : (l.take k).take k2 = l.take k2 := by rw [List.take_take, Nat.min_eq_left hk2]
    rw [et, HC.out] at hcl2
    have HC2 := Lib.hid hcl2
    have HB2 := Lib.hid (bt HB.out b2)
    clear hcl2 et b2
    go_wp2
    go_ret
    exact ⟨k2, rfl, Nat.le_trans hk2 hk, by rw [HC2.out, HO.out], HB2.out⟩
  · have HH := HO
    clear HH
    go_enter Try.func67, Try.ntmps67
    go_wp2_with fail
    refine (closed_any A c l n w hm hc HR.out).mono ?_
    rintro e w1 ⟨k, rfl, hk, hcl, b1⟩
    have hkl : (l.take k).length = k := by rw [List.length_take]; omega
    have hr1 : Rd w1 w1.heap.size A (l.take k) := ((HR.out.below b1 (Nat.le_refl _)).more b1.size).take k
    have HC := Lib.hid hcl; have HB := Lib.hid b1; have HKL := Lib.hid hkl; have HR1 := Lib.hid hr1
    clear hcl b1 hkl hr1
    go_wp2_with fail
    refine (closed1 _ (l.take k) n_p w1 (by rw [HKL.out]; omega) A c (by rw [HKL.out]) (by rw [HKL.out]; omega) HR1.out).mono ?_
    rintro e w2 ⟨k2, rfl, hk2, hcl2, b2⟩
    rw [HKL.out] at hk2
    have et : (l.take k).take k2 = l.take k2 := by rw [List.take_take, Nat.min_eq_left hk2]
    rw [et, HC.out] at hcl2
    have HC2 := Lib.hid hcl2
    have HB2 := Lib.hid (bt HB.out b2)
    clear hcl2 et b2
    go_wp2
    go_ret
    exact ⟨k2, rfl, Nat.le_trans hk2 hk, by rw [HC2.out, HO.out], HB2.out⟩
set_option maxRecDepth 100000 in
set_option maxHeartbeats 1000000 in
theorem leftOpen_no (A : Option Addr) (c : Nat) (l : List ByteArray) (n : ByteArray) (w : World) (hm : l.length ≤ 1000000) (hc : l.length ≤ c) (hr : Rd w w.heap.size A l) (hp : para n = false) :
    Calls Try.prog 67 #[.slice A l.length c, .string n] w fun e w' => ∃ k : Nat, e = .returned (.slice A k c) ∧ k ≤ l.length ∧ (l.take k).reverse = openedS n l.reverse ∧ Below w.heap.size w w' := by
  have HO := Lib.hid (opened_no hp l.reverse)
  obtain ⟨q1, q2, q3⟩ := para_false hp
  clear hp
  go_enter Try.func67, Try.ntmps67
  go_wp2_with fail
  refine (closed_any A c l n w hm hc hr).mono ?_
  rintro e w1 ⟨k, rfl, hk, hcl, b1⟩
  have HC := Lib.hid hcl; have HB := Lib.hid b1
  clear hcl b1 hr
  go_wp2
  go_ret
  exact ⟨k, rfl, hk, by rw [HC.out, HO.out], HB.out⟩
theorem leftOpen_any (A : Option Addr) (c : Nat) (l : List ByteArray) (n : ByteArray) (w : World) (hm : l.length ≤ 1000000) (hc : l.length ≤ c) (hr : Rd w w.heap.size A l) :
    Calls Try.prog 67 #[.slice A l.length c, .string n] w fun e w' => ∃ k : Nat, e = .returned (.slice A k c) ∧ k ≤ l.length ∧ (l.take k).reverse = openedS n l.reverse ∧ Below w.heap.size w w' := by
  cases hp : para n with
  | true => exact leftOpen_yes A c l n w hm hc hr hp
  | false => exact leftOpen_no A c l n w hm hc hr hp

theorem nested_any (n : ByteArray) (V : Value) (l : List ByteArray) (w : World) (hm : l.length ≤ 1000000) (h : Sv w w.heap.size V l) (q : Bool) (hq : nestedB n l = q) :
    Calls Try.prog 54 #[.string n, V] w fun e w' => e = .returned (.bool q) ∧ Below w.heap.size w w' := by
  obtain ⟨A, c, rfl, hc, _, hr⟩ := h
  go_enter Try.func54, Try.ntmps54
  go_wp2_with fail
  refine (leftOpen_any A c l n w hm hc hr).mono ?_
  rintro e w1 ⟨k, rfl, hk, ho, b1⟩
  have hkl : (l.take k).length = k := by rw [List.length_take]; omega
  have he : ((k : Int) == (l.length : Int)) = q := by
    rw [← hq, nestedB, ← ho, List.length_reverse, hkl, Bool.eq_iff_iff, beq_iff_eq, decide_eq_true_iff]
    omega
  have HB := Lib.hid b1
  clear b1 ho hq hkl
  go_wp2
  go_ret
  exact ⟨rfl, HB.out⟩

end Go.Proofs.Ytenmlpfjeohkiaa.Bu

namespace Go.Proofs.Ytenmlpfjeohkiaa.Re
set_option maxRecDepth 100000
set_option linter.unusedSimpArgs false
set_option linter.unusedVariables false
open Go.RowKit Ba Rm
set_option maxRecDepth 100000 in
set_option maxHeartbeats 4000000 in
theorem write_false (s : ByteArray) (w : World) (hs : s.size ≤ 10000000) :
    Calls Try.prog 22 #[.string s, .bool false] w fun e w' => e = .returned (.string (B (esc false (L s)))) ∧ Below w.heap.size w w' := by
  have hle := (len_esc false (L s)).2.1
  rw [size_L] at hle
  have ho0 := OwnB.made w
  have hb0 := below_new w (.cells #[] 5)
  go_enter Try.func22, Try.ntmps22
  go_wp2
  go_loopw [5, 6] (fun v i wr => ∃ (k : Nat) (acc : List UInt8), i = .int .i64 k ∧ k ≤ s.size ∧ OwnB w.heap.size wr v acc ∧ acc ++ esc false ((L s).drop k) = esc false (L s) ∧ Below w.heap.size w wr) (fun _ i _ => s.size - (intOf i).toNat)
  case atStart => exact ⟨0, [], rfl, Nat.zero_le _, ho0, by simp, hb0⟩
  case round =>
    clear ho0 hb0
    obtain ⟨k, acc, rfl, hks, hown, hc, hbel⟩ := hrel
    have hN := hbel.size
    have hal : acc.length ≤ 60000000 := by
      have := congrArg List.length hc
      rw [List.length_append] at this
      omega
    have hl1 : acc.length + 1 ≤ 140737488355328 := by omega
    have hl6 : ∀ t : ByteArray, t.size ≤ 6 → acc.length + t.size ≤ 140737488355328 := fun t h => by omega
    clear hle hal
    by_cases hp : k < s.size
    · rw [drop_cons s k hp] at hc
      have hxe : s.extract k (k + 1) = B [s[k]] := B_of (by rw [L_extract, Nat.add_sub_cancel_left, drop_cons s k hp]; rfl)
      have HX := Lib.hid hxe; clear hxe
      by_cases h38 : s[k] = 38
      · have hb38 : (((s[k].toNat : Int)) == 38) = true := by rw [h38]; rfl
        have hb60 : (((s[k].toNat : Int)) == 60) = false := by rw [h38]; rfl
        have hb62 : (((s[k].toNat : Int)) == 62) = false := by rw [h38]; rfl
        have hb34 : (((s[k].toNat : Int)) == 34) = false := by rw [h38]; rfl
        have hb194 : (((s[k].toNat : Int)) == 194) = false := by rw [h38]; rfl
        rw [esc_byte _ (fun e => absurd (h38.symm.trans e.1) (by decide)), h38, show e1 false 38 = L ⟨#[38, 97, 109, 112, 59]⟩ from rfl] at hc
        have HC := Lib.hid hc; clear hc h38
        go_wp2_with (at_builtin; refine app_str wr rfl (.tmp 48) (.tmp 49) rfl w.heap.size _ acc ⟨#[38, 97, 109, 112, 59]⟩ rfl hown rfl (hl6 _ (by decide)) hN ?_; intro v4 w4 hown4 hk4)
        go_roundw
        case rel => exact ⟨k + 1, _, by go_num, by omega, hown4, by rw [List.append_assoc]; exact HC.out, hk4 _ hbel⟩
        case measure => simp [intOf]; omega
      by_cases h60 : s[k] = 60
      · have hb38 : (((s[k].toNat : Int)) == 38) = false := by rw [h60]; rfl
        have hb60 : (((s[k].toNat : Int)) == 60) = true := by rw [h60]; rfl
        have hb62 : (((s[k].toNat : Int)) == 62) = false := by rw [h60]; rfl
        have hb34 : (((s[k].toNat : Int)) == 34) = false := by rw [h60]; rfl
        have hb194 : (((s[k].toNat : Int)) == 194) = false := by rw [h60]; rfl
        rw [esc_byte _ (fun e => absurd (h60.symm.trans e.1) (by decide)), h60, show e1 false 60 = L ⟨#[38, 108, 116, 59]⟩ from rfl] at hc
        have HC := Lib.hid hc; clear hc h60
        go_wp2_with (at_builtin; refine app_str wr rfl (.tmp 48) (.tmp 49) rfl w.heap.size _ acc ⟨#[38, 108, 116, 59]⟩ rfl hown rfl (hl6 _ (by decide)) hN ?_; intro v4 w4 hown4 hk4)
        go_roundw
        case rel => exact ⟨k + 1, _, by go_num, by omega, hown4, by rw [List.append_assoc]; exact HC.out, hk4 _ hbel⟩
        case measure => simp [intOf]; omega
      by_cases h62 : s[k] = 62
      · have hb38 : (((s[k].toNat : Int)) == 38) = false := by rw [h62]; rfl
        have hb60 : (((s[k].toNat : Int)) == 60) = false := by rw [h62]; rfl
        have hb62 : (((s[k].toNat : Int)) == 62) = true := by rw [h62]; rfl
        have hb34 : (((s[k].toNat : Int)) == 34) = false := by rw [h62]; rfl
        have hb194 : (((s[k].toNat : Int)) == 194) = false := by rw [h62]; rfl
        rw [esc_byte _ (fun e => absurd (h62.symm.trans e.1) (by decide)), h62, show e1 false 62 = L ⟨#[38, 103, 116, 59]⟩ from rfl] at hc
        have HC := Lib.hid hc; clear hc h62
        go_wp2_with (at_builtin; refine app_str wr rfl (.tmp 48) (.tmp 49) rfl w.heap.size _ acc ⟨#[38, 103, 116, 59]⟩ rfl hown rfl (hl6 _ (by decide)) hN ?_; intro v4 w4 hown4 hk4)
        go_roundw
        case rel => exact ⟨k + 1, _, by go_num, by omega, hown4, by rw [List.append_assoc]; exact HC.out, hk4 _ hbel⟩
        case measure => simp [intOf]; omega
      by_cases h34 : s[k] = 34
      · have hb38 : (((s[k].toNat : Int)) == 38) = false := by rw [h34]; rfl
        have hb60 : (((s[k].toNat : Int)) == 60) = false := by rw [h34]; rfl
        have hb62 : (((s[k].toNat : Int)) == 62) = false := by rw [h34]; rfl
        have hb34 : (((s[k].toNat : Int)) == 34) = true := by rw [h34]; rfl
        have hb194 : (((s[k].toNat : Int)) == 194) = false := by rw [h34]; rfl
        rw [esc_byte _ (fun e => absurd (h34.symm.trans e.1) (by decide)), show e1 false s[k] = [s[k]] from by rw [h34]; rfl] at hc
        have HC := Lib.hid hc; clear hc h34
        go_wp2_with (at_builtin; refine app_str wr rfl (.tmp 48) (.tmp 49) rfl w.heap.size _ acc (s.extract k (k + 1)) rfl hown rfl (hl6 _ (by rw [HX.out, size_B]; exact Nat.le_add_left 1 5)) hN ?_; intro v4 w4 hown4 hk4)
        go_roundw
        case rel => exact ⟨k + 1, _, by go_num, by omega, hown4, by rw [HX.out, L_B, List.append_assoc]; exact HC.out, hk4 _ hbel⟩
        case measure => simp [intOf]; omega
      have he1 : e1 false s[k] = [s[k]] := by simp [e1, h38, h60, h62, h34]
      have hb38 : (((s[k].toNat : Int)) == 38) = false := u8_ne (b := 38) h38
      have hb60 : (((s[k].toNat : Int)) == 60) = false := u8_ne (b := 60) h60
      have hb62 : (((s[k].toNat : Int)) == 62) = false := u8_ne (b := 62) h62
      have hb34 : (((s[k].toNat : Int)) == 34) = false := u8_ne (b := 34) h34
      clear h38 h60 h62 h34
      by_cases h194 : s[k] = 194
      · have hb194 : (((s[k].toNat : Int)) == 194) = true := by rw [h194]; rfl
        by_cases hk1 : k + 1 < s.size
        · have hd1 := drop_cons s (k + 1) hk1
          by_cases h160 : s[k + 1] = 160
          · have hb160 : (((s[k + 1].toNat : Int)) == 160) = true := by rw [h160]; rfl
            rw [hd1, h194, h160, esc_nbsp, show ([38, 110, 98, 115, 112, 59] : List UInt8) = L ⟨#[38, 110, 98, 115, 112, 59]⟩ from rfl] at hc
            have HC := Lib.hid hc; clear hc hd1 h194 h160 he1
            go_wp2_with (at_builtin; refine app_str wr rfl (.tmp 48) (.tmp 49) rfl w.heap.size _ acc ⟨#[38, 110, 98, 115, 112, 59]⟩ rfl hown rfl (hl6 _ (by decide)) hN ?_; intro v4 w4 hown4 hk4)
            go_roundw
            case rel => exact ⟨k + 2, _, by go_num, by omega, hown4, by rw [List.append_assoc]; exact HC.out, hk4 _ hbel⟩
            case measure => simp [intOf]; omega
          · have hb160 : (((s[k + 1].toNat : Int)) == 160) = false := u8_ne (b := 160) h160
            rw [esc_byte _ (by rw [hd1]; intro e; simp at e; exact h160 e.2), he1] at hc
            have HC := Lib.hid hc; clear hc hd1 h194 h160 he1
            go_wp2_with (at_builtin; refine app_str wr rfl (.tmp 48) (.tmp 49) rfl w.heap.size _ acc (s.extract k (k + 1)) rfl hown rfl (hl6 _ (by rw [HX.out, size_B]; exact Nat.le_add_left 1 5)) hN ?_; intro v4 w4 hown4 hk4)
            go_roundw
            case rel => exact ⟨k + 1, _, by go_num, by omega, hown4, by rw [HX.out, L_B, List.append_assoc]; exact HC.out, hk4 _ hbel⟩
            case measure => simp [intOf]; omega
        · rw [esc_byte _ (by rw [drop_nil s (k + 1) hk1]; intro e; simp at e), he1] at hc
          have HC := Lib.hid hc; clear hc h194 he1
          go_wp2_with (at_builtin; refine app_str wr rfl (.tmp 48) (.tmp 49) rfl w.heap.size _ acc (s.extract k (k + 1)) rfl hown rfl (hl6 _ (by rw [HX.out, size_B]; exact Nat.le_add_left 1 5)) hN ?_; intro v4 w4 hown4 hk4)
          go_roundw
          case rel => exact ⟨k + 1, _, by go_num, by omega, hown4, by rw [HX.out, L_B, List.append_assoc]; exact HC.out, hk4 _ hbel⟩
          case measure => simp [intOf]; omega
      · have hb194 : (((s[k].toNat : Int)) == 194) = false := u8_ne (b := 194) h194
        rw [esc_byte _ (fun e => h194 e.1), he1] at hc
        have HC := Lib.hid hc; clear hc h194 he1
        go_wp2_with (at_builtin; refine app_str wr rfl (.tmp 48) (.tmp 49) rfl w.heap.size _ acc (s.extract k (k + 1)) rfl hown rfl (hl6 _ (by rw [HX.out, size_B]; exact Nat.le_add_left 1 5)) hN ?_; intro v4 w4 hown4 hk4)
        go_roundw
        case rel => exact ⟨k + 1, _, by go_num, by omega, hown4, by rw [HX.out, L_B, List.append_assoc]; exact HC.out, hk4 _ hbel⟩
        case measure => simp [intOf]; omega
    · have hcv := hown.string
      rw [drop_nil s k hp, esc_nil, List.append_nil] at hc
      subst hc
      clear hl6
      go_wp2
      go_ret
      exact ⟨rfl, hbel⟩

set_option maxRecDepth 100000 in
set_option maxHeartbeats 4000000 in
theorem write_true (s : ByteArray) (w : World) (hs : s.size ≤ 10000000) :
    Calls Try.prog 22 #[.string s, .bool true] w fun e w' => e = .returned (.string (B (esc true (L s)))) ∧ Below w.heap.size w w' := by
  have hle := (len_esc true (L s)).2.1
  rw [size_L] at hle
  have ho0 := OwnB.made w
  have hb0 := below_new w (.cells #[] 5)
  go_enter Try.func22, Try.ntmps22
  go_wp2
  go_loopw [5, 6] (fun v i wr => ∃ (k : Nat) (acc : List UInt8), i = .int .i64 k ∧ k ≤ s.size ∧ OwnB w.heap.size wr v acc ∧ acc ++ esc true ((L s).drop k) = esc true (L s) ∧ Below w.heap.size w wr) (fun _ i _ => s.size - (intOf i).toNat)
  case atStart => exact ⟨0, [], rfl, Nat.zero_le _, ho0, by simp, hb0⟩
  case round =>
    clear ho0 hb0
    obtain ⟨k, acc, rfl, hks, hown, hc, hbel⟩ := hrel
    have hN := hbel.size
    have hal : acc.length ≤ 60000000 := by
      have := congrArg List.length hc
      rw [List.length_append] at this
      omega
    have hl1 : acc.length + 1 ≤ 140737488355328 := by omega
    have hl6 : ∀ t : ByteArray, t.size ≤ 6 → acc.length + t.size ≤ 140737488355328 := fun t h => by omega
    clear hle hal
    by_cases hp : k < s.size
    · rw [drop_cons s k hp] at hc
      have hxe : s.extract k (k + 1) = B [s[k]] := B_of (by rw [L_extract, Nat.add_sub_cancel_left, drop_cons s k hp]; rfl)
      have HX := Lib.hid hxe; clear hxe
      by_cases h38 : s[k] = 38
      · have hb38 : (((s[k].toNat : Int)) == 38) = true := by rw [h38]; rfl
        have hb60 : (((s[k].toNat : Int)) == 60) = false := by rw [h38]; rfl
        have hb62 : (((s[k].toNat : Int)) == 62) = false := by rw [h38]; rfl
        have hb34 : (((s[k].toNat : Int)) == 34) = false := by rw [h38]; rfl
        have hb194 : (((s[k].toNat : Int)) == 194) = false := by rw [h38]; rfl
        rw [esc_byte _ (fun e => absurd (h38.symm.trans e.1) (by decide)), h38, show e1 true 38 = L ⟨#[38, 97, 109, 112, 59]⟩ from rfl] at hc
        have HC := Lib.hid hc; clear hc h38
        go_wp2_with (at_builtin; refine app_str wr rfl (.tmp 48) (.tmp 49) rfl w.heap.size _ acc ⟨#[38, 97, 109, 112, 59]⟩ rfl hown rfl (hl6 _ (by decide)) hN ?_; intro v4 w4 hown4 hk4)
        go_roundw
        case rel => exact ⟨k + 1, _, by go_num, by omega, hown4, by rw [List.append_assoc]; exact HC.out, hk4 _ hbel⟩
        case measure => simp [intOf]; omega
      by_cases h60 : s[k] = 60
      · have hb38 : (((s[k].toNat : Int)) == 38) = false := by rw [h60]; rfl
        have hb60 : (((s[k].toNat : Int)) == 60) = true := by rw [h60]; rfl
        have hb62 : (((s[k].toNat : Int)) == 62) = false := by rw [h60]; rfl
        have hb34 : (((s[k].toNat : Int)) == 34) = false := by rw [h60]; rfl
        have hb194 : (((s[k].toNat : Int)) == 194) = false := by rw [h60]; rfl
        rw [esc_byte _ (fun e => absurd (h60.symm.trans e.1) (by decide)), h60, show e1 true 60 = L ⟨#[38, 108, 116, 59]⟩ from rfl] at hc
        have HC := Lib.hid hc; clear hc h60
        go_wp2_with (at_builtin; refine app_str wr rfl (.tmp 48) (.tmp 49) rfl w.heap.size _ acc ⟨#[38, 108, 116, 59]⟩ rfl hown rfl (hl6 _ (by decide)) hN ?_; intro v4 w4 hown4 hk4)
        go_roundw
        case rel => exact ⟨k + 1, _, by go_num, by omega, hown4, by rw [List.append_assoc]; exact HC.out, hk4 _ hbel⟩
        case measure => simp [intOf]; omega
      by_cases h62 : s[k] = 62
      · have hb38 : (((s[k].toNat : Int)) == 38) = false := by rw [h62]; rfl
        have hb60 : (((s[k].toNat : Int)) == 60) = false := by rw [h62]; rfl
        have hb62 : (((s[k].toNat : Int)) == 62) = true := by rw [h62]; rfl
        have hb34 : (((s[k].toNat : Int)) == 34) = false := by rw [h62]; rfl
        have hb194 : (((s[k].toNat : Int)) == 194) = false := by rw [h62]; rfl
        rw [esc_byte _ (fun e => absurd (h62.symm.trans e.1) (by decide)), h62, show e1 true 62 = L ⟨#[38, 103, 116, 59]⟩ from rfl] at hc
        have HC := Lib.hid hc; clear hc h62
        go_wp2_with (at_builtin; refine app_str wr rfl (.tmp 48) (.tmp 49) rfl w.heap.size _ acc ⟨#[38, 103, 116, 59]⟩ rfl hown rfl (hl6 _ (by decide)) hN ?_; intro v4 w4 hown4 hk4)
        go_roundw
        case rel => exact ⟨k + 1, _, by go_num, by omega, hown4, by rw [List.append_assoc]; exact HC.out, hk4 _ hbel⟩
        case measure => simp [intOf]; omega
      by_cases h34 : s[k] = 34
      · have hb38 : (((s[k].toNat : Int)) == 38) = false := by rw [h34]; rfl
        have hb60 : (((s[k].toNat : Int)) == 60) = false := by rw [h34]; rfl
        have hb62 : (((s[k].toNat : Int)) == 62) = false := by rw [h34]; rfl
        have hb34 : (((s[k].toNat : Int)) == 34) = true := by rw [h34]; rfl
        have hb194 : (((s[k].toNat : Int)) == 194) = false := by rw [h34]; rfl
        rw [esc_byte _ (fun e => absurd (h34.symm.trans e.1) (by decide)), h34, show e1 true 34 = L ⟨#[38, 113, 117, 111, 116, 59]⟩ from rfl] at hc
        have HC := Lib.hid hc; clear hc h34
        go_wp2_with (at_builtin; refine app_str wr rfl (.tmp 48) (.tmp 49) rfl w.heap.size _ acc ⟨#[38, 113, 117, 111, 116, 59]⟩ rfl hown rfl (hl6 _ (by decide)) hN ?_; intro v4 w4 hown4 hk4)
        go_roundw
        case rel => exact ⟨k + 1, _, by go_num, by omega, hown4, by rw [List.append_assoc]; exact HC.out, hk4 _ hbel⟩
        case measure => simp [intOf]; omega
      have he1 : e1 true s[k] = [s[k]] := by simp [e1, h38, h60, h62, h34]
      have hb38 : (((s[k].toNat : Int)) == 38) = false := u8_ne (b := 38) h38
      have hb60 : (((s[k].toNat : Int)) == 60) = false := u8_ne (b := 60) h60
      have hb62 : (((s[k].toNat : Int)) == 62) = false := u8_ne (b := 62) h62
      have hb34 : (((s[k].toNat : Int)) == 34) = false := u8_ne (b := 34) h34
      clear h38 h60 h62 h34
      by_cases h194 : s[k] = 194
      · have hb194 : (((s[k].toNat : Int)) == 194) = true := by rw [h194]; rfl
        by_cases hk1 : k + 1 < s.size
        · have hd1 := drop_cons s (k + 1) hk1
          by_cases h160 : s[k + 1] = 160
          · have hb160 : (((s[k + 1].toNat : Int)) == 160) = true := by rw [h160]; rfl
            rw [hd1, h194, h160, esc_nbsp, show ([38, 110, 98, 115, 112, 59] : List UInt8) = L ⟨#[38, 110, 98, 115, 112, 59]⟩ from rfl] at hc
            have HC := Lib.hid hc; clear hc hd1 h194 h160 he1
            go_wp2_with (at_builtin; refine app_str wr rfl (.tmp 48) (.tmp 49) rfl w.heap.size _ acc ⟨#[38, 110, 98, 115, 112, 59]⟩ rfl hown rfl (hl6 _ (by decide)) hN ?_; intro v4 w4 hown4 hk4)
            go_roundw
            case rel => exact ⟨k + 2, _, by go_num, by omega, hown4, by rw [List.append_assoc]; exact HC.out, hk4 _ hbel⟩
            case measure => simp [intOf]; omega
          · have hb160 : (((s[k + 1].toNat : Int)) == 160) = false := u8_ne (b := 160) h160
            rw [esc_byte _ (by rw [hd1]; intro e; simp at e; exact h160 e.2), he1] at hc
            have HC := Lib.hid hc; clear hc hd1 h194 h160 he1
            go_wp2_with (at_builtin; refine app_str wr rfl (.tmp 48) (.tmp 49) rfl w.heap.size _ acc (s.extract k (k + 1)) rfl hown rfl (hl6 _ (by rw [HX.out, size_B]; exact Nat.le_add_left 1 5)) hN ?_; intro v4 w4 hown4 hk4)
            go_roundw
            case rel => exact ⟨k + 1, _, by go_num, by omega, hown4, by rw [HX.out, L_B, List.append_assoc]; exact HC.out, hk4 _ hbel⟩
            case measure => simp [intOf]; omega
        · rw [esc_byte _ (by rw [drop_nil s (k + 1) hk1]; intro e; simp at e), he1] at hc
          have HC := Lib.hid hc; clear hc h194 he1
          go_wp2_with (at_builtin; refine app_str wr rfl (.tmp 48) (.tmp 49) rfl w.heap.size _ acc (s.extract k (k + 1)) rfl hown rfl (hl6 _ (by rw [HX.out, size_B]; exact Nat.le_add_left 1 5)) hN ?_; intro v4 w4 hown4 hk4)
          go_roundw
          case rel => exact ⟨k + 1, _, by go_num, by omega, hown4, by rw [HX.out, L_B, List.append_assoc]; exact HC.out, hk4 _ hbel⟩
          case measure => simp [intOf]; omega
      · have hb194 : (((s[k].toNat : Int)) == 194) = false := u8_ne (b := 194) h194
        rw [esc_byte _ (fun e => h194 e.1), he1] at hc
        have HC := Lib.hid hc; clear hc h194 he1
        go_wp2_with (at_builtin; refine app_str wr rfl (.tmp 48) (.tmp 49) rfl w.heap.size _ acc (s.extract k (k + 1)) rfl hown rfl (hl6 _ (by rw [HX.out, size_B]; exact Nat.le_add_left 1 5)) hN ?_; intro v4 w4 hown4 hk4)
        go_roundw
        case rel => exact ⟨k + 1, _, by go_num, by omega, hown4, by rw [HX.out, L_B, List.append_assoc]; exact HC.out, hk4 _ hbel⟩
        case measure => simp [intOf]; omega
    · have hcv := hown.string
      rw [drop_nil s k hp, esc_nil, List.append_nil] at hc
      subst hc
      clear hl6
      go_wp2
      go_ret
      exact ⟨rfl, hbel⟩

end Go.Proofs.Ytenmlpfjeohkiaa.Re

namespace Go.Proofs.Ytenmlpfjeohkiaa.Wr
set_option maxRecDepth 100000
set_option linter.unusedSimpArgs false
set_option linter.unusedVariables false
open Go.RowKit Ba Fm Fo Nm Wm
open Ro (At Ro Cw ros rowO rowV below_new range2 range5 cells)
open To (Kb bulk_at)
open Tm (bulkA)
open Re (write_true write_false)
open Rm (dec esc)
theorem rb_below {w w' : World} {g : Nat} {x : Cw} (h : Rb w g x) (hb : Below w.heap.size w w') : Rb w' g x := (hb.block g h.lt).trans h
theorem ret_str {a b : ByteArray} (h : a = b) : Ending.returned (.string a) = .returned (.string b) := by rw [h]
theorem L_append (a b : ByteArray) : L (a ++ b) = L a ++ L b := by unfold L; rw [ByteArray.data_append, Array.toList_append]
theorem B_of {a : ByteArray} {l : List UInt8} (h : L a = l) : a = B l := by rw [← h, B_L]

set_option maxRecDepth 100000 in
set_option maxHeartbeats 4000000 in
theorem refTag_any (x : Cw) (N : Nat) (w : World) (hx : Ro.Att w N x) (hN : N ≤ w.heap.size) (hk : rb x.ro ≤ 10000000) :
    Calls Try.prog 24 #[rowV x] w fun e w' => e = .returned (.string (B (tagW x.ro))) ∧ Below w.heap.size w w' := by
  have hk1 : x.ro.name.size ≤ 10000000 := by unfold rb at hk; omega
  have hk2 : bulkA x.ro.attrs ≤ 10000000 := by unfold rb at hk; omega
  have hk3 : x.ro.attrs.length ≤ 10000000 := by unfold rb at hk; omega
  have hk4 := len_wAs x.ro.attrs
  have ht := Rb.new w x
  have hb := below_new w (rowO x)
  have hlen : (x.ro.attrs.flatMap wA).length ≤ 100000000 := by omega
  have HX := Lib.hid hx; have HT := Lib.hid ht; have HB := Lib.hid hb
  obtain ⟨y0, y1, y2, y3, y4⟩ := ht.c
  clear hx ht hb
  go_enter Try.func24, Try.ntmps24
  go_wp2_with fail
  obtain ⟨g, hg⟩ : ∃ g, w.heap.size = g := ⟨_, rfl⟩
  rw [hg] at HT ⊢
  clear y0 y1 y2 y3 y4
  go_loopw [3, 4] (fun v5 v6 wr => ∃ k u, v5 = .string u ∧ v6 = .int .i64 ((k : Nat) : Int) ∧ k ≤ x.ro.attrs.length ∧ L u = [60] ++ L x.ro.name ++ (x.ro.attrs.take k).flatMap wA ∧ Rb wr g x ∧ Below w.heap.size w wr) (fun _ v6 _ => x.ro.attrs.length - (intOf v6).toNat)
  case atStart => exact ⟨0, ⟨#[60]⟩ ++ x.ro.name, rfl, rfl, Nat.zero_le _, by rw [L_append, List.take_zero, List.flatMap_nil, List.append_nil], HT.out, HB.out⟩
  case round =>
    clear HT HB
    obtain ⟨k, u, rfl, rfl, hkl, hu, ht, hb⟩ := hrel
    obtain ⟨y0, y1, y2, y3, y4⟩ := ht.c
    by_cases hp : k < x.ro.attrs.length
    · have hlt : decide ((k : Int) < x.ro.attrs.length) = true := decide_eq_true (by omega)
      obtain ⟨b0, off0, y, hA, hb0, hdy, hry, hym⟩ := Ro.Ra.at_ (Ro.Ra.below (Ro.Ra.more HX.out.2.2.2.1 hN) hb) k hp
      rw [hA] at y4
      have hy : x.ro.attrs[k] = y := by
        rw [List.drop_eq_getElem_cons hp] at hdy
        injection hdy
      obtain ⟨f0, f1⟩ := range2 hry
      have hsl := sum_le x.ro.attrs k hp
      have hat := attr_take x.ro.attrs k hp
      have hbk := bulk_at x.ro.attrs k hp
      rw [hy] at hsl hat hbk
      have hus : u.size ≤ 200000000 := by
        have := congrArg List.length hu
        rw [size_L, List.length_append, List.length_append, size_L] at this
        simp only [List.length_cons, List.length_nil] at this
        omega
      have hys : y.value.size ≤ 10000000 := by omega
      have hyn : y.name.size ≤ 10000000 := by omega
      have hes := (Rm.len_esc true (L y.value)).2.1
      rw [size_L] at hes
      have hb0w : b0 < wr.heap.size := Nat.lt_of_lt_of_le hb0 hb.size
      have hbe : (B (esc true (L y.value))).size ≤ 60000000 := by rw [size_B]; omega
      have s1 : ¬ 9223372036854775807 < 1 + y.name.size := by omega
      have s2 : ¬ 9223372036854775807 < 1 + y.name.size + 2 := by omega
      have s3 : ¬ 9223372036854775807 < 1 + y.name.size + 2 + (B (esc true (L y.value))).size := by omega
      have s4 : ¬ 9223372036854775807 < 1 + y.name.size + 2 + (B (esc true (L y.value))).size + 1 := by omega
      have s5 : ¬ 9223372036854775807 < u.size + (1 + y.name.size + 2 + (B (esc true (L y.value))).size + 1) := by omega
      have HA := Lib.hid hA
      have HU := Lib.hid hu; have HTB := Lib.hid ht; have HB := Lib.hid hb; have HAT := Lib.hid hat; clear hu ht hb hat hdy hry hym hy hsl hbk hA y0 y1 y2 y3
      go_upto_region 5 with fail
      go_region_held3 (fun w' => w'.cell? ⟨g, 4, none⟩ = some (.slice (some ⟨b0, off0, none⟩) x.ro.attrs.length x.c) ∧ w'.cell? ⟨b0, off0 + k * 2, none⟩ = some (.string y.name) ∧ w'.cell? ⟨b0, off0 + k * 2 + 1, none⟩ = some (.string y.value)) (first | exact ⟨d0, d1, d2⟩ | exact ⟨y4, f0, f1⟩ | go_keep) (first
        | (go_at_call 22; refine (write_true y.value wr.drew hys).mono ?_; rintro e w4 ⟨rfl, hb4⟩; have hx4 := rb_below (show Rb wr.drew g x from HTB.out) hb4; have d0 := hx4.c.2.2.2.2; rw [HA.out] at d0; have d1 := (hb4.cell (p := ⟨b0, off0 + k * 2, none⟩) hb0w).trans f0; have d2 := (hb4.cell (p := ⟨b0, off0 + k * 2 + 1, none⟩) hb0w).trans f1; have HX4 := Lib.hid hx4; have HB4 := Lib.hid hb4; clear hx4 hb4))
      go_wp2
      go_roundw
      case rel =>
        refine ⟨k + 1, _, rfl, by go_num, by omega, ?_, HX4.out, bt HB.out (show Below wr.heap.size wr w4 from ⟨HB4.out.os, HB4.out.tape, HB4.out.output, HB4.out.size, HB4.out.block⟩)⟩
        rw [HAT.out, L_append, HU.out, L_append, L_append, L_append, L_append, L_B]
        show _ ++ ([32] ++ L y.name ++ [61, 34] ++ esc true (L y.value) ++ [34]) = _ ++ (_ ++ ([32] ++ (L y.name ++ ([61, 34] ++ (esc true (L y.value) ++ [34])))))
        simp only [List.append_assoc]
      case measure => simp [intOf]; omega
    · have hlt : decide ((k : Int) < x.ro.attrs.length) = false := decide_eq_false (by omega)
      rw [List.take_of_length_le (by omega)] at hu
      have hus : u.size ≤ 200000000 := by
        have := congrArg List.length hu
        rw [size_L, List.length_append, List.length_append, size_L] at this
        simp only [List.length_cons, List.length_nil] at this
        omega
      have hfin : u ++ ⟨#[62]⟩ = B (tagW x.ro) := by
        refine B_of ?_
        rw [L_append, hu]
        unfold tagW
        rfl
      have HF := Lib.hid hfin; have HB := Lib.hid hb; clear hu hb hfin
      go_wp2
      go_ret
      exact ⟨ret_str HF.out, HB.out⟩

end Go.Proofs.Ytenmlpfjeohkiaa.Wr

namespace Go.Proofs.Ytenmlpfjeohkiaa.Wr
set_option maxRecDepth 100000
set_option linter.unusedSimpArgs false
set_option linter.unusedVariables false
open Go.RowKit Ba Fm Fo Nm Wm
open Ro (At Ro Cw ros rowO rowV below_new range2 range5 cells)
open Tm (pre)
open To (Bx)
open Bm (nestedB)
theorem all_step (l : List At) (k : Nat) (h : k < l.length) : (l.drop k).all attB = (attB l[k] && (l.drop (k + 1)).all attB) := by
  rw [List.drop_eq_getElem_cons h, List.all_cons]
theorem bxb {w w' : World} {g : Nat} {x y : ByteArray} (h : Bx w g x y) (hb : Below w.heap.size w w') : Bx w' g x y := Bx.below h hb
set_option maxRecDepth 100000 in
set_option maxHeartbeats 2000000 in
theorem legalAttrs1 (A : Option Addr) (c : Nat) (l : List At) (N : Nat) (w : World) (hr : Ro.Ra w N A l) (hN : N ≤ w.heap.size) (hl : l.length ≤ 10000000) (hz : ∀ a ∈ l, a.name.size ≤ 10000000 ∧ a.value.size ≤ 10000000) (q : Bool) (hq : l.all attB = q) :
    Calls Try.prog 49 #[.slice A l.length c] w fun e w' => e = .returned (.bool q) ∧ Below w.heap.size w w' := by
  have HR := Lib.hid hr; have HQ := Lib.hid hq; have HZ := Lib.hid hz
  clear hr hq hz
  go_enter Try.func49, Try.ntmps49
  go_wp2
  go_loopw [7] (fun i wr => ∃ k : Nat, i = .int .i64 k ∧ k ≤ l.length ∧ (l.drop k).all attB = q ∧ Below w.heap.size w wr) (fun i _ => l.length - (intOf i).toNat)
  case atStart => exact ⟨0, rfl, Nat.zero_le _, by rw [List.drop_zero]; exact HQ.out, Below.refl _ _⟩
  case round =>
    obtain ⟨k, rfl, hk, hn, hb⟩ := hrel
    by_cases hp : k < l.length
    · obtain ⟨b0, off0, y, hA, hb0, hdy, hry, hym⟩ := Ro.Ra.at_ (Ro.Ra.below (Ro.Ra.more HR.out hN) hb) k hp
      have hst := all_step l k hp
      have hy : l[k] = y := by
        rw [List.drop_eq_getElem_cons hp] at hdy
        injection hdy
      rw [hn, hy] at hst
      obtain ⟨z1, z2⟩ := HZ.out y (by rw [← hy]; exact List.getElem_mem _)
      have z3 : y.name.size ≤ 140737488355328 := by omega
      have z4 : y.value.size ≤ 140737488355328 := by omega
      obtain ⟨a, ha⟩ : ∃ a, attrB y.name = a := ⟨_, rfl⟩
      obtain ⟨d, hd⟩ : ∃ d, cleanB (L y.name) = d := ⟨_, rfl⟩
      obtain ⟨e0, he0⟩ : ∃ e0, cleanB (L y.value) = e0 := ⟨_, rfl⟩
      unfold attB at hst
      rw [ha, hd, he0] at hst
      obtain ⟨f0, f1⟩ := range2 hry
      have hbx := Bx.new wr y.name y.value
      have c0 := hbx.c0
      have c1 := hbx.c1
      have HBX := Lib.hid hbx; have HST := Lib.hid hst; have HA := Lib.hid ha; have HD := Lib.hid hd; have HE := Lib.hid he0; have HB := Lib.hid (bt hb (below_new wr (.cells #[.string y.name, .string y.value] 41)))
      subst hA
      clear hbx hst ha hd he0 hb hdy hry hym hy hn
      go_wp2_with fail
      refine (Na.attr_any y.name _ z3).mono ?_
      rw [HA.out]
      rintro e w1 ⟨rfl, rfl⟩
      cases a with
      | false =>
        go_wp2
        go_ret
        exact ⟨ret_bool (by rw [HST.out]; rfl), HB.out⟩
      | true =>
        go_wp2_with fail
        refine (clean1 y.name _ z3 d HD.out).mono ?_
        rintro e w2 ⟨rfl, hb2⟩
        have hbx2 := bxb HBX.out hb2
        have c2 := hbx2.c1
        have HB2 := Lib.hid (bt HB.out hb2)
        clear hb2 hbx2 c0 c1
        cases d with
        | false =>
          go_wp2
          go_ret
          exact ⟨ret_bool (by rw [HST.out]; rfl), HB2.out⟩
        | true =>
          go_wp2_with fail
          refine (clean1 y.value w2 z4 e0 HE.out).mono ?_
          rintro e w3 ⟨rfl, hb3⟩
          have HB3 := Lib.hid (bt HB2.out hb3)
          clear hb3 c2
          cases e0 with
          | false =>
            go_wp2
            go_ret
            exact ⟨ret_bool (by rw [HST.out]; rfl), HB3.out⟩
          | true =>
            go_wp2
            go_roundw
            case rel => exact ⟨k + 1, by go_num, by omega, by rw [HST.out]; rfl, HB3.out⟩
            case measure => simp [intOf]; omega
    · rw [List.drop_of_length_le (by omega), List.all_nil] at hn
      subst hn
      have HB := Lib.hid hb
      clear hb
      go_wp2
      go_ret
      exact ⟨rfl, HB.out⟩

theorem att_sizes {x : Ro} (h : rb x ≤ 10000000) : x.attrs.length ≤ 10000000 ∧ ∀ a ∈ x.attrs, a.name.size ≤ 10000000 ∧ a.value.size ≤ 10000000 := by
  unfold rb at h
  refine ⟨by omega, fun a ha => ?_⟩
  obtain ⟨k, hk, rfl⟩ := List.getElem_of_mem ha
  have := To.bulk_at x.attrs k hk
  omega
set_option maxRecDepth 100000 in
set_option maxHeartbeats 2000000 in
theorem legal1 (x : Cw) (N : Nat) (w : World) (hx : Ro.Att w N x) (hN : N ≤ w.heap.size) (hrb : rb x.ro ≤ 10000000) (q : Bool) (hq : rowB x.ro = q) :
    Calls Try.prog 34 #[rowV x] w fun e w' => e = .returned (.bool q) ∧ Below w.heap.size w w' := by
  obtain ⟨hal, haz⟩ := att_sizes hrb
  have hns : x.ro.name.size ≤ 140737488355328 := by unfold rb at hrb; omega
  have hds : x.ro.data.size ≤ 140737488355328 := by unfold rb at hrb; omega
  obtain ⟨W1, hW1⟩ : ∃ W1, w.alloc (rowO x) = W1 := ⟨_, rfl⟩
  have hrb1 : Rb W1 w.heap.size x := by rw [← hW1]; exact Rb.new w x
  have hb1 : Below w.heap.size w W1 := by rw [← hW1]; exact below_new w _
  obtain ⟨c0, c1, c2, c3, c4⟩ := hrb1.c
  have hr1 : Ro.Ra W1 W1.heap.size x.A x.ro.attrs := Ro.Ra.more (Ro.Ra.below (Ro.Ra.more hx.2.2.2.1 hN) hb1) hb1.size
  have HW1 := Lib.hid hW1; have HRB := Lib.hid hrb1; have HB1 := Lib.hid hb1; have HR1 := Lib.hid hr1; have HAZ := Lib.hid haz
  clear hW1 hrb1 hb1 hr1 haz hx
  by_cases h0 : x.ro.kind = 0
  · have g0 : (x.ro.kind == 0) = true := beq_iff_eq.2 h0
    obtain ⟨a, ha⟩ : ∃ a, nameB x.ro.name = a := ⟨_, rfl⟩
    obtain ⟨b, hb⟩ : ∃ b, x.ro.attrs.all attB = b := ⟨_, rfl⟩
    unfold rowB at hq
    rw [if_pos h0, ha, hb] at hq
    have HA := Lib.hid ha; have HB := Lib.hid hb; have HQ := Lib.hid hq
    clear ha hb hq h0
    go_enter Try.func34, Try.ntmps34
    go_upto_region 1 with (fail)
    rw [HW1.out]
    go_wp2_with fail
    refine (legalName1 x.ro.name W1 hns a HA.out).mono ?_
    rintro e w2 ⟨rfl, hb2⟩
    have hc4 := (rb_below HRB.out hb2).c.2.2.2.2
    have HB2 := Lib.hid (bt HB1.out hb2)
    have hr2 : Ro.Ra w2 w2.heap.size x.A x.ro.attrs := Ro.Ra.more (Ro.Ra.below HR1.out hb2) hb2.size
    have HR2 := Lib.hid hr2
    clear hb2 c0 c1 c2 c3 c4 hr2
    cases a with
    | false =>
      go_wp2
      go_ret
      exact ⟨ret_bool (by rw [← HQ.out]; rfl), HB2.out⟩
    | true =>
      go_wp2_with fail
      refine (legalAttrs1 x.A x.c x.ro.attrs w2.heap.size w2 HR2.out (Nat.le_refl _) hal HAZ.out b HB.out).mono ?_
      rintro e w3 ⟨rfl, hb3⟩
      have HB3 := Lib.hid (bt HB2.out hb3)
      clear hb3 hc4
      go_wp2
      go_ret
      exact ⟨ret_bool (by rw [← HQ.out]; cases b <;> rfl), HB3.out⟩
  have g0 : (x.ro.kind == 0) = false := beq_eq_false_iff_ne.2 h0
  obtain ⟨b, hb⟩ : ∃ b, cleanB (L x.ro.data) = b := ⟨_, rfl⟩
  by_cases h2 : x.ro.kind = 2
  · have g2 : (x.ro.kind == 2) = true := beq_iff_eq.2 h2
    obtain ⟨a, ha⟩ : ∃ a, noteB (L x.ro.data) = a := ⟨_, rfl⟩
    unfold rowB at hq
    rw [if_neg h0, if_pos h2, ha, hb] at hq
    have HA := Lib.hid ha; have HB := Lib.hid hb; have HQ := Lib.hid hq
    clear ha hb hq h0 h2
    go_enter Try.func34, Try.ntmps34
    go_upto_region 1 with (fail)
    rw [HW1.out]
    go_wp2_with fail
    refine (legalComment1 x.ro.data W1 hds a HA.out).mono ?_
    rintro e w2 ⟨rfl, rfl⟩
    cases a with
    | false =>
      go_wp2
      go_ret
      exact ⟨ret_bool (by rw [← HQ.out]; rfl), HB1.out⟩
    | true =>
      go_wp2_with fail
      refine (clean1 x.ro.data W1 hds b HB.out).mono ?_
      rintro e w3 ⟨rfl, hb3⟩
      have HB3 := Lib.hid (bt HB1.out hb3)
      clear hb3 c0 c1 c2 c3 c4
      go_wp2
      go_ret
      exact ⟨ret_bool (by rw [← HQ.out]; cases b <;> rfl), HB3.out⟩
  · have g2 : (x.ro.kind == 2) = false := beq_eq_false_iff_ne.2 h2
    unfold rowB at hq
    rw [if_neg h0, if_neg h2, hb] at hq
    have HB := Lib.hid hb; have HQ := Lib.hid hq
    clear hb hq h0 h2
    go_enter Try.func34, Try.ntmps34
    go_upto_region 1 with (fail)
    rw [HW1.out]
    go_wp2_with fail
    refine (clean1 x.ro.data W1 hds b HB.out).mono ?_
    rintro e w3 ⟨rfl, hb3⟩
    have HB3 := Lib.hid (bt HB1.out hb3)
    clear hb3 c0 c1 c2 c3 c4
    go_wp2
    go_ret
    exact ⟨ret_bool HQ.out, HB3.out⟩

theorem last_at {s : List ByteArray} (h : 0 < s.length) : lastN s = s[s.length - 1] := by
  unfold lastN
  rw [List.getLastD_eq_getLast?, List.getLast?_eq_getElem?, List.getElem?_eq_getElem (by omega)]; rfl
set_option maxRecDepth 100000 in
set_option maxHeartbeats 2000000 in
theorem legalWithin1 (x : Cw) (V : Value) (s : List ByteArray) (w : World) (hs : Sv w w.heap.size V s) (hl : s.length ≤ 1000000) (hrb : rb x.ro ≤ 10000000) (q : Bool) (hq : withB x.ro s = q) :
    Calls Try.prog 35 #[rowV x, V] w fun e w' => e = .returned (.bool q) ∧ Below w.heap.size w w' := by
  have hns : x.ro.name.size ≤ 140737488355328 := by unfold rb at hrb; omega
  have hds : x.ro.data.size ≤ 140737488355328 := by unfold rb at hrb; omega
  obtain ⟨A, c, rfl, hc, hm, hr⟩ := hs
  obtain ⟨W1, hW1⟩ : ∃ W1, w.alloc (rowO x) = W1 := ⟨_, rfl⟩
  have hrb1 : Rb W1 w.heap.size x := by rw [← hW1]; exact Rb.new w x
  have hb1 : Below w.heap.size w W1 := by rw [← hW1]; exact below_new w _
  obtain ⟨g, hg⟩ : ∃ g, w.heap.size = g := ⟨_, rfl⟩
  have hr1 : Rd W1 W1.heap.size A s := (hr.below hb1 (Nat.le_refl _)).more hb1.size
  rw [hg] at hrb1
  have HW1 := Lib.hid hW1; have HRB := Lib.hid hrb1; have HB1 := Lib.hid hb1; have HR1 := Lib.hid hr1; have HQ := Lib.hid hq; have HG := Lib.hid hg
  clear hW1 hrb1 hb1 hr1 hr hq hg
  go_enter Try.func35, Try.ntmps35
  go_upto_if 8 with (fail)
  rw [HW1.out, HG.out]
  go_cut [5] from 9 to 14 (fun s5 wx => s5 = .string (lastN s) ∧ wx = W1)
  case first =>
    by_cases h : 0 < s.length
    · obtain ⟨b, off, rfl, hb, hcc⟩ := HR1.out h
      have hcell := hcc (s.length - 1) (by omega)
      rw [← last_at h] at hcell
      have hcast : (s.length : Int) - 1 = ((s.length - 1 : Nat) : Int) := by omega
      have hlt : s.length - 1 < s.length := by omega
      have hd : decide (0 < s.length) = true := decide_eq_true h
      clear hcc
      go_wp2
      go_meet
      exact ⟨rfl, rfl⟩
    · obtain rfl : s = [] := List.eq_nil_of_length_eq_zero (by omega)
      go_wp2
      go_meet
      exact ⟨rfl, rfl⟩
  case rest =>
    obtain ⟨rfl, rfl⟩ := hcut
    obtain ⟨p, hp⟩ : ∃ p, lastN s = p := ⟨_, rfl⟩
    have hq := HQ.out
    unfold withB at hq
    rw [hp] at hq
    rw [hp]
    obtain ⟨v, hv⟩ : ∃ v, isIn p voidL = v := ⟨_, rfl⟩
    obtain ⟨r, hr⟩ : ∃ r, isIn p rawL = r := ⟨_, rfl⟩
    obtain ⟨t, ht⟩ : ∃ t, isIn p softL = t := ⟨_, rfl⟩
    rw [hv, hr, ht] at hq
    have HV := Lib.hid hv; have HR := Lib.hid hr; have HT := Lib.hid ht; have HQ2 := Lib.hid hq
    clear hp hv hr ht hq HQ
    go_wp2_with fail
    refine (Na.void_any p wc).mono ?_
    rw [HV.out]
    rintro e w2 ⟨rfl, hb2⟩
    have HB2 := Lib.hid hb2
    clear hb2
    cases v with
    | true =>
      go_wp2
      go_ret
      exact ⟨ret_bool (by rw [← HQ2.out]; rfl), bt HB1.out HB2.out⟩
    | false =>
    go_wp2_with fail
    refine (Na.raw_any p w2).mono ?_
    rw [HR.out]
    rintro e w3 ⟨rfl, hb3⟩
    have HB3 := Lib.hid (bt HB2.out hb3)
    clear hb3
    have hrb3 := rb_below HRB.out HB3.out
    obtain ⟨c0, c1, c2, c3, c4⟩ := hrb3.c
    have HRB3 := Lib.hid hrb3
    clear hrb3
    cases r with
    | true =>
      have hq2 := HQ2.out
      rw [if_neg (by simp), if_pos rfl] at hq2
      cases hk : x.ro.kind == 1 with
      | false =>
        rw [hk] at hq2
        have HQ3 := Lib.hid hq2
        clear hq2
        go_wp2
        go_ret
        exact ⟨ret_bool (by rw [← HQ3.out]; rfl), bt HB1.out HB3.out⟩
      | true =>
        obtain ⟨a, ha⟩ : ∃ a, plainB (L x.ro.data) = a := ⟨_, rfl⟩
        rw [hk, ha] at hq2
        have HQ3 := Lib.hid hq2; have HA := Lib.hid ha
        clear hq2 ha
        go_wp2_with fail
        refine (legalRaw1 x.ro.data w3 hds a HA.out).mono ?_
        rintro e w4 ⟨rfl, rfl⟩
        go_wp2
        go_ret
        exact ⟨ret_bool (by rw [← HQ3.out]; rfl), bt HB1.out HB3.out⟩
    | false =>
    go_wp2_with fail
    refine (Na.soft_any p w3).mono ?_
    rw [HT.out]
    rintro e w4 ⟨rfl, hb4⟩
    have HB4 := Lib.hid (bt HB3.out hb4)
    have hrb4 := rb_below HRB3.out hb4
    clear hb4 c0 c1 c2 c3 c4
    obtain ⟨c0, c1, c2, c3, c4⟩ := hrb4.c
    have HRB4 := Lib.hid hrb4
    clear hrb4
    cases t with
    | true =>
      have hq2 := HQ2.out
      rw [if_neg (by simp), if_neg (by simp), if_pos rfl] at hq2
      have HQ3 := Lib.hid hq2
      clear hq2
      go_wp2
      go_ret
      exact ⟨ret_bool HQ3.out, bt HB1.out HB4.out⟩
    | false =>
      have hq2 := HQ2.out
      rw [if_neg (by simp), if_neg (by simp), if_neg (by simp)] at hq2
      cases hk : x.ro.kind != 0 with
      | true =>
        rw [hk] at hq2
        have HQ3 := Lib.hid hq2
        clear hq2
        go_wp2
        go_ret
        exact ⟨ret_bool (by rw [← HQ3.out]; rfl), bt HB1.out HB4.out⟩
      | false =>
        obtain ⟨a, ha⟩ : ∃ a, nestedB x.ro.name s = a := ⟨_, rfl⟩
        rw [hk, ha] at hq2
        have HQ3 := Lib.hid hq2; have HA := Lib.hid ha
        clear hq2 ha
        go_wp2_with fail
        refine (Bu.nested_any x.ro.name (.slice A s.length c) s w4 hl ⟨A, c, rfl, hc, hm, (HR1.out.below HB4.out (Nat.le_refl _)).more HB4.out.size⟩ a HA.out).mono ?_
        rintro e w5 ⟨rfl, hb5⟩
        have HB5 := Lib.hid (bt HB4.out hb5)
        clear hb5 c0 c1 c2 c3 c4
        go_wp2
        go_ret
        exact ⟨ret_bool (by rw [← HQ3.out]; rfl), bt HB1.out HB5.out⟩

end Go.Proofs.Ytenmlpfjeohkiaa.Wr

namespace Go.Proofs.Ytenmlpfjeohkiaa.Bm
set_option linter.unusedVariables false
set_option linter.unusedSimpArgs false
open Ba Fm Nm
open Ro (At Ro)
open Tm (Tk put)
/-- No text is empty. -/
def full (l : List Ro) : Prop := ∀ x ∈ l, x.kind = 1 → x.data ≠ ⟨#[]⟩
theorem full_tail {x : Ro} {l : List Ro} (h : full (x :: l)) : full l := fun y hy => h y (List.mem_cons_of_mem _ hy)
theorem full_init {l m : List Ro} (h : full (l ++ m)) : full l := fun y hy => h y (List.mem_append_left _ hy)
/-- Is the last row a text, and how deep is it? -/
def ending (l : List Ro) : Option (Bool × Int) := l.getLast?.map fun x => (decide (x.kind = 1), x.depth)
theorem ending_snoc (l : List Ro) (y : Ro) : ending (l ++ [y]) = some (decide (y.kind = 1), y.depth) := by
  unfold ending
  rw [List.getLast?_append]
  rfl

theorem normal_other {x : Ro} (hk : ¬ x.kind = 1) (r : List Ro) : Ro.normal (x :: r) = x :: Ro.normal r := by rw [Ro.normal, if_neg hk]
theorem normal_text {x : Ro} (hk : x.kind = 1) (hx : x.data ≠ ⟨#[]⟩) (r : List Ro) :
    Ro.normal (x :: r) = ⟨x.depth, 1, ⟨#[]⟩, B (Ro.txt (x :: r.take (Ro.nexts x.depth r))), []⟩ :: Ro.normal (r.drop (Ro.nexts x.depth r)) := by
  rw [Ro.normal, if_pos hk, if_neg]
  · rfl
  · rw [Ro.txt, if_pos hk]
    intro e
    refine hx (L_inj ?_)
    exact (List.append_eq_nil_iff.1 e).1
theorem normal_ne {l : List Ro} (h : full l) (hl : l ≠ []) : Ro.normal l ≠ [] := by
  cases l with
  | nil => exact absurd rfl hl
  | cons x r =>
    by_cases hk : x.kind = 1
    · rw [normal_text hk (h x List.mem_cons_self hk)]
      exact List.cons_ne_nil _ _
    · rw [normal_other hk]
      exact List.cons_ne_nil _ _
theorem nexts_more {d : Int} {r : List Ro} {y : Ro} (h : Ro.nexts d r < r.length) : Ro.nexts d (r ++ [y]) = Ro.nexts d r := by
  unfold Ro.nexts at h ⊢
  rw [List.takeWhile_append, if_neg (by omega)]
theorem nexts_all {d : Int} {r : List Ro} {y : Ro} (h : Ro.nexts d r = r.length) : Ro.nexts d (r ++ [y]) = r.length + (if y.kind = 1 ∧ y.depth = d then 1 else 0) := by
  unfold Ro.nexts at h ⊢
  rw [List.takeWhile_append, if_pos h, List.length_append]
  congr 1
  by_cases hy : y.kind = 1 ∧ y.depth = d
  · rw [if_pos hy, List.takeWhile_cons_of_pos (by rw [hy.1, hy.2]; simp)]
    rfl
  · rw [if_neg hy, List.takeWhile_cons_of_neg (by
      intro e
      rw [Bool.and_eq_true, beq_iff_eq, beq_iff_eq] at e
      exact hy e)]
    rfl
theorem snoc_cases {α : Type} (l : List α) : l = [] ∨ ∃ m y, l = m ++ [y] := by
  rcases List.eq_nil_or_concat l with h | ⟨m, y, h⟩
  · exact .inl h
  · exact .inr ⟨m, y, by rw [h, List.concat_eq_append]⟩
theorem add_ne {a b : List Ro} (hb : b ≠ []) (d : Int) (t : ByteArray) : addText (a ++ b) d t = a ++ addText b d t := by
  obtain ⟨c, z, rfl⟩ : ∃ c z, b = c ++ [z] := (snoc_cases b).resolve_left hb
  unfold addText
  rw [← List.append_assoc, List.getLast?_append, List.getLast?_append, List.getLast?_append]
  show (if z.kind = 1 ∧ z.depth = d then _ else _) = a ++ (if z.kind = 1 ∧ z.depth = d then _ else _)
  rw [List.dropLast_concat, List.dropLast_concat]
  split <;> simp only [List.append_assoc]
theorem add_one {J : Ro} {d : Int} {t : ByteArray} : addText [J] d t = if J.kind = 1 ∧ J.depth = d then [⟨J.depth, J.kind, J.name, J.data ++ t, J.attrs⟩] else [J, ⟨d, 1, ⟨#[]⟩, t, []⟩] := rfl
theorem normal_one {y : Ro} (hk : y.kind = 1) (hy : y.data ≠ ⟨#[]⟩) : Ro.normal [y] = [⟨y.depth, 1, ⟨#[]⟩, y.data, []⟩] := by
  rw [normal_text hk hy]
  show ⟨y.depth, 1, ⟨#[]⟩, B (Ro.txt [y]), []⟩ :: Ro.normal ([] : List Ro) = _
  rw [Ro.txt_text hk, B_L, Ro.normal]
theorem normal_snoc (l : List Ro) (y : Ro) : full (l ++ [y]) → Ro.normal (l ++ [y]) = if y.kind = 1 then addText (Ro.normal l) y.depth y.data else Ro.normal l ++ [y] := by
  induction hn : l.length using Nat.strongRecOn generalizing l with
  | ind n ih =>
    subst hn
    intro hf
    have hy := hf y (List.mem_append_right _ (List.mem_singleton.2 rfl))
    cases l with
    | nil =>
      by_cases hk : y.kind = 1
      · rw [if_pos hk]
        show Ro.normal [y] = addText (Ro.normal []) _ _
        rw [normal_one hk (hy hk), Ro.normal]
        rfl
      · rw [if_neg hk]
        show Ro.normal [y] = Ro.normal [] ++ [y]
        rw [normal_other hk, Ro.normal]
        rfl
    | cons x r =>
      have hx := hf x List.mem_cons_self
      have hfr : full (r ++ [y]) := full_tail (show full (x :: (r ++ [y])) from hf)
      show Ro.normal (x :: (r ++ [y])) = _
      by_cases hkx : x.kind = 1
      · rw [normal_text hkx (hx hkx), normal_text hkx (hx hkx)]
        obtain ⟨m, hm⟩ : ∃ m, Ro.nexts x.depth r = m := ⟨_, rfl⟩
        have hle : m ≤ r.length := by rw [← hm]; exact (List.takeWhile_sublist _).length_le
        rw [hm]
        by_cases hlt : m < r.length
        · rw [nexts_more (by rw [hm]; exact hlt), hm, List.take_append_of_le_length hle, List.drop_append_of_le_length hle]
          have hd : r.drop m ≠ [] := fun e => by have := congrArg List.length e; rw [List.length_drop, List.length_nil] at this; omega
          have hfd : full (r.drop m ++ [y]) := fun z hz => by
            rcases List.mem_append.1 hz with e | e
            · exact hfr z (List.mem_append_left _ (List.mem_of_mem_drop e))
            · exact hfr z (List.mem_append_right _ e)
          rw [ih _ (by rw [List.length_drop, List.length_cons]; omega) _ rfl hfd]
          have hne := normal_ne (full_init hfd) hd
          split
          · exact (add_ne (a := [_]) hne _ _).symm
          · rfl
        · have hm2 : m = r.length := by omega
          rw [nexts_all (by rw [hm]; exact hm2), hm2, List.take_length, List.drop_length]
          have e0 : Ro.normal ([] : List Ro) = [] := by rw [Ro.normal]
          by_cases hyy : y.kind = 1 ∧ y.depth = x.depth
          · rw [if_pos hyy, if_pos hyy.1, e0, add_one, if_pos ⟨rfl, hyy.2.symm⟩]
            have e1 : r.length + 1 = (r ++ [y]).length := by rw [List.length_append]; rfl
            rw [e1, List.take_length, List.drop_length, e0]
            have e2 : Ro.txt (x :: (r ++ [y])) = Ro.txt (x :: r) ++ L y.data := by
              rw [← List.cons_append, Ro.txt_append, Ro.txt_text hyy.1]
            rw [e2, ← B_append, B_L]
          · rw [if_neg hyy, Nat.add_zero, List.take_append_of_le_length (Nat.le_refl _), List.take_length, List.drop_append_of_le_length (Nat.le_refl _), List.drop_length, e0]
            by_cases hk : y.kind = 1
            · rw [if_pos hk, add_one, if_neg (fun e => hyy ⟨hk, e.2.symm⟩), List.nil_append, normal_one hk (hy hk)]
            · rw [if_neg hk, List.nil_append, normal_other hk, e0]
              rfl
      · rw [normal_other hkx, normal_other hkx, ih _ (Nat.lt_succ_self _) _ rfl hfr]
        split
        · exact (add_behind (o0 := [x]) (o := Ro.normal r) (fun z hz => by injection hz with hz; rw [← hz]; exact hkx)).symm
        · rfl
theorem ending_add (o : List Ro) (d : Int) (t : ByteArray) : ending (addText o d t) = some (true, d) := by
  unfold addText
  cases hy : o.getLast? with
  | none => rw [ending_snoc]; rfl
  | some z =>
    show ending (if z.kind = 1 ∧ z.depth = d then _ else _) = _
    split
    · rename_i h
      rw [ending_snoc]
      show some (decide (z.kind = 1), z.depth) = _
      rw [decide_eq_true h.1, h.2]
    · rw [ending_snoc]; rfl
theorem ending_normal {l : List Ro} (h : full l) : ending (Ro.normal l) = ending l := by
  rcases snoc_cases l with rfl | ⟨m, y, rfl⟩
  · rw [Ro.normal]
  · rw [normal_snoc m y h, ending_snoc]
    split
    · rename_i hk; rw [ending_add, decide_eq_true hk]
    · rw [ending_snoc]
theorem len_add (o : List Ro) (d : Int) (t : ByteArray) : (addText o d t).length = o.length + (if ending o = some (true, d) then 0 else 1) := by
  unfold addText ending
  cases hy : o.getLast? with
  | none => show (o ++ [_]).length = _; rw [List.length_append]; rfl
  | some z =>
    show (if z.kind = 1 ∧ z.depth = d then _ else _ : List Ro).length = o.length + (if some (decide (z.kind = 1), z.depth) = some (true, d) then 0 else 1)
    have ho : o ≠ [] := fun e => by rw [e] at hy; cases hy
    have hl : 0 < o.length := List.length_pos_iff.2 ho
    by_cases hc : z.kind = 1 ∧ z.depth = d
    · rw [if_pos hc, if_pos (by rw [decide_eq_true hc.1, hc.2]), List.length_append, List.length_dropLast]
      show o.length - 1 + 1 = _
      omega
    · rw [if_neg hc, if_neg (fun e => by
        injection e with e
        injection e with e1 e2
        exact hc ⟨of_decide_eq_true e1, e2⟩), List.length_append]
      rfl
/-- Is a row a text that becomes one with the last row? -/
def meets (l : List Ro) (y : Ro) : Bool := decide (y.kind = 1) && decide (ending l = some (true, y.depth))
theorem len_normal {l : List Ro} {y : Ro} (h : full (l ++ [y])) : (Ro.normal (l ++ [y])).length = (Ro.normal l).length + (if meets l y = true then 0 else 1) := by
  rw [normal_snoc l y h]
  unfold meets
  by_cases hk : y.kind = 1
  · rw [if_pos hk, len_add, ending_normal (full_init h), decide_eq_true hk, Bool.true_and]
    congr 1
    by_cases he : ending l = some (true, y.depth)
    · rw [if_pos he, if_pos (decide_eq_true he)]
    · rw [if_neg he, if_neg (by rw [decide_eq_false he]; simp)]
  · rw [if_neg hk, decide_eq_false hk, List.length_append]
    rfl
end Go.Proofs.Ytenmlpfjeohkiaa.Bm

namespace Go.Proofs.Ytenmlpfjeohkiaa.Bu
set_option linter.unusedVariables false
set_option linter.unusedSimpArgs false
open Go.RowKit Ba Fm Fo Nm Bm
open Ro (At Ro Cw ros Fr Ow Att Ap Rr Sh acells len_acells cells len_cells rowV rowO info_row info_attr below_new acells_one flat_at flat_len row_cells_new cells_one range2 range5 len_ros ros_append)
section
variable {w w' : World} {b : Nat} {vo vr : Value} {n : Int} {big : Bool}
end

/-- A row of the call's own does not lie in a block of another type. -/
theorem own_ne {N b n size : Nat} {e t : TypeId} {w : World} {v : Value} {xs : List Value} (h : w.ownsRow N e size v n xs) {cs : Array Value} {fr : Nat × Nat} (hb : w.heap[b]? = some (.cells cs t fr)) (ht : t ≠ e) : v.ownBlock ≠ some b := by
  rcases h.2 with ⟨rfl, _⟩ | ⟨g, cap, cur, rfl, _, hh, _⟩
  · simp [Value.ownBlock]
  · intro e
    have e : g = b := by simpa [Value.ownBlock] using e
    subst e
    rw [hb] at hh
    injection hh with hh
    injection hh with _ h2
    exact ht h2
theorem own_apart {N N' n n' size size' : Nat} {e e' : TypeId} {w : World} {v v' : Value} {xs xs' : List Value} (h : w.ownsRow N e size v n xs) (h' : w.ownsRow N' e' size' v' n' xs') (ht : e' ≠ e) : v.ownBlock = none ∨ v.ownBlock ≠ v'.ownBlock := by
  rcases h'.2 with ⟨rfl, _⟩ | ⟨g, cap, cur, rfl, _, hh, _⟩
  · cases hv : v.ownBlock with
    | none => exact .inl rfl
    | some k => right; simp [Value.ownBlock]
  · exact .inr (own_ne h hh ht)

/-- Rows of the call's own, their attributes too. -/
def Or (N : Nat) (w : World) (v : Value) (l : List Cw) : Prop := w.ownsRow N 35 5 v l.length (l.flatMap cells) ∧ ∀ x ∈ l, Fr N w x
theorem Or.ow {N : Nat} {w : World} {v : Value} {l : List Cw} (h : Or N w v l) : Ow N w v l := ⟨h.1, fun x hx => ⟨(h.2 x hx).att, (h.2 x hx).ap⟩⟩
theorem Or.nil (N : Nat) (w : World) : Or N w (.slice none 0 0) [] := ⟨World.ownsRow_nil w N _ 5, fun _ h => by simp at h⟩
/-- They are kept where what grows is of another type. -/
theorem Or.kept {N b : Nat} {w w' : World} {v : Value} {l : List Cw} (h : Or N w v l) (hg : w.grownBy w' (some b)) {cs : Array Value} {t : TypeId} {fr : Nat × Nat} (hb : w.heap[b]? = some (.cells cs t fr)) (h1 : t ≠ 35) (h2 : t ≠ 41) : Or N w' v l :=
  ⟨World.ownsRow.kept h.1 hg (.inr (own_ne h.1 hb h1)), fun x hx => ⟨World.ownsRow.kept (h.2 x hx).1 hg (.inr (own_ne (h.2 x hx).1 hb h2)), (h.2 x hx).2⟩⟩
theorem Or.apart {N N' n size : Nat} {e : TypeId} {w w' : World} {v u : Value} {xs : List Value} {l : List Cw} (h : Or N w v l) (hu : w.ownsRow N' e size u n xs) (hg : w.grownBy w' u.ownBlock) (h1 : e ≠ 35) (h2 : e ≠ 41) : Or N w' v l :=
  ⟨World.ownsRow.kept h.1 hg (own_apart h.1 hu h1), fun x hx => ⟨World.ownsRow.kept (h.2 x hx).1 hg (own_apart (h.2 x hx).1 hu h2), (h.2 x hx).2⟩⟩
theorem Or.below {N : Nat} {w w' : World} {v : Value} {l : List Cw} (h : Or N w v l) (hb : Below w.heap.size w w') : Or N w' v l := ⟨(h.ow.below hb).1, fun x hx => (h.2 x hx).below hb⟩
theorem Or.form {N : Nat} {w : World} {v : Value} {l : List Cw} (h : Or N w v l) : ∃ A c, v = .slice A l.length c ∧ l.length ≤ c ∧ c ≤ maxLen ∧ (A = none → c = 0) ∧ Rr w w.heap.size A l := h.ow.form
/-- The first ones of them. -/
theorem Sown.cut {N : Nat} {w : World} {A : Option Addr} {k c : Nat} {l : List ByteArray} (h : Sown N w (.slice A l.length c) l) (hk : k ≤ l.length) : Sown N w (.slice A k c) (l.take k) := by
  have hl : (l.take k).length = k := by rw [List.length_take]; omega
  unfold Sown at h ⊢
  rw [hl]
  obtain ⟨h1, h2⟩ := h
  refine ⟨by rw [List.length_map, hl]; omega, ?_⟩
  rcases h2 with ⟨hv, h0⟩ | ⟨g, cap, cur, hv, hg, hh, hn, hm, hs, ht⟩
  · injection hv with e1 e2 e3
    subst e1; subst e3
    obtain rfl : k = 0 := by omega
    exact .inl ⟨rfl, rfl⟩
  · injection hv with e1 e2 e3
    subst e1; subst e3
    refine .inr ⟨g, c, cur, rfl, hg, hh, by omega, hm, hs, ?_⟩
    have := congrArg (List.take k) ht
    rw [List.take_take, ← List.map_take] at this
    rw [← this]
    congr 1
    omega

end Go.Proofs.Ytenmlpfjeohkiaa.Bu

namespace Go.Proofs.Ytenmlpfjeohkiaa.Wr
set_option maxRecDepth 100000
set_option linter.unusedSimpArgs false
set_option linter.unusedVariables false
open Go.RowKit Ba Fm Fo Nm Wm
open Ro (At Ro Cw ros rowO rowV below_new range2 range5 cells Rv)
open Tm (pre)
open To (Bx)
open Bm (nestedB)
theorem check_no {l : List Ro} (h : (!Ro.exceeds l 4096 60 && Ro.right l) = false) : ((Ro.check l) != 0) = true ∧ legalB l = false := by
  constructor
  · unfold Ro.check
    cases he : Ro.exceeds l 4096 60 with
    | true => rfl
    | false =>
      rw [he] at h
      have h : Ro.right l = false := by simpa using h
      rw [if_neg (by simp), h, if_neg (by simp)]; rfl
  · unfold legalB
    rw [h]; rfl
theorem check_yes {l : List Ro} (h : (!Ro.exceeds l 4096 60 && Ro.right l) = true) : Ro.check l = 0 ∧ Ro.right l = true ∧ (∀ x ∈ l, x.depth < 60) := by
  rw [Bool.and_eq_true, Bool.not_eq_true'] at h
  refine ⟨Ro.check_of h.1 h.2, h.2, fun x hx => ?_⟩
  have h1 := h.1
  apply Decidable.byContradiction
  intro hc
  have := (Ro.exceeds_iff l 4096 60).2 (.inr ⟨x, hx, by omega⟩)
  rw [h1] at this
  cases this
theorem leg_step {s : List ByteArray} {l : List Ro} {k : Nat} {x : Ro} (h : l[k]? = some x) : legB s (l.drop k) = (rowB x && withB x (s.take x.depth.toNat) && legB (if x.kind = 0 then s.take x.depth.toNat ++ [x.name] else s.take x.depth.toNat) (l.drop (k + 1))) := by
  have hlt := (List.getElem?_eq_some_iff.1 h).1
  rw [List.drop_eq_getElem_cons hlt, legB]
  rw [List.getElem?_eq_getElem hlt] at h
  injection h with h
  rw [h]
theorem right_step' {m : Int} {l : List Ro} {k : Nat} {x : Ro} (h : l[k]? = some x) (hr : Ro.rightFrom m (l.drop k) = true) : 0 ≤ x.depth ∧ x.depth ≤ m ∧ Ro.rightFrom (if x.kind = 0 then x.depth + 1 else x.depth) (l.drop (k + 1)) = true := by
  have hlt := (List.getElem?_eq_some_iff.1 h).1
  rw [List.drop_eq_getElem_cons hlt, Ro.rightFrom] at hr
  rw [List.getElem?_eq_getElem hlt] at h
  injection h with h
  rw [h] at hr
  simp only [Bool.and_eq_true, decide_eq_true_eq] at hr
  exact ⟨hr.1.1.1, hr.1.1.2, hr.2⟩

/-- What Legal keeps from row to row. -/
structure LL (N : Nat) (w wr : World) (v : Value) (s : List ByteArray) (l : List Ro) (k : Nat) (q : Bool) : Prop where
  own : Sown N wr v s
  leg : legB s (l.drop k) = q
  rt : Ro.rightFrom s.length (l.drop k) = true
  few : s.length ≤ 60
  below : Below N w wr

set_option maxRecDepth 100000 in
set_option maxHeartbeats 4000000 in
theorem Legal1 (v : Value) (l : List Cw) (w : World) (h : Rv w v l) (hl : l.length ≤ 1000) (hf : Ro.Few (ros l)) (ht : (Ro.txt (ros l)).length ≤ 1000000000) (hrb : ∀ x ∈ l, rb x.ro ≤ 10000000) (q : Bool) (hq : legalB (ros l) = q) :
    Calls Try.prog 16 #[v] w fun e w' => e = .returned (.bool q) ∧ Below w.heap.size w w' := by
  obtain ⟨A, c, hv, hc, hm, hrr, hh⟩ := id h
  obtain ⟨ck, hck⟩ : ∃ ck, (!Ro.exceeds (ros l) 4096 60 && Ro.right (ros l)) = ck := ⟨_, rfl⟩
  have HV := Lib.hid h; have HRB := Lib.hid hrb; have HH := Lib.hid hh; have HF := Lib.hid hf; have HT := Lib.hid ht
  clear h hrb hf ht
  cases ck with
  | false =>
    obtain ⟨h1, h2⟩ := check_no hck
    rw [h2] at hq
    have HRR := Lib.hid hrr
    subst hq hv
    clear h2 hck hrr hh
    go_enter Try.func16, Try.ntmps16
    go_wp2_with fail
    refine (Ro.check1 _ l w (Ro.check (ros l)) HV.out (by omega) rfl).mono ?_
    rintro e w1 ⟨rfl, hb1⟩
    have HB1 := Lib.hid hb1
    clear hb1
    go_wp2
    go_ret
    exact ⟨rfl, HB1.out⟩
  | true =>
    obtain ⟨h1, h2, h3⟩ := check_yes hck
    have hhn := Ro.held_normal hh
    obtain ⟨nm, hnm⟩ : ∃ nm, Ro.normal (ros l) = nm := ⟨_, rfl⟩
    rw [hnm] at hhn
    obtain ⟨sm, hsm⟩ : ∃ sm, decide (ros l = nm) = sm := ⟨_, rfl⟩
    have hnl : nm.length ≤ 1000 := by
      rw [← hnm]
      have := Ro.len_normal (ros l)
      rw [Ro.len_ros] at this
      omega
    unfold legalB at hq
    rw [hck, Bool.true_and, hnm, hsm] at hq
    have H1 := Lib.hid h1; have H2 := Lib.hid h2; have H3 := Lib.hid h3; have HNM := Lib.hid hnm; have HHN := Lib.hid hhn; have HSM := Lib.hid hsm; have HQ := Lib.hid hq; have HVV := Lib.hid hv
    clear hck hhn hnm hsm h1 h2 h3 hq hh
    have HRR := Lib.hid hrr
    subst hv
    clear hrr
    go_enter Try.func16, Try.ntmps16
    go_wp2_with fail
    refine (Ro.check1 _ l w 0 HV.out (by omega) H1.out).mono ?_
    rintro e w1 ⟨rfl, hb1⟩
    have HB1 := Lib.hid hb1
    clear hb1
    go_wp2_with fail
    refine (Ro.normal1 _ l w1 nm (HV.out.below HB1.out) (by omega) HF.out HT.out HNM.out HHN.out).mono ?_
    rintro e w2 ⟨u2, y2, rfl, ho2, hfr2, hy2, hv2, hb2⟩
    have HB2 := Lib.hid (bt HB1.out hb2)
    have hyl : y2.length ≤ 1000000 := by
      have := congrArg List.length hy2
      rw [Ro.len_ros] at this
      omega
    have HV2 := Lib.hid hv2; have HY2 := Lib.hid hy2
    clear ho2 hfr2 hy2 hv2 hb2
    go_wp2_with fail
    refine (Ro.same1 _ u2 l y2 w2 sm (HV.out.below HB2.out) HV2.out (by omega) hyl (by rw [HY2.out]; exact HSM.out)).mono ?_
    rintro e w3 ⟨rfl, hb3⟩
    have HB3 := Lib.hid (bt HB2.out hb3)
    clear hb3
    cases sm with
    | false =>
      go_wp2
      go_ret
      exact ⟨ret_bool (by rw [← HQ.out]; rfl), HB3.out⟩
    | true =>
      have hqq := HQ.out
      rw [Bool.true_and] at hqq
      have hl0 : LL w.heap.size w w3 (.slice none 0 0) [] (ros l) 0 q := ⟨Sown.nil _ _, by rw [List.drop_zero]; exact hqq, by rw [List.drop_zero]; exact H2.out, Nat.zero_le _, HB3.out⟩
      have HL0 := Lib.hid hl0
      clear hqq hl0
      go_wp2
      go_loopw [3, 18] (fun v3 i wr => ∃ k s, i = .int .i64 ((k : Nat) : Int) ∧ k ≤ l.length ∧ LL w.heap.size w wr v3 s (ros l) k q) (fun _ i _ => l.length - (intOf i).toNat)
      case atStart => exact ⟨0, [], rfl, Nat.zero_le _, HL0.out⟩
      case round =>
        obtain ⟨k, s, rfl, hk, hll⟩ := hrel
        by_cases hp : k < l.length
        · obtain ⟨b, off, x, rfl, hb, hdx, hx, hxa, hxm⟩ := Ro.Rr.at_ (HRR.out.below hll.below) k hp
          have hget := ros_get hdx
          have hlg := hll.leg
          rw [leg_step hget] at hlg
          obtain ⟨d1, d2, d3⟩ := right_step' hget hll.rt
          obtain ⟨a, ha⟩ : ∃ a, rowB x.ro = a := ⟨_, rfl⟩
          obtain ⟨e0, he0⟩ : ∃ e0, withB x.ro (s.take x.ro.depth.toNat) = e0 := ⟨_, rfl⟩
          rw [ha, he0] at hlg
          have hfew := hll.few
          obtain ⟨A3, c3, hu, hc3, hm3, hr3⟩ := hll.own.form
          subst hu
          have hown1 := Bu.Sown.cut hll.own (show x.ro.depth.toNat ≤ s.length by omega)
          have hbx := Rb.new wr x
          have hbb := below_new wr (rowO x)
          have hd60 := H3.out x.ro (List.mem_of_getElem? hget)
          have hrbx := HRB.out x hxm
          have hNr := hll.below.size
          have hd4 : x.ro.depth ≤ (c3 : Int) := by omega
          have hxa1 : Ro.Att (wr.alloc (rowO x)) (wr.alloc (rowO x)).heap.size x := (hxa.below (hbb.mono hNr)).more (Nat.le_trans hNr hbb.size)
          obtain ⟨c0, c1, c2, c3', c4⟩ := hbx.c
          have hown2 : Sown w.heap.size (wr.alloc (rowO x)) (.slice A3 x.ro.depth.toNat c3) (s.take x.ro.depth.toNat) := hown1.alloc _
          have hB1 := hll.below.trans (hbb.mono hNr)
          have HLG := Lib.hid hlg; have HA := Lib.hid ha; have HE := Lib.hid he0; have HOWN := Lib.hid hown2; have HBX := Lib.hid hbx; have HXA := Lib.hid hxa1; have HD3 := Lib.hid d3; have HBW := Lib.hid hB1
          have HLT := Lib.hid (show (s.take x.ro.depth.toNat).length = x.ro.depth.toNat by rw [List.length_take]; omega)
          clear hlg ha he0 hown1 hown2 hbx hxa1 d3 hB1 hbb hll hdx hget hxa hxm hr3
          go_wp2_with (refine wpList_load_mid rfl 35 (.tmp 20) rfl b (off + k * 5) rfl _ _ hx Try.underlying35 rfl Ro.size_row ?_)
          refine (legal1 x (wr.alloc (rowO x)).heap.size (wr.alloc (rowO x)) HXA.out (Nat.le_refl _) hrbx a HA.out).mono ?_
          rintro e w4 ⟨rfl, hb4⟩
          have HO4 := Lib.hid (HOWN.out.below hb4 (Nat.le_refl _)); have HB4 := Lib.hid (HBW.out.trans (hb4.mono (Nat.le_trans hNr (by simp)))); have HX4 := Lib.hid (rb_below HBX.out hb4)
          clear hb4 c0 c1 c2 c3' c4
          obtain ⟨c0, c1, c2, c3', c4⟩ := HX4.out.c
          cases a with
          | false =>
            go_wp2
            go_ret
            exact ⟨ret_bool (by rw [← HLG.out]; rfl), HB4.out⟩
          | true =>
          go_wp2_with fail
          refine (legalWithin1 x (.slice A3 x.ro.depth.toNat c3) (s.take x.ro.depth.toNat) w4 (sv_own HO4.out) (by rw [HLT.out]; omega) hrbx e0 HE.out).mono ?_
          rintro e w5 ⟨rfl, hb5⟩
          have HO5 := Lib.hid (HO4.out.below hb5 (Nat.le_refl _)); have HB5 := Lib.hid (HB4.out.trans (hb5.mono HB4.out.size)); have HX5 := Lib.hid (rb_below HX4.out hb5)
          clear hb5 c0 c1 c2 c3' c4
          obtain ⟨c0, c1, c2, c3', c4⟩ := HX5.out.c
          cases e0 with
          | false =>
            go_wp2
            go_ret
            exact ⟨ret_bool (by rw [← HLG.out]; rfl), HB5.out⟩
          | true =>
          by_cases hkd : x.ro.kind = 0
          · have g0 : (x.ro.kind == 0) = true := beq_iff_eq.2 hkd
            have h3 := HD3.out
            have h4 := HLG.out
            rw [if_pos hkd] at h3 h4
            have HH3 := Lib.hid h3; have HH4 := Lib.hid h4
            have hbd : ((s.take x.ro.depth.toNat).length + 1) * 16 ≤ 140737488355328 := by rw [HLT.out]; omega
            clear h3 h4 hkd
            go_wp2_with (at_builtin; refine app_one w5 rfl (.tmp 38) (.tmp 41) rfl w.heap.size _ (s.take x.ro.depth.toNat) x.ro.name rfl HO5.out rfl hbd HB5.out.size ?_; intro v6 w6 hown6 hk6 _)
            go_roundw
            case rel =>
              refine ⟨k + 1, s.take x.ro.depth.toNat ++ [x.ro.name], by go_num, by omega, ⟨hown6, by rw [← HH4.out]; simp, ?_, ?_, hk6 _ HB5.out⟩⟩
              · have e : ((s.take x.ro.depth.toNat ++ [x.ro.name]).length : Int) = x.ro.depth + 1 := by
                  rw [List.length_append, HLT.out]; simp only [List.length_cons, List.length_nil]; omega
                rw [e]; exact HH3.out
              · rw [List.length_append, HLT.out]; simp only [List.length_cons, List.length_nil]; omega
            case measure => simp [intOf]; omega
          · have g0 : (x.ro.kind == 0) = false := beq_eq_false_iff_ne.2 hkd
            have h3 := HD3.out
            have h4 := HLG.out
            rw [if_neg hkd] at h3 h4
            have HH3 := Lib.hid h3; have HH4 := Lib.hid h4
            clear h3 h4 hkd
            go_wp2
            go_roundw
            case rel =>
              refine ⟨k + 1, s.take x.ro.depth.toNat, by go_num, by omega, ⟨HO5.out, by rw [← HH4.out]; simp, ?_, ?_, HB5.out⟩⟩
              · have e : ((s.take x.ro.depth.toNat).length : Int) = x.ro.depth := by rw [HLT.out]; omega
                rw [e]; exact HH3.out
              · rw [HLT.out]; omega
            case measure => simp [intOf]; omega
        · have hlg := hll.leg
          rw [List.drop_of_length_le (by rw [Ro.len_ros]; omega), legB] at hlg
          subst hlg
          have HLL := Lib.hid hll
          clear hll
          go_wp2
          go_ret
          exact ⟨rfl, HLL.out.below⟩

end Go.Proofs.Ytenmlpfjeohkiaa.Wr

namespace Go.Proofs.Ytenmlpfjeohkiaa.Wr
set_option maxRecDepth 100000
set_option linter.unusedVariables false
set_option linter.unusedSimpArgs false
open Go.RowKit Ba Fm Fo Nm Wm
open Ro (At Ro Cw ros rowO rowV below_new range2 range5 cells Rv bare rows_new)
def oneC (n s : ByteArray) : List Cw := [bare ⟨0, 0, n, ⟨#[]⟩, []⟩, bare ⟨1, 1, ⟨#[]⟩, s, []⟩]
def ppC : List Cw := [bare ⟨0, 0, n_p, ⟨#[]⟩, []⟩, bare ⟨1, 0, n_p, ⟨#[]⟩, []⟩]
def brC (g : Nat) : List Cw := [⟨⟨0, 0, n_br, ⟨#[]⟩, [⟨⟨#[97]⟩, ⟨#[34]⟩⟩]⟩, some ⟨g, 0, none⟩, 1⟩, bare ⟨0, 2, ⟨#[]⟩, ⟨#[99]⟩, []⟩]
theorem ros_one (n s : ByteArray) : ros (oneC n s) = oneR n s := rfl
theorem ros_pp : ros ppC = ppR := rfl
theorem ros_br (g : Nat) : ros (brC g) = brR := rfl
theorem held_two {a b : Ro} (ha : a.depth = 0) (hb : b.depth = 0 ∨ b.depth = 1) : Ro.Held [a, b] := fun x hx => by
  simp only [List.mem_cons, List.not_mem_nil, or_false] at hx
  rcases hx with rfl | rfl <;> omega
theorem two_new (w : World) (cs : Array Value) (a b : Ro) (ha : a.attrs = []) (hb : b.attrs = []) (hh : Ro.Held [a, b]) (hcs : cs.toList = [bare a, bare b].flatMap cells) : Rv (w.alloc (.cells cs 35)) (.slice (some ⟨w.heap.size, 0, none⟩) 2 2) [bare a, bare b] :=
  (rows_new w [bare a, bare b] cs 2 rfl (by decide) hcs (fun x hx => by
    simp only [List.mem_cons, List.not_mem_nil, or_false] at hx
    rcases hx with rfl | rfl
    · exact ⟨_, rfl, ha⟩
    · exact ⟨_, rfl, hb⟩)).rv hh
/-- Rows freshly written down, with their attributes. -/
theorem rows_lit (w : World) (l : List Cw) (cs : Array Value) (n : Nat) (hn : l.length = n) (hm : n ≤ maxLen) (hcs : cs.toList = l.flatMap cells) (hl : ∀ x ∈ l, Ro.Att (w.alloc (.cells cs 35)) (w.alloc (.cells cs 35)).heap.size x ∧ Ro.Ap (w.alloc (.cells cs 35)) w.heap.size x) :
    Ro.Ow w.heap.size (w.alloc (.cells cs 35)) (.slice (some ⟨w.heap.size, 0, none⟩) n n) l := by
  have hfl : (l.flatMap cells).length = n * 5 := by
    rw [← hn]
    clear hcs hl hn
    induction l with
    | nil => rfl
    | cons x r ih => rw [List.flatMap_cons, List.length_append, ih, List.length_cons]; simp [cells]; omega
  have hsz : cs.size = n * 5 := by rw [← Array.length_toList, hcs, hfl]
  refine ⟨⟨by rw [hn, hfl], .inr ⟨w.heap.size, n, cs, by rw [hn], Nat.le_refl _, heap_alloc_new w _, by rw [hn]; exact Nat.le_refl _, hm, hsz, ?_⟩⟩, hl⟩
  rw [hn, hcs, ← hfl, List.take_length]
theorem br_new (w : World) (cs : Array Value) (g : Nat) (hg : w.heap[g]? = some (.cells #[.string ⟨#[97]⟩, .string ⟨#[34]⟩] 41)) (hcs : cs.toList = (brC g).flatMap cells) : Rv (w.alloc (.cells cs 35)) (.slice (some ⟨w.heap.size, 0, none⟩) 2 2) (brC g) := by
  have hlt : g < w.heap.size := (Array.getElem?_eq_some_iff.1 hg).1
  have hg2 : (w.alloc (.cells cs 35)).heap[g]? = some (.cells #[.string ⟨#[97]⟩, .string ⟨#[34]⟩] 41) := ((below_new w _).block g hlt).trans hg
  refine (rows_lit w (brC g) cs 2 rfl (by decide) hcs (fun x hx => ?_)).rv (held_two rfl (.inl rfl))
  unfold brC at hx
  simp only [List.mem_cons, List.not_mem_nil, or_false] at hx
  rcases hx with rfl | rfl
  · refine ⟨⟨Nat.le_refl _, (fun h => by cases h), (by decide : (1 : Nat) ≤ maxLen), fun _ => ⟨g, 0, rfl, by have := (below_new w (.cells cs 35)).size; show g < _; omega, fun j hj => ?_⟩, ?_⟩, fun _ => ⟨g, 0, rfl, .inl hlt⟩⟩
    · have hj0 : j = 0 := by
        have : j < 1 := hj
        omega
      subst hj0
      intro i u hu
      rw [cell_of_row _ g (0 + 0 * 2 + i) _ _ _ hg2]
      match i, hu with
      | 0, hu => exact hu
      | 1, hu => exact hu
    · intro a ha
      have ha : a ∈ [(⟨⟨#[97]⟩, ⟨#[34]⟩⟩ : At)] := ha
      rw [List.mem_singleton.1 ha]
      decide
  · exact ⟨Ro.bare_att _ _ rfl, Ro.bare_ap _ _ rfl⟩

theorem one_any (n s : ByteArray) (w : World) :
    Calls Try.prog 19 #[.string n, .string s] w fun e w' => ∃ v, e = .returned v ∧ Rv w' v (oneC n s) ∧ Below w.heap.size w w' := by
  have hv := two_new w #[.int .i64 0, .int .i64 0, .string n, .string ⟨#[]⟩, .slice none 0 0, .int .i64 1, .int .i64 1, .string ⟨#[]⟩, .string s, .slice none 0 0] ⟨0, 0, n, ⟨#[]⟩, []⟩ ⟨1, 1, ⟨#[]⟩, s, []⟩ rfl rfl (held_two rfl (.inr rfl)) rfl
  go_enter Try.func19, Try.ntmps19
  go_wp2
  go_ret
  exact ⟨_, rfl, hv, below_new w _⟩

/-- The contracts over values that read as rows. -/
theorem Inside1 (v : Value) (x : List Cw) (i : Int) (w : World) (q : ByteArray) (h : Rv w v x) (hl : x.length ≤ 1000) (hrb : ∀ y ∈ x, rb y.ro ≤ 10000000) (hq : insideB (ros x) i = L q) (hz : q.size ≤ 70000000000000) :
    Calls Try.prog 11 #[v, .int .i64 i] w fun e w' => e = .returned (.string q) ∧ Below w.heap.size w w' := by
  obtain ⟨A, c, rfl, hc, hm, hrr, hh⟩ := h
  have := Inside_any A c x i w hrr hc (by omega) hrb (by rw [hq, size_L]; exact hz)
  rwa [hq, B_L] at this
theorem Rows1 (v : Value) (x : List Cw) (w : World) (q : ByteArray) (h : Rv w v x) (hl : x.length ≤ 1000) (hrb : ∀ y ∈ x, rb y.ro ≤ 10000000) (hq : insideB (ros x) (-1) = L q) (hz : q.size ≤ 70000000000000) :
    Calls Try.prog 9 #[v] w fun e w' => e = .returned (.string q) ∧ Below w.heap.size w w' := by
  obtain ⟨A, c, rfl, hc, hm, hrr, hh⟩ := h
  have := Rows_any A c x w hrr hc (by omega) hrb (by rw [hq, size_L]; exact hz)
  rwa [hq, B_L] at this
theorem small_two {a b : Cw} (h : (decide (rb a.ro ≤ 10000000) && decide (rb b.ro ≤ 10000000)) = true) : ∀ y ∈ [a, b], rb y.ro ≤ 10000000 := fun y hy => by
  rw [Bool.and_eq_true, decide_eq_true_iff, decide_eq_true_iff] at h
  simp only [List.mem_cons, List.not_mem_nil, or_false] at hy
  rcases hy with rfl | rfl
  · exact h.1
  · exact h.2
theorem few_two {a b : Ro} (h : (decide (a.attrs.length ≤ 1000000) && decide (b.attrs.length ≤ 1000000)) = true) : Ro.Few [a, b] := fun y hy => by
  rw [Bool.and_eq_true, decide_eq_true_iff, decide_eq_true_iff] at h
  simp only [List.mem_cons, List.not_mem_nil, or_false] at hy
  rcases hy with rfl | rfl
  · exact h.1
  · exact h.2
theorem LegalS (v : Value) (x : List Cw) (w : World) (h : Rv w v x) (a b : Cw) (hx : x = [a, b]) (hs : (decide (rb a.ro ≤ 10000000) && decide (rb b.ro ≤ 10000000)) = true) (hf : (decide (a.ro.attrs.length ≤ 1000000) && decide (b.ro.attrs.length ≤ 1000000)) = true) (ht : (Ro.txt (ros x)).length ≤ 1000000000) (q : Bool) (hq : legalB (ros x) = q) :
    Calls Try.prog 16 #[v] w fun e w' => e = .returned (.bool q) ∧ Below w.heap.size w w' := by
  subst hx
  exact Legal1 v [a, b] w h (by show 2 ≤ 1000; omega) (few_two hf) ht (small_two hs) q hq

theorem rows_br (w : World) :
    Calls Try.prog 9 #[.slice (some ⟨w.heap.size + 1, 0, none⟩) 2 2] ((w.alloc (.cells #[.string ⟨#[97]⟩, .string ⟨#[34]⟩] 41)).alloc (.cells #[.int .i64 0, .int .i64 0, .string ⟨#[98, 114]⟩, .string ⟨#[]⟩, .slice (some ⟨w.heap.size, 0, none⟩) 1 1, .int .i64 0, .int .i64 2, .string ⟨#[]⟩, .string ⟨#[99]⟩, .slice none 0 0] 35)) fun e w' =>
      e = .returned (.string ⟨#[60, 98, 114, 32, 97, 61, 34, 38, 113, 117, 111, 116, 59, 34, 62, 60, 33, 45, 45, 99, 45, 45, 62]⟩) ∧ Below w.heap.size w w' := by
  obtain ⟨W1, hW1⟩ : ∃ W1, w.alloc (.cells #[.string ⟨#[97]⟩, .string ⟨#[34]⟩] 41) = W1 := ⟨_, rfl⟩
  have hs : w.heap.size + 1 = W1.heap.size := by rw [← hW1]; simp
  have hg : W1.heap[w.heap.size]? = some (.cells #[.string ⟨#[97]⟩, .string ⟨#[34]⟩] 41) := by rw [← hW1]; exact heap_alloc_new w _
  have hb : Below w.heap.size w W1 := by rw [← hW1]; exact below_new w _
  rw [hW1, hs]
  refine (Rows1 _ (brC w.heap.size) _ ⟨#[60, 98, 114, 32, 97, 61, 34, 38, 113, 117, 111, 116, 59, 34, 62, 60, 33, 45, 45, 99, 45, 45, 62]⟩ (br_new W1 _ w.heap.size hg rfl) (by show 2 ≤ 1000; omega) (small_two (by show (decide (rb (⟨0, 0, n_br, ⟨#[]⟩, [⟨⟨#[97]⟩, ⟨#[34]⟩⟩]⟩ : Ro) ≤ 10000000) && decide (rb (⟨0, 2, ⟨#[]⟩, ⟨#[99]⟩, []⟩ : Ro) ≤ 10000000)) = true; decide)) (by rw [ros_br]; exact w_b) (by decide)).mono ?_
  rintro e w' ⟨he, hb'⟩
  exact ⟨he, bt hb (bt (below_new W1 _) hb')⟩

set_option maxRecDepth 100000 in
set_option maxHeartbeats 4000000 in
theorem fixed8_any (w : World) : Calls Try.prog 8 #[] w fun e w' => e = .returned (.bool true) ∧ Below w.heap.size w w' := by
  obtain ⟨P, hP⟩ : ∃ P, w.alloc (.cells #[.int .i64 0, .int .i64 0, .string ⟨#[112]⟩, .string ⟨#[]⟩, .slice none 0 0, .int .i64 1, .int .i64 0, .string ⟨#[112]⟩, .string ⟨#[]⟩, .slice none 0 0] 35) = P := ⟨_, rfl⟩
  have hpp : Rv P (.slice (some ⟨w.heap.size, 0, none⟩) 2 2) ppC := by rw [← hP]; exact two_new w _ ⟨0, 0, n_p, ⟨#[]⟩, []⟩ ⟨1, 0, n_p, ⟨#[]⟩, []⟩ rfl rfl (held_two rfl (.inr rfl)) rfl
  have hb0 : Below w.heap.size w P := by rw [← hP]; exact below_new w _
  have HPP := Lib.hid hpp; have HBP := Lib.hid hb0; have HP := Lib.hid hP
  clear hpp hb0 hP
  go_enter Try.func8, Try.ntmps8
  go_upto_region 2 with (fail)
  rw [HP.out]
  have HB0 := Lib.hid (Below.refl P.heap.size P)
  go_wp2_with fail
  refine (one_any n_p t_ab _).mono ?_
  rintro e w1 ⟨v1, rfl, r1, b1⟩
  have HB1 := Lib.hid (bt HB0.out b1); have HR1 := Lib.hid r1
  clear b1 r1
  go_wp2_with fail
  refine (Rows1 v1 _ w1 ⟨#[60, 112, 62, 97, 38, 108, 116, 59, 98, 60, 47, 112, 62]⟩ HR1.out (by decide) (small_two (by decide)) (by rw [ros_one]; exact w_p) (by decide)).mono ?_
  rintro e w2 ⟨rfl, b2⟩
  have HB2 := Lib.hid (bt HB1.out b2)
  clear b2
  go_wp2_with fail
  refine (one_any n_script t_ab _).mono ?_
  rintro e w3 ⟨v3, rfl, r3, b3⟩
  have HB3 := Lib.hid (bt HB2.out b3); have HR3 := Lib.hid r3
  clear b3 r3
  go_wp2_with fail
  refine (Rows1 v3 _ w3 ⟨#[60, 115, 99, 114, 105, 112, 116, 62, 97, 60, 98, 60, 47, 115, 99, 114, 105, 112, 116, 62]⟩ HR3.out (by decide) (small_two (by decide)) (by rw [ros_one]; exact w_s) (by decide)).mono ?_
  rintro e w4 ⟨rfl, b4⟩
  have HB4 := Lib.hid (bt HB3.out b4)
  clear b4
  go_wp2_with fail
  refine (one_any n_p t_ab _).mono ?_
  rintro e w5 ⟨v5, rfl, r5, b5⟩
  have HB5 := Lib.hid (bt HB4.out b5); have HR5 := Lib.hid r5
  clear b5 r5
  go_wp2_with fail
  refine (Inside1 v5 _ 0 w5 ⟨#[97, 38, 108, 116, 59, 98]⟩ HR5.out (by decide) (small_two (by decide)) (by rw [ros_one]; exact w_i) (by decide)).mono ?_
  rintro e w6 ⟨rfl, b6⟩
  have HB6 := Lib.hid (bt HB5.out b6)
  clear b6
  go_wp2_with fail
  refine (rows_br w6).mono ?_
  rintro e w7 ⟨rfl, b7⟩
  have HB7 := Lib.hid (bt HB6.out b7)
  clear b7
  go_wp2_with fail
  refine (one_any n_p t_ab _).mono ?_
  rintro e w8 ⟨v8, rfl, r8, b8⟩
  have HB8 := Lib.hid (bt HB7.out b8); have HR8 := Lib.hid r8
  clear b8 r8
  go_wp2_with fail
  refine (LegalS v8 _ w8 HR8.out _ _ rfl (by decide) (by decide) (by decide) true (by rw [ros_one]; exact legal_p)).mono ?_
  rintro e w9 ⟨rfl, b9⟩
  have HB9 := Lib.hid (bt HB8.out b9)
  clear b9
  go_wp2_with fail
  refine (one_any n_script t_ab _).mono ?_
  rintro e w10 ⟨v10, rfl, r10, b10⟩
  have HB10 := Lib.hid (bt HB9.out b10); have HR10 := Lib.hid r10
  clear b10 r10
  go_wp2_with fail
  refine (LegalS v10 _ w10 HR10.out _ _ rfl (by decide) (by decide) (by decide) true (by rw [ros_one]; exact legal_s)).mono ?_
  rintro e w11 ⟨rfl, b11⟩
  have HB11 := Lib.hid (bt HB10.out b11)
  clear b11
  go_wp2_with fail
  refine (one_any n_script t_aeb _).mono ?_
  rintro e w12 ⟨v12, rfl, r12, b12⟩
  have HB12 := Lib.hid (bt HB11.out b12); have HR12 := Lib.hid r12
  clear b12 r12
  go_wp2_with fail
  refine (LegalS v12 _ w12 HR12.out _ _ rfl (by decide) (by decide) (by decide) false (by rw [ros_one]; exact not_s)).mono ?_
  rintro e w13 ⟨rfl, b13⟩
  have HB13 := Lib.hid (bt HB12.out b13)
  clear b13
  go_wp2_with fail
  refine (LegalS _ ppC w13 (HPP.out.below HB13.out) _ _ rfl (by decide) (by decide) (by decide) false (by rw [ros_pp]; exact not_p)).mono ?_
  rintro e w14 ⟨rfl, b14⟩
  have HB14 := Lib.hid (bt HB13.out b14)
  clear b14
  go_wp2_with fail
  refine (one_any n_br ⟨#[97]⟩ _).mono ?_
  rintro e w15 ⟨v15, rfl, r15, b15⟩
  have HB15 := Lib.hid (bt HB14.out b15); have HR15 := Lib.hid r15
  clear b15 r15
  go_wp2_with fail
  refine (LegalS v15 _ w15 HR15.out _ _ rfl (by decide) (by decide) (by decide) false (by rw [ros_one]; exact not_b)).mono ?_
  rintro e w16 ⟨rfl, b16⟩
  have HB16 := Lib.hid (bt HB15.out b16)
  clear b16
  go_wp2
  go_ret
  exact ⟨rfl, bt HBP.out HB16.out⟩

end Go.Proofs.Ytenmlpfjeohkiaa.Wr

namespace Go.Proofs.Ytenmlpfjeohkiaa.Wr
set_option maxRecDepth 100000
set_option linter.unusedVariables false
set_option linter.unusedSimpArgs false
open Go.RowKit Ba Fm Fo Nm Wm
open Ro (At Ro Cw ros rowO rowV below_new range2 range5 cells Rv bare rows_new)
theorem join1 (a b : Value) (x y : List Cw) (w : World) (ha : Rv w a x) (hb : Rv w b y) (hx : x.length ≤ 1000) (hy : y.length ≤ 1000) (hfx : Ro.Few (ros x)) (hfy : Ro.Few (ros y)) (hd : Ro.Held (ros x ++ ros y)) :
    Calls Try.prog 17 #[a, b] w fun e w' => ∃ v l, e = .returned v ∧ Rv w' v l ∧ ros l = ros x ++ ros y ∧ Below w.heap.size w w' := by
  obtain ⟨A, c, rfl, hc, hm, hr, hh⟩ := ha
  obtain ⟨B, d, rfl, hdc, hdm, hdr, hdh⟩ := hb
  refine (Ro.Join_any A B c d x y w hr hdr hc hdc (by omega) (by omega) hfx hfy hh hdh).mono ?_
  rintro e w' ⟨v, l, he, ho, _, hl, hb⟩
  exact ⟨v, l, he, ho.rv (by rw [hl]; exact hd), hl, hb⟩
theorem few6 {x : List Cw} (h : ∀ y ∈ x, y.ro.attrs.length ≤ 6) : Ro.Few (ros x) := fun y hy => by
  obtain ⟨z, hz, rfl⟩ := List.mem_map.1 hy
  have := h z hz
  omega
theorem held_legal {l : List Ro} (h : legalB l = true) : Ro.Held l := fun x hx => by
  obtain ⟨h1, h2, _, _⟩ := legal_parts h
  have h3 := depth_right h2 x hx
  have h4 : x.depth < 60 := by
    apply Decidable.byContradiction
    intro hc
    have := (Ro.exceeds_iff l 4096 60).2 (.inr ⟨x, hx, by omega⟩)
    rw [h1] at this
    cases this
  omega
theorem rb_all {x : List Cw} {n : Nat} (h : rsum (ros x) ≤ n) : ∀ y ∈ x, rb y.ro ≤ n := fun y hy => Nat.le_trans (rb_mem (List.mem_map_of_mem hy)) h
theorem legal8 (v : Value) (x : List Cw) (w : World) (h : Rv w v x) (hl : x.length ≤ 1000) (hf : Ro.Few (ros x)) (hz : rsum (ros x) ≤ 10000000) (q : Bool) (hq : legalB (ros x) = q) :
    Calls Try.prog 16 #[v] w fun e w' => e = .returned (.bool q) ∧ Below w.heap.size w w' :=
  Legal1 v x w h hl hf (Nat.le_trans (txt_rsum _) (by omega)) (rb_all hz) q hq
theorem rows8 (v : Value) (x : List Cw) (w : World) (h : Rv w v x) (hl : x.length ≤ 1000) (hz : rsum (ros x) ≤ 10000000) (q : ByteArray) (hq : B (insideB (ros x) (-1)) = q) :
    Calls Try.prog 9 #[v] w fun e w' => e = .returned (.string q) ∧ Below w.heap.size w w' := by
  subst hq
  refine Rows1 v x w _ h hl (rb_all hz) (by rw [L_B]) ?_
  rw [size_B]
  have := len_inside (ros x) (-1)
  rw [Ro.len_ros] at this
  omega
theorem inside8 (v : Value) (x : List Cw) (i : Int) (w : World) (h : Rv w v x) (hl : x.length ≤ 1000) (hz : rsum (ros x) ≤ 10000000) (q : ByteArray) (hq : B (insideB (ros x) i) = q) :
    Calls Try.prog 11 #[v, .int .i64 i] w fun e w' => e = .returned (.string q) ∧ Below w.heap.size w w' := by
  subst hq
  refine Inside1 v x i w _ h hl (rb_all hz) (by rw [L_B]) ?_
  rw [size_B]
  have := len_inside (ros x) i
  rw [Ro.len_ros] at this
  omega
theorem size_inside {l : List Ro} {n m : Nat} (h1 : rsum l ≤ n) (h2 : l.length ≤ m) (i : Int) : (B (insideB l i)).size ≤ 6 * n + 10 * m := by
  rw [size_B]
  have := len_inside l i
  omega
theorem elI_new (w : World) (cs : Array Value) (hcs : cs.toList = [bare elI].flatMap cells) : Rv (w.alloc (.cells cs 35)) (.slice (some ⟨w.heap.size, 0, none⟩) 1 1) [bare elI] :=
  (rows_new w [bare elI] cs 1 rfl (by decide) hcs (fun x hx => by
    simp only [List.mem_cons, List.not_mem_nil, or_false] at hx
    exact ⟨_, hx, rfl⟩)).rv (fun x hx => by
    have hx : x ∈ [elI] := hx
    rw [List.mem_singleton.1 hx]
    exact ⟨by decide, by decide⟩)

set_option maxRecDepth 100000 in
set_option maxHeartbeats 4000000 in
theorem law_two (v0 v1 : Value) (l0 l1 : List Cw) (w : World) (h0 : Rv w v0 l0) (h1 : Rv w v1 l1) (z0 : rsum (ros l0) ≤ 1048576) (z1 : rsum (ros l1) ≤ 1048576) :
    Calls Try.prog 5 #[v0, v1] w fun e w' => e = .returned (.bool true) ∧ Below w.heap.size w w' := by
  have HV0 := Lib.hid h0; have HV1 := Lib.hid h1
  clear h0 h1
  go_enter Try.func5, Try.ntmps5
  go_wp2_with fail
  refine (bound8 v0 l0 w HV0.out z0).mono ?_
  rintro e w1 ⟨a, x, rfl, _, hx, _, hxl, hx6, hxz, hb1⟩
  have HX := Lib.hid hx; have HX6 := Lib.hid (few6 hx6); have HB1 := Lib.hid hb1
  clear hx hx6 hb1
  go_wp2_with fail
  refine (bound8 v1 l1 w1 (HV1.out.below HB1.out) z1).mono ?_
  rintro e w2 ⟨b, y, rfl, _, hy, _, hyl, hy6, hyz, hb2⟩
  have HY := Lib.hid hy; have HY6 := Lib.hid (few6 hy6); have HB2 := Lib.hid (bt HB1.out hb2); have HX2 := Lib.hid (HX.out.below hb2)
  clear hy hy6 hb2
  obtain ⟨p, hp⟩ : ∃ p, legalB (ros x) = p := ⟨_, rfl⟩
  obtain ⟨q, hq⟩ : ∃ q, legalB (ros y) = q := ⟨_, rfl⟩
  have HP := Lib.hid hp; have HQ := Lib.hid hq
  clear hp hq
  go_wp2_with fail
  refine (legal8 a x w2 HX2.out (by omega) HX6.out (by omega) p HP.out).mono ?_
  rintro e w3 ⟨rfl, hb3⟩
  have HB3 := Lib.hid (bt HB2.out hb3); have HX3 := Lib.hid (HX2.out.below hb3); have HY3 := Lib.hid (HY.out.below hb3)
  clear hb3
  cases p with
  | false =>
    go_wp2_with fail
    refine (fixed8_any w3).mono ?_
    rintro e w4 ⟨rfl, hb4⟩
    have HB4 := Lib.hid (bt HB3.out hb4)
    clear hb4
    go_wp2
    go_ret
    exact ⟨rfl, HB4.out⟩
  | true =>
  go_wp2_with fail
  refine (legal8 b y w3 HY3.out (by omega) HY6.out (by omega) q HQ.out).mono ?_
  rintro e w4 ⟨rfl, hb4⟩
  have HB4 := Lib.hid (bt HB3.out hb4); have HX4 := Lib.hid (HX3.out.below hb4); have HY4 := Lib.hid (HY3.out.below hb4)
  clear hb4
  cases q with
  | false =>
    go_wp2_with fail
    refine (fixed8_any w4).mono ?_
    rintro e w5 ⟨rfl, hb5⟩
    have HB5 := Lib.hid (bt HB4.out hb5)
    clear hb5
    go_wp2
    go_ret
    exact ⟨rfl, HB5.out⟩
  | true =>
  obtain ⟨hl2, hw2⟩ := legal_two HP.out HQ.out (by rw [Ro.len_ros]; exact hxl) (by rw [Ro.len_ros]; exact hyl)
  have HL2 := Lib.hid hl2; have HW2 := Lib.hid hw2
  have HH := Lib.hid (held_legal hl2)
  clear hl2 hw2
  go_wp2_with fail
  refine (join1 a _ x [bare elI] _ (HX4.out.below (below_new w4 _)) (elI_new w4 _ rfl) (by omega) (by show 1 ≤ 1000; omega) HX6.out (fun z hz => by
    have hz : z ∈ [elI] := hz
    rw [List.mem_singleton.1 hz]; decide) (fun z hz => HH.out z (List.mem_append_left _ hz))).mono ?_
  rintro e w5 ⟨v5, x5, rfl, hv5, hr5, hb5⟩
  have HB5 := Lib.hid (bt HB4.out (bt (below_new w4 _) hb5)); have HV5 := Lib.hid hv5; have HR5 := Lib.hid hr5
  have HX5 := Lib.hid (HX4.out.below (bt (below_new w4 _) hb5)); have HY5 := Lib.hid (HY4.out.below (bt (below_new w4 _) hb5))
  have hl5 : x5.length ≤ 41 := by
    have := congrArg List.length hr5
    rw [Ro.len_ros, List.length_append, Ro.len_ros] at this
    rw [this]
    show x.length + 1 ≤ 41
    omega
  have hf5 : Ro.Few (ros x5) := fun z hz => by
    rw [hr5] at hz
    rcases List.mem_append.1 hz with hz | hz
    · exact HX6.out z hz
    · have hz : z ∈ [elI] := hz
      rw [List.mem_singleton.1 hz]; decide
  have HF5 := Lib.hid hf5
  have hc5 : ros x5 ++ ros y = ros x ++ [elI] ++ ros y := by rw [hr5]; rfl
  have HC5 := Lib.hid hc5
  clear hb5 hv5 hr5 hf5 hc5
  go_wp2_with fail
  refine (join1 v5 b x5 y w5 HV5.out HY5.out (by omega) (by omega) HF5.out HY6.out (by rw [HC5.out]; exact HH.out)).mono ?_
  rintro e w6 ⟨c, z, rfl, hv6, hr6, hb6⟩
  have HB6 := Lib.hid (bt HB5.out hb6); have HV6 := Lib.hid hv6; have HX6' := Lib.hid (HX5.out.below hb6); have HY6' := Lib.hid (HY5.out.below hb6)
  rw [HC5.out] at hr6
  have hzl : z.length ≤ 81 := by
    have := congrArg List.length hr6
    rw [Ro.len_ros, List.length_append, List.length_append, Ro.len_ros, Ro.len_ros] at this
    simp only [List.length_cons, List.length_nil] at this
    omega
  have hzz : rsum (ros z) ≤ 2097153 := by
    rw [hr6, rsum_append, rsum_append]
    have : rsum [elI] = 1 := by decide
    omega
  have hzf : Ro.Few (ros z) := fun u hu => by
    rw [hr6] at hu
    rcases List.mem_append.1 hu with hu | hu
    · rcases List.mem_append.1 hu with hu | hu
      · exact HX6.out u hu
      · rw [List.mem_singleton.1 hu]; decide
    · exact HY6.out u hu
  obtain ⟨S, hS⟩ : ∃ S, B (insideB (ros z) (-1)) = S := ⟨_, rfl⟩
  obtain ⟨S1, hS1⟩ : ∃ S, B (insideB (ros x) (-1)) = S := ⟨_, rfl⟩
  obtain ⟨S2, hS2⟩ : ∃ S, B (insideB (ros y) (-1)) = S := ⟨_, rfl⟩
  have hSS : S = S1 ++ ⟨#[60, 105, 62, 60, 47, 105, 62]⟩ ++ S2 := by
    rw [← hS, ← hS1, ← hS2, hr6, HW2.out]
    apply L_inj
    rw [L_B, L_append, L_append, L_B, L_B]
  have hs1 : S1.size ≤ 10000000 := by
    rw [← hS1]
    have := size_inside hxz (by rw [Ro.len_ros]; exact hxl) (-1)
    omega
  have hs2 : S2.size ≤ 10000000 := by
    rw [← hS2]
    have := size_inside hyz (by rw [Ro.len_ros]; exact hyl) (-1)
    omega
  have hlz : legalB (ros z) = true := by rw [hr6]; exact HL2.out
  have HF6 := Lib.hid hzf; have HLZ := Lib.hid hlz; have HS := Lib.hid hS; have HS1 := Lib.hid hS1; have HS2 := Lib.hid hS2
  have heq : (S.toList == (S1 ++ ⟨#[60, 105, 62, 60, 47, 105, 62]⟩ ++ S2).toList) = true := by rw [hSS]; simp
  clear hb6 hv6 hr6 hzf hS hS1 hS2 hSS hlz
  go_wp2_with fail
  refine (legal8 c z w6 HV6.out (by omega) HF6.out (by omega) true HLZ.out).mono ?_
  rintro e w7 ⟨rfl, hb7⟩
  have HB7 := Lib.hid (bt HB6.out hb7); have HV7 := Lib.hid (HV6.out.below hb7); have HX7 := Lib.hid (HX6'.out.below hb7); have HY7 := Lib.hid (HY6'.out.below hb7)
  clear hb7
  go_wp2_with fail
  refine (rows8 c z w7 HV7.out (by omega) (by omega) S HS.out).mono ?_
  rintro e w8 ⟨rfl, hb8⟩
  have HB8 := Lib.hid (bt HB7.out hb8); have HX8 := Lib.hid (HX7.out.below hb8); have HY8 := Lib.hid (HY7.out.below hb8)
  clear hb8
  go_wp2_with fail
  refine (rows8 a x w8 HX8.out (by omega) (by omega) S1 HS1.out).mono ?_
  rintro e w9 ⟨rfl, hb9⟩
  have HB9 := Lib.hid (bt HB8.out hb9); have HY9 := Lib.hid (HY8.out.below hb9)
  clear hb9
  go_wp2_with fail
  refine (rows8 b y w9 HY9.out (by omega) (by omega) S2 HS2.out).mono ?_
  rintro e w10 ⟨rfl, hb10⟩
  have HB10 := Lib.hid (bt HB9.out hb10)
  clear hb10
  go_wp2_with fail
  refine (fixed8_any w10).mono ?_
  rintro e w11 ⟨rfl, hb11⟩
  have HB11 := Lib.hid (bt HB10.out hb11)
  clear hb11
  go_wp2
  go_ret
  exact ⟨rfl, HB11.out⟩

end Go.Proofs.Ytenmlpfjeohkiaa.Wr

namespace Go.Proofs.Ytenmlpfjeohkiaa.Ro
set_option linter.unusedVariables false
set_option linter.unusedSimpArgs false
open Go.RowKit Ba
/-- All depths are at least d, and where something stands, the first is just d. -/
def Forest (d : Int) (r : List Ro) : Prop := (∀ y ∈ r, d ≤ y.depth) ∧ ∀ y, r.head? = some y → y.depth = d
/-- How many rows the first tree has besides its root. -/
def more (d : Int) (r : List Ro) : Nat := (r.takeWhile fun y => decide (d < y.depth)).length
theorem forest_next {d : Int} {x : Ro} {r : List Ro} (h : Forest d (x :: r)) : x.depth = d ∧ Forest d (r.drop (more d r)) ∧ more d r ≤ r.length := by
  refine ⟨h.2 x rfl, ⟨fun y hy => h.1 y (List.mem_cons_of_mem _ (List.mem_of_mem_drop hy)), fun y hy => ?_⟩, (List.takeWhile_sublist _).length_le⟩
  have h1 := stops (fun y : Ro => decide (d < y.depth)) r y hy
  have h2 := h.1 y (List.mem_cons_of_mem _ (List.mem_of_mem_drop (i := more d r) (List.mem_of_mem_head? hy)))
  simp at h1
  omega
theorem kids_skip (d : Int) : ∀ (n : Nat) (r : List Ro) (k : Nat), (∀ y ∈ r.take n, d < y.depth) → n ≤ r.length → kidsFrom d k r = kidsFrom d (k + n) (r.drop n)
  | 0, r, k, _, _ => rfl
  | n + 1, [], k, _, h => absurd h (by simp)
  | n + 1, x :: r, k, h, hn => by
    have h0 := h x (by simp)
    rw [kids_miss (by omega), kids_skip d n r (k + 1) (fun y hy => h y (by rw [List.take_succ_cons]; exact List.mem_cons_of_mem _ hy)) (by simpa using hn)]
    rw [show k + 1 + n = k + (n + 1) by omega, List.drop_succ_cons]
theorem kids_forest {d : Int} {x : Ro} {r : List Ro} (h : Forest d (x :: r)) (k : Nat) : kidsFrom d k (x :: r) = k :: kidsFrom d (k + 1 + more d r) (r.drop (more d r)) := by
  obtain ⟨h1, _, h3⟩ := forest_next h
  rw [kids_hit h1, kids_skip d (more d r) r (k + 1) (fun y hy => by
    have := takes (fun y : Ro => decide (d < y.depth)) r y hy
    simpa using this) h3]

/-- What stands below a node is a forest one deeper. -/
theorem below_forest {l : List Ro} (h : right l = true) (hl : l.length ≤ 1000) (i : Int) (h1 : -1 ≤ i) (h2 : i < l.length) : Forest (dep l i + 1) (below l i) := by
  refine ⟨fun y hy => ?_, fun y hy => ?_⟩
  · have := mem_takeWhile _ _ y hy
    simp at this
    omega
  · have hb := mem_takeWhile _ _ y (List.mem_of_mem_head? hy)
    simp at hb
    have hfirst : l[(i + 1).toNat]? = some y := by
      unfold below at hy
      cases hd : l.drop (i + 1).toNat with
      | nil => rw [hd] at hy; simp at hy
      | cons z t =>
        rw [hd, List.takeWhile_cons] at hy
        split at hy
        · obtain rfl := Option.some.inj hy
          exact getElem_of_drop hd
        · simp at hy
    by_cases hi : i = -1
    · subst hi
      rw [dep_top]
      have hlt : 0 < l.length := (List.getElem?_eq_some_iff.1 hfirst).1
      cases l with
      | nil => simp at hlt
      | cons x r =>
        have e : x = y := by simpa using hfirst
        subst e
        have hr : rightFrom 0 (x :: r) = true := h
        rw [rightFrom] at hr
        simp only [Bool.and_eq_true, decide_eq_true_eq] at hr
        omega
    · obtain ⟨k, rfl⟩ : ∃ k : Nat, i = k := ⟨i.toNat, by omega⟩
      rw [show ((k : Int) + 1).toNat = k + 1 by omega] at hfirst
      have hk1 : k + 1 < l.length := (List.getElem?_eq_some_iff.1 hfirst).1
      have hs := right_step l 0 h k l[k] y (List.getElem?_eq_getElem (by omega)) hfirst
      have hd : dep l k = l[k].depth := dep_at (List.getElem?_eq_getElem (by omega))
      omega
end Go.Proofs.Ytenmlpfjeohkiaa.Ro

namespace Go.Proofs.Ytenmlpfjeohkiaa.Na
set_option linter.unusedSimpArgs false
set_option linter.unusedVariables false
open Go.RowKit Ba Fm Fo Nm
end Go.Proofs.Ytenmlpfjeohkiaa.Na

namespace Go.Proofs.Ytenmlpfjeohkiaa.Na
set_option linter.unusedSimpArgs false
set_option linter.unusedVariables false
open Go.RowKit Ba Fm Fo Nm
end Go.Proofs.Ytenmlpfjeohkiaa.Na

namespace Go.Proofs.Ytenmlpfjeohkiaa.Bu
set_option maxRecDepth 100000
set_option linter.unusedVariables false
set_option linter.unusedSimpArgs false
open Go.RowKit Ba Fm Fo Nm Bm
theorem refHas1 (V : Value) (l : List ByteArray) (s : ByteArray) (w : World) (h : Sv w w.heap.size V l) (hl : l.length ≤ 1000) (q : Bool) (hq : isIn s l = q) :
    Calls Try.prog 20 #[V, .string s] w fun e w' => e = .returned (.bool q) ∧ w = w' := by
  obtain ⟨A, c, rfl, _, _, hr⟩ := h
  subst hq
  exact has_any A c w.heap.size l s w hr (by omega)
end Go.Proofs.Ytenmlpfjeohkiaa.Bu

namespace Go.Proofs.Ytenmlpfjeohkiaa.Wr
set_option linter.unusedSimpArgs false
set_option linter.unusedVariables false
open Go.RowKit Ba Fm Fo Nm Wm
open Ro (At Ro Cw ros rowO rowV below_new range2 range5 cells Forest kidsFrom kids kidsAt more Rv Nw Rn)
open To (Kb bulk_at)
open Tm (bulkA)
open Bu (refHas1)
open Re (write_true write_false)
open Rm (dec esc)
theorem rest_head {l : List Ro} {D : Int} {t : Nat} {y : Ro} {r : List Ro} (h : rest l D t = y :: r) : l[t]? = some y ∧ D < y.depth := by
  unfold rest at h
  cases hd : l.drop t with
  | nil => rw [hd] at h; cases h
  | cons z q =>
    rw [hd, List.takeWhile_cons] at h
    split at h
    · rename_i hz
      injection h with h1 h2
      subst h1
      unfold deep at hz
      refine ⟨?_, by simpa using hz⟩
      have := congrArg List.head? hd
      rw [List.head?_drop] at this
      exact this
    · cases h
theorem below_rest (l : List Ro) (i : Int) : Ro.below l i = rest l (Ro.dep l i) (i + 1).toNat := rfl
/-- Does text in node i stand as it is? -/
def rawOf (l : List Ro) (i : Int) : Bool := decide (0 ≤ i) && (match l[i.toNat]? with | some x => isIn x.name rawL | none => false)
/-- What the loop over the kids keeps. -/
structure WL (l : List Ro) (D : Int) (s : Nat) (raw : Bool) (ks : List Nat) (j t : Nat) (u : ByteArray) : Prop where
  le : j ≤ ks.length
  kd : ks.drop j = kidsFrom (D + 1) t (rest l D t)
  fo : Forest (D + 1) (rest l D t)
  wrt : L u ++ Wm.wr raw (rest l D t) = Wm.wr raw (rest l D s)
  st : s ≤ t
  len : t + (rest l D t).length = s + (rest l D s).length
theorem more_inn (y : Ro) (r : List Ro) : more y.depth r = (inn y r).length := rfl
/-- What a node adds. -/
def adds (l : List Ro) (raw : Bool) (y : Ro) (t : Nat) : List UInt8 := node raw y ++ (if holds y = true then Wm.wr (isIn y.name rawL) (rest l y.depth (t + 1)) ++ endW y else [])
theorem WL.go {l : List Ro} {D : Int} {s : Nat} {raw : Bool} {ks : List Nat} {j t : Nat} {u : ByteArray} (h : WL l D s raw ks j t u) (hj : j < ks.length) :
    ∃ y, l[t]? = some y ∧ y.depth = D + 1 ∧ ks[j] = t ∧ (rest l y.depth (t + 1)).length < (rest l D s).length ∧ (L u).length + (adds l raw y t).length ≤ (Wm.wr raw (rest l D s)).length ∧
      ∀ u', L u' = L u ++ adds l raw y t → WL l D s raw ks (j + 1) (t + 1 + (rest l y.depth (t + 1)).length) u' := by
  have hkd := h.kd
  rw [List.drop_eq_getElem_cons hj] at hkd
  cases hr : rest l D t with
  | nil => rw [hr] at hkd; cases hkd
  | cons y r =>
    obtain ⟨hy, hD⟩ := rest_head hr
    have hd := (hr ▸ h.fo : Forest (D + 1) (y :: r)).2 y rfl
    obtain ⟨g1, g2, g3⟩ := rest_go hy hD
    have hrr : r = rest l D (t + 1) := by
      rw [hr] at g1
      injection g1
    have hkf := Ro.kids_forest (hr ▸ h.fo : Forest (D + 1) (y :: r)) t
    rw [hr, hkf] at hkd
    injection hkd with e1 e2
    have hm : more (D + 1) r = (rest l y.depth (t + 1)).length := by rw [← hd, more_inn, hrr, g2]
    have hdr : r.drop (more (D + 1) r) = rest l D (t + 1 + (rest l y.depth (t + 1)).length) := by
      rw [hm, ← g2, hrr]
      rw [g2, ← g3, beh, dw_drop]
      show _ = (rest l D (t + 1)).drop (inn y (rest l D (t + 1))).length
      rw [g2]
    have hlr := len_rest hy hD
    have hl0 := h.len
    have hst := h.st
    have hw := wr_rest (raw := raw) hy hD
    have hwt := h.wrt
    rw [hw] at hwt
    refine ⟨y, hy, hd, e1, ?_, ?_, fun u' hu' => ⟨hj, ?_, ?_, ?_, by omega, by omega⟩⟩
    · rw [hr] at hl0 hlr
      simp only [List.length_cons] at hl0 hlr
      omega
    · have := congrArg List.length hwt
      unfold adds
      simp only [List.length_append] at this ⊢
      omega
    · rw [e2, hdr, hm]
    · have := (Ro.forest_next (hr ▸ h.fo : Forest (D + 1) (y :: r))).2.1
      rwa [hdr] at this
    · rw [hu', ← hwt]
      unfold adds
      simp only [List.append_assoc]
theorem WL.stop {l : List Ro} {D : Int} {s : Nat} {raw : Bool} {ks : List Nat} {j t : Nat} {u : ByteArray} (h : WL l D s raw ks j t u) (hj : ¬ j < ks.length) : u = B (Wm.wr raw (rest l D s)) := by
  have hkd := h.kd
  rw [List.drop_of_length_le (by omega)] at hkd
  cases hr : rest l D t with
  | nil =>
    have := h.wrt
    rw [hr, Wm.wr_nil, List.append_nil] at this
    rw [← this, B_L]
  | cons y r =>
    rw [hr, Ro.kids_forest (hr ▸ h.fo : Forest (D + 1) (y :: r)) t] at hkd
    cases hkd

end Go.Proofs.Ytenmlpfjeohkiaa.Wr
