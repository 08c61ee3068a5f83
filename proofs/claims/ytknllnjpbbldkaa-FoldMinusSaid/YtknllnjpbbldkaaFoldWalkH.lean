/-
  Walks of stage 2: boltingref02.Minus and boltingref02.Sorted.
-/
import Derived.Test.YtknllnjpbbldkaaFoldWalkF
namespace Go.Proofs.Ytknllnjpbbldkaa.Fo
open Go.RowKit Ba Fm

theorem take_snocS (l : List ByteArray) (k : Nat) (h : k < l.length) : l.take (k + 1) = l.take k ++ [l[k]] := List.take_succ_eq_append_getElem h

set_option maxHeartbeats 1000000 in
theorem refMinus_any (A C : Option Addr) (c d : Nat) (l m : List ByteArray) (w : World) (hr : Rd w w.heap.size A l) (hq : Rd w w.heap.size C m) (hl : l.length ≤ 1000000) (hm : m.length ≤ 1000000) :
    Calls Try.prog 26 #[.slice A l.length c, .slice C m.length d] w fun e w' => ∃ v, e = .returned v ∧ Sown w.heap.size w' v (mns l m) ∧ Below w.heap.size w w' := by
  have ho0 := Sown.made w
  go_enter Try.func26, Try.ntmps26
  go_wp2
  go_loopw [5, 6] (fun v i wr => ∃ k : Nat, i = .int .i64 k ∧ k ≤ l.length ∧ Sown w.heap.size wr v (mns (l.take k) m) ∧ Below w.heap.size w wr) (fun _ i _ => l.length - (intOf i).toNat)
  case atStart => exact ⟨0, rfl, Nat.zero_le _, ho0, (Below.refl _ _).alloc (Nat.le_refl _) _⟩
  case round =>
    clear ho0
    obtain ⟨k, rfl, hks, hown, hbel⟩ := hrel
    have hN := hbel.size
    by_cases hp : k < l.length
    · obtain ⟨b, off, rfl, hb1, hc⟩ := hr (by omega)
      have hcell : wr.cell? ⟨b, off + k, none⟩ = some (.string l[k]) := (hbel.cell (p := ⟨b, off + k, none⟩) hb1).trans (hc k hp)
      have hq' := hq.below hbel (Nat.le_refl _)
      have hbd : ((mns (l.take k) m).length + 1) * 16 ≤ 140737488355328 := by
        have := len_mns (l.take k) m
        rw [List.length_take] at this
        omega
      clear hc hr
      have hsn := take_snocS l k hp
      cases hin : isIn l[k] m with
      | true =>
        have hmn := mns_yes (l.take k) m _ hin
        rw [← hsn] at hmn
        rw [← hmn] at hown
        have HI := Lib.hid hin; clear hin hsn hmn
        go_wp2_with (go_at_call 29; refine (has_any C d w.heap.size m l[k] _ hq' (by omega)).mono ?_; rw [HI.out]; rintro e w' ⟨rfl, rfl⟩)
        go_roundw
        case rel => exact ⟨k + 1, by go_num, by omega, hown, hbel⟩
        case measure => simp [intOf]; omega
      | false =>
        have hmn := mns_no (l.take k) m _ hin
        rw [← hsn] at hmn
        have HI := Lib.hid hin; have HM := Lib.hid hmn; clear hin hsn hmn
        go_wp2_with (first | (go_at_call 29; refine (has_any C d w.heap.size m l[k] _ hq' (by omega)).mono ?_; rw [HI.out]; rintro e w' ⟨rfl, rfl⟩) | (at_builtin; refine app_one wr rfl (.tmp 21) (.tmp 26) rfl w.heap.size _ (mns (l.take k) m) l[k] rfl hown rfl hbd hN ?_; intro v2 w2 hown2 hk2 _))
        go_roundw
        case rel => exact ⟨k + 1, by go_num, by omega, by rw [HM.out]; exact hown2, hk2 _ hbel⟩
        case measure => simp [intOf]; omega
    · go_wp2
      go_ret
      refine ⟨_, rfl, ?_, hbel⟩
      rw [List.take_of_length_le (by omega)] at hown
      exact hown

/-- The inner loop's list so far, and what is still to come. -/
theorem insL_lt (x y : ByteArray) (l : List ByteArray) (h : lt x y = true) : insL lt x false (y :: l) = x :: y :: l := by unfold insL; rw [if_pos h]
theorem insL_ge (x y : ByteArray) (l : List ByteArray) (h : lt x y = false) : insL lt x false (y :: l) = y :: insL lt x false l :=
  (show insL lt x false (y :: l) = if lt x y = true then x :: y :: l else y :: insL lt x false l from rfl).trans (if_neg (by simp [h]))
theorem sown_dN {N : Nat} {w : World} {v : Value} {l : List ByteArray} (h : Sown N w v l) (n : Nat) : Sown N (w.drewN n) v l := h
theorem drop_consS (l : List ByteArray) (k : Nat) (h : k < l.length) : l.drop k = l[k] :: l.drop (k + 1) := List.drop_eq_getElem_cons h
theorem bdi {acc r : List ByteArray} {x : ByteArray} {p : Bool} {y : ByteArray} {o : List ByteArray} (h : acc ++ x :: r = insL lt y p o) (ho : o.length ≤ 1000000) : (acc.length + 1) * 16 ≤ 140737488355328 := by
  have h1 := congrArg List.length h
  have h2 := len_insL lt y p o
  rw [List.length_append, List.length_cons] at h1
  omega

set_option maxRecDepth 100000 in
set_option maxHeartbeats 2000000 in
theorem refSorted_any (A : Option Addr) (c : Nat) (l : List ByteArray) (w : World) (hr : Rd w w.heap.size A l) (hl : l.length ≤ 1000000) :
    Calls Try.prog 25 #[.slice A l.length c] w fun e w' => ∃ v, e = .returned v ∧ Sown w.heap.size w' v (srt lt l) ∧ Below w.heap.size w w' := by
  have ho0 := Sown.made w
  go_enter Try.func25, Try.ntmps25
  go_wp2
  go_loopw [3, 4, 5, 6, 7] (fun v i _ _ _ wr => ∃ k : Nat, i = .int .i64 k ∧ k ≤ l.length ∧ Sown w.heap.size wr v (srt lt (l.take k)) ∧ Below w.heap.size w wr) (fun _ i _ _ _ _ => l.length - (intOf i).toNat)
  case atStart => exact ⟨0, rfl, Nat.zero_le _, ho0, (Below.refl _ _).alloc (Nat.le_refl _) _⟩
  case round =>
    clear ho0
    obtain ⟨w5, hw5⟩ : ∃ x, x = wr := ⟨_, rfl⟩
    subst hw5
    obtain ⟨k, rfl, hks, hown, hbel⟩ := hrel
    have hN := hbel.size
    by_cases hp : k < l.length
    · obtain ⟨b, off, rfl, hb1, hc⟩ := hr (by omega)
      have hsn := srt_snoc lt (l.take k) l[k]
      rw [← take_snocS l k hp] at hsn
      have HSN := Lib.hid hsn; clear hsn
      have hcw := hc k hp
      clear hc hr
      have hlo := len_srt lt (l.take k)
      rw [List.length_take] at hlo
      generalize srt lt (l.take k) = o at *
      have holen : o.length ≤ 1000000 := by omega
      clear hlo
      generalize hx : l[k] = x at *
      clear hx
      obtain ⟨D, dc, rfl, hdc, hdm, hrd⟩ := hown.form
      have hrd1 := hrd.alloc (Nat.le_refl _) (.cells #[] 9)
      have hcell1 : (w5.alloc (.cells #[] 9)).cell? ⟨b, off + k, none⟩ = some (.string x) := ((hbel.alloc hN _).cell (p := ⟨b, off + k, none⟩) hb1).trans hcw
      go_wp2_with (go_at_call 29; refine (has_any D dc w5.heap.size o x _ hrd1 (by omega)).mono ?_; rintro e w' ⟨rfl, rfl⟩)
      have hon0 : Sown w5.heap.size (w5.alloc (.cells #[] 9)) (.slice (some ⟨w5.heap.size, 0, none⟩) 0 0) [] := Sown.made w5
      have hbn0 : Below w5.heap.size w5 (w5.alloc (.cells #[] 9)) := (Below.refl _ _).alloc (Nat.le_refl _) _
      clear hrd1 hcell1
      have hin : ∀ p, isIn x o = p → insL lt x p o = ins lt x o := fun p h => by unfold ins; rw [h]
      have HIN := Lib.hid (hin _ rfl); clear hin
      generalize isIn x o = p0 at *
      go_loopw [5, 6, 7] (fun v pt i wr => ∃ (j : Nat) (p : Bool) (acc : List ByteArray), pt = .bool p ∧ i = .int .i64 j ∧ j ≤ o.length ∧ Sown w5.heap.size wr v acc ∧ acc ++ insL lt x p (o.drop j) = insL lt x p0 o ∧ Below w5.heap.size w5 wr) (fun _ _ i _ => o.length - (intOf i).toNat)
      case atStart => exact ⟨0, p0, [], rfl, rfl, Nat.zero_le _, hon0, rfl, hbn0⟩
      case round =>
        clear hon0 hbn0
        obtain ⟨j, p, acc, rfl, rfl, hjo, hown2, hacc, hbel2⟩ := hrel
        have hN2 := hbel2.size
        have hcx : wr.cell? ⟨b, off + k, none⟩ = some (.string x) := (hbel2.cell (p := ⟨b, off + k, none⟩) (by simp; omega)).trans ((hbel.cell (p := ⟨b, off + k, none⟩) hb1).trans hcw)
        by_cases hj : j < o.length
        · obtain ⟨b', off', rfl, hb2, hco⟩ := hrd (by omega)
          have hcj : wr.cell? ⟨b', off' + j, none⟩ = some (.string o[j]) := (hbel2.cell (p := ⟨b', off' + j, none⟩) hb2).trans (hco j hj)
          have hcj0 := hco j hj
          clear hco hrd
          rw [drop_consS o j hj] at hacc
          cases p with
          | true =>
            rw [insL_true, ← insL_true lt x (o.drop (j + 1))] at hacc
            have hbd := bdi hacc holen
            have HA := Lib.hid hacc; clear hacc
            go_wp2
            go_quiet (fail)
            have hbel3 := below_dN hbel2 nq
            go_wp2_with (at_builtin; refine app_one (wr.drewN nq) rfl (.tmp 48) (.tmp 53) rfl w5.heap.size _ acc o[j] rfl (sown_dN hown2 nq) rfl hbd hbel3.size ?_; intro v3 w3 hown3 hk3 _)
            go_roundw
            case rel => exact ⟨j + 1, true, acc ++ [o[j]], rfl, by go_num, by omega, hown3, by rw [List.append_assoc]; exact HA.out, hk3 _ hbel3⟩
            case measure => simp [intOf]; omega
          | false =>
            have hk0 : (0 : Int) ≤ (j : Int) := by omega
            have hk1 : (j : Int) < (o.length : Int) := by omega
            have hk2 : (0 : Int) ≤ (k : Int) := by omega
            have hk3 : (k : Int) < (l.length : Int) := by omega
            cases hlt : lt x o[j] with
            | true =>
              rw [insL_lt _ _ _ hlt] at hacc
              have hbd := bdi hacc holen
              have hacc' : (acc ++ [x]) ++ o[j] :: o.drop (j + 1) = insL lt x p0 o := by rw [List.append_assoc]; exact hacc
              have hbd' := bdi hacc' holen
              have HA := Lib.hid hacc'; clear hacc hacc'
              have hlt' : Op.bytesLess x.toList o[j].toList = true := hlt
              clear hlt
              go_wp2
              go_quiet (fail)
              have hbel3 := below_dN hbel2 nq
              go_wp2_with (first | (at_builtin; refine app_one (wr.drewN nq) rfl (.tmp 41) (.tmp 46) rfl w5.heap.size _ acc x rfl (sown_dN hown2 nq) rfl hbd hbel3.size ?_; intro v3 w3 hown3 hk3 _; have hcj3 : w3.cell? ⟨b', off' + j, none⟩ = some (.string o[j]) := ((hk3 _ hbel3).cell (p := ⟨b', off' + j, none⟩) hb2).trans hcj0) | (at_builtin; refine app_one w3 rfl (.tmp 48) (.tmp 53) rfl w5.heap.size _ (acc ++ [x]) o[j] rfl hown3 rfl hbd' (hk3 _ hbel3).size ?_; intro v4 w4 hown4 hk4 _))
              go_roundw
              case rel => exact ⟨j + 1, true, acc ++ [x] ++ [o[j]], rfl, by go_num, by omega, hown4, by rw [insL_true, List.append_assoc]; exact HA.out, hk4 _ (hk3 _ hbel3)⟩
              case measure => simp [intOf]; omega
            | false =>
              rw [insL_ge _ _ _ hlt] at hacc
              have hbd := bdi hacc holen
              have HA := Lib.hid hacc; clear hacc
              have hlt' : Op.bytesLess x.toList o[j].toList = false := hlt
              clear hlt
              go_wp2
              go_quiet (fail)
              have hbel3 := below_dN hbel2 nq
              go_wp2_with (at_builtin; refine app_one (wr.drewN nq) rfl (.tmp 48) (.tmp 53) rfl w5.heap.size _ acc o[j] rfl (sown_dN hown2 nq) rfl hbd hbel3.size ?_; intro v3 w3 hown3 hk3 _)
              go_roundw
              case rel => exact ⟨j + 1, false, acc ++ [o[j]], rfl, by go_num, by omega, hown3, by rw [List.append_assoc]; exact HA.out, hk3 _ hbel3⟩
              case measure => simp [intOf]; omega
        · rw [List.drop_eq_nil_of_le (by omega)] at hacc
          cases p with
          | true =>
            rw [insL_true, List.append_nil] at hacc
            have HA := Lib.hid hacc; clear hacc
            go_wp2
            go_roundw
            case rel => exact ⟨k + 1, by go_num, by omega, by rw [HSN.out, ← HIN.out, ← HA.out]; exact hown2.mono hN, hbel.trans (hbel2.mono hN)⟩
            case measure => simp [intOf]; omega
          | false =>
            have hacc' : acc ++ [x] = insL lt x p0 o := hacc
            have hbd := bdi hacc' holen
            have HA := Lib.hid hacc'; clear hacc hacc'
            go_wp2_with (at_builtin; refine app_one wr rfl (.tmp 57) (.tmp 62) rfl w5.heap.size _ acc x rfl hown2 rfl hbd hbel2.size ?_; intro v3 w3 hown3 hk3 _)
            go_roundw
            case rel => exact ⟨k + 1, by go_num, by omega, by rw [HSN.out, ← HIN.out, ← HA.out]; exact hown3.mono hN, hbel.trans ((hk3 _ hbel2).mono hN)⟩
            case measure => simp [intOf]; omega
    · go_wp2
      go_ret
      refine ⟨_, rfl, ?_, hbel⟩
      rw [List.take_of_length_le (by omega)] at hown
      exact hown

end Go.Proofs.Ytknllnjpbbldkaa.Fo
