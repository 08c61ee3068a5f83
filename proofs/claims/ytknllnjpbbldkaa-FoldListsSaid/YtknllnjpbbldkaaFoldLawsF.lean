/-
  Walk of stage 2's law FoldLists: it returns true.
-/
import Derived.Test.YtknllnjpbbldkaaFoldLawsE
namespace Go.Proofs.Ytknllnjpbbldkaa.Fo
open Go.RowKit Ba Fm

theorem refSorted1 (w : World) (v : Value) (l r : List ByteArray) (hv : Sv w w.heap.size v l) (hl : l.length ≤ 60) (h : srt lt l = r) :
    Calls Try.prog 25 #[v] w fun e w' => ∃ v', e = .returned v' ∧ Sown w.heap.size w' v' r ∧ Below w.heap.size w w' := by
  obtain ⟨A, c, rfl, _, _, hr⟩ := hv
  have k := refSorted_any A c l w hr (by omega)
  rw [h] at k
  exact k
theorem refMinus1 (w : World) (va vb : Value) (l m r : List ByteArray) (hva : Sv w w.heap.size va l) (hvb : Sv w w.heap.size vb m) (hl : l.length ≤ 60) (hm : m.length ≤ 60) (h : mns l m = r) :
    Calls Try.prog 26 #[va, vb] w fun e w' => ∃ v, e = .returned v ∧ Sown w.heap.size w' v r ∧ Below w.heap.size w w' := by
  obtain ⟨A, c, rfl, _, _, hr⟩ := hva
  obtain ⟨C, d, rfl, _, _, hq⟩ := hvb
  have k := refMinus_any A C c d l m w hr hq (by omega) (by omega)
  rw [h] at k
  exact k
theorem below1 (w : World) (v : Value) (l : List ByteArray) (s : ByteArray) (n : Nat) (hv : Sv w w.heap.size v l) (hl : l.length ≤ 60) (h : below lt l s = n) :
    Calls Try.prog 28 #[v, .string s] w fun e w' => e = .returned (.int .i64 n) ∧ w = w' := by
  obtain ⟨A, c, rfl, _, _, hr⟩ := hv
  have k := below_any A c _ l s w hr (by omega)
  rw [h] at k
  exact k
theorem sv_up {w w' : World} {v : Value} {l : List ByteArray} (h : Sv w w.heap.size v l) (hb : Below w.heap.size w w') : Sv w' w'.heap.size v l := (h.below hb (Nat.le_refl _)).more hb.size
theorem own_up {N : Nat} {w w' : World} {v : Value} {l : List ByteArray} (h : Sown N w v l) (hb : Below w.heap.size w w') : Sown N w' v l := h.below hb (Nat.le_refl _)
theorem own_other {N : Nat} {w : World} {v : Value} {l : List ByteArray} (h : Sown N w v l) {p : Addr} (hp : p.block < N) (u : Value) : Sown N (w.setCell p u) v l := ownsRow_setCell_below h hp u

set_option maxRecDepth 100000 in
set_option maxHeartbeats 4000000 in
theorem law_lists (va vb : Value) (s : ByteArray) (la lb : List ByteArray) (w : World) (hva : Sv w w.heap.size va la) (hvb : Sv w w.heap.size vb lb) (_hza : la.length ≤ maxLen) (_hzb : lb.length ≤ maxLen) :
    Calls Try.prog 5 #[va, vb, .string s] w fun e w' => e = .returned (.bool true) ∧ Below w.heap.size w w' := by
  obtain ⟨A, ca, rfl, hca, hna, hra⟩ := hva
  obtain ⟨C, cb, rfl, hcb, hnb, hrb⟩ := hvb
  obtain ⟨k, hk1, hk2, -, hmin1⟩ := min_any la.length 60 60 rfl w
  obtain ⟨n, hn1, hn2, -, hmin2⟩ := min_any lb.length 60 60 rfl w
  have hsa := sv_take hra hca hna hk1
  have hsb := sv_take hrb hcb hnb hn1
  have hrk := hra.take k
  have hla : (la.take k).length = k := by rw [List.length_take]; omega
  have hlb : (lb.take n).length = n := by rw [List.length_take]; omega
  generalize la.take k = l at *
  generalize lb.take n = m at *
  have hll : l.length ≤ 60 := by omega
  have hml : m.length ≤ 60 := by omega
  obtain ⟨r, hr⟩ : ∃ r, srt lt l = r := ⟨_, rfl⟩
  obtain ⟨q, hq⟩ : ∃ q, mns l m = q := ⟨_, rfl⟩
  have hrl : r.length ≤ 60 := by rw [← hr]; exact Nat.le_trans (len_srt lt l) hll
  have hql : q.length ≤ 60 := by rw [← hq]; exact Nat.le_trans (len_mns l m) hll
  have hasc : Asc lt r := by rw [← hr]; exact (srt_is ord_lt l).1
  have hin : isIn s r = isIn s l := by rw [← hr]; exact isIn_congr ((srt_is ord_lt l).2 s)
  obtain ⟨z, hz⟩ : ∃ z, below lt r s = z := ⟨_, rfl⟩
  obtain ⟨t, ht⟩ : ∃ t, isIn s l = t := ⟨_, rfl⟩
  rw [ht] at hin
  have HR := Lib.hid hr; have HQ := Lib.hid hq; have HA := Lib.hid hasc; have HI := Lib.hid hin; have HZ := Lib.hid hz; have HT := Lib.hid ht; have HLA := Lib.hid hla
  clear hr hq hasc hin hz ht hlb hra hrb hnb hla
  have ho0 := Sown.made w
  have hb0 := below_one w (.cells #[] 9)
  go_enter Try.func5, Try.ntmps5
  go_wp2_with (at_builtin; refine app_all (w.alloc (.cells #[] 9)) rfl (.tmp 24) (.tmp 25) rfl w.heap.size _ [] l A ca w.heap.size rfl ho0 (by rw [HLA.out]; rfl) hna (hrk.alloc (Nat.le_refl _) _) (by simp; omega) hb0.size ?_; intro v1 w1 ho1 hk1' _)
  have hb1 := hk1' _ hb0
  rw [List.nil_append] at ho1
  clear hk1' hmin1 hmin2 ho0 hb0 hrk
  have sa1 := sv_up hsa hb1
  have sb1 := sv_up hsb hb1
  have sw1 := sv_own ho1
  clear hsa hsb ho1
  refine (sorted1 w1 _ l r sa1 hll HR.out).mono ?_
  rintro e w2 ⟨vx, rfl, ox2, hb2⟩
  go_wp2_with fail
  refine (minus1 w2 _ _ l m q (sv_up sa1 hb2) (sv_up sb1 hb2) hll hml HQ.out).mono ?_
  rintro e w3 ⟨vm, rfl, om3, hb3⟩
  have ox3 := own_up ox2 hb3
  have hb13 := bt hb2 hb3
  go_wp2_with fail
  refine (refSorted1 w3 _ l r (sv_up sa1 hb13) hll HR.out).mono ?_
  rintro e w4 ⟨v4, rfl, o4, hb4⟩
  go_wp2_with fail
  refine (equalS w4 vx v4 r (sv_own (own_up ox3 hb4)) (sv_own o4) (by omega)).mono ?_
  rintro e w5 ⟨rfl, hb5⟩
  have hb35 := bt hb4 hb5
  have hb15 := bt hb13 hb35
  clear o4
  go_wp2_with fail
  refine (refMinus1 w5 _ _ l m q (sv_up sa1 hb15) (sv_up sb1 hb15) hll hml HQ.out).mono ?_
  rintro e w6 ⟨v6, rfl, o6, hb6⟩
  go_wp2_with fail
  refine (equalS w6 vm v6 q (sv_own (own_up om3 (bt hb35 hb6))) (sv_own o6) (by omega)).mono ?_
  rintro e w7 ⟨rfl, hb7⟩
  have hb37 := bt hb35 (bt hb6 hb7)
  have hb17 := bt hb13 hb37
  clear o6 hb35 hb15
  go_wp2_with fail
  refine (refSorted1 w7 _ l r (sv_up sa1 hb17) hll HR.out).mono ?_
  rintro e w8 ⟨v8, rfl, o8, hb8⟩
  go_wp2_with fail
  refine (find1 w8 v8 r s z t (sv_own o8) hrl HA.out HZ.out HI.out).mono ?_
  rintro e w9 ⟨rfl, hb9⟩
  have hb39 := bt hb37 (bt hb8 hb9)
  have hb19 := bt hb13 hb39
  clear o8 hb37 hb17
  go_wp2_with fail
  refine (refSorted1 w9 _ l r (sv_up sa1 hb19) hll HR.out).mono ?_
  rintro e w10 ⟨v10, rfl, o10, hb10⟩
  go_wp2_with fail
  refine (below1 w10 v10 r s z (sv_own o10) hrl HZ.out).mono ?_
  rintro e w11 ⟨rfl, rfl⟩
  have hb310 := bt hb39 hb10
  have hb110 := bt hb13 hb310
  clear o10 hb39 hb19
  go_wp2_with fail
  refine (has1 w10 _ l s t (sv_up sa1 hb110) hll HT.out).mono ?_
  rintro e w11 ⟨rfl, rfl⟩
  have ox := own_up ox3 hb310
  have om := own_up om3 hb310
  have hg2 : ∀ g, vx.ownBlock = some g → g < w2.heap.size := fun g hg => (World.ownsRow.lt ox2 g hg).2
  have hN12 := hb2.size
  clear ox2 ox3 om3 hb2 hb3 hb4 hb5 hb6 hb7 hb8 hb9 hb10 hb13 hb310 sb1
  obtain ⟨D, cd, hvx, _, _, _⟩ := sv_own ox
  subst hvx
  obtain ⟨E, ce, hvm, _, _, _⟩ := sv_own om
  subst hvm
  go_wp2
  go_loopw [12] (fun i wr => ∃ (x : Nat) (l' : List ByteArray), i = .int .i64 x ∧ x ≤ r.length ∧ l'.length = r.length ∧ Sown w1.heap.size wr (.slice D r.length cd) l' ∧ Sown w2.heap.size wr (.slice E q.length ce) q ∧ Below w1.heap.size w1 wr) (fun i _ => r.length - (intOf i).toNat)
  case atStart => exact ⟨0, r, rfl, Nat.zero_le _, rfl, ox, om, hb110⟩
  case round =>
    obtain ⟨w20, hw20⟩ : ∃ x, x = wr := ⟨_, rfl⟩
    subst hw20
    clear ox om hb110
    obtain ⟨x, l', rfl, hxr, hlr, ox, om, hbl⟩ := hrel
    have HLR := Lib.hid hlr; clear hlr
    by_cases hp : x < r.length
    · obtain ⟨g, cap, hv⟩ := own_form ox (by have := HLR.out; omega)
      rw [HLR.out] at hv
      injection hv with hD _ hc
      subst hD
      obtain ⟨hcell, hfz⟩ := own_cell ox HLR.out x hp
      obtain ⟨hst, hng⟩ := own_store ox HLR.out x ⟨#[]⟩
      have hgl : g < w2.heap.size := hg2 g rfl
      have hom := own_other om (p := ⟨g, x, none⟩) hgl (.string ⟨#[]⟩)
      have hbs := hbl.setCell (p := ⟨g, x, none⟩) hng (.string ⟨#[]⟩)
      clear hc hg2
      go_wp2
      go_roundw
      case rel => exact ⟨x + 1, l'.set x ⟨#[]⟩, by go_num, by omega, by rw [List.length_set]; exact HLR.out, hst, hom, hbs⟩
      case measure => simp [intOf]; omega
    · clear hg2
      go_wp2
      go_loopw [13] (fun i wr => ∃ (x : Nat) (l' : List ByteArray), i = .int .i64 x ∧ x ≤ q.length ∧ l'.length = q.length ∧ Sown w2.heap.size wr (.slice E q.length ce) l' ∧ Below w1.heap.size w1 wr) (fun i _ => q.length - (intOf i).toNat)
      case atStart => exact ⟨0, q, rfl, Nat.zero_le _, rfl, om, hbl⟩
      case round =>
        clear om hbl ox
        obtain ⟨y, l'', rfl, hyr, hly, om, hbl⟩ := hrel
        have HLY := Lib.hid hly; clear hly
        by_cases hp2 : y < q.length
        · obtain ⟨g, cap, hv⟩ := own_form om (by have := HLY.out; omega)
          rw [HLY.out] at hv
          injection hv with hE _ hc
          subst hE
          obtain ⟨hcell, hfz⟩ := own_cell om HLY.out y hp2
          obtain ⟨hst, hng⟩ := own_store om HLY.out y ⟨#[]⟩
          have hbs := hbl.setCell (p := ⟨g, y, none⟩) (Nat.le_trans hN12 hng) (.string ⟨#[]⟩)
          clear hc
          go_wp2
          go_roundw
          case rel => exact ⟨y + 1, l''.set y ⟨#[]⟩, by go_num, by omega, by rw [List.length_set]; exact HLY.out, hst, hbs⟩
          case measure => simp [intOf]; omega
        · go_wp2_with fail
          refine (equalS wr _ v1 l (sv_up sa1 hbl) (sv_up sw1 hbl) (by omega)).mono ?_
          rintro e w30 ⟨rfl, hb30⟩
          go_wp2_with fail
          refine (fixed_any w30).mono ?_
          rintro e w31 ⟨rfl, hb31⟩
          go_wp2
          go_ret
          exact ⟨rfl, bt hb1 (bt hbl (bt hb30 hb31))⟩

end Go.Proofs.Ytknllnjpbbldkaa.Fo
