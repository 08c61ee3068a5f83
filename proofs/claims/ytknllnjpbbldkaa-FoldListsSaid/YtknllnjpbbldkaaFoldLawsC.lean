/-
  Walks of stage 2's laws FoldWords and FoldMinus: each returns true.
-/
import Derived.Test.YtknllnjpbbldkaaFoldLawsB
namespace Go.Proofs.Ytknllnjpbbldkaa.Fo
open Go.RowKit Ba Fm

/-- A string stored into a slice of the call's own. -/
theorem own_store {N g cap : Nat} {w : World} {l : List ByteArray} {n : Nat} (h : Sown N w (.slice (some ⟨g, 0, none⟩) n cap) l) (hn : l.length = n) (j : Nat) (y : ByteArray) :
    Sown N (w.setCell ⟨g, j, none⟩ (.string y)) (.slice (some ⟨g, 0, none⟩) n cap) (l.set j y) ∧ N ≤ g := by
  subst hn
  have h1 := (World.ownsRow.stored h j (.string y)).1
  have h2 := (World.ownsRow.lt h g rfl).1
  refine ⟨?_, h2⟩
  unfold Sown
  rw [List.length_set, List.map_set]
  exact h1
theorem own_form {N : Nat} {w : World} {v : Value} {l : List ByteArray} (h : Sown N w v l) (hl : 0 < l.length) : ∃ g cap, v = .slice (some ⟨g, 0, none⟩) l.length cap := by
  rcases h.2 with ⟨_, h0⟩ | ⟨g, cap, _, hv, _⟩
  · omega
  · exact ⟨g, cap, hv⟩
theorem own_cell {N g cap : Nat} {w : World} {l : List ByteArray} {n : Nat} (h : Sown N w (.slice (some ⟨g, 0, none⟩) n cap) l) (hn : l.length = n) (j : Nat) (hj : j < n) : w.cell? ⟨g, j, none⟩ = some (.string (l[j]'(by omega))) ∧ w.frozen? ⟨g, j, none⟩ = false := by
  subst hn
  refine ⟨?_, World.ownsRow.frozenAt h j⟩
  rw [World.ownsRow.cellAt h j (by omega)]
  simp [sc, hj]

theorem refWords1 (w : World) (s : ByteArray) (r : List ByteArray) (hs : s.size ≤ 1000000) (h : wds s = r) :
    Calls Try.prog 20 #[.string s] w fun e w' => ∃ v, e = .returned v ∧ Sown w.heap.size w' v r ∧ Below w.heap.size w w' := by
  have k := refWords_any s w hs
  rw [h] at k
  exact k
theorem refTrim1 (w : World) (s r : ByteArray) (hs : s.size ≤ 140737488355328) (h : B (trimL (L s)) = r) : Calls Try.prog 22 #[.string s] w fun e w' => e = .returned (.string r) ∧ w = w' := by
  have k := refTrim_any s w hs
  rw [h] at k
  exact k

set_option maxRecDepth 100000 in
set_option maxHeartbeats 4000000 in
theorem law_words (s : ByteArray) (hs : s.size ≤ 140737488351232) (w : World) :
    Calls Try.prog 4 #[.string s] w fun e w' => e = .returned (.bool true) ∧ Below w.heap.size w w' := by
  obtain ⟨k, hk1, hk2, -, hmin⟩ := min_any s.size 1000 1000 rfl w
  obtain ⟨u, hu⟩ : ∃ u, s.extract 0 k = u := ⟨_, rfl⟩
  have hus : u.size ≤ 1000 := by rw [← hu]; exact Nat.le_trans (cut_size s k) hk2
  obtain ⟨r, hr⟩ : ∃ r, wds u = r := ⟨_, rfl⟩
  have hrl : r.length ≤ 1000 := by rw [← hr]; exact Nat.le_trans (len_wds u) hus
  obtain ⟨t, ht⟩ : ∃ t, B (trimL (L u)) = t := ⟨_, rfl⟩
  have HU := Lib.hid hu; have HR := Lib.hid hr; have HT := Lib.hid ht; clear hu hr ht
  go_enter Try.func4, Try.ntmps4
  go_wp2
  rw [HU.out]
  clear hmin
  go_loopw [3, 4, 5] (fun i _ _ wr => ∃ j : Nat, i = .int .i64 j ∧ j ≤ 2 ∧ Below w.heap.size w wr) (fun i _ _ _ => 2 - (intOf i).toNat)
  case atStart => exact ⟨0, rfl, Nat.zero_le _, Below.refl _ _⟩
  case round =>
    obtain ⟨w5, hw5⟩ : ∃ x, x = wr := ⟨_, rfl⟩
    subst hw5
    obtain ⟨j, rfl, hj2, hbel⟩ := hrel
    by_cases hp : j < 2
    · go_wp2_with fail
      refine (words1 w5 u r (by omega) HR.out).mono ?_
      rintro e w6 ⟨v6, rfl, ho6, hb6⟩
      go_wp2_with fail
      refine (refWords1 w6 u r (by omega) HR.out).mono ?_
      rintro e w7 ⟨v7, rfl, ho7, hb7⟩
      have ho67 := ho6.below hb7 (Nat.le_refl _)
      go_wp2_with fail
      refine (equalS w7 v6 v7 r (sv_own ho67) (sv_own ho7) (by omega)).mono ?_
      rintro e w8 ⟨rfl, hb8⟩
      have ho68 := ho67.below hb8 (Nat.le_refl _)
      have hb58 := bt hb6 (bt hb7 hb8)
      clear ho6 ho7 ho67 hb6 hb7 hb8
      obtain ⟨A, c, hv, _, _, _⟩ := sv_own ho68
      subst hv
      go_wp2
      go_loopw [5] (fun i wr => ∃ (x : Nat) (l : List ByteArray), i = .int .i64 x ∧ x ≤ r.length ∧ l.length = r.length ∧ Sown w5.heap.size wr (.slice A r.length c) l ∧ Below w5.heap.size w5 wr) (fun i _ => r.length - (intOf i).toNat)
      case atStart => exact ⟨0, r, rfl, Nat.zero_le _, rfl, ho68, hb58⟩
      case round =>
        clear ho68 hb58
        obtain ⟨x, l, rfl, hxr, hlr, hown, hbl⟩ := hrel
        have HLR := Lib.hid hlr; clear hlr
        by_cases hq : x < r.length
        · obtain ⟨g, cap, hv⟩ := own_form hown (by have := HLR.out; omega)
          rw [HLR.out] at hv
          injection hv with hA _ hc
          subst hA
          obtain ⟨hcell, hfz⟩ := own_cell hown HLR.out x hq
          obtain ⟨hst, hng⟩ := own_store hown HLR.out x ⟨#[]⟩
          have hbs := hbl.setCell (p := ⟨g, x, none⟩) hng (.string ⟨#[]⟩)
          clear hc
          go_wp2
          go_roundw
          case rel => exact ⟨x + 1, l.set x ⟨#[]⟩, by go_num, by omega, by rw [List.length_set]; exact HLR.out, hst, hbs⟩
          case measure => simp [intOf]; omega
        · go_wp2
          go_roundw
          case rel => exact ⟨j + 1, by go_num, by omega, bt hbel hbl⟩
          case measure => simp [intOf]; omega
    · go_wp2_with fail
      refine (fixed_any w5).mono ?_
      rintro e w6 ⟨rfl, hb6⟩
      go_wp2_with fail
      refine (trim1 w6 u t (by omega) HT.out).mono ?_
      rintro e w7 ⟨rfl, rfl⟩
      go_wp2_with fail
      refine (refTrim1 w6 u t (by omega) HT.out).mono ?_
      rintro e w7 ⟨rfl, rfl⟩
      go_wp2
      go_ret
      exact ⟨rfl, bt hbel hb6⟩

end Go.Proofs.Ytknllnjpbbldkaa.Fo
