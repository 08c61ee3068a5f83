/-
  Walks of stage 9's laws LinkSchemes and LinkSources: each returns true.
-/
import Derived.Test.YtchholpiikeakaaLinkFixed
import Derived.Test.YtchholpiikeakaaLinkRef
namespace Go.Proofs.Ytchholpiikeakaa.Lk
set_option maxRecDepth 100000
set_option linter.unusedSimpArgs false
set_option linter.unusedVariables false
open Go.RowKit Ba Fm Fo

theorem refScheme1 (s : ByteArray) (w : World) (hs : s.size ≤ 140737488355328) (x : ByteArray) (q : Bool) (hx : B (schemeL (L s)) = x) (hq : hasL (L s) = q) :
    Calls Try.prog 12 #[.string s] w fun e w' => e = .returned (.tuple #[.string x, .bool q]) ∧ Below w.heap.size w w' := by
  have k := refScheme_any s w hs
  have hv : schemeV (schemeO (L s)) = .tuple #[.string x, .bool q] := by rw [← hx, ← hq]; rfl
  rw [hv] at k
  exact k
theorem refSource1 (s : ByteArray) (w : World) (hs : s.size ≤ 140737488355328) (x : ByteArray) (q : Bool) (hx : B (sourceL (L s)) = x) (hq : scriptL (L s) = q) :
    Calls Try.prog 17 #[.string s] w fun e w' => e = .returned (.tuple #[.string x, .bool q]) ∧ Below w.heap.size w w' := by
  have k := refSource_any s w hs
  rw [hx, hq] at k
  exact k
theorem refStrip1 (s : ByteArray) (w : World) (hs : s.size ≤ 140737488355328) (x : ByteArray) (hx : B (stripL (L s)) = x) :
    Calls Try.prog 15 #[.string s] w fun e w' => e = .returned (.string x) ∧ Below w.heap.size w w' := by
  have k := refStrip_any s w hs
  rw [hx] at k
  exact k
theorem refPercent1 (s : ByteArray) (w : World) (hs : s.size ≤ 140737488355328) (x : ByteArray) (hx : B (pct (L s)) = x) :
    Calls Try.prog 20 #[.string s] w fun e w' => e = .returned (.string x) ∧ Below w.heap.size w w' := by
  have k := refPercent_any s w hs
  rw [hx] at k
  exact k

theorem law_schemes (s : ByteArray) (hs : s.size ≤ 140737488351232) (w : World) :
    Calls Try.prog 3 #[.string s] w fun e w' => e = .returned (.bool true) ∧ Below w.heap.size w w' := by
  obtain ⟨k, hk1, hk2, -, hmin1⟩ := cut_any s.size 1000 1000 rfl w
  obtain ⟨u, hu⟩ : ∃ u, s.extract 0 k = u := ⟨_, rfl⟩
  have hus : u.size ≤ 1000 := by rw [← hu]; exact Nat.le_trans (cut_le s k) hk2
  have hul : u.size ≤ 140737488355328 := by omega
  obtain ⟨x, hx⟩ : ∃ x, B (schemeL (L u)) = x := ⟨_, rfl⟩
  obtain ⟨q, hq⟩ : ∃ q, hasL (L u) = q := ⟨_, rfl⟩
  obtain ⟨y, hy⟩ : ∃ y, B (stripL (L u)) = y := ⟨_, rfl⟩
  have HU := Lib.hid hu; have HX := Lib.hid hx; have HQ := Lib.hid hq; have HY := Lib.hid hy
  clear hu hx hq hy
  go_enter Try.func3, Try.ntmps3
  go_wp2_with fail
  simp only [HU.out]
  refine (scheme1 u w hul x q HX.out HQ.out).mono ?_
  rintro e w1 ⟨rfl, b1⟩
  clear hmin1
  go_wp2_with fail
  refine (refScheme1 u w1 hul x q HX.out HQ.out).mono ?_
  rintro e w2 ⟨rfl, b2⟩
  go_wp2_with fail
  refine (fixed9_any w2).mono ?_
  rintro e w3 ⟨rfl, b3⟩
  go_wp2_with fail
  refine (strip1 u w3 hul y HY.out).mono ?_
  rintro e w4 ⟨rfl, b4⟩
  go_wp2_with fail
  refine (refStrip1 u w4 hul y HY.out).mono ?_
  rintro e w5 ⟨rfl, b5⟩
  cases q
  all_goals
    go_wp2
    go_ret
    exact ⟨rfl, bt b1 (bt b2 (bt b3 (bt b4 b5)))⟩

theorem law_sources (s : ByteArray) (hs : s.size ≤ 140737488351232) (w : World) :
    Calls Try.prog 4 #[.string s] w fun e w' => e = .returned (.bool true) ∧ Below w.heap.size w w' := by
  obtain ⟨k, hk1, hk2, -, hmin1⟩ := cut_any s.size 1000 1000 rfl w
  obtain ⟨u, hu⟩ : ∃ u, s.extract 0 k = u := ⟨_, rfl⟩
  have hus : u.size ≤ 1000 := by rw [← hu]; exact Nat.le_trans (cut_le s k) hk2
  have hul : u.size ≤ 140737488355328 := by omega
  obtain ⟨x, hx⟩ : ∃ x, B (sourceL (L u)) = x := ⟨_, rfl⟩
  obtain ⟨q, hq⟩ : ∃ q, scriptL (L u) = q := ⟨_, rfl⟩
  obtain ⟨y, hy⟩ : ∃ y, B (pct (L u)) = y := ⟨_, rfl⟩
  have HU := Lib.hid hu; have HX := Lib.hid hx; have HQ := Lib.hid hq; have HY := Lib.hid hy
  clear hu hx hq hy
  go_enter Try.func4, Try.ntmps4
  go_wp2_with fail
  simp only [HU.out]
  refine (source1 u w hul x q HX.out HQ.out).mono ?_
  rintro e w1 ⟨rfl, b1⟩
  clear hmin1
  go_wp2_with fail
  refine (refSource1 u w1 hul x q HX.out HQ.out).mono ?_
  rintro e w2 ⟨rfl, b2⟩
  go_wp2_with fail
  refine (fixed9_any w2).mono ?_
  rintro e w3 ⟨rfl, b3⟩
  cases q
  all_goals
    go_wp2_with fail
    refine (script1 u w3 hul _ HQ.out).mono ?_
    rintro e w4 ⟨rfl, b4⟩
    go_wp2_with fail
    refine (percent1 u w4 hul y HY.out).mono ?_
    rintro e w5 ⟨rfl, b5⟩
    go_wp2_with fail
    refine (refPercent1 u w5 hul y HY.out).mono ?_
    rintro e w6 ⟨rfl, b6⟩
    go_wp2
    go_ret
    exact ⟨rfl, bt b1 (bt b2 (bt b3 (bt b4 (bt b5 b6))))⟩

end Go.Proofs.Ytchholpiikeakaa.Lk
