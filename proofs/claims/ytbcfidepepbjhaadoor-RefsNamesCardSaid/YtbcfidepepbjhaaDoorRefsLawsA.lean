/-
  Walks of stage 3's laws RefsNames, RefsDecodes, RefsWrites: each returns true.
-/
import Derived.Test.YtbcfidepepbjhaaDoorRefsFixed
import Derived.Test.YtbcfidepepbjhaaDoorRefsWalkJ
namespace Go.Proofs.YtbcfidepepbjhaaDoor.Re
open Go.RowKit Ba Rm
set_option linter.unusedVariables false

theorem refNamed1 (w : World) (s x : ByteArray) (ok : Bool) (h1 : B ((Rm.look tab (L s)).getD []) = x) (h2 : (Rm.look tab (L s)).isSome = ok) :
    Calls Tryd.prog 12 #[.string s] w fun e w' => e = .returned (.tuple #[.string x, .bool ok]) ∧ Below w.heap.size w w' := by
  have k := refNamed_any s w
  rw [h1, h2] at k
  exact k
theorem refCode1 (w : World) (n : Int) (x : ByteArray) (h : B (code n) = x) :
    Calls Tryd.prog 15 #[.int .i64 n] w fun e w' => e = .returned (.string x) ∧ Below w.heap.size w w' := by
  have k := refCode_any n w
  rw [h] at k
  exact k
theorem refDecode1 (w : World) (s x : ByteArray) (hs : s.size ≤ 140737488351232) (h : B (dec (L s)) = x) :
    Calls Tryd.prog 17 #[.string s] w fun e w' => e = .returned (.string x) ∧ Below w.heap.size w w' := by
  have k := refDecode_any s w hs
  rw [h] at k
  exact k
theorem write1 (w : World) (s x : ByteArray) (hs : s.size ≤ 1000000) (h : B (esc false (L s)) = x) :
    Calls Tryd.prog 19 #[.string s, .bool false] w fun e w' => e = .returned (.string x) ∧ Below w.heap.size w w' := by
  have k := write_false s w hs
  rw [h] at k
  exact k
theorem write2 (w : World) (s x : ByteArray) (hs : s.size ≤ 1000000) (h : B (esc true (L s)) = x) :
    Calls Tryd.prog 19 #[.string s, .bool true] w fun e w' => e = .returned (.string x) ∧ Below w.heap.size w w' := by
  have k := write_true s w hs
  rw [h] at k
  exact k
theorem cut_size (s : ByteArray) (k : Nat) : (s.extract 0 k).size ≤ k := by
  rw [← size_L, L_extract, List.length_take]; omega
theorem min_any (x : Nat) (m : Nat) (M : Int) (hM : M = m) (w : World) : ∃ k : Nat, k ≤ x ∧ k ≤ m ∧ k = min x m ∧ ∀ ts t, (Builtin.min_ ts t #[.int .i64 x, .int .i64 M]).run Tryd.prog w = .ok (.int .i64 k) w := by
  refine ⟨min x m, by omega, by omega, rfl, fun ts t => ?_⟩
  rw [run_min_int2]
  congr 2
  split <;> omega

set_option maxRecDepth 100000 in
set_option maxHeartbeats 2000000 in
theorem law_names (s : ByteArray) (n : Int) (hs : s.size ≤ 140737488351232) (hn : (Lit.int .i64 n).wf = true) (w : World) (ht : Tab w) :
    Calls Tryd.prog 3 #[.string s, .int .i64 n] w fun e w' => e = .returned (.bool true) ∧ Below w.heap.size w w' := by
  obtain ⟨x, hx⟩ : ∃ x, B ((Rm.look tab (L s)).getD []) = x := ⟨_, rfl⟩
  obtain ⟨q, hq⟩ : ∃ q, (Rm.look tab (L s)).isSome = q := ⟨_, rfl⟩
  obtain ⟨y, hy⟩ : ∃ y, B (code n) = y := ⟨_, rfl⟩
  have HX := Lib.hid hx; have HY := Lib.hid hy; have HQ := Lib.hid hq; clear hx hy hq
  go_enter Tryd.func3, Tryd.ntmps3
  go_wp2_with fail
  refine (named1 w s x q ht HX.out HQ.out).mono ?_
  rintro e w1 ⟨rfl, hb1⟩
  go_wp2_with fail
  refine (refNamed1 w1 s x q HX.out HQ.out).mono ?_
  rintro e w2 ⟨rfl, hb2⟩
  have hb := bt hb1 hb2
  clear hb1 hb2
  go_wp2_with fail
  refine (fixed_any w2 (ht.below hb)).mono ?_
  rintro e w3 ⟨rfl, hb3⟩
  have hb' := bt hb hb3
  clear hb hb3
  go_wp2_with fail
  refine (code1 w3 n y hn HY.out).mono ?_
  rintro e w4 ⟨rfl, rfl⟩
  go_wp2_with fail
  refine (refCode1 w3 n y HY.out).mono ?_
  rintro e w4 ⟨rfl, hb4⟩
  go_wp2
  go_ret
  exact ⟨rfl, bt hb' hb4⟩

set_option maxRecDepth 100000 in
set_option maxHeartbeats 2000000 in
theorem law_decodes (s : ByteArray) (hs : s.size ≤ 140737488351232) (w : World) (ht : Tab w) :
    Calls Tryd.prog 4 #[.string s] w fun e w' => e = .returned (.bool true) ∧ Below w.heap.size w w' := by
  obtain ⟨k, hk1, hk2, -, hmin⟩ := min_any s.size 1000 1000 rfl w
  obtain ⟨u, hu⟩ : ∃ u, s.extract 0 k = u := ⟨_, rfl⟩
  have hus : u.size ≤ 1000 := by rw [← hu]; exact Nat.le_trans (cut_size s k) hk2
  obtain ⟨x, hx⟩ : ∃ x, B (dec (L u)) = x := ⟨_, rfl⟩
  have HX := Lib.hid hx; clear hx
  go_enter Tryd.func4, Tryd.ntmps4
  go_wp2_with fail
  refine (fixed_any w ht).mono ?_
  rintro e w1 ⟨rfl, hb1⟩
  clear hmin
  go_wp2_with fail
  refine (decode1 w1 u x (ht.below hb1) (by omega) HX.out).mono ?_
  rintro e w2 ⟨rfl, hb2⟩
  go_wp2_with fail
  refine (refDecode1 w2 u x (by omega) HX.out).mono ?_
  rintro e w3 ⟨rfl, hb3⟩
  go_wp2
  go_ret
  exact ⟨rfl, bt hb1 (bt hb2 hb3)⟩

set_option maxRecDepth 100000 in
set_option maxHeartbeats 2000000 in
theorem law_writes (s : ByteArray) (hs : s.size ≤ 140737488351232) (w : World) (ht : Tab w) :
    Calls Tryd.prog 5 #[.string s] w fun e w' => e = .returned (.bool true) ∧ Below w.heap.size w w' := by
  obtain ⟨k, hk1, hk2, -, hmin⟩ := min_any s.size 2000 2000 rfl w
  obtain ⟨u, hu⟩ : ∃ u, s.extract 0 k = u := ⟨_, rfl⟩
  have hus : u.size ≤ 2000 := by rw [← hu]; exact Nat.le_trans (cut_size s k) hk2
  obtain ⟨x, hx⟩ : ∃ x, B (esc false (L u)) = x := ⟨_, rfl⟩
  obtain ⟨y, hy⟩ : ∃ y, B (esc true (L u)) = y := ⟨_, rfl⟩
  have HX := Lib.hid hx; have HY := Lib.hid hy; clear hx hy
  go_enter Tryd.func5, Tryd.ntmps5
  go_wp2_with fail
  refine (fixed_any w ht).mono ?_
  rintro e w1 ⟨rfl, hb1⟩
  clear hmin
  go_wp2_with fail
  refine (text1 w1 u x (by omega) HX.out).mono ?_
  rintro e w2 ⟨rfl, hb2⟩
  go_wp2_with fail
  refine (write1 w2 u x (by omega) HX.out).mono ?_
  rintro e w3 ⟨rfl, hb3⟩
  have hb := bt hb1 (bt hb2 hb3)
  clear hb1 hb2 hb3
  go_wp2_with fail
  refine (valueOf1 w3 u y (by omega) HY.out).mono ?_
  rintro e w4 ⟨rfl, hb4⟩
  go_wp2_with fail
  refine (write2 w4 u y (by omega) HY.out).mono ?_
  rintro e w5 ⟨rfl, hb5⟩
  go_wp2
  go_ret
  exact ⟨rfl, bt hb (bt hb4 hb5)⟩

end Go.Proofs.YtbcfidepepbjhaaDoor.Re
