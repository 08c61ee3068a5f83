/-
  Walks of stage 2's laws FoldJoins and FoldWords: each returns true.
-/
import Derived.Test.YtknllnjpbbldkaaFoldLawsA
namespace Go.Proofs.Ytknllnjpbbldkaa.Fo
open Go.RowKit Ba Fm

theorem min_any (x : Nat) (m : Nat) (M : Int) (hM : M = m) (w : World) : ∃ k : Nat, k ≤ x ∧ k ≤ m ∧ k = min x m ∧ ∀ ts t, (Builtin.min_ ts t #[.int .i64 x, .int .i64 M]).run Try.prog w = .ok (.int .i64 k) w := by
  refine ⟨min x m, by omega, by omega, rfl, fun ts t => ?_⟩
  rw [run_min_int2]
  congr 2
  split <;> omega

theorem wds_joins (u v : ByteArray) : wds (u ++ ⟨#[32]⟩ ++ v) = wds u ++ wds v := by
  unfold wds
  rw [L_append, L_append, List.append_assoc]
  have e : L ⟨#[32]⟩ ++ L v = 32 :: L v := rfl
  rw [e, wL_joins (show sp 32 = true from rfl), List.map_append]
theorem trim_around (u : ByteArray) : trimL (L (⟨#[32]⟩ ++ u ++ ⟨#[10]⟩)) = trimL (L u) := by
  rw [L_append, L_append]
  have e : L ⟨#[10]⟩ = [10] := rfl
  have e' : L ⟨#[32]⟩ ++ L u = 32 :: L u := rfl
  rw [e, e', trimE_append _ _ (show sp 10 = true from rfl)]
  unfold trimL
  rw [trimS_sp _ (show sp 32 = true from rfl)]

set_option maxRecDepth 100000 in
set_option maxHeartbeats 4000000 in
theorem law_joins (a b : ByteArray) (ha : a.size ≤ 140737488351232) (hb : b.size ≤ 140737488351232) (w : World) :
    Calls Try.prog 9 #[.string a, .string b] w fun e w' => e = .returned (.bool true) ∧ Below w.heap.size w w' := by
  obtain ⟨k, hk1, hk2, -, hmin1⟩ := min_any a.size 300 300 rfl w
  obtain ⟨m, hm1, hm2, -, hmin2⟩ := min_any b.size 300 300 rfl w
  obtain ⟨u, hu⟩ : ∃ u, a.extract 0 k = u := ⟨_, rfl⟩
  obtain ⟨v, hv⟩ : ∃ v, b.extract 0 m = v := ⟨_, rfl⟩
  have hus : u.size ≤ 300 := by rw [← hu]; exact Nat.le_trans (cut_size a k) hk2
  have hvs : v.size ≤ 300 := by rw [← hv]; exact Nat.le_trans (cut_size b m) hm2
  obtain ⟨r, hr⟩ : ∃ r, wds u = r := ⟨_, rfl⟩
  obtain ⟨q, hq⟩ : ∃ q, wds v = q := ⟨_, rfl⟩
  have hrl : r.length ≤ 300 := by rw [← hr]; exact Nat.le_trans (len_wds u) hus
  have hql : q.length ≤ 300 := by rw [← hq]; exact Nat.le_trans (len_wds v) hvs
  obtain ⟨x, hx⟩ : ∃ x, B (lowL (L u)) = x := ⟨_, rfl⟩
  obtain ⟨y, hy⟩ : ∃ y, B (lowL (L v)) = y := ⟨_, rfl⟩
  obtain ⟨t, ht⟩ : ∃ t, B (trimL (L u)) = t := ⟨_, rfl⟩
  have hxy : B (lowL (L (u ++ v))) = x ++ y := by rw [L_append, lowL_append, ← hx, ← hy, B_append]
  have hj := wds_joins u v
  rw [hr, hq] at hj
  obtain ⟨z, hz⟩ : ∃ z : ByteArray, (⟨#[32]⟩ : ByteArray) ++ u ++ ⟨#[10]⟩ = z := ⟨_, rfl⟩
  have hta : B (trimL (L z)) = t := by rw [← hz, trim_around, ht]
  have s0 : (⟨#[32]⟩ : ByteArray).size = 1 := rfl
  have s10 : (⟨#[10]⟩ : ByteArray).size = 1 := rfl
  have s1 : (u ++ ⟨#[32]⟩).size ≤ 301 := by rw [size_append, s0]; omega
  have s2 : (u ++ ⟨#[32]⟩ ++ v).size ≤ 601 := by rw [size_append]; omega
  have s3 : (u ++ v).size ≤ 600 := by rw [size_append]; omega
  have s4 : (⟨#[32]⟩ ++ u).size ≤ 301 := by rw [size_append, s0]; omega
  have s5 : z.size ≤ 302 := by rw [← hz, size_append, s10]; omega
  have sx : x.size ≤ 300 := by rw [← hx, size_B, len_lowL, size_L]; exact hus
  have sy : y.size ≤ 300 := by rw [← hy, size_B, len_lowL, size_L]; exact hvs
  have HU := Lib.hid hu; have HV := Lib.hid hv; have HR := Lib.hid hr; have HQ := Lib.hid hq; have HX := Lib.hid hx; have HY := Lib.hid hy; have HT := Lib.hid ht; have HXY := Lib.hid hxy; have HJ := Lib.hid hj; have HTA := Lib.hid hta; have HZ := Lib.hid hz
  clear hu hv hr hq hx hy ht hxy hj hta hz s0 s10
  have ho0 := Sown.made w
  go_enter Try.func9, Try.ntmps9
  go_wp2_with fail
  simp only [HU.out, HV.out]
  refine (words1 (w.alloc (.cells #[] 9)) u r (by omega) HR.out).mono ?_
  rintro e w1 ⟨v1, rfl, ho1, hb1⟩
  clear hmin1 hmin2
  have hbw1 : Below w.heap.size w w1 := bt (below_one w _) hb1
  have ho01 := ho0.below hb1 (Nat.le_refl _)
  obtain ⟨A1, c1, rfl, _, hn1, hr1⟩ := sv_own ho1
  go_wp2_with (at_builtin; refine app_all w1 rfl (.tmp 16) (.tmp 18) rfl w.heap.size _ [] r A1 c1 w1.heap.size rfl ho01 rfl hn1 hr1 (by simp; omega) hbw1.size ?_; intro v2 w2 ho2 hk2 _)
  have hbw2 := hk2 _ hbw1
  clear hk2 ho01 ho1 hr1
  refine (words1 w2 v q (by omega) HQ.out).mono ?_
  rintro e w3 ⟨v3, rfl, ho3, hb3⟩
  have ho23 := ho2.below hb3 (Nat.le_refl _)
  have hbw3 := hbw2.trans (hb3.mono hbw2.size)
  obtain ⟨A3, c3, rfl, _, hn3, hr3⟩ := sv_own ho3
  go_wp2_with (at_builtin; refine app_all w3 rfl (.tmp 20) (.tmp 22) rfl w.heap.size _ ([] ++ r) q A3 c3 w3.heap.size rfl ho23 rfl hn3 hr3 (by simp; omega) hbw3.size ?_; intro v4 w4 ho4 hk4 _)
  have hbw4 := hk4 _ hbw3
  clear hk4 ho23 ho3 hr3 ho2
  refine (words1 w4 (u ++ ⟨#[32]⟩ ++ v) (r ++ q) (by omega) HJ.out).mono ?_
  rintro e w5 ⟨v5, rfl, ho5, hb5⟩
  have ho45 := ho4.below hb5 (Nat.le_refl _)
  rw [List.nil_append] at ho45
  have hbw5 := hbw4.trans (hb5.mono hbw4.size)
  go_wp2_with fail
  refine (equalS w5 v5 v4 (r ++ q) (sv_own ho5) (sv_own ho45) (by rw [List.length_append]; omega)).mono ?_
  rintro e w6 ⟨rfl, hb6⟩
  have hbw6 := hbw5.trans (hb6.mono hbw5.size)
  clear ho4 ho5 ho45 hb6 hb5 hb3 hb1
  go_wp2_with fail
  refine (lower1 w6 (u ++ v) (x ++ y) (by omega) HXY.out).mono ?_
  rintro e w7 ⟨rfl, hb7⟩
  go_wp2_with fail
  refine (lower1 w7 u x (by omega) HX.out).mono ?_
  rintro e w8 ⟨rfl, hb8⟩
  go_wp2_with fail
  refine (lower1 w8 v y (by omega) HY.out).mono ?_
  rintro e w9 ⟨rfl, hb9⟩
  go_wp2_with fail
  rw [HZ.out]
  refine (trim1 w9 z t (Nat.le_trans s5 (by decide)) HTA.out).mono ?_
  rintro e w10 ⟨rfl, rfl⟩
  go_wp2_with fail
  refine (trim1 w9 u t (by omega) HT.out).mono ?_
  rintro e w10 ⟨rfl, rfl⟩
  go_wp2_with fail
  refine (fixed_any w9).mono ?_
  rintro e w10 ⟨rfl, hb10⟩
  go_wp2
  go_ret
  exact ⟨rfl, hbw6.trans ((bt hb7 (bt hb8 (bt hb9 hb10))).mono hbw6.size)⟩

end Go.Proofs.Ytknllnjpbbldkaa.Fo
