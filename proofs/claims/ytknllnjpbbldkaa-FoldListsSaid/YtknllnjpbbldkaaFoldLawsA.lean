/-
  Walks of stage 2's laws FoldLetters, FoldAgain, FoldJoins: each returns true.
-/
import Derived.Test.YtknllnjpbbldkaaFoldFixed2
namespace Go.Proofs.Ytknllnjpbbldkaa.Fo
open Go.RowKit Ba Fm

theorem refLower1 (w : World) (s r : ByteArray) (hs : s.size ≤ 140737488355328) (h : B (lowL (L s)) = r) : Calls Try.prog 12 #[.string s] w fun e w' => e = .returned (.string r) ∧ Below w.heap.size w w' := by
  have k := refLower_any s w hs
  rw [h] at k
  exact k

theorem u8_of (n : Int) (h : (Lit.int .u8 n).wf = true) : ∃ c : UInt8, (c.toNat : Int) = n := by
  have e1 : IntKind.u8.min = 0 := rfl
  have e2 : IntKind.u8.max = 255 := rfl
  have h1 : IntKind.u8.min ≤ n ∧ n ≤ IntKind.u8.max := by simpa only [Lit.wf, Bool.and_eq_true, decide_eq_true_eq] using h
  rw [e1, e2] at h1
  refine ⟨UInt8.ofNat n.toNat, ?_⟩
  rw [UInt8.toNat_ofNat']
  omega

set_option maxRecDepth 100000 in
set_option maxHeartbeats 2000000 in
theorem law_letters (a b : ByteArray) (n : Int) (ha : a.size ≤ 140737488351232) (hb : b.size ≤ 140737488351232) (hn : (Lit.int .u8 n).wf = true) (w : World) :
    Calls Try.prog 3 #[.string a, .string b, .int .u8 n] w fun e w' => e = .returned (.bool true) ∧ Below w.heap.size w w' := by
  obtain ⟨c, rfl⟩ := u8_of n hn
  clear hn
  obtain ⟨x, hx⟩ : ∃ x, B (lowL (L a)) = x := ⟨_, rfl⟩
  obtain ⟨y, hy⟩ : ∃ y, B (lowL (L b)) = y := ⟨_, rfl⟩
  obtain ⟨q, hq⟩ : ∃ q, decide (lowL (L a) = lowL (L b)) = q := ⟨_, rfl⟩
  have hxy : (x.toList == y.toList) = q := by
    rw [← hq, ← hx, ← hy, eq_of_toList]
    exact decide_eq_decide.2 ⟨B_inj, fun h => by rw [h]⟩
  have HX := Lib.hid hx; have HY := Lib.hid hy; have HQ := Lib.hid hq; clear hx hy hq
  go_enter Try.func3, Try.ntmps3
  go_wp2_with fail
  refine (fixed_any w).mono ?_
  rintro e w1 ⟨rfl, hb1⟩
  go_wp2_with fail
  refine (lower1 w1 a x (by omega) HX.out).mono ?_
  rintro e w2 ⟨rfl, hb2⟩
  go_wp2_with fail
  refine (refLower1 w2 a x (by omega) HX.out).mono ?_
  rintro e w3 ⟨rfl, hb3⟩
  go_wp2_with fail
  refine (same1 w3 a b q (by omega) (by omega) HQ.out).mono ?_
  rintro e w4 ⟨rfl, hb4⟩
  go_wp2_with fail
  refine (refLower1 w4 a x (by omega) HX.out).mono ?_
  rintro e w5 ⟨rfl, hb5⟩
  go_wp2_with fail
  refine (refLower1 w5 b y (by omega) HY.out).mono ?_
  rintro e w6 ⟨rfl, hb6⟩
  have hb := bt hb1 (bt hb2 (bt hb3 (bt hb4 (bt hb5 hb6))))
  clear hb1 hb2 hb3 hb4 hb5 hb6
  go_wp2_with fail
  refine (space_any c w6).mono ?_
  rintro e w7 ⟨rfl, rfl⟩
  go_wp2_with fail
  refine (refSpace_any c w6).mono ?_
  rintro e w7 ⟨rfl, rfl⟩
  go_wp2_with fail
  refine (letter_any c w6).mono ?_
  rintro e w7 ⟨rfl, rfl⟩
  go_wp2_with fail
  refine (refLetter_any c w6).mono ?_
  rintro e w7 ⟨rfl, rfl⟩
  go_wp2
  go_ret
  exact ⟨rfl, hb⟩

theorem words2 (w : World) (s : ByteArray) (r : List ByteArray) (hs : s.size ≤ 1000000) (h : wds s = r) :
    Calls Try.prog 18 #[.string s] w fun e w' => ∃ v, e = .returned v ∧ Sown w.heap.size w' v r ∧ Below w.heap.size w w' := words1 w s r hs h

theorem equalS (w : World) (u v : Value) (l : List ByteArray) (hu : Sv w w.heap.size u l) (hv : Sv w w.heap.size v l) (hl : l.length ≤ 1000000) :
    Calls Try.prog 19 #[u, v] w fun e w' => e = .returned (.bool true) ∧ Below w.heap.size w w' := by
  obtain ⟨A, c, rfl, _, _, hr⟩ := hu
  obtain ⟨C, d, rfl, _, _, hq⟩ := hv
  exact equal_any A C c d l w hr hq (by omega)

/-- The first bytes of a string. -/
theorem cut_size (s : ByteArray) (k : Nat) : (s.extract 0 k).size ≤ k := by
  rw [← size_L, L_extract, List.length_take]; omega

set_option maxRecDepth 100000 in
set_option maxHeartbeats 4000000 in
theorem law_again (s : ByteArray) (hs : s.size ≤ 140737488351232) (w : World) :
    Calls Try.prog 7 #[.string s] w fun e w' => e = .returned (.bool true) ∧ Below w.heap.size w w' := by
  have hcase : ∃ k : Nat, (min (s.size : Int) 1000 = k) ∧ k ≤ s.size ∧ k ≤ 1000 := ⟨min s.size 1000, by omega, by omega, by omega⟩
  obtain ⟨k, hk, hk1, hk2⟩ := hcase
  obtain ⟨u, hu⟩ : ∃ u, s.extract 0 k = u := ⟨_, rfl⟩
  have hus : u.size ≤ 1000 := by rw [← hu]; exact Nat.le_trans (cut_size s k) hk2
  obtain ⟨t, ht⟩ : ∃ t, B (trimL (L u)) = t := ⟨_, rfl⟩
  obtain ⟨l, hl⟩ : ∃ l, B (lowL (L u)) = l := ⟨_, rfl⟩
  obtain ⟨r, hr⟩ : ∃ r, wds u = r := ⟨_, rfl⟩
  have eLt : L t = trimL (L u) := by rw [← ht, L_B]
  have eLl : L l = lowL (L u) := by rw [← hl, L_B]
  have htt : B (trimL (L t)) = t := by rw [eLt, trimL_trimL, ht]
  have hll : B (lowL (L l)) = l := by rw [eLl, lowL_lowL, hl]
  have hls : l.size = u.size := by rw [← size_L, eLl, len_lowL, size_L]
  have hts : t.size ≤ u.size := by rw [← size_L, eLt, ← size_L u]; exact len_trimL _
  have hrt : wds t = r := by unfold wds; rw [eLt, wL_trimL]; exact hr
  have hsame : decide (lowL (L u) = lowL (L l)) = true := decide_eq_true (by rw [eLl, lowL_lowL])
  have hrl : r.length ≤ 1000 := by rw [← hr]; exact Nat.le_trans (len_wds u) hus
  have hmin : ∀ ts t, (Builtin.min_ ts t #[.int .i64 s.size, .int .i64 1000]).run Try.prog w = .ok (.int .i64 k) w := fun ts t => by
    rw [run_min_int2, ← hk]
    congr 2
    split <;> omega
  have hgt : decide (u.size < t.size) = false := decide_eq_false (by omega)
  have hbody : (trimL (L u) = [] ∧ r = []) ∨ (r ≠ [] ∧ ∃ h0 : 0 < t.size, sp t[0] = false ∧ sp (t[t.size - 1]'(by omega)) = false) := by
    rcases trimL_cases (L u) with h | ⟨⟨c, m, h, hc⟩, ⟨m', c', h', hc'⟩⟩
    · left
      refine ⟨h, ?_⟩
      rw [← hr]
      unfold wds
      rw [(wL_none _).2 h]
      rfl
    · right
      refine ⟨?_, ?_⟩
      · rw [← hr]
        unfold wds
        intro e
        have := (wL_none _).1 (List.map_eq_nil_iff.1 e)
        rw [h] at this
        cases this
      · have h0 : 0 < t.size := by rw [← size_L, eLt, h]; simp
        refine ⟨h0, ?_, ?_⟩
        · have e1 : t[0] = c := by
            have : (L t)[0]? = some c := by rw [eLt, h]; rfl
            rw [List.getElem?_eq_getElem (by rw [size_L]; exact h0)] at this
            exact Option.some.inj this
          rw [e1]; exact hc
        · have e1 : (t[t.size - 1]'(by omega)) = c' := by
            have hsz : t.size = m'.length + 1 := by rw [← size_L, eLt, h']; simp
            have : (L t)[t.size - 1]? = some c' := by rw [eLt, h', hsz]; simp
            rw [List.getElem?_eq_getElem (by rw [size_L]; omega)] at this
            exact Option.some.inj this
          rw [e1]; exact hc'
  have HU := Lib.hid hu; have HT := Lib.hid ht; have HL := Lib.hid hl; have HR := Lib.hid hr; have HTT := Lib.hid htt; have HLL := Lib.hid hll; have HRT := Lib.hid hrt; have HSA := Lib.hid hsame
  have HE := Lib.hid eLt
  clear hk hu ht hl hr htt hll hrt hsame eLt eLl
  rcases hbody with ⟨hz, rfl⟩ | ⟨hrn, h0, hs0, hs1⟩
  · have hte : t.toList = [] := by rw [toList_L, HE.out, hz]
    have hte' : t.toList.isEmpty = true := by rw [hte]; rfl
    clear hz
    go_enter Try.func7, Try.ntmps7
    go_wp2_with fail
    simp only [HU.out]
    refine (trim1 w u t (by omega) HT.out).mono ?_
    rintro e w1 ⟨rfl, rfl⟩
    clear hmin
    go_wp2_with fail
    refine (lower1 w u l (by omega) HL.out).mono ?_
    rintro e w1 ⟨rfl, hb1⟩
    go_wp2_with fail
    refine (trim1 w1 t t (by omega) HTT.out).mono ?_
    rintro e w2 ⟨rfl, rfl⟩
    go_wp2_with fail
    refine (lower1 w1 l l (by omega) HLL.out).mono ?_
    rintro e w2 ⟨rfl, hb2⟩
    go_wp2_with fail
    refine (words1 w2 t [] (by omega) HRT.out).mono ?_
    rintro e w3 ⟨v3, rfl, ho3, hb3⟩
    go_wp2_with fail
    refine (words1 w3 u [] (by omega) HR.out).mono ?_
    rintro e w4 ⟨v4, rfl, ho4, hb4⟩
    go_wp2_with fail
    refine (equalS w4 v3 v4 [] ((sv_own (ho3.below hb4 (Nat.le_refl _)))) (sv_own ho4) (by omega)).mono ?_
    rintro e w5 ⟨rfl, hb5⟩
    have hb := bt hb1 (bt hb2 (bt hb3 (bt hb4 hb5)))
    clear hb1 hb2 hb3 hb4 hb5 ho3 ho4
    go_wp2_with fail
    refine (words1 w5 u [] (by omega) HR.out).mono ?_
    rintro e w6 ⟨v6, rfl, ho6, hb6⟩
    obtain ⟨A6, c6, rfl, _, _, _⟩ := sv_own ho6
    simp only [List.length_nil]
    go_wp2_with fail
    refine (same1 w6 u l true (by omega) (by omega) HSA.out).mono ?_
    rintro e w7 ⟨rfl, hb7⟩
    go_wp2_with fail
    refine (fixed_any w7).mono ?_
    rintro e w8 ⟨rfl, hb8⟩
    go_wp2
    go_ret
    exact ⟨rfl, bt hb (bt hb6 (bt hb7 hb8))⟩
  · have hte : ¬ t.toList = [] := fun e => by
      rw [toList_L] at e
      have := congrArg List.length e
      rw [size_L, List.length_nil] at this
      omega
    have hte' : t.toList.isEmpty = false := by
      cases hq : t.toList with
      | nil => exact absurd hq hte
      | cons _ _ => rfl
    have hrl0 : ((r.length : Int) == 0) = false := by
      cases r with
      | nil => exact absurd rfl hrn
      | cons _ _ => simp; omega
    have hrl1 : ¬ r.length = 0 := fun e => hrn (List.eq_nil_of_length_eq_zero e)
    clear hrn
    have HS0 := Lib.hid hs0; have HS1 := Lib.hid hs1; clear hs0 hs1
    go_enter Try.func7, Try.ntmps7
    go_wp2_with fail
    simp only [HU.out]
    refine (trim1 w u t (by omega) HT.out).mono ?_
    rintro e w1 ⟨rfl, rfl⟩
    clear hmin
    go_wp2_with fail
    refine (lower1 w u l (by omega) HL.out).mono ?_
    rintro e w1 ⟨rfl, hb1⟩
    go_wp2_with fail
    refine (trim1 w1 t t (by omega) HTT.out).mono ?_
    rintro e w2 ⟨rfl, rfl⟩
    go_wp2_with fail
    refine (lower1 w1 l l (by omega) HLL.out).mono ?_
    rintro e w2 ⟨rfl, hb2⟩
    go_wp2_with fail
    refine (words1 w2 t r (by omega) HRT.out).mono ?_
    rintro e w3 ⟨v3, rfl, ho3, hb3⟩
    go_wp2_with fail
    refine (words1 w3 u r (by omega) HR.out).mono ?_
    rintro e w4 ⟨v4, rfl, ho4, hb4⟩
    go_wp2_with fail
    refine (equalS w4 v3 v4 r ((sv_own (ho3.below hb4 (Nat.le_refl _)))) (sv_own ho4) (by omega)).mono ?_
    rintro e w5 ⟨rfl, hb5⟩
    have hb := bt hb1 (bt hb2 (bt hb3 (bt hb4 hb5)))
    clear hb1 hb2 hb3 hb4 hb5 ho3 ho4
    go_wp2_with fail
    refine (space_any t[0] w5).mono ?_
    rw [HS0.out]
    rintro e w6 ⟨rfl, rfl⟩
    go_wp2_with fail
    refine (space_any (t[t.size - 1]'(by omega)) w5).mono ?_
    rw [HS1.out]
    rintro e w6 ⟨rfl, rfl⟩
    go_wp2_with fail
    refine (words1 w5 u r (by omega) HR.out).mono ?_
    rintro e w6 ⟨v6, rfl, ho6, hb6⟩
    obtain ⟨A6, c6, rfl, _, _, _⟩ := sv_own ho6
    go_wp2_with fail
    refine (same1 w6 u l true (by omega) (by omega) HSA.out).mono ?_
    rintro e w7 ⟨rfl, hb7⟩
    go_wp2_with fail
    refine (fixed_any w7).mono ?_
    rintro e w8 ⟨rfl, hb8⟩
    go_wp2
    go_ret
    exact ⟨rfl, bt hb (bt hb6 (bt hb7 hb8))⟩

end Go.Proofs.Ytknllnjpbbldkaa.Fo
