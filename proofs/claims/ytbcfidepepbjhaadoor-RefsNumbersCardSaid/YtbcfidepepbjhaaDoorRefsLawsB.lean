/-
  Walks of stage 3's laws RefsBack, RefsParts, RefsOnce, RefsSafe: each returns true.
-/
import Derived.Test.YtbcfidepepbjhaaDoorRefsLawsA
namespace Go.Proofs.YtbcfidepepbjhaaDoor.Re
open Go.RowKit Ba Rm
set_option linter.unusedVariables false

theorem has1 (w : World) (s : ByteArray) (c : UInt8) (q : Bool) (hs : s.size ≤ 140737488355328) (n : Int) (hn : (c.toNat : Int) = n) (h : hasL c (L s) = q) :
    Calls Tryd.prog 21 #[.string s, .int .u8 n] w fun e w' => e = .returned (.bool q) ∧ w = w' := by
  have k := has_any s c w hs
  rw [h, hn] at k
  exact k
theorem esc_small (q : Bool) (s : ByteArray) : (B (esc q (L s))).size ≤ 6 * s.size := by
  rw [size_B, ← size_L s]
  exact (len_esc q (L s)).2.1

set_option maxRecDepth 100000 in
set_option maxHeartbeats 4000000 in
theorem law_back (s : ByteArray) (hs : s.size ≤ 140737488351232) (w : World) (ht : Tab w) :
    Calls Tryd.prog 6 #[.string s] w fun e w' => e = .returned (.bool true) ∧ Below w.heap.size w w' := by
  obtain ⟨k, hk1, hk2, -, hmin⟩ := min_any s.size 2000 2000 rfl w
  obtain ⟨u, hu⟩ : ∃ u, s.extract 0 k = u := ⟨_, rfl⟩
  have hus : u.size ≤ 2000 := by rw [← hu]; exact Nat.le_trans (cut_size s k) hk2
  have hts := esc_small false u
  have hvs := esc_small true u
  obtain ⟨t, hT⟩ : ∃ t, B (esc false (L u)) = t := ⟨_, rfl⟩
  obtain ⟨v, hv⟩ : ∃ v, B (esc true (L u)) = v := ⟨_, rfl⟩
  rw [hT] at hts
  rw [hv] at hvs
  have hd1 : B (dec (L t)) = u := by rw [← hT, L_B, dec_esc, B_L]
  have hd2 : B (dec (L v)) = u := by rw [← hv, L_B, dec_esc, B_L]
  have f1 := esc_free false (L u)
  have f2 := esc_free true (L u)
  have p1 : hasL 60 (L t) = false := hasL_no.2 (by rw [← hT, L_B]; exact f1.1)
  have p2 : hasL 62 (L t) = false := hasL_no.2 (by rw [← hT, L_B]; exact f1.2.1)
  have p3 : hasL 60 (L v) = false := hasL_no.2 (by rw [← hv, L_B]; exact f2.1)
  have p4 : hasL 62 (L v) = false := hasL_no.2 (by rw [← hv, L_B]; exact f2.2.1)
  have p5 : hasL 34 (L v) = false := hasL_no.2 (by rw [← hv, L_B]; exact f2.2.2 rfl)
  have HT := Lib.hid hT; have HV := Lib.hid hv; have D1 := Lib.hid hd1; have D2 := Lib.hid hd2
  have P1 := Lib.hid p1; have P2 := Lib.hid p2; have P3 := Lib.hid p3; have P4 := Lib.hid p4; have P5 := Lib.hid p5
  clear hT hv hd1 hd2 f1 f2 p1 p2 p3 p4 p5
  go_enter Tryd.func6, Tryd.ntmps6
  go_wp2_with fail
  refine (text1 w u t (by omega) HT.out).mono ?_
  rintro e w1 ⟨rfl, hb1⟩
  clear hmin
  go_wp2_with fail
  refine (valueOf1 w1 u v (by omega) HV.out).mono ?_
  rintro e w2 ⟨rfl, hb2⟩
  have hb12 := bt hb1 hb2
  clear hb1 hb2
  go_wp2_with fail
  refine (decode1 w2 t u (ht.below hb12) (by omega) D1.out).mono ?_
  rintro e w3 ⟨rfl, hb3⟩
  have hb13 := bt hb12 hb3
  clear hb12 hb3
  go_wp2_with fail
  refine (decode1 w3 v u (ht.below hb13) (by omega) D2.out).mono ?_
  rintro e w4 ⟨rfl, hb4⟩
  have hb14 := bt hb13 hb4
  clear hb13 hb4
  go_wp2_with fail
  refine (has1 w4 t 60 false (by omega) _ rfl P1.out).mono ?_
  rintro e w5 ⟨rfl, rfl⟩
  go_wp2_with fail
  refine (has1 w4 t 62 false (by omega) _ rfl P2.out).mono ?_
  rintro e w5 ⟨rfl, rfl⟩
  go_wp2_with fail
  refine (has1 w4 v 60 false (by omega) _ rfl P3.out).mono ?_
  rintro e w5 ⟨rfl, rfl⟩
  go_wp2_with fail
  refine (has1 w4 v 62 false (by omega) _ rfl P4.out).mono ?_
  rintro e w5 ⟨rfl, rfl⟩
  go_wp2_with fail
  refine (has1 w4 v 34 false (by omega) _ rfl P5.out).mono ?_
  rintro e w5 ⟨rfl, rfl⟩
  go_wp2_with fail
  refine (fixed_any w4 (ht.below hb14)).mono ?_
  rintro e w5 ⟨rfl, hb5⟩
  go_wp2
  go_ret
  exact ⟨rfl, bt hb14 hb5⟩

set_option maxRecDepth 100000 in
set_option maxHeartbeats 4000000 in
theorem law_once (s : ByteArray) (hs : s.size ≤ 140737488351232) (w : World) (ht : Tab w) :
    Calls Tryd.prog 9 #[.string s] w fun e w' => e = .returned (.bool true) ∧ Below w.heap.size w w' := by
  obtain ⟨k, hk1, hk2, -, hmin⟩ := min_any s.size 1000 1000 rfl w
  obtain ⟨u, hu⟩ : ∃ u, s.extract 0 k = u := ⟨_, rfl⟩
  have hus : u.size ≤ 1000 := by rw [← hu]; exact Nat.le_trans (cut_size s k) hk2
  obtain ⟨d, hd⟩ : ∃ d, B (dec (L u)) = d := ⟨_, rfl⟩
  have hdl : d.size ≤ u.size := by rw [← hd, size_B, ← size_L u]; exact len_dec _
  obtain ⟨q1, hq1⟩ : ∃ q, hasL 38 (L u) = q := ⟨_, rfl⟩
  obtain ⟨q2, hq2⟩ : ∃ q, hasL 59 (L u) = q := ⟨_, rfl⟩
  have i1 : q1 = false → (d.toList == u.toList) = true := fun e => by
    rw [← hd, dec_noamp _ (hasL_no.1 (hq1.trans e)), B_L]; simp
  have i2 : q2 = false → (d.toList == u.toList) = true := fun e => by
    rw [← hd, dec_noend _ (hasL_no.1 (hq2.trans e)), B_L]; simp
  have HD := Lib.hid hd; have HQ1 := Lib.hid hq1; have HQ2 := Lib.hid hq2
  clear hd hq1 hq2
  cases q1 <;> cases q2
  all_goals
    try have i1' := i1 rfl
    try have i2' := i2 rfl
    clear i1 i2
    go_enter Tryd.func9, Tryd.ntmps9
    go_wp2_with fail
    refine (decode1 w u d ht (by omega) HD.out).mono ?_
    rintro e w1 ⟨rfl, hb1⟩
    clear hmin
    go_wp2_with fail
    refine (has1 w1 u 38 _ (by omega) _ rfl HQ1.out).mono ?_
    rintro e w2 ⟨rfl, rfl⟩
    go_wp2_with fail
    refine (has1 w1 u 59 _ (by omega) _ rfl HQ2.out).mono ?_
    rintro e w2 ⟨rfl, rfl⟩
    go_wp2_with fail
    refine (fixed_any w1 (ht.below hb1)).mono ?_
    rintro e w3 ⟨rfl, hb3⟩
    go_wp2
    go_ret
    exact ⟨rfl, bt hb1 hb3⟩

set_option maxRecDepth 100000 in
set_option maxHeartbeats 4000000 in
theorem law_safe (s : ByteArray) (hs : s.size ≤ 140737488351232) (w : World) (ht : Tab w) :
    Calls Tryd.prog 10 #[.string s] w fun e w' => e = .returned (.bool true) ∧ Below w.heap.size w w' := by
  obtain ⟨k, hk1, hk2, -, hmin⟩ := min_any s.size 1000 1000 rfl w
  obtain ⟨u, hu⟩ : ∃ u, s.extract 0 k = u := ⟨_, rfl⟩
  have hus : u.size ≤ 1000 := by rw [← hu]; exact Nat.le_trans (cut_size s k) hk2
  have hts := esc_small false u
  have hvs := esc_small true u
  obtain ⟨t, hT⟩ : ∃ t, B (esc false (L u)) = t := ⟨_, rfl⟩
  obtain ⟨v, hv⟩ : ∃ v, B (esc true (L u)) = v := ⟨_, rfl⟩
  obtain ⟨x, hx⟩ : ∃ x, B (esc false (L t)) = x := ⟨_, rfl⟩
  rw [hT] at hts
  rw [hv] at hvs
  have l1 : u.size ≤ t.size := by rw [← hT, size_B, ← size_L u]; exact (len_esc false _).1
  have l2 : t.size ≤ v.size := by rw [← hT, ← hv, size_B, size_B]; exact len_tv _
  have hLt : L t = esc false (L u) := by rw [← hT, L_B]
  have hsame : (x.toList == t.toList) = (t.toList == u.toList) := by
    rw [eq_of_toList, eq_of_toList]
    refine decide_eq_decide.2 ?_
    have e1 : x = t ↔ esc false (esc false (L u)) = esc false (L u) := by
      rw [← hx, ← hT, L_B]
      exact ⟨B_inj, fun h => by rw [h]⟩
    have e2 : t = u ↔ esc false (L u) = L u := by
      rw [← hLt]
      exact ⟨fun h => by rw [h], fun h => L_inj h⟩
    rw [e1, e2]
    exact esc_again false (L u)
  obtain ⟨q, hq⟩ : ∃ q, hasL 34 (L u) = q := ⟨_, rfl⟩
  have i1 : q = false → (t.toList == v.toList) = true := fun e => by
    rw [← hT, ← hv, esc_quote _ (hasL_no.1 (hq.trans e))]; simp
  obtain ⟨p, hp⟩ : ∃ p, (t.toList == u.toList) = p := ⟨_, rfl⟩
  rw [hp] at hsame
  have HT := Lib.hid hT; have HV := Lib.hid hv; have HX := Lib.hid hx; have HQ := Lib.hid hq
  clear hT hv hx hq hLt
  cases q <;> cases p
  all_goals
    try have i1' := i1 rfl
    clear i1
    go_enter Tryd.func10, Tryd.ntmps10
    go_wp2_with fail
    refine (text1 w u t (by omega) HT.out).mono ?_
    rintro e w1 ⟨rfl, hb1⟩
    clear hmin
    go_wp2_with fail
    refine (valueOf1 w1 u v (by omega) HV.out).mono ?_
    rintro e w2 ⟨rfl, hb2⟩
    have hb12 := bt hb1 hb2
    clear hb1 hb2
    go_wp2_with fail
    refine (text1 w2 t x (by omega) HX.out).mono ?_
    rintro e w3 ⟨rfl, hb3⟩
    have hb13 := bt hb12 hb3
    clear hb12 hb3
    go_wp2_with fail
    refine (has1 w3 u 34 _ (by omega) _ rfl HQ.out).mono ?_
    rintro e w4 ⟨rfl, rfl⟩
    go_wp2_with fail
    refine (fixed_any w3 (ht.below hb13)).mono ?_
    rintro e w4 ⟨rfl, hb4⟩
    go_wp2
    go_ret
    exact ⟨rfl, bt hb13 hb4⟩

end Go.Proofs.YtbcfidepepbjhaaDoor.Re
