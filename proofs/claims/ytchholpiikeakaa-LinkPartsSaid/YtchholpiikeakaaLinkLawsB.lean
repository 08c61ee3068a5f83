/-
  Walks of stage 9's laws LinkNone, LinkParts, LinkMade and LinkAgain: each returns true.
-/
import Derived.Test.YtchholpiikeakaaLinkFixed
namespace Go.Proofs.Ytchholpiikeakaa.Lk
set_option maxRecDepth 100000
set_option linter.unusedSimpArgs false
set_option linter.unusedVariables false
open Go.RowKit Ba Fm Fo

theorem none_facts {l : List UInt8} (h : schemeO l = none) : B (schemeL l) = ⟨#[]⟩ ∧ hasL l = false ∧ B (sourceL l) = ⟨#[]⟩ ∧ scriptL l = false := by
  have e : schemeL l = [] := by unfold schemeL; rw [h]; rfl
  have e2 : ¬ schemeL l = js := by rw [e]; intro h; cases h
  refine ⟨by rw [e]; rfl, by unfold hasL; rw [h]; rfl, ?_, ?_⟩
  · unfold sourceL; rw [if_neg e2]; rfl
  · unfold scriptL; exact decide_eq_false e2
theorem some_facts {l x : List UInt8} (h : schemeO l = some x) : B (schemeL l) = B x ∧ hasL l = true := by
  refine ⟨by unfold schemeL; rw [h]; rfl, by unfold hasL; rw [h]; rfl⟩
theorem mem_snoc {P : UInt8 → Prop} {l : List UInt8} {c : UInt8} (h : ∀ x ∈ l, P x) (hc : P c) : ∀ x ∈ l ++ [c], P x := fun x hx => by
  rcases List.mem_append.1 hx with h1 | h1
  · exact h x h1
  · rw [List.mem_singleton.1 h1]; exact hc

set_option maxHeartbeats 2000000 in
theorem law_none (s : ByteArray) (hs : s.size ≤ 140737488351232) (w : World) :
    Calls Try.prog 10 #[.string s] w fun e w' => e = .returned (.bool true) ∧ Below w.heap.size w w' := by
  obtain ⟨k, hk1, hk2, -, hmin1⟩ := cut_any s.size 500 500 rfl w
  obtain ⟨u, hu⟩ : ∃ u, s.extract 0 k = u := ⟨_, rfl⟩
  have hus : u.size ≤ 500 := by rw [← hu]; exact Nat.le_trans (cut_le s k) hk2
  have hul : u.size ≤ 140737488355328 := by omega
  obtain ⟨z, hz⟩ : ∃ z : ByteArray, (⟨#[58]⟩ : ByteArray) ++ u = z := ⟨_, rfl⟩
  have hzl : z.size ≤ 140737488355328 := by rw [← hz, size_append]; have e : (⟨#[58]⟩ : ByteArray).size = 1 := rfl; omega
  have hzn : schemeO (L z) = none := by
    have e : L z = 58 :: L u := by rw [← hz, L_append]; rfl
    rw [e]
    exact scheme_none _ rfl rfl rfl
  obtain ⟨n1, n2, n3, n4⟩ := none_facts hzn
  have HU := Lib.hid hu; have HZ := Lib.hid hz; have N1 := Lib.hid n1; have N2 := Lib.hid n2
  clear hu hz n1 n2 n3 n4 hzn
  go_enter Try.func10, Try.ntmps10
  go_wp2_with fail
  simp only [HU.out]
  rw [HZ.out]
  refine (scheme1 z w hzl ⟨#[]⟩ false N1.out N2.out).mono ?_
  rintro e w1 ⟨rfl, b1⟩
  clear hmin1
  have HB1 := Lib.hid b1; clear b1
  go_wp2
  go_loop [5] (fun i => ∃ k : Nat, i = .int .i64 k ∧ k ≤ u.size ∧ ∀ c ∈ (L u).take k, c ≠ 58) (fun i => u.size - (intOf i).toNat)
  case atStart => exact ⟨0, rfl, Nat.zero_le _, fun c hc => by cases hc⟩
  case round =>
    obtain ⟨j, rfl, hj, hall⟩ := hrel
    by_cases hp : j < u.size
    · have e58 : ((u[j].toNat : Int) == 58) = (u[j] == 58) := u8_eq (b := 58)
      cases h58 : u[j] == 58 with
      | true =>
        rw [h58] at e58
        clear h58 hall
        go_wp2_with fail
        refine (fixed9_any w1).mono ?_
        rintro e w2 ⟨rfl, b2⟩
        go_wp2
        go_ret
        exact ⟨rfl, bt HB1.out b2⟩
      | false =>
        rw [h58] at e58
        have hn := mem_snoc (P := fun c => c ≠ 58) hall (show u[j] ≠ 58 by simpa using h58)
        rw [← take_snoc u j hp] at hn
        have HN := Lib.hid hn
        clear h58 hall hn
        go_wp2
        go_round
        case rel => exact ⟨j + 1, by go_num, by omega, HN.out⟩
        case measure => simp [intOf]; omega
    · rw [List.take_of_length_le (by rw [size_L]; omega)] at hall
      have hno : schemeO (L u) = none := scheme_no58 fun h => hall _ h rfl
      obtain ⟨n1, n2, n3, n4⟩ := none_facts hno
      have M1 := Lib.hid n1; have M2 := Lib.hid n2; have M3 := Lib.hid n3; have M4 := Lib.hid n4
      clear n1 n2 n3 n4 hno hall
      go_wp2_with fail
      refine (scheme1 u w1 hul ⟨#[]⟩ false M1.out M2.out).mono ?_
      rintro e w2 ⟨rfl, b2⟩
      go_wp2_with fail
      refine (source1 u w2 hul ⟨#[]⟩ false M3.out M4.out).mono ?_
      rintro e w3 ⟨rfl, b3⟩
      go_wp2_with fail
      refine (script1 u w3 hul false M4.out).mono ?_
      rintro e w4 ⟨rfl, b4⟩
      go_wp2_with fail
      refine (fixed9_any w4).mono ?_
      rintro e w5 ⟨rfl, b5⟩
      go_wp2
      go_ret
      exact ⟨rfl, bt HB1.out (bt b2 (bt b3 (bt b4 b5)))⟩

set_option maxHeartbeats 2000000 in
theorem law_parts (s r : ByteArray) (hs : s.size ≤ 140737488351232) (hr : r.size ≤ 140737488351232) (w : World) :
    Calls Try.prog 8 #[.string s, .string r] w fun e w' => e = .returned (.bool true) ∧ Below w.heap.size w w' := by
  obtain ⟨k, hk1, hk2, -, hmin1⟩ := cut_any s.size 200 200 rfl w
  obtain ⟨m, hm1, hm2, -, hmin2⟩ := cut_any r.size 200 200 rfl w
  obtain ⟨u, hu⟩ : ∃ u, s.extract 0 k = u := ⟨_, rfl⟩
  obtain ⟨v, hv⟩ : ∃ v, r.extract 0 m = v := ⟨_, rfl⟩
  have hus : u.size ≤ 200 := by rw [← hu]; exact Nat.le_trans (cut_le s k) hk2
  have hvs : v.size ≤ 200 := by rw [← hv]; exact Nat.le_trans (cut_le r m) hm2
  have hul : u.size ≤ 140737488355328 := by omega
  obtain ⟨y, hy⟩ : ∃ y : ByteArray, u ++ v = y := ⟨_, rfl⟩
  have hyl : y.size ≤ 140737488355328 := by rw [← hy, size_append]; omega
  obtain ⟨z, hz⟩ : ∃ z : ByteArray, (⟨#[47]⟩ : ByteArray) ++ u = z := ⟨_, rfl⟩
  have hzl : z.size ≤ 140737488355328 := by rw [← hz, size_append]; have e : (⟨#[47]⟩ : ByteArray).size = 1 := rfl; omega
  have hzn : schemeO (L z) = none := by
    have e : L z = 47 :: L u := by rw [← hz, L_append]; rfl
    rw [e]
    exact scheme_none _ rfl rfl rfl
  obtain ⟨n1, n2, n3, n4⟩ := none_facts hzn
  have hyu : ∀ x, schemeO (L u) = some x → schemeO (L y) = some x := fun x h => by rw [← hy, L_append]; exact scheme_more _ h
  have HU := Lib.hid hu; have HV := Lib.hid hv; have HZ := Lib.hid hz; have HY := Lib.hid hy; have N1 := Lib.hid n1; have N2 := Lib.hid n2
  clear hu hz hv hy n1 n2 n3 n4 hzn
  obtain ⟨o, ho⟩ : ∃ o, schemeO (L u) = o := ⟨_, rfl⟩
  cases o with
  | none =>
    obtain ⟨n1, n2, n3, n4⟩ := none_facts ho
    obtain ⟨x, hx⟩ : ∃ x, B (schemeL (L y)) = x := ⟨_, rfl⟩
    obtain ⟨q, hq⟩ : ∃ q, hasL (L y) = q := ⟨_, rfl⟩
    have M1 := Lib.hid n1; have M2 := Lib.hid n2; have HX := Lib.hid hx; have HQ := Lib.hid hq
    clear n1 n2 n3 n4 ho hyu hx hq
    go_enter Try.func8, Try.ntmps8
    go_wp2_with fail
    simp only [HU.out, HV.out]
    refine (scheme1 u w hul ⟨#[]⟩ false M1.out M2.out).mono ?_
    rintro e w1 ⟨rfl, b1⟩
    clear hmin1 hmin2
    go_wp2_with fail
    rw [HY.out]
    refine (scheme1 y w1 hyl x q HX.out HQ.out).mono ?_
    rintro e w2 ⟨rfl, b2⟩
    go_wp2_with fail
    rw [HZ.out]
    refine (scheme1 z w2 hzl ⟨#[]⟩ false N1.out N2.out).mono ?_
    rintro e w3 ⟨rfl, b3⟩
    go_wp2_with fail
    refine (fixed9_any w3).mono ?_
    rintro e w4 ⟨rfl, b4⟩
    go_wp2
    go_ret
    exact ⟨rfl, bt b1 (bt b2 (bt b3 b4))⟩
  | some a =>
    obtain ⟨n1, n2⟩ := some_facts ho
    obtain ⟨n3, n4⟩ := some_facts (hyu a ho)
    obtain ⟨x, hx⟩ : ∃ x, B a = x := ⟨_, rfl⟩
    rw [hx] at n1 n3
    have M1 := Lib.hid n1; have M2 := Lib.hid n2; have M3 := Lib.hid n3; have M4 := Lib.hid n4
    clear n1 n2 n3 n4 ho hyu hx
    go_enter Try.func8, Try.ntmps8
    go_wp2_with fail
    simp only [HU.out, HV.out]
    refine (scheme1 u w hul x true M1.out M2.out).mono ?_
    rintro e w1 ⟨rfl, b1⟩
    clear hmin1 hmin2
    go_wp2_with fail
    rw [HY.out]
    refine (scheme1 y w1 hyl x true M3.out M4.out).mono ?_
    rintro e w2 ⟨rfl, b2⟩
    go_wp2_with fail
    rw [HZ.out]
    refine (scheme1 z w2 hzl ⟨#[]⟩ false N1.out N2.out).mono ?_
    rintro e w3 ⟨rfl, b3⟩
    go_wp2_with fail
    refine (fixed9_any w3).mono ?_
    rintro e w4 ⟨rfl, b4⟩
    go_wp2
    go_ret
    exact ⟨rfl, bt b1 (bt b2 (bt b3 b4))⟩

theorem made_a : (∀ c ∈ L ⟨#[120, 43, 121, 45, 122, 46, 49, 58]⟩, edge c = false) ∧ colonL (L ⟨#[120, 43, 121, 45, 122, 46, 49, 58]⟩) = some 7 ∧ B (lowL ((L ⟨#[120, 43, 121, 45, 122, 46, 49, 58]⟩).take 7)) = ⟨#[120, 43, 121, 45, 122, 46, 49]⟩ :=
  ⟨by decide, by kernel_rfl, by kernel_rfl⟩
theorem made_js : (∀ c ∈ L ⟨#[74, 97, 118, 97, 83, 99, 114, 105, 112, 116, 58]⟩, edge c = false) ∧ colonL (L ⟨#[74, 97, 118, 97, 83, 99, 114, 105, 112, 116, 58]⟩) = some 10 ∧ lowL ((L ⟨#[74, 97, 118, 97, 83, 99, 114, 105, 112, 116, 58]⟩).take 10) = js :=
  ⟨by decide, by kernel_rfl, by kernel_rfl⟩
theorem script_x (m : List UInt8) : scriptL (120 :: m) = scriptL (88 :: m) := by
  have h : schemeO (120 :: m) = schemeO (88 :: m) := by
    rw [← scheme_up (120 :: m), ← scheme_up (88 :: m)]
    rfl
  unfold scriptL schemeL
  rw [h]

set_option maxHeartbeats 4000000 in
theorem law_made (s : ByteArray) (hs : s.size ≤ 140737488351232) (w : World) :
    Calls Try.prog 7 #[.string s] w fun e w' => e = .returned (.bool true) ∧ Below w.heap.size w w' := by
  obtain ⟨k, hk1, hk2, -, hmin1⟩ := cut_any s.size 200 200 rfl w
  obtain ⟨u, hu⟩ : ∃ u, s.extract 0 k = u := ⟨_, rfl⟩
  have hus : u.size ≤ 200 := by rw [← hu]; exact Nat.le_trans (cut_le s k) hk2
  have hul : u.size ≤ 140737488355328 := by omega
  have HU := Lib.hid hu
  clear hu
  go_enter Try.func7, Try.ntmps7
  go_upto_region 2 with fail
  simp only [HU.out]
  clear hmin1
  go_wp2
  go_loop [3] (fun i => ∃ k : Nat, i = .int .i64 k ∧ k ≤ u.size ∧ ∀ c ∈ (L u).take k, edge c = false ∧ (c == 37) = false) (fun i => u.size - (intOf i).toNat)
  case atStart => exact ⟨0, rfl, Nat.zero_le _, fun c hc => by cases hc⟩
  case round =>
    obtain ⟨j, rfl, hj, hall⟩ := hrel
    by_cases hp : j < u.size
    · have e37 : ((u[j].toNat : Int) == 37) = (u[j] == 37) := u8_eq (b := 37)
      have he := edge_of u[j]
      cases hed : edge u[j] with
      | true =>
        rw [hed] at he
        have h32 : (u[j].toNat : Int) ≤ 32 := of_decide_eq_true he.symm
        clear he hed hall e37
        go_wp2_with fail
        refine (fixed9_any w).mono ?_
        rintro e w2 ⟨rfl, b2⟩
        go_wp2
        go_ret
        exact ⟨rfl, b2⟩
      | false =>
        rw [hed] at he
        have h32 : ¬ (u[j].toNat : Int) ≤ 32 := of_decide_eq_false he.symm
        have h33 : 32 < (u[j].toNat : Int) := by omega
        clear he h32
        cases h37 : u[j] == 37 with
        | true =>
          rw [h37] at e37
          clear hed hall h37
          go_wp2_with fail
          refine (fixed9_any w).mono ?_
          rintro e w2 ⟨rfl, b2⟩
          go_wp2
          go_ret
          exact ⟨rfl, b2⟩
        | false =>
          rw [h37] at e37
          have hn := mem_snoc (P := fun c => edge c = false ∧ (c == 37) = false) hall ⟨hed, h37⟩
          rw [← take_snoc u j hp] at hn
          have HN := Lib.hid hn
          clear h37 hed hall hn
          go_wp2
          go_round
          case rel => exact ⟨j + 1, by go_num, by omega, HN.out⟩
          case measure => simp [intOf]; omega
    · rw [List.take_of_length_le (by rw [size_L]; omega)] at hall
      have hed : ∀ c ∈ L u, edge c = false := fun c hc => (hall c hc).1
      have hpl : pct (L u) = L u := pct_plain fun c hc => (hall c hc).2
      obtain ⟨y, hy⟩ : ∃ y : ByteArray, (⟨#[120, 43, 121, 45, 122, 46, 49, 58]⟩ : ByteArray) ++ u = y := ⟨_, rfl⟩
      obtain ⟨z, hz⟩ : ∃ z : ByteArray, (⟨#[74, 97, 118, 97, 83, 99, 114, 105, 112, 116, 58]⟩ : ByteArray) ++ u = z := ⟨_, rfl⟩
      obtain ⟨x1, hx1⟩ : ∃ z : ByteArray, (⟨#[120]⟩ : ByteArray) ++ u = z := ⟨_, rfl⟩
      obtain ⟨x2, hx2⟩ : ∃ z : ByteArray, (⟨#[88]⟩ : ByteArray) ++ u = z := ⟨_, rfl⟩
      have q1 : (⟨#[120, 43, 121, 45, 122, 46, 49, 58]⟩ : ByteArray).size = 8 := rfl
      have q2 : (⟨#[74, 97, 118, 97, 83, 99, 114, 105, 112, 116, 58]⟩ : ByteArray).size = 11 := rfl
      have q3 : (⟨#[120]⟩ : ByteArray).size = 1 := rfl
      have q4 : (⟨#[88]⟩ : ByteArray).size = 1 := rfl
      have hyl : y.size ≤ 140737488355328 := by rw [← hy, size_append]; omega
      have hzl : z.size ≤ 140737488355328 := by rw [← hz, size_append]; omega
      have hx1l : x1.size ≤ 140737488355328 := by rw [← hx1, size_append]; omega
      have hx2l : x2.size ≤ 140737488355328 := by rw [← hx2, size_append]; omega
      have ey : schemeO (L y) = some (lowL ((L ⟨#[120, 43, 121, 45, 122, 46, 49, 58]⟩).take 7)) := by
        rw [← hy, L_append]
        exact (scheme_known made_a.1 made_a.2.1 _ hed).1
      obtain ⟨n1, n2⟩ := some_facts ey
      rw [made_a.2.2] at n1
      obtain ⟨z1, z2⟩ := source_known (a := L ⟨#[74, 97, 118, 97, 83, 99, 114, 105, 112, 116, 58]⟩) (m := L u) made_js.1 made_js.2.1 rfl made_js.2.2 hed
      rw [← L_append, hz] at z1 z2
      have z3 : B (sourceL (L z)) = u := by rw [z2, hpl, B_L]
      have z4 : scriptL (L z) = true := decide_eq_true z1
      obtain ⟨q, hq⟩ : ∃ q, scriptL (L x1) = q := ⟨_, rfl⟩
      have hq2 : scriptL (L x2) = q := by
        rw [← hq, ← hx1, ← hx2, L_append, L_append]
        exact (script_x (L u)).symm
      have HY := Lib.hid hy; have HZ := Lib.hid hz; have HX1 := Lib.hid hx1; have HX2 := Lib.hid hx2; have N1 := Lib.hid n1; have N2 := Lib.hid n2; have Z3 := Lib.hid z3; have Z4 := Lib.hid z4; have Q1 := Lib.hid hq; have Q2 := Lib.hid hq2
      clear hy hz hx1 hx2 n1 n2 z1 z2 z3 z4 hq hq2 ey hpl hed hall q1 q2 q3 q4
      go_wp2_with fail
      rw [HY.out]
      refine (scheme1 y w hyl _ true N1.out N2.out).mono ?_
      rintro e w1 ⟨rfl, b1⟩
      go_wp2_with fail
      rw [HZ.out]
      refine (source1 z w1 hzl u true Z3.out Z4.out).mono ?_
      rintro e w2 ⟨rfl, b2⟩
      go_wp2_with fail
      rw [HX1.out]
      refine (script1 x1 w2 hx1l q Q1.out).mono ?_
      rintro e w3 ⟨rfl, b3⟩
      go_wp2_with fail
      rw [HX2.out]
      refine (script1 x2 w3 hx2l q Q2.out).mono ?_
      rintro e w4 ⟨rfl, b4⟩
      cases q
      all_goals
        go_wp2_with fail
        refine (fixed9_any w4).mono ?_
        rintro e w5 ⟨rfl, b5⟩
        go_wp2
        go_ret
        exact ⟨rfl, bt b1 (bt b2 (bt b3 (bt b4 b5)))⟩

end Go.Proofs.Ytchholpiikeakaa.Lk
