/-
  The laws of stage 4, walked: Normal.
-/
import Derived.Test.YtblefklfgaohfaaRowConv
namespace Go.Proofs.Ytblefklfgaohfaa.Ro
set_option linter.unusedVariables false
set_option linter.unusedSimpArgs false
open Go.RowKit Ba

theorem normal_from : ∀ (n : Nat) (l : List Ro), l.length ≤ n → (normal l).length ≤ l.length ∧ ∀ y ∈ normal l, ∃ x ∈ l, y.depth = x.depth ∧ (y.kind = 1 → x.kind = 1)
  | _, [], _ => by rw [normal_nil]; simp
  | 0, _ :: _, h => absurd h (by simp)
  | n + 1, x :: r, h => by
    rw [List.length_cons] at h
    by_cases hk : x.kind = 1
    · rw [normal_text hk]
      obtain ⟨h1, h2⟩ := normal_from n (r.drop (nexts x.depth r)) (by rw [List.length_drop]; omega)
      rw [List.length_drop] at h1
      constructor
      · rw [List.length_append, List.length_cons]
        split
        · simp; omega
        · simp; omega
      · intro y hy
        rcases List.mem_append.1 hy with hy | hy
        · split at hy
          · cases hy
          · obtain rfl := List.mem_singleton.1 hy
            exact ⟨x, List.mem_cons_self, rfl, fun _ => hk⟩
        · obtain ⟨z, hz, e⟩ := h2 y hy
          exact ⟨z, List.mem_cons_of_mem _ (List.mem_of_mem_drop hz), e⟩
    · rw [normal_other hk]
      obtain ⟨h1, h2⟩ := normal_from n r (by omega)
      constructor
      · rw [List.length_cons, List.length_cons]; omega
      · intro y hy
        rcases List.mem_cons.1 hy with rfl | hy
        · exact ⟨y, List.mem_cons_self, rfl, fun e => e⟩
        · obtain ⟨z, hz, e⟩ := h2 y hy
          exact ⟨z, List.mem_cons_of_mem _ hz, e⟩
theorem len_normal (l : List Ro) : (normal l).length ≤ l.length := (normal_from l.length l (Nat.le_refl _)).1
theorem held_normal {l : List Ro} (h : Held l) : Held (normal l) := fun y hy => by
  obtain ⟨x, hx, e, _⟩ := (normal_from l.length l (Nat.le_refl _)).2 y hy
  rw [e]
  exact h x hx

theorem own_below {N : Nat} {e : TypeId} {size n : Nat} {w w' : World} {v : Value} {xs : List Value} (h : w.ownsRow N e size v n xs) (hb : Below w.heap.size w w') : w'.ownsRow N e size v n xs := by
  refine ⟨h.1, ?_⟩
  rcases h.2 with hn | ⟨g, cap, cur, hv, hg, hh, rest⟩
  · exact .inl hn
  · refine .inr ⟨g, cap, cur, hv, hg, ?_, rest⟩
    have hlt : g < w.heap.size := (Array.getElem?_eq_some_iff.1 hh).1
    rw [hb.block g (by omega)]
    exact hh
theorem own_sl {N : Nat} {e : TypeId} {size n : Nat} {w : World} {v : Value} {xs : List Value} (h : w.ownsRow N e size v n xs) : ∃ A c, v = .slice A n c := by
  rcases h.2 with ⟨hv, h0⟩ | ⟨g, cap, _, hv, _⟩
  · exact ⟨none, 0, by rw [hv, h0]⟩
  · exact ⟨_, cap, hv⟩
theorem own_some {N : Nat} {e : TypeId} {size n c : Nat} {w : World} {A : Option Addr} {xs : List Value} (h : w.ownsRow N e size (.slice A n c) n xs) (hn : 0 < n) : ∃ g, A = some ⟨g, 0, none⟩ := by
  rcases h.2 with ⟨_, h0⟩ | ⟨g, cap, _, hv, _⟩
  · omega
  · injection hv with e
    exact ⟨g, e⟩
/-- A cell of a slice of the call's own that is stored into. -/
theorem own_cell5 {N g n cap : Nat} {w : World} {xs : List Value} {e : TypeId} (h : w.ownsRow N e 5 (.slice (some ⟨g, 0, none⟩) n cap) n xs) (k j : Nat) (hk : k < n) (hj : j < 5) :
    ∃ u, w.cell? ⟨g, k * 5 + j, none⟩ = some u ∧ w.frozen? ⟨g, k * 5 + j, none⟩ = false ∧ N ≤ g := by
  have hl : xs.length = n * 5 := h.1
  have hlt : k * 5 + j < n * 5 := by omega
  refine ⟨xs[k * 5 + j], ?_, World.ownsRow.frozenAt h _, (World.ownsRow.lt h g rfl).1⟩
  rw [World.ownsRow.cellAt h (k * 5 + j) hlt, List.getElem?_eq_getElem (by omega)]

set_option maxRecDepth 100000 in
set_option maxHeartbeats 4000000 in
theorem law_normal (v : Value) (l : List Cw) (w : World) (hv : Rv w v l) (ht : (txt (ros l)).length ≤ 1000000000) :
    Calls Try.prog 6 #[v] w fun e w' => e = .returned (.bool true) ∧ Below w.heap.size w w' := by
  go_enter Try.func6, Try.ntmps6
  go_wp2_with fail
  refine (bound1 v l w hv).mono ?_
  rintro e w1 ⟨v1, x, rfl, _, hv1, hx, h60, hf, hh, hb1⟩
  have htx : (txt (ros x)).length ≤ 1000000000 := by rw [hx]; exact Nat.le_trans (txt_bounded _) ht
  have HV1 := Lib.hid hv1
  clear hx hv ht hv1
  obtain ⟨R, hR⟩ : ∃ R, right (ros x) = R := ⟨_, rfl⟩
  have HR := Lib.hid hR
  clear hR
  go_wp2_with fail
  refine (refRight1 v1 x w1 R HV1.out (by omega) HR.out).mono ?_
  rintro e w2 ⟨rfl, hb2⟩
  have HV2 := Lib.hid (HV1.out.below hb2)
  have HB2 := Lib.hid (bt hb1 hb2)
  clear hb1 hb2 HV1
  cases R with
  | false =>
    go_wp2_with fail
    refine (fixed_any w2).mono ?_
    rintro e w3 ⟨rfl, hb3⟩
    go_wp2
    go_ret
    exact ⟨rfl, bt HB2.out hb3⟩
  | true =>
    obtain ⟨q, hq⟩ : ∃ q, normal (ros x) = q := ⟨_, rfl⟩
    have hqh : Held q := by rw [← hq]; exact held_normal hh
    have hql : q.length ≤ 60 := by rw [← hq]; have := len_normal (ros x); rw [len_ros] at this; omega
    have HQ := Lib.hid hq
    clear hq
    go_wp2_with fail
    refine (moved0 v1 x w2 HV2.out (by omega) hf).mono ?_
    rintro e w3 ⟨v3, y, rfl, _, _, hy, hyl, hv3, hb3⟩
    have HY := Lib.hid hy
    have HV3 := Lib.hid (HV2.out.below hb3)
    have HW3 := Lib.hid hv3
    have HB3 := Lib.hid (bt HB2.out hb3)
    clear hb3 HV2 HB2 hy hv3
    go_wp2_with fail
    refine (normal1 v1 x w3 q HV3.out (by omega) hf htx HQ.out hqh).mono ?_
    rintro e w4 ⟨v4, z, rfl, ho4, _, hz, hv4, hb4⟩
    have hzl : z.length ≤ 60 := by rw [← len_ros, hz]; exact hql
    have HZ := Lib.hid hz
    have HV4 := Lib.hid (HV3.out.below hb4)
    have HW4 := Lib.hid (HW3.out.below hb4)
    have HX4 := Lib.hid hv4
    have HO4 := Lib.hid ho4.1
    have HB34 := Lib.hid hb4
    clear hb4 hz hv4 ho4
    go_wp2_with fail
    refine (refNormal1 v1 x w4 q HV4.out (by omega) hf htx HR.out HQ.out hqh).mono ?_
    rintro e w5 ⟨v5, z5, rfl, hz5, hv5, hb5⟩
    have hz5l : z5.length ≤ 60 := by rw [← len_ros, hz5]; exact hql
    have HB35 := Lib.hid (bt HB34.out hb5)
    have HO5 := Lib.hid (show w5.ownsRow w3.heap.size 43 5 v4 z.length (z.flatMap cells) from own_below HO4.out hb5)
    have HX5 := Lib.hid (HX4.out.below hb5)
    have HY5 := Lib.hid hv5
    have he5 : decide (ros z = ros z5) = true := decide_eq_true (HZ.out.trans hz5.symm)
    have HE5 := Lib.hid he5
    clear hb5 hv5 HB34 HO4 HX4 HV4 HW4 HZ he5 hz5
    go_wp2_with fail
    refine (refSame1 v4 v5 z z5 w5 true HX5.out HY5.out (by omega) (by omega) HE5.out).mono ?_
    rintro e w6 ⟨rfl, hb6⟩
    have HB36 := Lib.hid (bt HB35.out hb6)
    have HO6 := Lib.hid (show w6.ownsRow w3.heap.size 43 5 v4 z.length (z.flatMap cells) from own_below HO5.out hb6)
    clear hb6 HB35 HO5 HX5 HY5 HE5
    obtain ⟨A, c, hvA⟩ : ∃ A c, v4 = .slice A z.length c := own_sl HO6.out
    subst hvA
    go_wp2
    go_loopw [5] (fun i wr => ∃ (k : Nat) (xs : List Value), i = .int .i64 k ∧ k ≤ z.length ∧ wr.ownsRow w3.heap.size 43 5 (.slice A z.length c) z.length xs ∧ Below w3.heap.size w3 wr) (fun i _ => z.length - (intOf i).toNat)
    case atStart => exact ⟨0, _, rfl, Nat.zero_le _, HO6.out, HB36.out⟩
    case round =>
      clear HO6 HB36
      obtain ⟨k, xs, rfl, hks, hown, hbel⟩ := hrel
      have HOW := Lib.hid hown
      have HBL := Lib.hid hbel
      clear hown hbel
      by_cases hp : k < z.length
      · obtain ⟨g, rfl⟩ := own_some HOW.out (by omega)
        obtain ⟨u, hcell, hfz, hng⟩ := own_cell5 HOW.out k 3 hp (by omega)
        have HST := Lib.hid (World.ownsRow.stored HOW.out (k * 5 + 3) (.string ⟨#[120]⟩)).1
        have HBS := Lib.hid (HBL.out.setCell (p := ⟨g, k * 5 + 3, none⟩) hng (.string ⟨#[120]⟩))
        clear HOW HBL
        go_wp2
        go_roundw
        case rel => exact ⟨k + 1, _, by go_num, by omega, HST.out, HBS.out⟩
        case measure => simp [intOf]; omega
      · have HV7 := Lib.hid (HV3.out.below HBL.out)
        have HW7 := Lib.hid (HW3.out.below HBL.out)
        have he7 : decide (ros x = ros y) = true := decide_eq_true HY.out.symm
        have HE7 := Lib.hid he7
        clear he7 HOW
        go_wp2_with fail
        refine (refSame1 v1 v3 x y wr true HV7.out HW7.out (by omega) (by omega) HE7.out).mono ?_
        rintro e w8 ⟨rfl, hb8⟩
        have HB8 := Lib.hid (bt HB3.out (bt HBL.out hb8))
        clear hb8
        go_wp2_with fail
        refine (fixed_any w8).mono ?_
        rintro e w9 ⟨rfl, hb9⟩
        go_wp2
        go_ret
        exact ⟨rfl, bt HB8.out hb9⟩

end Go.Proofs.Ytblefklfgaohfaa.Ro
