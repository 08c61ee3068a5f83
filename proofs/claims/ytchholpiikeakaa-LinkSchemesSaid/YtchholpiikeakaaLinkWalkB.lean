/-
  Walks of stage 9: link.Percent, boltingref09.Percent.
-/
import Derived.Test.YtchholpiikeakaaLinkWalkA
import Derived.Deep.AppendLies
import Derived.IntWalk
import Derived.RangeFuncRecord
import Derived.Deep.CutBlock
import Derived.Deep.DeepCutAuto
namespace Go.Proofs.Ytchholpiikeakaa.Lk
set_option maxRecDepth 100000
set_option linter.unusedSimpArgs false
set_option linter.unusedVariables false
open Go.RowKit Ba Fm Fo

theorem grown_dN (w : World) (n : Nat) (row : Option Nat) : w.grownBy (w.drewN n) row := ⟨rfl, rfl, rfl, Nat.le_refl _, fun _ _ _ => rfl⟩
/-- append of one byte, at a step of a region that draws. -/
theorem step_app_byte {ops : Array Oper} {o : Oper} {a : Act} {K : Act → World → Prop} {Q : Exit → Act → World → Prop} {E : Prop} (W : World) (hgd : o.guard = none) (s x : Operand)
    (ho : o.op = .call { callee := .builtin .append, args := #[s, x], argTypes := #[28, 28] })
    (W0 : World) (N : Nat) (v : Value) (l : List UInt8) (z : UInt8) (hr : OwnB N W0 v l) (hg : W0.grownBy W none) (hN : N ≤ W0.heap.size) (hl : l.length + 1 ≤ 140737488355328)
    (hs : a.eval s = v) (g0 : Nat) (hx : a.eval x = .slice (some ⟨g0, 0, none⟩) 1 1) (hz : W.heap[g0]? = some (.cells #[.int .u8 (z.toNat : Int)] 5))
    (h : ∀ v' w', OwnB N w' v' (l ++ [z]) → (∀ w0, Below N w0 W0 → Below N w0 w') → K (a.put o.dst v') w') :
    if Region.wanted o (yielded ops a.tmps) = true then Oper.wp Try.prog o a W K Q else E := by
  obtain ⟨i0, hi, hz0, hz1, hz2⟩ := info_parts info_u8
  have hown : OwnB N W v l := World.ownsRow.kept hr hg (by cases hv : v.ownBlock with
    | none => exact .inl rfl
    | some k => right; simp)
  refine step_append_lies W hgd s x 28 ho N 5 i0 (.int .u8 0) 1 1 Try.underlying28 hi hz0 hz1 hz2 rfl (by decide) v l.length (l.map bc) hs hown ⟨g0, 0, none⟩ 1 1 [.int .u8 (z.toNat : Int)] hx rfl (fun j u hu => World.news_of_block hz j u hu) (by simp [Value.oneCell']) (by decide) (by unfold maxLen; omega) (by omega) (Nat.le_trans hN hg.size) _ rfl ?_
  intro g cap w1 h1 h2 _ _
  exact h _ w1 (OwnB.appended (m := [z]) h1 rfl) fun w0 hb => hown.below h2 (hb.grown hg hN (fun k hk => by cases hk)) (Nat.le_trans hN hg.size)

def strOf : Value → ByteArray
  | .string s => s
  | _ => .empty

set_option maxHeartbeats 4000000 in
theorem percent_any (s : ByteArray) (w : World) (hs : s.size ≤ 140737488355328) :
    Calls Try.prog 19 #[.string s] w fun e w' => e = .returned (.string (B (pct (L s)))) ∧ Below w.heap.size w w' := by
  obtain ⟨i0, hi, hz0, hz1, hz2⟩ := info_parts info_u8
  go_enter Try.func19, Try.ntmps19
  go_wp2_with (at_make; refine wpList_make_own _ rfl (.const (.int .i64 0)) (.tmp 7) 28 rfl w.heap.size 5 i0 (.int .u8 0) 1 Try.underlying28 hi hz0 hz1 .i64 .i64 _ s.size rfl rfl rfl (by rw [hz2]; omega) (by unfold maxLen; omega) (Nat.le_refl _) ?_; intro w1 hown hgrow)
  have hb0 : Below w.heap.size w w1 := (Below.refl w.heap.size w).grown hgrow (Nat.le_refl _) (by simp)
  have ho0 : OwnB w.heap.size w1 (.slice (some ⟨w.heap.size, 0, none⟩) 0 s.size) [] := hown
  clear hown hgrow
  go_loopw [0, 3] (fun t v wr => ∃ (u : ByteArray) (l : List UInt8), t = .string u ∧ l.length + u.size ≤ s.size ∧ l ++ pct (L u) = pct (L s) ∧ OwnB w.heap.size wr v l ∧ Below w.heap.size w wr) (fun t _ _ => (strOf t).size)
  case atStart => exact ⟨s, [], rfl, by simp, rfl, ho0, hb0⟩
  case round =>
    clear ho0 hb0
    obtain ⟨u, l, rfl, hlen, hp, hown, hbel⟩ := hrel
    have hN := hbel.size
    by_cases h0 : 0 < u.size
    · have hc0 := drop_cons u 0 h0
      rw [List.drop_zero] at hc0
      have us : u.size ≤ 140737488355328 := by omega
      have ls : l.length + 1 ≤ 140737488355328 := by omega
      cases hm : mk (L u) with
      | some x =>
        obtain ⟨h3, e3⟩ := pct_yes hm
        rw [size_L] at h3
        rw [e3] at hp
        have HM := Lib.hid hm; have HP := Lib.hid hp; have HO := Lib.hid hown; have HB := Lib.hid hbel
        have h3' : (3 : Int) ≤ u.size := by omega
        clear hm hp hown hbel e3 hc0
        go_wp2_with fail
        refine (marked1 u _ us _ HM.out).mono ?_
        rintro e w2 ⟨rfl, rfl⟩
        go_wp2
        go_region_law (refine step_app_byte _ (by rfl) (.tmp 18) (.tmp 20) (by rfl) wr w.heap.size _ l x HO.out (by first | exact (World.grownBy_alloc wr _ _).trans (grown_dN _ 1 _) | exact (grown_dN wr 1 _).trans (World.grownBy_alloc _ _ _) | exact World.grownBy_alloc wr _ _) hN ls (by simp [Act.eval, Act.put]) _ (by simp [Act.eval, Act.put]) (World.alloc_heap_new _ _) ?_; intro v2 w2 hown2 hk2)
        all_goals go_simp
        all_goals go_wp2
        all_goals go_roundw
        case rel =>
          refine ⟨_, l ++ [x], rfl, ?_, ?_, hown2, hk2 _ HB.out⟩
          · have : (u.extract 3 u.size).size + 3 = u.size := by rw [← size_L, L_end, List.length_drop, size_L]; omega
            rw [List.length_append, List.length_singleton]; omega
          · rw [List.append_assoc, L_end, ← HP.out]; rfl
        case measure =>
          have : (u.extract 3 u.size).size + 3 = u.size := by rw [← size_L, L_end, List.length_drop, size_L]; omega
          show (u.extract 3 u.size).size < u.size
          omega
      | none =>
        have hp2 : pct (L u) = u[0] :: pct ((L u).drop 1) := by
          rw [hc0] at hm
          rw [hc0, pct_no hm]
          rfl
        rw [hp2] at hp
        have HM := Lib.hid hm; have HP := Lib.hid hp; have HO := Lib.hid hown; have HB := Lib.hid hbel
        clear hm hp hown hbel hp2 hc0
        have h1' : (1 : Int) ≤ u.size := by omega
        go_wp2_with fail
        refine (marked1 u _ us _ HM.out).mono ?_
        rintro e w2 ⟨rfl, rfl⟩
        go_wp2
        go_region_law (refine step_app_byte _ (by rfl) (.tmp 24) (.tmp 27) (by rfl) wr w.heap.size _ l u[0] HO.out (by first | exact (World.grownBy_alloc wr _ _).trans (grown_dN _ 1 _) | exact (grown_dN wr 1 _).trans (World.grownBy_alloc _ _ _) | exact World.grownBy_alloc wr _ _) hN ls (by simp [Act.eval, Act.put]) _ (by simp [Act.eval, Act.put]) (World.alloc_heap_new _ _) ?_; intro v2 w2 hown2 hk2)
        all_goals go_simp
        all_goals go_wp2
        all_goals go_roundw
        case rel =>
          refine ⟨_, l ++ [u[0]], rfl, ?_, ?_, hown2, hk2 _ HB.out⟩
          · have : (u.extract 1 u.size).size + 1 = u.size := by rw [← size_L, L_end, List.length_drop, size_L]; omega
            rw [List.length_append, List.length_singleton]; omega
          · rw [List.append_assoc, L_end, ← HP.out]; rfl
        case measure =>
          have : (u.extract 1 u.size).size + 1 = u.size := by rw [← size_L, L_end, List.length_drop, size_L]; omega
          show (u.extract 1 u.size).size < u.size
          omega
    · have hu : L u = [] := List.eq_nil_of_length_eq_zero (by rw [size_L]; omega)
      rw [hu] at hp
      have hp : l = pct (L s) := by rw [← hp]; simp [pct]
      have hcv := hown.string
      have HP := Lib.hid hp; have HB := Lib.hid hbel
      clear hp hown hbel hu
      go_wp2
      go_ret
      exact ⟨ret_str (by rw [HP.out]), HB.out⟩

theorem refDigit1 (c : UInt8) (w : World) (q : Int) (h : rd c = q) : Calls Try.prog 25 #[.int .u8 c.toNat] w fun e w' => e = .returned (.int .i64 q) ∧ w = w' := by
  have k := refDigit_any c w
  rw [h] at k
  exact k
theorem mk_at (s : ByteArray) (k : Nat) (h : k + 2 < s.size) : mk ((L s).drop k) = if s[k] == 37 && (hb s[k + 1] && hb s[k + 2]) then some (UInt8.ofNat (16 * hv s[k + 1] + hv s[k + 2])) else none := by
  rw [drop_cons s k (by omega), drop_cons s (k + 1) (by omega), drop_cons s (k + 1 + 1) (by omega)]
  rfl
theorem mk_short (s : ByteArray) (k : Nat) (h : s.size ≤ k + 2) : mk ((L s).drop k) = none := by
  have hl : ((L s).drop k).length ≤ 2 := by rw [List.length_drop, size_L]; omega
  match (L s).drop k, hl with
  | [], _ => rfl
  | [a], _ => rfl
  | [a, b], _ => rfl
  | a :: b :: c :: r, h => simp at h

set_option maxHeartbeats 4000000 in
theorem refPercent_any (s : ByteArray) (w : World) (hs : s.size ≤ 140737488355328) :
    Calls Try.prog 20 #[.string s] w fun e w' => e = .returned (.string (B (pct (L s)))) ∧ Below w.heap.size w w' := by
  have ho0 := OwnB.made w
  have hb0 : Below w.heap.size w (w.alloc (.cells #[] 5)) := (Below.refl _ _).alloc (Nat.le_refl _) _
  go_enter Try.func20, Try.ntmps20
  go_wp2
  go_loopw [3, 4] (fun v i wr => ∃ (k : Nat) (l : List UInt8), i = .int .i64 k ∧ k ≤ s.size ∧ l.length ≤ k ∧ l ++ pct ((L s).drop k) = pct (L s) ∧ OwnB w.heap.size wr v l ∧ Below w.heap.size w wr) (fun _ i _ => s.size - (intOf i).toNat)
  case atStart => exact ⟨0, [], rfl, Nat.zero_le _, Nat.le_refl _, rfl, ho0, hb0⟩
  case round =>
    clear ho0 hb0
    obtain ⟨k, l, rfl, hks, hlk, hp, hown, hbel⟩ := hrel
    have hN := hbel.size
    by_cases h0 : k < s.size
    · have ls : l.length + 1 ≤ 140737488355328 := by omega
      obtain ⟨o, ho⟩ : ∃ o, mk ((L s).drop k) = o := ⟨_, rfl⟩
      have HM := Lib.hid ho; have HP := Lib.hid hp; have HO := Lib.hid hown; have HB := Lib.hid hbel
      clear ho hp hown hbel
      have e37 : ((s[k].toNat : Int) == 37) = (s[k] == 37) := u8_eq (b := 37)
      go_upto_region 5 with (fail)
      go_cut [5] from 13 to 39 (fun t wx => t = .bool o.isSome ∧ wx = wr)
      case first =>
        cases h37 : s[k] == 37 with
        | false =>
          have ho : o = none := by rw [← HM.out, drop_cons s k h0]; exact mk_37 _ h37
          rw [h37] at e37
          have HO' := Lib.hid ho; clear ho h37
          go_wp2
          go_meet
          exact ⟨by rw [HO'.out]; rfl, rfl⟩
        | true =>
          rw [h37] at e37
          by_cases h2 : (k : Int) + 2 < s.size
          · have hm := mk_at s k (by omega)
            rw [h37, HM.out] at hm
            have h1 : (k : Int) + 1 < s.size := by omega
            cases hb1 : hb (s[k + 1]'(by omega)) with
            | false =>
              have ho : o = none := by rw [hm, hb1]; rfl
              have HR := Lib.hid (rd_no hb1); have HO' := Lib.hid ho; clear hm ho hb1 h37
              go_wp2_with fail
              refine (refDigit1 (s[k + 1]'(by omega)) _ _ HR.out).mono ?_
              rintro e w' ⟨rfl, rfl⟩
              go_wp2
              go_meet
              exact ⟨by rw [HO'.out]; rfl, rfl⟩
            | true =>
              have n1 : (0 : Int) ≤ hv (s[k + 1]'(by omega)) := by omega
              cases hb2 : hb (s[k + 2]'(by omega)) with
              | false =>
                have ho : o = none := by rw [hm, hb1, hb2]; rfl
                have HR := Lib.hid (rd_yes hb1); have HR2 := Lib.hid (rd_no hb2); have HO' := Lib.hid ho; clear hm ho hb1 hb2 h37
                go_wp2_with fail
                refine (refDigit1 (s[k + 1]'(by omega)) _ _ HR.out).mono ?_
                rintro e w' ⟨rfl, rfl⟩
                go_wp2_with fail
                refine (refDigit1 (s[k + 2]'(by omega)) _ _ HR2.out).mono ?_
                rintro e w' ⟨rfl, rfl⟩
                go_wp2
                go_meet
                exact ⟨by rw [HO'.out]; rfl, rfl⟩
              | true =>
                have n2 : (0 : Int) ≤ hv (s[k + 2]'(by omega)) := by omega
                have ho : o.isSome = true := by rw [hm, hb1, hb2]; rfl
                have HR := Lib.hid (rd_yes hb1); have HR2 := Lib.hid (rd_yes hb2); have HO' := Lib.hid ho; clear hm ho hb1 hb2 h37
                go_wp2_with fail
                refine (refDigit1 (s[k + 1]'(by omega)) _ _ HR.out).mono ?_
                rintro e w' ⟨rfl, rfl⟩
                go_wp2_with fail
                refine (refDigit1 (s[k + 2]'(by omega)) _ _ HR2.out).mono ?_
                rintro e w' ⟨rfl, rfl⟩
                go_wp2
                go_meet
                exact ⟨by rw [HO'.out], rfl⟩
          · have h2' : (s.size : Int) ≤ k + 2 := by omega
            have ho : o = none := by rw [← HM.out]; exact mk_short s k (by omega)
            have HO' := Lib.hid ho; clear ho h37
            go_wp2
            go_meet
            exact ⟨by rw [HO'.out]; rfl, rfl⟩
      case rest =>
        obtain ⟨rfl, hwx⟩ := hcut
        have hwx := hwx.symm
        subst hwx
        cases o with
        | none =>
          have hp2 : l ++ [s[k]] ++ pct ((L s).drop (k + 1)) = pct (L s) := by
            have hm := HM.out
            rw [← HP.out, List.append_assoc, drop_cons s k h0, pct_no (by rw [← drop_cons s k h0]; exact hm)]
            rfl
          have HP2 := Lib.hid hp2; clear hp2 e37
          go_wp2_with (at_builtin; refine app_byte wr rfl (.tmp 59) (.tmp 63) rfl w.heap.size _ l s[k] rfl HO.out rfl ls hN ?_; intro v2 w2 hown2 hk2)
          go_roundw
          case rel => exact ⟨k + 1, l ++ [s[k]], by go_num, by omega, by rw [List.length_append, List.length_singleton]; omega, HP2.out, hown2, hk2 _ HB.out⟩
          case measure => simp [intOf]; omega
        | some x =>
          have hm := HM.out
          have hk2 : k + 2 < s.size := by
            rcases Nat.lt_or_ge (k + 2) s.size with h | h
            · exact h
            · rw [mk_short s k h] at hm; cases hm
          obtain ⟨h3, hp3⟩ := pct_yes hm
          rw [List.drop_drop] at hp3
          rw [mk_at s k hk2] at hm
          have hb : s[k] == 37 && (hb s[k + 1] && hb s[k + 2]) := by
            split at hm
            · assumption
            · cases hm
          rw [if_pos hb] at hm
          injection hm with hm
          simp only [Bool.and_eq_true] at hb
          have hr1 := rd_yes hb.2.1
          have hr2 := rd_yes hb.2.2
          have l1 := hv_le s[k + 1]
          have l2 := hv_le s[k + 2]
          have hx : (16 * rd s[k + 1] + rd s[k + 2] : Int) = x.toNat := by rw [hr1, hr2, ← hm, UInt8.toNat_ofNat']; omega
          have hp2 : l ++ [x] ++ pct ((L s).drop (k + 3)) = pct (L s) := by rw [← HP.out, hp3, List.append_assoc]; rfl
          have HP2 := Lib.hid hp2
          have hk4 : k + 3 ≤ s.size := by omega
          have hk5 : Value.int .i64 ((k : Int) + 2 + 1) = .int .i64 ((k + 3 : Nat) : Int) := by go_num
          have hk6 : (l ++ [x]).length ≤ k + 3 := by rw [List.length_append, List.length_singleton]; omega
          have hk7 : s.size - ((k : Int) + 2 + 1).toNat < s.size - k := by omega
          have HK5 := Lib.hid hk5; clear hk5
          have n1 : (0 : Int) ≤ rd s[k + 1] := by omega
          have n2 : (0 : Int) ≤ rd s[k + 2] := by omega
          have n1' : rd s[k + 1] ≤ 15 := by omega
          have n2' : rd s[k + 2] ≤ 15 := by omega
          have i1 : (k : Int) + 1 < s.size := by omega
          have i2 : (k : Int) + 2 < s.size := by omega
          have y1 : IntKind.i64.wrap ((k : Int) + 1) = (k : Int) + 1 := IntWalk.i64_in _ (by omega)
          have y2 : IntKind.i64.wrap ((k : Int) + 2) = (k : Int) + 2 := IntWalk.i64_in _ (by omega)
          have y3 : IntKind.i64.wrap (16 * rd s[k + 1]) = 16 * rd s[k + 1] := IntWalk.i64_in _ (by omega)
          have y4 : IntKind.i64.wrap (16 * rd s[k + 1] + rd s[k + 2]) = x.toNat := by rw [hx]; exact IntWalk.i64_in _ (by omega)
          have y5 : IntKind.u8.wrap (x.toNat : Int) = x.toNat := IntWalk.u8_in _ (by have := x.toNat_lt; omega)
          have z1 : ((k : Int) + 1).toNat = k + 1 := by omega
          have z2 : ((k : Int) + 2).toNat = k + 2 := by omega
          have m1 : (0 : Int) ≤ (k : Int) + 1 := by omega
          have m2 : (0 : Int) ≤ (k : Int) + 2 := by omega
          clear hp2 e37 hm hb hr1 hr2 hx l1 l2 hp3 h3
          go_wp2_with fail
          go_region_law (first | (refine step_app_byte _ (by rfl) (.tmp 41) (.tmp 55) (by rfl) wr w.heap.size _ l x HO.out (by first | exact (World.grownBy_alloc wr _ _).trans (grown_dN _ 1 _) | exact (grown_dN wr 1 _).trans (World.grownBy_alloc _ _ _) | exact World.grownBy_alloc wr _ _) hN ls (by simp [Act.eval, Act.put]) _ (by simp [Act.eval, Act.put]) (World.alloc_heap_new _ _) ?_; intro v2 w2 hown2 hk2) | (go_simp; go_at_call 25; refine (refDigit_any _ _).mono ?_; rintro e w' ⟨rfl, rfl⟩))
          all_goals go_simp
          all_goals
            go_wp2
            go_roundw
            case rel => exact ⟨k + 3, l ++ [x], HK5.out, hk4, hk6, HP2.out, hown2, hk2 _ HB.out⟩
            case measure => exact hk7
    · have hu : (L s).drop k = [] := drop_nil s k h0
      rw [hu] at hp
      have hp : l = pct (L s) := by rw [← hp]; simp [pct]
      have hcv := hown.string
      have HP := Lib.hid hp; have HB := Lib.hid hbel
      clear hp hown hbel hu
      go_wp2
      go_ret
      exact ⟨ret_str (by rw [HP.out]), HB.out⟩

end Go.Proofs.Ytchholpiikeakaa.Lk
