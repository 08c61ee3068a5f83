/-
  Walks of stage 9's reference: Strip, colon, Scheme, Source.
-/
import Derived.Test.YtchholpiikeakaaLinkWalkD
namespace Go.Proofs.Ytchholpiikeakaa.Lk
set_option maxRecDepth 100000
set_option linter.unusedSimpArgs false
set_option linter.unusedVariables false
open Go.RowKit Ba Fm Fo

/-- What the reference's Strip has found of the first bytes: the first and the last place of a byte that is not ignored at an end. -/
def Seen (l : List UInt8) (f g : Int) : Prop :=
  (f = -1 ∧ g = -1 ∧ allEdge l) ∨ ∃ a b : Nat, f = a ∧ g = b ∧ a ≤ b ∧ b < l.length ∧ frontL l = l.drop a ∧ backL l = l.take (b + 1)
theorem seen_nil : Seen [] (-1) (-1) := .inl ⟨rfl, rfl, fun _ h => by cases h⟩
theorem seen_yes {l : List UInt8} {f g : Int} {c : UInt8} (h : Seen l f g) (hc : edge c = true) : Seen (l ++ [c]) f g := by
  rcases h with ⟨h1, h2, h3⟩ | ⟨a, b, h1, h2, h3, h4, h5, h6⟩
  · refine .inl ⟨h1, h2, fun x hx => ?_⟩
    rcases List.mem_append.1 hx with hx | hx
    · exact h3 x hx
    · rw [List.mem_singleton.1 hx]; exact hc
  · refine .inr ⟨a, b, h1, h2, h3, by rw [List.length_append]; omega, ?_, ?_⟩
    · rw [front_append, if_neg, h5, List.drop_append_of_le_length (by omega)]
      rw [h5]
      intro e
      have := congrArg List.length e
      rw [List.length_drop, List.length_nil] at this
      omega
    · rw [back_yes _ hc, h6, List.take_append_of_le_length (by omega)]
theorem seen_first {l : List UInt8} {g : Int} {c : UInt8} (h : Seen l (-1) g) (hc : edge c = false) : Seen (l ++ [c]) (l.length : Nat) (l.length : Nat) := by
  rcases h with ⟨h1, h2, h3⟩ | ⟨a, b, h1, _⟩
  · refine .inr ⟨l.length, l.length, rfl, rfl, Nat.le_refl _, by simp, ?_, ?_⟩
    · rw [front_append, if_pos (front_none h3), List.drop_left]
      exact front_no [] hc
    · rw [back_no _ hc, List.take_of_length_le (by simp)]
  · omega
theorem seen_more {l : List UInt8} {f g : Int} {c : UInt8} (h : Seen l f g) (h0 : 0 ≤ f) (hc : edge c = false) : Seen (l ++ [c]) f (l.length : Nat) := by
  rcases h with ⟨h1, h2, h3⟩ | ⟨a, b, h1, h2, h3, h4, h5, h6⟩
  · omega
  · refine .inr ⟨a, l.length, h1, rfl, by omega, by simp, ?_, ?_⟩
    · rw [front_append, if_neg, h5, List.drop_append_of_le_length (by omega)]
      rw [h5]
      intro e
      have := congrArg List.length e
      rw [List.length_drop, List.length_nil] at this
      omega
    · rw [back_no _ hc, List.take_of_length_le (by simp)]
/-- What stands between the two. -/
theorem seen_core {l : List UInt8} {a b : Nat} (hb : b < l.length) (hab : a ≤ b) (h1 : frontL l = l.drop a) (h2 : backL l = l.take (b + 1)) : backL (frontL l) = (l.drop a).take (b + 1 - a) := by
  obtain ⟨e, h3, h4⟩ := back_prefix l
  have hl : l = l.take a ++ l.drop a := (List.take_append_drop a l).symm
  have h5 : l.drop a = (l.drop a).take (b + 1 - a) ++ e := by
    have e1 : l.drop a = (l.take (b + 1) ++ e).drop a := by rw [← h2, ← h3]
    rw [List.drop_append_of_le_length (by rw [List.length_take]; omega), List.drop_take] at e1
    exact e1
  have hlast : backL l ≠ [] := by
    rw [h2]
    intro e
    have := congrArg List.length e
    rw [List.length_take, List.length_nil] at this
    omega
  rcases back_cases l with ⟨h6, _⟩ | ⟨m, c, h6, h7⟩
  · exact absurd h6 hlast
  · have hlen : m.length = b := by
      have := congrArg List.length h6
      rw [h2, List.length_take, List.length_append, List.length_singleton] at this
      omega
    have h8 : (l.drop a).take (b + 1 - a) = m.drop a ++ [c] := by
      rw [← List.drop_take, ← h2, h6, List.drop_append_of_le_length (by omega)]
    rw [h1]
    have h9 : backL (l.drop a) = m.drop a ++ [c] := by
      rw [h5, back_all _ h4, h8, back_no _ h7]
    rw [h9, h8]

set_option maxHeartbeats 4000000 in
theorem refStrip_any (s : ByteArray) (w : World) (hs : s.size ≤ 140737488355328) :
    Calls Try.prog 15 #[.string s] w fun e w' => e = .returned (.string (B (stripL (L s)))) ∧ Below w.heap.size w w' := by
  go_enter Try.func15, Try.ntmps15
  go_wp2
  go_loop [3, 4, 5] (fun v3 v4 i => ∃ (k : Nat) (f g : Int), v3 = .int .i64 f ∧ v4 = .int .i64 g ∧ i = .int .i64 k ∧ k ≤ s.size ∧ Seen ((L s).take k) f g) (fun _ _ i => s.size - (intOf i).toNat)
  case atStart => exact ⟨0, -1, -1, rfl, rfl, rfl, Nat.zero_le _, seen_nil⟩
  case round =>
    obtain ⟨k, f, g, rfl, rfl, rfl, hks, hsn⟩ := hrel
    by_cases hp : k < s.size
    · have hl : ((L s).take k).length = k := by rw [List.length_take, size_L]; omega
      have he := edge_of s[k]
      cases hed : edge s[k] with
      | true =>
        have hn := seen_yes hsn hed
        rw [← take_snoc s k hp] at hn
        rw [hed] at he
        have h32 : (s[k].toNat : Int) ≤ 32 := of_decide_eq_true he.symm
        have HN := Lib.hid hn; clear hn hsn hed he hl
        go_wp2
        go_round
        case rel => exact ⟨k + 1, f, g, rfl, rfl, by go_num, by omega, HN.out⟩
        case measure => simp [intOf]; omega
      | false =>
        rw [hed] at he
        have h32 : ¬ (s[k].toNat : Int) ≤ 32 := of_decide_eq_false he.symm
        have h33 : 32 < (s[k].toNat : Int) := by omega
        clear he h32
        by_cases hf : f < 0
        · have hf1 : f = -1 := by rcases hsn with ⟨h, _⟩ | ⟨a, b, h, _⟩ <;> omega
          subst hf1
          have hn := seen_first hsn hed
          rw [← take_snoc s k hp, hl] at hn
          have HN := Lib.hid hn; clear hn hsn hed hl
          go_wp2
          go_round
          case rel => exact ⟨k + 1, k, k, rfl, rfl, by go_num, by omega, HN.out⟩
          case measure => simp [intOf]; omega
        · have hf0 : 0 ≤ f := by omega
          have hn := seen_more hsn hf0 hed
          rw [← take_snoc s k hp, hl] at hn
          have HN := Lib.hid hn; clear hn hsn hed hl
          go_wp2
          go_round
          case rel => exact ⟨k + 1, f, k, rfl, rfl, by go_num, by omega, HN.out⟩
          case measure => simp [intOf]; omega
    · have hk : (L s).take k = L s := List.take_of_length_le (by rw [size_L]; omega)
      rw [hk] at hsn
      have ho0 := OwnB.made w
      have hb0 : Below w.heap.size w (w.alloc (.cells #[] 5)) := (Below.refl _ _).alloc (Nat.le_refl _) _
      rcases hsn with ⟨h1, h2, h3⟩ | ⟨a, b, h1, h2, hab, hb, hf, hg⟩
      · subst h1
        subst h2
        have hfin : B (stripL (L s)) = B [] := by
          unfold stripL
          rw [front_none h3]
          rfl
        have hmx : ∀ ts t w, (Builtin.max_ ts t #[.int .i64 0, .int .i64 (-1)]).run Try.prog w = .ok (.int .i64 0) w := fun ts t w => by rw [run_max_int2]; rfl
        have HF := Lib.hid hfin; clear hfin hk h3
        go_wp2
        go_loopw [6, 7] (fun v i wr => i = .int .i64 0 ∧ OwnB w.heap.size wr v [] ∧ Below w.heap.size w wr) (fun _ _ _ => 0)
        case atStart => exact ⟨rfl, ho0, hb0⟩
        case round =>
          clear ho0 hb0 hmx
          obtain ⟨rfl, hown, hbel⟩ := hrel
          have hcv := hown.string
          clear hown
          go_wp2
          go_ret
          exact ⟨ret_str (by rw [HF.out]), hbel⟩
      · subst h1
        subst h2
        have hfin : stripL (L s) = kept (((L s).drop a).take (b + 1 - a)) := by
          unfold stripL
          rw [seen_core hb hab hf hg]
        have hbs : b < s.size := by rw [size_L] at hb; exact hb
        have hmx : ∀ ts t w, (Builtin.max_ ts t #[.int .i64 0, .int .i64 (a : Int)]).run Try.prog w = .ok (.int .i64 a) w := fun ts t w => by
          rw [run_max_int2]
          congr 2
          split <;> omega
        have HF := Lib.hid hfin; clear hfin hk hf hg hb
        go_wp2
        go_loopw [6, 7] (fun v i wr => ∃ (j : Nat), i = .int .i64 j ∧ a ≤ j ∧ j ≤ b + 1 ∧ OwnB w.heap.size wr v (kept (((L s).drop a).take (j - a))) ∧ Below w.heap.size w wr) (fun _ i _ => b + 1 - (intOf i).toNat)
        case atStart => exact ⟨a, rfl, Nat.le_refl _, by omega, by rw [Nat.sub_self, List.take_zero]; exact ho0, hb0⟩
        case round =>
          clear ho0 hb0 hmx
          obtain ⟨j, rfl, hkj, hjm, hown, hbel⟩ := hrel
          have hN := hbel.size
          by_cases hq : j ≤ b
          · have hjs : j < s.size := by omega
            have hnext := piece_next s a j hkj hjs
            have hlen : (kept (((L s).drop a).take (j - a))).length + 1 ≤ 140737488355328 := by
              have := kept_len (((L s).drop a).take (j - a))
              rw [List.length_take] at this
              omega
            have e9 : ((s[j].toNat : Int) != 9) = !(s[j] == 9) := by rw [← u8_eq]; rfl
            have e10 : ((s[j].toNat : Int) != 10) = !(s[j] == 10) := by rw [← u8_eq]; rfl
            have e13 : ((s[j].toNat : Int) != 13) = !(s[j] == 13) := by rw [← u8_eq]; rfl
            have hkn : kept (((L s).drop a).take (j + 1 - a)) = kept (((L s).drop a).take (j - a)) ++ kept [s[j]] := by rw [hnext, kept_append]
            have HO := Lib.hid hown; have HB := Lib.hid hbel
            clear hown hbel hnext
            cases hin : inn s[j] with
            | true =>
              rw [kept_yes hin, List.append_nil] at hkn
              have HK := Lib.hid hkn; clear hkn
              unfold inn at hin
              cases h9 : s[j] == 9 with
              | true =>
                rw [h9] at e9
                clear h9 hin e10 e13
                go_wp2
                go_roundw
                case rel => exact ⟨j + 1, by go_num, by omega, by omega, by rw [HK.out]; exact HO.out, HB.out⟩
                case measure => simp [intOf]; omega
              | false =>
              cases h10 : s[j] == 10 with
              | true =>
                rw [h9] at e9
                rw [h10] at e10
                clear h9 h10 hin e13
                go_wp2
                go_roundw
                case rel => exact ⟨j + 1, by go_num, by omega, by omega, by rw [HK.out]; exact HO.out, HB.out⟩
                case measure => simp [intOf]; omega
              | false =>
                have h13 : s[j] == 13 := by rw [h9, h10] at hin; simpa using hin
                rw [h9] at e9
                rw [h10] at e10
                rw [h13] at e13
                clear h9 h10 hin h13
                go_wp2
                go_roundw
                case rel => exact ⟨j + 1, by go_num, by omega, by omega, by rw [HK.out]; exact HO.out, HB.out⟩
                case measure => simp [intOf]; omega
            | false =>
              rw [kept_no hin] at hkn
              have HK := Lib.hid hkn; clear hkn
              unfold inn at hin
              simp only [Bool.or_eq_false_iff] at hin
              rw [hin.1.1] at e9
              rw [hin.1.2] at e10
              rw [hin.2] at e13
              clear hin
              go_wp2_with (at_builtin; refine app_byte wr rfl (.tmp 46) (.tmp 50) rfl w.heap.size _ (kept (((L s).drop a).take (j - a))) s[j] rfl HO.out rfl hlen hN ?_; intro v2 w2 hown2 hk2)
              go_roundw
              case rel => exact ⟨j + 1, by go_num, by omega, by omega, by rw [HK.out]; exact hown2, hk2 _ HB.out⟩
              case measure => simp [intOf]; omega
          · obtain rfl : j = b + 1 := by omega
            have hcv := hown.string
            have HB := Lib.hid hbel
            clear hown hbel
            go_wp2
            go_ret
            exact ⟨ret_str (by rw [HF.out]), HB.out⟩

theorem refLetter1 (c : UInt8) (w : World) (q : Bool) (h : lr c = q) : Calls Try.prog 29 #[.int .u8 c.toNat] w fun e w' => e = .returned (.bool q) ∧ w = w' := by
  have k := refLetter_any c w
  rw [h] at k
  exact k

set_option maxHeartbeats 8000000 in
theorem refColon_any (s : ByteArray) (w : World) (hs : s.size ≤ 140737488355328) (o : Option Nat) (ho : colonL (L s) = o) :
    Calls Try.prog 22 #[.string s] w fun e w' => e = .returned (.int .i64 ((o.map fun k => (k : Int)).getD (-1))) ∧ w = w' := by
  have HO := Lib.hid ho; clear ho
  go_enter Try.func22, Try.ntmps22
  go_wp2
  go_loop [3] (fun i => ∃ k : Nat, i = .int .i64 k ∧ k ≤ s.size ∧ Lk.upTo (L s) k) (fun i => s.size - (intOf i).toNat)
  case atStart => exact ⟨0, rfl, Nat.zero_le _, upTo_zero _⟩
  case round =>
    obtain ⟨k, rfl, hks, hu⟩ := hrel
    by_cases hp : k < s.size
    · have hpl : k < (L s).length := by rw [size_L]; exact hp
      have hg : (L s)[k] = s[k] := rfl
      have e58 : ((s[k].toNat : Int) == 58) = (s[k] == 58) := u8_eq (b := 58)
      have e43 : ((s[k].toNat : Int) != 43) = !(s[k] == 43) := by rw [← u8_eq]; rfl
      have e45 : ((s[k].toNat : Int) != 45) = !(s[k] == 45) := by rw [← u8_eq]; rfl
      have e46 : ((s[k].toNat : Int) != 46) = !(s[k] == 46) := by rw [← u8_eq]; rfl
      have hno : ∀ d : Bool, ((k : Int) == 0) = d → d = decide (k = 0) := fun d h => by rw [← h, Bool.eq_iff_iff]; simp
      cases h58 : s[k] == 58 with
      | true =>
        have hc : s[k] = 58 := by simpa using h58
        have hst := upTo_stop hu hpl (by rw [hg, hc]; exact sch_58 _)
        rw [h58] at e58
        by_cases h0 : 0 < k
        · have ho := colon_stop hst h0 hpl (by rw [hg]; exact hc)
          rw [HO.out] at ho
          subst ho
          have h0' : (0 : Int) < (k : Int) := by omega
          clear hst hu hc h58 hno hg e43 e45 e46
          go_wp2
          go_ret
          exact ⟨rfl, rfl⟩
        · have ho := colon_not hst (.inl (by omega))
          rw [HO.out] at ho
          subst ho
          obtain rfl : k = 0 := by omega
          have hl : lr s[0] = false := by rw [hc]; rfl
          have HL := Lib.hid hl
          clear hst hu hc h58 hno hg hl
          go_wp2_with fail
          refine (refLetter1 s[0] _ _ HL.out).mono ?_
          rintro e w' ⟨rfl, rfl⟩
          go_wp2
          go_ret
          exact ⟨rfl, rfl⟩
      | false =>
        rw [h58] at e58
        have hc : s[k] ≠ 58 := by simpa using h58
        cases hl : lr s[k] with
        | true =>
          have hn := upTo_next hu hpl (by rw [hg]; unfold sch; rw [hl]; rfl)
          have HN := Lib.hid hn; have HL := Lib.hid hl
          clear hu hn hl hc h58 hno hg e43 e45 e46
          go_wp2_with fail
          refine (refLetter1 s[k] _ _ HL.out).mono ?_
          rintro e w' ⟨rfl, rfl⟩
          go_wp2
          go_round
          case rel => exact ⟨k + 1, by go_num, by omega, HN.out⟩
          case measure => simp [intOf]; omega
        | false =>
          have HL := Lib.hid hl
          by_cases h0 : k = 0
          · have hst := upTo_stop hu hpl (by rw [hg]; unfold sch; rw [hl, decide_eq_false (by omega)]; rfl)
            have ho := colon_not hst (.inl h0)
            rw [HO.out] at ho
            subst ho
            subst h0
            clear hst hu hc h58 hno hg hl e43 e45 e46
            go_wp2_with fail
            refine (refLetter1 s[0] _ _ HL.out).mono ?_
            rintro e w' ⟨rfl, rfl⟩
            go_wp2
            go_ret
            exact ⟨rfl, rfl⟩
          · have e0 : ((k : Int) == 0) = false := by rw [hno _ rfl]; exact decide_eq_false h0
            have hoth : sch (decide (0 < k)) (L s)[k] = oth s[k] := by rw [hg]; unfold sch; rw [hl, decide_eq_true (by omega)]; rfl
            rw [oth_of] at hoth
            have hyes : sch (decide (0 < k)) (L s)[k] = true → Lk.upTo (L s) (k + 1) := fun h => upTo_next hu hpl h
            have hnot : sch (decide (0 < k)) (L s)[k] = false → o = none := fun h => by
              rw [← HO.out]
              exact colon_not (upTo_stop hu hpl h) (.inr (.inr ⟨hpl, by rw [hg]; exact hc⟩))
            have HY := Lib.hid hyes; have HN := Lib.hid hnot; have HT := Lib.hid hoth
            clear hyes hnot hoth hu hc h58 hno hg hl h0
            by_cases h48 : (48 : Int) ≤ s[k].toNat <;> by_cases h57 : (s[k].toNat : Int) ≤ 57 <;> cases h43 : (s[k] == 43) <;> cases h45 : (s[k] == 45) <;> cases h46 : (s[k] == 46)
            all_goals
              rw [h43] at e43
              rw [h45] at e45
              rw [h46] at e46
              have hres := HT.out
              rw [h43, h45, h46] at hres
              simp [h48, h57] at hres
              have HR := Lib.hid hres
              clear hres h43 h45 h46
              go_wp2_with fail
              refine (refLetter1 s[k] _ _ HL.out).mono ?_
              rintro e w' ⟨rfl, rfl⟩
              go_wp2
              all_goals first
                | (exfalso; have hx : (!decide ((s[k].toNat : Int) ≤ 57)) = false := by assumption
                   simp at hx; omega)
                | (go_ret
                   exact ⟨by rw [HN.out HR.out]; rfl, rfl⟩)
                | (go_round
                   case rel => exact ⟨k + 1, by go_num, by omega, HY.out HR.out⟩
                   case measure => simp [intOf]; omega)
    · have ho := colon_not (upTo_end hu (by rw [size_L]; omega)) (.inr (.inl (by rw [size_L]; omega)))
      rw [HO.out] at ho
      subst ho
      clear hu
      go_wp2
      go_ret
      exact ⟨rfl, rfl⟩

def colonI (o : Option Nat) : Int := (o.map fun k => (k : Int)).getD (-1)
theorem refColon1 (s : ByteArray) (w : World) (hs : s.size ≤ 140737488355328) (o : Option Nat) (ho : colonL (L s) = o) (i : Int) (hi : colonI o = i) :
    Calls Try.prog 22 #[.string s] w fun e w' => e = .returned (.int .i64 i) ∧ w = w' := by
  have k := refColon_any s w hs o ho
  rw [← hi]
  exact k

set_option maxHeartbeats 2000000 in
theorem refScheme_any (s : ByteArray) (w : World) (hs : s.size ≤ 140737488355328) :
    Calls Try.prog 12 #[.string s] w fun e w' => e = .returned (schemeV (schemeO (L s))) ∧ Below w.heap.size w w' := by
  obtain ⟨t, ht⟩ : ∃ t, B (stripL (L s)) = t := ⟨_, rfl⟩
  have hL : L t = stripL (L s) := by rw [← ht, L_B]
  have hts : t.size ≤ 140737488355328 := by rw [← size_L, hL]; exact Nat.le_trans (strip_len _) (by rw [size_L]; exact hs)
  obtain ⟨o, ho⟩ : ∃ o, colonL (L t) = o := ⟨_, rfl⟩
  have hans : schemeO (L s) = o.map fun k => lowL ((L t).take k) := by unfold schemeO; rw [← hL, ho]
  have HA := Lib.hid hans; have HO := Lib.hid ho; have HT := Lib.hid ht
  have hlt : ∀ k, o = some k → k < t.size := fun k h => by
    have := (colon_lt (ho.trans h)).2.1
    rw [size_L] at this
    exact this
  have HLT := Lib.hid hlt
  clear hans ho hL ht hlt
  go_enter Try.func12, Try.ntmps12
  go_wp2_with fail
  refine (refStrip_any s w hs).mono ?_
  rw [HT.out]
  rintro e w1 ⟨rfl, hb1⟩
  have HB1 := Lib.hid hb1; clear hb1
  cases o with
  | none =>
    go_wp2_with fail
    refine (refColon1 t w1 hts none HO.out (-1) rfl).mono ?_
    rintro e w2 ⟨rfl, rfl⟩
    go_wp2
    go_ret2
    exact ⟨by rw [HA.out]; rfl, HB1.out⟩
  | some k =>
    have hk := HLT.out k rfl
    have hxs : (t.extract 0 k).size ≤ 140737488355328 := Nat.le_trans (size_extract _ _ _) hts
    have hLx : lowL (L (t.extract 0 k)) = lowL ((L t).take k) := by rw [L_extract, List.drop_zero, Nat.sub_zero]
    have HX := Lib.hid hLx; clear hLx
    go_wp2_with fail
    refine (refColon1 t w1 hts (some k) HO.out k rfl).mono ?_
    rintro e w2 ⟨rfl, rfl⟩
    go_wp2_with fail
    refine (refLower_any (t.extract 0 k) w1 hxs).mono ?_
    rintro e w2 ⟨rfl, hb2⟩
    go_wp2
    go_ret2
    exact ⟨by rw [HA.out, HX.out]; rfl, bt HB1.out hb2⟩

set_option maxHeartbeats 2000000 in
theorem refSource_any (s : ByteArray) (w : World) (hs : s.size ≤ 140737488355328) :
    Calls Try.prog 17 #[.string s] w fun e w' => e = .returned (.tuple #[.string (B (sourceL (L s))), .bool (scriptL (L s))]) ∧ Below w.heap.size w w' := by
  obtain ⟨x, hx⟩ : ∃ x, B (schemeL (L s)) = x := ⟨_, rfl⟩
  have hv : schemeV (schemeO (L s)) = .tuple #[.string x, .bool (hasL (L s))] := by rw [← hx]; rfl
  have hj := js_list (L s)
  rw [hx] at hj
  obtain ⟨t, ht⟩ : ∃ t, B (stripL (L s)) = t := ⟨_, rfl⟩
  have hL : L t = stripL (L s) := by rw [← ht, L_B]
  have hts : t.size ≤ 140737488355328 := by rw [← size_L, hL]; exact Nat.le_trans (strip_len _) (by rw [size_L]; exact hs)
  obtain ⟨o, ho⟩ : ∃ o, colonL (L t) = o := ⟨_, rfl⟩
  have hans : schemeO (L s) = o.map fun k => lowL ((L t).take k) := by unfold schemeO; rw [← hL, ho]
  obtain ⟨q, hq⟩ : ∃ q, scriptL (L s) = q := ⟨_, rfl⟩
  have hsrc : sourceL (L s) = if q = true then pct ((L t).drop (o.getD 0 + 1)) else [] := by
    unfold sourceL
    rw [← hL, ho, ← hq]
    unfold scriptL
    by_cases h : schemeL (L s) = js
    · rw [if_pos h, if_pos (decide_eq_true h)]
    · rw [if_neg h, if_neg (by rw [decide_eq_false h]; exact Bool.false_ne_true)]
  have hsome : q = true → ∃ k, o = some k ∧ k < t.size := fun e => by
    cases ho' : o with
    | none =>
      rw [e] at hq
      have h1 : schemeL (L s) = js := of_decide_eq_true hq
      unfold schemeL at h1
      rw [hans, ho'] at h1
      cases h1
    | some k =>
      have := (colon_lt (ho.trans ho')).2.1
      rw [size_L] at this
      exact ⟨k, rfl, this⟩
  have HO := Lib.hid ho; have HT := Lib.hid ht; have HS := Lib.hid hsrc; have HSM := Lib.hid hsome; have HV := Lib.hid hv
  rw [hq] at hj
  have HJ := Lib.hid hj
  rw [hq]
  clear hans ho hL ht hsrc hq hsome hv hx hj
  go_enter Try.func17, Try.ntmps17
  go_wp2_with fail
  refine (refScheme_any s w hs).mono ?_
  rw [HV.out]
  rintro e w1 ⟨rfl, hb1⟩
  have HB1 := Lib.hid hb1; clear hb1
  have hjx := HJ.out
  cases q with
  | false =>
    go_wp2
    go_ret2
    exact ⟨by rw [HS.out]; rfl, HB1.out⟩
  | true =>
    obtain ⟨k, rfl, hk⟩ := HSM.out rfl
    have hdr : pct ((L t).drop (k + 1)) = pct (L (t.extract (k + 1) t.size)) := by rw [L_end]
    have hrs : (t.extract (k + 1) t.size).size ≤ 140737488355328 := Nat.le_trans (size_extract _ _ _) hts
    have HD := Lib.hid hdr
    clear hdr
    go_wp2_with fail
    refine (refStrip_any s w1 hs).mono ?_
    rw [HT.out]
    rintro e w2 ⟨rfl, hb2⟩
    have HB2 := Lib.hid hb2; clear hb2
    go_wp2_with fail
    refine (refColon1 t w2 hts (some k) HO.out k rfl).mono ?_
    rintro e w3 ⟨rfl, rfl⟩
    go_wp2_with fail
    refine (refPercent_any (t.extract (k + 1) t.size) w2 hrs).mono ?_
    rintro e w3 ⟨rfl, hb3⟩
    go_wp2
    go_ret2
    exact ⟨by rw [HS.out, if_pos trivial, ← HD.out]; rfl, bt HB1.out (bt HB2.out hb3)⟩

end Go.Proofs.Ytchholpiikeakaa.Lk
