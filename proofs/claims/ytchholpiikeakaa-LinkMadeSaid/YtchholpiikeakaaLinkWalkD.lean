/-
  Walks of stage 9: link.divided (with its closure), Scheme, Script.
-/
import Derived.Test.YtchholpiikeakaaLinkWalkC
import Derived.Test.YtchholpiikeakaaLinkWalkB
import Derived.Deep.QuietTactic
import Derived.BigQuiet
import Derived.Deep.RegionHeld3
import Derived.IntWalk
namespace Go.Proofs.Ytchholpiikeakaa.Lk
set_option maxRecDepth 100000
set_option linter.unusedSimpArgs false
set_option linter.unusedVariables false
open Go.RowKit Ba Fm Fo

theorem oth_of (c : UInt8) : oth c = ((decide ((48 : Int) ≤ c.toNat) && decide ((c.toNat : Int) ≤ 57)) || (c == 43) || (c == 45) || (c == 46)) := by
  unfold oth
  congr 3
  rw [Bool.eq_iff_iff]
  simp only [Bool.and_eq_true, decide_eq_true_eq, UInt8.le_iff_toNat_le]
  have e48 : (48 : UInt8).toNat = 48 := rfl
  have e57 : (57 : UInt8).toNat = 57 := rfl
  rw [e48, e57]
  omega
theorem letter1 (c : UInt8) (w : World) (q : Bool) (h : lr c = q) : Calls Try.prog 27 #[.int .u8 c.toNat] w fun e w' => e = .returned (.bool q) ∧ w = w' := by
  have k := letter_any c w
  rw [h] at k
  exact k

set_option maxHeartbeats 2000000 in
/-- The closure: may the byte at k stand in a scheme there? -/
theorem stands_any (p k : Nat) (s : ByteArray) (w : World) (hk : k < s.size) (hs : s.size ≤ 140737488355328) (hc : w.cell? ⟨p, 0, none⟩ = some (.string s)) (q : Bool) (hq : sch (decide (0 < k)) s[k] = q) :
    Calls Try.prog 26 #[.int .i64 k, .pointer (some ⟨p, 0, none⟩)] w fun e w' => e = .returned (.bool q) ∧ w = w' := by
  have e43 : ((s[k].toNat : Int) == 43) = (s[k] == 43) := u8_eq (b := 43)
  have e45 : ((s[k].toNat : Int) == 45) = (s[k] == 45) := u8_eq (b := 45)
  have e46 : ((s[k].toNat : Int) == 46) = (s[k] == 46) := u8_eq (b := 46)
  unfold sch at hq
  rw [oth_of] at hq
  obtain ⟨l0, hl0⟩ : ∃ l0, lr s[k] = l0 := ⟨_, rfl⟩
  obtain ⟨p0, hp0⟩ : ∃ p0, decide (0 < k) = p0 := ⟨_, rfl⟩
  rw [hl0, hp0] at hq
  have HL := Lib.hid hl0; clear hl0
  cases l0 with
  | true =>
    have HQ := Lib.hid hq; clear hq hp0 e43 e45 e46
    go_enter Try.func26, Try.ntmps26
    go_wp2_with fail
    refine (letter1 s[k] _ _ HL.out).mono ?_
    rintro e w' ⟨rfl, rfl⟩
    go_wp2
    go_ret
    exact ⟨ret_bool (by rw [← HQ.out]; rfl), rfl⟩
  | false =>
    by_cases h48 : (48 : Int) ≤ s[k].toNat <;> by_cases h57 : (s[k].toNat : Int) ≤ 57 <;> cases h43 : (s[k] == 43) <;> cases h45 : (s[k] == 45) <;> cases h46 : (s[k] == 46)
    all_goals
      rw [h43] at e43 hq
      rw [h45] at e45 hq
      rw [h46] at e46 hq
      have hq' : (false || (p0 && ((decide ((48 : Int) ≤ s[k].toNat) && decide ((s[k].toNat : Int) ≤ 57)) || _ || _ || _))) = q := hq
      have HQ := Lib.hid hq'; have H48 := Lib.hid h48; have H57 := Lib.hid h57; have HP0 := Lib.hid hp0
      clear hq hq' h43 h45 h46 hp0
      go_enter Try.func26, Try.ntmps26
      go_wp2_with fail
      refine (letter1 s[k] _ _ HL.out).mono ?_
      rintro e w' ⟨rfl, rfl⟩
      go_wp2
      all_goals go_ret
      all_goals exact ⟨ret_bool (by rw [← HQ.out]; simp [H48.out, H57.out, HP0.out]), rfl⟩

/-- What divided answers. -/
def divV (s : ByteArray) : Option Nat → Value
  | none => .tuple #[.string ⟨#[]⟩, .string ⟨#[]⟩, .bool false]
  | some k => .tuple #[.string (B (lowL ((L s).take k))), .string (s.extract (k + 1) s.size), .bool true]

set_option maxHeartbeats 4000000 in
theorem divided1 (s : ByteArray) (w : World) (hs : s.size ≤ 140737488355328) (o : Option Nat) (ho : colonL (L s) = o) :
    Calls Try.prog 21 #[.string s] w fun e w' => e = .returned (divV s o) ∧ Below w.heap.size w w' := by
  have hmf : ∀ (fn : Fn) (first cap : Array Value) (w : World), (Instr.makeFunc fn first cap).run Try.prog w = .ok (.func fn first cap) w := fun _ _ _ _ => rfl
  obtain ⟨w0, hw0⟩ : ∃ w0, w.alloc (.cells #[.string s] 9) = w0 := ⟨_, rfl⟩
  have hb0 : Below w.heap.size w w0 := by rw [← hw0]; exact (Below.refl _ _).alloc (Nat.le_refl _) _
  have hc0 : w0.cell? ⟨w.heap.size, 0, none⟩ = some (.string s) := by
    rw [← hw0, World.cell?_alloc_at _ _ _ _ (by simp)]; rfl
  have HW := Lib.hid hw0; clear hw0
  have HO := Lib.hid ho; clear ho
  go_enter Try.func21, Try.ntmps21
  go_upto_block 0 with fail
  rw [HW.out]
  go_cut [6] from 8 to 18 (fun sl wx => ∃ k : Nat, sl = .int .i64 k ∧ k ≤ s.size ∧ (st false (L s)).length = k ∧ wx = w0)
  case first =>
    go_wp2
    go_loop [6] (fun i => ∃ k : Nat, i = .int .i64 k ∧ k ≤ s.size ∧ Lk.upTo (L s) k) (fun i => s.size - (intOf i).toNat)
    case atStart => exact ⟨0, rfl, Nat.zero_le _, upTo_zero _⟩
    case round =>
      obtain ⟨k, rfl, hks, hu⟩ := hrel
      by_cases hp : k < s.size
      · have hpl : k < (L s).length := by rw [size_L]; exact hp
        have hg : (L s)[k] = s[k] := rfl
        cases hq : sch (decide (0 < k)) s[k] with
        | true =>
          have HN := Lib.hid (upTo_next hu hpl (by rw [hg]; exact hq)); have HQ := Lib.hid hq; clear hu hq hg
          go_wp2_with fail
          refine (stands_any w.heap.size k s w0 hp hs hc0 true HQ.out).mono ?_
          rintro e w' ⟨rfl, rfl⟩
          go_wp2
          go_round
          case rel => exact ⟨k + 1, by go_num, by omega, HN.out⟩
          case measure => simp [intOf]; omega
        | false =>
          have HN := Lib.hid (upTo_stop hu hpl (by rw [hg]; exact hq)); have HQ := Lib.hid hq; clear hu hq hg
          go_wp2_with fail
          refine (stands_any w.heap.size k s w0 hp hs hc0 false HQ.out).mono ?_
          rintro e w' ⟨rfl, rfl⟩
          go_wp2
          go_meet
          exact ⟨k, rfl, hks, HN.out, rfl⟩
      · have HN := Lib.hid (upTo_end hu (by rw [size_L]; omega)); clear hu
        go_wp2
        go_meet
        exact ⟨k, rfl, hks, HN.out, rfl⟩
  case rest =>
  obtain ⟨k, rfl, hk, hf, hwx⟩ := hcut
  have hwx := hwx.symm
  subst hwx
  have HF := Lib.hid hf; clear hf hmf
  have hno : ∀ d : Bool, ((k : Int) == 0) = d → d = decide (k = 0) := fun d h => by rw [← h, Bool.eq_iff_iff]; simp
  have hne : ∀ d : Bool, ((k : Int) == (s.size : Int)) = d → d = decide (k = s.size) := fun d h => by rw [← h, Bool.eq_iff_iff]; simp; omega
  by_cases h0 : k = 0
  · have ho := colon_not HF.out (.inl h0)
    rw [HO.out] at ho
    subst ho
    subst h0
    clear hno hne
    go_wp2
    go_ret3
    exact ⟨rfl, hb0⟩
  · have e0 : ((k : Int) == 0) = false := by rw [hno _ rfl]; exact decide_eq_false h0
    by_cases hks : k = s.size
    · have e1 : ((k : Int) == (s.size : Int)) = true := by rw [hne _ rfl]; exact decide_eq_true hks
      have ho := colon_not HF.out (.inr (.inl (by rw [size_L]; exact hks)))
      rw [HO.out] at ho
      subst ho
      clear hno hne hks h0
      go_wp2
      go_ret3
      exact ⟨rfl, hb0⟩
    · have e1 : ((k : Int) == (s.size : Int)) = false := by rw [hne _ rfl]; exact decide_eq_false hks
      have hp : k < s.size := by omega
      have e58 : ((s[k].toNat : Int) != 58) = !(s[k] == 58) := by rw [← u8_eq]; rfl
      cases h58 : s[k] == 58 with
      | false =>
        rw [h58] at e58
        have ho := colon_not HF.out (.inr (.inr ⟨by rw [size_L]; exact hp, by show s[k] ≠ 58; simpa using h58⟩))
        rw [HO.out] at ho
        subst ho
        clear h58 hno hne hks h0
        go_wp2
        go_ret3
        exact ⟨rfl, hb0⟩
      | true =>
        rw [h58] at e58
        have ho := colon_stop HF.out (by omega) (by rw [size_L]; exact hp) (by show s[k] = 58; simpa using h58)
        rw [HO.out] at ho
        subst ho
        have y1 : IntKind.i64.wrap ((k : Int) + 1) = (k : Int) + 1 := IntWalk.i64_in _ (by omega)
        have z1 : ((k : Int) + 1).toNat = k + 1 := by omega
        have m1 : (0 : Int) ≤ (k : Int) + 1 := by omega
        have m2 : (k : Int) + 1 ≤ s.size := by omega
        have m3 : (0 : Int) ≤ (k : Int) := by omega
        have m4 : (k : Int) ≤ s.size := by omega
        have hxs : (s.extract 0 k).size ≤ 140737488355328 := Nat.le_trans (size_extract _ _ _) hs
        have hLx : lowL (L (s.extract 0 k)) = lowL ((L s).take k) := by rw [L_extract, List.drop_zero, Nat.sub_zero]
        have HX := Lib.hid hLx
        have hlt : w.heap.size < w0.heap.size := by rw [← HW.out]; simp
        have HC0 := Lib.hid hc0; have HB0 := Lib.hid hb0
        clear h58 hno hne hks h0 hLx hb0
        go_wp2
        go_region_held3 (fun w' => w'.cell? ⟨w.heap.size, 0, none⟩ = some (.string s)) (first | exact c2 | exact HC0.out | go_keep) (first
          | (go_at_call 28; refine (lower_any (s.extract 0 k) _ hxs).mono ?_; rintro e w2 ⟨rfl, b2⟩; have c2 := (b2.cell (p := ⟨w.heap.size, 0, none⟩) hlt).trans HC0.out; have HB2 := Lib.hid b2; clear b2))
        all_goals go_wp2
        all_goals go_ret3
        all_goals exact ⟨by rw [HX.out]; rfl, bt HB0.out (by first | exact HB2.out | exact ⟨HB2.out.os, HB2.out.tape, HB2.out.output, HB2.out.size, HB2.out.block⟩)⟩

/-- What Scheme answers. -/
def schemeV (o : Option (List UInt8)) : Value := .tuple #[.string (B (o.getD [])), .bool o.isSome]
theorem B_nil : B [] = ⟨#[]⟩ := rfl
set_option maxHeartbeats 2000000 in
theorem scheme_any (s : ByteArray) (w : World) (hs : s.size ≤ 140737488355328) :
    Calls Try.prog 11 #[.string s] w fun e w' => e = .returned (schemeV (schemeO (L s))) ∧ Below w.heap.size w w' := by
  obtain ⟨t, ht⟩ : ∃ t, B (stripL (L s)) = t := ⟨_, rfl⟩
  have hL : L t = stripL (L s) := by rw [← ht, L_B]
  have hts : t.size ≤ 140737488355328 := by rw [← size_L, hL]; exact Nat.le_trans (strip_len _) (by rw [size_L]; exact hs)
  obtain ⟨o, ho⟩ : ∃ o, colonL (L t) = o := ⟨_, rfl⟩
  have hans : schemeO (L s) = o.map fun k => lowL ((L t).take k) := by unfold schemeO; rw [← hL, ho]
  have HA := Lib.hid hans; have HO := Lib.hid ho; have HT := Lib.hid ht
  clear hans ho hL ht
  go_enter Try.func11, Try.ntmps11
  go_wp2_with fail
  refine (strip_any s w hs).mono ?_
  rw [HT.out]
  rintro e w1 ⟨rfl, hb1⟩
  have HB1 := Lib.hid hb1; clear hb1
  go_wp2_with fail
  refine (divided1 t w1 hts o HO.out).mono ?_
  rintro e w2 ⟨rfl, hb2⟩
  have HB2 := Lib.hid hb2; clear hb2
  cases o with
  | none =>
    unfold divV
    go_wp2
    go_ret2
    exact ⟨by rw [HA.out]; rfl, bt HB1.out HB2.out⟩
  | some k =>
    unfold divV
    go_wp2
    go_ret2
    exact ⟨by rw [HA.out]; rfl, bt HB1.out HB2.out⟩

theorem js_list (l : List UInt8) : ((B (schemeL l)).toList == [106, 97, 118, 97, 115, 99, 114, 105, 112, 116]) = scriptL l := by
  rw [toList_B]
  unfold scriptL
  rw [Bool.eq_iff_iff, beq_iff_eq, decide_eq_true_eq]
  rfl
set_option maxHeartbeats 2000000 in
theorem script_any (s : ByteArray) (w : World) (hs : s.size ≤ 140737488355328) :
    Calls Try.prog 18 #[.string s] w fun e w' => e = .returned (.bool (scriptL (L s))) ∧ Below w.heap.size w w' := by
  obtain ⟨x, hx⟩ : ∃ x, B (schemeL (L s)) = x := ⟨_, rfl⟩
  have hv : schemeV (schemeO (L s)) = .tuple #[.string x, .bool (hasL (L s))] := by rw [← hx]; rfl
  have hj := js_list (L s)
  rw [hx] at hj
  have HJ := Lib.hid hj; have HV := Lib.hid hv
  clear hj hx hv
  go_enter Try.func18, Try.ntmps18
  go_wp2_with fail
  refine (scheme_any s w hs).mono ?_
  rw [HV.out]
  rintro e w1 ⟨rfl, hb1⟩
  go_wp2
  go_ret
  exact ⟨ret_bool (by rw [← HJ.out]), hb1⟩
set_option maxHeartbeats 2000000 in
theorem source_any (s : ByteArray) (w : World) (hs : s.size ≤ 140737488355328) :
    Calls Try.prog 16 #[.string s] w fun e w' => e = .returned (.tuple #[.string (B (sourceL (L s))), .bool (scriptL (L s))]) ∧ Below w.heap.size w w' := by
  obtain ⟨t, ht⟩ : ∃ t, B (stripL (L s)) = t := ⟨_, rfl⟩
  have hL : L t = stripL (L s) := by rw [← ht, L_B]
  have hts : t.size ≤ 140737488355328 := by rw [← size_L, hL]; exact Nat.le_trans (strip_len _) (by rw [size_L]; exact hs)
  obtain ⟨o, ho⟩ : ∃ o, colonL (L t) = o := ⟨_, rfl⟩
  have hans : schemeO (L s) = o.map fun k => lowL ((L t).take k) := by unfold schemeO; rw [← hL, ho]
  obtain ⟨q, hq⟩ : ∃ q, scriptL (L s) = q := ⟨_, rfl⟩
  have hsrc : sourceL (L s) = if q = true then pct ((L t).drop (o.getD 0 + 1)) else [] := by
    unfold sourceL
    rw [← hL, ho, ← hq]
    unfold scriptL
    by_cases h : schemeL (L s) = js
    · rw [if_pos h, if_pos (decide_eq_true h)]
    · rw [if_neg h, if_neg (by rw [decide_eq_false h]; exact Bool.false_ne_true)]
  have hjl := js_list (L s)
  have hsl : schemeL (L s) = (o.map fun k => lowL ((L t).take k)).getD [] := by unfold schemeL; rw [hans]
  rw [hsl, hq] at hjl
  have HO := Lib.hid ho; have HT := Lib.hid ht; have HS := Lib.hid hsrc
  rw [hq]
  clear hans ho hL ht hsrc hsl hq
  cases o with
  | none =>
    have hq0 : q = false := by rw [← hjl, toList_B]; rfl
    subst hq0
    clear hjl
    go_enter Try.func16, Try.ntmps16
    go_wp2_with fail
    refine (strip_any s w hs).mono ?_
    rw [HT.out]
    rintro e w1 ⟨rfl, hb1⟩
    have HB1 := Lib.hid hb1; clear hb1
    go_wp2_with fail
    refine (divided1 t w1 hts none HO.out).mono ?_
    rintro e w2 ⟨rfl, hb2⟩
    have HB2 := Lib.hid hb2; clear hb2
    unfold divV
    go_wp2
    go_ret2
    exact ⟨by rw [HS.out]; rfl, bt HB1.out HB2.out⟩
  | some k =>
    obtain ⟨x, hx⟩ : ∃ x, B (lowL ((L t).take k)) = x := ⟨_, rfl⟩
    have hjx : (x.toList == [106, 97, 118, 97, 115, 99, 114, 105, 112, 116]) = q := by rw [← hx]; exact hjl
    have hdv : divV t (some k) = .tuple #[.string x, .string (t.extract (k + 1) t.size), .bool true] := by rw [← hx]; rfl
    have hdr : pct ((L t).drop (k + 1)) = pct (L (t.extract (k + 1) t.size)) := by rw [L_end]
    have hrs : (t.extract (k + 1) t.size).size ≤ 140737488355328 := Nat.le_trans (size_extract _ _ _) hts
    have HDV := Lib.hid hdv; have HD := Lib.hid hdr; have HJ := Lib.hid hjx
    clear hjl hx hdr hjx hdv
    go_enter Try.func16, Try.ntmps16
    go_wp2_with fail
    refine (strip_any s w hs).mono ?_
    rw [HT.out]
    rintro e w1 ⟨rfl, hb1⟩
    have HB1 := Lib.hid hb1; clear hb1
    go_wp2_with fail
    refine (divided1 t w1 hts (some k) HO.out).mono ?_
    rw [HDV.out]
    rintro e w2 ⟨rfl, hb2⟩
    have HB2 := Lib.hid hb2; clear hb2
    have hjx := HJ.out
    cases q with
    | false =>
      go_wp2
      go_ret2
      exact ⟨by rw [HS.out]; rfl, bt HB1.out HB2.out⟩
    | true =>
      go_wp2_with fail
      refine (percent_any (t.extract (k + 1) t.size) w2 hrs).mono ?_
      rintro e w3 ⟨rfl, hb3⟩
      go_wp2
      go_ret2
      exact ⟨by rw [HS.out, if_pos trivial, ← HD.out]; rfl, bt HB1.out (bt HB2.out hb3)⟩

end Go.Proofs.Ytchholpiikeakaa.Lk
