/-
  Walks of stage 9: link.Strip.
  Walks of stage 9: link.digit, marked; boltingref09.digit.
  Walks of stage 9: link.Percent, boltingref09.Percent.
  Walks of stage 9: link.divided (with its closure), Scheme, Script.
  Walk of stage 9: boltinglaw09.fixed returns true; the contracts of link in the form that the laws use, each answer named.
  Walks of stage 10: Handler, Sink, Element, Attr.
  risk.Element.
  Walks of stage 10: Element, Attr, safeElement, Safe.
  Walks of stage 9's reference: Strip, colon, Scheme, Source.
  Walks of stage 10: the reference's Handler, plain, pair, Nav, Sink, Attr.
  Attributes of the call's own; append of one.
  Walks of stage 13: the attributes that are kept.
  Walks of stage 13: what becomes of a row.
  Stage 13: rows of the call's own whose attributes are its own; blocks of a type; an array of numbers in a block.
-/
import Derived.Test.YtgjlfcamgkeibaaCk03
import Derived.Test.YtgjlfcamgkeibaaCk04
import Derived.Deep.CutBlock
import Derived.Deep.DeepCutAuto
import Derived.Deep.RegionLaw
import Derived.Laws.BitsAllLaws
import Derived.Deep.AppendLies
import Derived.IntWalk
import Derived.RangeFuncRecord
import Derived.Deep.QuietTactic
import Derived.BigQuiet
import Derived.Deep.RegionHeld3
import Derived.Test.YtgjlfcamgkeibaaCk01
import Derived.OwnWalk
import Derived.Test.YtgjlfcamgkeibaaCk02
namespace Go.Proofs.Ytgjlfcamgkeibaa.Lk
set_option maxRecDepth 100000
set_option linter.unusedSimpArgs false
set_option linter.unusedVariables false
open Go.RowKit Ba Fm Fo
theorem edge_of (c : UInt8) : edge c = decide ((c.toNat : Int) ≤ 32) := by
  unfold edge
  rw [Bool.eq_iff_iff, decide_eq_true_eq, decide_eq_true_eq, UInt8.le_iff_toNat_le]
  have e : (32 : UInt8).toNat = 32 := rfl
  rw [e]
  omega
/-- Of a text's piece, cut at the end. -/
theorem piece_cut (s : ByteArray) (k m : Nat) (hk : k < m) (hm : m ≤ s.size) : ((L s).drop k).take (m - k) = ((L s).drop k).take (m - 1 - k) ++ [s[m - 1]'(by omega)] := by
  have e : m - k = (m - 1 - k) + 1 := by omega
  rw [e, List.take_succ_eq_append_getElem (by rw [List.length_drop, size_L]; omega)]
  congr 2
  rw [List.getElem_drop]
  have : k + (m - 1 - k) = m - 1 := by omega
  simp only [this]
  rfl
theorem piece_next (s : ByteArray) (k j : Nat) (hk : k ≤ j) (hj : j < s.size) : ((L s).drop k).take (j + 1 - k) = ((L s).drop k).take (j - k) ++ [s[j]] := by
  have h := piece_cut s k (j + 1) (by omega) (by omega)
  have e : j + 1 - 1 = j := by omega
  simp only [e] at h
  exact h

set_option maxHeartbeats 4000000 in
theorem strip_any (s : ByteArray) (w : World) (hs : s.size ≤ 140737488355328) :
    Calls Try.prog 116 #[.string s] w fun e w' => e = .returned (.string (B (stripL (L s)))) ∧ Below w.heap.size w w' := by
  obtain ⟨i0, hi, hz0, hz1, hz2⟩ := info_parts info_u8
  go_enter Try.func116, Try.ntmps116
  go_upto_block 0 with fail
  go_cut [3] from 9 to 19 (fun sl wx => ∃ k : Nat, sl = .int .i64 k ∧ k ≤ s.size ∧ frontL (L s) = (L s).drop k ∧ wx = w)
  case first =>
    go_wp2
    go_loop [3] (fun i => ∃ k : Nat, i = .int .i64 k ∧ k ≤ s.size ∧ frontL ((L s).drop k) = frontL (L s)) (fun i => s.size - (intOf i).toNat)
    case atStart => exact ⟨0, rfl, Nat.zero_le _, by rw [List.drop_zero]⟩
    case round =>
      obtain ⟨k, rfl, hks, hc⟩ := hrel
      by_cases hp : k < s.size
      · have he := edge_of s[k]
        rw [drop_cons s k hp] at hc
        cases hed : edge s[k] with
        | true =>
          rw [front_yes _ hed] at hc
          rw [hed] at he
          have h32 : (s[k].toNat : Int) ≤ 32 := of_decide_eq_true he.symm
          have HC := Lib.hid hc; clear hc hed he
          go_wp2
          go_round
          case rel => exact ⟨k + 1, by go_num, by omega, HC.out⟩
          case measure => simp [intOf]; omega
        | false =>
          rw [front_no _ hed, ← drop_cons s k hp] at hc
          rw [hed] at he
          have h32 : ¬ (s[k].toNat : Int) ≤ 32 := of_decide_eq_false he.symm
          have h33 : 32 < (s[k].toNat : Int) := by omega
          have HC := Lib.hid hc; clear hc hed he h32
          go_wp2
          go_meet
          exact ⟨k, rfl, hks, HC.out.symm, rfl⟩
      · rw [drop_nil s k hp] at hc
        have hk : frontL (L s) = (L s).drop k := by rw [← hc, drop_nil s k hp]; rfl
        have HC := Lib.hid hk; clear hc hk
        go_wp2
        go_meet
        exact ⟨k, rfl, hks, HC.out, rfl⟩
  case rest =>
  obtain ⟨k, rfl, hk, hf, hwx⟩ := hcut
  have hwx := hwx.symm
  subst hwx
  have HF := Lib.hid hf; clear hf
  go_upto_block 2 with fail
  go_cut [4] from 20 to 31 (fun sl wx => ∃ m : Nat, sl = .int .i64 m ∧ k ≤ m ∧ m ≤ s.size ∧ backL (frontL (L s)) = ((L s).drop k).take (m - k) ∧ wx = w)
  case first =>
    go_wp2
    go_loop [4] (fun i => ∃ m : Nat, i = .int .i64 m ∧ k ≤ m ∧ m ≤ s.size ∧ backL (((L s).drop k).take (m - k)) = backL (frontL (L s))) (fun i => (intOf i).toNat)
    case atStart => exact ⟨s.size, rfl, hk, Nat.le_refl _, by rw [List.take_of_length_le (by rw [List.length_drop, size_L]; omega), HF.out]⟩
    case round =>
      obtain ⟨m, rfl, hkm, hms, hd⟩ := hrel
      by_cases hq : k < m
      · have hm1 : 1 ≤ m := by omega
        obtain ⟨j, rfl⟩ : ∃ j, m = j + 1 := ⟨m - 1, by omega⟩
        have hjs : j < s.size := by omega
        have hcut : ((L s).drop k).take (j + 1 - k) = ((L s).drop k).take (j - k) ++ [s[j]] := piece_cut s k (j + 1) hq hms
        have he := edge_of s[j]
        cases hed : edge s[j] with
        | true =>
          rw [hcut, back_yes _ hed] at hd
          rw [hed] at he
          have h32 : (s[j].toNat : Int) ≤ 32 := of_decide_eq_true he.symm
          have HD := Lib.hid hd; clear hd hed he hcut
          go_wp2
          go_round
          case rel => exact ⟨j, by go_num, by omega, by omega, HD.out⟩
          case measure => simp [intOf]
        | false =>
          rw [hcut, back_no _ hed, ← hcut] at hd
          rw [hed] at he
          have h32 : ¬ (s[j].toNat : Int) ≤ 32 := of_decide_eq_false he.symm
          have h33 : 32 < (s[j].toNat : Int) := by omega
          have HD := Lib.hid hd; clear hd hed he hcut h32
          go_wp2
          go_meet
          exact ⟨j + 1, rfl, hkm, hms, HD.out.symm, rfl⟩
      · obtain rfl : m = k := by omega
        rw [Nat.sub_self, List.take_zero] at hd
        have HD := Lib.hid hd; clear hd
        go_wp2
        go_meet
        exact ⟨m, rfl, Nat.le_refl _, hms, by rw [Nat.sub_self, List.take_zero]; exact HD.out.symm, rfl⟩
  case rest =>
  obtain ⟨m, rfl, hkm, hms, hb, hwx⟩ := hcut
  have hwx := hwx.symm
  subst hwx
  obtain ⟨c, hc⟩ : ∃ c, m - k = c := ⟨_, rfl⟩
  have hsub : (m : Int) - k = (c : Int) := by omega
  have hcs : c ≤ s.size := by omega
  have hfin : stripL (L s) = kept (((L s).drop k).take (m - k)) := by unfold stripL; rw [hb]
  have HFIN := Lib.hid hfin; clear hb hfin hc
  go_wp2_with (at_make; refine wpList_make_own _ rfl (.const (.int .i64 0)) (.tmp 34) 93 rfl w.heap.size 5 i0 (.int .u8 0) 1 Try.underlying93 hi hz0 hz1 .i64 .i64 _ c rfl rfl rfl (by rw [hz2]; omega) (by unfold maxLen; omega) (Nat.le_refl _) ?_; intro w1 hown hgrow)
  have hb0 : Below w.heap.size w w1 := (Below.refl w.heap.size w).grown hgrow (Nat.le_refl _) (by simp)
  have ho0 : OwnB w.heap.size w1 (.slice (some ⟨w.heap.size, 0, none⟩) 0 c) [] := hown
  clear hown hgrow hsub
  go_loopw [5, 6] (fun v i wr => ∃ (j : Nat), i = .int .i64 j ∧ k ≤ j ∧ j ≤ m ∧ OwnB w.heap.size wr v (kept (((L s).drop k).take (j - k))) ∧ Below w.heap.size w wr) (fun _ i _ => m - (intOf i).toNat)
  case atStart => exact ⟨k, rfl, Nat.le_refl _, hkm, by rw [Nat.sub_self, List.take_zero]; exact ho0, hb0⟩
  case round =>
    clear ho0 hb0
    obtain ⟨j, rfl, hkj, hjm, hown, hbel⟩ := hrel
    have hN := hbel.size
    by_cases hp : j < m
    · have hnext := piece_next s k j hkj (by omega)
      have hlen : (kept (((L s).drop k).take (j - k))).length + 1 ≤ 140737488355328 := by
        have := kept_len (((L s).drop k).take (j - k))
        rw [List.length_take] at this
        omega
      have hjs : j < s.size := by omega
      have e9 : ((s[j].toNat : Int) == 9) = (s[j] == 9) := u8_eq (b := 9)
      have e10 : ((s[j].toNat : Int) == 10) = (s[j] == 10) := u8_eq (b := 10)
      have e13 : ((s[j].toNat : Int) == 13) = (s[j] == 13) := u8_eq (b := 13)
      have hkn : kept (((L s).drop k).take (j + 1 - k)) = kept (((L s).drop k).take (j - k)) ++ kept [s[j]] := by rw [hnext, kept_append]
      have HO := Lib.hid hown; have HB := Lib.hid hbel
      clear hown hbel hnext
      cases hin : inn s[j] with
      | true =>
        rw [kept_yes hin, List.append_nil] at hkn
        have HK := Lib.hid hkn; clear hkn
        unfold inn at hin
        cases h9 : s[j] == 9 with
        | true =>
          rw [h9] at e9
          clear h9 hin e10 e13
          go_wp2
          go_roundw
          case rel => exact ⟨j + 1, by go_num, by omega, by omega, by rw [HK.out]; exact HO.out, HB.out⟩
          case measure => simp [intOf]; omega
        | false =>
        cases h10 : s[j] == 10 with
        | true =>
          rw [h9] at e9
          rw [h10] at e10
          clear h9 h10 hin e13
          go_wp2
          go_roundw
          case rel => exact ⟨j + 1, by go_num, by omega, by omega, by rw [HK.out]; exact HO.out, HB.out⟩
          case measure => simp [intOf]; omega
        | false =>
          have h13 : s[j] == 13 := by rw [h9, h10] at hin; simpa using hin
          rw [h9] at e9
          rw [h10] at e10
          rw [h13] at e13
          clear h9 h10 hin h13
          go_wp2
          go_roundw
          case rel => exact ⟨j + 1, by go_num, by omega, by omega, by rw [HK.out]; exact HO.out, HB.out⟩
          case measure => simp [intOf]; omega
      | false =>
        rw [kept_no hin] at hkn
        have HK := Lib.hid hkn; clear hkn
        unfold inn at hin
        simp only [Bool.or_eq_false_iff] at hin
        rw [hin.1.1] at e9
        rw [hin.1.2] at e10
        rw [hin.2] at e13
        clear hin
        go_wp2_with (at_builtin; refine app_byte wr rfl (.tmp 49) (.tmp 53) rfl w.heap.size _ (kept (((L s).drop k).take (j - k))) s[j] rfl HO.out rfl hlen hN ?_; intro v2 w2 hown2 hk2)
        go_roundw
        case rel => exact ⟨j + 1, by go_num, by omega, by omega, by rw [HK.out]; exact hown2, hk2 _ HB.out⟩
        case measure => simp [intOf]; omega
    · obtain rfl : j = m := by omega
      have hcv := hown.string
      have HB := Lib.hid hbel
      clear hown hbel
      go_wp2
      go_ret
      exact ⟨ret_str (by rw [HFIN.out]), HB.out⟩

end Go.Proofs.Ytgjlfcamgkeibaa.Lk

namespace Go.Proofs.Ytgjlfcamgkeibaa.Lk
set_option maxRecDepth 100000
set_option linter.unusedSimpArgs false
set_option linter.unusedVariables false
open Go.RowKit Ba Fm Fo
/-- A digit's number in the reference: below 0 it is none. -/
def rd (c : UInt8) : Int := if hb c = true then (hv c : Int) else -1
end Go.Proofs.Ytgjlfcamgkeibaa.Lk

namespace Go.Proofs.Ytgjlfcamgkeibaa.Lk
set_option maxRecDepth 100000
set_option linter.unusedSimpArgs false
set_option linter.unusedVariables false
open Go.RowKit Ba Fm Fo
end Go.Proofs.Ytgjlfcamgkeibaa.Lk

namespace Go.Proofs.Ytgjlfcamgkeibaa.Lk
set_option maxRecDepth 100000
set_option linter.unusedSimpArgs false
set_option linter.unusedVariables false
open Go.RowKit Ba Fm Fo
theorem oth_of (c : UInt8) : oth c = ((decide ((48 : Int) ≤ c.toNat) && decide ((c.toNat : Int) ≤ 57)) || (c == 43) || (c == 45) || (c == 46)) := by
  unfold oth
  congr 3
  rw [Bool.eq_iff_iff]
  simp only [Bool.and_eq_true, decide_eq_true_eq, UInt8.le_iff_toNat_le]
  have e48 : (48 : UInt8).toNat = 48 := rfl
  have e57 : (57 : UInt8).toNat = 57 := rfl
  rw [e48, e57]
  omega
theorem letter1 (c : UInt8) (w : World) (q : Bool) (h : lr c = q) : Calls Try.prog 122 #[.int .u8 c.toNat] w fun e w' => e = .returned (.bool q) ∧ w = w' := by
  have k := letter_any c w
  rw [h] at k
  exact k

set_option maxHeartbeats 2000000 in
/-- The closure: may the byte at k stand in a scheme there? -/
theorem stands_any (p k : Nat) (s : ByteArray) (w : World) (hk : k < s.size) (hs : s.size ≤ 140737488355328) (hc : w.cell? ⟨p, 0, none⟩ = some (.string s)) (q : Bool) (hq : sch (decide (0 < k)) s[k] = q) :
    Calls Try.prog 121 #[.int .i64 k, .pointer (some ⟨p, 0, none⟩)] w fun e w' => e = .returned (.bool q) ∧ w = w' := by
  have e43 : ((s[k].toNat : Int) == 43) = (s[k] == 43) := u8_eq (b := 43)
  have e45 : ((s[k].toNat : Int) == 45) = (s[k] == 45) := u8_eq (b := 45)
  have e46 : ((s[k].toNat : Int) == 46) = (s[k] == 46) := u8_eq (b := 46)
  unfold sch at hq
  rw [oth_of] at hq
  obtain ⟨l0, hl0⟩ : ∃ l0, lr s[k] = l0 := ⟨_, rfl⟩
  obtain ⟨p0, hp0⟩ : ∃ p0, decide (0 < k) = p0 := ⟨_, rfl⟩
  rw [hl0, hp0] at hq
  have HL := Lib.hid hl0; clear hl0
  cases l0 with
  | true =>
    have HQ := Lib.hid hq; clear hq hp0 e43 e45 e46
    go_enter Try.func121, Try.ntmps121
    go_wp2_with fail
    refine (letter1 s[k] _ _ HL.out).mono ?_
    rintro e w' ⟨rfl, rfl⟩
    go_wp2
    go_ret
    exact ⟨ret_bool (by rw [← HQ.out]; rfl), rfl⟩
  | false =>
    by_cases h48 : (48 : Int) ≤ s[k].toNat <;> by_cases h57 : (s[k].toNat : Int) ≤ 57 <;> cases h43 : (s[k] == 43) <;> cases h45 : (s[k] == 45) <;> cases h46 : (s[k] == 46)
    all_goals
      rw [h43] at e43 hq
      rw [h45] at e45 hq
      rw [h46] at e46 hq
      have hq' : (false || (p0 && ((decide ((48 : Int) ≤ s[k].toNat) && decide ((s[k].toNat : Int) ≤ 57)) || _ || _ || _))) = q := hq
      have HQ := Lib.hid hq'; have H48 := Lib.hid h48; have H57 := Lib.hid h57; have HP0 := Lib.hid hp0
      clear hq hq' h43 h45 h46 hp0
      go_enter Try.func121, Try.ntmps121
      go_wp2_with fail
      refine (letter1 s[k] _ _ HL.out).mono ?_
      rintro e w' ⟨rfl, rfl⟩
      go_wp2
      all_goals go_ret
      all_goals exact ⟨ret_bool (by rw [← HQ.out]; simp [H48.out, H57.out, HP0.out]), rfl⟩

/-- What divided answers. -/
def divV (s : ByteArray) : Option Nat → Value
  | none => .tuple #[.string ⟨#[]⟩, .string ⟨#[]⟩, .bool false]
  | some k => .tuple #[.string (B (lowL ((L s).take k))), .string (s.extract (k + 1) s.size), .bool true]

set_option maxHeartbeats 4000000 in
theorem divided1 (s : ByteArray) (w : World) (hs : s.size ≤ 140737488355328) (o : Option Nat) (ho : colonL (L s) = o) :
    Calls Try.prog 115 #[.string s] w fun e w' => e = .returned (divV s o) ∧ Below w.heap.size w w' := by
  have hmf : ∀ (fn : Fn) (first cap : Array Value) (w : World), (Instr.makeFunc fn first cap).run Try.prog w = .ok (.func fn first cap) w := fun _ _ _ _ => rfl
  obtain ⟨w0, hw0⟩ : ∃ w0, w.alloc (.cells #[.string s] 9) = w0 := ⟨_, rfl⟩
  have hb0 : Below w.heap.size w w0 := by rw [← hw0]; exact (Below.refl _ _).alloc (Nat.le_refl _) _
  have hc0 : w0.cell? ⟨w.heap.size, 0, none⟩ = some (.string s) := by
    rw [← hw0, World.cell?_alloc_at _ _ _ _ (by simp)]; rfl
  have HW := Lib.hid hw0; clear hw0
  have HO := Lib.hid ho; clear ho
  go_enter Try.func115, Try.ntmps115
  go_upto_block 0 with fail
  rw [HW.out]
  go_cut [6] from 8 to 18 (fun sl wx => ∃ k : Nat, sl = .int .i64 k ∧ k ≤ s.size ∧ (st false (L s)).length = k ∧ wx = w0)
  case first =>
    go_wp2
    go_loop [6] (fun i => ∃ k : Nat, i = .int .i64 k ∧ k ≤ s.size ∧ Lk.upTo (L s) k) (fun i => s.size - (intOf i).toNat)
    case atStart => exact ⟨0, rfl, Nat.zero_le _, upTo_zero _⟩
    case round =>
      obtain ⟨k, rfl, hks, hu⟩ := hrel
      by_cases hp : k < s.size
      · have hpl : k < (L s).length := by rw [size_L]; exact hp
        have hg : (L s)[k] = s[k] := rfl
        cases hq : sch (decide (0 < k)) s[k] with
        | true =>
          have HN := Lib.hid (upTo_next hu hpl (by rw [hg]; exact hq)); have HQ := Lib.hid hq; clear hu hq hg
          go_wp2_with fail
          refine (stands_any w.heap.size k s w0 hp hs hc0 true HQ.out).mono ?_
          rintro e w' ⟨rfl, rfl⟩
          go_wp2
          go_round
          case rel => exact ⟨k + 1, by go_num, by omega, HN.out⟩
          case measure => simp [intOf]; omega
        | false =>
          have HN := Lib.hid (upTo_stop hu hpl (by rw [hg]; exact hq)); have HQ := Lib.hid hq; clear hu hq hg
          go_wp2_with fail
          refine (stands_any w.heap.size k s w0 hp hs hc0 false HQ.out).mono ?_
          rintro e w' ⟨rfl, rfl⟩
          go_wp2
          go_meet
          exact ⟨k, rfl, hks, HN.out, rfl⟩
      · have HN := Lib.hid (upTo_end hu (by rw [size_L]; omega)); clear hu
        go_wp2
        go_meet
        exact ⟨k, rfl, hks, HN.out, rfl⟩
  case rest =>
  obtain ⟨k, rfl, hk, hf, hwx⟩ := hcut
  have hwx := hwx.symm
  subst hwx
  have HF := Lib.hid hf; clear hf hmf
  have hno : ∀ d : Bool, ((k : Int) == 0) = d → d = decide (k = 0) := fun d h => by rw [← h, Bool.eq_iff_iff]; simp
  have hne : ∀ d : Bool, ((k : Int) == (s.size : Int)) = d → d = decide (k = s.size) := fun d h => by rw [← h, Bool.eq_iff_iff]; simp; omega
  by_cases h0 : k = 0
  · have ho := colon_not HF.out (.inl h0)
    rw [HO.out] at ho
    subst ho
    subst h0
    clear hno hne
    go_wp2
    go_ret3
    exact ⟨rfl, hb0⟩
  · have e0 : ((k : Int) == 0) = false := by rw [hno _ rfl]; exact decide_eq_false h0
    by_cases hks : k = s.size
    · have e1 : ((k : Int) == (s.size : Int)) = true := by rw [hne _ rfl]; exact decide_eq_true hks
      have ho := colon_not HF.out (.inr (.inl (by rw [size_L]; exact hks)))
      rw [HO.out] at ho
      subst ho
      clear hno hne hks h0
      go_wp2
      go_ret3
      exact ⟨rfl, hb0⟩
    · have e1 : ((k : Int) == (s.size : Int)) = false := by rw [hne _ rfl]; exact decide_eq_false hks
      have hp : k < s.size := by omega
      have e58 : ((s[k].toNat : Int) != 58) = !(s[k] == 58) := by rw [← u8_eq]; rfl
      cases h58 : s[k] == 58 with
      | false =>
        rw [h58] at e58
        have ho := colon_not HF.out (.inr (.inr ⟨by rw [size_L]; exact hp, by show s[k] ≠ 58; simpa using h58⟩))
        rw [HO.out] at ho
        subst ho
        clear h58 hno hne hks h0
        go_wp2
        go_ret3
        exact ⟨rfl, hb0⟩
      | true =>
        rw [h58] at e58
        have ho := colon_stop HF.out (by omega) (by rw [size_L]; exact hp) (by show s[k] = 58; simpa using h58)
        rw [HO.out] at ho
        subst ho
        have y1 : IntKind.i64.wrap ((k : Int) + 1) = (k : Int) + 1 := IntWalk.i64_in _ (by omega)
        have z1 : ((k : Int) + 1).toNat = k + 1 := by omega
        have m1 : (0 : Int) ≤ (k : Int) + 1 := by omega
        have m2 : (k : Int) + 1 ≤ s.size := by omega
        have m3 : (0 : Int) ≤ (k : Int) := by omega
        have m4 : (k : Int) ≤ s.size := by omega
        have hxs : (s.extract 0 k).size ≤ 140737488355328 := Nat.le_trans (size_extract _ _ _) hs
        have hLx : lowL (L (s.extract 0 k)) = lowL ((L s).take k) := by rw [L_extract, List.drop_zero, Nat.sub_zero]
        have HX := Lib.hid hLx
        have hlt : w.heap.size < w0.heap.size := by rw [← HW.out]; simp
        have HC0 := Lib.hid hc0; have HB0 := Lib.hid hb0
        clear h58 hno hne hks h0 hLx hb0
        go_wp2
        go_region_held3 (fun w' => w'.cell? ⟨w.heap.size, 0, none⟩ = some (.string s)) (first | exact c2 | exact HC0.out | go_keep) (first
          | (go_at_call 123; refine (lower_any (s.extract 0 k) _ hxs).mono ?_; rintro e w2 ⟨rfl, b2⟩; have c2 := (b2.cell (p := ⟨w.heap.size, 0, none⟩) hlt).trans HC0.out; have HB2 := Lib.hid b2; clear b2))
        all_goals go_wp2
        all_goals go_ret3
        all_goals exact ⟨by rw [HX.out]; rfl, bt HB0.out (by first | exact HB2.out | exact ⟨HB2.out.os, HB2.out.tape, HB2.out.output, HB2.out.size, HB2.out.block⟩)⟩

/-- What Scheme answers. -/
def schemeV (o : Option (List UInt8)) : Value := .tuple #[.string (B (o.getD [])), .bool o.isSome]
set_option maxHeartbeats 2000000 in
theorem scheme_any (s : ByteArray) (w : World) (hs : s.size ≤ 140737488355328) :
    Calls Try.prog 99 #[.string s] w fun e w' => e = .returned (schemeV (schemeO (L s))) ∧ Below w.heap.size w w' := by
  obtain ⟨t, ht⟩ : ∃ t, B (stripL (L s)) = t := ⟨_, rfl⟩
  have hL : L t = stripL (L s) := by rw [← ht, L_B]
  have hts : t.size ≤ 140737488355328 := by rw [← size_L, hL]; exact Nat.le_trans (strip_len _) (by rw [size_L]; exact hs)
  obtain ⟨o, ho⟩ : ∃ o, colonL (L t) = o := ⟨_, rfl⟩
  have hans : schemeO (L s) = o.map fun k => lowL ((L t).take k) := by unfold schemeO; rw [← hL, ho]
  have HA := Lib.hid hans; have HO := Lib.hid ho; have HT := Lib.hid ht
  clear hans ho hL ht
  go_enter Try.func99, Try.ntmps99
  go_wp2_with fail
  refine (strip_any s w hs).mono ?_
  rw [HT.out]
  rintro e w1 ⟨rfl, hb1⟩
  have HB1 := Lib.hid hb1; clear hb1
  go_wp2_with fail
  refine (divided1 t w1 hts o HO.out).mono ?_
  rintro e w2 ⟨rfl, hb2⟩
  have HB2 := Lib.hid hb2; clear hb2
  cases o with
  | none =>
    unfold divV
    go_wp2
    go_ret2
    exact ⟨by rw [HA.out]; rfl, bt HB1.out HB2.out⟩
  | some k =>
    unfold divV
    go_wp2
    go_ret2
    exact ⟨by rw [HA.out]; rfl, bt HB1.out HB2.out⟩

theorem js_list (l : List UInt8) : ((B (schemeL l)).toList == [106, 97, 118, 97, 115, 99, 114, 105, 112, 116]) = scriptL l := by
  rw [toList_B]
  unfold scriptL
  rw [Bool.eq_iff_iff, beq_iff_eq, decide_eq_true_eq]
  rfl
set_option maxHeartbeats 2000000 in
theorem script_any (s : ByteArray) (w : World) (hs : s.size ≤ 140737488355328) :
    Calls Try.prog 74 #[.string s] w fun e w' => e = .returned (.bool (scriptL (L s))) ∧ Below w.heap.size w w' := by
  obtain ⟨x, hx⟩ : ∃ x, B (schemeL (L s)) = x := ⟨_, rfl⟩
  have hv : schemeV (schemeO (L s)) = .tuple #[.string x, .bool (hasL (L s))] := by rw [← hx]; rfl
  have hj := js_list (L s)
  rw [hx] at hj
  have HJ := Lib.hid hj; have HV := Lib.hid hv
  clear hj hx hv
  go_enter Try.func74, Try.ntmps74
  go_wp2_with fail
  refine (scheme_any s w hs).mono ?_
  rw [HV.out]
  rintro e w1 ⟨rfl, hb1⟩
  go_wp2
  go_ret
  exact ⟨ret_bool (by rw [← HJ.out]), hb1⟩
end Go.Proofs.Ytgjlfcamgkeibaa.Lk

namespace Go.Proofs.Ytgjlfcamgkeibaa.Lk
set_option maxRecDepth 100000
set_option linter.unusedSimpArgs false
set_option linter.unusedVariables false
open Go.RowKit Ba Fm Fo
theorem script1 (s : ByteArray) (w : World) (hs : s.size ≤ 140737488355328) (q : Bool) (hq : scriptL (L s) = q) :
    Calls Try.prog 74 #[.string s] w fun e w' => e = .returned (.bool q) ∧ Below w.heap.size w w' := by
  have k := script_any s w hs
  rw [hq] at k
  exact k
theorem f1 : B (schemeL (L ⟨#[32, 74, 97, 86, 97, 9, 83, 99, 114, 105, 112, 116, 58, 120]⟩)) = ⟨#[106, 97, 118, 97, 115, 99, 114, 105, 112, 116]⟩ := by kernel_rfl
theorem f2 : B (schemeL (L ⟨#[97, 47, 98, 58, 99]⟩)) = ⟨#[]⟩ := by kernel_rfl
theorem f3 : B (sourceL (L ⟨#[106, 97, 118, 97, 115, 99, 114, 105, 112, 116, 58, 97, 37, 50, 48, 98]⟩)) = ⟨#[97, 32, 98]⟩ := by kernel_rfl
theorem f4 : B (sourceL (L ⟨#[104, 116, 116, 112, 115, 58, 97]⟩)) = ⟨#[]⟩ := by kernel_rfl
theorem f5 : scriptL (L ⟨#[74, 65, 86, 65, 83, 67, 82, 73, 80, 84, 58]⟩) = true := by kernel_rfl
theorem f6 : scriptL (L ⟨#[106, 97, 118, 97, 115, 99, 114, 105, 112, 116]⟩) = false := by kernel_rfl
theorem f7 : B (stripL (L ⟨#[0, 32, 97, 10, 98, 32]⟩)) = ⟨#[97, 98]⟩ := by kernel_rfl
theorem f8 : B (pct (L ⟨#[37, 52, 49, 37, 52, 37, 122, 122, 37]⟩)) = ⟨#[65, 37, 52, 37, 122, 122, 37]⟩ := by kernel_rfl

end Go.Proofs.Ytgjlfcamgkeibaa.Lk

namespace Go.Proofs.Ytgjlfcamgkeibaa.Rk
set_option maxRecDepth 100000
set_option linter.unusedVariables false
set_option linter.unusedSimpArgs false
open Go.RowKit Go.Maps Ba Fm Lk Ml
theorem hand_cut (a : ByteArray) (h : 2 < a.size) : ((a.extract 0 2).toList == [111, 110]) = hand (L a) := by
  have e : (a.extract 0 2).toList = (L a).take 2 := by
    rw [toList_L, L_extract]
    rfl
  rw [e]
  rw [← size_L] at h
  match L a, h with
  | x :: y :: z :: r, _ =>
    show ([x, y] == [111, 110]) = (x == 111 && y == 110)
    simp

set_option maxRecDepth 100000 in
theorem handler1 (a : ByteArray) (w : World) (q : Bool) (hq : hand (L a) = q) :
    Calls Try.prog 98 #[.string a] w fun r w' => r = .returned (.bool q) ∧ w = w' := by
  by_cases h : 2 < a.size
  · have hc := hand_cut a h
    rw [hq] at hc
    have h' : (2 : Int) < a.size := by omega
    clear hq
    go_enter Try.func98, Try.ntmps98
    go_wp2
    go_ret
    exact ⟨rfl, rfl⟩
  · have h' : decide ((2 : Int) < a.size) = false := decide_eq_false (by omega)
    have : q = false := by
      rw [← hq]
      rw [← size_L] at h
      match L a, h with
      | [], _ | [_], _ | [_, _], _ => rfl
      | x :: y :: z :: r, e => exact absurd (by simp) e
    subst this
    clear hq
    go_enter Try.func98, Try.ntmps98
    go_wp2
    go_ret
    exact ⟨rfl, rfl⟩

def sinkJobs (b : Nat) : List Job := .mk :: (takesL.flatMap fun p => [.val (pairV p.1 p.2), .ins (pairV p.1 p.2) (.int .i64 3)]) ++ [.val (pairV ⟨#[105, 102, 114, 97, 109, 101]⟩ ⟨#[115, 114, 99, 100, 111, 99]⟩), .ins (pairV ⟨#[105, 102, 114, 97, 109, 101]⟩ ⟨#[115, 114, 99, 100, 111, 99]⟩) (.int .i64 1), .val (.map (some b)), .val (.map (some b))]
def sinkPairs : List (ByteArray × ByteArray × Value) := (takesL.map fun p => (p.1, p.2, Value.int .i64 3)) ++ [(⟨#[105, 102, 114, 97, 109, 101]⟩, ⟨#[115, 114, 99, 100, 111, 99]⟩, .int .i64 1)]
theorem ent_sink (b : Nat) : (sinkJobs b).filterMap ent = sinkPairs := rfl
theorem sink_small : ∀ p ∈ sinkPairs, p.1.size ≤ maxLen ∧ p.2.1.size ≤ maxLen := by
  have h : (sinkPairs.all fun p => decide (p.1.size ≤ 20) && decide (p.2.1.size ≤ 20)) = true := by decide +kernel
  intro p hp
  have := List.all_eq_true.1 h p hp
  rw [Bool.and_eq_true, decide_eq_true_iff, decide_eq_true_iff] at this
  unfold maxLen
  omega
theorem sink_mem {e a : ByteArray} {v : Value} (h : (e, a, v) ∈ sinkPairs) (hh : hand (L a) = false) : v = .int .i64 (sinkN e a) ∧ sinkN e a ≠ 0 := by
  unfold sinkPairs at h
  rcases List.mem_append.1 h with h | h
  · obtain ⟨p, hp, hx⟩ := List.mem_map.1 h
    injection hx with h1 h2
    injection h2 with h2 h3
    have : pairB takesL e a = true := pair_mem.2 (by rw [← h1, ← h2]; exact hp)
    have hs : sinkN e a = 3 := by
      unfold sinkN
      rw [if_neg (by rw [hh]; decide), if_pos this]
    rw [hs]
    exact ⟨h3.symm, by decide⟩
  · have := List.mem_singleton.1 h
    injection this with h1 h2
    injection h2 with h2 h3
    subst h1 h2
    have hs : sinkN ⟨#[105, 102, 114, 97, 109, 101]⟩ ⟨#[115, 114, 99, 100, 111, 99]⟩ = 1 := by decide +kernel
    rw [hs]
    exact ⟨h3, by decide⟩
theorem sink_none {e a : ByteArray} (h : ∀ v, (e, a, v) ∉ sinkPairs) (hh : hand (L a) = false) : sinkN e a = 0 := by
  unfold sinkN
  rw [if_neg (by rw [hh]; decide)]
  rw [if_neg, if_neg]
  · intro hd
    unfold docB at hd
    rw [Bool.and_eq_true, decide_eq_true_iff, decide_eq_true_iff] at hd
    exact h (.int .i64 1) (List.mem_append_right _ (by rw [hd.1, hd.2]; exact List.mem_singleton.2 rfl))
  · intro hd
    exact h (.int .i64 3) (List.mem_append_left _ (List.mem_map.2 ⟨_, pair_mem.1 hd, rfl⟩))

set_option maxRecDepth 100000 in
theorem sink_any (e a : ByteArray) (he : e.size ≤ maxLen) (ha : a.size ≤ maxLen) (w : World) :
    Calls Try.prog 72 #[.string e, .string a] w fun r w' => r = .returned (.int .i64 (sinkN e a)) ∧ Below w.heap.size w w' := by
  cases hh : hand (L a) with
  | true =>
    have hs : sinkN e a = 2 := by
      unfold sinkN
      rw [if_pos hh]
    rw [hs]
    clear hs
    go_enter Try.func72, Try.ntmps72
    go_wp2_with fail
    refine (handler1 a w true hh).mono ?_
    rintro r w1 ⟨rfl, rfl⟩
    clear hh
    go_wp2
    go_ret
    exact ⟨rfl, Below.refl _ _⟩
  | false =>
  go_enter Try.func72, Try.ntmps72
  go_wp2_with fail
  refine (handler1 a w false hh).mono ?_
  rintro r w1 ⟨rfl, rfl⟩
  have HH := Lib.hid hh
  clear hh
  go_wp2
  refine region_pairs (l := sinkJobs w.heap.size) (List.toArray (.string e :: .string a :: undef :: undef :: .int .i64 0 :: .map (some w.heap.size) :: undef :: undef :: .string a :: .bool false :: .map (some w.heap.size) :: .agg #[.string ⟨#[115, 99, 114, 105, 112, 116]⟩, .string ⟨#[115, 114, 99]⟩] :: .agg #[.string ⟨#[101, 109, 98, 101, 100]⟩, .string ⟨#[115, 114, 99]⟩] :: .agg #[.string ⟨#[111, 98, 106, 101, 99, 116]⟩, .string ⟨#[100, 97, 116, 97]⟩] :: .agg #[.string ⟨#[105, 102, 114, 97, 109, 101]⟩, .string ⟨#[115, 114, 99, 100, 111, 99]⟩] :: .map (some w.heap.size) :: undef :: undef :: undef :: undef :: undef :: undef :: undef :: undef :: undef :: undef :: [])) (by kernel_rfl) lawPair Try.underlying97 rfl (by kernel_rfl) ?_ ?_ (by kernel_rfl) ?_
  · refine ⟨rfl, fun a w _ => ?_, does_insC 0 1 rfl rfl rfl (by simp) (by simp) rfl rfl rfl rfl, fun a w _ => ?_, does_insC 0 3 rfl rfl rfl (by simp) (by simp) rfl rfl rfl rfl, fun a w _ => ?_, does_insC 0 5 rfl rfl rfl (by simp) (by simp) rfl rfl rfl rfl, fun a w _ => ?_, does_insC 0 7 rfl rfl rfl (by simp) (by simp) rfl rfl rfl rfl, does_move 0 (.inl rfl) (by simp) rfl rfl, does_move 9 (.inr rfl) (by simp) rfl rfl, trivial⟩
    all_goals (go_simp; try rfl)
  · intro e' a' v hm
    rw [ent_sink] at hm
    have := sink_small _ hm
    exact key_pair this.1 this.2
  · intro w1 hb1 hT
    rw [ent_sink] at hT
    obtain ⟨x, hx⟩ := key_pair he ha
    have hz : (zeroValue 3).run Try.prog w1 = .ok (.int .i64 0) w1 := by kernel_rfl
    have hl : ∃ k : Nat, k = sinkN e a ∧ (Instr.lookup 97 (.map (some w.heap.size)) (.agg #[.string e, .string a]) true).run Try.prog w1 = .ok (.tuple #[.int .i64 k, .bool (decide (k ≠ 0))]) w1 := by
      rcases hT.look lawPair Try.underlying97 hz hx with ⟨h1, h2⟩ | ⟨v, ⟨e', a', h2, h3⟩, h1⟩
      · have : sinkN e a = 0 := sink_none (fun v hv => h2 v ⟨e, a, rfl, hv⟩) HH.out
        exact ⟨0, this.symm, h1⟩
      · obtain ⟨rfl, rfl⟩ := pairV_inj h2
        obtain ⟨h4, h5⟩ := sink_mem h3 HH.out
        refine ⟨_, rfl, ?_⟩
        rw [decide_eq_true h5, ← h4]
        exact h1
    clear hT hx hz
    obtain ⟨k, hk, hl⟩ := hl
    have HK := Lib.hid hk
    clear hk
    by_cases h0 : k = 0
    · subst h0
      go_wp2
      go_ret
      exact ⟨congrArg (fun n : Nat => Ending.returned (.int .i64 n)) HK.out, (Below.refl _ _).drew.trans hb1⟩
    · have h0' : decide (k ≠ 0) = true := decide_eq_true h0
      rw [h0'] at hl
      clear h0 h0'
      go_wp2
      go_ret
      exact ⟨congrArg (fun n : Nat => Ending.returned (.int .i64 n)) HK.out, (Below.refl _ _).drew.trans hb1⟩
end Go.Proofs.Ytgjlfcamgkeibaa.Rk

namespace Go.Proofs.Ytgjlfcamgkeibaa.Rk
set_option maxRecDepth 100000
set_option linter.unusedVariables false
set_option linter.unusedSimpArgs false
open Go.RowKit Ba Fm
theorem eqlit (s : ByteArray) (l : List UInt8) : (s.toList == l) = decide (s = ⟨l.toArray⟩) := by
  rw [← ByteArray.toList_mk l, eq_of_toList, ByteArray.toList_mk]
theorem never_or (e : ByteArray) (b0 b1 b2 b3 b4 b5 b6 b7 : Bool) (h0 : (e.toList == [98, 97, 115, 101]) = b0) (h1 : (e.toList == [101, 109, 98, 101, 100]) = b1) (h2 : (e.toList == [102, 114, 97, 109, 101]) = b2) (h3 : (e.toList == [105, 102, 114, 97, 109, 101]) = b3) (h4 : (e.toList == [108, 105, 110, 107]) = b4) (h5 : (e.toList == [109, 101, 116, 97]) = b5) (h6 : (e.toList == [111, 98, 106, 101, 99, 116]) = b6) (h7 : (e.toList == [115, 99, 114, 105, 112, 116]) = b7) : (b0 || b1 || b2 || b3 || b4 || b5 || b6 || b7) = neverB e := by
  rw [eqlit] at h0 h1 h2 h3 h4 h5 h6 h7
  subst h0 h1 h2 h3 h4 h5 h6 h7
  unfold neverB isIn unsafeL
  rw [Bool.eq_iff_iff]
  simp [or_assoc]
set_option maxRecDepth 100000 in
theorem element1 (e : ByteArray) (w : World) (q : Bool) (hq : neverB e = q) :
    Calls Try.prog 80 #[.string e] w fun r w' => r = .returned (.bool q) ∧ w = w' := by
  obtain ⟨b0, h0⟩ : ∃ b, (e.toList == [98, 97, 115, 101]) = b := ⟨_, rfl⟩
  obtain ⟨b1, h1⟩ : ∃ b, (e.toList == [101, 109, 98, 101, 100]) = b := ⟨_, rfl⟩
  obtain ⟨b2, h2⟩ : ∃ b, (e.toList == [102, 114, 97, 109, 101]) = b := ⟨_, rfl⟩
  obtain ⟨b3, h3⟩ : ∃ b, (e.toList == [105, 102, 114, 97, 109, 101]) = b := ⟨_, rfl⟩
  obtain ⟨b4, h4⟩ : ∃ b, (e.toList == [108, 105, 110, 107]) = b := ⟨_, rfl⟩
  obtain ⟨b5, h5⟩ : ∃ b, (e.toList == [109, 101, 116, 97]) = b := ⟨_, rfl⟩
  obtain ⟨b6, h6⟩ : ∃ b, (e.toList == [111, 98, 106, 101, 99, 116]) = b := ⟨_, rfl⟩
  obtain ⟨b7, h7⟩ : ∃ b, (e.toList == [115, 99, 114, 105, 112, 116]) = b := ⟨_, rfl⟩
  have HQ := Lib.hid ((never_or e b0 b1 b2 b3 b4 b5 b6 b7 h0 h1 h2 h3 h4 h5 h6 h7).trans hq)
  clear hq
  go_enter Try.func80, Try.ntmps80
  cases b0 with
  | true =>
    go_wp2
    go_ret
    exact ⟨ret_bool (by rw [← HQ.out]; simp), rfl⟩
  | false =>
  cases b1 with
  | true =>
    go_wp2
    go_ret
    exact ⟨ret_bool (by rw [← HQ.out]; simp), rfl⟩
  | false =>
  cases b2 with
  | true =>
    go_wp2
    go_ret
    exact ⟨ret_bool (by rw [← HQ.out]; simp), rfl⟩
  | false =>
  cases b3 with
  | true =>
    go_wp2
    go_ret
    exact ⟨ret_bool (by rw [← HQ.out]; simp), rfl⟩
  | false =>
  cases b4 with
  | true =>
    go_wp2
    go_ret
    exact ⟨ret_bool (by rw [← HQ.out]; simp), rfl⟩
  | false =>
  cases b5 with
  | true =>
    go_wp2
    go_ret
    exact ⟨ret_bool (by rw [← HQ.out]; simp), rfl⟩
  | false =>
  cases b6 with
  | true =>
    go_wp2
    go_ret
    exact ⟨ret_bool (by rw [← HQ.out]; simp), rfl⟩
  | false =>
  cases b7 with
  | true =>
    go_wp2
    go_ret
    exact ⟨ret_bool (by rw [← HQ.out]; simp), rfl⟩
  | false =>
  go_wp2
  go_ret
  exact ⟨ret_bool (by rw [← HQ.out]; rfl), rfl⟩

end Go.Proofs.Ytgjlfcamgkeibaa.Rk

namespace Go.Proofs.Ytgjlfcamgkeibaa.Rk
set_option maxRecDepth 100000
set_option linter.unusedVariables false
set_option linter.unusedSimpArgs false
open Go.RowKit Go.Maps Ba Fm Lk Ml
open Ro (At Ro Cw ros Rv Rr Att Ra rowO box_at box_kept getElem_of_drop below_new size_row size_attr range5 range2 cells)
theorem nav1 (e a : ByteArray) (he : e.size ≤ 140737488355328) (ha : a.size ≤ 140737488355328) (w : World) (q : Bool) (hq : navB e a = q) :
    Calls Try.prog 73 #[.string e, .string a] w fun r w' => r = .returned (.bool q) ∧ Below w.heap.size w w' := by
  have := nav_any e a (by unfold maxLen; omega) (by unfold maxLen; omega) w
  rw [hq] at this
  exact this
theorem sink1 (e a : ByteArray) (he : e.size ≤ 140737488355328) (ha : a.size ≤ 140737488355328) (w : World) (n : Nat) (hq : sinkN e a = n) :
    Calls Try.prog 72 #[.string e, .string a] w fun r w' => r = .returned (.int .i64 n) ∧ Below w.heap.size w w' := by
  have := sink_any e a (by unfold maxLen; omega) (by unfold maxLen; omega) w
  rw [hq] at this
  exact this
theorem script10 (s : ByteArray) (w : World) (hs : s.size ≤ 140737488355328) (q : Bool) (hq : scriptL (L s) = q) :
    Calls Try.prog 74 #[.string s] w fun e w' => e = .returned (.bool q) ∧ Below w.heap.size w w' := script1 s w hs q hq

theorem abox_kept {w w3 : World} {n v : ByteArray} (hb : Below (w.alloc (.cells #[.string n, .string v] 40)).heap.size (w.alloc (.cells #[.string n, .string v] 40)) w3) (j : Nat) : w3.cell? ⟨w.heap.size, j, none⟩ = (Ro.acells ⟨n, v⟩)[j]? :=
  (hb.cell (p := ⟨w.heap.size, j, none⟩) (by simp)).trans (by
    rw [World.cell?_alloc_mark]
    match j with
    | 0 | 1 => rfl
    | j + 2 => simp [Ro.acells])
set_option maxRecDepth 100000 in
theorem attr1 (e : ByteArray) (a : At) (he : e.size ≤ 140737488355328) (ha : a.name.size ≤ 140737488355328) (hv : a.value.size ≤ 140737488355328) (w : World) (q : Bool) (hq : attrB e a = q) :
    Calls Try.prog 31 #[.string e, .agg #[.string a.name, .string a.value]] w fun r w' => r = .returned (.bool q) ∧ Below w.heap.size w w' := by
  obtain ⟨n, v⟩ := a
  simp only at ha hv ⊢
  obtain ⟨k, hk⟩ : ∃ k, sinkN e n = k := ⟨_, rfl⟩
  obtain ⟨b, hb⟩ : ∃ b, navB e n = b := ⟨_, rfl⟩
  obtain ⟨s, hs⟩ : ∃ s, scriptL (L v) = s := ⟨_, rfl⟩
  have hq' : (decide (k ≠ 0) || (b && s)) = q := by
    rw [← hq, ← hk, ← hb, ← hs]
    rfl
  have HK := Lib.hid hk; have HB := Lib.hid hb; have HS := Lib.hid hs; have HQ := Lib.hid hq'
  clear hk hb hs hq hq'
  go_enter Try.func31, Try.ntmps31
  go_wp2_with fail
  refine (sink1 e n he ha _ k HK.out).mono ?_
  rintro r w1 ⟨rfl, b1⟩
  have c0 := abox_kept b1 0
  have c1 := abox_kept b1 1
  simp only [Ro.acells, List.getElem?_cons_zero, List.getElem?_cons_succ] at c0 c1
  have hlt : w.heap.size < w1.heap.size := Nat.lt_of_lt_of_le (by simp) b1.size
  have B1 := Lib.hid ((below_new w _).trans (b1.mono (by simp)))
  clear b1
  by_cases h0 : k = 0
  · subst h0
    go_wp2_with fail
    refine (nav1 e n he ha _ b HB.out).mono ?_
    rintro r w2 ⟨rfl, b2⟩
    have d1 := (b2.cell (p := ⟨w.heap.size, 1, none⟩) hlt).trans c1
    have B2 := Lib.hid (B1.out.trans (b2.mono B1.out.size))
    clear b2 c0 c1
    cases b with
    | true =>
      go_wp2_with fail
      refine (script10 v _ hv s HS.out).mono ?_
      rintro r w3 ⟨rfl, b3⟩
      have B3 := Lib.hid (B2.out.trans (b3.mono B2.out.size))
      clear b3
      go_wp2
      go_ret
      exact ⟨ret_bool (by rw [← HQ.out]; simp), B3.out⟩
    | false =>
      go_wp2
      go_ret
      exact ⟨ret_bool (by rw [← HQ.out]; rfl), B2.out⟩
  · have h0n : ¬ (k : Int) = 0 := by omega
    have hq1 : true = q := by rw [← HQ.out, decide_eq_true h0]; rfl
    clear c0 c1
    subst hq1
    go_wp2
    go_ret
    exact ⟨rfl, B1.out⟩

end Go.Proofs.Ytgjlfcamgkeibaa.Rk

namespace Go.Proofs.Ytgjlfcamgkeibaa.Lk
set_option maxRecDepth 100000
set_option linter.unusedSimpArgs false
set_option linter.unusedVariables false
open Go.RowKit Ba Fm Fo
/-- What the reference's Strip has found of the first bytes: the first and the last place of a byte that is not ignored at an end. -/
def Seen (l : List UInt8) (f g : Int) : Prop :=
  (f = -1 ∧ g = -1 ∧ allEdge l) ∨ ∃ a b : Nat, f = a ∧ g = b ∧ a ≤ b ∧ b < l.length ∧ frontL l = l.drop a ∧ backL l = l.take (b + 1)
theorem seen_nil : Seen [] (-1) (-1) := .inl ⟨rfl, rfl, fun _ h => by cases h⟩
theorem seen_yes {l : List UInt8} {f g : Int} {c : UInt8} (h : Seen l f g) (hc : edge c = true) : Seen (l ++ [c]) f g := by
  rcases h with ⟨h1, h2, h3⟩ | ⟨a, b, h1, h2, h3, h4, h5, h6⟩
  · refine .inl ⟨h1, h2, fun x hx => ?_⟩
    rcases List.mem_append.1 hx with hx | hx
    · exact h3 x hx
    · rw [List.mem_singleton.1 hx]; exact hc
  · refine .inr ⟨a, b, h1, h2, h3, by rw [List.length_append]; omega, ?_, ?_⟩
    · rw [front_append, if_neg, h5, List.drop_append_of_le_length (by omega)]
      rw [h5]
      intro e
      have := congrArg List.length e
      rw [List.length_drop, List.length_nil] at this
      omega
    · rw [back_yes _ hc, h6, List.take_append_of_le_length (by omega)]
theorem seen_first {l : List UInt8} {g : Int} {c : UInt8} (h : Seen l (-1) g) (hc : edge c = false) : Seen (l ++ [c]) (l.length : Nat) (l.length : Nat) := by
  rcases h with ⟨h1, h2, h3⟩ | ⟨a, b, h1, _⟩
  · refine .inr ⟨l.length, l.length, rfl, rfl, Nat.le_refl _, by simp, ?_, ?_⟩
    · rw [front_append, if_pos (front_none h3), List.drop_left]
      exact front_no [] hc
    · rw [back_no _ hc, List.take_of_length_le (by simp)]
  · omega
theorem seen_more {l : List UInt8} {f g : Int} {c : UInt8} (h : Seen l f g) (h0 : 0 ≤ f) (hc : edge c = false) : Seen (l ++ [c]) f (l.length : Nat) := by
  rcases h with ⟨h1, h2, h3⟩ | ⟨a, b, h1, h2, h3, h4, h5, h6⟩
  · omega
  · refine .inr ⟨a, l.length, h1, rfl, by omega, by simp, ?_, ?_⟩
    · rw [front_append, if_neg, h5, List.drop_append_of_le_length (by omega)]
      rw [h5]
      intro e
      have := congrArg List.length e
      rw [List.length_drop, List.length_nil] at this
      omega
    · rw [back_no _ hc, List.take_of_length_le (by simp)]
/-- What stands between the two. -/
theorem seen_core {l : List UInt8} {a b : Nat} (hb : b < l.length) (hab : a ≤ b) (h1 : frontL l = l.drop a) (h2 : backL l = l.take (b + 1)) : backL (frontL l) = (l.drop a).take (b + 1 - a) := by
  obtain ⟨e, h3, h4⟩ := back_prefix l
  have hl : l = l.take a ++ l.drop a := (List.take_append_drop a l).symm
  have h5 : l.drop a = (l.drop a).take (b + 1 - a) ++ e := by
    have e1 : l.drop a = (l.take (b + 1) ++ e).drop a := by rw [← h2, ← h3]
    rw [List.drop_append_of_le_length (by rw [List.length_take]; omega), List.drop_take] at e1
    exact e1
  have hlast : backL l ≠ [] := by
    rw [h2]
    intro e
    have := congrArg List.length e
    rw [List.length_take, List.length_nil] at this
    omega
  rcases back_cases l with ⟨h6, _⟩ | ⟨m, c, h6, h7⟩
  · exact absurd h6 hlast
  · have hlen : m.length = b := by
      have := congrArg List.length h6
      rw [h2, List.length_take, List.length_append, List.length_singleton] at this
      omega
    have h8 : (l.drop a).take (b + 1 - a) = m.drop a ++ [c] := by
      rw [← List.drop_take, ← h2, h6, List.drop_append_of_le_length (by omega)]
    rw [h1]
    have h9 : backL (l.drop a) = m.drop a ++ [c] := by
      rw [h5, back_all _ h4, h8, back_no _ h7]
    rw [h9, h8]

set_option maxHeartbeats 4000000 in
theorem refStrip_any (s : ByteArray) (w : World) (hs : s.size ≤ 140737488355328) :
    Calls Try.prog 100 #[.string s] w fun e w' => e = .returned (.string (B (stripL (L s)))) ∧ Below w.heap.size w w' := by
  go_enter Try.func100, Try.ntmps100
  go_wp2
  go_loop [3, 4, 5] (fun v3 v4 i => ∃ (k : Nat) (f g : Int), v3 = .int .i64 f ∧ v4 = .int .i64 g ∧ i = .int .i64 k ∧ k ≤ s.size ∧ Seen ((L s).take k) f g) (fun _ _ i => s.size - (intOf i).toNat)
  case atStart => exact ⟨0, -1, -1, rfl, rfl, rfl, Nat.zero_le _, seen_nil⟩
  case round =>
    obtain ⟨k, f, g, rfl, rfl, rfl, hks, hsn⟩ := hrel
    by_cases hp : k < s.size
    · have hl : ((L s).take k).length = k := by rw [List.length_take, size_L]; omega
      have he := edge_of s[k]
      cases hed : edge s[k] with
      | true =>
        have hn := seen_yes hsn hed
        rw [← take_snoc s k hp] at hn
        rw [hed] at he
        have h32 : (s[k].toNat : Int) ≤ 32 := of_decide_eq_true he.symm
        have HN := Lib.hid hn; clear hn hsn hed he hl
        go_wp2
        go_round
        case rel => exact ⟨k + 1, f, g, rfl, rfl, by go_num, by omega, HN.out⟩
        case measure => simp [intOf]; omega
      | false =>
        rw [hed] at he
        have h32 : ¬ (s[k].toNat : Int) ≤ 32 := of_decide_eq_false he.symm
        have h33 : 32 < (s[k].toNat : Int) := by omega
        clear he h32
        by_cases hf : f < 0
        · have hf1 : f = -1 := by rcases hsn with ⟨h, _⟩ | ⟨a, b, h, _⟩ <;> omega
          subst hf1
          have hn := seen_first hsn hed
          rw [← take_snoc s k hp, hl] at hn
          have HN := Lib.hid hn; clear hn hsn hed hl
          go_wp2
          go_round
          case rel => exact ⟨k + 1, k, k, rfl, rfl, by go_num, by omega, HN.out⟩
          case measure => simp [intOf]; omega
        · have hf0 : 0 ≤ f := by omega
          have hn := seen_more hsn hf0 hed
          rw [← take_snoc s k hp, hl] at hn
          have HN := Lib.hid hn; clear hn hsn hed hl
          go_wp2
          go_round
          case rel => exact ⟨k + 1, f, k, rfl, rfl, by go_num, by omega, HN.out⟩
          case measure => simp [intOf]; omega
    · have hk : (L s).take k = L s := List.take_of_length_le (by rw [size_L]; omega)
      rw [hk] at hsn
      have ho0 := OwnB.made w
      have hb0 : Below w.heap.size w (w.alloc (.cells #[] 5)) := (Below.refl _ _).alloc (Nat.le_refl _) _
      rcases hsn with ⟨h1, h2, h3⟩ | ⟨a, b, h1, h2, hab, hb, hf, hg⟩
      · subst h1
        subst h2
        have hfin : B (stripL (L s)) = B [] := by
          unfold stripL
          rw [front_none h3]
          rfl
        have hmx : ∀ ts t w, (Builtin.max_ ts t #[.int .i64 0, .int .i64 (-1)]).run Try.prog w = .ok (.int .i64 0) w := fun ts t w => by rw [run_max_int2]; rfl
        have HF := Lib.hid hfin; clear hfin hk h3
        go_wp2
        go_loopw [6, 7] (fun v i wr => i = .int .i64 0 ∧ OwnB w.heap.size wr v [] ∧ Below w.heap.size w wr) (fun _ _ _ => 0)
        case atStart => exact ⟨rfl, ho0, hb0⟩
        case round =>
          clear ho0 hb0 hmx
          obtain ⟨rfl, hown, hbel⟩ := hrel
          have hcv := hown.string
          clear hown
          go_wp2
          go_ret
          exact ⟨ret_str (by rw [HF.out]), hbel⟩
      · subst h1
        subst h2
        have hfin : stripL (L s) = kept (((L s).drop a).take (b + 1 - a)) := by
          unfold stripL
          rw [seen_core hb hab hf hg]
        have hbs : b < s.size := by rw [size_L] at hb; exact hb
        have hmx : ∀ ts t w, (Builtin.max_ ts t #[.int .i64 0, .int .i64 (a : Int)]).run Try.prog w = .ok (.int .i64 a) w := fun ts t w => by
          rw [run_max_int2]
          congr 2
          split <;> omega
        have HF := Lib.hid hfin; clear hfin hk hf hg hb
        go_wp2
        go_loopw [6, 7] (fun v i wr => ∃ (j : Nat), i = .int .i64 j ∧ a ≤ j ∧ j ≤ b + 1 ∧ OwnB w.heap.size wr v (kept (((L s).drop a).take (j - a))) ∧ Below w.heap.size w wr) (fun _ i _ => b + 1 - (intOf i).toNat)
        case atStart => exact ⟨a, rfl, Nat.le_refl _, by omega, by rw [Nat.sub_self, List.take_zero]; exact ho0, hb0⟩
        case round =>
          clear ho0 hb0 hmx
          obtain ⟨j, rfl, hkj, hjm, hown, hbel⟩ := hrel
          have hN := hbel.size
          by_cases hq : j ≤ b
          · have hjs : j < s.size := by omega
            have hnext := piece_next s a j hkj hjs
            have hlen : (kept (((L s).drop a).take (j - a))).length + 1 ≤ 140737488355328 := by
              have := kept_len (((L s).drop a).take (j - a))
              rw [List.length_take] at this
              omega
            have e9 : ((s[j].toNat : Int) != 9) = !(s[j] == 9) := by rw [← u8_eq]; rfl
            have e10 : ((s[j].toNat : Int) != 10) = !(s[j] == 10) := by rw [← u8_eq]; rfl
            have e13 : ((s[j].toNat : Int) != 13) = !(s[j] == 13) := by rw [← u8_eq]; rfl
            have hkn : kept (((L s).drop a).take (j + 1 - a)) = kept (((L s).drop a).take (j - a)) ++ kept [s[j]] := by rw [hnext, kept_append]
            have HO := Lib.hid hown; have HB := Lib.hid hbel
            clear hown hbel hnext
            cases hin : inn s[j] with
            | true =>
              rw [kept_yes hin, List.append_nil] at hkn
              have HK := Lib.hid hkn; clear hkn
              unfold inn at hin
              cases h9 : s[j] == 9 with
              | true =>
                rw [h9] at e9
                clear h9 hin e10 e13
                go_wp2
                go_roundw
                case rel => exact ⟨j + 1, by go_num, by omega, by omega, by rw [HK.out]; exact HO.out, HB.out⟩
                case measure => simp [intOf]; omega
              | false =>
              cases h10 : s[j] == 10 with
              | true =>
                rw [h9] at e9
                rw [h10] at e10
                clear h9 h10 hin e13
                go_wp2
                go_roundw
                case rel => exact ⟨j + 1, by go_num, by omega, by omega, by rw [HK.out]; exact HO.out, HB.out⟩
                case measure => simp [intOf]; omega
              | false =>
                have h13 : s[j] == 13 := by rw [h9, h10] at hin; simpa using hin
                rw [h9] at e9
                rw [h10] at e10
                rw [h13] at e13
                clear h9 h10 hin h13
                go_wp2
                go_roundw
                case rel => exact ⟨j + 1, by go_num, by omega, by omega, by rw [HK.out]; exact HO.out, HB.out⟩
                case measure => simp [intOf]; omega
            | false =>
              rw [kept_no hin] at hkn
              have HK := Lib.hid hkn; clear hkn
              unfold inn at hin
              simp only [Bool.or_eq_false_iff] at hin
              rw [hin.1.1] at e9
              rw [hin.1.2] at e10
              rw [hin.2] at e13
              clear hin
              go_wp2_with (at_builtin; refine app_byte wr rfl (.tmp 46) (.tmp 50) rfl w.heap.size _ (kept (((L s).drop a).take (j - a))) s[j] rfl HO.out rfl hlen hN ?_; intro v2 w2 hown2 hk2)
              go_roundw
              case rel => exact ⟨j + 1, by go_num, by omega, by omega, by rw [HK.out]; exact hown2, hk2 _ HB.out⟩
              case measure => simp [intOf]; omega
          · obtain rfl : j = b + 1 := by omega
            have hcv := hown.string
            have HB := Lib.hid hbel
            clear hown hbel
            go_wp2
            go_ret
            exact ⟨ret_str (by rw [HF.out]), HB.out⟩

theorem refLetter1 (c : UInt8) (w : World) (q : Bool) (h : lr c = q) : Calls Try.prog 117 #[.int .u8 c.toNat] w fun e w' => e = .returned (.bool q) ∧ w = w' := by
  have k := refLetter_any c w
  rw [h] at k
  exact k

set_option maxHeartbeats 8000000 in
theorem refColon_any (s : ByteArray) (w : World) (hs : s.size ≤ 140737488355328) (o : Option Nat) (ho : colonL (L s) = o) :
    Calls Try.prog 101 #[.string s] w fun e w' => e = .returned (.int .i64 ((o.map fun k => (k : Int)).getD (-1))) ∧ w = w' := by
  have HO := Lib.hid ho; clear ho
  go_enter Try.func101, Try.ntmps101
  go_wp2
  go_loop [3] (fun i => ∃ k : Nat, i = .int .i64 k ∧ k ≤ s.size ∧ Lk.upTo (L s) k) (fun i => s.size - (intOf i).toNat)
  case atStart => exact ⟨0, rfl, Nat.zero_le _, upTo_zero _⟩
  case round =>
    obtain ⟨k, rfl, hks, hu⟩ := hrel
    by_cases hp : k < s.size
    · have hpl : k < (L s).length := by rw [size_L]; exact hp
      have hg : (L s)[k] = s[k] := rfl
      have e58 : ((s[k].toNat : Int) == 58) = (s[k] == 58) := u8_eq (b := 58)
      have e43 : ((s[k].toNat : Int) != 43) = !(s[k] == 43) := by rw [← u8_eq]; rfl
      have e45 : ((s[k].toNat : Int) != 45) = !(s[k] == 45) := by rw [← u8_eq]; rfl
      have e46 : ((s[k].toNat : Int) != 46) = !(s[k] == 46) := by rw [← u8_eq]; rfl
      have hno : ∀ d : Bool, ((k : Int) == 0) = d → d = decide (k = 0) := fun d h => by rw [← h, Bool.eq_iff_iff]; simp
      cases h58 : s[k] == 58 with
      | true =>
        have hc : s[k] = 58 := by simpa using h58
        have hst := upTo_stop hu hpl (by rw [hg, hc]; exact sch_58 _)
        rw [h58] at e58
        by_cases h0 : 0 < k
        · have ho := colon_stop hst h0 hpl (by rw [hg]; exact hc)
          rw [HO.out] at ho
          subst ho
          have h0' : (0 : Int) < (k : Int) := by omega
          clear hst hu hc h58 hno hg e43 e45 e46
          go_wp2
          go_ret
          exact ⟨rfl, rfl⟩
        · have ho := colon_not hst (.inl (by omega))
          rw [HO.out] at ho
          subst ho
          obtain rfl : k = 0 := by omega
          have hl : lr s[0] = false := by rw [hc]; rfl
          have HL := Lib.hid hl
          clear hst hu hc h58 hno hg hl
          go_wp2_with fail
          refine (refLetter1 s[0] _ _ HL.out).mono ?_
          rintro e w' ⟨rfl, rfl⟩
          go_wp2
          go_ret
          exact ⟨rfl, rfl⟩
      | false =>
        rw [h58] at e58
        have hc : s[k] ≠ 58 := by simpa using h58
        cases hl : lr s[k] with
        | true =>
          have hn := upTo_next hu hpl (by rw [hg]; unfold sch; rw [hl]; rfl)
          have HN := Lib.hid hn; have HL := Lib.hid hl
          clear hu hn hl hc h58 hno hg e43 e45 e46
          go_wp2_with fail
          refine (refLetter1 s[k] _ _ HL.out).mono ?_
          rintro e w' ⟨rfl, rfl⟩
          go_wp2
          go_round
          case rel => exact ⟨k + 1, by go_num, by omega, HN.out⟩
          case measure => simp [intOf]; omega
        | false =>
          have HL := Lib.hid hl
          by_cases h0 : k = 0
          · have hst := upTo_stop hu hpl (by rw [hg]; unfold sch; rw [hl, decide_eq_false (by omega)]; rfl)
            have ho := colon_not hst (.inl h0)
            rw [HO.out] at ho
            subst ho
            subst h0
            clear hst hu hc h58 hno hg hl e43 e45 e46
            go_wp2_with fail
            refine (refLetter1 s[0] _ _ HL.out).mono ?_
            rintro e w' ⟨rfl, rfl⟩
            go_wp2
            go_ret
            exact ⟨rfl, rfl⟩
          · have e0 : ((k : Int) == 0) = false := by rw [hno _ rfl]; exact decide_eq_false h0
            have hoth : sch (decide (0 < k)) (L s)[k] = oth s[k] := by rw [hg]; unfold sch; rw [hl, decide_eq_true (by omega)]; rfl
            rw [oth_of] at hoth
            have hyes : sch (decide (0 < k)) (L s)[k] = true → Lk.upTo (L s) (k + 1) := fun h => upTo_next hu hpl h
            have hnot : sch (decide (0 < k)) (L s)[k] = false → o = none := fun h => by
              rw [← HO.out]
              exact colon_not (upTo_stop hu hpl h) (.inr (.inr ⟨hpl, by rw [hg]; exact hc⟩))
            have HY := Lib.hid hyes; have HN := Lib.hid hnot; have HT := Lib.hid hoth
            clear hyes hnot hoth hu hc h58 hno hg hl h0
            by_cases h48 : (48 : Int) ≤ s[k].toNat <;> by_cases h57 : (s[k].toNat : Int) ≤ 57 <;> cases h43 : (s[k] == 43) <;> cases h45 : (s[k] == 45) <;> cases h46 : (s[k] == 46)
            all_goals
              rw [h43] at e43
              rw [h45] at e45
              rw [h46] at e46
              have hres := HT.out
              rw [h43, h45, h46] at hres
              simp [h48, h57] at hres
              have HR := Lib.hid hres
              clear hres h43 h45 h46
              go_wp2_with fail
              refine (refLetter1 s[k] _ _ HL.out).mono ?_
              rintro e w' ⟨rfl, rfl⟩
              go_wp2
              all_goals first
                | (exfalso; have hx : (!decide ((s[k].toNat : Int) ≤ 57)) = false := by assumption
                   simp at hx; omega)
                | (go_ret
                   exact ⟨by rw [HN.out HR.out]; rfl, rfl⟩)
                | (go_round
                   case rel => exact ⟨k + 1, by go_num, by omega, HY.out HR.out⟩
                   case measure => simp [intOf]; omega)
    · have ho := colon_not (upTo_end hu (by rw [size_L]; omega)) (.inr (.inl (by rw [size_L]; omega)))
      rw [HO.out] at ho
      subst ho
      clear hu
      go_wp2
      go_ret
      exact ⟨rfl, rfl⟩

def colonI (o : Option Nat) : Int := (o.map fun k => (k : Int)).getD (-1)
theorem refColon1 (s : ByteArray) (w : World) (hs : s.size ≤ 140737488355328) (o : Option Nat) (ho : colonL (L s) = o) (i : Int) (hi : colonI o = i) :
    Calls Try.prog 101 #[.string s] w fun e w' => e = .returned (.int .i64 i) ∧ w = w' := by
  have k := refColon_any s w hs o ho
  rw [← hi]
  exact k

set_option maxHeartbeats 2000000 in
theorem refScheme_any (s : ByteArray) (w : World) (hs : s.size ≤ 140737488355328) :
    Calls Try.prog 75 #[.string s] w fun e w' => e = .returned (schemeV (schemeO (L s))) ∧ Below w.heap.size w w' := by
  obtain ⟨t, ht⟩ : ∃ t, B (stripL (L s)) = t := ⟨_, rfl⟩
  have hL : L t = stripL (L s) := by rw [← ht, L_B]
  have hts : t.size ≤ 140737488355328 := by rw [← size_L, hL]; exact Nat.le_trans (strip_len _) (by rw [size_L]; exact hs)
  obtain ⟨o, ho⟩ : ∃ o, colonL (L t) = o := ⟨_, rfl⟩
  have hans : schemeO (L s) = o.map fun k => lowL ((L t).take k) := by unfold schemeO; rw [← hL, ho]
  have HA := Lib.hid hans; have HO := Lib.hid ho; have HT := Lib.hid ht
  have hlt : ∀ k, o = some k → k < t.size := fun k h => by
    have := (colon_lt (ho.trans h)).2.1
    rw [size_L] at this
    exact this
  have HLT := Lib.hid hlt
  clear hans ho hL ht hlt
  go_enter Try.func75, Try.ntmps75
  go_wp2_with fail
  refine (refStrip_any s w hs).mono ?_
  rw [HT.out]
  rintro e w1 ⟨rfl, hb1⟩
  have HB1 := Lib.hid hb1; clear hb1
  cases o with
  | none =>
    go_wp2_with fail
    refine (refColon1 t w1 hts none HO.out (-1) rfl).mono ?_
    rintro e w2 ⟨rfl, rfl⟩
    go_wp2
    go_ret2
    exact ⟨by rw [HA.out]; rfl, HB1.out⟩
  | some k =>
    have hk := HLT.out k rfl
    have hxs : (t.extract 0 k).size ≤ 140737488355328 := Nat.le_trans (size_extract _ _ _) hts
    have hLx : lowL (L (t.extract 0 k)) = lowL ((L t).take k) := by rw [L_extract, List.drop_zero, Nat.sub_zero]
    have HX := Lib.hid hLx; clear hLx
    go_wp2_with fail
    refine (refColon1 t w1 hts (some k) HO.out k rfl).mono ?_
    rintro e w2 ⟨rfl, rfl⟩
    go_wp2_with fail
    refine (refLower_any (t.extract 0 k) w1 hxs).mono ?_
    rintro e w2 ⟨rfl, hb2⟩
    go_wp2
    go_ret2
    exact ⟨by rw [HA.out, HX.out]; rfl, bt HB1.out hb2⟩

end Go.Proofs.Ytgjlfcamgkeibaa.Lk

namespace Go.Proofs.Ytgjlfcamgkeibaa.Rk
set_option maxRecDepth 100000
set_option linter.unusedVariables false
set_option linter.unusedSimpArgs false
open Go.RowKit Go.Maps Ba Fm Lk Ml Fo
open Ro (At Ro)
theorem hand_three {l : List UInt8} (h : ¬ 2 < l.length) : hand l = false := by
  match l, h with
  | [], _ | [_], _ | [_, _], _ => rfl
  | x :: y :: z :: r, e => exact absurd (by simp) e
theorem refHandler1 (a : ByteArray) (w : World) (q : Bool) (hq : hand (L a) = q) :
    Calls Try.prog 103 #[.string a] w fun r w' => r = .returned (.bool q) ∧ w = w' := by
  by_cases h : 2 < a.size
  · have h0 : 0 < a.size := by omega
    have h1 : 1 < a.size := by omega
    have hc : ((a[0] == 111) && (a[1] == 110)) = q := by
      rw [← hq]
      have d0 := drop_cons a 0 h0
      have d1 := drop_cons a 1 h1
      have hl : 2 < (L a).length := by rw [size_L]; exact h
      match hL : L a, hl with
      | x :: y :: z :: r, _ =>
        rw [hL] at d0 d1
        simp only [List.drop_zero, List.drop_succ_cons, List.cons.injEq] at d0 d1
        rw [← d0.1, ← d1.1]
        rfl
    have u0 : ((a[0].toNat : Int) == 111) = (a[0] == 111) := u8_eq (b := 111)
    have u1 : ((a[1].toNat : Int) == 110) = (a[1] == 110) := u8_eq (b := 110)
    obtain ⟨b0, e0⟩ : ∃ b, (a[0] == 111) = b := ⟨_, rfl⟩
    obtain ⟨b1, e1⟩ : ∃ b, (a[1] == 110) = b := ⟨_, rfl⟩
    rw [e0, e1] at hc
    rw [e0] at u0
    rw [e1] at u1
    have HC := Lib.hid hc
    clear hq hc e0 e1
    have h' : (2 : Int) < a.size := by omega
    cases b0 with
    | true =>
      go_enter Try.func103, Try.ntmps103
      go_wp2
      go_ret
      exact ⟨ret_bool (by rw [← HC.out]; simp), rfl⟩
    | false =>
      go_enter Try.func103, Try.ntmps103
      go_wp2
      go_ret
      exact ⟨ret_bool (by rw [← HC.out]; rfl), rfl⟩
  · have h' : decide ((2 : Int) < a.size) = false := decide_eq_false (by omega)
    have : q = false := by
      rw [← hq]
      exact hand_three (by rw [size_L]; exact h)
    subst this
    clear hq
    go_enter Try.func103, Try.ntmps103
    go_wp2
    go_ret
    exact ⟨rfl, rfl⟩

theorem plain1 (s : ByteArray) (w : World) (hs : s.size ≤ 140737488355328) (q : Bool) (hq : decide ((32 : UInt8) ∉ L s) = q) :
    Calls Try.prog 118 #[.string s] w fun r w' => r = .returned (.bool q) ∧ w = w' := by
  have HQ := Lib.hid hq
  clear hq
  go_enter Try.func118, Try.ntmps118
  go_wp2
  go_loop [3] (fun i => ∃ k : Nat, i = .int .i64 k ∧ k ≤ s.size ∧ Hid ((32 : UInt8) ∉ (L s).take k)) (fun i => s.size - (intOf i).toNat)
  case atStart => exact ⟨0, rfl, Nat.zero_le _, Lib.hid (by simp)⟩
  case round =>
    obtain ⟨k, rfl, hk, hn⟩ := hrel
    by_cases hp : k < s.size
    · have ht := take_snoc s k hp
      have HT := Lib.hid ht
      clear ht
      have u32 : ((s[k].toNat : Int) == 32) = (s[k] == 32) := u8_eq (b := 32)
      obtain ⟨b, hb⟩ : ∃ b, (s[k] == 32) = b := ⟨_, rfl⟩
      rw [hb] at u32
      have HB := Lib.hid hb
      cases b with
      | true =>
        have he : q = false := by
          rw [← HQ.out]
          refine decide_eq_false fun h => h ?_
          have := HT.out ▸ List.mem_append_right ((L s).take k) (List.mem_singleton.2 (eq_of_beq hb).symm)
          exact List.mem_of_mem_take this
        subst he
        clear HQ hb
        go_wp2
        go_ret
        exact ⟨rfl, rfl⟩
      | false =>
        have hn' : (32 : UInt8) ∉ (L s).take (k + 1) := by
          rw [HT.out, List.mem_append]
          rintro (h | h)
          · exact hn.out h
          · rw [← List.mem_singleton.1 h] at hb
            cases hb
        have HN := Lib.hid hn'
        clear hn' hb
        go_wp2
        go_round
        case rel => exact ⟨k + 1, by go_num, by omega, HN⟩
        case measure => simp [intOf]; omega
    · have he : q = true := by
        rw [← HQ.out]
        have := hn.out
        rw [List.take_of_length_le (by rw [size_L]; omega)] at this
        exact decide_eq_true this
      subst he
      clear HQ
      go_wp2
      go_ret
      exact ⟨rfl, rfl⟩

/-! ### Pairs, joined by a blank. -/
theorem joined_any (P : List (ByteArray × ByteArray)) (e a : ByteArray) : (P.any fun p => decide (joinP p = joinP (e, a))) = isIn (joinP (e, a)) (P.map joinP) := by
  rw [Bool.eq_iff_iff, List.any_eq_true]
  constructor
  · rintro ⟨p, hp, h⟩
    exact isIn_yes (by rw [← of_decide_eq_true h]; exact List.mem_map.2 ⟨p, hp, rfl⟩)
  · intro h
    obtain ⟨p, hp, hj⟩ := List.mem_map.1 (isIn_of h)
    exact ⟨p, hp, decide_eq_true hj⟩
theorem sv2 (w : World) (x y : ByteArray) : Rd (w.alloc (.cells #[.string x, .string y] 9)) (w.alloc (.cells #[.string x, .string y] 9)).heap.size (some ⟨w.heap.size, 0, none⟩) [x, y] := (sv_lit w [x, y]).rd
theorem has2 (x y s : ByteArray) (w : World) (q : Bool) (hq : isIn s [x, y] = q) : Calls Try.prog 61 #[.slice (some ⟨w.heap.size, 0, none⟩) 2 2, .string s] (w.alloc (.cells #[.string x, .string y] 9)) fun e w' => e = .returned (.bool q) ∧ (w.alloc (.cells #[.string x, .string y] 9)) = w' := by
  have := has_any (some ⟨w.heap.size, 0, none⟩) 2 _ [x, y] s _ (sv2 w x y) (by simp)
  rw [hq] at this
  exact this
set_option maxRecDepth 100000 in
set_option maxHeartbeats 1000000 in
theorem pair_any (A : Option Addr) (c N : Nat) (l : List ByteArray) (e a : ByteArray) (w : World) (hr : Rd w N A l) (hN : N ≤ w.heap.size) (hl : l.length ≤ 1000000) (he : e.size ≤ 140737488355328) (ha : a.size ≤ 140737488355328) (q : Bool) (hq : (isIn (joinP (e, a)) l && namesB e a) = q) :
    Calls Try.prog 104 #[.slice A l.length c, .string e, .string a] w fun r w' => r = .returned (.bool q) ∧ Below w.heap.size w w' := by
  obtain ⟨t, ht⟩ : ∃ t, e ++ ⟨#[32]⟩ ++ a = t := ⟨_, rfl⟩
  have hjt : joinP (e, a) = t := ht
  rw [hjt] at hq
  obtain ⟨p2, hp2⟩ : ∃ b, decide ((32 : UInt8) ∉ L e) = b := ⟨_, rfl⟩
  obtain ⟨p1, hp1⟩ : ∃ b, isIn (⟨#[]⟩ : ByteArray) [e, a] = b := ⟨_, rfl⟩
  unfold namesB at hq
  rw [hp1, hp2] at hq
  have HQ := Lib.hid hq; have H1 := Lib.hid hp1; have H2 := Lib.hid hp2; have HT := Lib.hid ht
  have hs1 : ¬ 9223372036854775807 < e.size + 1 := by omega
  have hs2 : ¬ 9223372036854775807 < e.size + 1 + a.size := by omega
  clear hq hp1 hp2 ht hjt
  go_enter Try.func104, Try.ntmps104
  go_wp2
  go_loopw [7] (fun i wr => ∃ k : Nat, i = .int .i64 k ∧ k ≤ l.length ∧ Hid (q = true → t ∉ l.take k) ∧ Below w.heap.size w wr) (fun i _ => l.length - (intOf i).toNat)
  case atStart => exact ⟨0, rfl, Nat.zero_le _, Lib.hid (by simp), Below.refl _ _⟩
  case round =>
    obtain ⟨k, rfl, hk, hn, hbel⟩ := hrel
    have hsz := hbel.size
    by_cases hp : k < l.length
    · obtain ⟨b, off, rfl, hbN, hc⟩ := hr (by omega)
      have hcell := (hbel.cell (p := ⟨b, off + k, none⟩) (Nat.lt_of_lt_of_le hbN hN)).trans (hc k hp)
      clear hc hr
      have heq := eq_of_toList (a := l[k]) (b := e ++ ⟨#[32]⟩ ++ a)
      rw [HT.out] at heq
      by_cases hx : l[k] = t
      · rw [decide_eq_true hx] at heq
        rw [← HT.out] at heq
        have HX := Lib.hid hx; clear hx
        have htl : isIn t l = true := isIn_yes (by have := HX.out; rw [← this]; exact List.getElem_mem _)
        have hq' : (!p1 && p2) = q := by
          have := HQ.out
          rw [htl, Bool.true_and] at this
          exact this
        have HQ' := Lib.hid hq'
        clear hq' htl hn HQ
        go_wp2_with fail
        refine (has2 e a _ _ p1 H1.out).mono ?_
        rintro r w1 ⟨rfl, rfl⟩
        have hb1 := Lib.hid (hbel.alloc hsz (.cells #[.string e, .string a] 9))
        cases p1 with
        | true =>
          have hf : q = true → t ∉ l.take (k + 1) := fun h => by
            rw [← HQ'.out] at h
            cases h
          have HF := Lib.hid hf
          clear hf
          go_wp2
          go_roundw
          case rel => exact ⟨k + 1, by go_num, by omega, HF, hb1.out⟩
          case measure => simp [intOf]; omega
        | false =>
          go_wp2_with fail
          refine (plain1 e _ he p2 H2.out).mono ?_
          rintro r w2 ⟨rfl, rfl⟩
          cases p2 with
          | true =>
            go_wp2
            go_ret
            exact ⟨ret_bool (by rw [← HQ'.out]; rfl), hb1.out⟩
          | false =>
            have hf : q = true → t ∉ l.take (k + 1) := fun h => by
              rw [← HQ'.out] at h
              cases h
            have HF := Lib.hid hf
            clear hf
            go_wp2
            go_roundw
            case rel => exact ⟨k + 1, by go_num, by omega, HF, hb1.out⟩
            case measure => simp [intOf]; omega
      · rw [decide_eq_false hx] at heq
        rw [← HT.out] at heq
        have HX := Lib.hid hx; clear hx
        have hn' : q = true → t ∉ l.take (k + 1) := fun h => has_snoc l t k hp (hn.out h) HX.out
        have HN := Lib.hid hn'
        clear hn hn'
        go_wp2
        go_roundw
        case rel => exact ⟨k + 1, by go_num, by omega, HN, hbel⟩
        case measure => simp [intOf]; omega
    · have he : q = false := by
        rw [← Bool.not_eq_true]
        intro h
        have h1 := hn.out h
        rw [List.take_of_length_le (by omega)] at h1
        have h2 := HQ.out
        rw [h, Bool.and_eq_true] at h2
        exact h1 (isIn_of h2.1)
      subst he
      clear HQ
      go_wp2
      go_ret
      exact ⟨rfl, hbel⟩
theorem below_lit (w : World) (l : List ByteArray) : Below w.heap.size w (w.alloc (.cells (l.map sc).toArray 9)) := below_one w _
theorem leads1 (w : World) : Calls Try.prog 106 #[] w fun r w' => r = .returned (.slice (some ⟨w.heap.size, 0, none⟩) 9 9) ∧ Rd w' w'.heap.size (some ⟨w.heap.size, 0, none⟩) (leadsL.map joinP) ∧ Below w.heap.size w w' := by
  have hs := (sv_lit w (leadsL.map joinP)).rd
  have hb := below_lit w (leadsL.map joinP)
  go_enter Try.func106, Try.ntmps106
  go_wp2
  go_ret
  exact ⟨rfl, hs, hb⟩
theorem takes1 (w : World) : Calls Try.prog 105 #[] w fun r w' => r = .returned (.slice (some ⟨w.heap.size, 0, none⟩) 3 3) ∧ Rd w' w'.heap.size (some ⟨w.heap.size, 0, none⟩) (takesL.map joinP) ∧ Below w.heap.size w w' := by
  have hs := (sv_lit w (takesL.map joinP)).rd
  have hb := below_lit w (takesL.map joinP)
  go_enter Try.func105, Try.ntmps105
  go_wp2
  go_ret
  exact ⟨rfl, hs, hb⟩
theorem refNav1 (e a : ByteArray) (he : e.size ≤ 140737488355328) (ha : a.size ≤ 140737488355328) (w : World) (q : Bool) (hq : navB e a = q) :
    Calls Try.prog 77 #[.string e, .string a] w fun r w' => r = .returned (.bool q) ∧ Below w.heap.size w w' := by
  have hq' : (isIn (joinP (e, a)) (leadsL.map joinP) && namesB e a) = q := by
    rw [← hq, ← joined_any]
    exact (pair_ref good_leads e a).symm
  have HQ := Lib.hid hq'
  clear hq hq'
  go_enter Try.func77, Try.ntmps77
  go_wp2_with fail
  refine (leads1 w).mono ?_
  rintro r w1 ⟨rfl, s1, b1⟩
  have S1 := Lib.hid s1; have B1 := Lib.hid b1
  clear s1 b1
  go_wp2_with fail
  refine (pair_any _ 9 _ (leadsL.map joinP) e a w1 S1.out (Nat.le_refl _) (by decide) he ha q HQ.out).mono ?_
  rintro r w2 ⟨rfl, b2⟩
  have B2 := Lib.hid (B1.out.trans (b2.mono B1.out.size))
  clear b2
  go_wp2
  go_ret
  exact ⟨rfl, B2.out⟩
theorem sinkN_of {e a : ByteArray} {p d : Bool} (hh : hand (L a) = false) (hp : pairB takesL e a = p) (hd : docB e a = d) : sinkN e a = if p = true then 3 else if d = true then 1 else 0 := by
  unfold sinkN
  rw [if_neg (by rw [hh]; decide), hp, hd]
theorem refSink1 (e a : ByteArray) (he : e.size ≤ 140737488355328) (ha : a.size ≤ 140737488355328) (w : World) (n : Nat) (hn : sinkN e a = n) :
    Calls Try.prog 76 #[.string e, .string a] w fun r w' => r = .returned (.int .i64 n) ∧ Below w.heap.size w w' := by
  cases hh : hand (L a) with
  | true =>
    have : n = 2 := by rw [← hn]; unfold sinkN; rw [if_pos hh]
    subst this
    clear hn
    go_enter Try.func76, Try.ntmps76
    go_wp2_with fail
    refine (refHandler1 a w true hh).mono ?_
    rintro r w1 ⟨rfl, rfl⟩
    clear hh
    go_wp2
    go_ret
    exact ⟨rfl, Below.refl _ _⟩
  | false =>
  obtain ⟨p, hp⟩ : ∃ p, pairB takesL e a = p := ⟨_, rfl⟩
  have hq' : (isIn (joinP (e, a)) (takesL.map joinP) && namesB e a) = p := by
    rw [← hp, ← joined_any]
    exact (pair_ref good_takes e a).symm
  obtain ⟨d1, hd1⟩ : ∃ d, (e.toList == [105, 102, 114, 97, 109, 101]) = d := ⟨_, rfl⟩
  obtain ⟨d2, hd2⟩ : ∃ d, (a.toList == [115, 114, 99, 100, 111, 99]) = d := ⟨_, rfl⟩
  have hd : docB e a = (d1 && d2) := by
    rw [eqlit] at hd1 hd2
    rw [← hd1, ← hd2]
    rfl
  have hs := sinkN_of hh hp hd
  rw [hn] at hs
  have HQ := Lib.hid hq'; have HS := Lib.hid hs; have HH := Lib.hid hh
  clear hq' hs hd hp hn hh
  go_enter Try.func76, Try.ntmps76
  go_wp2_with fail
  refine (refHandler1 a w false HH.out).mono ?_
  rintro r w0 ⟨rfl, rfl⟩
  go_wp2_with fail
  refine (takes1 w).mono ?_
  rintro r w1 ⟨rfl, s1, b1⟩
  have S1 := Lib.hid s1; have B1 := Lib.hid b1
  clear s1 b1
  go_wp2_with fail
  refine (pair_any _ 3 _ (takesL.map joinP) e a w1 S1.out (Nat.le_refl _) (by decide) he ha p HQ.out).mono ?_
  rintro r w2 ⟨rfl, b2⟩
  have B2 := Lib.hid (B1.out.trans (b2.mono B1.out.size))
  clear b2
  cases p with
  | true =>
    go_wp2
    go_ret
    exact ⟨ret_int (by rw [HS.out]; rfl), B2.out⟩
  | false =>
    cases d1 with
    | false =>
      go_wp2
      go_ret
      exact ⟨ret_int (by rw [HS.out]; rfl), B2.out⟩
    | true =>
      cases d2 with
      | false =>
        go_wp2
        go_ret
        exact ⟨ret_int (by rw [HS.out]; rfl), B2.out⟩
      | true =>
        go_wp2
        go_ret
        exact ⟨ret_int (by rw [HS.out]; rfl), B2.out⟩

theorem js_name {v x : ByteArray} (hx : B (schemeL (L v)) = x) : (x.toList == [106, 97, 118, 97, 115, 99, 114, 105, 112, 116]) = scriptL (L v) := by
  rw [← hx]
  exact js_list _
set_option maxRecDepth 100000 in
theorem refAttr1 (e : ByteArray) (a : At) (he : e.size ≤ 140737488355328) (ha : a.name.size ≤ 140737488355328) (hv : a.value.size ≤ 140737488355328) (w : World) (q : Bool) (hq : attrB e a = q) :
    Calls Try.prog 33 #[.string e, .agg #[.string a.name, .string a.value]] w fun r w' => r = .returned (.bool q) ∧ Below w.heap.size w w' := by
  obtain ⟨n, v⟩ := a
  simp only at ha hv ⊢
  obtain ⟨k, hk⟩ : ∃ k, sinkN e n = k := ⟨_, rfl⟩
  obtain ⟨b, hb⟩ : ∃ b, navB e n = b := ⟨_, rfl⟩
  obtain ⟨x, hx⟩ : ∃ x, B (schemeL (L v)) = x := ⟨_, rfl⟩
  obtain ⟨y, hy⟩ : ∃ y, hasL (L v) = y := ⟨_, rfl⟩
  obtain ⟨s, hs⟩ : ∃ s, scriptL (L v) = s := ⟨_, rfl⟩
  have hj := js_name hx
  rw [hs] at hj
  have hsv : schemeV (schemeO (L v)) = .tuple #[.string x, .bool y] := by rw [← hx, ← hy]; rfl
  have hq' : (decide (k ≠ 0) || (b && s)) = q := by
    rw [← hq, ← hk, ← hb, ← hs]
    rfl
  have HK := Lib.hid hk; have HB := Lib.hid hb; have HQ := Lib.hid hq'; have HSV := Lib.hid hsv
  clear hk hb hs hq hq' hx hy hsv
  go_enter Try.func33, Try.ntmps33
  go_wp2_with fail
  have K := refScheme_any v (w.alloc (.cells #[.string n, .string v] 40)) hv
  rw [HSV.out] at K
  refine K.mono ?_
  rintro r w1 ⟨rfl, b1⟩
  have c0 := abox_kept b1 0
  simp only [Ro.acells, List.getElem?_cons_zero] at c0
  have hlt : w.heap.size < w1.heap.size := Nat.lt_of_lt_of_le (by simp) b1.size
  have B1 := Lib.hid ((Ro.below_new w _).trans (b1.mono (by simp)))
  clear b1 K
  go_wp2_with fail
  refine (refSink1 e n he ha _ k HK.out).mono ?_
  rintro r w2 ⟨rfl, b2⟩
  have d0 := (b2.cell (p := ⟨w.heap.size, 0, none⟩) hlt).trans c0
  have B2 := Lib.hid (B1.out.trans (b2.mono B1.out.size))
  clear b2 c0
  by_cases h0 : k = 0
  · subst h0
    go_wp2_with fail
    refine (refNav1 e n he ha _ b HB.out).mono ?_
    rintro r w3 ⟨rfl, b3⟩
    have B3 := Lib.hid (B2.out.trans (b3.mono B2.out.size))
    clear b3
    cases b with
    | true =>
      cases s with
      | true =>
        go_wp2
        go_ret
        exact ⟨ret_bool (by rw [← HQ.out]; rfl), B3.out⟩
      | false =>
        go_wp2
        go_ret
        exact ⟨ret_bool (by rw [← HQ.out]; rfl), B3.out⟩
    | false =>
      go_wp2
      go_ret
      exact ⟨ret_bool (by rw [← HQ.out]; rfl), B3.out⟩
  · have h0n : ¬ (k : Int) = 0 := by omega
    have hq1 : true = q := by rw [← HQ.out, decide_eq_true h0]; rfl
    subst hq1
    go_wp2
    go_ret
    exact ⟨rfl, B2.out⟩
end Go.Proofs.Ytgjlfcamgkeibaa.Rk

namespace Go.Proofs.Ytgjlfcamgkeibaa.To
set_option maxRecDepth 100000
set_option linter.unusedSimpArgs false
set_option linter.unusedVariables false
open Go.RowKit Ba
open Ro (At acells len_acells below_new Sh Ra acells_one info_attr)
/-- Attributes of the call's own. -/
def Aw (N : Nat) (w : World) (v : Value) (l : List At) : Prop := w.ownsRow N 40 2 v l.length (l.flatMap acells) ∧ Sh l
theorem Aw.nil (N : Nat) (w : World) : Aw N w (.slice none 0 0) [] := ⟨World.ownsRow_nil w N _ 2, fun _ h => by simp at h⟩
/-- A block that is none of attributes is not theirs. -/
theorem Aw.ne {N b : Nat} {w : World} {v : Value} {l : List At} (h : Aw N w v l) {cs : Array Value} {t : TypeId} {fr : Nat × Nat} (hb : w.heap[b]? = some (.cells cs t fr)) (ht : t ≠ 40) : v.ownBlock ≠ some b := by
  rcases h.1.2 with ⟨rfl, _⟩ | ⟨g, cap, cur, rfl, _, hh, _⟩
  · simp [Value.ownBlock]
  · intro e
    have e : g = b := by simpa [Value.ownBlock] using e
    subst e
    rw [hb] at hh
    injection hh with hh
    injection hh with _ h2
    exact ht h2
theorem Aw.low {N b : Nat} {w : World} {v : Value} {l : List At} (h : Aw N w v l) (hb : b < N) : v.ownBlock ≠ some b := fun e => by
  have := (World.ownsRow.lt h.1 b e).1
  omega
theorem Aw.kept {N : Nat} {w w' : World} {v : Value} {l : List At} {row : Option Nat} (h : Aw N w v l) (hg : w.grownBy w' row) (hne : v.ownBlock = none ∨ v.ownBlock ≠ row) : Aw N w' v l := ⟨World.ownsRow.kept h.1 hg hne, h.2⟩
theorem Aw.alloc {N : Nat} {w : World} {v : Value} {l : List At} (h : Aw N w v l) (o : Obj) : Aw N (w.alloc o) v l := ⟨World.ownsRow.alloc h.1 o, h.2⟩
theorem Aw.form {N : Nat} {w : World} {v : Value} {l : List At} (h : Aw N w v l) : ∃ A c, v = .slice A l.length c := by
  rcases h.1.2 with ⟨hv, hl⟩ | ⟨g, cap, cur, hv, _⟩
  · exact ⟨none, 0, by rw [hl]; exact hv⟩
  · exact ⟨_, _, hv⟩

theorem attr_cells_new (w : World) (x : At) : ∀ j u, (acells x)[j]? = some u → (w.alloc (.cells #[.string x.name, .string x.value] 40)).cell? ((⟨w.heap.size, 0, none⟩ : Addr).add j) = some u := fun j u hu => by
  rw [WideShapes.add_plain, Nat.zero_add, World.cell?_alloc_mark]
  match j with
  | 0 => exact hu
  | 1 => exact hu
  | j + 2 => simp [acells] at hu
/-- append of one attribute, in a block of its own, onto attributes of the call's own. -/
theorem app_attr {ops : Array Oper} {rest : List Oper} {o : Oper} {a : Act} {Q : Exit → Act → World → Prop} (w : World) (hgd : o.guard = none) (s x : Operand)
    (ho : o.op = .call { callee := .builtin .append, args := #[s, x], argTypes := #[34, 34] })
    (N : Nat) (v : Value) (l : List At) (y : At) (hs : a.eval s = v) (hown : Aw N w v l) (hy : y.name.size ≤ maxLen) (g : Nat) (hgz : g = w.heap.size) (hx : a.eval x = .slice (some ⟨g, 0, none⟩) 1 1)
    (hl : l.length ≤ 4000000000) (hN : N ≤ w.heap.size)
    (h : ∀ v' w', Aw N w' v' (l ++ [y]) → w.grownBy w' v.ownBlock → wpList Try.prog ops Q rest (a.put o.dst v') w') :
    wpList Try.prog ops Q (o :: rest) a (w.alloc (.cells #[.string y.name, .string y.value] 40)) := by
  subst hgz
  obtain ⟨i0, hi, hz0, hz1, hz2⟩ := info_parts info_attr
  have hown' : Aw N (w.alloc (.cells #[.string y.name, .string y.value] 40)) v l := hown.alloc _
  have hsz : (w.alloc (.cells #[.string y.name, .string y.value] 40)).heap.size = w.heap.size + 1 := by simp
  refine wpList_append_own _ hgd s x 34 ho N 40 i0 _ 2 32 Try.underlying34 hi hz0 hz1 hz2 rfl (by decide) v l.length (l.flatMap acells) hs hown'.1 ⟨w.heap.size, 0, none⟩ 1 1 (acells y) hx rfl (attr_cells_new w y) (by have := acells_one [y]; simpa using this) (by unfold maxLen; omega) (by omega) (by omega) ?_
  intro v' w' ho2 hg2 _
  refine h v' w' ⟨?_, fun z hz => ?_⟩ ((World.grownBy_alloc w _ _).trans hg2)
  · rw [List.length_append, List.flatMap_append]
    simpa using ho2
  · rcases List.mem_append.1 hz with hz | hz
    · exact hown.2 z hz
    · rw [List.mem_singleton.1 hz]; exact hy

end Go.Proofs.Ytgjlfcamgkeibaa.To

namespace Go.Proofs.Ytgjlfcamgkeibaa.Cn
set_option maxRecDepth 100000
set_option linter.unusedVariables false
set_option linter.unusedSimpArgs false
open Go.RowKit Ba Ro
open Co (Cf Cv Sm confV confO attrB12 elementN)
open To (Aw app_attr)
theorem attrs_take (c : Cf) (s : Bool) (e : ByteArray) (l : List At) (k : Nat) {y : At} (h : l.drop k = y :: l.drop (k + 1)) : attrsL c s e (l.take (k + 1)) = attrsL c s e (l.take k) ++ if keepB c s e y = true then [y] else [] := by
  have e1 : l.take (k + 1) = l.take k ++ [y] := by
    rw [List.take_add_one]
    congr 1
    rw [getElem_of_drop h]
    rfl
  unfold attrsL
  rw [e1, List.filter_append, List.filter_cons, List.filter_nil]
theorem keep_yes {c : Cf} {s : Bool} {e : ByteArray} {l : List At} {k : Nat} {y : At} (h : l.drop k = y :: l.drop (k + 1)) (hk : keepB c s e y = true) : attrsL c s e (l.take (k + 1)) = attrsL c s e (l.take k) ++ [y] := by rw [attrs_take c s e l k h, if_pos hk]
theorem keep_no {c : Cf} {s : Bool} {e : ByteArray} {l : List At} {k : Nat} {y : At} (h : l.drop k = y :: l.drop (k + 1)) (hk : keepB c s e y = false) : attrsL c s e (l.take (k + 1)) = attrsL c s e (l.take k) := by rw [attrs_take c s e l k h, if_neg (by rw [hk]; decide), List.append_nil]
theorem attrs_le (c : Cf) (s : Bool) (e : ByteArray) (l : List At) (k : Nat) : (attrsL c s e (l.take k)).length ≤ l.length := Nat.le_trans (List.length_filter_le _ _) (List.length_take_le' _ _)

theorem aw_on {N : Nat} {w w' : World} {v : Value} {l : List At} (h : Aw N w v l) (hb : Below w.heap.size w w') : Aw N w' v l := by
  refine ⟨⟨h.1.1, ?_⟩, h.2⟩
  rcases h.1.2 with hn | ⟨g, cap, cur, hv, hg, hh, rest⟩
  · exact .inl hn
  · refine .inr ⟨g, cap, cur, hv, hg, ?_, rest⟩
    rw [hb.block g (Array.getElem?_eq_some_iff.1 hh).1]
    exact hh
/-- A row and a configuration, each in a box. -/
structure Bb (w : World) (b : Nat) (x : Cw) (c : Cf) (vE vR vA vP : Value) : Prop where
  row : ∀ j, w.cell? ⟨b, j, none⟩ = (cells x)[j]?
  cf : w.rangeAt (b + 1) 0 [.bool c.allow, .bool c.attrsAllow, vE, vR, vA, vP, .bool c.comments, .bool c.dataAttrs]
  lt : b + 1 < w.heap.size
theorem Bb.new (w : World) (x : Cw) (c : Cf) (vE vR vA vP : Value) : Bb ((w.alloc (rowO x)).alloc (confO c vE vR vA vP)) w.heap.size x c vE vR vA vP :=
  ⟨box_kept (below_new _ _), by have := Co.Bx.new (w.alloc (rowO x)) c vE vR vA vP; rwa [World.size_alloc] at this, by simp⟩
theorem Bb.on {w w' : World} {b : Nat} {x : Cw} {c : Cf} {vE vR vA vP : Value} (h : Bb w b x c vE vR vA vP) (hb : Below w.heap.size w w') : Bb w' b x c vE vR vA vP :=
  ⟨fun j => (hb.cell (p := ⟨b, j, none⟩) (by have := h.lt; show b < _; omega)).trans (h.row j), range_keep h.cf fun o => hb.cell (p := ⟨b + 1, o, none⟩) (show b + 1 < _ from h.lt), Nat.lt_of_lt_of_le h.lt hb.size⟩
theorem below_two (w : World) (a b : Obj) : Below w.heap.size w ((w.alloc a).alloc b) := (below_new w a).trans ((below_new _ b).mono (by simp))

set_option maxRecDepth 100000 in
set_option maxHeartbeats 4000000 in
theorem attrs_any (x : Cw) (v : Value) (c : Cf) (s : Bool) (w : World) (hx : Att w w.heap.size x) (hz : Rz.SmallR x.ro) (hc : Cv w w.heap.size v c) (hs : Sm c) (hm : x.ro.attrs.length ≤ 1000000) :
    Calls Try.prog 12 #[rowV x, v, .bool s] w fun r w' => ∃ v', r = .returned v' ∧ Aw w.heap.size w' v' (attrsF c s x.ro) ∧ Below w.heap.size w w' := by
  obtain ⟨vE, vR, vA, vP, pl, rfl, hc⟩ := hc
  obtain ⟨⟨dep, kd, nm, dt, ats⟩, A, cc⟩ := x
  obtain ⟨hz1, _, hz3⟩ := hz
  have hxc := hx.1; have hxm := hx.2.2.1
  unfold maxLen at hxm
  simp only at hxc hxm hm hz1 hz3
  obtain ⟨w0, hw0⟩ : ∃ w0, (w.alloc (rowO ⟨⟨dep, kd, nm, dt, ats⟩, A, cc⟩)).alloc (confO c vE vR vA vP) = w0 := ⟨_, rfl⟩
  have hb0 : Below w.heap.size w w0 := hw0 ▸ below_two w _ _
  have hbb : Bb w0 w.heap.size ⟨⟨dep, kd, nm, dt, ats⟩, A, cc⟩ c vE vR vA vP := hw0 ▸ Bb.new w _ c vE vR vA vP
  have HBX := Lib.hid (fun wr (hb : Below w0.heap.size w0 wr) => show wr.cell? ⟨w.heap.size, 2, none⟩ = some (.string nm) ∧ wr.cell? ⟨w.heap.size, 4, none⟩ = some (.slice A ats.length cc) ∧ wr.rangeAt (w.heap.size + 1) 0 _ from ⟨(hbb.on hb).row 2, (hbb.on hb).row 4, (hbb.on hb).cf⟩)
  have HCV := Lib.hid (fun wr (hb : Below w0.heap.size w0 wr) => show Cv wr wr.heap.size (confV c vE vR vA vP) c from ⟨_, _, _, _, _, rfl, (hc.on hb0).on hb⟩)
  have HRA := Lib.hid (fun wr (hb : Below w0.heap.size w0 wr) => show Ra wr w.heap.size A ats from (hx.2.2.2.1.below hb0).below hb hb0.size)
  have HW := Lib.hid hw0; have HB0 := Lib.hid hb0; have HSM := Lib.hid hs; have HSH := Lib.hid hx.2.2.2.2; have HZ := Lib.hid hz3
  have hsz0 := hb0.size
  have hlt0 := hbb.lt
  clear hc hx hw0 hb0 hbb hs hz3
  go_enter Try.func12, Try.ntmps12
  go_upto_region 1 with (fail)
  rw [HW.out]
  clear HW
  obtain ⟨g2, g4, g5⟩ := HBX.out w0 (Below.refl _ _)
  go_wp2
  clear g2 g4 g5
  go_loopw [7, 13] (fun u' i wr => ∃ (k : Nat) (u : Value), i = .int .i64 k ∧ u = u' ∧ k ≤ ats.length ∧ Aw w0.heap.size wr u (attrsL c s nm (ats.take k)) ∧ Below w0.heap.size w0 wr) (fun _ i _ => ats.length - (intOf i).toNat)
  case atStart => exact ⟨0, _, rfl, rfl, by omega, Aw.nil _ _, Below.refl _ _⟩
  case round =>
    obtain ⟨k, u, rfl, rfl, hk, ho, hbel⟩ := hrel
    have hsz := hbel.size
    by_cases hp : k < ats.length
    · obtain ⟨b, off, y, rfl, hb, hd, hy, hym⟩ := (HRA.out wr hbel).at_ k hp
      obtain ⟨f1, f2⟩ := range2 hy
      obtain ⟨hy1, hy2⟩ := HZ.out y hym
      have hy3 := HSH.out y hym
      obtain ⟨w1, hw1⟩ : ∃ w1, wr.alloc (.cells #[.string y.name, .string y.value] 40) = w1 := ⟨_, rfl⟩
      have hb1 : Below wr.heap.size wr w1 := hw1 ▸ below_new wr _
      have hbx1 : Below w0.heap.size w0 w1 := hbel.trans (hb1.mono hsz)
      have HAB := Lib.hid (fun wx (hb : Below w1.heap.size w1 wx) => show wx.cell? ⟨wr.heap.size, 0, none⟩ = some (.string y.name) ∧ wx.cell? ⟨wr.heap.size, 1, none⟩ = some (.string y.value) from by
        have h0 : wr.heap.size < w1.heap.size := by rw [← hw1]; simp
        have e : ∀ j, w1.cell? ⟨wr.heap.size, j, none⟩ = (acells y)[j]? := fun j => by rw [← hw1, World.cell?_alloc_mark]; simp [acells]
        exact ⟨(hb.cell (p := ⟨_, 0, none⟩) h0).trans (e 0), (hb.cell (p := ⟨_, 1, none⟩) h0).trans (e 1)⟩)
      have how1 : Aw w0.heap.size w1 u (attrsL c s nm (ats.take k)) := hw1 ▸ ho.alloc _
      have hle := attrs_le c s nm ats k
      have HO := Lib.hid how1; have HD := Lib.hid hd; have HB1 := Lib.hid hbx1; have HBL := Lib.hid hbel; have HS3 := Lib.hid hy3; have HE1 := Lib.hid hw1
      have HBN := Lib.hid hb1
      clear ho hd hbx1 hbel hy hy3 hym how1 hb1 hw1
      obtain ⟨q1, hq1⟩ : ∃ q, attrB12 c nm y.name = q := ⟨_, rfl⟩
      obtain ⟨q2, hq2⟩ : ∃ q, Rk.attrB nm y = q := ⟨_, rfl⟩
      have HQ1 := Lib.hid hq1; have HQ2 := Lib.hid hq2
      have HKB : Hid (keepB c s nm y = (q1 && !(s && q2))) := Lib.hid (by unfold keepB; rw [hq1, hq2])
      clear hq1 hq2
      go_upto_region 5 with (fail)
      rw [HE1.out]
      obtain ⟨g2, g4, g5⟩ := HBX.out w1 HB1.out
      obtain ⟨e0, e1⟩ := HAB.out w1 (Below.refl _ _)
      cases q1 with
      | false =>
        have hkb : keepB c s nm y = false := HKB.out
        go_wp2_with (first | (show wpList _ _ _ (⟨_, Op.load 26 (.tmp 4), _, _, _, _⟩ :: _) _ _; refine wpList_load_mid rfl 26 (.tmp 4) rfl (w.heap.size + 1) 0 rfl _ _ g5 Try.underlying26 rfl Co.size_conf ?_) | (go_at_call 30; refine (Co.attr1 _ c nm y.name _ _ (HCV.out _ HB1.out) HSM.out hy1 HQ1.out).mono ?_; rintro r w3 ⟨rfl, hb3⟩; have hbx3 := HB1.out.trans (hb3.mono HB1.out.size); have HB3 := Lib.hid hb3; have HX3 := Lib.hid hbx3; clear g2 g4 g5 e0 e1 hb3 hbx3; obtain ⟨g2, g4, g5⟩ := HBX.out w3 HX3.out; obtain ⟨e0, e1⟩ := HAB.out w3 HB3.out) | fail)
        go_roundw
        case rel => exact ⟨k + 1, _, by go_num, rfl, by omega, by rw [keep_no HD.out hkb]; exact aw_on HO.out HB3.out, HX3.out⟩
        case measure => simp [intOf]; omega
      | true =>
        cases s with
        | false =>
          have hkb : keepB c false nm y = true := HKB.out
          have HOW := Lib.hid (fun wx (hb : Below w1.heap.size w1 wx) => aw_on HO.out hb)
          go_upto_region 6 with (first | (show wpList _ _ _ (⟨_, Op.load 26 (.tmp 4), _, _, _, _⟩ :: _) _ _; refine wpList_load_mid rfl 26 (.tmp 4) rfl (w.heap.size + 1) 0 rfl _ _ g5 Try.underlying26 rfl Co.size_conf ?_) | (go_at_call 30; refine (Co.attr1 _ c nm y.name _ _ (HCV.out _ HB1.out) HSM.out hy1 HQ1.out).mono ?_; rintro r w3 ⟨rfl, hb3⟩; have hbx3 := HB1.out.trans (hb3.mono HB1.out.size); have HB3 := Lib.hid hb3; have HX3 := Lib.hid hbx3; clear g2 g4 g5 e0 e1 hb3 hbx3; obtain ⟨g2, g4, g5⟩ := HBX.out w3 HX3.out; obtain ⟨e0, e1⟩ := HAB.out w3 HB3.out) | fail)
          have how := HOW.out _ HB3.out
          clear HOW; have HOW := Lib.hid how
          clear how
          go_wp2_with (first | (at_builtin; refine app_attr _ rfl (.tmp 33) (.tmp 35) rfl w0.heap.size u _ y rfl HOW.out HS3.out _ rfl rfl (by omega) (by have := HX3.out.size; omega) ?_; intro v6 w6 ho6 hg6) | fail)
          go_roundw
          case rel =>
            refine ⟨k + 1, _, by go_num, rfl, by omega, by rw [keep_yes HD.out hkb]; exact ho6, ?_⟩
            exact HX3.out.grown hg6 HX3.out.size fun q hq => (World.ownsRow.lt HOW.out.1 q hq).1
          case measure => simp [intOf]; omega
        | true =>
          cases q2 with
          | true =>
            have hkb : keepB c true nm y = false := HKB.out
            go_wp2_with (first | (show wpList _ _ _ (⟨_, Op.load 26 (.tmp 4), _, _, _, _⟩ :: _) _ _; refine wpList_load_mid rfl 26 (.tmp 4) rfl (w.heap.size + 1) 0 rfl _ _ g5 Try.underlying26 rfl Co.size_conf ?_) | (go_at_call 30; refine (Co.attr1 _ c nm y.name _ _ (HCV.out _ HB1.out) HSM.out hy1 HQ1.out).mono ?_; rintro r w3 ⟨rfl, hb3⟩; have hbx3 := HB1.out.trans (hb3.mono HB1.out.size); have HB3 := Lib.hid hb3; have HX3 := Lib.hid hbx3; clear g2 g4 g5 e0 e1 hb3 hbx3; obtain ⟨g2, g4, g5⟩ := HBX.out w3 HX3.out; obtain ⟨e0, e1⟩ := HAB.out w3 HB3.out) | (go_at_call 31; refine (Rk.attr1 nm y hz1 hy1 hy2 _ _ HQ2.out).mono ?_; rintro r w4 ⟨rfl, hb4⟩; have hb34 := HB3.out.trans (hb4.mono HB3.out.size); have hbx4 := HX3.out.trans (hb4.mono HX3.out.size); have HB4 := Lib.hid hb34; have HX4 := Lib.hid hbx4; clear g2 g4 g5 e0 e1 hb4 hbx4 hb34; obtain ⟨g2, g4, g5⟩ := HBX.out w4 HX4.out; obtain ⟨e0, e1⟩ := HAB.out w4 HB4.out) | fail)
            go_roundw
            case rel => exact ⟨k + 1, _, by go_num, rfl, by omega, by rw [keep_no HD.out hkb]; exact aw_on HO.out HB4.out, HX4.out⟩
            case measure => simp [intOf]; omega
          | false =>
            have hkb : keepB c true nm y = true := HKB.out
            have HOW := Lib.hid (fun wx (hb : Below w1.heap.size w1 wx) => aw_on HO.out hb)
            go_upto_region 6 with (first | (show wpList _ _ _ (⟨_, Op.load 26 (.tmp 4), _, _, _, _⟩ :: _) _ _; refine wpList_load_mid rfl 26 (.tmp 4) rfl (w.heap.size + 1) 0 rfl _ _ g5 Try.underlying26 rfl Co.size_conf ?_) | (go_at_call 30; refine (Co.attr1 _ c nm y.name _ _ (HCV.out _ HB1.out) HSM.out hy1 HQ1.out).mono ?_; rintro r w3 ⟨rfl, hb3⟩; have hbx3 := HB1.out.trans (hb3.mono HB1.out.size); have HB3 := Lib.hid hb3; have HX3 := Lib.hid hbx3; clear g2 g4 g5 e0 e1 hb3 hbx3; obtain ⟨g2, g4, g5⟩ := HBX.out w3 HX3.out; obtain ⟨e0, e1⟩ := HAB.out w3 HB3.out) | (go_at_call 31; refine (Rk.attr1 nm y hz1 hy1 hy2 _ _ HQ2.out).mono ?_; rintro r w4 ⟨rfl, hb4⟩; have hb34 := HB3.out.trans (hb4.mono HB3.out.size); have hbx4 := HX3.out.trans (hb4.mono HX3.out.size); have HB4 := Lib.hid hb34; have HX4 := Lib.hid hbx4; clear g2 g4 g5 e0 e1 hb4 hbx4 hb34; obtain ⟨g2, g4, g5⟩ := HBX.out w4 HX4.out; obtain ⟨e0, e1⟩ := HAB.out w4 HB4.out) | fail)
            have how := HOW.out _ HB4.out
            clear HOW; have HOW := Lib.hid how
            clear how
            go_wp2_with (first | (at_builtin; refine app_attr _ rfl (.tmp 33) (.tmp 35) rfl w0.heap.size u _ y rfl HOW.out HS3.out _ rfl rfl (by omega) (by have := HX4.out.size; omega) ?_; intro v6 w6 ho6 hg6) | fail)
            go_roundw
            case rel =>
              refine ⟨k + 1, _, by go_num, rfl, by omega, by rw [keep_yes HD.out hkb]; exact ho6, ?_⟩
              exact HX4.out.grown hg6 HX4.out.size fun q hq => (World.ownsRow.lt HOW.out.1 q hq).1
            case measure => simp [intOf]; omega
    · have e : ats.take k = ats := List.take_of_length_le (by omega)
      rw [e] at ho
      have HO := Lib.hid ho; have HBL := Lib.hid hbel
      clear ho hbel
      go_wp2
      go_ret
      exact ⟨_, rfl, ⟨World.ownsRow.mono HO.out.1 hsz0, HO.out.2⟩, HB0.out.trans (HBL.out.mono hsz0)⟩

end Go.Proofs.Ytgjlfcamgkeibaa.Cn

namespace Go.Proofs.Ytgjlfcamgkeibaa.Cn
set_option maxRecDepth 100000
set_option linter.unusedVariables false
set_option linter.unusedSimpArgs false
open Go.RowKit Ba Ro
open Co (Cf Cv Sm confV confO attrB12 elementN bel_eq12)
open Rk (neverB)
set_option maxRecDepth 100000 in
set_option maxHeartbeats 2000000 in
theorem fate_any (x : Cw) (v : Value) (c : Cf) (s : Bool) (w : World) (q : Nat) (hc : Cv w w.heap.size v c) (hs : Sm c) (hq : fateN c s x.ro = q) :
    Calls Try.prog 68 #[rowV x, v, .bool s] w fun r w' => r = .returned (.int .i64 q) ∧ Below w.heap.size w w' := by
  obtain ⟨vE, vR, vA, vP, pl, rfl, hc⟩ := hc
  obtain ⟨⟨dep, kd, nm, dt, ats⟩, A, cc⟩ := x
  obtain ⟨al, aa, els, reps, cats, per, cm, da⟩ := c
  obtain ⟨w0, hw0⟩ : ∃ w0, (w.alloc (rowO ⟨⟨dep, kd, nm, dt, ats⟩, A, cc⟩)).alloc (confO ⟨al, aa, els, reps, cats, per, cm, da⟩ vE vR vA vP) = w0 := ⟨_, rfl⟩
  have hb0 : Below w.heap.size w w0 := hw0 ▸ below_two w _ _
  have hbb : Bb w0 w.heap.size ⟨⟨dep, kd, nm, dt, ats⟩, A, cc⟩ ⟨al, aa, els, reps, cats, per, cm, da⟩ vE vR vA vP := hw0 ▸ Bb.new w _ _ vE vR vA vP
  have HEL := Lib.hid (fun q (hq : elementN ⟨al, aa, els, reps, cats, per, cm, da⟩ nm = q) => Co.element1 (confV ⟨al, aa, els, reps, cats, per, cm, da⟩ vE vR vA vP) _ nm w0 q ⟨_, _, _, _, _, rfl, hc.on hb0⟩ hs hq)
  have HCF := Lib.hid hbb.cf
  have HW := Lib.hid hw0; have HB0 := Lib.hid hb0
  have g1 := hbb.row 1; have g2 := hbb.row 2
  simp only [cells, List.getElem?_cons_zero, List.getElem?_cons_succ] at g1 g2
  have c6 : w0.cell? ⟨w.heap.size + 1, 6, none⟩ = some (.bool cm) := hbb.cf 6 _ rfl
  clear hc hs hw0 hb0 hbb
  unfold fateN at hq
  simp only at hq
  go_enter Try.func68, Try.ntmps68
  go_upto_region 1 with (fail)
  rw [HW.out]
  clear HW
  by_cases h1 : kd = 1
  · rw [if_pos h1] at hq
    subst hq
    have k1 : (kd == 1) = true := by simpa using h1
    go_wp2
    go_ret
    exact ⟨rfl, HB0.out⟩
  rw [if_neg h1] at hq
  have k1 : (kd == 1) = false := by simpa using h1
  by_cases h2 : kd = 2
  · rw [if_pos h2] at hq
    have k2 : (kd == 2) = true := by simpa using h2
    cases cm with
    | true =>
      rw [if_pos rfl] at hq
      subst hq
      go_wp2
      go_ret
      exact ⟨rfl, HB0.out⟩
    | false =>
      rw [if_neg (by decide)] at hq
      subst hq
      go_wp2
      go_ret
      exact ⟨rfl, HB0.out⟩
  rw [if_neg h2] at hq
  have k2 : (kd == 2) = false := by simpa using h2
  obtain ⟨nv, hnv⟩ : ∃ b, neverB nm = b := ⟨_, rfl⟩
  rw [hnv] at hq
  have HNV := Lib.hid hnv
  clear hnv
  cases s with
  | false =>
    have HQ := Lib.hid (show elementN _ nm = q from hq)
    clear hq
    go_wp2_with (first
      | (show wpList _ _ _ (⟨_, Op.load 26 (.tmp 4), _, _, _, _⟩ :: _) _ _; refine wpList_load_mid rfl 26 (.tmp 4) rfl (w.heap.size + 1) 0 rfl _ _ HCF.out Try.underlying26 rfl Co.size_conf ?_)
      | (go_at_call 57; refine (HEL.out q HQ.out).mono ?_; rintro r w3 ⟨rfl, hb3⟩)
      | fail)
    go_ret
    exact ⟨rfl, HB0.out.trans (hb3.mono HB0.out.size)⟩
  | true =>
    cases nv with
    | true =>
      have hq : 1 = q := hq
      subst hq
      go_wp2_with (first
        | (go_at_call 80; refine (Rk.element1 nm _ true HNV.out).mono ?_; rintro r w3 ⟨rfl, rfl⟩)
        | fail)
      go_ret
      exact ⟨rfl, HB0.out⟩
    | false =>
      have HQ := Lib.hid (show elementN _ nm = q from hq)
      clear hq
      go_wp2_with (first
        | (show wpList _ _ _ (⟨_, Op.load 26 (.tmp 4), _, _, _, _⟩ :: _) _ _; refine wpList_load_mid rfl 26 (.tmp 4) rfl (w.heap.size + 1) 0 rfl _ _ HCF.out Try.underlying26 rfl Co.size_conf ?_)
        | (go_at_call 80; refine (Rk.element1 nm _ false HNV.out).mono ?_; rintro r w3 ⟨rfl, rfl⟩)
        | (go_at_call 57; refine (HEL.out q HQ.out).mono ?_; rintro r w3 ⟨rfl, hb3⟩)
        | fail)
      go_ret
      exact ⟨rfl, HB0.out.trans (hb3.mono HB0.out.size)⟩

end Go.Proofs.Ytgjlfcamgkeibaa.Cn

namespace Go.Proofs.Ytgjlfcamgkeibaa.Cn
set_option linter.unusedVariables false
set_option linter.unusedSimpArgs false
open Go.RowKit Ba Ro
/-- Rows of the call's own, their attributes too. -/
def Od (N : Nat) (w : World) (v : Value) (l : List Cw) : Prop := w.ownsRow N 36 5 v l.length (l.flatMap cells) ∧ ∀ x ∈ l, Fr N w x
theorem Od.ow {N : Nat} {w : World} {v : Value} {l : List Cw} (h : Od N w v l) : Ow N w v l := ⟨h.1, fun x hx => ⟨(h.2 x hx).att, (h.2 x hx).ap⟩⟩
theorem Od.nil (N : Nat) (w : World) : Od N w (.slice none 0 0) [] := ⟨World.ownsRow_nil w N _ 5, fun _ h => by simp at h⟩
theorem Od.made (w : World) : Od w.heap.size (w.alloc (.cells #[] 36)) (.slice (some ⟨w.heap.size, 0, none⟩) 0 0) [] :=
  ⟨World.ownsRow_made w #[] 0 (Nat.le_refl _) (Nat.zero_le _) rfl, fun _ h => by simp at h⟩
theorem Od.grown {N b : Nat} {w w' : World} {v : Value} {l : List Cw} (h : Od N w v l) (hg : w.grownBy w' (some b)) (hb : b < N) : Od N w' v l :=
  ⟨Co.row_elder h.1 hg (fun q hq => by injection hq with hq; omega), fun x hx => ⟨Co.row_elder (h.2 x hx).1 hg (fun q hq => by injection hq with hq; omega), (h.2 x hx).2⟩⟩
theorem Od.below {N : Nat} {w w' : World} {v : Value} {l : List Cw} (h : Od N w v l) (hb : Below w.heap.size w w') : Od N w' v l := ⟨(h.ow.below hb).1, fun x hx => (h.2 x hx).below hb⟩
theorem Od.mono {N M : Nat} {w : World} {v : Value} {l : List Cw} (h : Od N w v l) (hN : M ≤ N) : Od M w v l := ⟨World.ownsRow.mono h.1 hN, fun x hx => ⟨World.ownsRow.mono (h.2 x hx).1 hN, (h.2 x hx).2⟩⟩
theorem below_grown {w w1 : World} (b : Nat) (hb : Below w.heap.size w w1) : w.grownBy w1 (some b) := ⟨hb.os, hb.tape, hb.output, hb.size, fun k hk _ => hb.block k hk⟩

theorem rr_on {w w' : World} {A : Option Addr} {l : List Cw} (h : Rr w w.heap.size A l) (hb : Below w.heap.size w w') : Rr w' w'.heap.size A l := (h.below hb).more hb.size
/-- A block of this type that holds these. -/
def Hv (t : TypeId) (w : World) (g : Nat) (cs : Array Value) : Prop := w.heap[g]? = some (.cells cs t)
theorem Hv.new (t : TypeId) (w : World) (cs : Array Value) : Hv t (w.alloc (.cells cs t)) w.heap.size cs := heap_alloc_new w _
theorem Hv.keep {t : TypeId} {w w' : World} {g : Nat} {cs : Array Value} (h : Hv t w g cs) (hb : w'.heap[g]? = w.heap[g]?) : Hv t w' g cs := hb.trans h
theorem Hv.lt {t : TypeId} {w : World} {g : Nat} {cs : Array Value} (h : Hv t w g cs) : g < w.heap.size := (Array.getElem?_eq_some_iff.1 h).1
theorem Hv.on {t : TypeId} {w w' : World} {g : Nat} {cs : Array Value} (h : Hv t w g cs) (hb : Below w.heap.size w w') : Hv t w' g cs := h.keep (hb.block g h.lt)
theorem Hv.set {t : TypeId} {w : World} {g : Nat} {cs : Array Value} (h : Hv t w g cs) (j : Nat) (u : Value) : Hv t (w.setCell ⟨g, j, none⟩ u) g (cs.setIfInBounds j u) := by
  unfold Hv at h ⊢
  simp [World.setCell, Array.getElem?_modify, h]
theorem Hv.other {t : TypeId} {w : World} {g b : Nat} {cs : Array Value} (h : Hv t w g cs) (j : Nat) (u : Value) (hne : g ≠ b) : Hv t (w.setCell ⟨b, j, none⟩ u) g cs := h.keep (Below.heap_setCell _ _ _ _ hne)
theorem Hv.cell {t : TypeId} {w : World} {g : Nat} {cs : Array Value} (h : Hv t w g cs) (j : Nat) (u : Value) (hu : cs[j]? = some u) : w.cell? ⟨g, j, none⟩ = some u := by
  rw [cell_of_row w g j _ _ _ h]
  exact hu
theorem Hv.f {t : TypeId} {w : World} {g : Nat} {cs : Array Value} (h : Hv t w g cs) (j : Nat) : w.frozen? ⟨g, j, none⟩ = false := by
  unfold Hv at h
  simp [World.frozen?, h]
theorem Hv.there {t : TypeId} {w : World} {g : Nat} {cs : Array Value} (h : Hv t w g cs) (n : Nat) (hn : n = cs.size) : w.there g 0 n := fun j hj => by
  rw [Nat.zero_add]
  exact ⟨by rw [h.cell j _ (Array.getElem?_eq_getElem (hn ▸ hj))]; rfl, h.f j⟩
theorem Hv.range {t : TypeId} {w : World} {g : Nat} {cs : Array Value} (h : Hv t w g cs) : w.rangeAt g 0 cs.toList := fun j u hu => by
  rw [Nat.zero_add]
  exact h.cell j u (by rwa [Array.getElem?_toList] at hu)
/-- An array of 61 numbers that reads as D. -/
def Db (w : World) (b : Nat) (D : Int → Int) : Prop := ∃ cs, Hv 74 w b cs ∧ ∀ j : Nat, j < 61 → cs[j]? = some (.int .i64 (D j))
theorem Db.keep {w w' : World} {b : Nat} {D : Int → Int} (h : Db w b D) (hb : w'.heap[b]? = w.heap[b]?) : Db w' b D := by
  obtain ⟨cs, h, hc⟩ := h
  exact ⟨cs, h.keep hb, hc⟩
theorem Db.lt {w : World} {b : Nat} {D : Int → Int} (h : Db w b D) : b < w.heap.size := by
  obtain ⟨cs, h, _⟩ := h
  exact h.lt
theorem Db.on {w w' : World} {b : Nat} {D : Int → Int} (h : Db w b D) (hb : Below w.heap.size w w') : Db w' b D := h.keep (hb.block b h.lt)
theorem Db.cell {w : World} {b : Nat} {D : Int → Int} (h : Db w b D) (j : Nat) (hj : j < 61) : w.cell? ⟨b, j, none⟩ = some (.int .i64 (D j)) := by
  obtain ⟨cs, h, hc⟩ := h
  exact h.cell j _ (hc j hj)
theorem Db.f {w : World} {b : Nat} {D : Int → Int} (h : Db w b D) (j : Nat) : w.frozen? ⟨b, j, none⟩ = false := by
  obtain ⟨cs, h, hc⟩ := h
  exact h.f j
theorem Db.set {w : World} {b : Nat} {D : Int → Int} (h : Db w b D) (j : Nat) (v : Int) : Db (w.setCell ⟨b, j, none⟩ (.int .i64 v)) b (put_ D j v) := by
  obtain ⟨cs, h, hc⟩ := h
  refine ⟨_, h.set j (.int .i64 v), fun i hi => ?_⟩
  have hs : 61 ≤ cs.size := by
    have := (Array.getElem?_eq_some_iff.1 (hc 60 (by omega))).1
    omega
  rw [Array.getElem?_setIfInBounds]
  unfold put_
  by_cases e : j = i
  · subst e
    rw [if_pos rfl, if_pos (by omega), if_pos rfl]
  · rw [if_neg e, if_neg (by omega)]
    exact hc i hi

end Go.Proofs.Ytgjlfcamgkeibaa.Cn
