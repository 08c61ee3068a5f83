/-
  Walks of stage 6's reference: at, letter, find, stops, spaces.
-/
import Derived.Test.YtjhhhlomkfnniaaDoorTokFixed
import Derived.Test.YtjhhhlomkfnniaaDoorRefSpace
import Derived.Test.YtjhhhlomkfnniaaDoorSmall
namespace Go.Proofs.YtjhhhlomkfnniaaDoor.To
set_option linter.unusedSimpArgs false
set_option linter.unusedVariables false
open Go.RowKit Ba Fm Fo Tm

theorem pre_sub (s t : ByteArray) (i : Nat) : ((s.extract i (i + t.size)).toList == t.toList) = pre (L t) ((L s).drop i) := by
  rw [eq_of_toList]
  unfold pre
  refine decide_eq_decide.2 ?_
  rw [size_L]
  constructor
  · intro e
    have := congrArg L e
    rwa [L_extract, show i + t.size - i = t.size from by omega] at this
  · intro e
    apply L_inj
    rwa [L_extract, show i + t.size - i = t.size from by omega]
theorem pre_past (s t : ByteArray) (i : Nat) (h : ¬ i + t.size ≤ s.size) (ht : 0 < t.size) : pre (L t) ((L s).drop i) = false := by
  unfold pre
  refine decide_eq_false fun e => ?_
  have := congrArg List.length e
  rw [List.length_take, List.length_drop, size_L, size_L] at this
  omega

set_option maxHeartbeats 1000000 in
theorem refAt_any (s t : ByteArray) (i : Nat) (w : World) (hs : s.size ≤ 140737488355328) (hi : i ≤ 140737488355428) (ht : t.size ≤ 100) (ht0 : 0 < t.size) :
    Calls Tryd.prog 25 #[.string s, .int .i64 i, .string t] w fun e w' => e = .returned (.bool (pre (L t) ((L s).drop i))) ∧ w = w' := by
  have h0 : decide ((i : Int) ≥ 0) = true := decide_eq_true (by omega)
  by_cases hp : i + t.size ≤ s.size
  · have hd : decide ((i : Int) + (t.size : Int) ≤ s.size) = true := decide_eq_true (by omega)
    have he := pre_sub s t i
    obtain ⟨q, hq⟩ : ∃ q, pre (L t) ((L s).drop i) = q := ⟨_, rfl⟩
    rw [hq] at he
    have HQ := Lib.hid hq; clear hq
    go_enter Tryd.func25, Tryd.ntmps25
    go_wp2
    go_ret
    exact ⟨ret_bool HQ.out.symm, rfl⟩
  · have hd : decide ((i : Int) + (t.size : Int) ≤ s.size) = false := decide_eq_false (by omega)
    have hq := pre_past s t i hp ht0
    have HQ := Lib.hid hq; clear hq
    go_enter Tryd.func25, Tryd.ntmps25
    go_wp2
    go_ret
    exact ⟨ret_bool HQ.out.symm, rfl⟩
/-- The same with the text as a list, the answer named. -/
theorem refAt1 (s t : ByteArray) (i : Nat) (w : World) (l : List UInt8) (q : Bool) (hs : s.size ≤ 140737488355328) (hi : i ≤ 140737488355428) (ht : t.size ≤ 100) (ht0 : 0 < t.size) (hl : L t = l) (hq : pre l ((L s).drop i) = q) :
    Calls Tryd.prog 25 #[.string s, .int .i64 i, .string t] w fun e w' => e = .returned (.bool q) ∧ w = w' := by
  have := refAt_any s t i w hs hi ht ht0
  rwa [hl, hq] at this

theorem letterAt_any (s : ByteArray) (i : Nat) (w : World) (q : Bool) (hs : s.size ≤ 140737488355328) (hq : by1 lr ((L s).drop i) = q) :
    Calls Tryd.prog 26 #[.string s, .int .i64 i] w fun e w' => e = .returned (.bool q) ∧ w = w' := by
  by_cases hp : i < s.size
  · have hd : decide ((i : Int) < s.size) = true := decide_eq_true (by omega)
    rw [drop_cons s i hp] at hq
    have hq : lr s[i] = q := hq
    have HQ := Lib.hid hq; clear hq
    go_enter Tryd.func26, Tryd.ntmps26
    go_wp2_with (go_at_call 47; refine (Fo.refLetter_any s[i] _).mono ?_; rintro e w' ⟨rfl, rfl⟩)
    go_ret
    exact ⟨ret_bool HQ.out, rfl⟩
  · have hd : decide ((i : Int) < s.size) = false := decide_eq_false (by omega)
    rw [drop_nil s i hp] at hq
    have HQ := Lib.hid hq; clear hq
    go_enter Tryd.func26, Tryd.ntmps26
    go_wp2
    go_ret
    exact ⟨ret_bool HQ.out, rfl⟩

theorem stops_any (c : UInt8) (w : World) : Calls Tryd.prog 48 #[.int .u8 c.toNat] w fun e w' => e = .returned (.bool (en c)) ∧ w = w' := by
  have e47 : ((c.toNat : Int) == 47) = (c == 47) := u8_eq (b := 47)
  have e62 : ((c.toNat : Int) == 62) = (c == 62) := u8_eq (b := 62)
  have hg : en c = ((c == 47) || ((c == 62) || sp c)) := rfl
  obtain ⟨a, ha⟩ : ∃ a, (c == 47) = a := ⟨_, rfl⟩
  obtain ⟨b, hb⟩ : ∃ b, (c == 62) = b := ⟨_, rfl⟩
  obtain ⟨d, hd⟩ : ∃ d, sp c = d := ⟨_, rfl⟩
  rw [ha] at e47
  rw [hb] at e62
  rw [ha, hb, hd] at hg
  have HG := Lib.hid hg; have HD := Lib.hid hd; clear hg ha hb hd
  cases a <;> cases b <;> cases d
  all_goals
    go_enter Tryd.func48, Tryd.ntmps48
    go_wp2_with (go_at_call 50; refine (refSpace_any c _).mono ?_; rw [HD.out]; rintro e w' ⟨rfl, rfl⟩)
    go_ret
    exact ⟨ret_bool HG.out.symm, rfl⟩

/-- The place where a search ends. -/
theorem far_place {p : List UInt8 → Bool} {s : ByteArray} {k m : Nat} (h : Far p s k m) (hp : p ((L s).drop m) = true ∨ ¬ m < s.size) : m = k + (lead p ((L s).drop k)).length := by
  have h1 := (h.done hp).1
  have := congrArg ByteArray.size h1
  rw [size_B] at this
  have e : (s.extract k m).size = m - k := by
    rw [← size_L, L_extract, List.length_take, List.length_drop, size_L]
    have := h.2.1
    omega
  have := h.1
  omega

set_option maxHeartbeats 1000000 in
theorem find_any (s t : ByteArray) (k : Nat) (w : World) (hs : s.size ≤ 140737488355328) (hk : k ≤ s.size) (ht : t.size ≤ 100) (ht0 : 0 < t.size) :
    Calls Tryd.prog 75 #[.string s, .int .i64 k, .string t] w fun e w' => ∃ m : Nat, e = .returned (.int .i64 m) ∧ Far (pre (L t)) s k m ∧ (pre (L t) ((L s).drop m) = true ∨ ¬ m < s.size) ∧ (∀ j, k ≤ j → j < m → pre (L t) ((L s).drop j) = false) ∧ w = w' := by
  go_enter Tryd.func75, Tryd.ntmps75
  go_wp2
  go_loop [1] (fun i => ∃ m : Nat, i = .int .i64 m ∧ Far (pre (L t)) s k m ∧ (∀ j, k ≤ j → j < m → pre (L t) ((L s).drop j) = false)) (fun i => s.size - (intOf i).toNat)
  case atStart => exact ⟨k, rfl, .start hk, fun j h1 h2 => absurd h2 (by omega)⟩
  case round =>
    obtain ⟨m, rfl, hf, hny⟩ := hrel
    have HNY := Lib.hid hny; clear hny
    have hm := hf.2.1
    by_cases hp : m < s.size
    · have hlt : decide ((m : Int) < s.size) = true := decide_eq_true (by omega)
      cases hq : pre (L t) ((L s).drop m) with
      | false =>
        have hf := hf.next hp hq
        have HF := Lib.hid hf; have HQ := Lib.hid hq; clear hf hq
        go_wp2_with (go_at_call 25; refine (refAt1 s t m _ _ false hs (by omega) ht ht0 rfl HQ.out).mono ?_; rintro e w' ⟨rfl, rfl⟩)
        go_round
        case rel => exact ⟨m + 1, by go_num, HF.out, fun j h1 h2 => by
          by_cases hj : j = m
          · rw [hj]; exact HQ.out
          · exact HNY.out j h1 (by omega)⟩
        case measure => simp [intOf]; omega
      | true =>
        have HF := Lib.hid hf; have HQ := Lib.hid hq; clear hf hq
        obtain ⟨j, -, -, hj, hmin⟩ := Sm.min_any m s.size s.size rfl w
        obtain rfl : j = m := by omega
        clear hj
        go_wp2_with (go_at_call 25; refine (refAt1 s t j _ _ true hs (by omega) ht ht0 rfl HQ.out).mono ?_; rintro e w' ⟨rfl, rfl⟩)
        go_ret
        exact ⟨j, rfl, HF.out, .inl HQ.out, HNY.out, rfl⟩
    · have hlt : decide ((m : Int) < s.size) = false := decide_eq_false (by omega)
      have HF := Lib.hid hf; clear hf
      obtain ⟨j, -, -, hj, hmin⟩ := Sm.min_any m s.size s.size rfl w
      obtain rfl : j = m := by omega
      clear hj
      go_wp2
      go_ret
      exact ⟨j, rfl, HF.out, .inr (by omega), HNY.out, rfl⟩

set_option maxHeartbeats 1000000 in
theorem spaces_any (s : ByteArray) (k : Nat) (w : World) (hs : s.size ≤ 140737488355328) (hk : k ≤ s.size) :
    Calls Tryd.prog 74 #[.string s, .int .i64 k] w fun e w' => ∃ m : Nat, e = .returned (.int .i64 m) ∧ k ≤ m ∧ m ≤ s.size ∧ (L s).drop m = trimS ((L s).drop k) ∧ w = w' := by
  go_enter Tryd.func74, Tryd.ntmps74
  go_wp2
  go_loop [1] (fun i => ∃ m : Nat, i = .int .i64 m ∧ k ≤ m ∧ m ≤ s.size ∧ trimS ((L s).drop m) = trimS ((L s).drop k)) (fun i => s.size - (intOf i).toNat)
  case atStart => exact ⟨k, rfl, Nat.le_refl _, hk, rfl⟩
  case round =>
    obtain ⟨m, rfl, hkm, hm, ht⟩ := hrel
    by_cases hp : m < s.size
    · have hlt : decide ((m : Int) < s.size) = true := decide_eq_true (by omega)
      rw [drop_cons s m hp] at ht
      cases hsp : sp s[m] with
      | true =>
        rw [trimS_sp _ hsp] at ht
        have HT := Lib.hid ht; have HS := Lib.hid hsp; clear ht hsp
        go_wp2_with (go_at_call 50; refine (refSpace_any s[m] _).mono ?_; rw [HS.out]; rintro e w' ⟨rfl, rfl⟩)
        go_round
        case rel => exact ⟨m + 1, by go_num, by omega, by omega, HT.out⟩
        case measure => simp [intOf]; omega
      | false =>
        rw [trimS_no _ hsp, ← drop_cons s m hp] at ht
        have HT := Lib.hid ht; have HS := Lib.hid hsp; clear ht hsp
        go_wp2_with (go_at_call 50; refine (refSpace_any s[m] _).mono ?_; rw [HS.out]; rintro e w' ⟨rfl, rfl⟩)
        go_ret
        exact ⟨m, rfl, hkm, hm, HT.out, rfl⟩
    · have hlt : decide ((m : Int) < s.size) = false := decide_eq_false (by omega)
      rw [drop_nil s m hp, trimS_nil] at ht
      have HT := Lib.hid ht; clear ht
      go_wp2
      go_ret
      exact ⟨m, rfl, hkm, hm, by rw [← HT.out, drop_nil s m hp], rfl⟩

end Go.Proofs.YtjhhhlomkfnniaaDoor.To
