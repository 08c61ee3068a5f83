/-
  Walks of stage 6: what a '<' begins, whether an end tag stands here. Walks of stage 6: begun, isEndTag. Walks of stage 6: plain, upToEndTag of the reader.
-/
import Derived.Test.YtjhhhlomkfnniaaDoorTokRead
namespace Go.Proofs.YtjhhhlomkfnniaaDoor.To
set_option linter.unusedSimpArgs false
set_option linter.unusedVariables false
open Go.RowKit Ba Fm Fo Tm

theorem isEmpty_L {s : ByteArray} (h : ¬ 0 < s.size) : L s = [] := List.eq_nil_of_length_eq_zero (by rw [size_L]; omega)
theorem L_cons (s : ByteArray) (h : 0 < s.size) : L s = s[0] :: (L s).drop 1 := by
  have := drop_cons s 0 h
  rwa [List.drop_zero] at this
theorem letter1 (c : UInt8) (w : World) (q : Bool) (hq : lr c = q) : Calls Tryd.prog 79 #[.int .u8 c.toNat] w fun e w' => e = .returned (.bool q) ∧ w = w' := by
  subst hq
  exact letter_any c w

set_option maxHeartbeats 1000000 in
theorem slash_any (s : ByteArray) (w : World) (hs : s.size ≤ 140737488355328) : Calls Tryd.prog 80 #[.string s] w fun e w' => e = .returned (.int .i64 (slashed (L s))) ∧ w = w' := by
  by_cases hp : 0 < s.size
  · have hl := L_cons s hp
    have he : s.toList.isEmpty = false := by rw [toList_L, hl]; rfl
    cases hr : lr s[0] with
    | true =>
      have hv : slashed (L s) = 2 := by rw [hl]; simp [slashed, hr]
      have HR := Lib.hid hr; have HV := Lib.hid hv; clear hr hv hl
      go_enter Tryd.func80, Tryd.ntmps80
      go_wp2_with (go_at_call 79; refine (letter1 s[0] _ true HR.out).mono ?_; rintro e w' ⟨rfl, rfl⟩)
      go_ret
      exact ⟨ret_int (by rw [HV.out]; rfl), rfl⟩
    | false =>
      have e62 : ((s[0].toNat : Int) == 62) = (s[0] == 62) := u8_eq (b := 62)
      cases h62 : (s[0] == 62) with
      | true =>
        have hv : slashed (L s) = 3 := by rw [hl]; have := eq_of_beq h62; simp [slashed, hr, this]; rw [this] at hr; revert hr; decide
        rw [h62] at e62
        have HR := Lib.hid hr; have HV := Lib.hid hv; clear hr hv hl h62
        go_enter Tryd.func80, Tryd.ntmps80
        go_wp2_with (go_at_call 79; refine (letter1 s[0] _ false HR.out).mono ?_; rintro e w' ⟨rfl, rfl⟩)
        go_ret
        exact ⟨ret_int (by rw [HV.out]; rfl), rfl⟩
      | false =>
        have hv : slashed (L s) = 6 := by rw [hl]; have : ¬ s[0] = 62 := by simpa using h62
                                          simp [slashed, hr, this]
        rw [h62] at e62
        have HR := Lib.hid hr; have HV := Lib.hid hv; clear hr hv hl h62
        go_enter Tryd.func80, Tryd.ntmps80
        go_wp2_with (go_at_call 79; refine (letter1 s[0] _ false HR.out).mono ?_; rintro e w' ⟨rfl, rfl⟩)
        go_ret
        exact ⟨ret_int (by rw [HV.out]; rfl), rfl⟩
  · have hl := isEmpty_L hp
    have he : s.toList.isEmpty = true := by rw [toList_L, hl]; rfl
    have hv : slashed (L s) = 0 := by rw [hl]; rfl
    have HV := Lib.hid hv; clear hv hl
    go_enter Tryd.func80, Tryd.ntmps80
    go_wp2
    go_ret
    exact ⟨ret_int (by rw [HV.out]; rfl), rfl⟩

theorem starts1 (s t : ByteArray) (w : World) (tl : List UInt8) (q : Bool) (hs : s.size ≤ 140737488355328) (ht : t.size ≤ 140737488355328) (hl : L t = tl) (hq : pre tl (L s) = q) :
    Calls Tryd.prog 91 #[.string s, .string t] w fun e w' => e = .returned (.bool q) ∧ w = w' := by
  subst hl hq
  exact starts_any s t w hs ht
theorem same1 (a b : ByteArray) (w : World) (q : Bool) (ha : a.size ≤ 140737488355328) (hb : b.size ≤ 140737488355328) (hq : decide (lowL (L a) = lowL (L b)) = q) :
    Calls Tryd.prog 92 #[.string a, .string b] w fun e w' => e = .returned (.bool q) ∧ Below w.heap.size w w' := by
  subst hq
  exact same_any a b w ha hb

theorem marked_4 {r : List UInt8} (h : pre [45, 45] r = true) : marked r = 4 := by unfold marked; rw [if_pos h]
theorem marked_5 {r : List UInt8} (h : pre [45, 45] r = false) (h1 : lowL (r.take 7) = [100, 111, 99, 116, 121, 112, 101]) (h2 : by1 lr (r.drop 7) = false) : marked r = 5 := by unfold marked; rw [if_neg (by rw [h]; simp), if_pos ⟨h1, h2⟩]
theorem marked_6 {r : List UInt8} (h : pre [45, 45] r = false) (h1 : ¬ (lowL (r.take 7) = [100, 111, 99, 116, 121, 112, 101] ∧ by1 lr (r.drop 7) = false)) : marked r = 6 := by unfold marked; rw [if_neg (by rw [h]; simp), if_neg h1]
theorem word7 : L (⟨#[100, 111, 99, 116, 121, 112, 101]⟩ : ByteArray) = [100, 111, 99, 116, 121, 112, 101] ∧ lowL [100, 111, 99, 116, 121, 112, 101] = [100, 111, 99, 116, 121, 112, 101] := ⟨rfl, by decide⟩
theorem L_take (s : ByteArray) (n : Nat) : L (s.extract 0 n) = (L s).take n := by rw [L_extract, List.drop_zero, Nat.sub_zero]

set_option maxHeartbeats 2000000 in
theorem mark_any (s : ByteArray) (w : World) (hs : s.size ≤ 140737488355328) : Calls Tryd.prog 81 #[.string s] w fun e w' => e = .returned (.int .i64 (marked (L s))) ∧ Below w.heap.size w w' := by
  have h4 : (4 : Nat) ≤ 5 := by decide
  cases hpre : pre [45, 45] (L s) with
  | true =>
    have hv := marked_4 hpre
    have HP := Lib.hid hpre; have HV := Lib.hid hv; clear hpre hv
    go_enter Tryd.func81, Tryd.ntmps81
    go_wp2_with (go_at_call 91; refine (starts1 s _ _ [45, 45] true hs (by decide) rfl HP.out).mono ?_; rintro e w' ⟨rfl, rfl⟩)
    go_ret
    exact ⟨ret_int (by rw [HV.out]; rfl), Below.refl _ _⟩
  | false =>
    by_cases h7 : 7 ≤ s.size
    · have hd : decide ((s.size : Int) < 7) = false := decide_eq_false (by omega)
      have hx : (s.extract 0 7).size ≤ 140737488355328 := Nat.le_trans (size_extract _ _ _) hs
      have hsm : decide (lowL (L (s.extract 0 7)) = lowL (L (⟨#[100, 111, 99, 116, 121, 112, 101]⟩ : ByteArray))) = decide (lowL ((L s).take 7) = [100, 111, 99, 116, 121, 112, 101]) := by rw [L_take, word7.1, word7.2]
      by_cases hw : lowL ((L s).take 7) = [100, 111, 99, 116, 121, 112, 101]
      · rw [decide_eq_true hw] at hsm
        by_cases h8 : 7 < s.size
        · have hd8 : decide ((7 : Int) < s.size) = true := decide_eq_true (by omega)
          cases hr : lr s[7] with
          | true =>
            have hv := marked_6 hpre (fun e => by have := e.2; rw [by1_at lr s 7 h8 true hr] at this; cases this)
            have HP := Lib.hid hpre; have HV := Lib.hid hv; have HS := Lib.hid hsm; have HR := Lib.hid hr; clear hpre hv hsm hr hw
            go_enter Tryd.func81, Tryd.ntmps81
            go_wp2_with (first
              | (go_at_call 91; refine (starts1 s _ _ [45, 45] false hs (by decide) rfl HP.out).mono ?_; rintro e w' ⟨rfl, rfl⟩)
              | (go_at_call 92; refine (same1 _ _ w true hx (by decide) HS.out).mono ?_; rintro e w1 ⟨rfl, hb1⟩)
              | (go_at_call 79; refine (letter1 s[7] _ true HR.out).mono ?_; rintro e w' ⟨rfl, rfl⟩))
            go_ret
            exact ⟨ret_int (by rw [HV.out]; rfl), hb1⟩
          | false =>
            have hv := marked_5 hpre hw (by1_at lr s 7 h8 false hr)
            have HP := Lib.hid hpre; have HV := Lib.hid hv; have HS := Lib.hid hsm; have HR := Lib.hid hr; clear hpre hv hsm hr hw
            go_enter Tryd.func81, Tryd.ntmps81
            go_wp2_with (first
              | (go_at_call 91; refine (starts1 s _ _ [45, 45] false hs (by decide) rfl HP.out).mono ?_; rintro e w' ⟨rfl, rfl⟩)
              | (go_at_call 92; refine (same1 _ _ w true hx (by decide) HS.out).mono ?_; rintro e w1 ⟨rfl, hb1⟩)
              | (go_at_call 79; refine (letter1 s[7] _ false HR.out).mono ?_; rintro e w' ⟨rfl, rfl⟩))
            go_ret
            exact ⟨ret_int (by rw [HV.out]; rfl), hb1⟩
        · have hd8 : decide ((7 : Int) < s.size) = false := decide_eq_false (by omega)
          have hv := marked_5 hpre hw (by rw [drop_nil s 7 h8]; rfl)
          have HP := Lib.hid hpre; have HV := Lib.hid hv; have HS := Lib.hid hsm; clear hpre hv hsm hw
          go_enter Tryd.func81, Tryd.ntmps81
          go_wp2_with (first
            | (go_at_call 91; refine (starts1 s _ _ [45, 45] false hs (by decide) rfl HP.out).mono ?_; rintro e w' ⟨rfl, rfl⟩)
            | (go_at_call 92; refine (same1 _ _ w true hx (by decide) HS.out).mono ?_; rintro e w1 ⟨rfl, hb1⟩))
          go_ret
          exact ⟨ret_int (by rw [HV.out]; rfl), hb1⟩
      · rw [decide_eq_false hw] at hsm
        have hv := marked_6 hpre (fun e => hw e.1)
        have HP := Lib.hid hpre; have HV := Lib.hid hv; have HS := Lib.hid hsm; clear hpre hv hsm hw
        go_enter Tryd.func81, Tryd.ntmps81
        go_wp2_with (first
          | (go_at_call 91; refine (starts1 s _ _ [45, 45] false hs (by decide) rfl HP.out).mono ?_; rintro e w' ⟨rfl, rfl⟩)
          | (go_at_call 92; refine (same1 _ _ w false hx (by decide) HS.out).mono ?_; rintro e w1 ⟨rfl, hb1⟩))
        go_ret
        exact ⟨ret_int (by rw [HV.out]; rfl), hb1⟩
    · have hd : decide ((s.size : Int) < 7) = true := decide_eq_true (by omega)
      have hv := marked_6 hpre (fun e => by
        have := congrArg List.length e.1
        rw [len_lowL, List.length_take, size_L] at this
        simp at this
        omega)
      have HP := Lib.hid hpre; have HV := Lib.hid hv; clear hpre hv
      go_enter Tryd.func81, Tryd.ntmps81
      go_wp2_with (go_at_call 91; refine (starts1 s _ _ [45, 45] false hs (by decide) rfl HP.out).mono ?_; rintro e w' ⟨rfl, rfl⟩)
      go_ret
      exact ⟨ret_int (by rw [HV.out]; rfl), Below.refl _ _⟩

end Go.Proofs.YtjhhhlomkfnniaaDoor.To

namespace Go.Proofs.YtjhhhlomkfnniaaDoor.To
set_option linter.unusedSimpArgs false
set_option linter.unusedVariables false
open Go.RowKit Ba Fm Fo Tm

theorem below_d (w : World) (n : Nat) : Below w.heap.size w (w.drewN n) := ⟨rfl, rfl, rfl, Nat.le_refl _, fun _ _ => rfl⟩
theorem below_d2 {w w' : World} {n : Nat} (h : Below (w.drewN n).heap.size (w.drewN n) w') : Below w.heap.size w w' := ⟨h.os, h.tape, h.output, h.size, h.block⟩
theorem begun_two (a c : UInt8) (r : List UInt8) : Tm.begun (a :: c :: r) = if a = 60 then (if lr c = true then 1 else if c = 47 then slashed r else if c = 33 then marked r else if c = 63 then 6 else 0) else 0 := rfl
theorem L_two (s : ByteArray) (h : 2 ≤ s.size) : L s = s[0] :: s[1] :: (L s).drop 2 := by
  have h0 := L_cons s (by omega)
  rw [drop_cons s 1 (by omega)] at h0
  exact h0
theorem begun_few {s : ByteArray} (h : ¬ 2 ≤ s.size) : Tm.begun (L s) = 0 := by
  have hl : (L s).length < 2 := by rw [size_L]; omega
  match h : L s, hl with
  | [], _ => rfl
  | [a], _ =>
    show (if a = 60 then 0 else 0) = 0
    split <;> rfl
theorem slash1 (s : ByteArray) (w : World) (l : List UInt8) (hs : s.size ≤ 140737488355328) (hl : L s = l) : Calls Tryd.prog 80 #[.string s] w fun e w' => e = .returned (.int .i64 (slashed l)) ∧ w = w' := by
  subst hl
  exact slash_any s w hs
theorem mark1 (s : ByteArray) (w : World) (l : List UInt8) (hs : s.size ≤ 140737488355328) (hl : L s = l) : Calls Tryd.prog 81 #[.string s] w fun e w' => e = .returned (.int .i64 (marked l)) ∧ Below w.heap.size w w' := by
  subst hl
  exact mark_any s w hs

set_option maxHeartbeats 2000000 in
theorem begun_any (s : ByteArray) (w : World) (hs : s.size ≤ 140737488355328) : Calls Tryd.prog 59 #[.string s] w fun e w' => e = .returned (.int .i64 (Tm.begun (L s))) ∧ Below w.heap.size w w' := by
  by_cases h2 : 2 ≤ s.size
  · have hd : decide ((s.size : Int) < 2) = false := decide_eq_false (by omega)
    have hl := L_two s h2
    have hx : (s.extract 2 s.size).size ≤ 140737488355328 := Nat.le_trans (size_extract _ _ _) hs
    have hxl : L (s.extract 2 s.size) = (L s).drop 2 := L_end s 2
    have e60 : ((s[0].toNat : Int) == 60) = (s[0] == 60) := u8_eq (b := 60)
    have h1 : 1 < s.size := by omega
    have h0 : 0 < s.size := by omega
    have i2 : (2 : Int) ≤ (s.size : Int) := by omega
    have j1 : (1 : Int) < (s.size : Int) := by omega
    cases h60 : (s[0] == 60) with
    | false =>
      have hv : Tm.begun (L s) = 0 := by rw [hl, begun_two, if_neg (by simpa using h60)]
      rw [h60] at e60
      have HV := Lib.hid hv; clear hv hl h60 hxl
      go_enter Tryd.func59, Tryd.ntmps59
      go_wp2
      go_ret
      exact ⟨ret_int (by rw [HV.out]; rfl), Below.refl _ _⟩
    | true =>
      have hb : Tm.begun (L s) = if lr s[1] = true then 1 else if s[1] = 47 then slashed ((L s).drop 2) else if s[1] = 33 then marked ((L s).drop 2) else if s[1] = 63 then 6 else 0 := by
        conv => lhs; rw [hl]
        rw [begun_two, if_pos (by simpa using h60)]
      rw [h60] at e60
      have e47 : ((s[1].toNat : Int) == 47) = (s[1] == 47) := u8_eq (b := 47)
      have e33 : ((s[1].toNat : Int) == 33) = (s[1] == 33) := u8_eq (b := 33)
      have e63 : ((s[1].toNat : Int) == 63) = (s[1] == 63) := u8_eq (b := 63)
      have HX := Lib.hid hxl
      clear hl h60 hxl
      cases hr : lr s[1] with
      | true =>
        rw [if_pos hr] at hb
        have HV := Lib.hid hb; have HR := Lib.hid hr; clear hb hr
        go_enter Tryd.func59, Tryd.ntmps59
        go_wp2
        go_quiet (fail)
        go_wp2_with (go_at_call 79; refine (letter1 s[1] _ true HR.out).mono ?_; rintro e w' ⟨rfl, rfl⟩)
        go_ret
        exact ⟨ret_int (by rw [HV.out]; rfl), below_d _ _⟩
      | false =>
        rw [if_neg (by rw [hr]; simp)] at hb
        have HR := Lib.hid hr; clear hr
        cases h47 : (s[1] == 47) with
        | true =>
          rw [if_pos (by simpa using h47)] at hb
          rw [h47] at e47
          have HV := Lib.hid hb; clear hb h47
          go_enter Tryd.func59, Tryd.ntmps59
          go_wp2
          go_quiet (fail)
          go_wp2_with (first
            | (go_at_call 79; refine (letter1 s[1] _ false HR.out).mono ?_; rintro e w' ⟨rfl, rfl⟩)
            | (go_at_call 80; refine (slash1 _ _ _ hx HX.out).mono ?_; rintro e w' ⟨rfl, rfl⟩))
          go_ret
          exact ⟨ret_int (by rw [HV.out]), below_d _ _⟩
        | false =>
          rw [if_neg (by simpa using h47)] at hb
          rw [h47] at e47
          clear h47
          cases h33 : (s[1] == 33) with
          | true =>
            rw [if_pos (by simpa using h33)] at hb
            rw [h33] at e33
            have HV := Lib.hid hb; clear hb h33
            go_enter Tryd.func59, Tryd.ntmps59
            go_wp2
            go_quiet (fail)
            go_wp2_with (first
              | (go_at_call 79; refine (letter1 s[1] _ false HR.out).mono ?_; rintro e w' ⟨rfl, rfl⟩)
              | (go_at_call 81; refine (mark1 _ _ _ hx HX.out).mono ?_; rintro e w1 ⟨rfl, hb1⟩))
            go_ret
            exact ⟨ret_int (by rw [HV.out]), below_d2 hb1⟩
          | false =>
            rw [if_neg (by simpa using h33)] at hb
            rw [h33] at e33
            clear h33
            cases h63 : (s[1] == 63) with
            | true =>
              rw [if_pos (by simpa using h63)] at hb
              rw [h63] at e63
              have HV := Lib.hid hb; clear hb h63
              go_enter Tryd.func59, Tryd.ntmps59
              go_wp2
              go_quiet (fail)
              go_wp2_with (go_at_call 79; refine (letter1 s[1] _ false HR.out).mono ?_; rintro e w' ⟨rfl, rfl⟩)
              go_ret
              exact ⟨ret_int (by rw [HV.out]; rfl), below_d _ _⟩
            | false =>
              rw [if_neg (by simpa using h63)] at hb
              rw [h63] at e63
              have HV := Lib.hid hb; clear hb h63
              go_enter Tryd.func59, Tryd.ntmps59
              go_wp2
              go_quiet (fail)
              go_wp2_with (go_at_call 79; refine (letter1 s[1] _ false HR.out).mono ?_; rintro e w' ⟨rfl, rfl⟩)
              go_ret
              exact ⟨ret_int (by rw [HV.out]; rfl), below_d _ _⟩
  · have hd : decide ((s.size : Int) < 2) = true := decide_eq_true (by omega)
    have hv := begun_few h2
    have HV := Lib.hid hv; clear hv
    go_enter Tryd.func59, Tryd.ntmps59
    go_wp2
    go_ret
    exact ⟨ret_int (by rw [HV.out]; rfl), Below.refl _ _⟩

theorem isEnd_short {n s : ByteArray} (h : ¬ 2 + n.size < s.size) : isEnd (L n) (L s) = false := by
  unfold isEnd
  rw [size_L, drop_nil s _ h]
  simp [by1]
set_option maxHeartbeats 2000000 in
theorem isEndTag_any (s n : ByteArray) (w : World) (hs : s.size ≤ 140737488351232) (hn : n.size ≤ 140737488351232) :
    Calls Tryd.prog 76 #[.string s, .string n] w fun e w' => e = .returned (.bool (isEnd (L n) (L s))) ∧ Below w.heap.size w w' := by
  by_cases h2 : 2 + n.size < s.size
  · have hd : decide ((2 : Int) + n.size < s.size) = true := decide_eq_true (by omega)
    have hx : (s.extract 2 (2 + n.size)).size ≤ 140737488355328 := Nat.le_trans (size_extract _ _ _) (by omega)
    have i0 : (2 : Int) ≤ 2 + (n.size : Int) := by omega
    have i1 : (2 : Int) + (n.size : Int) ≤ (s.size : Int) := by omega
    have hxl : L (s.extract 2 (2 + n.size)) = ((L s).drop 2).take n.size := by rw [L_extract, Nat.add_sub_cancel_left]
    cases hp : pre [60, 47] (L s) with
    | false =>
      have hv : isEnd (L n) (L s) = false := by unfold isEnd; rw [hp]; rfl
      have HP := Lib.hid hp; have HV := Lib.hid hv; clear hp hv hxl
      go_enter Tryd.func76, Tryd.ntmps76
      go_wp2_with (go_at_call 91; refine (starts1 s _ _ [60, 47] false (by omega) (by decide) rfl HP.out).mono ?_; rintro e w' ⟨rfl, rfl⟩)
      go_ret
      exact ⟨ret_bool HV.out.symm, Below.refl _ _⟩
    | true =>
      have hsame : decide (lowL (L (s.extract 2 (2 + n.size))) = lowL (L n)) = decide (lowL (((L s).drop 2).take n.size) = lowL (L n)) := by rw [hxl]
      have hb1 : by1 en ((L s).drop (2 + n.size)) = en s[2 + n.size] := by rw [drop_cons s _ h2]; rfl
      have hv : isEnd (L n) (L s) = (decide (lowL (((L s).drop 2).take n.size) = lowL (L n)) && en s[2 + n.size]) := by unfold isEnd; rw [hp, size_L, hb1]; rfl
      cases hq : decide (lowL (((L s).drop 2).take n.size) = lowL (L n)) with
      | false =>
        rw [hq] at hv hsame
        have HP := Lib.hid hp; have HV := Lib.hid hv; have HS := Lib.hid hsame; clear hp hv hxl hsame hq hb1
        go_enter Tryd.func76, Tryd.ntmps76
        go_wp2_with (first
          | (go_at_call 91; refine (starts1 s _ _ [60, 47] true (by omega) (by decide) rfl HP.out).mono ?_; rintro e w' ⟨rfl, rfl⟩)
          | (go_at_call 92; refine (same1 _ _ w false hx (by omega) HS.out).mono ?_; rintro e w1 ⟨rfl, hb1⟩))
        go_ret
        exact ⟨ret_bool HV.out.symm, hb1⟩
      | true =>
        rw [hq] at hv hsame
        have HP := Lib.hid hp; have HV := Lib.hid hv; have HS := Lib.hid hsame; clear hp hv hxl hsame hq hb1
        go_enter Tryd.func76, Tryd.ntmps76
        go_wp2_with (first
          | (go_at_call 91; refine (starts1 s _ _ [60, 47] true (by omega) (by decide) rfl HP.out).mono ?_; rintro e w' ⟨rfl, rfl⟩)
          | (go_at_call 92; refine (same1 _ _ w true hx (by omega) HS.out).mono ?_; rintro e w1 ⟨rfl, hb1⟩)
          | (go_at_call 83; refine (endsName_any s[2 + n.size] _).mono ?_; rintro e w' ⟨rfl, rfl⟩))
        go_ret
        exact ⟨ret_bool HV.out.symm, hb1⟩
  · have hd : decide ((2 : Int) + n.size < s.size) = false := decide_eq_false (by omega)
    have hv := isEnd_short h2
    have HV := Lib.hid hv; clear hv
    go_enter Tryd.func76, Tryd.ntmps76
    go_wp2
    go_ret
    exact ⟨ret_bool HV.out.symm, Below.refl _ _⟩

end Go.Proofs.YtjhhhlomkfnniaaDoor.To

namespace Go.Proofs.YtjhhhlomkfnniaaDoor.To
set_option linter.unusedSimpArgs false
set_option linter.unusedVariables false
open Go.RowKit Ba Fm Fo Tm

theorem begun1 (s : ByteArray) (w : World) (l : List UInt8) (n : Nat) (hs : s.size ≤ 140737488355328) (hl : L s = l) (hn : Tm.begun l = n) : Calls Tryd.prog 59 #[.string s] w fun e w' => e = .returned (.int .i64 n) ∧ Below w.heap.size w w' := by
  subst hl hn
  exact begun_any s w hs
theorem endTag1 (s n : ByteArray) (w : World) (l : List UInt8) (q : Bool) (hs : s.size ≤ 140737488351232) (hn : n.size ≤ 140737488351232) (hl : L s = l) (hq : isEnd (L n) l = q) :
    Calls Tryd.prog 76 #[.string s, .string n] w fun e w' => e = .returned (.bool q) ∧ Below w.heap.size w w' := by
  subst hl hq
  exact isEndTag_any s n w hs hn
theorem rc_next {w wr w2 : World} {b k m : Nat} {s : ByteArray} {v : Value} (h : Rc wr b s m v) (hg : w.grownBy wr (some b)) (hb : Below wr.drew.heap.size wr.drew w2) : Rc w2 b s m v ∧ w.grownBy w2 (some b) :=
  ⟨(show Rc wr.drew b s m v from h).below hb, g_below (show w.grownBy wr.drew (some b) from ⟨hg.os, hg.tape, hg.output, hg.size, hg.block⟩) hb⟩

set_option maxRecDepth 100000 in
set_option maxHeartbeats 4000000 in
theorem plain_any (b k : Nat) (s : ByteArray) (v : Value) (w : World) (h : Rc w b s k v) (hk : k ≤ s.size) (hs : s.size ≤ 140737488351232) :
    Calls Tryd.prog 33 #[rp b] w fun e w' => e = .returned (.string (B (lead (bg) ((L s).drop k)))) ∧ ∃ m, m ≤ s.size ∧ (L s).drop m = trail (bg) ((L s).drop k) ∧ Rc w' b s m v ∧ w.grownBy w' (some b) := by
  have c1 := h.c1
  have hs' : s.size ≤ 140737488355328 := by omega
  go_enter Tryd.func33, Tryd.ntmps33
  go_wp2
  clear c1
  go_loopw [] (fun wr => ∃ m : Nat, Far (bg) s k m ∧ Rc wr b s m v ∧ w.grownBy wr (some b)) (fun wr => s.size - posOf wr b)
  case atStart => exact ⟨k, .start hk, h, World.grownBy.refl _ _⟩
  case round =>
    clear h
    obtain ⟨m, hf, h, hg⟩ := hrel
    have hm := hf.2.1
    have hkm := hf.1
    have c0 := h.c0; have c1 := h.c1; have f1 := h.f 1
    have hpos := h.pos
    by_cases hp : m < s.size
    · have hlt : decide ((m : Int) < s.size) = true := decide_eq_true (by omega)
      have hx : (s.extract m s.size).size ≤ 140737488351232 := Nat.le_trans (size_extract _ _ _) hs
      have hxl := L_end s m
      have i0 : (0 : Int) ≤ (m : Int) := by omega
      have i1 : (m : Int) ≤ (s.size : Int) := by omega
      cases hb : Tm.begun ((L s).drop m) with
      | zero =>
        have hf := hf.next hp (by unfold bg; rw [hb]; rfl)
        have H := Lib.hid h; have HF := Lib.hid hf; have HS := Lib.hid hb; have HP := Lib.hid hpos; have HG := Lib.hid hg; have HX := Lib.hid hxl; clear h hf hb hpos hg hxl
        go_wp2
        go_still_tail 20, (by kernel_rfl)
        change wpList _ _ _ _ _ wr.drew
        go_wp2_with fail
        refine (begun1 _ _ _ 0 (by omega) HX.out HS.out).mono ?_
        rintro e w2 ⟨rfl, hb2⟩
        obtain ⟨h2, hg2⟩ := rc_next (k := k) H.out HG.out hb2
        clear c0 c1 f1
        have c1 := h2.c1; have f1 := h2.f 1
        have H2 := Lib.hid h2; have HG2 := Lib.hid hg2; clear h2 hg2 hb2
        go_wp2
        go_roundw
        case rel => exact ⟨m + 1, HF.out, H2.out.set1 (m + 1), HG2.out.trans (g_set _ _ _ _)⟩
        case measure =>
          rw [show posOf (w2.setCell ⟨b, 1, none⟩ (.int .i64 (m + 1))) b = m + 1 from (H2.out.set1 (m + 1)).pos, HP.out]
          omega
      | succ n =>
        have hd := hf.done (.inl (by unfold bg; rw [hb]; rfl))
        have H := Lib.hid h; have HD := Lib.hid hd; have HS := Lib.hid hb; have HG := Lib.hid hg; have HX := Lib.hid hxl; clear h hf hb hpos hg hd hxl
        have hn0 : ((n + 1 : Nat) : Int) ≠ 0 := by omega
        have hn1 : (((n + 1 : Nat) : Int) == 0) = false := by simpa using hn0
        generalize hN : n + 1 = N at *
        go_wp2
        go_still_tail 20, (by kernel_rfl)
        change wpList _ _ _ _ _ wr.drew
        go_wp2_with fail
        refine (begun1 _ _ _ N (by omega) HX.out HS.out).mono ?_
        rintro e w2 ⟨rfl, hb2⟩
        obtain ⟨h2, hg2⟩ := rc_next (k := k) H.out HG.out hb2
        clear c0 c1 f1
        have c0 := h2.c0; have c1 := h2.c1
        have H2 := Lib.hid h2; have HG2 := Lib.hid hg2; clear h2 hg2 hb2
        go_wp2
        go_quiet (fail)
        go_wp2
        go_ret
        exact ⟨ret_str HD.out.1, m, hm, HD.out.2, H2.out, HG2.out.trans (g_dN _ _ _)⟩
    · have hlt : decide ((m : Int) < s.size) = false := decide_eq_false (by omega)
      have hd := hf.done (.inr hp)
      have H := Lib.hid h; have HD := Lib.hid hd; have HG := Lib.hid hg; clear h hf hpos hg hd
      go_wp2
      go_quiet (fail)
      go_wp2
      go_quiet (fail)
      go_wp2
      go_ret
      exact ⟨ret_str HD.out.1, m, hm, HD.out.2, H.out, (HG.out.trans (g_dN _ _ _)).trans (g_dN _ _ _)⟩

set_option maxRecDepth 100000 in
set_option maxHeartbeats 4000000 in
theorem upToEnd_any (b k : Nat) (s : ByteArray) (v : Value) (nm : ByteArray) (hnm : nm.size ≤ 140737488351232) (w : World) (h : Rc w b s k v) (hk : k ≤ s.size) (hs : s.size ≤ 140737488351232) :
    Calls Tryd.prog 56 #[rp b, .string nm] w fun e w' => e = .returned (.string (B (lead (isEnd (L nm)) ((L s).drop k)))) ∧ ∃ m, m ≤ s.size ∧ (L s).drop m = trail (isEnd (L nm)) ((L s).drop k) ∧ Rc w' b s m v ∧ w.grownBy w' (some b) := by
  have c1 := h.c1
  have hs' : s.size ≤ 140737488355328 := by omega
  go_enter Tryd.func56, Tryd.ntmps56
  go_wp2
  clear c1
  go_loopw [] (fun wr => ∃ m : Nat, Far (isEnd (L nm)) s k m ∧ Rc wr b s m v ∧ w.grownBy wr (some b)) (fun wr => s.size - posOf wr b)
  case atStart => exact ⟨k, .start hk, h, World.grownBy.refl _ _⟩
  case round =>
    clear h
    obtain ⟨m, hf, h, hg⟩ := hrel
    have hm := hf.2.1
    have hkm := hf.1
    have c0 := h.c0; have c1 := h.c1; have f1 := h.f 1
    have hpos := h.pos
    by_cases hp : m < s.size
    · have hlt : decide ((m : Int) < s.size) = true := decide_eq_true (by omega)
      have hx : (s.extract m s.size).size ≤ 140737488351232 := Nat.le_trans (size_extract _ _ _) hs
      have hxl := L_end s m
      have i0 : (0 : Int) ≤ (m : Int) := by omega
      have i1 : (m : Int) ≤ (s.size : Int) := by omega
      cases hb : isEnd (L nm) ((L s).drop m) with
      | false =>
        have hf := hf.next hp (hb)
        have H := Lib.hid h; have HF := Lib.hid hf; have HS := Lib.hid hb; have HP := Lib.hid hpos; have HG := Lib.hid hg; have HX := Lib.hid hxl; clear h hf hb hpos hg hxl
        go_wp2
        go_still_tail 21, (by kernel_rfl)
        change wpList _ _ _ _ _ wr.drew
        go_wp2_with fail
        refine (endTag1 _ _ _ _ false hx hnm HX.out HS.out).mono ?_
        rintro e w2 ⟨rfl, hb2⟩
        obtain ⟨h2, hg2⟩ := rc_next (k := k) H.out HG.out hb2
        clear c0 c1 f1
        have c1 := h2.c1; have f1 := h2.f 1
        have H2 := Lib.hid h2; have HG2 := Lib.hid hg2; clear h2 hg2 hb2
        go_wp2
        go_roundw
        case rel => exact ⟨m + 1, HF.out, H2.out.set1 (m + 1), HG2.out.trans (g_set _ _ _ _)⟩
        case measure =>
          rw [show posOf (w2.setCell ⟨b, 1, none⟩ (.int .i64 (m + 1))) b = m + 1 from (H2.out.set1 (m + 1)).pos, HP.out]
          omega
      | true =>
        have hd := hf.done (.inl (hb))
        have H := Lib.hid h; have HD := Lib.hid hd; have HS := Lib.hid hb; have HG := Lib.hid hg; have HX := Lib.hid hxl; clear h hf hb hpos hg hd hxl
        
        
        
        go_wp2
        go_still_tail 21, (by kernel_rfl)
        change wpList _ _ _ _ _ wr.drew
        go_wp2_with fail
        refine (endTag1 _ _ _ _ true hx hnm HX.out HS.out).mono ?_
        rintro e w2 ⟨rfl, hb2⟩
        obtain ⟨h2, hg2⟩ := rc_next (k := k) H.out HG.out hb2
        clear c0 c1 f1
        have c0 := h2.c0; have c1 := h2.c1
        have H2 := Lib.hid h2; have HG2 := Lib.hid hg2; clear h2 hg2 hb2
        go_wp2
        go_quiet (fail)
        go_wp2
        go_ret
        exact ⟨ret_str HD.out.1, m, hm, HD.out.2, H2.out, HG2.out.trans (g_dN _ _ _)⟩
    · have hlt : decide ((m : Int) < s.size) = false := decide_eq_false (by omega)
      have hd := hf.done (.inr hp)
      have H := Lib.hid h; have HD := Lib.hid hd; have HG := Lib.hid hg; clear h hf hpos hg hd
      go_wp2
      go_quiet (fail)
      go_wp2
      go_quiet (fail)
      go_wp2
      go_ret
      exact ⟨ret_str HD.out.1, m, hm, HD.out.2, H.out, (HG.out.trans (g_dN _ _ _)).trans (g_dN _ _ _)⟩

end Go.Proofs.YtjhhhlomkfnniaaDoor.To
