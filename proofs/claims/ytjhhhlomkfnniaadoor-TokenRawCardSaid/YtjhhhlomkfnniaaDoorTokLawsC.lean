/-
  Walks of stage 6's law TokenRaw: it returns true.
-/
import Derived.Test.YtjhhhlomkfnniaaDoorTokLawsB
namespace Go.Proofs.YtjhhhlomkfnniaaDoor.To
set_option linter.unusedSimpArgs false
set_option linter.unusedVariables false
open Go.RowKit Ba Fm Fo Tm Sm
open Ro (range5)
open Re (Tab)

theorem pre_at (a b : UInt8) (s : ByteArray) (k : Nat) (h : k + 1 < s.size) : pre [a, b] ((L s).drop k) = ((s[k] == a) && (s[k + 1] == b)) := by
  rw [drop_cons s k (by omega), drop_cons s (k + 1) h, pre_cons, pre_cons, pre_nil, Bool.and_true]
  rfl
theorem pre_few (a b : UInt8) (s : ByteArray) (k : Nat) (h : ¬ k + 1 < s.size) : pre [a, b] ((L s).drop k) = false := by
  by_cases h1 : k < s.size
  · rw [drop_cons s k h1, drop_nil s (k + 1) h, pre_cons, pre_none, Bool.and_false]
  · rw [drop_nil s k h1, pre_none]
theorem suffix_drop {q l : List UInt8} (h : q <:+ l) : ∃ j, q = l.drop j := by
  obtain ⟨p, hp⟩ := h
  exact ⟨p.length, by rw [← hp, List.drop_left]⟩
/-- The first three of a slice of tokens, and the others. -/
theorem Tv.parts {w : World} {V : Value} {t : List Tk} (h : Tv w V t) (h3 : 3 ≤ t.length) : ∃ b off c, V = .slice (some ⟨b, off, none⟩) t.length c ∧ t.length ≤ c ∧ Tv w (.slice (some ⟨b, off, none⟩) 3 c) (t.take 3) ∧
    (c ≠ 3 → Tv w (.slice (some ⟨b, off + 15, none⟩) (t.length - 3) (c - 3)) (t.drop 3)) ∧ (c = 3 → Tv w (.slice (some ⟨b, off, none⟩) 0 0) (t.drop 3)) := by
  obtain ⟨A, c, l, rfl, hc, hr, rfl⟩ := h
  rw [len_tks] at h3 hc
  obtain ⟨b, off, e, hb, hcells⟩ := hr.1 (by omega)
  subst e
  have p1 := hr.part 0 3 c (by omega) (by omega) hc
  have p2 := hr.part 3 l.length c (by omega) (Nat.le_refl _) hc
  rw [List.drop_zero] at p1
  rw [List.take_length] at p2
  refine ⟨b, off, c, rfl, by rw [len_tks]; exact hc, ⟨_, _, l.take 3, by rw [List.length_take, len_tks, Nat.min_eq_left h3], by rw [List.length_take]; omega, ?_, by rw [tks_take]⟩, fun hne => ⟨_, _, l.drop 3, by rw [List.length_drop], by rw [List.length_drop, len_tks]; omega, ?_, by rw [tks_drop]⟩, fun he => ⟨some ⟨b, off, none⟩, 0, [], ?_, by rw [List.length_drop, len_tks]; omega, Rr.nil _ _ _, ?_⟩⟩
  · rw [if_neg (by omega)] at p1
    simpa [WideShapes.add_plain] using p1
  · rw [if_neg hne] at p2
    simpa [WideShapes.add_plain] using p2
  · rw [List.length_drop, len_tks, show l.length - 3 = 0 from by omega]
  · rw [List.drop_eq_nil_of_le (by rw [len_tks]; omega)]
    rfl

abbrev sty (u : ByteArray) : List Tk := [⟨1, ⟨#[115, 116, 121, 108, 101]⟩, ⟨#[]⟩, [], false⟩, ⟨0, ⟨#[]⟩, u, [], false⟩, ⟨2, ⟨#[115, 116, 121, 108, 101]⟩, ⟨#[]⟩, [], false⟩]

theorem sameSty (w : World) (V : Value) (u : ByteArray) (hv : Tv w V (sty u)) : Calls Tryd.prog 14 #[V, .slice (some ⟨w.heap.size, 0, none⟩) 3 3] (w.alloc (.cells #[.int .i64 1, .string ⟨#[115, 116, 121, 108, 101]⟩, .string ⟨#[]⟩, .slice none 0 0, .bool false, .int .i64 0, .string ⟨#[]⟩, .string u, .slice none 0 0, .bool false, .int .i64 2, .string ⟨#[115, 116, 121, 108, 101]⟩, .string ⟨#[]⟩, .slice none 0 0, .bool false] 35)) fun e w' => e = .returned (.bool true) ∧ Below w.heap.size w w' :=
  sameLit w V (sty u) [⟨⟨1, ⟨#[115, 116, 121, 108, 101]⟩, ⟨#[]⟩, [], false⟩, none, 0⟩, ⟨⟨0, ⟨#[]⟩, u, [], false⟩, none, 0⟩, ⟨⟨2, ⟨#[115, 116, 121, 108, 101]⟩, ⟨#[]⟩, [], false⟩, none, 0⟩] hv (fun x hx => by
    simp only [List.mem_cons, List.not_mem_nil, or_false] at hx
    rcases hx with rfl | rfl | rfl <;> exact att_none _ _ _ rfl) rfl (by simp)

set_option maxRecDepth 100000 in
set_option maxHeartbeats 8000000 in
theorem law_raw (a b : ByteArray) (ha : a.size ≤ 140737488351232) (hb : b.size ≤ 140737488351232) (w : World) (hT : Tab w) :
    Calls Tryd.prog 8 #[.string a, .string b] w fun e w' => e = .returned (.bool true) ∧ Below w.heap.size w w' := by
  obtain ⟨k1, hk1, hk2, -, hmin⟩ := min_any a.size 200 200 rfl w
  obtain ⟨k2, hk3, hk4, -, hmin2⟩ := min_any b.size 200 200 rfl w
  obtain ⟨u, hu⟩ : ∃ u, a.extract 0 k1 = u := ⟨_, rfl⟩
  obtain ⟨v, hv⟩ : ∃ u, b.extract 0 k2 = u := ⟨_, rfl⟩
  have hus : u.size = k1 := by rw [← hu]; exact size_take a k1 hk1
  have hvs : v.size = k2 := by rw [← hv]; exact size_take b k2 hk3
  have HU := Lib.hid hu; have HV := Lib.hid hv; have HUS := Lib.hid hus; have HVS := Lib.hid hvs; have HT := Lib.hid hT
  clear hu hv hus hvs hT
  go_enter Tryd.func8, Tryd.ntmps8
  go_wp2_with fail
  rw [HU.out, HV.out]
  have zu : u.size ≤ 200 := by have := HUS.out; omega
  have zv : v.size ≤ 200 := by have := HVS.out; omega
  clear hmin hmin2 HU HV HUS HVS ha hb hk1 hk2 hk3 hk4
  go_loop [5] (fun i => ∃ k : Nat, i = .int .i64 k ∧ k ≤ u.size ∧ ∀ j, j < k → pre [60, 47] ((L u).drop j) = false) (fun i => u.size - (intOf i).toNat)
  case atStart => exact ⟨0, rfl, Nat.zero_le _, fun j h => absurd h (by omega)⟩
  case round =>
    obtain ⟨k, rfl, hk, hn⟩ := hrel
    by_cases hp : k + 1 < u.size
    · have hlt : decide ((k : Int) + 1 < u.size) = true := decide_eq_true (by omega)
      have hp0 : k < u.size := by omega
      have hpa := pre_at 60 47 u k hp
      have e60 : ((u[k].toNat : Int) == 60) = (u[k] == 60) := u8_eq (b := 60)
      have e47 : ((u[k + 1].toNat : Int) == 47) = (u[k + 1] == 47) := u8_eq (b := 47)
      have hnext : pre [60, 47] ((L u).drop k) = false → ∀ j, j < k + 1 → pre [60, 47] ((L u).drop j) = false := fun h j hj => by
        by_cases e : j = k
        · rw [e]; exact h
        · exact hn j (by omega)
      cases h60 : (u[k] == 60) with
      | false =>
        rw [h60] at e60 hpa
        have HN := Lib.hid (hnext hpa); clear hn hnext hpa h60
        go_wp2
        go_round
        case rel => exact ⟨k + 1, by go_num, by omega, HN.out⟩
        case measure => simp [intOf]; omega
      | true =>
        rw [h60] at e60 hpa
        cases h47 : (u[k + 1] == 47) with
        | false =>
          rw [h47] at e47 hpa
          have HN := Lib.hid (hnext hpa); clear hn hnext hpa h60 h47
          go_wp2
          go_round
          case rel => exact ⟨k + 1, by go_num, by omega, HN.out⟩
          case measure => simp [intOf]; omega
        | true =>
          rw [h47] at e47
          clear hn hnext hpa h60 h47
          go_wp2_with fail
          refine (fixed_any _ HT.out).mono ?_
          rintro e w1 ⟨rfl, hb1⟩
          go_wp2
          go_ret
          exact ⟨rfl, hb1⟩
    · have hlt : decide ((k : Int) + 1 < u.size) = false := decide_eq_false (by omega)
      have hall : ∀ q, q <:+ L u → pre [60, 47] q = false := fun q hq => by
        obtain ⟨j, rfl⟩ := suffix_drop hq
        by_cases hj : j < k
        · exact hn j hj
        · exact pre_few 60 47 u j (by omega)
      have HALL := Lib.hid hall; clear hn hall
      by_cases h0 : 0 < u.size
      · have hne : L u ≠ [] := L_ne h0
        have he : u.toList.isEmpty = false := by rw [toList_L]; simpa using hne
        have hl1 : u.size - 1 < u.size := by omega
        have i1 : (u.size : Int) - 1 = ((u.size - 1 : Nat) : Int) := by omega
        have e60 : ((u[u.size - 1].toNat : Int) == 60) = (u[u.size - 1] == 60) := u8_eq (b := 60)
        cases h60 : (u[u.size - 1] == 60) with
        | true =>
          rw [h60] at e60
          go_wp2_with fail
          refine (fixed_any _ HT.out).mono ?_
          rintro e w1 ⟨rfl, hb1⟩
          go_wp2
          go_ret
          exact ⟨rfl, hb1⟩
        | false =>
          rw [h60] at e60
          have q1 : within [] (L (((⟨#[60, 115, 116, 121, 108, 101, 62]⟩ ++ u) ++ ⟨#[60, 47, 115, 116, 121, 108, 101, 62]⟩) ++ v)) = sty u ++ within [] (L v) := by
            rw [within_nil, within_nil]
            have := cut_style (r := L v) hne HALL.out
            rw [← show sty u = [⟨1, B [115, 116, 121, 108, 101], B [], [], false⟩, tx (L u), ⟨2, B [115, 116, 121, 108, 101], B [], [], false⟩] from by unfold tx; rw [B_L]; rfl] at this
            rw [← this, L_append, L_append, L_append, List.append_assoc, List.append_assoc]
          obtain ⟨T, hTT⟩ : ∃ T, within [] (L v) = T := ⟨_, rfl⟩
          have hlen := within_len [] (L v)
          rw [hTT, size_L] at hlen
          rw [hTT] at q1
          have z1 : (⟨#[60, 115, 116, 121, 108, 101, 62]⟩ ++ u).size ≤ 300 := by rw [size_append]; show 7 + u.size ≤ _; omega
          have z2 : ((⟨#[60, 115, 116, 121, 108, 101, 62]⟩ ++ u) ++ ⟨#[60, 47, 115, 116, 121, 108, 101, 62]⟩).size ≤ 400 := by rw [size_append]; show _ + 8 ≤ _; omega
          have z3 : (((⟨#[60, 115, 116, 121, 108, 101, 62]⟩ ++ u) ++ ⟨#[60, 47, 115, 116, 121, 108, 101, 62]⟩) ++ v).size ≤ 600 := by rw [size_append]; omega
          have Q1 := Lib.hid q1; have HTT := Lib.hid hTT; have HLN := Lib.hid hlen; clear q1 hTT hlen HALL hne h60
          go_wp2_with fail
          refine (cutT _ w _ (by omega) HT.out Q1.out).mono ?_
          rintro e w1 ⟨V6, rfl, t6, b1⟩
          go_wp2_with fail
          refine (cutT _ w1 _ (by omega) (HT.out.below b1) HTT.out).mono ?_
          rintro e w2 ⟨V7, rfl, t7, b2⟩
          have B2 := bt b1 b2
          have hl6 : (sty u ++ T).length = T.length + 3 := by rw [List.length_append]; show 3 + _ = _; omega
          obtain ⟨g, off, c, rfl, hc, p1, p2, p3⟩ := (t6.below b2).parts (by rw [hl6]; omega)
          obtain ⟨A7, c7, l7, rfl, hc7, hr7, ht7⟩ := t7
          have t7' : Tv w2 (.slice A7 T.length c7) T := ⟨A7, c7, l7, rfl, hc7, hr7, ht7⟩
          rw [hl6] at hc p2 ⊢
          have hn3 : (((T.length + 3 : Nat) : Int) != (T.length : Int) + 3) = false := by simp
          have j0 : (3 : Int) ≤ (c : Int) := by omega
          have j1 : (3 : Int) ≤ ((T.length + 3 : Nat) : Int) := by omega
          have j2 : ((T.length + 3 : Nat) : Int) ≤ (c : Int) := by omega
          have htk : (sty u ++ T).take 3 = sty u := rfl
          have hdr : (sty u ++ T).drop 3 = T := rfl
          rw [htk] at p1
          rw [hdr, Nat.add_sub_cancel] at p2
          rw [hdr] at p3
          have hlt : T.length ≤ 100000 := by have := HLN.out; omega
          have P1 := Lib.hid p1; have P2 := Lib.hid p2; have P3 := Lib.hid p3; have T7 := Lib.hid t7'; have BB2 := Lib.hid B2
          clear t6 b1 b2 B2 hl6 p1 p2 p3 hr7 ht7 t7' htk hdr
          by_cases hc3 : c = 3
          · subst hc3
            have P3' := Lib.hid (P3.out rfl)
            go_wp2_with fail
            refine (sameSty w2 _ u P1.out).mono ?_
            rintro e w3 ⟨rfl, B3⟩
            go_wp2_with fail
            refine (sameT (P3'.out.below B3) (T7.out.below B3) (by omega) (by omega) true (by simp)).mono ?_
            rintro e w4 ⟨rfl, b4⟩
            have B4 := bt BB2.out (bt B3 b4)
            go_wp2_with fail
            refine (fixed_any _ (HT.out.below B4)).mono ?_
            rintro e w5 ⟨rfl, b5⟩
            go_wp2
            go_ret
            exact ⟨rfl, bt B4 b5⟩
          · have P2' := Lib.hid (P2.out hc3)
            go_wp2_with fail
            refine (sameSty w2 _ u P1.out).mono ?_
            rintro e w3 ⟨rfl, B3⟩
            go_wp2_with fail
            refine (sameT (P2'.out.below B3) (T7.out.below B3) (by omega) (by omega) true (by simp)).mono ?_
            rintro e w4 ⟨rfl, b4⟩
            have B4 := bt BB2.out (bt B3 b4)
            go_wp2_with fail
            refine (fixed_any _ (HT.out.below B4)).mono ?_
            rintro e w5 ⟨rfl, b5⟩
            go_wp2
            go_ret
            exact ⟨rfl, bt B4 b5⟩
      · have he : u.toList.isEmpty = true := by rw [toList_L, isEmpty_L h0]; rfl
        go_wp2_with fail
        refine (fixed_any _ HT.out).mono ?_
        rintro e w1 ⟨rfl, hb1⟩
        go_wp2
        go_ret
        exact ⟨rfl, hb1⟩

end Go.Proofs.YtjhhhlomkfnniaaDoor.To
