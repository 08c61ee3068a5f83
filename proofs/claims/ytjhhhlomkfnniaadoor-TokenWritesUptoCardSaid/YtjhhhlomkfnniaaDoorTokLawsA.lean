/-
  Walks of stage 6's laws TokenEnds: it returns true.
-/
import Derived.Test.YtjhhhlomkfnniaaDoorTokFacts
import Derived.Test.YtjhhhlomkfnniaaDoorTokFixed
import Derived.Test.YtjhhhlomkfnniaaDoorSmall
namespace Go.Proofs.YtjhhhlomkfnniaaDoor.To
set_option linter.unusedSimpArgs false
set_option linter.unusedVariables false
open Go.RowKit Ba Fm Fo Tm Sm
open Re (Tab)

theorem not_take {s : ByteArray} {k : Nat} {c : UInt8} (h : c ∉ (L s).take k) (hk : k < s.size) (hc : s[k] ≠ c) : c ∉ (L s).take (k + 1) := by
  rw [take_snoc s k hk]
  intro e
  rcases List.mem_append.1 e with e | e
  · exact h e
  · exact hc (List.mem_singleton.1 e).symm
theorem take_all {s : ByteArray} {k : Nat} (h : ¬ k < s.size) : (L s).take k = L s := List.take_of_length_le (by rw [size_L]; omega)
theorem cutN (s : ByteArray) (w : World) (hs : s.size ≤ 300000000) (hT : Tab w) :
    Calls Tryd.prog 13 #[.string s] w fun e w' => ∃ V, e = .returned V ∧ Tv w' V (within [] (L s)) ∧ Below w.heap.size w w' := cutT s w _ hs hT rfl

set_option maxRecDepth 100000 in
set_option maxHeartbeats 8000000 in
theorem law_ends (a b : ByteArray) (ha : a.size ≤ 140737488351232) (hb : b.size ≤ 140737488351232) (w : World) (hT : Tab w) :
    Calls Tryd.prog 11 #[.string a, .string b] w fun e w' => e = .returned (.bool true) ∧ Below w.heap.size w w' := by
  obtain ⟨k1, hk1, hk2, -, hmin⟩ := min_any a.size 200 200 rfl w
  obtain ⟨k2, hk3, hk4, -, hmin2⟩ := min_any b.size 200 200 rfl w
  obtain ⟨u, hu⟩ : ∃ u, a.extract 0 k1 = u := ⟨_, rfl⟩
  obtain ⟨v, hv⟩ : ∃ u, b.extract 0 k2 = u := ⟨_, rfl⟩
  have hus : u.size = k1 := by rw [← hu]; exact size_take a k1 hk1
  have hvs : v.size = k2 := by rw [← hv]; exact size_take b k2 hk3
  have HU := Lib.hid hu; have HV := Lib.hid hv; have HUS := Lib.hid hus; have HVS := Lib.hid hvs; have HT := Lib.hid hT
  clear hu hv hus hvs hT
  go_enter Tryd.func11, Tryd.ntmps11
  go_wp2_with fail
  rw [HU.out, HV.out]
  have zu : u.size ≤ 200 := by have := HUS.out; omega
  have zv : v.size ≤ 200 := by have := HVS.out; omega
  clear hmin hmin2 HU HV HUS HVS ha hb hk1 hk2 hk3 hk4
  go_loop [5] (fun i => ∃ k : Nat, i = .int .i64 k ∧ k ≤ u.size ∧ (60 : UInt8) ∉ (L u).take k) (fun i => u.size - (intOf i).toNat)
  case atStart => exact ⟨0, rfl, Nat.zero_le _, by simp⟩
  case round =>
    obtain ⟨k, rfl, hk, hn⟩ := hrel
    by_cases hp : k < u.size
    · have e60 : ((u[k].toNat : Int) == 60) = (u[k] == 60) := u8_eq (b := 60)
      have e38 : ((u[k].toNat : Int) == 38) = (u[k] == 38) := u8_eq (b := 38)
      cases h60 : (u[k] == 60) with
      | true =>
        rw [h60] at e60
        go_wp2_with fail
        refine (fixed_any _ HT.out).mono ?_
        rintro e w1 ⟨rfl, hb1⟩
        go_wp2
        go_ret
        exact ⟨rfl, hb1⟩
      | false =>
        rw [h60] at e60
        cases h38 : (u[k] == 38) with
        | true =>
          rw [h38] at e38
          go_wp2_with fail
          refine (fixed_any _ HT.out).mono ?_
          rintro e w1 ⟨rfl, hb1⟩
          go_wp2
          go_ret
          exact ⟨rfl, hb1⟩
        | false =>
          rw [h38] at e38
          have hn2 := not_take hn hp (by simpa using h60)
          have HN := Lib.hid hn2; clear hn hn2 h60 h38
          go_wp2
          go_round
          case rel => exact ⟨k + 1, by go_num, by omega, HN.out⟩
          case measure => simp [intOf]; omega
    · rw [take_all hp] at hn
      have HN := Lib.hid hn; clear hn
      go_wp2
      go_loop [6] (fun i => ∃ k : Nat, i = .int .i64 k ∧ k ≤ v.size ∧ (62 : UInt8) ∉ (L v).take k) (fun i => v.size - (intOf i).toNat)
      case atStart => exact ⟨0, rfl, Nat.zero_le _, by simp⟩
      case round =>
        obtain ⟨k, rfl, hk, hn⟩ := hrel
        by_cases hp : k < v.size
        · have e62 : ((v[k].toNat : Int) == 62) = (v[k] == 62) := u8_eq (b := 62)
          cases h62 : (v[k] == 62) with
          | true =>
            rw [h62] at e62
            go_wp2_with fail
            refine (fixed_any _ HT.out).mono ?_
            rintro e w1 ⟨rfl, hb1⟩
            go_wp2
            go_ret
            exact ⟨rfl, hb1⟩
          | false =>
            rw [h62] at e62
            have hn2 := not_take hn hp (by simpa using h62)
            have HN2 := Lib.hid hn2; clear hn hn2 h62
            go_wp2
            go_round
            case rel => exact ⟨k + 1, by go_num, by omega, HN2.out⟩
            case measure => simp [intOf]; omega
        · rw [take_all hp] at hn
          obtain ⟨p1, p2⟩ := ends_in (L u) (L v) HN.out hn
          have q1 : within [] (L ((u ++ ⟨#[60, 97, 32]⟩) ++ v)) = within [] (L u) := by rw [← p1, L_append, L_append, List.append_assoc]; rfl
          have q2 : within [] (L ((u ++ ⟨#[60, 47, 97, 32]⟩) ++ v)) = within [] (L u) := by rw [← p2, L_append, L_append, List.append_assoc]; rfl
          have z1 : (u ++ ⟨#[60, 97, 32]⟩).size ≤ 300 := by rw [size_append]; show u.size + 3 ≤ _; omega
          have z2 : (u ++ ⟨#[60, 47, 97, 32]⟩).size ≤ 300 := by rw [size_append]; show u.size + 4 ≤ _; omega
          have z3 : ((u ++ ⟨#[60, 97, 32]⟩) ++ v).size ≤ 600 := by rw [size_append]; omega
          have z4 : ((u ++ ⟨#[60, 47, 97, 32]⟩) ++ v).size ≤ 600 := by rw [size_append]; omega
          have hlen := within_len [] (L u)
          rw [size_L] at hlen
          have Q1 := Lib.hid q1; have Q2 := Lib.hid q2; have HLN := Lib.hid hlen; clear hn p1 p2 q1 q2 HN hlen
          go_wp2_with fail
          refine (cutT _ w _ (by omega) HT.out Q1.out).mono ?_
          rintro e w1 ⟨V1, rfl, t1, b1⟩
          go_wp2_with fail
          refine (cutN _ w1 (by omega) (HT.out.below b1)).mono ?_
          rintro e w2 ⟨V2, rfl, t2, b2⟩
          have t1' := t1.below b2
          have B2 := bt b1 b2
          go_wp2_with fail
          refine (sameT t1' t2 (by have := HLN.out; omega) (by have := HLN.out; omega) true (by simp)).mono ?_
          rintro e w3 ⟨rfl, b3⟩
          have B3 := bt B2 b3
          clear t1 t2 t1' b1 b2 b3 B2
          go_wp2_with fail
          refine (cutT _ w3 _ (by omega) (HT.out.below B3) Q2.out).mono ?_
          rintro e w4 ⟨V4, rfl, t4, b4⟩
          have B4 := bt B3 b4
          go_wp2_with fail
          refine (cutN _ w4 (by omega) (HT.out.below B4)).mono ?_
          rintro e w5 ⟨V5, rfl, t5, b5⟩
          have t4' := t4.below b5
          have B5 := bt B4 b5
          go_wp2_with fail
          refine (sameT t4' t5 (by have := HLN.out; omega) (by have := HLN.out; omega) true (by simp)).mono ?_
          rintro e w6 ⟨rfl, b6⟩
          have B6 := bt B5 b6
          clear t4 t5 t4' b4 b5 b6 B5 B4 B3
          go_wp2_with fail
          refine (fixed_any _ (HT.out.below B6)).mono ?_
          rintro e w7 ⟨rfl, b7⟩
          go_wp2
          go_ret
          exact ⟨rfl, bt B6 b7⟩

end Go.Proofs.YtjhhhlomkfnniaaDoor.To
