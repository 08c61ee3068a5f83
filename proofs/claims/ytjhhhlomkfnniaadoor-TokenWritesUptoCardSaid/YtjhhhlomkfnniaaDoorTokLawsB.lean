/-
  Walks of stage 6's laws TokenComments, TokenRaw: each returns true.
-/
import Derived.Test.YtjhhhlomkfnniaaDoorTokFacts2
import Derived.Test.YtjhhhlomkfnniaaDoorTokLawsA
namespace Go.Proofs.YtjhhhlomkfnniaaDoor.To
set_option linter.unusedSimpArgs false
set_option linter.unusedVariables false
open Go.RowKit Ba Fm Fo Tm Sm
open Ro (range5)
open Re (Tab)

/-- A slice that reads as one token, opened. -/
theorem Tv.one {w : World} {V : Value} {t : Tk} (h : Tv w V [t]) : ∃ b off c x, V = .slice (some ⟨b, off, none⟩) 1 c ∧ 1 ≤ c ∧ x.tk = t ∧ b < w.heap.size ∧ w.rangeAt b off (cells x) := by
  obtain ⟨A, c, l, rfl, hc, hr, ht⟩ := h
  have hl : l.length = 1 := by rw [← len_tks, ht]; rfl
  obtain ⟨b, off, e, hb, hcells⟩ := hr.1 (by omega)
  match l, hl with
  | [x], _ =>
    refine ⟨b, off, c, x, by rw [e]; rfl, hc, by injection ht, hb, ?_⟩
    have := hcells 0 (by simp)
    simpa using this

set_option maxRecDepth 100000 in
set_option maxHeartbeats 8000000 in
theorem law_comments (a : ByteArray) (ha : a.size ≤ 140737488351232) (w : World) (hT : Tab w) :
    Calls Tryd.prog 10 #[.string a] w fun e w' => e = .returned (.bool true) ∧ Below w.heap.size w w' := by
  obtain ⟨k1, hk1, hk2, -, hmin⟩ := min_any a.size 200 200 rfl w
  obtain ⟨u, hu⟩ : ∃ u, a.extract 0 k1 = u := ⟨_, rfl⟩
  have hus : u.size = k1 := by rw [← hu]; exact size_take a k1 hk1
  have HU := Lib.hid hu; have HUS := Lib.hid hus; have HT := Lib.hid hT
  clear hu hus hT
  go_enter Tryd.func10, Tryd.ntmps10
  go_wp2_with fail
  rw [HU.out]
  have zu : u.size ≤ 200 := by have := HUS.out; omega
  clear hmin HU HUS ha hk1 hk2
  go_loop [3] (fun i => ∃ k : Nat, i = .int .i64 k ∧ k ≤ u.size ∧ (62 : UInt8) ∉ (L u).take k) (fun i => u.size - (intOf i).toNat)
  case atStart => exact ⟨0, rfl, Nat.zero_le _, by simp⟩
  case round =>
    obtain ⟨k, rfl, hk, hn⟩ := hrel
    by_cases hp : k < u.size
    · have e62 : ((u[k].toNat : Int) == 62) = (u[k] == 62) := u8_eq (b := 62)
      cases h62 : (u[k] == 62) with
      | true =>
        rw [h62] at e62
        go_wp2_with fail
        refine (fixed_any _ HT.out).mono ?_
        rintro e w1 ⟨rfl, hb1⟩
        go_wp2
        go_ret
        exact ⟨rfl, hb1⟩
      | false =>
        rw [h62] at e62
        have hn2 := not_take hn hp (by simpa using h62)
        have HN2 := Lib.hid hn2; clear hn hn2 h62
        go_wp2
        go_round
        case rel => exact ⟨k + 1, by go_num, by omega, HN2.out⟩
        case measure => simp [intOf]; omega
    · rw [take_all hp] at hn
      have hx : (62 : UInt8) ∉ (L u ++ [120]) := fun e => by
        rcases List.mem_append.1 e with e | e
        · exact hn e
        · exact absurd (List.mem_singleton.1 e) (by decide)
      have q1 : within [] (L ((⟨#[60, 33, 100, 111, 99, 116, 121, 112, 101, 32]⟩ ++ u) ++ ⟨#[120, 62]⟩)) = [⟨4, B [], B (trimL (L u ++ [120])), [], false⟩] := by
        rw [within_nil, ← cut_doctype hx, L_append, L_append, List.append_assoc, List.append_assoc]; rfl
      have q2 : within [] (L (B ([60, 33, 45, 45] ++ L u ++ [45, 45, 62]))) = [⟨3, ⟨#[]⟩, u, [], false⟩] := by
        rw [within_nil, L_B, List.append_assoc, cut_comment hn, B_L]; rfl
      have q3 : wAll false [⟨3, ⟨#[]⟩, u, [], false⟩] = [60, 33, 45, 45] ++ L u ++ [45, 45, 62] := by
        show w1 false _ ++ wAll _ [] = _
        unfold w1
        rw [if_neg (show (3 : Int) ≠ 0 by decide), if_neg (show (3 : Int) ≠ 1 by decide), if_neg (show (3 : Int) ≠ 2 by decide), if_pos rfl]
        exact List.append_nil _
      have q4 : (B (trimL (L u ++ [120]))).size ≤ u.size + 1 := by
        rw [size_B]
        have := len_trimL (L u ++ [120])
        rw [List.length_append, size_L] at this
        exact this
      have z1 : (⟨#[60, 33, 100, 111, 99, 116, 121, 112, 101, 32]⟩ ++ u).size ≤ 300 := by rw [size_append]; show 10 + u.size ≤ _; omega
      have z2 : ((⟨#[60, 33, 100, 111, 99, 116, 121, 112, 101, 32]⟩ ++ u) ++ ⟨#[120, 62]⟩).size ≤ 600 := by rw [size_append]; show _ + 2 ≤ _; omega
      have z3 : (B ([60, 33, 45, 45] ++ L u ++ [45, 45, 62])).size ≤ 600 := by rw [size_B, List.length_append, List.length_append, size_L]; show 4 + u.size + 3 ≤ _; omega
      have tl := Tv.lit w [⟨⟨3, ⟨#[]⟩, u, [], false⟩, none, 0⟩] (fun x hx => by rw [List.mem_singleton.1 hx]; exact att_none _ _ _ rfl)
      have hbw := Ro.below_new w (tokO ⟨⟨3, ⟨#[]⟩, u, [], false⟩, none, 0⟩)
      have TL := Lib.hid tl; have BW := Lib.hid hbw; have HT1 := Lib.hid (HT.out.below hbw)
      have Q1 := Lib.hid q1; have Q2 := Lib.hid q2; have Q3 := Lib.hid q3; have Q4 := Lib.hid q4
      clear hn hx q1 q2 q3 q4 tl hbw
      go_wp2_with fail
      refine (cutT _ _ _ (by omega) HT1.out Q1.out).mono ?_
      rintro e w2 ⟨V5, rfl, t5, b2⟩
      have tl2 := TL.out.below b2
      obtain ⟨b5, o5, c5, x5, rfl, hc5, hx5, hb5, hr5⟩ := t5.one
      go_wp2_with fail
      refine (writeT tl2 (by show bulkT _ + 0 ≤ _; unfold bulkT; show 0 + u.size + 0 + 0 + 0 ≤ _; omega) (by rw [len_tks]; simp) _ Q3.out).mono ?_
      rintro e w3 ⟨rfl, b3⟩
      have B3 := bt b2 b3
      go_wp2_with fail
      refine (cutT _ w3 _ (by omega) (HT1.out.below B3) Q2.out).mono ?_
      rintro e w4 ⟨V6, rfl, t6, b4⟩
      have B4 := bt B3 b4
      go_wp2_with fail
      refine (sameT t6 (TL.out.below B4) (by simp) (by rw [len_tks]; simp) true (by simp; rfl)).mono ?_
      rintro e w5 ⟨rfl, b5'⟩
      have B5 := bt b3 (bt b4 b5')
      have hr := Ro.range_keep hr5 (fun o => B5.cell (p := ⟨b5, o, none⟩) hb5)
      obtain ⟨f0, f1, f2, f3, f4⟩ := range5 hr
      rw [hx5] at f0 f2
      have B6 := bt b2 B5
      have HT6 := Lib.hid (HT1.out.below B6); have BB6 := Lib.hid (bt BW.out B6)
      clear t5 tl2 t6 b2 b3 B3 b4 B4 b5' B5 hr hr5 f1 f3 f4 hx5 B6
      have hq4 : (((B (trimL (L u ++ [120]))).size : Int)) ≤ (u.size : Int) + 1 := by have := Q4.out; omega
      go_wp2_with fail
      refine (fixed_any _ HT6.out).mono ?_
      rintro e w7 ⟨rfl, b7⟩
      go_wp2
      go_ret
      exact ⟨rfl, bt BB6.out b7⟩

end Go.Proofs.YtjhhhlomkfnniaaDoor.To
