/-
  Walk of stage 3's law RefsNumbers: it returns true.
-/
import Derived.Test.YtbcfidepepbjhaaDoorRefsLawsB
import Derived.Test.YtbcfidepepbjhaaDoorRefsNum
import Derived.Laws.BitsLemmas
namespace Go.Proofs.YtbcfidepepbjhaaDoor.Re
open Go.RowKit Ba Rm
set_option linter.unusedVariables false

theorem and_small (n : Int) (m j : Nat) (hm : m < 2 ^ j) (hj : 2 ^ j ≤ 4611686018427387904) : ∃ x : Nat, x < 2 ^ j ∧ bits .and .i64 n (m : Int) = (x : Int) := by
  have hlt : (BitVec.ofInt IntKind.i64.bits n).toNat &&& m < 2 ^ j := Nat.and_lt_two_pow _ hm
  refine ⟨_, hlt, ?_⟩
  have hm' : m % 2 ^ IntKind.i64.bits = m := Nat.mod_eq_of_lt (Nat.lt_of_lt_of_le hm (Nat.le_trans hj (by decide)))
  simp only [bits, BitVec.ofInt_natCast, BitVec.toNat_and, BitVec.toNat_ofNat, hm']
  rw [IntKind.wrap_i64]
  omega

theorem L_cons_of {c : UInt8} {T X : ByteArray} (h : B [c] ++ T = X) : L X = c :: L T := by
  rw [← h, L_append, L_B]; rfl
/-- Digits so far: T has k of them, and they come to m's last k digits. -/
def Dg (b m : Nat) (T : ByteArray) (k : Nat) : Prop := T.size = k ∧ digs (b : Int) (L T) ∧ dv (b : Int) 0 (L T) = ((m % b ^ k : Nat) : Int)
theorem Dg.more {b m k : Nat} {T X : ByteArray} {c : UInt8} (h : Dg b m T k) (hb : 0 < b) (hc : dig c = ((m / b ^ k % b : Nat) : Int)) (hx : B [c] ++ T = X) : Dg b m X (k + 1) := by
  obtain ⟨h1, h2, h3⟩ := h
  have hL := L_cons_of hx
  have hl : (L T).length = k := by rw [size_L, h1]
  refine ⟨by rw [← size_L, hL, List.length_cons, hl], ?_, ?_⟩
  · rw [hL]
    refine digs_cons ⟨by rw [hc]; exact Int.natCast_nonneg _, ?_⟩ h2
    rw [hc]
    have := Nat.mod_lt (m / b ^ k) hb
    omega
  · rw [hL, ← hl]
    refine dv_more (by rw [hl]; exact hc) (by rw [hl]; exact h3)
/-- All its digits, and noughts ahead. -/
def Al (b m : Nat) (T : ByteArray) (k : Nat) : Prop := T.size ≤ k ∧ L T ≠ [] ∧ digs (b : Int) (L T) ∧ dv (b : Int) 0 (L T) = (m : Int)
theorem Dg.al {b m k : Nat} {T : ByteArray} (h : Dg b m T k) (hm : m < b ^ k) (hk : 0 < k) : Al b m T k := by
  obtain ⟨h1, h2, h3⟩ := h
  rw [Nat.mod_eq_of_lt hm] at h3
  refine ⟨by omega, fun e => ?_, h2, h3⟩
  have : (L T).length = 0 := by rw [e]; rfl
  rw [size_L] at this
  omega
theorem Al.nought {b m k : Nat} {T X : ByteArray} (h : Al b m T k) (hb : 0 < b) (hx : B [48] ++ T = X) : Al b m X (k + 1) := by
  obtain ⟨h1, h2, h3, h4⟩ := h
  have hL := L_cons_of hx
  refine ⟨by rw [← size_L, hL, List.length_cons, size_L]; omega, by rw [hL]; exact List.cons_ne_nil _ _, ?_, by rw [hL, dv_zero]; exact h4⟩
  rw [hL]
  refine digs_cons ⟨by decide, ?_⟩ h3
  rw [show dig 48 = 0 from rfl]
  omega
theorem hexs_at (d : Nat) : (ByteArray.mk #[48, 49, 50, 51, 52, 53, 54, 55, 56, 57, 97, 98, 99, 100, 101, 102]).extract (d % 16) (d % 16 + 1) = B [hex d] := by
  unfold hex
  have h : d % 16 < 16 := Nat.mod_lt _ (by decide)
  generalize d % 16 = x at h
  refine B_of ?_
  rw [L_extract, Nat.add_sub_cancel_left]
  have : ∀ x : Fin 16, (hexs.drop x.1).take 1 = [hexs.getD x.1 48] := by decide
  exact this ⟨x, h⟩
theorem div_more {b m k d : Nat} (h : d = m / b ^ k) : d / b = m / b ^ (k + 1) := by
  rw [h, Nat.div_div_eq_div_mul, Nat.pow_succ]

set_option maxRecDepth 100000 in
set_option maxHeartbeats 8000000 in
theorem law_numbers (n zs : Int) (hn : (Lit.int .i64 n).wf = true) (hz : (Lit.int .i64 zs).wf = true) (w : World) (ht : Tab w) :
    Calls Tryd.prog 8 #[.int .i64 n, .int .i64 zs] w fun e w' => e = .returned (.bool true) ∧ Below w.heap.size w w' := by
  obtain ⟨m, hm, hme⟩ := and_small n 2097151 21 (by decide) (by decide)
  obtain ⟨z, hzl, hze⟩ := and_small zs 15 4 (by decide) (by decide)
  rw [show ((2097151 : Nat) : Int) = 2097151 from rfl] at hme
  rw [show ((15 : Nat) : Int) = 15 from rfl] at hze
  rw [show 2 ^ 21 = 2097152 from rfl] at hm
  rw [show 2 ^ 4 = 16 from rfl] at hzl
  clear hn hz
  go_enter Tryd.func8, Tryd.ntmps8
  go_wp2
  go_loopw [6, 7, 8] (fun t d i wr => ∃ (T : ByteArray) (k dd : Nat), t = .string T ∧ d = .int .i64 dd ∧ i = .int .i64 k ∧ k ≤ 8 ∧ dd ≤ 2097152 ∧ dd = m / 10 ^ k ∧ Dg 10 m T k ∧ Below w.heap.size w wr) (fun _ _ i _ => 8 - (intOf i).toNat)
  case atStart => exact ⟨⟨#[]⟩, 0, m, rfl, rfl, rfl, by omega, by omega, by simp, ⟨rfl, fun c hc => (nomatch hc), by simp [dv, Nat.mod_one]⟩, Below.refl _ _⟩
  case round =>
    obtain ⟨T, k, dd, rfl, rfl, rfl, hk, hdl, hdd, hdg, hbel⟩ := hrel
    have hTs := hdg.1
    have hsz := hbel.size
    have HDD := Lib.hid hdd; have HDG := Lib.hid hdg; clear hdd hdg
    by_cases hp : k < 8
    · have hcv := str_at wr [UInt8.ofNat (48 + dd % 10)] #[.int .u8 (48 + (dd : Int) % 10)] 1 rfl (by rw [bc_of (48 + dd % 10) (by omega) _ (by omega)]; rfl)
      obtain ⟨X, hX⟩ : ∃ X, B [UInt8.ofNat (48 + dd % 10)] ++ T = X := ⟨_, rfl⟩
      obtain ⟨C, hC⟩ : ∃ C, B [UInt8.ofNat (48 + dd % 10)] = C := ⟨_, rfl⟩
      have hmore := HDG.out.more (by decide) (by rw [← HDD.out]; exact dig_ten dd) hX
      have hCs : C.size = 1 := by rw [← hC, size_B]; rfl
      rw [hC] at hcv hX
      have HM := Lib.hid hmore
      clear hmore hC
      go_wp2
      go_roundw
      case rel => exact ⟨X, k + 1, dd / 10, rfl, congrArg (Value.int .i64) (by omega), by go_num, by omega, by omega, div_more HDD.out, HM.out, hbel.alloc hsz _⟩
      case measure => simp [intOf]; omega
    · obtain rfl : k = 8 := by omega
      have hal := HDG.out.al (Nat.lt_of_lt_of_le hm (by decide)) (by decide)
      have HAL := Lib.hid hal
      clear hal HDG HDD
      obtain ⟨w5, hw5⟩ : ∃ x, x = wr := ⟨_, rfl⟩
      subst hw5
      go_wp2
      go_loopw [9, 7, 10] (fun t d i wr => ∃ (S : ByteArray) (k dd : Nat), t = .string S ∧ d = .int .i64 dd ∧ i = .int .i64 k ∧ k ≤ 6 ∧ dd ≤ 2097152 ∧ dd = m / 16 ^ k ∧ Dg 16 m S k ∧ Below w.heap.size w wr) (fun _ _ i _ => 6 - (intOf i).toNat)
      case atStart => exact ⟨⟨#[]⟩, 0, m, rfl, rfl, rfl, by omega, by omega, by simp, ⟨rfl, fun c hc => (nomatch hc), by simp [dv, Nat.mod_one]⟩, hbel⟩
      case round =>
        obtain ⟨S, k, d2, rfl, rfl, rfl, hk2, hdl2, hdd, hdg, hbel2⟩ := hrel
        clear hbel hsz
        obtain ⟨w6, hw6⟩ : ∃ x, x = wr := ⟨_, rfl⟩
        subst hw6
        have hSs := hdg.1
        have HDD := Lib.hid hdd; have HDG := Lib.hid hdg; clear hdd hdg
        by_cases hp2 : k < 6
        · obtain ⟨r, hr, hr16⟩ : ∃ r : Nat, (d2 : Int) % 16 = r ∧ r = d2 % 16 := ⟨d2 % 16, by omega, rfl⟩
          have hrl : r < 16 := by omega
          have hex0 := hexs_at d2
          rw [← hr16] at hex0
          obtain ⟨C, hC⟩ : ∃ C, B [hex d2] = C := ⟨_, rfl⟩
          rw [hC] at hex0
          obtain ⟨X, hX⟩ : ∃ X, C ++ S = X := ⟨_, rfl⟩
          have hmore := HDG.out.more (by decide) (by rw [← HDD.out]; exact dig_hex d2) (show B [hex d2] ++ S = X by rw [hC]; exact hX)
          have hCs : C.size = 1 := by rw [← hC, size_B]; rfl
          have HM := Lib.hid hmore
          clear hmore hC hr16
          go_wp2
          go_roundw
          case rel => exact ⟨X, k + 1, d2 / 16, rfl, congrArg (Value.int .i64) (by omega), by go_num, by omega, by omega, div_more HDD.out, HM.out, hbel2⟩
          case measure => simp [intOf]; omega
        · obtain rfl : k = 6 := by omega
          have hal := HDG.out.al (Nat.lt_of_lt_of_le hm (by decide)) (by decide)
          have HAS := Lib.hid hal
          have hTb := HAL.out.1
          have hSb := HAS.out.1
          clear hal HDG HDD hTs hSs
          go_wp2
          go_loopw [6, 9, 11] (fun t u i wr => ∃ (T S : ByteArray) (j : Nat), t = .string T ∧ u = .string S ∧ i = .int .i64 j ∧ j ≤ z ∧ Al 10 m T (8 + j) ∧ Al 16 m S (6 + j) ∧ Below w.heap.size w wr) (fun _ _ i _ => z - (intOf i).toNat)
          case atStart => exact ⟨T, S, 0, rfl, rfl, rfl, Nat.zero_le _, HAL.out, HAS.out, hbel2⟩
          case round =>
            clear HAL HAS hTb hSb
            obtain ⟨T, S, j, rfl, rfl, rfl, hj, hT, hS, hbel3⟩ := hrel
            clear hbel2
            have hsz3 := hbel3.size
            have hTs := hT.1
            have hSs := hS.1
            have HT := Lib.hid hT; have HS := Lib.hid hS
            clear hT hS
            by_cases hp3 : j < z
            · obtain ⟨X, hX⟩ : ∃ X, (ByteArray.mk #[48]) ++ T = X := ⟨_, rfl⟩
              obtain ⟨Y, hY⟩ : ∃ Y, (ByteArray.mk #[48]) ++ S = Y := ⟨_, rfl⟩
              have h1 := HT.out.nought (by decide) (show B [48] ++ T = X from hX)
              have h2 := HS.out.nought (by decide) (show B [48] ++ S = Y from hY)
              have H1 := Lib.hid h1; have H2 := Lib.hid h2
              clear h1 h2
              go_wp2
              go_roundw
              case rel => exact ⟨X, Y, j + 1, rfl, rfl, by go_num, by omega, H1.out, H2.out, hbel3⟩
              case measure => simp [intOf]; omega
            · obtain ⟨x, hx⟩ : ∃ x, B (code (m : Int)) = x := ⟨_, rfl⟩
              obtain ⟨y, hy⟩ : ∃ y, B (code (-1)) = y := ⟨_, rfl⟩
              obtain ⟨a1, ha1⟩ : ∃ a, (ByteArray.mk #[38, 35]) ++ T = a := ⟨_, rfl⟩
              obtain ⟨a2, ha2⟩ : ∃ a, a1 ++ (ByteArray.mk #[59]) = a := ⟨_, rfl⟩
              obtain ⟨b1, hb1⟩ : ∃ a, (ByteArray.mk #[38, 35, 120]) ++ S = a := ⟨_, rfl⟩
              obtain ⟨b2, hb2⟩ : ∃ a, b1 ++ (ByteArray.mk #[59]) = a := ⟨_, rfl⟩
              obtain ⟨c1, hc1⟩ : ∃ a, (ByteArray.mk #[38, 35, 57]) ++ T = a := ⟨_, rfl⟩
              obtain ⟨c2, hc2⟩ : ∃ a, c1 ++ (ByteArray.mk #[48, 48, 48, 48, 48, 48, 48, 48, 48, 48, 48, 48, 48, 48, 48, 48, 48, 48, 59]) = a := ⟨_, rfl⟩
              obtain ⟨_, t2, t3, t4⟩ := HT.out
              obtain ⟨_, s2, s3, s4⟩ := HS.out
              have sa1 : a1.size ≤ 40 := by rw [← ha1, size_append]; show 2 + T.size ≤ 40; omega
              have sa2 : a2.size ≤ 50 := by rw [← ha2, size_append]; show a1.size + 1 ≤ 50; omega
              have sb1 : b1.size ≤ 40 := by rw [← hb1, size_append]; show 3 + S.size ≤ 40; omega
              have sb2 : b2.size ≤ 50 := by rw [← hb2, size_append]; show b1.size + 1 ≤ 50; omega
              have sc1 : c1.size ≤ 40 := by rw [← hc1, size_append]; show 3 + T.size ≤ 40; omega
              have sc2 : c2.size ≤ 80 := by rw [← hc2, size_append]; show c1.size + 19 ≤ 80; omega
              have d1 : B (dec (L a2)) = x := by
                rw [← hx, ← ha2, L_append, ← ha1, L_append]
                refine congrArg B (Eq.trans ?_ ((dec_ten t3 t2).trans (congrArg code t4)))
                rfl
              have d2' : B (dec (L b2)) = x := by
                rw [← hx, ← hb2, L_append, ← hb1, L_append]
                refine congrArg B (Eq.trans ?_ ((dec_six s3 s2).trans (congrArg code s4)))
                rfl
              have d3 : B (dec (L c2)) = y := by
                rw [← hy, ← hc2, L_append, ← hc1, L_append]
                refine congrArg B (Eq.trans ?_ (dec_huge t3))
                refine congrArg dec ?_
                show 38 :: 35 :: 57 :: (L T ++ _) = 38 :: 35 :: 57 :: ((L T ++ zeros18) ++ [59])
                rw [List.append_assoc]
                rfl
              have d4 : B (dec (L a1)) = a1 := by
                have e : L a1 = 38 :: 35 :: L T := by rw [← ha1, L_append]; rfl
                rw [e, dec_open t3, ← e, B_L]
              have D1 := Lib.hid d1; have D2 := Lib.hid d2'; have D3 := Lib.hid d3; have D4 := Lib.hid d4
              have HX := Lib.hid hx; have HY := Lib.hid hy
              have htw := ht.below hbel3
              clear d1 d2' d3 d4 hx hy t2 t3 t4 s2 s3 s4 HT HS
              go_wp2_with fail
              refine (decode1 wr a2 x htw (by omega) D1.out).mono ?_
              rintro e v1 ⟨rfl, g1⟩
              go_wp2_with fail
              refine (refCode1 v1 m x HX.out).mono ?_
              rintro e v2 ⟨rfl, g2⟩
              have q2 := bt g1 g2
              clear g1 g2
              go_wp2_with fail
              refine (decode1 v2 b2 x (htw.below q2) (by omega) D2.out).mono ?_
              rintro e v3 ⟨rfl, g3⟩
              go_wp2_with fail
              refine (refCode1 v3 m x HX.out).mono ?_
              rintro e v4 ⟨rfl, g4⟩
              have q4 := bt q2 (bt g3 g4)
              clear g3 g4 q2
              go_wp2_with fail
              refine (decode1 v4 c2 y (htw.below q4) (by omega) D3.out).mono ?_
              rintro e v5 ⟨rfl, g5⟩
              go_wp2_with fail
              refine (refCode1 v5 (-1) y HY.out).mono ?_
              rintro e v6 ⟨rfl, g6⟩
              have q6 := bt q4 (bt g5 g6)
              clear g5 g6 q4
              go_wp2_with fail
              refine (decode1 v6 a1 a1 (htw.below q6) (by omega) D4.out).mono ?_
              rintro e v7 ⟨rfl, g7⟩
              have q7 := bt q6 g7
              clear g7 q6
              go_wp2_with fail
              refine (fixed_any v7 (htw.below q7)).mono ?_
              rintro e v8 ⟨rfl, g8⟩
              go_wp2
              go_ret
              exact ⟨rfl, hbel3.trans ((bt q7 g8).mono hsz3)⟩

end Go.Proofs.YtbcfidepepbjhaaDoor.Re
