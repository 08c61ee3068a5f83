/-
  Walks of stage 3: the calls whose answers the document fixes (boltinglaw03.fixed).
-/
import Derived.Test.YtbcfidepepbjhaaDoorRefsWalkI
namespace Go.Proofs.YtbcfidepepbjhaaDoor.Re
open Go.RowKit Ba Rm

theorem named1 (w : World) (s x : ByteArray) (ok : Bool) (ht : Tab w) (h1 : B ((Rm.look tab (L s)).getD []) = x) (h2 : (Rm.look tab (L s)).isSome = ok) :
    Calls Tryd.prog 11 #[.string s] w fun e w' => e = .returned (.tuple #[.string x, .bool ok]) ∧ Below w.heap.size w w' := by
  have k := named_any s w ht
  rw [h1, h2] at k
  exact k
theorem code1 (w : World) (n : Int) (x : ByteArray) (hn : (Lit.int .i64 n).wf = true) (h : B (code n) = x) :
    Calls Tryd.prog 14 #[.int .i64 n] w fun e w' => e = .returned (.string x) ∧ w = w' := by
  have k := code_any n w hn
  rw [h] at k
  exact k
theorem decode1 (w : World) (s x : ByteArray) (ht : Tab w) (hs : s.size ≤ 140737488351232) (h : B (dec (L s)) = x) :
    Calls Tryd.prog 16 #[.string s] w fun e w' => e = .returned (.string x) ∧ Below w.heap.size w w' := by
  have k := decode_any s w ht hs
  rw [h] at k
  exact k
theorem text1 (w : World) (s x : ByteArray) (hs : s.size ≤ 1000000) (h : B (esc false (L s)) = x) :
    Calls Tryd.prog 18 #[.string s] w fun e w' => e = .returned (.string x) ∧ Below w.heap.size w w' := by
  have k := text_any s w hs
  rw [h] at k
  exact k
theorem valueOf1 (w : World) (s x : ByteArray) (hs : s.size ≤ 1000000) (h : B (esc true (L s)) = x) :
    Calls Tryd.prog 20 #[.string s] w fun e w' => e = .returned (.string x) ∧ Below w.heap.size w w' := by
  have k := valueOf_any s w hs
  rw [h] at k
  exact k

theorem dec_alone {r : List UInt8} (h : fst (38 :: r) = ([38], 1)) : dec (38 :: r) = 38 :: dec r := by
  rw [dec_step (List.cons_ne_nil _ _), h]; rfl
theorem dec_fixed : dec [38, 108, 116, 59, 38, 35, 54, 53, 59, 38, 35, 120, 52, 50, 59, 38, 110, 111, 112, 101, 59, 38, 97, 109, 112, 59, 108, 116, 59] = [60, 65, 66, 38, 110, 111, 112, 101, 59, 38, 108, 116, 59] := by
  refine (dec_ref (b := [108, 116]) (t := [60]) [38, 35, 54, 53, 59, 38, 35, 120, 52, 50, 59, 38, 110, 111, 112, 101, 59, 38, 97, 109, 112, 59, 108, 116, 59] (by decide) (by decide)).trans ?_
  rw [show dec [38, 35, 54, 53, 59, 38, 35, 120, 52, 50, 59, 38, 110, 111, 112, 101, 59, 38, 97, 109, 112, 59, 108, 116, 59] = [65] ++ dec [38, 35, 120, 52, 50, 59, 38, 110, 111, 112, 101, 59, 38, 97, 109, 112, 59, 108, 116, 59] from dec_ref (b := [35, 54, 53]) (t := [65]) [38, 35, 120, 52, 50, 59, 38, 110, 111, 112, 101, 59, 38, 97, 109, 112, 59, 108, 116, 59] (by decide) (by decide)]
  rw [show dec [38, 35, 120, 52, 50, 59, 38, 110, 111, 112, 101, 59, 38, 97, 109, 112, 59, 108, 116, 59] = [66] ++ dec [38, 110, 111, 112, 101, 59, 38, 97, 109, 112, 59, 108, 116, 59] from dec_ref (b := [35, 120, 52, 50]) (t := [66]) [38, 110, 111, 112, 101, 59, 38, 97, 109, 112, 59, 108, 116, 59] (by decide) (by decide)]
  rw [dec_alone (by decide), dec_byte _ (by decide), dec_byte _ (by decide), dec_byte _ (by decide), dec_byte _ (by decide), dec_byte _ (by decide)]
  rw [show dec [38, 97, 109, 112, 59, 108, 116, 59] = [38] ++ dec [108, 116, 59] from dec_ref (b := [97, 109, 112]) (t := [38]) [108, 116, 59] (by decide) (by decide)]
  rw [dec_byte _ (by decide), dec_byte _ (by decide), dec_byte _ (by decide), dec_nil]
  rfl
theorem esc_fixed1 : esc true [34, 60] = [38, 113, 117, 111, 116, 59, 38, 108, 116, 59] := by
  rw [esc_byte _ (by decide), esc_byte _ (by decide), esc_nil]; decide
theorem esc_fixed2 : esc false [34, 194, 160, 38, 62] = [34, 38, 110, 98, 115, 112, 59, 38, 97, 109, 112, 59, 38, 103, 116, 59] := by
  rw [esc_byte _ (by decide), esc_nbsp, esc_byte _ (by decide), esc_byte _ (by decide), esc_nil]; decide

set_option maxRecDepth 100000 in
set_option maxHeartbeats 4000000 in
theorem fixed_any (w : World) (ht : Tab w) : Calls Tryd.prog 13 #[] w fun e w' => e = .returned (.bool true) ∧ Below w.heap.size w w' := by
  go_enter Tryd.func13, Tryd.ntmps13
  go_wp2_with fail
  refine (named1 w _ ⟨#[226, 130, 172]⟩ true ht (by decide +kernel) (by decide +kernel)).mono ?_
  rintro e w1 ⟨rfl, hb1⟩
  have ht1 := ht.below hb1
  go_wp2_with fail
  refine (named1 w1 _ ⟨#[]⟩ false ht1 (by decide +kernel) (by decide +kernel)).mono ?_
  rintro e w2 ⟨rfl, hb2⟩
  have ht2 := ht1.below hb2
  have hb12 := bt hb1 hb2
  clear hb1 hb2 ht1
  go_wp2_with fail
  refine (code1 w2 65 ⟨#[65]⟩ (by decide) (by decide +kernel)).mono ?_
  rintro e w3 ⟨rfl, rfl⟩
  go_wp2_with fail
  refine (code1 w2 13 ⟨#[10]⟩ (by decide) (by decide +kernel)).mono ?_
  rintro e w3 ⟨rfl, rfl⟩
  go_wp2_with fail
  refine (code1 w2 0 ⟨#[239, 191, 189]⟩ (by decide) (by decide +kernel)).mono ?_
  rintro e w3 ⟨rfl, rfl⟩
  go_wp2_with fail
  refine (decode1 w2 _ ⟨#[60, 65, 66, 38, 110, 111, 112, 101, 59, 38, 108, 116, 59]⟩ ht2 (by decide) (congrArg B dec_fixed)).mono ?_
  rintro e w4 ⟨rfl, hb4⟩
  have hb14 := bt hb12 hb4
  clear hb12 hb4 ht2
  go_wp2_with fail
  refine (valueOf1 w4 _ ⟨#[38, 113, 117, 111, 116, 59, 38, 108, 116, 59]⟩ (by decide) (congrArg B esc_fixed1)).mono ?_
  rintro e w5 ⟨rfl, hb5⟩
  have hb15 := bt hb14 hb5
  clear hb14 hb5
  go_wp2_with fail
  refine (text1 w5 _ ⟨#[34, 38, 110, 98, 115, 112, 59, 38, 97, 109, 112, 59, 38, 103, 116, 59]⟩ (by decide) (congrArg B esc_fixed2)).mono ?_
  rintro e w6 ⟨rfl, hb6⟩
  have hb16 := bt hb15 hb6
  clear hb15 hb6
  go_wp2
  go_ret
  exact ⟨rfl, hb16⟩

end Go.Proofs.YtbcfidepepbjhaaDoor.Re
