/-
  Walk of stage 2: boltinglaw02.fixed: the calls whose answers the document fixes: it returns true.
-/
import Derived.Test.YtknllnjpbbldkaaFoldFixed
namespace Go.Proofs.Ytknllnjpbbldkaa.Fo
open Go.RowKit Ba Fm

set_option maxRecDepth 100000 in
set_option maxHeartbeats 2000000 in
theorem fixed_any (w : World) : Calls Try.prog 10 #[] w fun e w' => e = .returned (.bool true) ∧ Below w.heap.size w w' := by
  go_enter Try.func10, Try.ntmps10
  go_wp2_with fail
  refine (find2 w sa sd ⟨#[99]⟩ 1 false y1 y2 y2').mono ?_
  rintro e w1 ⟨rfl, hb1⟩
  go_wp2_with fail
  refine (find2 w1 sa sd sd 1 true y1 y3 y3').mono ?_
  rintro e w2 ⟨rfl, hb2⟩
  have hb2 := bt hb1 hb2
  clear hb1
  go_wp2_with fail
  refine (lower1 w2 ⟨#[97, 66, 195, 132]⟩ ⟨#[97, 98, 195, 132]⟩ (by decide) y4).mono ?_
  rintro e w3 ⟨rfl, hb3⟩
  have hb3 := bt hb2 hb3
  clear hb2
  go_wp2_with fail
  refine (same1 w3 ⟨#[79, 110]⟩ ⟨#[111, 78]⟩ true (by decide) (by decide) y5).mono ?_
  rintro e w4 ⟨rfl, hb4⟩
  have hb4 := bt hb3 hb4
  clear hb3
  go_wp2_with fail
  refine (same1 w4 ⟨#[97]⟩ ⟨#[98]⟩ false (by decide) (by decide) y6).mono ?_
  rintro e w5 ⟨rfl, hb5⟩
  have hb5 := bt hb4 hb5
  clear hb4
  go_wp2_with fail
  refine (space1 w5 9 9 true rfl z9).mono ?_
  rintro e w6 ⟨rfl, rfl⟩
  go_wp2_with fail
  refine (space1 w5 11 11 false rfl z11).mono ?_
  rintro e w6 ⟨rfl, rfl⟩
  go_wp2_with fail
  refine (letter1 w5 122 122 true rfl z122).mono ?_
  rintro e w6 ⟨rfl, rfl⟩
  go_wp2_with fail
  refine (letter1 w5 91 91 false rfl z91).mono ?_
  rintro e w6 ⟨rfl, rfl⟩
  go_wp2_with fail
  refine (trim1 w5 ⟨#[32, 97, 32, 98, 10]⟩ ⟨#[97, 32, 98]⟩ (by decide) y7).mono ?_
  rintro e w6 ⟨rfl, rfl⟩
  go_wp2_with fail
  refine (words1 w5 ⟨#[32, 97, 32, 32, 98, 32]⟩ [sa, sb] (by decide) y8).mono ?_
  rintro e w6 ⟨v6, rfl, ho6, hb6⟩
  have hb6 := bt hb5 hb6
  clear hb5
  go_wp2_with fail
  refine (equal2 w6 _ v6 sa sb ho6).mono ?_
  rintro e w7 ⟨rfl, hb7⟩
  have hb7 := bt hb6 hb7
  clear hb6 ho6
  go_wp2_with fail
  refine (sorted3 w7 sb sa sb [sa, sb] y9).mono ?_
  rintro e w8 ⟨v8, rfl, ho8, hb8⟩
  have hb8 := bt hb7 hb8
  clear hb7
  go_wp2_with fail
  refine (equal2 w8 _ v8 sa sb ho8).mono ?_
  rintro e w9 ⟨rfl, hb9⟩
  have hb9 := bt hb8 hb9
  clear hb8 ho8
  go_wp2_with fail
  refine (minus31 w9 sb sa sb sa [sb, sb] y10).mono ?_
  rintro e w10 ⟨v10, rfl, ho10, hb10⟩
  have hb10 := bt hb9 hb10
  clear hb9
  go_wp2_with fail
  refine (equal2 w10 _ v10 sb sb ho10).mono ?_
  rintro e w11 ⟨rfl, hb11⟩
  have hb11 := bt hb10 hb11
  go_wp2
  go_ret
  exact ⟨rfl, hb11⟩

end Go.Proofs.Ytknllnjpbbldkaa.Fo
