/-
  fold.Space.
-/
import Derived.Test.YthgpjhblbpiagaaSv
namespace Go.Proofs.Ythgpjhblbpiagaa.Fo
set_option maxRecDepth 100000
set_option linter.unusedSimpArgs false
set_option linter.unusedVariables false
open Go.RowKit Ba Fm

theorem space_any (c : UInt8) (w : World) :
    Calls Try.prog 34 #[.int .u8 c.toNat] w fun e w' => e = .returned (.bool (sp c)) ∧ w = w' := by
  have e9 : ((c.toNat : Int) == 9) = (c == 9) := u8_eq (b := 9)
  have e10 : ((c.toNat : Int) == 10) = (c == 10) := u8_eq (b := 10)
  have e12 : ((c.toNat : Int) == 12) = (c == 12) := u8_eq (b := 12)
  have e13 : ((c.toNat : Int) == 13) = (c == 13) := u8_eq (b := 13)
  have e32 : ((c.toNat : Int) == 32) = (c == 32) := u8_eq (b := 32)
  cases h9 : (c == 9) <;> cases h10 : (c == 10) <;> cases h12 : (c == 12) <;> cases h13 : (c == 13) <;> cases h32 : (c == 32)
  all_goals
    rw [h9] at e9
    rw [h10] at e10
    rw [h12] at e12
    rw [h13] at e13
    rw [h32] at e32
    have H9 := Lib.hid h9; have H10 := Lib.hid h10; have H12 := Lib.hid h12; have H13 := Lib.hid h13; have H32 := Lib.hid h32
    clear h9 h10 h12 h13 h32
    go_enter Try.func34, Try.ntmps34
    go_wp2
    go_ret
    exact ⟨ret_bool (by unfold sp; rw [H9.out, H10.out, H12.out, H13.out, H32.out]; rfl), rfl⟩


end Go.Proofs.Ythgpjhblbpiagaa.Fo
