/-
  boltingref02.Equal, of slices that read as one list.
-/
import Derived.Test.YthgpjhblbpiagaaSv
namespace Go.Proofs.Ythgpjhblbpiagaa.Fo
set_option maxRecDepth 100000
set_option linter.unusedSimpArgs false
set_option linter.unusedVariables false
open Go.RowKit Ba Fm

set_option maxHeartbeats 1000000 in
theorem equal_any (A C : Option Addr) (c d : Nat) (l : List ByteArray) (w : World) (hr : Rd w w.heap.size A l) (hq : Rd w w.heap.size C l) (hl : l.length ≤ 8796093022208) :
    Calls Try.prog 15 #[.slice A l.length c, .slice C l.length d] w fun e w' => e = .returned (.bool true) ∧ Below w.heap.size w w' := by
  go_enter Try.func15, Try.ntmps15
  go_wp2
  go_loopw [5] (fun i wr => ∃ k : Nat, i = .int .i64 k ∧ k ≤ l.length ∧ Below w.heap.size w wr) (fun i _ => l.length - (intOf i).toNat)
  case atStart => exact ⟨0, rfl, Nat.zero_le _, Below.refl _ _⟩
  case round =>
    obtain ⟨k, rfl, hks, hbel⟩ := hrel
    by_cases hp : k < l.length
    · obtain ⟨b, off, rfl, hb1, hc⟩ := hr (by omega)
      obtain ⟨b', off', rfl, hb2, hc'⟩ := hq (by omega)
      have hcell : wr.cell? ⟨b, off + k, none⟩ = some (.string l[k]) := (hbel.cell (p := ⟨b, off + k, none⟩) hb1).trans (hc k hp)
      have hcell' : wr.cell? ⟨b', off' + k, none⟩ = some (.string l[k]) := (hbel.cell (p := ⟨b', off' + k, none⟩) hb2).trans (hc' k hp)
      clear hc hc' hr hq hb1 hb2
      have hk0 : (0 : Int) ≤ (k : Int) := by omega
      have hk1 : (k : Int) < (l.length : Int) := by omega
      go_wp2
      go_quiet (fail)
      go_wp2
      go_roundw
      case rel => exact ⟨k + 1, by go_num, by omega, below_dN hbel _⟩
      case measure => simp [intOf]; omega
    · go_wp2
      go_ret
      exact ⟨rfl, hbel⟩


end Go.Proofs.Ythgpjhblbpiagaa.Fo
