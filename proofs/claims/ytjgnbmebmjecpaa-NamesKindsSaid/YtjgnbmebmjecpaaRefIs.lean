/-
  boltingref02.Is, of a list that rises.
-/
import Derived.Test.YtjgnbmebmjecpaaSv
namespace Go.Proofs.Ytjgnbmebmjecpaa.Fo
set_option linter.unusedSimpArgs false
set_option linter.unusedVariables false
open Go.RowKit Ba Fm

set_option maxHeartbeats 1000000 in
theorem is_any (A : Option Addr) (c : Nat) (l : List ByteArray) (w : World) (hr : Rd w w.heap.size A l) (hl : l.length ≤ 8796093022208) (ha : Asc lt l) :
    Calls Try.prog 27 #[.slice A l.length c] w fun e w' => e = .returned (.bool true) ∧ Below w.heap.size w w' := by
  go_enter Try.func27, Try.ntmps27
  go_wp2
  go_loopw [3] (fun i wr => ∃ k : Nat, i = .int .i64 (k + 1 : Nat) ∧ Below w.heap.size w wr) (fun i _ => l.length - (intOf i).toNat)
  case atStart => exact ⟨0, rfl, Below.refl _ _⟩
  case round =>
    obtain ⟨k, rfl, hbel⟩ := hrel
    by_cases hp : k + 1 < l.length
    · obtain ⟨b, off, rfl, hb1, hc⟩ := hr (by omega)
      have hcell : wr.cell? ⟨b, off + k, none⟩ = some (.string (l[k]'(by omega))) := (hbel.cell (p := ⟨b, off + k, none⟩) hb1).trans (hc k (by omega))
      have hcell' : wr.cell? ⟨b, off + (k + 1), none⟩ = some (.string l[k + 1]) := (hbel.cell (p := ⟨b, off + (k + 1), none⟩) hb1).trans (hc (k + 1) hp)
      have hlt : Op.bytesLess (l[k]'(by omega)).toList l[k + 1].toList = true := asc_get ha (Nat.lt_succ_self k) hp
      clear hc hr hb1
      have hk0 : (0 : Int) ≤ (k : Int) := by omega
      have hk1 : (k : Int) < (l.length : Int) := by omega
      have hk2 : (k : Int) + 1 < (l.length : Int) := by omega
      go_wp2
      go_quiet (fail)
      go_wp2
      go_roundw
      case rel => exact ⟨k + 1, by go_num, below_dN hbel _⟩
      case measure => simp [intOf]; omega
    · go_wp2
      go_ret
      exact ⟨rfl, hbel⟩


end Go.Proofs.Ytjgnbmebmjecpaa.Fo
