/-
  Walks of stage 2: boltingref02's Equal (of slices that read as one list) and Is (of a list that rises); fold.Find (of a list that rises).
-/
import Derived.Test.YtknllnjpbbldkaaFoldWalkD
namespace Go.Proofs.Ytknllnjpbbldkaa.Fo
open Go.RowKit Ba Fm

theorem below_dN {N : Nat} {a w : World} (h : Below N a w) (n : Nat) : Below N a (w.drewN n) := ⟨h.os, h.tape, h.output, h.size, h.block⟩

set_option maxHeartbeats 1000000 in
theorem equal_any (A C : Option Addr) (c d : Nat) (l : List ByteArray) (w : World) (hr : Rd w w.heap.size A l) (hq : Rd w w.heap.size C l) (hl : l.length ≤ 8796093022208) :
    Calls Try.prog 19 #[.slice A l.length c, .slice C l.length d] w fun e w' => e = .returned (.bool true) ∧ Below w.heap.size w w' := by
  go_enter Try.func19, Try.ntmps19
  go_wp2
  go_loopw [5] (fun i wr => ∃ k : Nat, i = .int .i64 k ∧ k ≤ l.length ∧ Below w.heap.size w wr) (fun i _ => l.length - (intOf i).toNat)
  case atStart => exact ⟨0, rfl, Nat.zero_le _, Below.refl _ _⟩
  case round =>
    obtain ⟨k, rfl, hks, hbel⟩ := hrel
    by_cases hp : k < l.length
    · obtain ⟨b, off, rfl, hb1, hc⟩ := hr (by omega)
      obtain ⟨b', off', rfl, hb2, hc'⟩ := hq (by omega)
      have hcell : wr.cell? ⟨b, off + k, none⟩ = some (.string l[k]) := (hbel.cell (p := ⟨b, off + k, none⟩) hb1).trans (hc k hp)
      have hcell' : wr.cell? ⟨b', off' + k, none⟩ = some (.string l[k]) := (hbel.cell (p := ⟨b', off' + k, none⟩) hb2).trans (hc' k hp)
      clear hc hc' hr hq hb1 hb2
      have hk0 : (0 : Int) ≤ (k : Int) := by omega
      have hk1 : (k : Int) < (l.length : Int) := by omega
      go_wp2
      go_quiet (fail)
      go_wp2
      go_roundw
      case rel => exact ⟨k + 1, by go_num, by omega, below_dN hbel _⟩
      case measure => simp [intOf]; omega
    · go_wp2
      go_ret
      exact ⟨rfl, hbel⟩

set_option maxHeartbeats 1000000 in
theorem is_any (A : Option Addr) (c : Nat) (l : List ByteArray) (w : World) (hr : Rd w w.heap.size A l) (hl : l.length ≤ 8796093022208) (ha : Asc lt l) :
    Calls Try.prog 30 #[.slice A l.length c] w fun e w' => e = .returned (.bool true) ∧ Below w.heap.size w w' := by
  go_enter Try.func30, Try.ntmps30
  go_wp2
  go_loopw [3] (fun i wr => ∃ k : Nat, i = .int .i64 (k + 1 : Nat) ∧ Below w.heap.size w wr) (fun i _ => l.length - (intOf i).toNat)
  case atStart => exact ⟨0, rfl, Below.refl _ _⟩
  case round =>
    obtain ⟨k, rfl, hbel⟩ := hrel
    by_cases hp : k + 1 < l.length
    · obtain ⟨b, off, rfl, hb1, hc⟩ := hr (by omega)
      have hcell : wr.cell? ⟨b, off + k, none⟩ = some (.string (l[k]'(by omega))) := (hbel.cell (p := ⟨b, off + k, none⟩) hb1).trans (hc k (by omega))
      have hcell' : wr.cell? ⟨b, off + (k + 1), none⟩ = some (.string l[k + 1]) := (hbel.cell (p := ⟨b, off + (k + 1), none⟩) hb1).trans (hc (k + 1) hp)
      have hlt : Op.bytesLess (l[k]'(by omega)).toList l[k + 1].toList = true := asc_get ha (Nat.lt_succ_self k) hp
      clear hc hr hb1
      have hk0 : (0 : Int) ≤ (k : Int) := by omega
      have hk1 : (k : Int) < (l.length : Int) := by omega
      have hk2 : (k : Int) + 1 < (l.length : Int) := by omega
      go_wp2
      go_quiet (fail)
      go_wp2
      go_roundw
      case rel => exact ⟨k + 1, by go_num, below_dN hbel _⟩
      case measure => simp [intOf]; omega
    · go_wp2
      go_ret
      exact ⟨rfl, hbel⟩

end Go.Proofs.Ytknllnjpbbldkaa.Fo
