/-
  No cell of these rows narrows 'for every input' (looked for: loops, veiled, ifaces, maps, wideKeys, modest, calm, conditions, laid).
  DERIVED. THE GIVEN ROWS OF THIS SEAT. 7 by the template 'for every input the law returns true; each argument reads behind the call as it read before'; 0 by the template 'total and deterministic' (their statements: YtmlchbohijolaaaTotals.lean).
  GIVEN WITH THE SEED: the statements are not yours to turn. If you find one false, say at which input.
  Laid BY PROGRAM, IN A SANDBOX (cutbox-rows.mjs): the forced cells as the released guide's own fill.sh prints them over the translation f5c9b7469521c416… (all of the seat's roots in one cut). By AI agents, Wed Nov 11 2026. No macro, syntax, notation, axiom, sorry.
-/
import Derived.Test.YtmlchbohijolaaaChecked
import GoSem.Claim
import GoSem.ClaimJoined
import GoSem.ClaimMapViews
import Derived.JoinedTies
import Derived.KernelRfl
namespace Go.Proofs.Ytmlchbohijolaaa
/- THE CELL 'sum', in the pinned program and in every row, IS THE sha256 OF THE DUMP (.gsa) THAT YtmlchbohijolaaaProg.lean LOADS. Nothing in Lean hashes anything: it is a label: what it is worth is what the hold of that sum in a sandbox is worth. -/
noncomputable def Try.pinned : Pinned := { name := "ytmlchbohijolaaa", sum := "f5c9b7469521c416e60b201efc835b685e3feeec1467fc28d5986f5db113dca9", checked := Try.checked }
namespace Rows
def none {H : Type} : Left H := { results := [], args := [] }

/-- 'boltinglaw11.ArenaDoes': WHATEVER THE INPUT: true; the input reads as it did. -/
def arenaDoesSpec : ChangeSpec := { name := "arenaDoes", fn := fun _ => fun
  | [d] => { results := [.lit (.bool true)], args := [d] }
  | _ => none }
def arenaDoesRow : OpenClaim := { program := "ytmlchbohijolaaa", sum := "f5c9b7469521c416e60b201efc835b685e3feeec1467fc28d5986f5db113dca9", func := "bolting/boltinglaw11.ArenaDoes", spec := "arenaDoes", unfollowed := true, recurses := true, apart := false }
def ArenaDoesSaid : Prop := arenaDoesRow.holds Try.pinned (OpenSpec.ofChange arenaDoesSpec)

/-- ITS FALSE NEIGHBOUR: 'it returns false'. Refute it at one input. -/
def arenaDoesWrong : ChangeSpec := { name := "arenaDoes", fn := fun _ => fun
  | [d] => { results := [.lit (.bool false)], args := [d] }
  | _ => none }
def ArenaDoesWrongFalsely : Prop := arenaDoesRow.holds Try.pinned (OpenSpec.ofChange arenaDoesWrong)

/-- 'boltinglaw11.ArenaWithin': WHATEVER THE INPUT: true; the input reads as it did. -/
def arenaWithinSpec : ChangeSpec := { name := "arenaWithin", fn := fun _ => fun
  | [d1, d2, d3] => { results := [.lit (.bool true)], args := [d1, d2, d3] }
  | _ => none }
def arenaWithinRow : OpenClaim := { program := "ytmlchbohijolaaa", sum := "f5c9b7469521c416e60b201efc835b685e3feeec1467fc28d5986f5db113dca9", func := "bolting/boltinglaw11.ArenaWithin", spec := "arenaWithin", unfollowed := true, recurses := true, apart := false }
def ArenaWithinSaid : Prop := arenaWithinRow.holds Try.pinned (OpenSpec.ofChange arenaWithinSpec)

/-- ITS FALSE NEIGHBOUR: 'it returns false'. Refute it at one input. -/
def arenaWithinWrong : ChangeSpec := { name := "arenaWithin", fn := fun _ => fun
  | [d1, d2, d3] => { results := [.lit (.bool false)], args := [d1, d2, d3] }
  | _ => none }
def ArenaWithinWrongFalsely : Prop := arenaWithinRow.holds Try.pinned (OpenSpec.ofChange arenaWithinWrong)

/-- 'boltinglaw11.ArenaLoads': WHATEVER THE INPUT: true; the input reads as it did. -/
def arenaLoadsSpec : ChangeSpec := { name := "arenaLoads", fn := fun _ => fun
  | [d1, d2] => { results := [.lit (.bool true)], args := [d1, d2] }
  | _ => none }
def arenaLoadsRow : OpenClaim := { program := "ytmlchbohijolaaa", sum := "f5c9b7469521c416e60b201efc835b685e3feeec1467fc28d5986f5db113dca9", func := "bolting/boltinglaw11.ArenaLoads", spec := "arenaLoads", unfollowed := true, recurses := true, apart := false }
def ArenaLoadsSaid : Prop := arenaLoadsRow.holds Try.pinned (OpenSpec.ofChange arenaLoadsSpec)

/-- ITS FALSE NEIGHBOUR: 'it returns false'. Refute it at one input. -/
def arenaLoadsWrong : ChangeSpec := { name := "arenaLoads", fn := fun _ => fun
  | [d1, d2] => { results := [.lit (.bool false)], args := [d1, d2] }
  | _ => none }
def ArenaLoadsWrongFalsely : Prop := arenaLoadsRow.holds Try.pinned (OpenSpec.ofChange arenaLoadsWrong)

/-- 'boltinglaw11.ArenaClones': WHATEVER THE INPUT: true; the input reads as it did. -/
def arenaClonesSpec : ChangeSpec := { name := "arenaClones", fn := fun _ => fun
  | [d1, d2] => { results := [.lit (.bool true)], args := [d1, d2] }
  | _ => none }
def arenaClonesRow : OpenClaim := { program := "ytmlchbohijolaaa", sum := "f5c9b7469521c416e60b201efc835b685e3feeec1467fc28d5986f5db113dca9", func := "bolting/boltinglaw11.ArenaClones", spec := "arenaClones", unfollowed := true, recurses := true, apart := false }
def ArenaClonesSaid : Prop := arenaClonesRow.holds Try.pinned (OpenSpec.ofChange arenaClonesSpec)

/-- ITS FALSE NEIGHBOUR: 'it returns false'. Refute it at one input. -/
def arenaClonesWrong : ChangeSpec := { name := "arenaClones", fn := fun _ => fun
  | [d1, d2] => { results := [.lit (.bool false)], args := [d1, d2] }
  | _ => none }
def ArenaClonesWrongFalsely : Prop := arenaClonesRow.holds Try.pinned (OpenSpec.ofChange arenaClonesWrong)

/-- 'boltinglaw11.ArenaMoves': WHATEVER THE INPUT: true; the input reads as it did. -/
def arenaMovesSpec : ChangeSpec := { name := "arenaMoves", fn := fun _ => fun
  | [d1, d2] => { results := [.lit (.bool true)], args := [d1, d2] }
  | _ => none }
def arenaMovesRow : OpenClaim := { program := "ytmlchbohijolaaa", sum := "f5c9b7469521c416e60b201efc835b685e3feeec1467fc28d5986f5db113dca9", func := "bolting/boltinglaw11.ArenaMoves", spec := "arenaMoves", unfollowed := true, recurses := true, apart := false }
def ArenaMovesSaid : Prop := arenaMovesRow.holds Try.pinned (OpenSpec.ofChange arenaMovesSpec)

/-- ITS FALSE NEIGHBOUR: 'it returns false'. Refute it at one input. -/
def arenaMovesWrong : ChangeSpec := { name := "arenaMoves", fn := fun _ => fun
  | [d1, d2] => { results := [.lit (.bool false)], args := [d1, d2] }
  | _ => none }
def ArenaMovesWrongFalsely : Prop := arenaMovesRow.holds Try.pinned (OpenSpec.ofChange arenaMovesWrong)

/-- 'boltinglaw11.ArenaRefuses': WHATEVER THE INPUT: true; the input reads as it did. -/
def arenaRefusesSpec : ChangeSpec := { name := "arenaRefuses", fn := fun _ => fun
  | [d] => { results := [.lit (.bool true)], args := [d] }
  | _ => none }
def arenaRefusesRow : OpenClaim := { program := "ytmlchbohijolaaa", sum := "f5c9b7469521c416e60b201efc835b685e3feeec1467fc28d5986f5db113dca9", func := "bolting/boltinglaw11.ArenaRefuses", spec := "arenaRefuses", unfollowed := true, recurses := true, apart := false }
def ArenaRefusesSaid : Prop := arenaRefusesRow.holds Try.pinned (OpenSpec.ofChange arenaRefusesSpec)

/-- ITS FALSE NEIGHBOUR: 'it returns false'. Refute it at one input. -/
def arenaRefusesWrong : ChangeSpec := { name := "arenaRefuses", fn := fun _ => fun
  | [d] => { results := [.lit (.bool false)], args := [d] }
  | _ => none }
def ArenaRefusesWrongFalsely : Prop := arenaRefusesRow.holds Try.pinned (OpenSpec.ofChange arenaRefusesWrong)

/-- 'boltinglaw11.ArenaAttrs': WHATEVER THE INPUT: true; the input reads as it did. -/
def arenaAttrsSpec : ChangeSpec := { name := "arenaAttrs", fn := fun _ => fun
  | [d1, d2] => { results := [.lit (.bool true)], args := [d1, d2] }
  | _ => none }
def arenaAttrsRow : OpenClaim := { program := "ytmlchbohijolaaa", sum := "f5c9b7469521c416e60b201efc835b685e3feeec1467fc28d5986f5db113dca9", func := "bolting/boltinglaw11.ArenaAttrs", spec := "arenaAttrs", unfollowed := true, recurses := true, apart := false }
def ArenaAttrsSaid : Prop := arenaAttrsRow.holds Try.pinned (OpenSpec.ofChange arenaAttrsSpec)

/-- ITS FALSE NEIGHBOUR: 'it returns false'. Refute it at one input. -/
def arenaAttrsWrong : ChangeSpec := { name := "arenaAttrs", fn := fun _ => fun
  | [d1, d2] => { results := [.lit (.bool false)], args := [d1, d2] }
  | _ => none }
def ArenaAttrsWrongFalsely : Prop := arenaAttrsRow.holds Try.pinned (OpenSpec.ofChange arenaAttrsWrong)

/- THE SECOND FORM. 'bulk': how many values and letters a reading holds, each counted each time it is reached (what is shared counts as often as it is met; a slice's spare places count too). A statement '..UptoSaid' is the law's where the arguments, and the package variables that the reading takes, are together of bulk at most 1048576: NARROWER than '..Said'. Prove '..Said' where nothing that the law and all that it calls make is longer than what came in: it says more and counts as full. Else prove '..UptoSaid'. A law counts once. -/
mutual
def uptoBulk {H : Type} : DataW H → Nat
  | .lit (.string bytes) => bytes.length + 1
  | .lit _ => 1
  | .nil => 1
  | .ptr d => uptoBulk d + 1
  | .slice elems spare => uptoBulkAll elems + uptoBulkAll spare + 1
  | .agg parts => uptoBulkAll parts + 1
  | .iface _ d => uptoBulk d + 1
  | .map entries => uptoBulkEntries entries + 1
  | .held _ => 1
def uptoBulkAll {H : Type} : List (DataW H) → Nat
  | [] => 0
  | d :: r => uptoBulk d + uptoBulkAll r
def uptoBulkEntries {H : Type} : List (Lit × DataW H) → Nat
  | [] => 0
  | x :: r => uptoBulkEntry x + uptoBulkEntries r
def uptoBulkEntry {H : Type} : Lit × DataW H → Nat
  | (.string bytes, d) => bytes.length + uptoBulk d + 1
  | (_, d) => uptoBulk d + 1
 end
def uptoSmall : (H : Type) → List (DataW H) → Bool := fun _ ds => decide (uptoBulkAll ds ≤ 1048576)
def OpenSpec.upto (s : _root_.Go.ChangeSpec) : _root_.Go.OpenSpec := { _root_.Go.OpenSpec.ofChange s with cond := some uptoSmall }

/-- 'boltinglaw11.ArenaDoes', WHERE WHAT IT READS IS OF BULK AT MOST 1048576: true; the input reads as it did. -/
def arenaDoesUptoRow : OpenClaim := { program := "ytmlchbohijolaaa", sum := "f5c9b7469521c416e60b201efc835b685e3feeec1467fc28d5986f5db113dca9", func := "bolting/boltinglaw11.ArenaDoes", spec := "arenaDoes", unfollowed := true, recurses := true, apart := false, narrowed := true }
def ArenaDoesUptoSaid : Prop := arenaDoesUptoRow.holds Try.pinned (OpenSpec.upto arenaDoesSpec)

/-- 'boltinglaw11.ArenaWithin', WHERE WHAT IT READS IS OF BULK AT MOST 1048576: true; the input reads as it did. -/
def arenaWithinUptoRow : OpenClaim := { program := "ytmlchbohijolaaa", sum := "f5c9b7469521c416e60b201efc835b685e3feeec1467fc28d5986f5db113dca9", func := "bolting/boltinglaw11.ArenaWithin", spec := "arenaWithin", unfollowed := true, recurses := true, apart := false, narrowed := true }
def ArenaWithinUptoSaid : Prop := arenaWithinUptoRow.holds Try.pinned (OpenSpec.upto arenaWithinSpec)

/-- 'boltinglaw11.ArenaLoads', WHERE WHAT IT READS IS OF BULK AT MOST 1048576: true; the input reads as it did. -/
def arenaLoadsUptoRow : OpenClaim := { program := "ytmlchbohijolaaa", sum := "f5c9b7469521c416e60b201efc835b685e3feeec1467fc28d5986f5db113dca9", func := "bolting/boltinglaw11.ArenaLoads", spec := "arenaLoads", unfollowed := true, recurses := true, apart := false, narrowed := true }
def ArenaLoadsUptoSaid : Prop := arenaLoadsUptoRow.holds Try.pinned (OpenSpec.upto arenaLoadsSpec)

/-- 'boltinglaw11.ArenaClones', WHERE WHAT IT READS IS OF BULK AT MOST 1048576: true; the input reads as it did. -/
def arenaClonesUptoRow : OpenClaim := { program := "ytmlchbohijolaaa", sum := "f5c9b7469521c416e60b201efc835b685e3feeec1467fc28d5986f5db113dca9", func := "bolting/boltinglaw11.ArenaClones", spec := "arenaClones", unfollowed := true, recurses := true, apart := false, narrowed := true }
def ArenaClonesUptoSaid : Prop := arenaClonesUptoRow.holds Try.pinned (OpenSpec.upto arenaClonesSpec)

/-- 'boltinglaw11.ArenaMoves', WHERE WHAT IT READS IS OF BULK AT MOST 1048576: true; the input reads as it did. -/
def arenaMovesUptoRow : OpenClaim := { program := "ytmlchbohijolaaa", sum := "f5c9b7469521c416e60b201efc835b685e3feeec1467fc28d5986f5db113dca9", func := "bolting/boltinglaw11.ArenaMoves", spec := "arenaMoves", unfollowed := true, recurses := true, apart := false, narrowed := true }
def ArenaMovesUptoSaid : Prop := arenaMovesUptoRow.holds Try.pinned (OpenSpec.upto arenaMovesSpec)

/-- 'boltinglaw11.ArenaRefuses', WHERE WHAT IT READS IS OF BULK AT MOST 1048576: true; the input reads as it did. -/
def arenaRefusesUptoRow : OpenClaim := { program := "ytmlchbohijolaaa", sum := "f5c9b7469521c416e60b201efc835b685e3feeec1467fc28d5986f5db113dca9", func := "bolting/boltinglaw11.ArenaRefuses", spec := "arenaRefuses", unfollowed := true, recurses := true, apart := false, narrowed := true }
def ArenaRefusesUptoSaid : Prop := arenaRefusesUptoRow.holds Try.pinned (OpenSpec.upto arenaRefusesSpec)

/-- 'boltinglaw11.ArenaAttrs', WHERE WHAT IT READS IS OF BULK AT MOST 1048576: true; the input reads as it did. -/
def arenaAttrsUptoRow : OpenClaim := { program := "ytmlchbohijolaaa", sum := "f5c9b7469521c416e60b201efc835b685e3feeec1467fc28d5986f5db113dca9", func := "bolting/boltinglaw11.ArenaAttrs", spec := "arenaAttrs", unfollowed := true, recurses := true, apart := false, narrowed := true }
def ArenaAttrsUptoSaid : Prop := arenaAttrsUptoRow.holds Try.pinned (OpenSpec.upto arenaAttrsSpec)

end Rows
end Go.Proofs.Ytmlchbohijolaaa
