/-
  No cell of these rows narrows 'for every input' (looked for: loops, veiled, ifaces, maps, wideKeys, modest, calm, conditions, laid).
  DERIVED. THE GIVEN ROWS OF THIS SEAT. 3 by the template 'for every input the law returns true; each argument reads behind the call as it read before'; 0 by the template 'total and deterministic' (their statements: YtenmlpfjeohkiaaTotals.lean).
  GIVEN WITH THE SEED: the statements are not yours to turn. If you find one false, say at which input.
  Laid BY PROGRAM, IN A SANDBOX (cutbox-rows.mjs): the forced cells as the released guide's own fill.sh prints them over the translation 4660eb67da096a04… (all of the seat's roots in one cut). By AI agents, Wed Nov 11 2026. No macro, syntax, notation, axiom, sorry.
-/
import Derived.Test.YtenmlpfjeohkiaaChecked
import GoSem.Claim
import GoSem.ClaimJoined
import GoSem.ClaimMapViews
import Derived.JoinedTies
import Derived.KernelRfl
namespace Go.Proofs.Ytenmlpfjeohkiaa
/- THE CELL 'sum', in the pinned program and in every row, IS THE sha256 OF THE DUMP (.gsa) THAT YtenmlpfjeohkiaaProg.lean LOADS. Nothing in Lean hashes anything: it is a label: what it is worth is what the hold of that sum in a sandbox is worth. -/
noncomputable def Try.pinned : Pinned := { name := "ytenmlpfjeohkiaa", sum := "4660eb67da096a0491f0363cf44da39b03d584970b5f8e5a68e87323c5d86ceb", checked := Try.checked }
namespace Rows
def none {H : Type} : Left H := { results := [], args := [] }

/-- 'boltinglaw08.WriteRows': WHATEVER THE INPUT: true; the input reads as it did. -/
def writeRowsSpec : ChangeSpec := { name := "writeRows", fn := fun _ => fun
  | [d1, d2] => { results := [.lit (.bool true)], args := [d1, d2] }
  | _ => none }
def writeRowsRow : OpenClaim := { program := "ytenmlpfjeohkiaa", sum := "4660eb67da096a0491f0363cf44da39b03d584970b5f8e5a68e87323c5d86ceb", func := "bolting/boltinglaw08.WriteRows", spec := "writeRows", unfollowed := true, recurses := true, apart := false }
def WriteRowsSaid : Prop := writeRowsRow.holds Try.pinned (OpenSpec.ofChange writeRowsSpec)

/-- ITS FALSE NEIGHBOUR: 'it returns false'. Refute it at one input. -/
def writeRowsWrong : ChangeSpec := { name := "writeRows", fn := fun _ => fun
  | [d1, d2] => { results := [.lit (.bool false)], args := [d1, d2] }
  | _ => none }
def WriteRowsWrongFalsely : Prop := writeRowsRow.holds Try.pinned (OpenSpec.ofChange writeRowsWrong)

/-- 'boltinglaw08.WriteParts': WHATEVER THE INPUT: true; the input reads as it did. -/
def writePartsSpec : ChangeSpec := { name := "writeParts", fn := fun _ => fun
  | [d] => { results := [.lit (.bool true)], args := [d] }
  | _ => none }
def writePartsRow : OpenClaim := { program := "ytenmlpfjeohkiaa", sum := "4660eb67da096a0491f0363cf44da39b03d584970b5f8e5a68e87323c5d86ceb", func := "bolting/boltinglaw08.WriteParts", spec := "writeParts", unfollowed := true, recurses := true, apart := false }
def WritePartsSaid : Prop := writePartsRow.holds Try.pinned (OpenSpec.ofChange writePartsSpec)

/-- ITS FALSE NEIGHBOUR: 'it returns false'. Refute it at one input. -/
def writePartsWrong : ChangeSpec := { name := "writeParts", fn := fun _ => fun
  | [d] => { results := [.lit (.bool false)], args := [d] }
  | _ => none }
def WritePartsWrongFalsely : Prop := writePartsRow.holds Try.pinned (OpenSpec.ofChange writePartsWrong)

/-- 'boltinglaw08.WriteTwo': WHATEVER THE INPUT: true; the input reads as it did. -/
def writeTwoSpec : ChangeSpec := { name := "writeTwo", fn := fun _ => fun
  | [d1, d2] => { results := [.lit (.bool true)], args := [d1, d2] }
  | _ => none }
def writeTwoRow : OpenClaim := { program := "ytenmlpfjeohkiaa", sum := "4660eb67da096a0491f0363cf44da39b03d584970b5f8e5a68e87323c5d86ceb", func := "bolting/boltinglaw08.WriteTwo", spec := "writeTwo", unfollowed := true, recurses := true, apart := false }
def WriteTwoSaid : Prop := writeTwoRow.holds Try.pinned (OpenSpec.ofChange writeTwoSpec)

/-- ITS FALSE NEIGHBOUR: 'it returns false'. Refute it at one input. -/
def writeTwoWrong : ChangeSpec := { name := "writeTwo", fn := fun _ => fun
  | [d1, d2] => { results := [.lit (.bool false)], args := [d1, d2] }
  | _ => none }
def WriteTwoWrongFalsely : Prop := writeTwoRow.holds Try.pinned (OpenSpec.ofChange writeTwoWrong)

/- THE SECOND FORM. 'bulk': how many values and letters a reading holds, each counted each time it is reached (what is shared counts as often as it is met; a slice's spare places count too). A statement '..UptoSaid' is the law's where the arguments, and the package variables that the reading takes, are together of bulk at most 1048576: NARROWER than '..Said'. Prove '..Said' where nothing that the law and all that it calls make is longer than what came in: it says more and counts as full. Else prove '..UptoSaid'. A law counts once. -/
mutual
def uptoBulk {H : Type} : DataW H → Nat
  | .lit (.string bytes) => bytes.length + 1
  | .lit _ => 1
  | .nil => 1
  | .ptr d => uptoBulk d + 1
  | .slice elems spare => uptoBulkAll elems + uptoBulkAll spare + 1
  | .agg parts => uptoBulkAll parts + 1
  | .iface _ d => uptoBulk d + 1
  | .map entries => uptoBulkEntries entries + 1
  | .held _ => 1
def uptoBulkAll {H : Type} : List (DataW H) → Nat
  | [] => 0
  | d :: r => uptoBulk d + uptoBulkAll r
def uptoBulkEntries {H : Type} : List (Lit × DataW H) → Nat
  | [] => 0
  | x :: r => uptoBulkEntry x + uptoBulkEntries r
def uptoBulkEntry {H : Type} : Lit × DataW H → Nat
  | (.string bytes, d) => bytes.length + uptoBulk d + 1
  | (_, d) => uptoBulk d + 1
 end
def uptoSmall : (H : Type) → List (DataW H) → Bool := fun _ ds => decide (uptoBulkAll ds ≤ 1048576)
def OpenSpec.upto (s : _root_.Go.ChangeSpec) : _root_.Go.OpenSpec := { _root_.Go.OpenSpec.ofChange s with cond := some uptoSmall }

/-- 'boltinglaw08.WriteRows', WHERE WHAT IT READS IS OF BULK AT MOST 1048576: true; the input reads as it did. -/
def writeRowsUptoRow : OpenClaim := { program := "ytenmlpfjeohkiaa", sum := "4660eb67da096a0491f0363cf44da39b03d584970b5f8e5a68e87323c5d86ceb", func := "bolting/boltinglaw08.WriteRows", spec := "writeRows", unfollowed := true, recurses := true, apart := false, narrowed := true }
def WriteRowsUptoSaid : Prop := writeRowsUptoRow.holds Try.pinned (OpenSpec.upto writeRowsSpec)

/-- 'boltinglaw08.WriteParts', WHERE WHAT IT READS IS OF BULK AT MOST 1048576: true; the input reads as it did. -/
def writePartsUptoRow : OpenClaim := { program := "ytenmlpfjeohkiaa", sum := "4660eb67da096a0491f0363cf44da39b03d584970b5f8e5a68e87323c5d86ceb", func := "bolting/boltinglaw08.WriteParts", spec := "writeParts", unfollowed := true, recurses := true, apart := false, narrowed := true }
def WritePartsUptoSaid : Prop := writePartsUptoRow.holds Try.pinned (OpenSpec.upto writePartsSpec)

/-- 'boltinglaw08.WriteTwo', WHERE WHAT IT READS IS OF BULK AT MOST 1048576: true; the input reads as it did. -/
def writeTwoUptoRow : OpenClaim := { program := "ytenmlpfjeohkiaa", sum := "4660eb67da096a0491f0363cf44da39b03d584970b5f8e5a68e87323c5d86ceb", func := "bolting/boltinglaw08.WriteTwo", spec := "writeTwo", unfollowed := true, recurses := true, apart := false, narrowed := true }
def WriteTwoUptoSaid : Prop := writeTwoUptoRow.holds Try.pinned (OpenSpec.upto writeTwoSpec)

end Rows
end Go.Proofs.Ytenmlpfjeohkiaa
