/-
  NARROWER THAN 'FOR EVERY INPUT', by the rows' own cells (each row's printed sentence says how): WriteBack: laid · WriteStays: laid · WriteInside: laid.
  DERIVED. THE GIVEN ROWS OF THIS SEAT. 3 by the template 'for every input the law returns true; each argument reads behind the call as it read before'; 0 by the template 'total and deterministic' (their statements: YtenmlpfjeohkiaaGreatDoorTotals.lean).
  GIVEN WITH THE SEED: the statements are not yours to turn. If you find one false, say at which input.
  Laid BY PROGRAM, IN A SANDBOX (cutbox-rows.mjs): the forced cells as the released guide's own fill.sh prints them over the translation 17ff491ee297ec0a… (all of the seat's roots in one cut). By AI agents, Wed Nov 11 2026. No macro, syntax, notation, axiom, sorry.
-/
import Derived.Test.YtenmlpfjeohkiaaGreatDoorChecked
import GoSem.Claim
import GoSem.ClaimJoined
import GoSem.ClaimMapViews
import Derived.JoinedTies
import Derived.KernelRfl
namespace Go.Proofs.YtenmlpfjeohkiaaGreatDoor
/- THE CELL 'sum', in the pinned program and in every row, IS THE sha256 OF THE DUMP (.gsa) THAT YtenmlpfjeohkiaaGreatDoorProg.lean LOADS. Nothing in Lean hashes anything: it is a label: what it is worth is what the hold of that sum in a sandbox is worth. -/
noncomputable def Tryz.pinned : Pinned := { name := "ytenmlpfjeohkiaagreatdoor", sum := "17ff491ee297ec0aecced0f3ccd2e7a57a3bc269dc36248f95f3b9a26cbcdfbb", checked := Tryz.checked }
namespace Rows
def none {H : Type} : Left H := { results := [], args := [] }

/- WHAT THE LISTED PACKAGE-LEVEL VARIABLES READ AS WHEN THE CALL BEGINS. Each datum BY PROGRAM (the guide's laid-datum.mjs) off the statement by which the dump's own 'gosem.cut.vars' lays the variable. In a bare row this is a premise. The card (YtenmlpfjeohkiaaGreatDoorCards.lean) ties it to the program's text. -/
def laid_bolting_refs_named {H : Type} : DataW H := .agg [.agg [.lit (.string [97, 109, 112]), .lit (.int .i64 38)], .agg [.lit (.string [108, 116]), .lit (.int .i64 60)], .agg [.lit (.string [103, 116]), .lit (.int .i64 62)], .agg [.lit (.string [113, 117, 111, 116]), .lit (.int .i64 34)], .agg [.lit (.string [97, 112, 111, 115]), .lit (.int .i64 39)], .agg [.lit (.string [110, 98, 115, 112]), .lit (.int .i64 160)], .agg [.lit (.string [99, 111, 112, 121]), .lit (.int .i64 169)], .agg [.lit (.string [114, 101, 103]), .lit (.int .i64 174)], .agg [.lit (.string [112, 97, 114, 97]), .lit (.int .i64 182)], .agg [.lit (.string [109, 105, 100, 100, 111, 116]), .lit (.int .i64 183)], .agg [.lit (.string [101, 97, 99, 117, 116, 101]), .lit (.int .i64 233)], .agg [.lit (.string [97, 117, 109, 108]), .lit (.int .i64 228)], .agg [.lit (.string [111, 117, 109, 108]), .lit (.int .i64 246)], .agg [.lit (.string [117, 117, 109, 108]), .lit (.int .i64 252)], .agg [.lit (.string [115, 122, 108, 105, 103]), .lit (.int .i64 223)], .agg [.lit (.string [101, 117, 114, 111]), .lit (.int .i64 8364)], .agg [.lit (.string [104, 101, 108, 108, 105, 112]), .lit (.int .i64 8230)], .agg [.lit (.string [110, 100, 97, 115, 104]), .lit (.int .i64 8211)], .agg [.lit (.string [109, 100, 97, 115, 104]), .lit (.int .i64 8212)], .agg [.lit (.string [98, 117, 108, 108]), .lit (.int .i64 8226)], .agg [.lit (.string [84, 97, 98]), .lit (.int .i64 9)], .agg [.lit (.string [78, 101, 119, 76, 105, 110, 101]), .lit (.int .i64 10)], .agg [.lit (.string [99, 111, 108, 111, 110]), .lit (.int .i64 58)], .agg [.lit (.string [108, 112, 97, 114]), .lit (.int .i64 40)]]

/-- 'boltinglaw08.WriteBack': WHATEVER THE INPUT: true; the input reads as it did. -/
def writeBackSpec : ChangeSpec := { name := "writeBack", fn := fun _ => fun
  | [d] => { results := [.lit (.bool true)], args := [d] }
  | _ => none }
def writeBackRow : OpenClaim := { program := "ytenmlpfjeohkiaagreatdoor", sum := "17ff491ee297ec0aecced0f3ccd2e7a57a3bc269dc36248f95f3b9a26cbcdfbb", func := "bolting/boltinglaw08.WriteBack", spec := "writeBack", unfollowed := true, recurses := true, named := ["bolting/refs.named"], apart := false, laid := [("bolting/refs.named", laid_bolting_refs_named)] }
def WriteBackSaid : Prop := writeBackRow.holds Tryz.pinned (OpenSpec.ofChange writeBackSpec)

/-- ITS FALSE NEIGHBOUR: 'it returns false'. Refute it at one input. -/
def writeBackWrong : ChangeSpec := { name := "writeBack", fn := fun _ => fun
  | [d] => { results := [.lit (.bool false)], args := [d] }
  | _ => none }
def WriteBackWrongFalsely : Prop := writeBackRow.holds Tryz.pinned (OpenSpec.ofChange writeBackWrong)

/-- 'boltinglaw08.WriteStays': WHATEVER THE INPUT: true; the input reads as it did. -/
def writeStaysSpec : ChangeSpec := { name := "writeStays", fn := fun _ => fun
  | [d] => { results := [.lit (.bool true)], args := [d] }
  | _ => none }
def writeStaysRow : OpenClaim := { program := "ytenmlpfjeohkiaagreatdoor", sum := "17ff491ee297ec0aecced0f3ccd2e7a57a3bc269dc36248f95f3b9a26cbcdfbb", func := "bolting/boltinglaw08.WriteStays", spec := "writeStays", unfollowed := true, recurses := true, named := ["bolting/refs.named"], apart := false, laid := [("bolting/refs.named", laid_bolting_refs_named)] }
def WriteStaysSaid : Prop := writeStaysRow.holds Tryz.pinned (OpenSpec.ofChange writeStaysSpec)

/-- ITS FALSE NEIGHBOUR: 'it returns false'. Refute it at one input. -/
def writeStaysWrong : ChangeSpec := { name := "writeStays", fn := fun _ => fun
  | [d] => { results := [.lit (.bool false)], args := [d] }
  | _ => none }
def WriteStaysWrongFalsely : Prop := writeStaysRow.holds Tryz.pinned (OpenSpec.ofChange writeStaysWrong)

/-- 'boltinglaw08.WriteInside': WHATEVER THE INPUT: true; the input reads as it did. -/
def writeInsideSpec : ChangeSpec := { name := "writeInside", fn := fun _ => fun
  | [d1, d2] => { results := [.lit (.bool true)], args := [d1, d2] }
  | _ => none }
def writeInsideRow : OpenClaim := { program := "ytenmlpfjeohkiaagreatdoor", sum := "17ff491ee297ec0aecced0f3ccd2e7a57a3bc269dc36248f95f3b9a26cbcdfbb", func := "bolting/boltinglaw08.WriteInside", spec := "writeInside", unfollowed := true, recurses := true, named := ["bolting/refs.named"], apart := false, laid := [("bolting/refs.named", laid_bolting_refs_named)] }
def WriteInsideSaid : Prop := writeInsideRow.holds Tryz.pinned (OpenSpec.ofChange writeInsideSpec)

/-- ITS FALSE NEIGHBOUR: 'it returns false'. Refute it at one input. -/
def writeInsideWrong : ChangeSpec := { name := "writeInside", fn := fun _ => fun
  | [d1, d2] => { results := [.lit (.bool false)], args := [d1, d2] }
  | _ => none }
def WriteInsideWrongFalsely : Prop := writeInsideRow.holds Tryz.pinned (OpenSpec.ofChange writeInsideWrong)

/- THE SECOND FORM. 'bulk': how many values and letters a reading holds, each counted each time it is reached (what is shared counts as often as it is met; a slice's spare places count too). A statement '..UptoSaid' is the law's where the arguments, and the package variables that the reading takes, are together of bulk at most 1048576: NARROWER than '..Said'. Prove '..Said' where nothing that the law and all that it calls make is longer than what came in: it says more and counts as full. Else prove '..UptoSaid'. A law counts once. -/
mutual
def uptoBulk {H : Type} : DataW H → Nat
  | .lit (.string bytes) => bytes.length + 1
  | .lit _ => 1
  | .nil => 1
  | .ptr d => uptoBulk d + 1
  | .slice elems spare => uptoBulkAll elems + uptoBulkAll spare + 1
  | .agg parts => uptoBulkAll parts + 1
  | .iface _ d => uptoBulk d + 1
  | .map entries => uptoBulkEntries entries + 1
  | .held _ => 1
def uptoBulkAll {H : Type} : List (DataW H) → Nat
  | [] => 0
  | d :: r => uptoBulk d + uptoBulkAll r
def uptoBulkEntries {H : Type} : List (Lit × DataW H) → Nat
  | [] => 0
  | x :: r => uptoBulkEntry x + uptoBulkEntries r
def uptoBulkEntry {H : Type} : Lit × DataW H → Nat
  | (.string bytes, d) => bytes.length + uptoBulk d + 1
  | (_, d) => uptoBulk d + 1
 end
def uptoSmall : (H : Type) → List (DataW H) → Bool := fun _ ds => decide (uptoBulkAll ds ≤ 1048576)
def OpenSpec.upto (s : _root_.Go.ChangeSpec) : _root_.Go.OpenSpec := { _root_.Go.OpenSpec.ofChange s with cond := some uptoSmall }

/-- 'boltinglaw08.WriteBack', WHERE WHAT IT READS IS OF BULK AT MOST 1048576: true; the input reads as it did. -/
def writeBackUptoRow : OpenClaim := { program := "ytenmlpfjeohkiaagreatdoor", sum := "17ff491ee297ec0aecced0f3ccd2e7a57a3bc269dc36248f95f3b9a26cbcdfbb", func := "bolting/boltinglaw08.WriteBack", spec := "writeBack", unfollowed := true, recurses := true, named := ["bolting/refs.named"], apart := false, laid := [("bolting/refs.named", laid_bolting_refs_named)], narrowed := true }
def WriteBackUptoSaid : Prop := writeBackUptoRow.holds Tryz.pinned (OpenSpec.upto writeBackSpec)

/-- 'boltinglaw08.WriteStays', WHERE WHAT IT READS IS OF BULK AT MOST 1048576: true; the input reads as it did. -/
def writeStaysUptoRow : OpenClaim := { program := "ytenmlpfjeohkiaagreatdoor", sum := "17ff491ee297ec0aecced0f3ccd2e7a57a3bc269dc36248f95f3b9a26cbcdfbb", func := "bolting/boltinglaw08.WriteStays", spec := "writeStays", unfollowed := true, recurses := true, named := ["bolting/refs.named"], apart := false, laid := [("bolting/refs.named", laid_bolting_refs_named)], narrowed := true }
def WriteStaysUptoSaid : Prop := writeStaysUptoRow.holds Tryz.pinned (OpenSpec.upto writeStaysSpec)

/-- 'boltinglaw08.WriteInside', WHERE WHAT IT READS IS OF BULK AT MOST 1048576: true; the input reads as it did. -/
def writeInsideUptoRow : OpenClaim := { program := "ytenmlpfjeohkiaagreatdoor", sum := "17ff491ee297ec0aecced0f3ccd2e7a57a3bc269dc36248f95f3b9a26cbcdfbb", func := "bolting/boltinglaw08.WriteInside", spec := "writeInside", unfollowed := true, recurses := true, named := ["bolting/refs.named"], apart := false, laid := [("bolting/refs.named", laid_bolting_refs_named)], narrowed := true }
def WriteInsideUptoSaid : Prop := writeInsideUptoRow.holds Tryz.pinned (OpenSpec.upto writeInsideSpec)

end Rows
end Go.Proofs.YtenmlpfjeohkiaaGreatDoor
