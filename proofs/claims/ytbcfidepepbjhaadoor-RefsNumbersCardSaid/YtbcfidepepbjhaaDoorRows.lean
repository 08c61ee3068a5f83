/-
  NARROWER THAN 'FOR EVERY INPUT', by the rows' own cells (each row's printed sentence says how): RefsNames: laid · RefsDecodes: laid · RefsWrites: laid · RefsBack: laid · RefsParts: laid · RefsNumbers: laid · RefsOnce: laid · RefsSafe: laid.
  DERIVED. THE GIVEN ROWS OF THIS SEAT. 8 by the template 'for every input the law returns true; each argument reads behind the call as it read before'; 0 by the template 'total and deterministic' (their statements: YtbcfidepepbjhaaDoorTotals.lean).
  GIVEN WITH THE SEED: the statements are not yours to turn. If you find one false, say at which input.
  Laid BY PROGRAM, IN A SANDBOX (cutbox-rows.mjs): the forced cells as the released guide's own fill.sh prints them over the translation 4412fdd920ac817d… (all of the seat's roots in one cut). By AI agents, Wed Nov 11 2026. No macro, syntax, notation, axiom, sorry.
-/
import Derived.Test.YtbcfidepepbjhaaDoorChecked
import GoSem.Claim
import GoSem.ClaimJoined
import GoSem.ClaimMapViews
import Derived.JoinedTies
import Derived.KernelRfl
namespace Go.Proofs.YtbcfidepepbjhaaDoor
/- THE CELL 'sum', in the pinned program and in every row, IS THE sha256 OF THE DUMP (.gsa) THAT YtbcfidepepbjhaaDoorProg.lean LOADS. Nothing in Lean hashes anything: it is a label: what it is worth is what the hold of that sum in a sandbox is worth. -/
noncomputable def Tryd.pinned : Pinned := { name := "ytbcfidepepbjhaadoor", sum := "4412fdd920ac817d76ee8a48eab8b922510eb25dec6f7d448a4d84b6afbcd723", checked := Tryd.checked }
namespace Rows
def none {H : Type} : Left H := { results := [], args := [] }

/- WHAT THE LISTED PACKAGE-LEVEL VARIABLES READ AS WHEN THE CALL BEGINS. Each datum BY PROGRAM (the guide's laid-datum.mjs) off the statement by which the dump's own 'gosem.cut.vars' lays the variable. In a bare row this is a premise. The card (YtbcfidepepbjhaaDoorCards.lean) ties it to the program's text. -/
def laid_bolting_refs_named {H : Type} : DataW H := .agg [.agg [.lit (.string [97, 109, 112]), .lit (.int .i64 38)], .agg [.lit (.string [108, 116]), .lit (.int .i64 60)], .agg [.lit (.string [103, 116]), .lit (.int .i64 62)], .agg [.lit (.string [113, 117, 111, 116]), .lit (.int .i64 34)], .agg [.lit (.string [97, 112, 111, 115]), .lit (.int .i64 39)], .agg [.lit (.string [110, 98, 115, 112]), .lit (.int .i64 160)], .agg [.lit (.string [99, 111, 112, 121]), .lit (.int .i64 169)], .agg [.lit (.string [114, 101, 103]), .lit (.int .i64 174)], .agg [.lit (.string [112, 97, 114, 97]), .lit (.int .i64 182)], .agg [.lit (.string [109, 105, 100, 100, 111, 116]), .lit (.int .i64 183)], .agg [.lit (.string [101, 97, 99, 117, 116, 101]), .lit (.int .i64 233)], .agg [.lit (.string [97, 117, 109, 108]), .lit (.int .i64 228)], .agg [.lit (.string [111, 117, 109, 108]), .lit (.int .i64 246)], .agg [.lit (.string [117, 117, 109, 108]), .lit (.int .i64 252)], .agg [.lit (.string [115, 122, 108, 105, 103]), .lit (.int .i64 223)], .agg [.lit (.string [101, 117, 114, 111]), .lit (.int .i64 8364)], .agg [.lit (.string [104, 101, 108, 108, 105, 112]), .lit (.int .i64 8230)], .agg [.lit (.string [110, 100, 97, 115, 104]), .lit (.int .i64 8211)], .agg [.lit (.string [109, 100, 97, 115, 104]), .lit (.int .i64 8212)], .agg [.lit (.string [98, 117, 108, 108]), .lit (.int .i64 8226)], .agg [.lit (.string [84, 97, 98]), .lit (.int .i64 9)], .agg [.lit (.string [78, 101, 119, 76, 105, 110, 101]), .lit (.int .i64 10)], .agg [.lit (.string [99, 111, 108, 111, 110]), .lit (.int .i64 58)], .agg [.lit (.string [108, 112, 97, 114]), .lit (.int .i64 40)]]

/-- 'boltinglaw03.RefsNames': WHATEVER THE INPUT: true; the input reads as it did. -/
def refsNamesSpec : ChangeSpec := { name := "refsNames", fn := fun _ => fun
  | [d1, d2] => { results := [.lit (.bool true)], args := [d1, d2] }
  | _ => none }
def refsNamesRow : OpenClaim := { program := "ytbcfidepepbjhaadoor", sum := "4412fdd920ac817d76ee8a48eab8b922510eb25dec6f7d448a4d84b6afbcd723", func := "bolting/boltinglaw03.RefsNames", spec := "refsNames", named := ["bolting/refs.named"], apart := false, laid := [("bolting/refs.named", laid_bolting_refs_named)] }
def RefsNamesSaid : Prop := refsNamesRow.holds Tryd.pinned (OpenSpec.ofChange refsNamesSpec)

/-- ITS FALSE NEIGHBOUR: 'it returns false'. Refute it at one input. -/
def refsNamesWrong : ChangeSpec := { name := "refsNames", fn := fun _ => fun
  | [d1, d2] => { results := [.lit (.bool false)], args := [d1, d2] }
  | _ => none }
def RefsNamesWrongFalsely : Prop := refsNamesRow.holds Tryd.pinned (OpenSpec.ofChange refsNamesWrong)

/-- 'boltinglaw03.RefsDecodes': WHATEVER THE INPUT: true; the input reads as it did. -/
def refsDecodesSpec : ChangeSpec := { name := "refsDecodes", fn := fun _ => fun
  | [d] => { results := [.lit (.bool true)], args := [d] }
  | _ => none }
def refsDecodesRow : OpenClaim := { program := "ytbcfidepepbjhaadoor", sum := "4412fdd920ac817d76ee8a48eab8b922510eb25dec6f7d448a4d84b6afbcd723", func := "bolting/boltinglaw03.RefsDecodes", spec := "refsDecodes", named := ["bolting/refs.named"], apart := false, laid := [("bolting/refs.named", laid_bolting_refs_named)] }
def RefsDecodesSaid : Prop := refsDecodesRow.holds Tryd.pinned (OpenSpec.ofChange refsDecodesSpec)

/-- ITS FALSE NEIGHBOUR: 'it returns false'. Refute it at one input. -/
def refsDecodesWrong : ChangeSpec := { name := "refsDecodes", fn := fun _ => fun
  | [d] => { results := [.lit (.bool false)], args := [d] }
  | _ => none }
def RefsDecodesWrongFalsely : Prop := refsDecodesRow.holds Tryd.pinned (OpenSpec.ofChange refsDecodesWrong)

/-- 'boltinglaw03.RefsWrites': WHATEVER THE INPUT: true; the input reads as it did. -/
def refsWritesSpec : ChangeSpec := { name := "refsWrites", fn := fun _ => fun
  | [d] => { results := [.lit (.bool true)], args := [d] }
  | _ => none }
def refsWritesRow : OpenClaim := { program := "ytbcfidepepbjhaadoor", sum := "4412fdd920ac817d76ee8a48eab8b922510eb25dec6f7d448a4d84b6afbcd723", func := "bolting/boltinglaw03.RefsWrites", spec := "refsWrites", named := ["bolting/refs.named"], apart := false, laid := [("bolting/refs.named", laid_bolting_refs_named)] }
def RefsWritesSaid : Prop := refsWritesRow.holds Tryd.pinned (OpenSpec.ofChange refsWritesSpec)

/-- ITS FALSE NEIGHBOUR: 'it returns false'. Refute it at one input. -/
def refsWritesWrong : ChangeSpec := { name := "refsWrites", fn := fun _ => fun
  | [d] => { results := [.lit (.bool false)], args := [d] }
  | _ => none }
def RefsWritesWrongFalsely : Prop := refsWritesRow.holds Tryd.pinned (OpenSpec.ofChange refsWritesWrong)

/-- 'boltinglaw03.RefsBack': WHATEVER THE INPUT: true; the input reads as it did. -/
def refsBackSpec : ChangeSpec := { name := "refsBack", fn := fun _ => fun
  | [d] => { results := [.lit (.bool true)], args := [d] }
  | _ => none }
def refsBackRow : OpenClaim := { program := "ytbcfidepepbjhaadoor", sum := "4412fdd920ac817d76ee8a48eab8b922510eb25dec6f7d448a4d84b6afbcd723", func := "bolting/boltinglaw03.RefsBack", spec := "refsBack", named := ["bolting/refs.named"], apart := false, laid := [("bolting/refs.named", laid_bolting_refs_named)] }
def RefsBackSaid : Prop := refsBackRow.holds Tryd.pinned (OpenSpec.ofChange refsBackSpec)

/-- ITS FALSE NEIGHBOUR: 'it returns false'. Refute it at one input. -/
def refsBackWrong : ChangeSpec := { name := "refsBack", fn := fun _ => fun
  | [d] => { results := [.lit (.bool false)], args := [d] }
  | _ => none }
def RefsBackWrongFalsely : Prop := refsBackRow.holds Tryd.pinned (OpenSpec.ofChange refsBackWrong)

/-- 'boltinglaw03.RefsParts': WHATEVER THE INPUT: true; the input reads as it did. -/
def refsPartsSpec : ChangeSpec := { name := "refsParts", fn := fun _ => fun
  | [d1, d2] => { results := [.lit (.bool true)], args := [d1, d2] }
  | _ => none }
def refsPartsRow : OpenClaim := { program := "ytbcfidepepbjhaadoor", sum := "4412fdd920ac817d76ee8a48eab8b922510eb25dec6f7d448a4d84b6afbcd723", func := "bolting/boltinglaw03.RefsParts", spec := "refsParts", named := ["bolting/refs.named"], apart := false, laid := [("bolting/refs.named", laid_bolting_refs_named)] }
def RefsPartsSaid : Prop := refsPartsRow.holds Tryd.pinned (OpenSpec.ofChange refsPartsSpec)

/-- ITS FALSE NEIGHBOUR: 'it returns false'. Refute it at one input. -/
def refsPartsWrong : ChangeSpec := { name := "refsParts", fn := fun _ => fun
  | [d1, d2] => { results := [.lit (.bool false)], args := [d1, d2] }
  | _ => none }
def RefsPartsWrongFalsely : Prop := refsPartsRow.holds Tryd.pinned (OpenSpec.ofChange refsPartsWrong)

/-- 'boltinglaw03.RefsNumbers': WHATEVER THE INPUT: true; the input reads as it did. -/
def refsNumbersSpec : ChangeSpec := { name := "refsNumbers", fn := fun _ => fun
  | [d1, d2] => { results := [.lit (.bool true)], args := [d1, d2] }
  | _ => none }
def refsNumbersRow : OpenClaim := { program := "ytbcfidepepbjhaadoor", sum := "4412fdd920ac817d76ee8a48eab8b922510eb25dec6f7d448a4d84b6afbcd723", func := "bolting/boltinglaw03.RefsNumbers", spec := "refsNumbers", named := ["bolting/refs.named"], apart := false, laid := [("bolting/refs.named", laid_bolting_refs_named)] }
def RefsNumbersSaid : Prop := refsNumbersRow.holds Tryd.pinned (OpenSpec.ofChange refsNumbersSpec)

/-- ITS FALSE NEIGHBOUR: 'it returns false'. Refute it at one input. -/
def refsNumbersWrong : ChangeSpec := { name := "refsNumbers", fn := fun _ => fun
  | [d1, d2] => { results := [.lit (.bool false)], args := [d1, d2] }
  | _ => none }
def RefsNumbersWrongFalsely : Prop := refsNumbersRow.holds Tryd.pinned (OpenSpec.ofChange refsNumbersWrong)

/-- 'boltinglaw03.RefsOnce': WHATEVER THE INPUT: true; the input reads as it did. -/
def refsOnceSpec : ChangeSpec := { name := "refsOnce", fn := fun _ => fun
  | [d] => { results := [.lit (.bool true)], args := [d] }
  | _ => none }
def refsOnceRow : OpenClaim := { program := "ytbcfidepepbjhaadoor", sum := "4412fdd920ac817d76ee8a48eab8b922510eb25dec6f7d448a4d84b6afbcd723", func := "bolting/boltinglaw03.RefsOnce", spec := "refsOnce", named := ["bolting/refs.named"], apart := false, laid := [("bolting/refs.named", laid_bolting_refs_named)] }
def RefsOnceSaid : Prop := refsOnceRow.holds Tryd.pinned (OpenSpec.ofChange refsOnceSpec)

/-- ITS FALSE NEIGHBOUR: 'it returns false'. Refute it at one input. -/
def refsOnceWrong : ChangeSpec := { name := "refsOnce", fn := fun _ => fun
  | [d] => { results := [.lit (.bool false)], args := [d] }
  | _ => none }
def RefsOnceWrongFalsely : Prop := refsOnceRow.holds Tryd.pinned (OpenSpec.ofChange refsOnceWrong)

/-- 'boltinglaw03.RefsSafe': WHATEVER THE INPUT: true; the input reads as it did. -/
def refsSafeSpec : ChangeSpec := { name := "refsSafe", fn := fun _ => fun
  | [d] => { results := [.lit (.bool true)], args := [d] }
  | _ => none }
def refsSafeRow : OpenClaim := { program := "ytbcfidepepbjhaadoor", sum := "4412fdd920ac817d76ee8a48eab8b922510eb25dec6f7d448a4d84b6afbcd723", func := "bolting/boltinglaw03.RefsSafe", spec := "refsSafe", named := ["bolting/refs.named"], apart := false, laid := [("bolting/refs.named", laid_bolting_refs_named)] }
def RefsSafeSaid : Prop := refsSafeRow.holds Tryd.pinned (OpenSpec.ofChange refsSafeSpec)

/-- ITS FALSE NEIGHBOUR: 'it returns false'. Refute it at one input. -/
def refsSafeWrong : ChangeSpec := { name := "refsSafe", fn := fun _ => fun
  | [d] => { results := [.lit (.bool false)], args := [d] }
  | _ => none }
def RefsSafeWrongFalsely : Prop := refsSafeRow.holds Tryd.pinned (OpenSpec.ofChange refsSafeWrong)

/- THE SECOND FORM. 'bulk': how many values and letters a reading holds, each counted each time it is reached (what is shared counts as often as it is met; a slice's spare places count too). A statement '..UptoSaid' is the law's where the arguments, and the package variables that the reading takes, are together of bulk at most 1048576: NARROWER than '..Said'. Prove '..Said' where nothing that the law and all that it calls make is longer than what came in: it says more and counts as full. Else prove '..UptoSaid'. A law counts once. -/
mutual
def uptoBulk {H : Type} : DataW H → Nat
  | .lit (.string bytes) => bytes.length + 1
  | .lit _ => 1
  | .nil => 1
  | .ptr d => uptoBulk d + 1
  | .slice elems spare => uptoBulkAll elems + uptoBulkAll spare + 1
  | .agg parts => uptoBulkAll parts + 1
  | .iface _ d => uptoBulk d + 1
  | .map entries => uptoBulkEntries entries + 1
  | .held _ => 1
def uptoBulkAll {H : Type} : List (DataW H) → Nat
  | [] => 0
  | d :: r => uptoBulk d + uptoBulkAll r
def uptoBulkEntries {H : Type} : List (Lit × DataW H) → Nat
  | [] => 0
  | x :: r => uptoBulkEntry x + uptoBulkEntries r
def uptoBulkEntry {H : Type} : Lit × DataW H → Nat
  | (.string bytes, d) => bytes.length + uptoBulk d + 1
  | (_, d) => uptoBulk d + 1
 end
def uptoSmall : (H : Type) → List (DataW H) → Bool := fun _ ds => decide (uptoBulkAll ds ≤ 1048576)
def OpenSpec.upto (s : _root_.Go.ChangeSpec) : _root_.Go.OpenSpec := { _root_.Go.OpenSpec.ofChange s with cond := some uptoSmall }

/-- 'boltinglaw03.RefsNames', WHERE WHAT IT READS IS OF BULK AT MOST 1048576: true; the input reads as it did. -/
def refsNamesUptoRow : OpenClaim := { program := "ytbcfidepepbjhaadoor", sum := "4412fdd920ac817d76ee8a48eab8b922510eb25dec6f7d448a4d84b6afbcd723", func := "bolting/boltinglaw03.RefsNames", spec := "refsNames", named := ["bolting/refs.named"], apart := false, laid := [("bolting/refs.named", laid_bolting_refs_named)], narrowed := true }
def RefsNamesUptoSaid : Prop := refsNamesUptoRow.holds Tryd.pinned (OpenSpec.upto refsNamesSpec)

/-- 'boltinglaw03.RefsDecodes', WHERE WHAT IT READS IS OF BULK AT MOST 1048576: true; the input reads as it did. -/
def refsDecodesUptoRow : OpenClaim := { program := "ytbcfidepepbjhaadoor", sum := "4412fdd920ac817d76ee8a48eab8b922510eb25dec6f7d448a4d84b6afbcd723", func := "bolting/boltinglaw03.RefsDecodes", spec := "refsDecodes", named := ["bolting/refs.named"], apart := false, laid := [("bolting/refs.named", laid_bolting_refs_named)], narrowed := true }
def RefsDecodesUptoSaid : Prop := refsDecodesUptoRow.holds Tryd.pinned (OpenSpec.upto refsDecodesSpec)

/-- 'boltinglaw03.RefsWrites', WHERE WHAT IT READS IS OF BULK AT MOST 1048576: true; the input reads as it did. -/
def refsWritesUptoRow : OpenClaim := { program := "ytbcfidepepbjhaadoor", sum := "4412fdd920ac817d76ee8a48eab8b922510eb25dec6f7d448a4d84b6afbcd723", func := "bolting/boltinglaw03.RefsWrites", spec := "refsWrites", named := ["bolting/refs.named"], apart := false, laid := [("bolting/refs.named", laid_bolting_refs_named)], narrowed := true }
def RefsWritesUptoSaid : Prop := refsWritesUptoRow.holds Tryd.pinned (OpenSpec.upto refsWritesSpec)

/-- 'boltinglaw03.RefsBack', WHERE WHAT IT READS IS OF BULK AT MOST 1048576: true; the input reads as it did. -/
def refsBackUptoRow : OpenClaim := { program := "ytbcfidepepbjhaadoor", sum := "4412fdd920ac817d76ee8a48eab8b922510eb25dec6f7d448a4d84b6afbcd723", func := "bolting/boltinglaw03.RefsBack", spec := "refsBack", named := ["bolting/refs.named"], apart := false, laid := [("bolting/refs.named", laid_bolting_refs_named)], narrowed := true }
def RefsBackUptoSaid : Prop := refsBackUptoRow.holds Tryd.pinned (OpenSpec.upto refsBackSpec)

/-- 'boltinglaw03.RefsParts', WHERE WHAT IT READS IS OF BULK AT MOST 1048576: true; the input reads as it did. -/
def refsPartsUptoRow : OpenClaim := { program := "ytbcfidepepbjhaadoor", sum := "4412fdd920ac817d76ee8a48eab8b922510eb25dec6f7d448a4d84b6afbcd723", func := "bolting/boltinglaw03.RefsParts", spec := "refsParts", named := ["bolting/refs.named"], apart := false, laid := [("bolting/refs.named", laid_bolting_refs_named)], narrowed := true }
def RefsPartsUptoSaid : Prop := refsPartsUptoRow.holds Tryd.pinned (OpenSpec.upto refsPartsSpec)

/-- 'boltinglaw03.RefsNumbers', WHERE WHAT IT READS IS OF BULK AT MOST 1048576: true; the input reads as it did. -/
def refsNumbersUptoRow : OpenClaim := { program := "ytbcfidepepbjhaadoor", sum := "4412fdd920ac817d76ee8a48eab8b922510eb25dec6f7d448a4d84b6afbcd723", func := "bolting/boltinglaw03.RefsNumbers", spec := "refsNumbers", named := ["bolting/refs.named"], apart := false, laid := [("bolting/refs.named", laid_bolting_refs_named)], narrowed := true }
def RefsNumbersUptoSaid : Prop := refsNumbersUptoRow.holds Tryd.pinned (OpenSpec.upto refsNumbersSpec)

/-- 'boltinglaw03.RefsOnce', WHERE WHAT IT READS IS OF BULK AT MOST 1048576: true; the input reads as it did. -/
def refsOnceUptoRow : OpenClaim := { program := "ytbcfidepepbjhaadoor", sum := "4412fdd920ac817d76ee8a48eab8b922510eb25dec6f7d448a4d84b6afbcd723", func := "bolting/boltinglaw03.RefsOnce", spec := "refsOnce", named := ["bolting/refs.named"], apart := false, laid := [("bolting/refs.named", laid_bolting_refs_named)], narrowed := true }
def RefsOnceUptoSaid : Prop := refsOnceUptoRow.holds Tryd.pinned (OpenSpec.upto refsOnceSpec)

/-- 'boltinglaw03.RefsSafe', WHERE WHAT IT READS IS OF BULK AT MOST 1048576: true; the input reads as it did. -/
def refsSafeUptoRow : OpenClaim := { program := "ytbcfidepepbjhaadoor", sum := "4412fdd920ac817d76ee8a48eab8b922510eb25dec6f7d448a4d84b6afbcd723", func := "bolting/boltinglaw03.RefsSafe", spec := "refsSafe", named := ["bolting/refs.named"], apart := false, laid := [("bolting/refs.named", laid_bolting_refs_named)], narrowed := true }
def RefsSafeUptoSaid : Prop := refsSafeUptoRow.holds Tryd.pinned (OpenSpec.upto refsSafeSpec)

end Rows
end Go.Proofs.YtbcfidepepbjhaaDoor
