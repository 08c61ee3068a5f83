/-
  NARROWER THAN 'FOR EVERY INPUT', by the rows' own cells (each row's printed sentence says how): SettleTrees: laid · SettleText: laid · SettleSafe: laid · SettleParsed: laid · SettleKeeps: laid · SettleOnce: laid · SettleFirst: laid.
  DERIVED. THE GIVEN ROWS OF THIS SEAT. 7 by the template 'for every input the law returns true; each argument reads behind the call as it read before'; 0 by the template 'total and deterministic' (their statements: YtgjlfcamgkeibaaGreatDoorTotals.lean).
  GIVEN WITH THE SEED: the statements are not yours to turn. If you find one false, say at which input.
  Laid BY PROGRAM, IN A SANDBOX (cutbox-rows.mjs): the forced cells as the released guide's own fill.sh prints them over the translation 1ce13d3cb1eb985b… (all of the seat's roots in one cut). By AI agents, Wed Nov 11 2026. No macro, syntax, notation, axiom, sorry.
-/
import Derived.Test.YtgjlfcamgkeibaaGreatDoorChecked
import GoSem.Claim
import GoSem.ClaimJoined
import GoSem.ClaimMapViews
import Derived.JoinedTies
import Derived.KernelRfl
namespace Go.Proofs.YtgjlfcamgkeibaaGreatDoor
/- THE CELL 'sum', in the pinned program and in every row, IS THE sha256 OF THE DUMP (.gsa) THAT YtgjlfcamgkeibaaGreatDoorProg.lean LOADS. Nothing in Lean hashes anything: it is a label: what it is worth is what the hold of that sum in a sandbox is worth. -/
noncomputable def Tryz.pinned : Pinned := { name := "ytgjlfcamgkeibaagreatdoor", sum := "1ce13d3cb1eb985ba1f869fea947b60d0e329a58fb68557b827ce4c197c1bc56", checked := Tryz.checked }
namespace Rows
def none {H : Type} : Left H := { results := [], args := [] }

/- WHAT THE LISTED PACKAGE-LEVEL VARIABLES READ AS WHEN THE CALL BEGINS. Each datum BY PROGRAM (the guide's laid-datum.mjs) off the statement by which the dump's own 'gosem.cut.vars' lays the variable. In a bare row this is a premise. The card (YtgjlfcamgkeibaaGreatDoorCards.lean) ties it to the program's text. -/
def laid_bolting_refs_named {H : Type} : DataW H := .agg [.agg [.lit (.string [97, 109, 112]), .lit (.int .i64 38)], .agg [.lit (.string [108, 116]), .lit (.int .i64 60)], .agg [.lit (.string [103, 116]), .lit (.int .i64 62)], .agg [.lit (.string [113, 117, 111, 116]), .lit (.int .i64 34)], .agg [.lit (.string [97, 112, 111, 115]), .lit (.int .i64 39)], .agg [.lit (.string [110, 98, 115, 112]), .lit (.int .i64 160)], .agg [.lit (.string [99, 111, 112, 121]), .lit (.int .i64 169)], .agg [.lit (.string [114, 101, 103]), .lit (.int .i64 174)], .agg [.lit (.string [112, 97, 114, 97]), .lit (.int .i64 182)], .agg [.lit (.string [109, 105, 100, 100, 111, 116]), .lit (.int .i64 183)], .agg [.lit (.string [101, 97, 99, 117, 116, 101]), .lit (.int .i64 233)], .agg [.lit (.string [97, 117, 109, 108]), .lit (.int .i64 228)], .agg [.lit (.string [111, 117, 109, 108]), .lit (.int .i64 246)], .agg [.lit (.string [117, 117, 109, 108]), .lit (.int .i64 252)], .agg [.lit (.string [115, 122, 108, 105, 103]), .lit (.int .i64 223)], .agg [.lit (.string [101, 117, 114, 111]), .lit (.int .i64 8364)], .agg [.lit (.string [104, 101, 108, 108, 105, 112]), .lit (.int .i64 8230)], .agg [.lit (.string [110, 100, 97, 115, 104]), .lit (.int .i64 8211)], .agg [.lit (.string [109, 100, 97, 115, 104]), .lit (.int .i64 8212)], .agg [.lit (.string [98, 117, 108, 108]), .lit (.int .i64 8226)], .agg [.lit (.string [84, 97, 98]), .lit (.int .i64 9)], .agg [.lit (.string [78, 101, 119, 76, 105, 110, 101]), .lit (.int .i64 10)], .agg [.lit (.string [99, 111, 108, 111, 110]), .lit (.int .i64 58)], .agg [.lit (.string [108, 112, 97, 114]), .lit (.int .i64 40)]]

/-- 'boltinglaw14.SettleTrees': WHATEVER THE INPUT: true; the input reads as it did. -/
def settleTreesSpec : ChangeSpec := { name := "settleTrees", fn := fun _ => fun
  | [d1, d2, d3] => { results := [.lit (.bool true)], args := [d1, d2, d3] }
  | _ => none }
def settleTreesRow : OpenClaim := { program := "ytgjlfcamgkeibaagreatdoor", sum := "1ce13d3cb1eb985ba1f869fea947b60d0e329a58fb68557b827ce4c197c1bc56", func := "bolting/boltinglaw14.SettleTrees", spec := "settleTrees", unfollowed := true, recurses := true, named := ["bolting/refs.named"], plainKeys := false, apart := false, laid := [("bolting/refs.named", laid_bolting_refs_named)] }
def SettleTreesSaid : Prop := settleTreesRow.holds Tryz.pinned (OpenSpec.ofChange settleTreesSpec)

/-- ITS FALSE NEIGHBOUR: 'it returns false'. Refute it at one input. -/
def settleTreesWrong : ChangeSpec := { name := "settleTrees", fn := fun _ => fun
  | [d1, d2, d3] => { results := [.lit (.bool false)], args := [d1, d2, d3] }
  | _ => none }
def SettleTreesWrongFalsely : Prop := settleTreesRow.holds Tryz.pinned (OpenSpec.ofChange settleTreesWrong)

/-- 'boltinglaw14.SettleText': WHATEVER THE INPUT: true; the input reads as it did. -/
def settleTextSpec : ChangeSpec := { name := "settleText", fn := fun _ => fun
  | [d1, d2, d3] => { results := [.lit (.bool true)], args := [d1, d2, d3] }
  | _ => none }
def settleTextRow : OpenClaim := { program := "ytgjlfcamgkeibaagreatdoor", sum := "1ce13d3cb1eb985ba1f869fea947b60d0e329a58fb68557b827ce4c197c1bc56", func := "bolting/boltinglaw14.SettleText", spec := "settleText", unfollowed := true, recurses := true, named := ["bolting/refs.named"], plainKeys := false, apart := false, laid := [("bolting/refs.named", laid_bolting_refs_named)] }
def SettleTextSaid : Prop := settleTextRow.holds Tryz.pinned (OpenSpec.ofChange settleTextSpec)

/-- ITS FALSE NEIGHBOUR: 'it returns false'. Refute it at one input. -/
def settleTextWrong : ChangeSpec := { name := "settleText", fn := fun _ => fun
  | [d1, d2, d3] => { results := [.lit (.bool false)], args := [d1, d2, d3] }
  | _ => none }
def SettleTextWrongFalsely : Prop := settleTextRow.holds Tryz.pinned (OpenSpec.ofChange settleTextWrong)

/-- 'boltinglaw14.SettleSafe': WHATEVER THE INPUT: true; the input reads as it did. -/
def settleSafeSpec : ChangeSpec := { name := "settleSafe", fn := fun _ => fun
  | [d1, d2] => { results := [.lit (.bool true)], args := [d1, d2] }
  | _ => none }
def settleSafeRow : OpenClaim := { program := "ytgjlfcamgkeibaagreatdoor", sum := "1ce13d3cb1eb985ba1f869fea947b60d0e329a58fb68557b827ce4c197c1bc56", func := "bolting/boltinglaw14.SettleSafe", spec := "settleSafe", unfollowed := true, recurses := true, named := ["bolting/refs.named"], plainKeys := false, apart := false, laid := [("bolting/refs.named", laid_bolting_refs_named)] }
def SettleSafeSaid : Prop := settleSafeRow.holds Tryz.pinned (OpenSpec.ofChange settleSafeSpec)

/-- ITS FALSE NEIGHBOUR: 'it returns false'. Refute it at one input. -/
def settleSafeWrong : ChangeSpec := { name := "settleSafe", fn := fun _ => fun
  | [d1, d2] => { results := [.lit (.bool false)], args := [d1, d2] }
  | _ => none }
def SettleSafeWrongFalsely : Prop := settleSafeRow.holds Tryz.pinned (OpenSpec.ofChange settleSafeWrong)

/-- 'boltinglaw14.SettleParsed': WHATEVER THE INPUT: true; the input reads as it did. -/
def settleParsedSpec : ChangeSpec := { name := "settleParsed", fn := fun _ => fun
  | [d1, d2] => { results := [.lit (.bool true)], args := [d1, d2] }
  | _ => none }
def settleParsedRow : OpenClaim := { program := "ytgjlfcamgkeibaagreatdoor", sum := "1ce13d3cb1eb985ba1f869fea947b60d0e329a58fb68557b827ce4c197c1bc56", func := "bolting/boltinglaw14.SettleParsed", spec := "settleParsed", unfollowed := true, recurses := true, named := ["bolting/refs.named"], plainKeys := false, apart := false, laid := [("bolting/refs.named", laid_bolting_refs_named)] }
def SettleParsedSaid : Prop := settleParsedRow.holds Tryz.pinned (OpenSpec.ofChange settleParsedSpec)

/-- ITS FALSE NEIGHBOUR: 'it returns false'. Refute it at one input. -/
def settleParsedWrong : ChangeSpec := { name := "settleParsed", fn := fun _ => fun
  | [d1, d2] => { results := [.lit (.bool false)], args := [d1, d2] }
  | _ => none }
def SettleParsedWrongFalsely : Prop := settleParsedRow.holds Tryz.pinned (OpenSpec.ofChange settleParsedWrong)

/-- 'boltinglaw14.SettleKeeps': WHATEVER THE INPUT: true; the input reads as it did. -/
def settleKeepsSpec : ChangeSpec := { name := "settleKeeps", fn := fun _ => fun
  | [d1, d2] => { results := [.lit (.bool true)], args := [d1, d2] }
  | _ => none }
def settleKeepsRow : OpenClaim := { program := "ytgjlfcamgkeibaagreatdoor", sum := "1ce13d3cb1eb985ba1f869fea947b60d0e329a58fb68557b827ce4c197c1bc56", func := "bolting/boltinglaw14.SettleKeeps", spec := "settleKeeps", unfollowed := true, recurses := true, named := ["bolting/refs.named"], plainKeys := false, apart := false, laid := [("bolting/refs.named", laid_bolting_refs_named)] }
def SettleKeepsSaid : Prop := settleKeepsRow.holds Tryz.pinned (OpenSpec.ofChange settleKeepsSpec)

/-- ITS FALSE NEIGHBOUR: 'it returns false'. Refute it at one input. -/
def settleKeepsWrong : ChangeSpec := { name := "settleKeeps", fn := fun _ => fun
  | [d1, d2] => { results := [.lit (.bool false)], args := [d1, d2] }
  | _ => none }
def SettleKeepsWrongFalsely : Prop := settleKeepsRow.holds Tryz.pinned (OpenSpec.ofChange settleKeepsWrong)

/-- 'boltinglaw14.SettleOnce': WHATEVER THE INPUT: true; the input reads as it did. -/
def settleOnceSpec : ChangeSpec := { name := "settleOnce", fn := fun _ => fun
  | [d] => { results := [.lit (.bool true)], args := [d] }
  | _ => none }
def settleOnceRow : OpenClaim := { program := "ytgjlfcamgkeibaagreatdoor", sum := "1ce13d3cb1eb985ba1f869fea947b60d0e329a58fb68557b827ce4c197c1bc56", func := "bolting/boltinglaw14.SettleOnce", spec := "settleOnce", unfollowed := true, recurses := true, named := ["bolting/refs.named"], plainKeys := false, apart := false, laid := [("bolting/refs.named", laid_bolting_refs_named)] }
def SettleOnceSaid : Prop := settleOnceRow.holds Tryz.pinned (OpenSpec.ofChange settleOnceSpec)

/-- ITS FALSE NEIGHBOUR: 'it returns false'. Refute it at one input. -/
def settleOnceWrong : ChangeSpec := { name := "settleOnce", fn := fun _ => fun
  | [d] => { results := [.lit (.bool false)], args := [d] }
  | _ => none }
def SettleOnceWrongFalsely : Prop := settleOnceRow.holds Tryz.pinned (OpenSpec.ofChange settleOnceWrong)

/-- 'boltinglaw14.SettleFirst': WHATEVER THE INPUT: true; the input reads as it did. -/
def settleFirstSpec : ChangeSpec := { name := "settleFirst", fn := fun _ => fun
  | [d1, d2, d3] => { results := [.lit (.bool true)], args := [d1, d2, d3] }
  | _ => none }
def settleFirstRow : OpenClaim := { program := "ytgjlfcamgkeibaagreatdoor", sum := "1ce13d3cb1eb985ba1f869fea947b60d0e329a58fb68557b827ce4c197c1bc56", func := "bolting/boltinglaw14.SettleFirst", spec := "settleFirst", unfollowed := true, recurses := true, named := ["bolting/refs.named"], plainKeys := false, apart := false, laid := [("bolting/refs.named", laid_bolting_refs_named)] }
def SettleFirstSaid : Prop := settleFirstRow.holds Tryz.pinned (OpenSpec.ofChange settleFirstSpec)

/-- ITS FALSE NEIGHBOUR: 'it returns false'. Refute it at one input. -/
def settleFirstWrong : ChangeSpec := { name := "settleFirst", fn := fun _ => fun
  | [d1, d2, d3] => { results := [.lit (.bool false)], args := [d1, d2, d3] }
  | _ => none }
def SettleFirstWrongFalsely : Prop := settleFirstRow.holds Tryz.pinned (OpenSpec.ofChange settleFirstWrong)

/- THE SECOND FORM. 'bulk': how many values and letters a reading holds, each counted each time it is reached (what is shared counts as often as it is met; a slice's spare places count too). A statement '..UptoSaid' is the law's where the arguments, and the package variables that the reading takes, are together of bulk at most 1048576: NARROWER than '..Said'. Prove '..Said' where nothing that the law and all that it calls make is longer than what came in: it says more and counts as full. Else prove '..UptoSaid'. A law counts once. -/
mutual
def uptoBulk {H : Type} : DataW H → Nat
  | .lit (.string bytes) => bytes.length + 1
  | .lit _ => 1
  | .nil => 1
  | .ptr d => uptoBulk d + 1
  | .slice elems spare => uptoBulkAll elems + uptoBulkAll spare + 1
  | .agg parts => uptoBulkAll parts + 1
  | .iface _ d => uptoBulk d + 1
  | .map entries => uptoBulkEntries entries + 1
  | .held _ => 1
def uptoBulkAll {H : Type} : List (DataW H) → Nat
  | [] => 0
  | d :: r => uptoBulk d + uptoBulkAll r
def uptoBulkEntries {H : Type} : List (Lit × DataW H) → Nat
  | [] => 0
  | x :: r => uptoBulkEntry x + uptoBulkEntries r
def uptoBulkEntry {H : Type} : Lit × DataW H → Nat
  | (.string bytes, d) => bytes.length + uptoBulk d + 1
  | (_, d) => uptoBulk d + 1
 end
def uptoSmall : (H : Type) → List (DataW H) → Bool := fun _ ds => decide (uptoBulkAll ds ≤ 1048576)
def OpenSpec.upto (s : _root_.Go.ChangeSpec) : _root_.Go.OpenSpec := { _root_.Go.OpenSpec.ofChange s with cond := some uptoSmall }

/-- 'boltinglaw14.SettleTrees', WHERE WHAT IT READS IS OF BULK AT MOST 1048576: true; the input reads as it did. -/
def settleTreesUptoRow : OpenClaim := { program := "ytgjlfcamgkeibaagreatdoor", sum := "1ce13d3cb1eb985ba1f869fea947b60d0e329a58fb68557b827ce4c197c1bc56", func := "bolting/boltinglaw14.SettleTrees", spec := "settleTrees", unfollowed := true, recurses := true, named := ["bolting/refs.named"], plainKeys := false, apart := false, laid := [("bolting/refs.named", laid_bolting_refs_named)], narrowed := true }
def SettleTreesUptoSaid : Prop := settleTreesUptoRow.holds Tryz.pinned (OpenSpec.upto settleTreesSpec)

/-- 'boltinglaw14.SettleText', WHERE WHAT IT READS IS OF BULK AT MOST 1048576: true; the input reads as it did. -/
def settleTextUptoRow : OpenClaim := { program := "ytgjlfcamgkeibaagreatdoor", sum := "1ce13d3cb1eb985ba1f869fea947b60d0e329a58fb68557b827ce4c197c1bc56", func := "bolting/boltinglaw14.SettleText", spec := "settleText", unfollowed := true, recurses := true, named := ["bolting/refs.named"], plainKeys := false, apart := false, laid := [("bolting/refs.named", laid_bolting_refs_named)], narrowed := true }
def SettleTextUptoSaid : Prop := settleTextUptoRow.holds Tryz.pinned (OpenSpec.upto settleTextSpec)

/-- 'boltinglaw14.SettleSafe', WHERE WHAT IT READS IS OF BULK AT MOST 1048576: true; the input reads as it did. -/
def settleSafeUptoRow : OpenClaim := { program := "ytgjlfcamgkeibaagreatdoor", sum := "1ce13d3cb1eb985ba1f869fea947b60d0e329a58fb68557b827ce4c197c1bc56", func := "bolting/boltinglaw14.SettleSafe", spec := "settleSafe", unfollowed := true, recurses := true, named := ["bolting/refs.named"], plainKeys := false, apart := false, laid := [("bolting/refs.named", laid_bolting_refs_named)], narrowed := true }
def SettleSafeUptoSaid : Prop := settleSafeUptoRow.holds Tryz.pinned (OpenSpec.upto settleSafeSpec)

/-- 'boltinglaw14.SettleParsed', WHERE WHAT IT READS IS OF BULK AT MOST 1048576: true; the input reads as it did. -/
def settleParsedUptoRow : OpenClaim := { program := "ytgjlfcamgkeibaagreatdoor", sum := "1ce13d3cb1eb985ba1f869fea947b60d0e329a58fb68557b827ce4c197c1bc56", func := "bolting/boltinglaw14.SettleParsed", spec := "settleParsed", unfollowed := true, recurses := true, named := ["bolting/refs.named"], plainKeys := false, apart := false, laid := [("bolting/refs.named", laid_bolting_refs_named)], narrowed := true }
def SettleParsedUptoSaid : Prop := settleParsedUptoRow.holds Tryz.pinned (OpenSpec.upto settleParsedSpec)

/-- 'boltinglaw14.SettleKeeps', WHERE WHAT IT READS IS OF BULK AT MOST 1048576: true; the input reads as it did. -/
def settleKeepsUptoRow : OpenClaim := { program := "ytgjlfcamgkeibaagreatdoor", sum := "1ce13d3cb1eb985ba1f869fea947b60d0e329a58fb68557b827ce4c197c1bc56", func := "bolting/boltinglaw14.SettleKeeps", spec := "settleKeeps", unfollowed := true, recurses := true, named := ["bolting/refs.named"], plainKeys := false, apart := false, laid := [("bolting/refs.named", laid_bolting_refs_named)], narrowed := true }
def SettleKeepsUptoSaid : Prop := settleKeepsUptoRow.holds Tryz.pinned (OpenSpec.upto settleKeepsSpec)

/-- 'boltinglaw14.SettleOnce', WHERE WHAT IT READS IS OF BULK AT MOST 1048576: true; the input reads as it did. -/
def settleOnceUptoRow : OpenClaim := { program := "ytgjlfcamgkeibaagreatdoor", sum := "1ce13d3cb1eb985ba1f869fea947b60d0e329a58fb68557b827ce4c197c1bc56", func := "bolting/boltinglaw14.SettleOnce", spec := "settleOnce", unfollowed := true, recurses := true, named := ["bolting/refs.named"], plainKeys := false, apart := false, laid := [("bolting/refs.named", laid_bolting_refs_named)], narrowed := true }
def SettleOnceUptoSaid : Prop := settleOnceUptoRow.holds Tryz.pinned (OpenSpec.upto settleOnceSpec)

/-- 'boltinglaw14.SettleFirst', WHERE WHAT IT READS IS OF BULK AT MOST 1048576: true; the input reads as it did. -/
def settleFirstUptoRow : OpenClaim := { program := "ytgjlfcamgkeibaagreatdoor", sum := "1ce13d3cb1eb985ba1f869fea947b60d0e329a58fb68557b827ce4c197c1bc56", func := "bolting/boltinglaw14.SettleFirst", spec := "settleFirst", unfollowed := true, recurses := true, named := ["bolting/refs.named"], plainKeys := false, apart := false, laid := [("bolting/refs.named", laid_bolting_refs_named)], narrowed := true }
def SettleFirstUptoSaid : Prop := settleFirstUptoRow.holds Tryz.pinned (OpenSpec.upto settleFirstSpec)

end Rows
end Go.Proofs.YtgjlfcamgkeibaaGreatDoor
