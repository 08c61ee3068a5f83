/-
  NARROWER THAN 'FOR EVERY INPUT', by the rows' own cells (each row's printed sentence says how): TokenCuts: laid · TokenIns: laid · TokenWrites: laid · TokenShapes: laid · TokenBack: laid · TokenRaw: laid · TokenAgain: laid · TokenComments: laid · TokenEnds: laid.
  DERIVED. THE GIVEN ROWS OF THIS SEAT. 9 by the template 'for every input the law returns true; each argument reads behind the call as it read before'; 0 by the template 'total and deterministic' (their statements: YtjhhhlomkfnniaaDoorTotals.lean).
  GIVEN WITH THE SEED: the statements are not yours to turn. If you find one false, say at which input.
  Laid BY PROGRAM, IN A SANDBOX (cutbox-rows.mjs): the forced cells as the released guide's own fill.sh prints them over the translation 931bf9abaff8f8f6… (all of the seat's roots in one cut). By AI agents, Wed Nov 11 2026. No macro, syntax, notation, axiom, sorry.
-/
import Derived.Test.YtjhhhlomkfnniaaDoorChecked
import GoSem.Claim
import GoSem.ClaimJoined
import GoSem.ClaimMapViews
import Derived.JoinedTies
import Derived.KernelRfl
namespace Go.Proofs.YtjhhhlomkfnniaaDoor
/- THE CELL 'sum', in the pinned program and in every row, IS THE sha256 OF THE DUMP (.gsa) THAT YtjhhhlomkfnniaaDoorProg.lean LOADS. Nothing in Lean hashes anything: it is a label: what it is worth is what the hold of that sum in a sandbox is worth. -/
noncomputable def Tryd.pinned : Pinned := { name := "ytjhhhlomkfnniaadoor", sum := "931bf9abaff8f8f6e59762a266b2d75aaa32fb1586b8a9891dae04ed227c0707", checked := Tryd.checked }
namespace Rows
def none {H : Type} : Left H := { results := [], args := [] }

/- WHAT THE LISTED PACKAGE-LEVEL VARIABLES READ AS WHEN THE CALL BEGINS. Each datum BY PROGRAM (the guide's laid-datum.mjs) off the statement by which the dump's own 'gosem.cut.vars' lays the variable. In a bare row this is a premise. The card (YtjhhhlomkfnniaaDoorCards.lean) ties it to the program's text. -/
def laid_bolting_refs_named {H : Type} : DataW H := .agg [.agg [.lit (.string [97, 109, 112]), .lit (.int .i64 38)], .agg [.lit (.string [108, 116]), .lit (.int .i64 60)], .agg [.lit (.string [103, 116]), .lit (.int .i64 62)], .agg [.lit (.string [113, 117, 111, 116]), .lit (.int .i64 34)], .agg [.lit (.string [97, 112, 111, 115]), .lit (.int .i64 39)], .agg [.lit (.string [110, 98, 115, 112]), .lit (.int .i64 160)], .agg [.lit (.string [99, 111, 112, 121]), .lit (.int .i64 169)], .agg [.lit (.string [114, 101, 103]), .lit (.int .i64 174)], .agg [.lit (.string [112, 97, 114, 97]), .lit (.int .i64 182)], .agg [.lit (.string [109, 105, 100, 100, 111, 116]), .lit (.int .i64 183)], .agg [.lit (.string [101, 97, 99, 117, 116, 101]), .lit (.int .i64 233)], .agg [.lit (.string [97, 117, 109, 108]), .lit (.int .i64 228)], .agg [.lit (.string [111, 117, 109, 108]), .lit (.int .i64 246)], .agg [.lit (.string [117, 117, 109, 108]), .lit (.int .i64 252)], .agg [.lit (.string [115, 122, 108, 105, 103]), .lit (.int .i64 223)], .agg [.lit (.string [101, 117, 114, 111]), .lit (.int .i64 8364)], .agg [.lit (.string [104, 101, 108, 108, 105, 112]), .lit (.int .i64 8230)], .agg [.lit (.string [110, 100, 97, 115, 104]), .lit (.int .i64 8211)], .agg [.lit (.string [109, 100, 97, 115, 104]), .lit (.int .i64 8212)], .agg [.lit (.string [98, 117, 108, 108]), .lit (.int .i64 8226)], .agg [.lit (.string [84, 97, 98]), .lit (.int .i64 9)], .agg [.lit (.string [78, 101, 119, 76, 105, 110, 101]), .lit (.int .i64 10)], .agg [.lit (.string [99, 111, 108, 111, 110]), .lit (.int .i64 58)], .agg [.lit (.string [108, 112, 97, 114]), .lit (.int .i64 40)]]

/-- 'boltinglaw06.TokenCuts': WHATEVER THE INPUT: true; the input reads as it did. -/
def tokenCutsSpec : ChangeSpec := { name := "tokenCuts", fn := fun _ => fun
  | [d] => { results := [.lit (.bool true)], args := [d] }
  | _ => none }
def tokenCutsRow : OpenClaim := { program := "ytjhhhlomkfnniaadoor", sum := "931bf9abaff8f8f6e59762a266b2d75aaa32fb1586b8a9891dae04ed227c0707", func := "bolting/boltinglaw06.TokenCuts", spec := "tokenCuts", unfollowed := true, recurses := true, named := ["bolting/refs.named"], apart := false, laid := [("bolting/refs.named", laid_bolting_refs_named)] }
def TokenCutsSaid : Prop := tokenCutsRow.holds Tryd.pinned (OpenSpec.ofChange tokenCutsSpec)

/-- ITS FALSE NEIGHBOUR: 'it returns false'. Refute it at one input. -/
def tokenCutsWrong : ChangeSpec := { name := "tokenCuts", fn := fun _ => fun
  | [d] => { results := [.lit (.bool false)], args := [d] }
  | _ => none }
def TokenCutsWrongFalsely : Prop := tokenCutsRow.holds Tryd.pinned (OpenSpec.ofChange tokenCutsWrong)

/-- 'boltinglaw06.TokenIns': WHATEVER THE INPUT: true; the input reads as it did. -/
def tokenInsSpec : ChangeSpec := { name := "tokenIns", fn := fun _ => fun
  | [d1, d2] => { results := [.lit (.bool true)], args := [d1, d2] }
  | _ => none }
def tokenInsRow : OpenClaim := { program := "ytjhhhlomkfnniaadoor", sum := "931bf9abaff8f8f6e59762a266b2d75aaa32fb1586b8a9891dae04ed227c0707", func := "bolting/boltinglaw06.TokenIns", spec := "tokenIns", unfollowed := true, recurses := true, named := ["bolting/refs.named"], apart := false, laid := [("bolting/refs.named", laid_bolting_refs_named)] }
def TokenInsSaid : Prop := tokenInsRow.holds Tryd.pinned (OpenSpec.ofChange tokenInsSpec)

/-- ITS FALSE NEIGHBOUR: 'it returns false'. Refute it at one input. -/
def tokenInsWrong : ChangeSpec := { name := "tokenIns", fn := fun _ => fun
  | [d1, d2] => { results := [.lit (.bool false)], args := [d1, d2] }
  | _ => none }
def TokenInsWrongFalsely : Prop := tokenInsRow.holds Tryd.pinned (OpenSpec.ofChange tokenInsWrong)

/-- 'boltinglaw06.TokenWrites': WHATEVER THE INPUT: true; the input reads as it did. -/
def tokenWritesSpec : ChangeSpec := { name := "tokenWrites", fn := fun _ => fun
  | [d] => { results := [.lit (.bool true)], args := [d] }
  | _ => none }
def tokenWritesRow : OpenClaim := { program := "ytjhhhlomkfnniaadoor", sum := "931bf9abaff8f8f6e59762a266b2d75aaa32fb1586b8a9891dae04ed227c0707", func := "bolting/boltinglaw06.TokenWrites", spec := "tokenWrites", unfollowed := true, recurses := true, named := ["bolting/refs.named"], apart := false, laid := [("bolting/refs.named", laid_bolting_refs_named)] }
def TokenWritesSaid : Prop := tokenWritesRow.holds Tryd.pinned (OpenSpec.ofChange tokenWritesSpec)

/-- ITS FALSE NEIGHBOUR: 'it returns false'. Refute it at one input. -/
def tokenWritesWrong : ChangeSpec := { name := "tokenWrites", fn := fun _ => fun
  | [d] => { results := [.lit (.bool false)], args := [d] }
  | _ => none }
def TokenWritesWrongFalsely : Prop := tokenWritesRow.holds Tryd.pinned (OpenSpec.ofChange tokenWritesWrong)

/-- 'boltinglaw06.TokenShapes': WHATEVER THE INPUT: true; the input reads as it did. -/
def tokenShapesSpec : ChangeSpec := { name := "tokenShapes", fn := fun _ => fun
  | [d] => { results := [.lit (.bool true)], args := [d] }
  | _ => none }
def tokenShapesRow : OpenClaim := { program := "ytjhhhlomkfnniaadoor", sum := "931bf9abaff8f8f6e59762a266b2d75aaa32fb1586b8a9891dae04ed227c0707", func := "bolting/boltinglaw06.TokenShapes", spec := "tokenShapes", unfollowed := true, recurses := true, named := ["bolting/refs.named"], apart := false, laid := [("bolting/refs.named", laid_bolting_refs_named)] }
def TokenShapesSaid : Prop := tokenShapesRow.holds Tryd.pinned (OpenSpec.ofChange tokenShapesSpec)

/-- ITS FALSE NEIGHBOUR: 'it returns false'. Refute it at one input. -/
def tokenShapesWrong : ChangeSpec := { name := "tokenShapes", fn := fun _ => fun
  | [d] => { results := [.lit (.bool false)], args := [d] }
  | _ => none }
def TokenShapesWrongFalsely : Prop := tokenShapesRow.holds Tryd.pinned (OpenSpec.ofChange tokenShapesWrong)

/-- 'boltinglaw06.TokenBack': WHATEVER THE INPUT: true; the input reads as it did. -/
def tokenBackSpec : ChangeSpec := { name := "tokenBack", fn := fun _ => fun
  | [d1, d2] => { results := [.lit (.bool true)], args := [d1, d2] }
  | _ => none }
def tokenBackRow : OpenClaim := { program := "ytjhhhlomkfnniaadoor", sum := "931bf9abaff8f8f6e59762a266b2d75aaa32fb1586b8a9891dae04ed227c0707", func := "bolting/boltinglaw06.TokenBack", spec := "tokenBack", unfollowed := true, recurses := true, named := ["bolting/refs.named"], apart := false, laid := [("bolting/refs.named", laid_bolting_refs_named)] }
def TokenBackSaid : Prop := tokenBackRow.holds Tryd.pinned (OpenSpec.ofChange tokenBackSpec)

/-- ITS FALSE NEIGHBOUR: 'it returns false'. Refute it at one input. -/
def tokenBackWrong : ChangeSpec := { name := "tokenBack", fn := fun _ => fun
  | [d1, d2] => { results := [.lit (.bool false)], args := [d1, d2] }
  | _ => none }
def TokenBackWrongFalsely : Prop := tokenBackRow.holds Tryd.pinned (OpenSpec.ofChange tokenBackWrong)

/-- 'boltinglaw06.TokenRaw': WHATEVER THE INPUT: true; the input reads as it did. -/
def tokenRawSpec : ChangeSpec := { name := "tokenRaw", fn := fun _ => fun
  | [d1, d2] => { results := [.lit (.bool true)], args := [d1, d2] }
  | _ => none }
def tokenRawRow : OpenClaim := { program := "ytjhhhlomkfnniaadoor", sum := "931bf9abaff8f8f6e59762a266b2d75aaa32fb1586b8a9891dae04ed227c0707", func := "bolting/boltinglaw06.TokenRaw", spec := "tokenRaw", unfollowed := true, recurses := true, named := ["bolting/refs.named"], apart := false, laid := [("bolting/refs.named", laid_bolting_refs_named)] }
def TokenRawSaid : Prop := tokenRawRow.holds Tryd.pinned (OpenSpec.ofChange tokenRawSpec)

/-- ITS FALSE NEIGHBOUR: 'it returns false'. Refute it at one input. -/
def tokenRawWrong : ChangeSpec := { name := "tokenRaw", fn := fun _ => fun
  | [d1, d2] => { results := [.lit (.bool false)], args := [d1, d2] }
  | _ => none }
def TokenRawWrongFalsely : Prop := tokenRawRow.holds Tryd.pinned (OpenSpec.ofChange tokenRawWrong)

/-- 'boltinglaw06.TokenAgain': WHATEVER THE INPUT: true; the input reads as it did. -/
def tokenAgainSpec : ChangeSpec := { name := "tokenAgain", fn := fun _ => fun
  | [d] => { results := [.lit (.bool true)], args := [d] }
  | _ => none }
def tokenAgainRow : OpenClaim := { program := "ytjhhhlomkfnniaadoor", sum := "931bf9abaff8f8f6e59762a266b2d75aaa32fb1586b8a9891dae04ed227c0707", func := "bolting/boltinglaw06.TokenAgain", spec := "tokenAgain", unfollowed := true, recurses := true, named := ["bolting/refs.named"], apart := false, laid := [("bolting/refs.named", laid_bolting_refs_named)] }
def TokenAgainSaid : Prop := tokenAgainRow.holds Tryd.pinned (OpenSpec.ofChange tokenAgainSpec)

/-- ITS FALSE NEIGHBOUR: 'it returns false'. Refute it at one input. -/
def tokenAgainWrong : ChangeSpec := { name := "tokenAgain", fn := fun _ => fun
  | [d] => { results := [.lit (.bool false)], args := [d] }
  | _ => none }
def TokenAgainWrongFalsely : Prop := tokenAgainRow.holds Tryd.pinned (OpenSpec.ofChange tokenAgainWrong)

/-- 'boltinglaw06.TokenComments': WHATEVER THE INPUT: true; the input reads as it did. -/
def tokenCommentsSpec : ChangeSpec := { name := "tokenComments", fn := fun _ => fun
  | [d] => { results := [.lit (.bool true)], args := [d] }
  | _ => none }
def tokenCommentsRow : OpenClaim := { program := "ytjhhhlomkfnniaadoor", sum := "931bf9abaff8f8f6e59762a266b2d75aaa32fb1586b8a9891dae04ed227c0707", func := "bolting/boltinglaw06.TokenComments", spec := "tokenComments", unfollowed := true, recurses := true, named := ["bolting/refs.named"], apart := false, laid := [("bolting/refs.named", laid_bolting_refs_named)] }
def TokenCommentsSaid : Prop := tokenCommentsRow.holds Tryd.pinned (OpenSpec.ofChange tokenCommentsSpec)

/-- ITS FALSE NEIGHBOUR: 'it returns false'. Refute it at one input. -/
def tokenCommentsWrong : ChangeSpec := { name := "tokenComments", fn := fun _ => fun
  | [d] => { results := [.lit (.bool false)], args := [d] }
  | _ => none }
def TokenCommentsWrongFalsely : Prop := tokenCommentsRow.holds Tryd.pinned (OpenSpec.ofChange tokenCommentsWrong)

/-- 'boltinglaw06.TokenEnds': WHATEVER THE INPUT: true; the input reads as it did. -/
def tokenEndsSpec : ChangeSpec := { name := "tokenEnds", fn := fun _ => fun
  | [d1, d2] => { results := [.lit (.bool true)], args := [d1, d2] }
  | _ => none }
def tokenEndsRow : OpenClaim := { program := "ytjhhhlomkfnniaadoor", sum := "931bf9abaff8f8f6e59762a266b2d75aaa32fb1586b8a9891dae04ed227c0707", func := "bolting/boltinglaw06.TokenEnds", spec := "tokenEnds", unfollowed := true, recurses := true, named := ["bolting/refs.named"], apart := false, laid := [("bolting/refs.named", laid_bolting_refs_named)] }
def TokenEndsSaid : Prop := tokenEndsRow.holds Tryd.pinned (OpenSpec.ofChange tokenEndsSpec)

/-- ITS FALSE NEIGHBOUR: 'it returns false'. Refute it at one input. -/
def tokenEndsWrong : ChangeSpec := { name := "tokenEnds", fn := fun _ => fun
  | [d1, d2] => { results := [.lit (.bool false)], args := [d1, d2] }
  | _ => none }
def TokenEndsWrongFalsely : Prop := tokenEndsRow.holds Tryd.pinned (OpenSpec.ofChange tokenEndsWrong)

/- THE SECOND FORM. 'bulk': how many values and letters a reading holds, each counted each time it is reached (what is shared counts as often as it is met; a slice's spare places count too). A statement '..UptoSaid' is the law's where the arguments, and the package variables that the reading takes, are together of bulk at most 1048576: NARROWER than '..Said'. Prove '..Said' where nothing that the law and all that it calls make is longer than what came in: it says more and counts as full. Else prove '..UptoSaid'. A law counts once. -/
mutual
def uptoBulk {H : Type} : DataW H → Nat
  | .lit (.string bytes) => bytes.length + 1
  | .lit _ => 1
  | .nil => 1
  | .ptr d => uptoBulk d + 1
  | .slice elems spare => uptoBulkAll elems + uptoBulkAll spare + 1
  | .agg parts => uptoBulkAll parts + 1
  | .iface _ d => uptoBulk d + 1
  | .map entries => uptoBulkEntries entries + 1
  | .held _ => 1
def uptoBulkAll {H : Type} : List (DataW H) → Nat
  | [] => 0
  | d :: r => uptoBulk d + uptoBulkAll r
def uptoBulkEntries {H : Type} : List (Lit × DataW H) → Nat
  | [] => 0
  | x :: r => uptoBulkEntry x + uptoBulkEntries r
def uptoBulkEntry {H : Type} : Lit × DataW H → Nat
  | (.string bytes, d) => bytes.length + uptoBulk d + 1
  | (_, d) => uptoBulk d + 1
 end
def uptoSmall : (H : Type) → List (DataW H) → Bool := fun _ ds => decide (uptoBulkAll ds ≤ 1048576)
def OpenSpec.upto (s : _root_.Go.ChangeSpec) : _root_.Go.OpenSpec := { _root_.Go.OpenSpec.ofChange s with cond := some uptoSmall }

/-- 'boltinglaw06.TokenCuts', WHERE WHAT IT READS IS OF BULK AT MOST 1048576: true; the input reads as it did. -/
def tokenCutsUptoRow : OpenClaim := { program := "ytjhhhlomkfnniaadoor", sum := "931bf9abaff8f8f6e59762a266b2d75aaa32fb1586b8a9891dae04ed227c0707", func := "bolting/boltinglaw06.TokenCuts", spec := "tokenCuts", unfollowed := true, recurses := true, named := ["bolting/refs.named"], apart := false, laid := [("bolting/refs.named", laid_bolting_refs_named)], narrowed := true }
def TokenCutsUptoSaid : Prop := tokenCutsUptoRow.holds Tryd.pinned (OpenSpec.upto tokenCutsSpec)

/-- 'boltinglaw06.TokenIns', WHERE WHAT IT READS IS OF BULK AT MOST 1048576: true; the input reads as it did. -/
def tokenInsUptoRow : OpenClaim := { program := "ytjhhhlomkfnniaadoor", sum := "931bf9abaff8f8f6e59762a266b2d75aaa32fb1586b8a9891dae04ed227c0707", func := "bolting/boltinglaw06.TokenIns", spec := "tokenIns", unfollowed := true, recurses := true, named := ["bolting/refs.named"], apart := false, laid := [("bolting/refs.named", laid_bolting_refs_named)], narrowed := true }
def TokenInsUptoSaid : Prop := tokenInsUptoRow.holds Tryd.pinned (OpenSpec.upto tokenInsSpec)

/-- 'boltinglaw06.TokenWrites', WHERE WHAT IT READS IS OF BULK AT MOST 1048576: true; the input reads as it did. -/
def tokenWritesUptoRow : OpenClaim := { program := "ytjhhhlomkfnniaadoor", sum := "931bf9abaff8f8f6e59762a266b2d75aaa32fb1586b8a9891dae04ed227c0707", func := "bolting/boltinglaw06.TokenWrites", spec := "tokenWrites", unfollowed := true, recurses := true, named := ["bolting/refs.named"], apart := false, laid := [("bolting/refs.named", laid_bolting_refs_named)], narrowed := true }
def TokenWritesUptoSaid : Prop := tokenWritesUptoRow.holds Tryd.pinned (OpenSpec.upto tokenWritesSpec)

/-- 'boltinglaw06.TokenShapes', WHERE WHAT IT READS IS OF BULK AT MOST 1048576: true; the input reads as it did. -/
def tokenShapesUptoRow : OpenClaim := { program := "ytjhhhlomkfnniaadoor", sum := "931bf9abaff8f8f6e59762a266b2d75aaa32fb1586b8a9891dae04ed227c0707", func := "bolting/boltinglaw06.TokenShapes", spec := "tokenShapes", unfollowed := true, recurses := true, named := ["bolting/refs.named"], apart := false, laid := [("bolting/refs.named", laid_bolting_refs_named)], narrowed := true }
def TokenShapesUptoSaid : Prop := tokenShapesUptoRow.holds Tryd.pinned (OpenSpec.upto tokenShapesSpec)

/-- 'boltinglaw06.TokenBack', WHERE WHAT IT READS IS OF BULK AT MOST 1048576: true; the input reads as it did. -/
def tokenBackUptoRow : OpenClaim := { program := "ytjhhhlomkfnniaadoor", sum := "931bf9abaff8f8f6e59762a266b2d75aaa32fb1586b8a9891dae04ed227c0707", func := "bolting/boltinglaw06.TokenBack", spec := "tokenBack", unfollowed := true, recurses := true, named := ["bolting/refs.named"], apart := false, laid := [("bolting/refs.named", laid_bolting_refs_named)], narrowed := true }
def TokenBackUptoSaid : Prop := tokenBackUptoRow.holds Tryd.pinned (OpenSpec.upto tokenBackSpec)

/-- 'boltinglaw06.TokenRaw', WHERE WHAT IT READS IS OF BULK AT MOST 1048576: true; the input reads as it did. -/
def tokenRawUptoRow : OpenClaim := { program := "ytjhhhlomkfnniaadoor", sum := "931bf9abaff8f8f6e59762a266b2d75aaa32fb1586b8a9891dae04ed227c0707", func := "bolting/boltinglaw06.TokenRaw", spec := "tokenRaw", unfollowed := true, recurses := true, named := ["bolting/refs.named"], apart := false, laid := [("bolting/refs.named", laid_bolting_refs_named)], narrowed := true }
def TokenRawUptoSaid : Prop := tokenRawUptoRow.holds Tryd.pinned (OpenSpec.upto tokenRawSpec)

/-- 'boltinglaw06.TokenAgain', WHERE WHAT IT READS IS OF BULK AT MOST 1048576: true; the input reads as it did. -/
def tokenAgainUptoRow : OpenClaim := { program := "ytjhhhlomkfnniaadoor", sum := "931bf9abaff8f8f6e59762a266b2d75aaa32fb1586b8a9891dae04ed227c0707", func := "bolting/boltinglaw06.TokenAgain", spec := "tokenAgain", unfollowed := true, recurses := true, named := ["bolting/refs.named"], apart := false, laid := [("bolting/refs.named", laid_bolting_refs_named)], narrowed := true }
def TokenAgainUptoSaid : Prop := tokenAgainUptoRow.holds Tryd.pinned (OpenSpec.upto tokenAgainSpec)

/-- 'boltinglaw06.TokenComments', WHERE WHAT IT READS IS OF BULK AT MOST 1048576: true; the input reads as it did. -/
def tokenCommentsUptoRow : OpenClaim := { program := "ytjhhhlomkfnniaadoor", sum := "931bf9abaff8f8f6e59762a266b2d75aaa32fb1586b8a9891dae04ed227c0707", func := "bolting/boltinglaw06.TokenComments", spec := "tokenComments", unfollowed := true, recurses := true, named := ["bolting/refs.named"], apart := false, laid := [("bolting/refs.named", laid_bolting_refs_named)], narrowed := true }
def TokenCommentsUptoSaid : Prop := tokenCommentsUptoRow.holds Tryd.pinned (OpenSpec.upto tokenCommentsSpec)

/-- 'boltinglaw06.TokenEnds', WHERE WHAT IT READS IS OF BULK AT MOST 1048576: true; the input reads as it did. -/
def tokenEndsUptoRow : OpenClaim := { program := "ytjhhhlomkfnniaadoor", sum := "931bf9abaff8f8f6e59762a266b2d75aaa32fb1586b8a9891dae04ed227c0707", func := "bolting/boltinglaw06.TokenEnds", spec := "tokenEnds", unfollowed := true, recurses := true, named := ["bolting/refs.named"], apart := false, laid := [("bolting/refs.named", laid_bolting_refs_named)], narrowed := true }
def TokenEndsUptoSaid : Prop := tokenEndsUptoRow.holds Tryd.pinned (OpenSpec.upto tokenEndsSpec)

end Rows
end Go.Proofs.YtjhhhlomkfnniaaDoor
