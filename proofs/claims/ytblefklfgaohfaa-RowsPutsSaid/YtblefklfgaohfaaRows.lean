/-
  No cell of these rows narrows 'for every input' (looked for: loops, veiled, ifaces, maps, wideKeys, modest, calm, conditions, laid).
  DERIVED. THE GIVEN ROWS OF THIS SEAT. 8 by the template 'for every input the law returns true; each argument reads behind the call as it read before'; 0 by the template 'total and deterministic' (their statements: YtblefklfgaohfaaTotals.lean).
  GIVEN WITH THE SEED: the statements are not yours to turn. If you find one false, say at which input.
  Laid BY PROGRAM, IN A SANDBOX (cutbox-rows.mjs): the forced cells as the released guide's own fill.sh prints them over the translation e11d165a1c0c5c6c… (all of the seat's roots in one cut). By AI agents, Wed Nov 11 2026. No macro, syntax, notation, axiom, sorry.
-/
import Derived.Test.YtblefklfgaohfaaChecked
import GoSem.Claim
import GoSem.ClaimJoined
import GoSem.ClaimMapViews
import Derived.JoinedTies
import Derived.KernelRfl
namespace Go.Proofs.Ytblefklfgaohfaa
/- THE CELL 'sum', in the pinned program and in every row, IS THE sha256 OF THE DUMP (.gsa) THAT YtblefklfgaohfaaProg.lean LOADS. Nothing in Lean hashes anything: it is a label: what it is worth is what the hold of that sum in a sandbox is worth. -/
noncomputable def Try.pinned : Pinned := { name := "ytblefklfgaohfaa", sum := "e11d165a1c0c5c6c92d9503422330b5ec4d649bf2c6584717e90b44357a9a5aa", checked := Try.checked }
namespace Rows
def none {H : Type} : Left H := { results := [], args := [] }

/-- 'boltinglaw04.RowsChecks': WHATEVER THE INPUT: true; the input reads as it did. -/
def rowsChecksSpec : ChangeSpec := { name := "rowsChecks", fn := fun _ => fun
  | [d1, d2] => { results := [.lit (.bool true)], args := [d1, d2] }
  | _ => none }
def rowsChecksRow : OpenClaim := { program := "ytblefklfgaohfaa", sum := "e11d165a1c0c5c6c92d9503422330b5ec4d649bf2c6584717e90b44357a9a5aa", func := "bolting/boltinglaw04.RowsChecks", spec := "rowsChecks", unfollowed := true, recurses := true, apart := false }
def RowsChecksSaid : Prop := rowsChecksRow.holds Try.pinned (OpenSpec.ofChange rowsChecksSpec)

/-- ITS FALSE NEIGHBOUR: 'it returns false'. Refute it at one input. -/
def rowsChecksWrong : ChangeSpec := { name := "rowsChecks", fn := fun _ => fun
  | [d1, d2] => { results := [.lit (.bool false)], args := [d1, d2] }
  | _ => none }
def RowsChecksWrongFalsely : Prop := rowsChecksRow.holds Try.pinned (OpenSpec.ofChange rowsChecksWrong)

/-- 'boltinglaw04.RowsPlaces': WHATEVER THE INPUT: true; the input reads as it did. -/
def rowsPlacesSpec : ChangeSpec := { name := "rowsPlaces", fn := fun _ => fun
  | [d1, d2] => { results := [.lit (.bool true)], args := [d1, d2] }
  | _ => none }
def rowsPlacesRow : OpenClaim := { program := "ytblefklfgaohfaa", sum := "e11d165a1c0c5c6c92d9503422330b5ec4d649bf2c6584717e90b44357a9a5aa", func := "bolting/boltinglaw04.RowsPlaces", spec := "rowsPlaces", unfollowed := true, recurses := true, apart := false }
def RowsPlacesSaid : Prop := rowsPlacesRow.holds Try.pinned (OpenSpec.ofChange rowsPlacesSpec)

/-- ITS FALSE NEIGHBOUR: 'it returns false'. Refute it at one input. -/
def rowsPlacesWrong : ChangeSpec := { name := "rowsPlaces", fn := fun _ => fun
  | [d1, d2] => { results := [.lit (.bool false)], args := [d1, d2] }
  | _ => none }
def RowsPlacesWrongFalsely : Prop := rowsPlacesRow.holds Try.pinned (OpenSpec.ofChange rowsPlacesWrong)

/-- 'boltinglaw04.RowsPuts': WHATEVER THE INPUT: true; the input reads as it did. -/
def rowsPutsSpec : ChangeSpec := { name := "rowsPuts", fn := fun _ => fun
  | [d] => { results := [.lit (.bool true)], args := [d] }
  | _ => none }
def rowsPutsRow : OpenClaim := { program := "ytblefklfgaohfaa", sum := "e11d165a1c0c5c6c92d9503422330b5ec4d649bf2c6584717e90b44357a9a5aa", func := "bolting/boltinglaw04.RowsPuts", spec := "rowsPuts", unfollowed := true, recurses := true, apart := false }
def RowsPutsSaid : Prop := rowsPutsRow.holds Try.pinned (OpenSpec.ofChange rowsPutsSpec)

/-- ITS FALSE NEIGHBOUR: 'it returns false'. Refute it at one input. -/
def rowsPutsWrong : ChangeSpec := { name := "rowsPuts", fn := fun _ => fun
  | [d] => { results := [.lit (.bool false)], args := [d] }
  | _ => none }
def RowsPutsWrongFalsely : Prop := rowsPutsRow.holds Try.pinned (OpenSpec.ofChange rowsPutsWrong)

/-- 'boltinglaw04.RowsNormal': WHATEVER THE INPUT: true; the input reads as it did. -/
def rowsNormalSpec : ChangeSpec := { name := "rowsNormal", fn := fun _ => fun
  | [d] => { results := [.lit (.bool true)], args := [d] }
  | _ => none }
def rowsNormalRow : OpenClaim := { program := "ytblefklfgaohfaa", sum := "e11d165a1c0c5c6c92d9503422330b5ec4d649bf2c6584717e90b44357a9a5aa", func := "bolting/boltinglaw04.RowsNormal", spec := "rowsNormal", unfollowed := true, recurses := true, apart := false }
def RowsNormalSaid : Prop := rowsNormalRow.holds Try.pinned (OpenSpec.ofChange rowsNormalSpec)

/-- ITS FALSE NEIGHBOUR: 'it returns false'. Refute it at one input. -/
def rowsNormalWrong : ChangeSpec := { name := "rowsNormal", fn := fun _ => fun
  | [d] => { results := [.lit (.bool false)], args := [d] }
  | _ => none }
def RowsNormalWrongFalsely : Prop := rowsNormalRow.holds Try.pinned (OpenSpec.ofChange rowsNormalWrong)

/-- 'boltinglaw04.RowsBack': WHATEVER THE INPUT: true; the input reads as it did. -/
def rowsBackSpec : ChangeSpec := { name := "rowsBack", fn := fun _ => fun
  | [d] => { results := [.lit (.bool true)], args := [d] }
  | _ => none }
def rowsBackRow : OpenClaim := { program := "ytblefklfgaohfaa", sum := "e11d165a1c0c5c6c92d9503422330b5ec4d649bf2c6584717e90b44357a9a5aa", func := "bolting/boltinglaw04.RowsBack", spec := "rowsBack", unfollowed := true, recurses := true, apart := false }
def RowsBackSaid : Prop := rowsBackRow.holds Try.pinned (OpenSpec.ofChange rowsBackSpec)

/-- ITS FALSE NEIGHBOUR: 'it returns false'. Refute it at one input. -/
def rowsBackWrong : ChangeSpec := { name := "rowsBack", fn := fun _ => fun
  | [d] => { results := [.lit (.bool false)], args := [d] }
  | _ => none }
def RowsBackWrongFalsely : Prop := rowsBackRow.holds Try.pinned (OpenSpec.ofChange rowsBackWrong)

/-- 'boltinglaw04.RowsKin': WHATEVER THE INPUT: true; the input reads as it did. -/
def rowsKinSpec : ChangeSpec := { name := "rowsKin", fn := fun _ => fun
  | [d] => { results := [.lit (.bool true)], args := [d] }
  | _ => none }
def rowsKinRow : OpenClaim := { program := "ytblefklfgaohfaa", sum := "e11d165a1c0c5c6c92d9503422330b5ec4d649bf2c6584717e90b44357a9a5aa", func := "bolting/boltinglaw04.RowsKin", spec := "rowsKin", unfollowed := true, recurses := true, apart := false }
def RowsKinSaid : Prop := rowsKinRow.holds Try.pinned (OpenSpec.ofChange rowsKinSpec)

/-- ITS FALSE NEIGHBOUR: 'it returns false'. Refute it at one input. -/
def rowsKinWrong : ChangeSpec := { name := "rowsKin", fn := fun _ => fun
  | [d] => { results := [.lit (.bool false)], args := [d] }
  | _ => none }
def RowsKinWrongFalsely : Prop := rowsKinRow.holds Try.pinned (OpenSpec.ofChange rowsKinWrong)

/-- 'boltinglaw04.RowsTexts': WHATEVER THE INPUT: true; the input reads as it did. -/
def rowsTextsSpec : ChangeSpec := { name := "rowsTexts", fn := fun _ => fun
  | [d] => { results := [.lit (.bool true)], args := [d] }
  | _ => none }
def rowsTextsRow : OpenClaim := { program := "ytblefklfgaohfaa", sum := "e11d165a1c0c5c6c92d9503422330b5ec4d649bf2c6584717e90b44357a9a5aa", func := "bolting/boltinglaw04.RowsTexts", spec := "rowsTexts", unfollowed := true, recurses := true, apart := false }
def RowsTextsSaid : Prop := rowsTextsRow.holds Try.pinned (OpenSpec.ofChange rowsTextsSpec)

/-- ITS FALSE NEIGHBOUR: 'it returns false'. Refute it at one input. -/
def rowsTextsWrong : ChangeSpec := { name := "rowsTexts", fn := fun _ => fun
  | [d] => { results := [.lit (.bool false)], args := [d] }
  | _ => none }
def RowsTextsWrongFalsely : Prop := rowsTextsRow.holds Try.pinned (OpenSpec.ofChange rowsTextsWrong)

/-- 'boltinglaw04.RowsTakes': WHATEVER THE INPUT: true; the input reads as it did. -/
def rowsTakesSpec : ChangeSpec := { name := "rowsTakes", fn := fun _ => fun
  | [d1, d2] => { results := [.lit (.bool true)], args := [d1, d2] }
  | _ => none }
def rowsTakesRow : OpenClaim := { program := "ytblefklfgaohfaa", sum := "e11d165a1c0c5c6c92d9503422330b5ec4d649bf2c6584717e90b44357a9a5aa", func := "bolting/boltinglaw04.RowsTakes", spec := "rowsTakes", unfollowed := true, recurses := true, apart := false }
def RowsTakesSaid : Prop := rowsTakesRow.holds Try.pinned (OpenSpec.ofChange rowsTakesSpec)

/-- ITS FALSE NEIGHBOUR: 'it returns false'. Refute it at one input. -/
def rowsTakesWrong : ChangeSpec := { name := "rowsTakes", fn := fun _ => fun
  | [d1, d2] => { results := [.lit (.bool false)], args := [d1, d2] }
  | _ => none }
def RowsTakesWrongFalsely : Prop := rowsTakesRow.holds Try.pinned (OpenSpec.ofChange rowsTakesWrong)

/- THE SECOND FORM. 'bulk': how many values and letters a reading holds, each counted each time it is reached (what is shared counts as often as it is met; a slice's spare places count too). A statement '..UptoSaid' is the law's where the arguments, and the package variables that the reading takes, are together of bulk at most 1048576: NARROWER than '..Said'. Prove '..Said' where nothing that the law and all that it calls make is longer than what came in: it says more and counts as full. Else prove '..UptoSaid'. A law counts once. -/
mutual
def uptoBulk {H : Type} : DataW H → Nat
  | .lit (.string bytes) => bytes.length + 1
  | .lit _ => 1
  | .nil => 1
  | .ptr d => uptoBulk d + 1
  | .slice elems spare => uptoBulkAll elems + uptoBulkAll spare + 1
  | .agg parts => uptoBulkAll parts + 1
  | .iface _ d => uptoBulk d + 1
  | .map entries => uptoBulkEntries entries + 1
  | .held _ => 1
def uptoBulkAll {H : Type} : List (DataW H) → Nat
  | [] => 0
  | d :: r => uptoBulk d + uptoBulkAll r
def uptoBulkEntries {H : Type} : List (Lit × DataW H) → Nat
  | [] => 0
  | x :: r => uptoBulkEntry x + uptoBulkEntries r
def uptoBulkEntry {H : Type} : Lit × DataW H → Nat
  | (.string bytes, d) => bytes.length + uptoBulk d + 1
  | (_, d) => uptoBulk d + 1
 end
def uptoSmall : (H : Type) → List (DataW H) → Bool := fun _ ds => decide (uptoBulkAll ds ≤ 1048576)
def OpenSpec.upto (s : _root_.Go.ChangeSpec) : _root_.Go.OpenSpec := { _root_.Go.OpenSpec.ofChange s with cond := some uptoSmall }

/-- 'boltinglaw04.RowsChecks', WHERE WHAT IT READS IS OF BULK AT MOST 1048576: true; the input reads as it did. -/
def rowsChecksUptoRow : OpenClaim := { program := "ytblefklfgaohfaa", sum := "e11d165a1c0c5c6c92d9503422330b5ec4d649bf2c6584717e90b44357a9a5aa", func := "bolting/boltinglaw04.RowsChecks", spec := "rowsChecks", unfollowed := true, recurses := true, apart := false, narrowed := true }
def RowsChecksUptoSaid : Prop := rowsChecksUptoRow.holds Try.pinned (OpenSpec.upto rowsChecksSpec)

/-- 'boltinglaw04.RowsPlaces', WHERE WHAT IT READS IS OF BULK AT MOST 1048576: true; the input reads as it did. -/
def rowsPlacesUptoRow : OpenClaim := { program := "ytblefklfgaohfaa", sum := "e11d165a1c0c5c6c92d9503422330b5ec4d649bf2c6584717e90b44357a9a5aa", func := "bolting/boltinglaw04.RowsPlaces", spec := "rowsPlaces", unfollowed := true, recurses := true, apart := false, narrowed := true }
def RowsPlacesUptoSaid : Prop := rowsPlacesUptoRow.holds Try.pinned (OpenSpec.upto rowsPlacesSpec)

/-- 'boltinglaw04.RowsPuts', WHERE WHAT IT READS IS OF BULK AT MOST 1048576: true; the input reads as it did. -/
def rowsPutsUptoRow : OpenClaim := { program := "ytblefklfgaohfaa", sum := "e11d165a1c0c5c6c92d9503422330b5ec4d649bf2c6584717e90b44357a9a5aa", func := "bolting/boltinglaw04.RowsPuts", spec := "rowsPuts", unfollowed := true, recurses := true, apart := false, narrowed := true }
def RowsPutsUptoSaid : Prop := rowsPutsUptoRow.holds Try.pinned (OpenSpec.upto rowsPutsSpec)

/-- 'boltinglaw04.RowsNormal', WHERE WHAT IT READS IS OF BULK AT MOST 1048576: true; the input reads as it did. -/
def rowsNormalUptoRow : OpenClaim := { program := "ytblefklfgaohfaa", sum := "e11d165a1c0c5c6c92d9503422330b5ec4d649bf2c6584717e90b44357a9a5aa", func := "bolting/boltinglaw04.RowsNormal", spec := "rowsNormal", unfollowed := true, recurses := true, apart := false, narrowed := true }
def RowsNormalUptoSaid : Prop := rowsNormalUptoRow.holds Try.pinned (OpenSpec.upto rowsNormalSpec)

/-- 'boltinglaw04.RowsBack', WHERE WHAT IT READS IS OF BULK AT MOST 1048576: true; the input reads as it did. -/
def rowsBackUptoRow : OpenClaim := { program := "ytblefklfgaohfaa", sum := "e11d165a1c0c5c6c92d9503422330b5ec4d649bf2c6584717e90b44357a9a5aa", func := "bolting/boltinglaw04.RowsBack", spec := "rowsBack", unfollowed := true, recurses := true, apart := false, narrowed := true }
def RowsBackUptoSaid : Prop := rowsBackUptoRow.holds Try.pinned (OpenSpec.upto rowsBackSpec)

/-- 'boltinglaw04.RowsKin', WHERE WHAT IT READS IS OF BULK AT MOST 1048576: true; the input reads as it did. -/
def rowsKinUptoRow : OpenClaim := { program := "ytblefklfgaohfaa", sum := "e11d165a1c0c5c6c92d9503422330b5ec4d649bf2c6584717e90b44357a9a5aa", func := "bolting/boltinglaw04.RowsKin", spec := "rowsKin", unfollowed := true, recurses := true, apart := false, narrowed := true }
def RowsKinUptoSaid : Prop := rowsKinUptoRow.holds Try.pinned (OpenSpec.upto rowsKinSpec)

/-- 'boltinglaw04.RowsTexts', WHERE WHAT IT READS IS OF BULK AT MOST 1048576: true; the input reads as it did. -/
def rowsTextsUptoRow : OpenClaim := { program := "ytblefklfgaohfaa", sum := "e11d165a1c0c5c6c92d9503422330b5ec4d649bf2c6584717e90b44357a9a5aa", func := "bolting/boltinglaw04.RowsTexts", spec := "rowsTexts", unfollowed := true, recurses := true, apart := false, narrowed := true }
def RowsTextsUptoSaid : Prop := rowsTextsUptoRow.holds Try.pinned (OpenSpec.upto rowsTextsSpec)

/-- 'boltinglaw04.RowsTakes', WHERE WHAT IT READS IS OF BULK AT MOST 1048576: true; the input reads as it did. -/
def rowsTakesUptoRow : OpenClaim := { program := "ytblefklfgaohfaa", sum := "e11d165a1c0c5c6c92d9503422330b5ec4d649bf2c6584717e90b44357a9a5aa", func := "bolting/boltinglaw04.RowsTakes", spec := "rowsTakes", unfollowed := true, recurses := true, apart := false, narrowed := true }
def RowsTakesUptoSaid : Prop := rowsTakesUptoRow.holds Try.pinned (OpenSpec.upto rowsTakesSpec)

end Rows
end Go.Proofs.Ytblefklfgaohfaa
