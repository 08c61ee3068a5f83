/-
  DERIVED. GIVEN WITH THE SEED: THE CARDS: each row of YtdplbcchkjpcdaaDoorRows.lean that lists a variable, with what it lists TIED to the program's text (the seventh form; the later family's looks); each row that meets fmt, with fmt's text TOLD by the authors' own Lean function (tested against real Go, not proved from fmt's source: count such statements apart). THE CARD IS WHAT COUNTS. Prove the row's statement (the work); the ties are given (YtdplbcchkjpcdaaDoorTie.lean); close each card by the builder's one call (the guide's Derived/Test/ToyasCard.lean, 'card_holds'). Laid BY PROGRAM, IN A SANDBOX (cutbox-door.mjs). By AI agents, Wed Nov 11 2026. No macro, syntax, notation, axiom, sorry.
-/
import Derived.Test.YtdplbcchkjpcdaaDoorRows
import GoSem.ClaimSeven
namespace Go.Proofs.YtdplbcchkjpcdaaDoor
namespace Rows

/-- THE TIED CARD OF 'boltinglaw07.BuildTrees'. -/
def buildTreesCard : Claim7 := { stood := { row := buildTreesRow, standIns := [], harness := (true, "d5325d921cd156e4c351c45c8423aeaac64e49903d880527edb63e553700334b"), looks := false }, kinds := [], alts := [], laidByText := true, laidKinds := [.data], laidTests := true, laidLooks := .later }
def BuildTreesCardSaid : Prop := Claim7.holds Tryd.pinned (.plain (OpenSpec.ofChange buildTreesSpec)) buildTreesCard

/-- THE SECOND FORM's CARD OF 'boltinglaw07.BuildTrees'. -/
def buildTreesUptoCard : Claim7 := { stood := { row := buildTreesUptoRow, standIns := [], harness := (true, "d5325d921cd156e4c351c45c8423aeaac64e49903d880527edb63e553700334b"), looks := false }, kinds := [], alts := [], laidByText := true, laidKinds := [.data], laidTests := true, laidLooks := .later }
def BuildTreesUptoCardSaid : Prop := Claim7.holds Tryd.pinned (.plain (OpenSpec.upto buildTreesSpec)) buildTreesUptoCard
end Rows
end Go.Proofs.YtdplbcchkjpcdaaDoor
