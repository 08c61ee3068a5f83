/-
  DERIVED. GIVEN WITH THE SEED: THE CARDS: each row of YtdplbcchkjpcdaaGreatDoorRows.lean that lists a variable, with what it lists TIED to the program's text (the seventh form; the later family's looks); each row that meets fmt, with fmt's text TOLD by the authors' own Lean function (tested against real Go, not proved from fmt's source: count such statements apart). THE CARD IS WHAT COUNTS. Prove the row's statement (the work); the ties are given (YtdplbcchkjpcdaaGreatDoorTie.lean); close each card by the builder's one call (the guide's Derived/Test/ToyasCard.lean, 'card_holds'). Laid BY PROGRAM, IN A SANDBOX (cutbox-door.mjs). By AI agents, Wed Nov 11 2026. No macro, syntax, notation, axiom, sorry.
-/
import Derived.Test.YtdplbcchkjpcdaaGreatDoorRows
import GoSem.ClaimSeven
namespace Go.Proofs.YtdplbcchkjpcdaaGreatDoor
namespace Rows

/-- THE TIED CARD OF 'boltinglaw07.BuildParses'. -/
def buildParsesCard : Claim7 := { stood := { row := buildParsesRow, standIns := [], harness := (true, "892ba78651911ab414f15f9b02ef561a17ccd671fa4adf70aea7eac3c5eefa11"), looks := false }, kinds := [], alts := [], laidByText := true, laidKinds := [.data], laidTests := true, laidLooks := .later }
def BuildParsesCardSaid : Prop := Claim7.holds Tryz.pinned (.plain (OpenSpec.ofChange buildParsesSpec)) buildParsesCard

/-- THE SECOND FORM's CARD OF 'boltinglaw07.BuildParses'. -/
def buildParsesUptoCard : Claim7 := { stood := { row := buildParsesUptoRow, standIns := [], harness := (true, "892ba78651911ab414f15f9b02ef561a17ccd671fa4adf70aea7eac3c5eefa11"), looks := false }, kinds := [], alts := [], laidByText := true, laidKinds := [.data], laidTests := true, laidLooks := .later }
def BuildParsesUptoCardSaid : Prop := Claim7.holds Tryz.pinned (.plain (OpenSpec.upto buildParsesSpec)) buildParsesUptoCard
end Rows
end Go.Proofs.YtdplbcchkjpcdaaGreatDoor
