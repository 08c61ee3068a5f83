/-
  DERIVED. GIVEN WITH THE SEED: THE CARDS: each row of YtoijeljjehjfjaaDoorRows.lean that lists a variable, with what it lists TIED to the program's text (the seventh form; the later family's looks); each row that meets fmt, with fmt's text TOLD by the authors' own Lean function (tested against real Go, not proved from fmt's source: count such statements apart). THE CARD IS WHAT COUNTS. Prove the row's statement (the work); the ties are given (YtoijeljjehjfjaaDoorTie.lean); close each card by the builder's one call (the guide's Derived/Test/ToyasCard.lean, 'card_holds'). Laid BY PROGRAM, IN A SANDBOX (cutbox-door.mjs). By AI agents, Wed Nov 11 2026. No macro, syntax, notation, axiom, sorry.
-/
import Derived.Test.YtoijeljjehjfjaaDoorRows
import GoSem.ClaimSeven
namespace Go.Proofs.YtoijeljjehjfjaaDoor
namespace Rows

/-- THE TIED CARD OF 'boltinglaw07.BuildTrees'. -/
def buildTreesCard : Claim7 := { stood := { row := buildTreesRow, standIns := [], harness := (true, "4582b5ded8fb7265a10ed28b07a875788e3e7f977475c698b6878d74ac375a9f"), looks := false }, kinds := [], alts := [], laidByText := true, laidKinds := [.data], laidTests := true, laidLooks := .later }
def BuildTreesCardSaid : Prop := Claim7.holds Tryd.pinned (.plain (OpenSpec.ofChange buildTreesSpec)) buildTreesCard

/-- THE TIED CARD OF 'boltinglaw07.BuildNested'. -/
def buildNestedCard : Claim7 := { stood := { row := buildNestedRow, standIns := [], harness := (true, "4582b5ded8fb7265a10ed28b07a875788e3e7f977475c698b6878d74ac375a9f"), looks := false }, kinds := [], alts := [], laidByText := true, laidKinds := [.data], laidTests := true, laidLooks := .later }
def BuildNestedCardSaid : Prop := Claim7.holds Tryd.pinned (.plain (OpenSpec.ofChange buildNestedSpec)) buildNestedCard

/-- THE TIED CARD OF 'boltinglaw07.BuildRight'. -/
def buildRightCard : Claim7 := { stood := { row := buildRightRow, standIns := [], harness := (true, "4582b5ded8fb7265a10ed28b07a875788e3e7f977475c698b6878d74ac375a9f"), looks := false }, kinds := [], alts := [], laidByText := true, laidKinds := [.data], laidTests := true, laidLooks := .later }
def BuildRightCardSaid : Prop := Claim7.holds Tryd.pinned (.plain (OpenSpec.ofChange buildRightSpec)) buildRightCard

/-- THE TIED CARD OF 'boltinglaw07.BuildBig'. -/
def buildBigCard : Claim7 := { stood := { row := buildBigRow, standIns := [], harness := (true, "4582b5ded8fb7265a10ed28b07a875788e3e7f977475c698b6878d74ac375a9f"), looks := false }, kinds := [], alts := [], laidByText := true, laidKinds := [.data], laidTests := true, laidLooks := .later }
def BuildBigCardSaid : Prop := Claim7.holds Tryd.pinned (.plain (OpenSpec.ofChange buildBigSpec)) buildBigCard

/-- THE TIED CARD OF 'boltinglaw07.BuildParts'. -/
def buildPartsCard : Claim7 := { stood := { row := buildPartsRow, standIns := [], harness := (true, "4582b5ded8fb7265a10ed28b07a875788e3e7f977475c698b6878d74ac375a9f"), looks := false }, kinds := [], alts := [], laidByText := true, laidKinds := [.data], laidTests := true, laidLooks := .later }
def BuildPartsCardSaid : Prop := Claim7.holds Tryd.pinned (.plain (OpenSpec.ofChange buildPartsSpec)) buildPartsCard

/-- THE TIED CARD OF 'boltinglaw07.BuildIn'. -/
def buildInCard : Claim7 := { stood := { row := buildInRow, standIns := [], harness := (true, "4582b5ded8fb7265a10ed28b07a875788e3e7f977475c698b6878d74ac375a9f"), looks := false }, kinds := [], alts := [], laidByText := true, laidKinds := [.data], laidTests := true, laidLooks := .later }
def BuildInCardSaid : Prop := Claim7.holds Tryd.pinned (.plain (OpenSpec.ofChange buildInSpec)) buildInCard

/-- THE TIED CARD OF 'boltinglaw07.BuildBelow'. -/
def buildBelowCard : Claim7 := { stood := { row := buildBelowRow, standIns := [], harness := (true, "4582b5ded8fb7265a10ed28b07a875788e3e7f977475c698b6878d74ac375a9f"), looks := false }, kinds := [], alts := [], laidByText := true, laidKinds := [.data], laidTests := true, laidLooks := .later }
def BuildBelowCardSaid : Prop := Claim7.holds Tryd.pinned (.plain (OpenSpec.ofChange buildBelowSpec)) buildBelowCard

/-- THE SECOND FORM's CARD OF 'boltinglaw07.BuildTrees'. -/
def buildTreesUptoCard : Claim7 := { stood := { row := buildTreesUptoRow, standIns := [], harness := (true, "4582b5ded8fb7265a10ed28b07a875788e3e7f977475c698b6878d74ac375a9f"), looks := false }, kinds := [], alts := [], laidByText := true, laidKinds := [.data], laidTests := true, laidLooks := .later }
def BuildTreesUptoCardSaid : Prop := Claim7.holds Tryd.pinned (.plain (OpenSpec.upto buildTreesSpec)) buildTreesUptoCard

/-- THE SECOND FORM's CARD OF 'boltinglaw07.BuildNested'. -/
def buildNestedUptoCard : Claim7 := { stood := { row := buildNestedUptoRow, standIns := [], harness := (true, "4582b5ded8fb7265a10ed28b07a875788e3e7f977475c698b6878d74ac375a9f"), looks := false }, kinds := [], alts := [], laidByText := true, laidKinds := [.data], laidTests := true, laidLooks := .later }
def BuildNestedUptoCardSaid : Prop := Claim7.holds Tryd.pinned (.plain (OpenSpec.upto buildNestedSpec)) buildNestedUptoCard

/-- THE SECOND FORM's CARD OF 'boltinglaw07.BuildRight'. -/
def buildRightUptoCard : Claim7 := { stood := { row := buildRightUptoRow, standIns := [], harness := (true, "4582b5ded8fb7265a10ed28b07a875788e3e7f977475c698b6878d74ac375a9f"), looks := false }, kinds := [], alts := [], laidByText := true, laidKinds := [.data], laidTests := true, laidLooks := .later }
def BuildRightUptoCardSaid : Prop := Claim7.holds Tryd.pinned (.plain (OpenSpec.upto buildRightSpec)) buildRightUptoCard

/-- THE SECOND FORM's CARD OF 'boltinglaw07.BuildBig'. -/
def buildBigUptoCard : Claim7 := { stood := { row := buildBigUptoRow, standIns := [], harness := (true, "4582b5ded8fb7265a10ed28b07a875788e3e7f977475c698b6878d74ac375a9f"), looks := false }, kinds := [], alts := [], laidByText := true, laidKinds := [.data], laidTests := true, laidLooks := .later }
def BuildBigUptoCardSaid : Prop := Claim7.holds Tryd.pinned (.plain (OpenSpec.upto buildBigSpec)) buildBigUptoCard

/-- THE SECOND FORM's CARD OF 'boltinglaw07.BuildParts'. -/
def buildPartsUptoCard : Claim7 := { stood := { row := buildPartsUptoRow, standIns := [], harness := (true, "4582b5ded8fb7265a10ed28b07a875788e3e7f977475c698b6878d74ac375a9f"), looks := false }, kinds := [], alts := [], laidByText := true, laidKinds := [.data], laidTests := true, laidLooks := .later }
def BuildPartsUptoCardSaid : Prop := Claim7.holds Tryd.pinned (.plain (OpenSpec.upto buildPartsSpec)) buildPartsUptoCard

/-- THE SECOND FORM's CARD OF 'boltinglaw07.BuildIn'. -/
def buildInUptoCard : Claim7 := { stood := { row := buildInUptoRow, standIns := [], harness := (true, "4582b5ded8fb7265a10ed28b07a875788e3e7f977475c698b6878d74ac375a9f"), looks := false }, kinds := [], alts := [], laidByText := true, laidKinds := [.data], laidTests := true, laidLooks := .later }
def BuildInUptoCardSaid : Prop := Claim7.holds Tryd.pinned (.plain (OpenSpec.upto buildInSpec)) buildInUptoCard

/-- THE SECOND FORM's CARD OF 'boltinglaw07.BuildBelow'. -/
def buildBelowUptoCard : Claim7 := { stood := { row := buildBelowUptoRow, standIns := [], harness := (true, "4582b5ded8fb7265a10ed28b07a875788e3e7f977475c698b6878d74ac375a9f"), looks := false }, kinds := [], alts := [], laidByText := true, laidKinds := [.data], laidTests := true, laidLooks := .later }
def BuildBelowUptoCardSaid : Prop := Claim7.holds Tryd.pinned (.plain (OpenSpec.upto buildBelowSpec)) buildBelowUptoCard
end Rows
end Go.Proofs.YtoijeljjehjfjaaDoor
