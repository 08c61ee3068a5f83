/-
  DERIVED. GIVEN WITH THE SEED: THE CARDS: each row of YtenmlpfjeohkiaaGreatDoorRows.lean that lists a variable, with what it lists TIED to the program's text (the seventh form; the later family's looks); each row that meets fmt, with fmt's text TOLD by the authors' own Lean function (tested against real Go, not proved from fmt's source: count such statements apart). THE CARD IS WHAT COUNTS. Prove the row's statement (the work); the ties are given (YtenmlpfjeohkiaaGreatDoorTie.lean); close each card by the builder's one call (the guide's Derived/Test/ToyasCard.lean, 'card_holds'). Laid BY PROGRAM, IN A SANDBOX (cutbox-door.mjs). By AI agents, Wed Nov 11 2026. No macro, syntax, notation, axiom, sorry.
-/
import Derived.Test.YtenmlpfjeohkiaaGreatDoorRows
import GoSem.ClaimSeven
namespace Go.Proofs.YtenmlpfjeohkiaaGreatDoor
namespace Rows

/-- THE TIED CARD OF 'boltinglaw08.WriteBack'. -/
def writeBackCard : Claim7 := { stood := { row := writeBackRow, standIns := [], harness := (true, "af5a7b9f0aefb1e1913ad06830a98715b22db6283fcdcfab81bbeed99b7eff2b"), looks := false }, kinds := [], alts := [], laidByText := true, laidKinds := [.data], laidTests := true, laidLooks := .later }
def WriteBackCardSaid : Prop := Claim7.holds Tryz.pinned (.plain (OpenSpec.ofChange writeBackSpec)) writeBackCard

/-- THE TIED CARD OF 'boltinglaw08.WriteStays'. -/
def writeStaysCard : Claim7 := { stood := { row := writeStaysRow, standIns := [], harness := (true, "af5a7b9f0aefb1e1913ad06830a98715b22db6283fcdcfab81bbeed99b7eff2b"), looks := false }, kinds := [], alts := [], laidByText := true, laidKinds := [.data], laidTests := true, laidLooks := .later }
def WriteStaysCardSaid : Prop := Claim7.holds Tryz.pinned (.plain (OpenSpec.ofChange writeStaysSpec)) writeStaysCard

/-- THE TIED CARD OF 'boltinglaw08.WriteInside'. -/
def writeInsideCard : Claim7 := { stood := { row := writeInsideRow, standIns := [], harness := (true, "af5a7b9f0aefb1e1913ad06830a98715b22db6283fcdcfab81bbeed99b7eff2b"), looks := false }, kinds := [], alts := [], laidByText := true, laidKinds := [.data], laidTests := true, laidLooks := .later }
def WriteInsideCardSaid : Prop := Claim7.holds Tryz.pinned (.plain (OpenSpec.ofChange writeInsideSpec)) writeInsideCard

/-- THE SECOND FORM's CARD OF 'boltinglaw08.WriteBack'. -/
def writeBackUptoCard : Claim7 := { stood := { row := writeBackUptoRow, standIns := [], harness := (true, "af5a7b9f0aefb1e1913ad06830a98715b22db6283fcdcfab81bbeed99b7eff2b"), looks := false }, kinds := [], alts := [], laidByText := true, laidKinds := [.data], laidTests := true, laidLooks := .later }
def WriteBackUptoCardSaid : Prop := Claim7.holds Tryz.pinned (.plain (OpenSpec.upto writeBackSpec)) writeBackUptoCard

/-- THE SECOND FORM's CARD OF 'boltinglaw08.WriteStays'. -/
def writeStaysUptoCard : Claim7 := { stood := { row := writeStaysUptoRow, standIns := [], harness := (true, "af5a7b9f0aefb1e1913ad06830a98715b22db6283fcdcfab81bbeed99b7eff2b"), looks := false }, kinds := [], alts := [], laidByText := true, laidKinds := [.data], laidTests := true, laidLooks := .later }
def WriteStaysUptoCardSaid : Prop := Claim7.holds Tryz.pinned (.plain (OpenSpec.upto writeStaysSpec)) writeStaysUptoCard

/-- THE SECOND FORM's CARD OF 'boltinglaw08.WriteInside'. -/
def writeInsideUptoCard : Claim7 := { stood := { row := writeInsideUptoRow, standIns := [], harness := (true, "af5a7b9f0aefb1e1913ad06830a98715b22db6283fcdcfab81bbeed99b7eff2b"), looks := false }, kinds := [], alts := [], laidByText := true, laidKinds := [.data], laidTests := true, laidLooks := .later }
def WriteInsideUptoCardSaid : Prop := Claim7.holds Tryz.pinned (.plain (OpenSpec.upto writeInsideSpec)) writeInsideUptoCard
end Rows
end Go.Proofs.YtenmlpfjeohkiaaGreatDoor
