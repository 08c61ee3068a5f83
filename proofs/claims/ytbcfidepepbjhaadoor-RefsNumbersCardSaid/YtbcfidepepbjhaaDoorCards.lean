/-
  DERIVED. GIVEN WITH THE SEED: THE CARDS: each row of YtbcfidepepbjhaaDoorRows.lean that lists a variable, with what it lists TIED to the program's text (the seventh form; the later family's looks); each row that meets fmt, with fmt's text TOLD by the authors' own Lean function (tested against real Go, not proved from fmt's source: count such statements apart). THE CARD IS WHAT COUNTS. Prove the row's statement (the work); the ties are given (YtbcfidepepbjhaaDoorTie.lean); close each card by the builder's one call (the guide's Derived/Test/ToyasCard.lean, 'card_holds'). Laid BY PROGRAM, IN A SANDBOX (cutbox-door.mjs). By AI agents, Wed Nov 11 2026. No macro, syntax, notation, axiom, sorry.
-/
import Derived.Test.YtbcfidepepbjhaaDoorRows
import GoSem.ClaimSeven
namespace Go.Proofs.YtbcfidepepbjhaaDoor
namespace Rows

/-- THE TIED CARD OF 'boltinglaw03.RefsNames'. -/
def refsNamesCard : Claim7 := { stood := { row := refsNamesRow, standIns := [], harness := (true, "6c1542e18bd2fa014eaf16c7d99b363108f6b1ff1c99842f62091ea0702966db"), looks := false }, kinds := [], alts := [], laidByText := true, laidKinds := [.data], laidTests := true, laidLooks := .later }
def RefsNamesCardSaid : Prop := Claim7.holds Tryd.pinned (.plain (OpenSpec.ofChange refsNamesSpec)) refsNamesCard

/-- THE TIED CARD OF 'boltinglaw03.RefsDecodes'. -/
def refsDecodesCard : Claim7 := { stood := { row := refsDecodesRow, standIns := [], harness := (true, "6c1542e18bd2fa014eaf16c7d99b363108f6b1ff1c99842f62091ea0702966db"), looks := false }, kinds := [], alts := [], laidByText := true, laidKinds := [.data], laidTests := true, laidLooks := .later }
def RefsDecodesCardSaid : Prop := Claim7.holds Tryd.pinned (.plain (OpenSpec.ofChange refsDecodesSpec)) refsDecodesCard

/-- THE TIED CARD OF 'boltinglaw03.RefsWrites'. -/
def refsWritesCard : Claim7 := { stood := { row := refsWritesRow, standIns := [], harness := (true, "6c1542e18bd2fa014eaf16c7d99b363108f6b1ff1c99842f62091ea0702966db"), looks := false }, kinds := [], alts := [], laidByText := true, laidKinds := [.data], laidTests := true, laidLooks := .later }
def RefsWritesCardSaid : Prop := Claim7.holds Tryd.pinned (.plain (OpenSpec.ofChange refsWritesSpec)) refsWritesCard

/-- THE TIED CARD OF 'boltinglaw03.RefsBack'. -/
def refsBackCard : Claim7 := { stood := { row := refsBackRow, standIns := [], harness := (true, "6c1542e18bd2fa014eaf16c7d99b363108f6b1ff1c99842f62091ea0702966db"), looks := false }, kinds := [], alts := [], laidByText := true, laidKinds := [.data], laidTests := true, laidLooks := .later }
def RefsBackCardSaid : Prop := Claim7.holds Tryd.pinned (.plain (OpenSpec.ofChange refsBackSpec)) refsBackCard

/-- THE TIED CARD OF 'boltinglaw03.RefsParts'. -/
def refsPartsCard : Claim7 := { stood := { row := refsPartsRow, standIns := [], harness := (true, "6c1542e18bd2fa014eaf16c7d99b363108f6b1ff1c99842f62091ea0702966db"), looks := false }, kinds := [], alts := [], laidByText := true, laidKinds := [.data], laidTests := true, laidLooks := .later }
def RefsPartsCardSaid : Prop := Claim7.holds Tryd.pinned (.plain (OpenSpec.ofChange refsPartsSpec)) refsPartsCard

/-- THE TIED CARD OF 'boltinglaw03.RefsNumbers'. -/
def refsNumbersCard : Claim7 := { stood := { row := refsNumbersRow, standIns := [], harness := (true, "6c1542e18bd2fa014eaf16c7d99b363108f6b1ff1c99842f62091ea0702966db"), looks := false }, kinds := [], alts := [], laidByText := true, laidKinds := [.data], laidTests := true, laidLooks := .later }
def RefsNumbersCardSaid : Prop := Claim7.holds Tryd.pinned (.plain (OpenSpec.ofChange refsNumbersSpec)) refsNumbersCard

/-- THE TIED CARD OF 'boltinglaw03.RefsOnce'. -/
def refsOnceCard : Claim7 := { stood := { row := refsOnceRow, standIns := [], harness := (true, "6c1542e18bd2fa014eaf16c7d99b363108f6b1ff1c99842f62091ea0702966db"), looks := false }, kinds := [], alts := [], laidByText := true, laidKinds := [.data], laidTests := true, laidLooks := .later }
def RefsOnceCardSaid : Prop := Claim7.holds Tryd.pinned (.plain (OpenSpec.ofChange refsOnceSpec)) refsOnceCard

/-- THE TIED CARD OF 'boltinglaw03.RefsSafe'. -/
def refsSafeCard : Claim7 := { stood := { row := refsSafeRow, standIns := [], harness := (true, "6c1542e18bd2fa014eaf16c7d99b363108f6b1ff1c99842f62091ea0702966db"), looks := false }, kinds := [], alts := [], laidByText := true, laidKinds := [.data], laidTests := true, laidLooks := .later }
def RefsSafeCardSaid : Prop := Claim7.holds Tryd.pinned (.plain (OpenSpec.ofChange refsSafeSpec)) refsSafeCard

/-- THE SECOND FORM's CARD OF 'boltinglaw03.RefsNames'. -/
def refsNamesUptoCard : Claim7 := { stood := { row := refsNamesUptoRow, standIns := [], harness := (true, "6c1542e18bd2fa014eaf16c7d99b363108f6b1ff1c99842f62091ea0702966db"), looks := false }, kinds := [], alts := [], laidByText := true, laidKinds := [.data], laidTests := true, laidLooks := .later }
def RefsNamesUptoCardSaid : Prop := Claim7.holds Tryd.pinned (.plain (OpenSpec.upto refsNamesSpec)) refsNamesUptoCard

/-- THE SECOND FORM's CARD OF 'boltinglaw03.RefsDecodes'. -/
def refsDecodesUptoCard : Claim7 := { stood := { row := refsDecodesUptoRow, standIns := [], harness := (true, "6c1542e18bd2fa014eaf16c7d99b363108f6b1ff1c99842f62091ea0702966db"), looks := false }, kinds := [], alts := [], laidByText := true, laidKinds := [.data], laidTests := true, laidLooks := .later }
def RefsDecodesUptoCardSaid : Prop := Claim7.holds Tryd.pinned (.plain (OpenSpec.upto refsDecodesSpec)) refsDecodesUptoCard

/-- THE SECOND FORM's CARD OF 'boltinglaw03.RefsWrites'. -/
def refsWritesUptoCard : Claim7 := { stood := { row := refsWritesUptoRow, standIns := [], harness := (true, "6c1542e18bd2fa014eaf16c7d99b363108f6b1ff1c99842f62091ea0702966db"), looks := false }, kinds := [], alts := [], laidByText := true, laidKinds := [.data], laidTests := true, laidLooks := .later }
def RefsWritesUptoCardSaid : Prop := Claim7.holds Tryd.pinned (.plain (OpenSpec.upto refsWritesSpec)) refsWritesUptoCard

/-- THE SECOND FORM's CARD OF 'boltinglaw03.RefsBack'. -/
def refsBackUptoCard : Claim7 := { stood := { row := refsBackUptoRow, standIns := [], harness := (true, "6c1542e18bd2fa014eaf16c7d99b363108f6b1ff1c99842f62091ea0702966db"), looks := false }, kinds := [], alts := [], laidByText := true, laidKinds := [.data], laidTests := true, laidLooks := .later }
def RefsBackUptoCardSaid : Prop := Claim7.holds Tryd.pinned (.plain (OpenSpec.upto refsBackSpec)) refsBackUptoCard

/-- THE SECOND FORM's CARD OF 'boltinglaw03.RefsParts'. -/
def refsPartsUptoCard : Claim7 := { stood := { row := refsPartsUptoRow, standIns := [], harness := (true, "6c1542e18bd2fa014eaf16c7d99b363108f6b1ff1c99842f62091ea0702966db"), looks := false }, kinds := [], alts := [], laidByText := true, laidKinds := [.data], laidTests := true, laidLooks := .later }
def RefsPartsUptoCardSaid : Prop := Claim7.holds Tryd.pinned (.plain (OpenSpec.upto refsPartsSpec)) refsPartsUptoCard

/-- THE SECOND FORM's CARD OF 'boltinglaw03.RefsNumbers'. -/
def refsNumbersUptoCard : Claim7 := { stood := { row := refsNumbersUptoRow, standIns := [], harness := (true, "6c1542e18bd2fa014eaf16c7d99b363108f6b1ff1c99842f62091ea0702966db"), looks := false }, kinds := [], alts := [], laidByText := true, laidKinds := [.data], laidTests := true, laidLooks := .later }
def RefsNumbersUptoCardSaid : Prop := Claim7.holds Tryd.pinned (.plain (OpenSpec.upto refsNumbersSpec)) refsNumbersUptoCard

/-- THE SECOND FORM's CARD OF 'boltinglaw03.RefsOnce'. -/
def refsOnceUptoCard : Claim7 := { stood := { row := refsOnceUptoRow, standIns := [], harness := (true, "6c1542e18bd2fa014eaf16c7d99b363108f6b1ff1c99842f62091ea0702966db"), looks := false }, kinds := [], alts := [], laidByText := true, laidKinds := [.data], laidTests := true, laidLooks := .later }
def RefsOnceUptoCardSaid : Prop := Claim7.holds Tryd.pinned (.plain (OpenSpec.upto refsOnceSpec)) refsOnceUptoCard

/-- THE SECOND FORM's CARD OF 'boltinglaw03.RefsSafe'. -/
def refsSafeUptoCard : Claim7 := { stood := { row := refsSafeUptoRow, standIns := [], harness := (true, "6c1542e18bd2fa014eaf16c7d99b363108f6b1ff1c99842f62091ea0702966db"), looks := false }, kinds := [], alts := [], laidByText := true, laidKinds := [.data], laidTests := true, laidLooks := .later }
def RefsSafeUptoCardSaid : Prop := Claim7.holds Tryd.pinned (.plain (OpenSpec.upto refsSafeSpec)) refsSafeUptoCard
end Rows
end Go.Proofs.YtbcfidepepbjhaaDoor
