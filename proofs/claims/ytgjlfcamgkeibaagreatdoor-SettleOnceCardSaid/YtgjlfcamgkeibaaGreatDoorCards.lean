/-
  DERIVED. GIVEN WITH THE SEED: THE CARDS: each row of YtgjlfcamgkeibaaGreatDoorRows.lean that lists a variable, with what it lists TIED to the program's text (the seventh form; the later family's looks); each row that meets fmt, with fmt's text TOLD by the authors' own Lean function (tested against real Go, not proved from fmt's source: count such statements apart). THE CARD IS WHAT COUNTS. Prove the row's statement (the work); the ties are given (YtgjlfcamgkeibaaGreatDoorTie.lean); close each card by the builder's one call (the guide's Derived/Test/ToyasCard.lean, 'card_holds'). Laid BY PROGRAM, IN A SANDBOX (cutbox-door.mjs). By AI agents, Wed Nov 11 2026. No macro, syntax, notation, axiom, sorry.
-/
import Derived.Test.YtgjlfcamgkeibaaGreatDoorRows
import GoSem.ClaimSeven
namespace Go.Proofs.YtgjlfcamgkeibaaGreatDoor
namespace Rows

/-- THE TIED CARD OF 'boltinglaw14.SettleTrees'. -/
def settleTreesCard : Claim7 := { stood := { row := settleTreesRow, standIns := [], harness := (true, "13b253d92ac7ef56d5cb9543b500ad42ef0860d5d6d06d2f821ba508ee1f1122"), looks := false }, kinds := [], alts := [], laidByText := true, laidKinds := [.data], laidTests := true, laidLooks := .later }
def SettleTreesCardSaid : Prop := Claim7.holds Tryz.pinned (.plain (OpenSpec.ofChange settleTreesSpec)) settleTreesCard

/-- THE TIED CARD OF 'boltinglaw14.SettleText'. -/
def settleTextCard : Claim7 := { stood := { row := settleTextRow, standIns := [], harness := (true, "13b253d92ac7ef56d5cb9543b500ad42ef0860d5d6d06d2f821ba508ee1f1122"), looks := false }, kinds := [], alts := [], laidByText := true, laidKinds := [.data], laidTests := true, laidLooks := .later }
def SettleTextCardSaid : Prop := Claim7.holds Tryz.pinned (.plain (OpenSpec.ofChange settleTextSpec)) settleTextCard

/-- THE TIED CARD OF 'boltinglaw14.SettleSafe'. -/
def settleSafeCard : Claim7 := { stood := { row := settleSafeRow, standIns := [], harness := (true, "13b253d92ac7ef56d5cb9543b500ad42ef0860d5d6d06d2f821ba508ee1f1122"), looks := false }, kinds := [], alts := [], laidByText := true, laidKinds := [.data], laidTests := true, laidLooks := .later }
def SettleSafeCardSaid : Prop := Claim7.holds Tryz.pinned (.plain (OpenSpec.ofChange settleSafeSpec)) settleSafeCard

/-- THE TIED CARD OF 'boltinglaw14.SettleParsed'. -/
def settleParsedCard : Claim7 := { stood := { row := settleParsedRow, standIns := [], harness := (true, "13b253d92ac7ef56d5cb9543b500ad42ef0860d5d6d06d2f821ba508ee1f1122"), looks := false }, kinds := [], alts := [], laidByText := true, laidKinds := [.data], laidTests := true, laidLooks := .later }
def SettleParsedCardSaid : Prop := Claim7.holds Tryz.pinned (.plain (OpenSpec.ofChange settleParsedSpec)) settleParsedCard

/-- THE TIED CARD OF 'boltinglaw14.SettleKeeps'. -/
def settleKeepsCard : Claim7 := { stood := { row := settleKeepsRow, standIns := [], harness := (true, "13b253d92ac7ef56d5cb9543b500ad42ef0860d5d6d06d2f821ba508ee1f1122"), looks := false }, kinds := [], alts := [], laidByText := true, laidKinds := [.data], laidTests := true, laidLooks := .later }
def SettleKeepsCardSaid : Prop := Claim7.holds Tryz.pinned (.plain (OpenSpec.ofChange settleKeepsSpec)) settleKeepsCard

/-- THE TIED CARD OF 'boltinglaw14.SettleOnce'. -/
def settleOnceCard : Claim7 := { stood := { row := settleOnceRow, standIns := [], harness := (true, "13b253d92ac7ef56d5cb9543b500ad42ef0860d5d6d06d2f821ba508ee1f1122"), looks := false }, kinds := [], alts := [], laidByText := true, laidKinds := [.data], laidTests := true, laidLooks := .later }
def SettleOnceCardSaid : Prop := Claim7.holds Tryz.pinned (.plain (OpenSpec.ofChange settleOnceSpec)) settleOnceCard

/-- THE TIED CARD OF 'boltinglaw14.SettleFirst'. -/
def settleFirstCard : Claim7 := { stood := { row := settleFirstRow, standIns := [], harness := (true, "13b253d92ac7ef56d5cb9543b500ad42ef0860d5d6d06d2f821ba508ee1f1122"), looks := false }, kinds := [], alts := [], laidByText := true, laidKinds := [.data], laidTests := true, laidLooks := .later }
def SettleFirstCardSaid : Prop := Claim7.holds Tryz.pinned (.plain (OpenSpec.ofChange settleFirstSpec)) settleFirstCard

/-- THE SECOND FORM's CARD OF 'boltinglaw14.SettleTrees'. -/
def settleTreesUptoCard : Claim7 := { stood := { row := settleTreesUptoRow, standIns := [], harness := (true, "13b253d92ac7ef56d5cb9543b500ad42ef0860d5d6d06d2f821ba508ee1f1122"), looks := false }, kinds := [], alts := [], laidByText := true, laidKinds := [.data], laidTests := true, laidLooks := .later }
def SettleTreesUptoCardSaid : Prop := Claim7.holds Tryz.pinned (.plain (OpenSpec.upto settleTreesSpec)) settleTreesUptoCard

/-- THE SECOND FORM's CARD OF 'boltinglaw14.SettleText'. -/
def settleTextUptoCard : Claim7 := { stood := { row := settleTextUptoRow, standIns := [], harness := (true, "13b253d92ac7ef56d5cb9543b500ad42ef0860d5d6d06d2f821ba508ee1f1122"), looks := false }, kinds := [], alts := [], laidByText := true, laidKinds := [.data], laidTests := true, laidLooks := .later }
def SettleTextUptoCardSaid : Prop := Claim7.holds Tryz.pinned (.plain (OpenSpec.upto settleTextSpec)) settleTextUptoCard

/-- THE SECOND FORM's CARD OF 'boltinglaw14.SettleSafe'. -/
def settleSafeUptoCard : Claim7 := { stood := { row := settleSafeUptoRow, standIns := [], harness := (true, "13b253d92ac7ef56d5cb9543b500ad42ef0860d5d6d06d2f821ba508ee1f1122"), looks := false }, kinds := [], alts := [], laidByText := true, laidKinds := [.data], laidTests := true, laidLooks := .later }
def SettleSafeUptoCardSaid : Prop := Claim7.holds Tryz.pinned (.plain (OpenSpec.upto settleSafeSpec)) settleSafeUptoCard

/-- THE SECOND FORM's CARD OF 'boltinglaw14.SettleParsed'. -/
def settleParsedUptoCard : Claim7 := { stood := { row := settleParsedUptoRow, standIns := [], harness := (true, "13b253d92ac7ef56d5cb9543b500ad42ef0860d5d6d06d2f821ba508ee1f1122"), looks := false }, kinds := [], alts := [], laidByText := true, laidKinds := [.data], laidTests := true, laidLooks := .later }
def SettleParsedUptoCardSaid : Prop := Claim7.holds Tryz.pinned (.plain (OpenSpec.upto settleParsedSpec)) settleParsedUptoCard

/-- THE SECOND FORM's CARD OF 'boltinglaw14.SettleKeeps'. -/
def settleKeepsUptoCard : Claim7 := { stood := { row := settleKeepsUptoRow, standIns := [], harness := (true, "13b253d92ac7ef56d5cb9543b500ad42ef0860d5d6d06d2f821ba508ee1f1122"), looks := false }, kinds := [], alts := [], laidByText := true, laidKinds := [.data], laidTests := true, laidLooks := .later }
def SettleKeepsUptoCardSaid : Prop := Claim7.holds Tryz.pinned (.plain (OpenSpec.upto settleKeepsSpec)) settleKeepsUptoCard

/-- THE SECOND FORM's CARD OF 'boltinglaw14.SettleOnce'. -/
def settleOnceUptoCard : Claim7 := { stood := { row := settleOnceUptoRow, standIns := [], harness := (true, "13b253d92ac7ef56d5cb9543b500ad42ef0860d5d6d06d2f821ba508ee1f1122"), looks := false }, kinds := [], alts := [], laidByText := true, laidKinds := [.data], laidTests := true, laidLooks := .later }
def SettleOnceUptoCardSaid : Prop := Claim7.holds Tryz.pinned (.plain (OpenSpec.upto settleOnceSpec)) settleOnceUptoCard

/-- THE SECOND FORM's CARD OF 'boltinglaw14.SettleFirst'. -/
def settleFirstUptoCard : Claim7 := { stood := { row := settleFirstUptoRow, standIns := [], harness := (true, "13b253d92ac7ef56d5cb9543b500ad42ef0860d5d6d06d2f821ba508ee1f1122"), looks := false }, kinds := [], alts := [], laidByText := true, laidKinds := [.data], laidTests := true, laidLooks := .later }
def SettleFirstUptoCardSaid : Prop := Claim7.holds Tryz.pinned (.plain (OpenSpec.upto settleFirstSpec)) settleFirstUptoCard
end Rows
end Go.Proofs.YtgjlfcamgkeibaaGreatDoor
