/-
  No cell of these rows narrows 'for every input' (looked for: loops, veiled, ifaces, maps, wideKeys, modest, calm, conditions, laid).
  DERIVED. THE GIVEN ROWS OF THIS SEAT. 8 by the template 'for every input the law returns true; each argument reads behind the call as it read before'; 0 by the template 'total and deterministic' (their statements: YtchholpiikeakaaTotals.lean).
  GIVEN WITH THE SEED: the statements are not yours to turn. If you find one false, say at which input.
  Laid BY PROGRAM, IN A SANDBOX (cutbox-rows.mjs): the forced cells as the released guide's own fill.sh prints them over the translation b96dfc1391cfb9ea… (all of the seat's roots in one cut). By AI agents, Wed Nov 11 2026. No macro, syntax, notation, axiom, sorry.
-/
import Derived.Test.YtchholpiikeakaaChecked
import GoSem.Claim
import GoSem.ClaimJoined
import GoSem.ClaimMapViews
import Derived.JoinedTies
import Derived.KernelRfl
namespace Go.Proofs.Ytchholpiikeakaa
/- THE CELL 'sum', in the pinned program and in every row, IS THE sha256 OF THE DUMP (.gsa) THAT YtchholpiikeakaaProg.lean LOADS. Nothing in Lean hashes anything: it is a label: what it is worth is what the hold of that sum in a sandbox is worth. -/
noncomputable def Try.pinned : Pinned := { name := "ytchholpiikeakaa", sum := "b96dfc1391cfb9ea552fade6f3ee0a3ea0cee3a903b859fe4e7825f2ec19de67", checked := Try.checked }
namespace Rows
def none {H : Type} : Left H := { results := [], args := [] }

/-- 'boltinglaw09.LinkSchemes': WHATEVER THE INPUT: true; the input reads as it did. -/
def linkSchemesSpec : ChangeSpec := { name := "linkSchemes", fn := fun _ => fun
  | [d] => { results := [.lit (.bool true)], args := [d] }
  | _ => none }
def linkSchemesRow : OpenClaim := { program := "ytchholpiikeakaa", sum := "b96dfc1391cfb9ea552fade6f3ee0a3ea0cee3a903b859fe4e7825f2ec19de67", func := "bolting/boltinglaw09.LinkSchemes", spec := "linkSchemes", unfollowed := true, recurses := true, apart := false }
def LinkSchemesSaid : Prop := linkSchemesRow.holds Try.pinned (OpenSpec.ofChange linkSchemesSpec)

/-- ITS FALSE NEIGHBOUR: 'it returns false'. Refute it at one input. -/
def linkSchemesWrong : ChangeSpec := { name := "linkSchemes", fn := fun _ => fun
  | [d] => { results := [.lit (.bool false)], args := [d] }
  | _ => none }
def LinkSchemesWrongFalsely : Prop := linkSchemesRow.holds Try.pinned (OpenSpec.ofChange linkSchemesWrong)

/-- 'boltinglaw09.LinkSources': WHATEVER THE INPUT: true; the input reads as it did. -/
def linkSourcesSpec : ChangeSpec := { name := "linkSources", fn := fun _ => fun
  | [d] => { results := [.lit (.bool true)], args := [d] }
  | _ => none }
def linkSourcesRow : OpenClaim := { program := "ytchholpiikeakaa", sum := "b96dfc1391cfb9ea552fade6f3ee0a3ea0cee3a903b859fe4e7825f2ec19de67", func := "bolting/boltinglaw09.LinkSources", spec := "linkSources", unfollowed := true, recurses := true, apart := false }
def LinkSourcesSaid : Prop := linkSourcesRow.holds Try.pinned (OpenSpec.ofChange linkSourcesSpec)

/-- ITS FALSE NEIGHBOUR: 'it returns false'. Refute it at one input. -/
def linkSourcesWrong : ChangeSpec := { name := "linkSources", fn := fun _ => fun
  | [d] => { results := [.lit (.bool false)], args := [d] }
  | _ => none }
def LinkSourcesWrongFalsely : Prop := linkSourcesRow.holds Try.pinned (OpenSpec.ofChange linkSourcesWrong)

/-- 'boltinglaw09.LinkHides': WHATEVER THE INPUT: true; the input reads as it did. -/
def linkHidesSpec : ChangeSpec := { name := "linkHides", fn := fun _ => fun
  | [d1, d2, d3] => { results := [.lit (.bool true)], args := [d1, d2, d3] }
  | _ => none }
def linkHidesRow : OpenClaim := { program := "ytchholpiikeakaa", sum := "b96dfc1391cfb9ea552fade6f3ee0a3ea0cee3a903b859fe4e7825f2ec19de67", func := "bolting/boltinglaw09.LinkHides", spec := "linkHides", unfollowed := true, recurses := true, apart := false }
def LinkHidesSaid : Prop := linkHidesRow.holds Try.pinned (OpenSpec.ofChange linkHidesSpec)

/-- ITS FALSE NEIGHBOUR: 'it returns false'. Refute it at one input. -/
def linkHidesWrong : ChangeSpec := { name := "linkHides", fn := fun _ => fun
  | [d1, d2, d3] => { results := [.lit (.bool false)], args := [d1, d2, d3] }
  | _ => none }
def LinkHidesWrongFalsely : Prop := linkHidesRow.holds Try.pinned (OpenSpec.ofChange linkHidesWrong)

/-- 'boltinglaw09.LinkAgain': WHATEVER THE INPUT: true; the input reads as it did. -/
def linkAgainSpec : ChangeSpec := { name := "linkAgain", fn := fun _ => fun
  | [d] => { results := [.lit (.bool true)], args := [d] }
  | _ => none }
def linkAgainRow : OpenClaim := { program := "ytchholpiikeakaa", sum := "b96dfc1391cfb9ea552fade6f3ee0a3ea0cee3a903b859fe4e7825f2ec19de67", func := "bolting/boltinglaw09.LinkAgain", spec := "linkAgain", unfollowed := true, recurses := true, apart := false }
def LinkAgainSaid : Prop := linkAgainRow.holds Try.pinned (OpenSpec.ofChange linkAgainSpec)

/-- ITS FALSE NEIGHBOUR: 'it returns false'. Refute it at one input. -/
def linkAgainWrong : ChangeSpec := { name := "linkAgain", fn := fun _ => fun
  | [d] => { results := [.lit (.bool false)], args := [d] }
  | _ => none }
def LinkAgainWrongFalsely : Prop := linkAgainRow.holds Try.pinned (OpenSpec.ofChange linkAgainWrong)

/-- 'boltinglaw09.LinkMade': WHATEVER THE INPUT: true; the input reads as it did. -/
def linkMadeSpec : ChangeSpec := { name := "linkMade", fn := fun _ => fun
  | [d] => { results := [.lit (.bool true)], args := [d] }
  | _ => none }
def linkMadeRow : OpenClaim := { program := "ytchholpiikeakaa", sum := "b96dfc1391cfb9ea552fade6f3ee0a3ea0cee3a903b859fe4e7825f2ec19de67", func := "bolting/boltinglaw09.LinkMade", spec := "linkMade", unfollowed := true, recurses := true, apart := false }
def LinkMadeSaid : Prop := linkMadeRow.holds Try.pinned (OpenSpec.ofChange linkMadeSpec)

/-- ITS FALSE NEIGHBOUR: 'it returns false'. Refute it at one input. -/
def linkMadeWrong : ChangeSpec := { name := "linkMade", fn := fun _ => fun
  | [d] => { results := [.lit (.bool false)], args := [d] }
  | _ => none }
def LinkMadeWrongFalsely : Prop := linkMadeRow.holds Try.pinned (OpenSpec.ofChange linkMadeWrong)

/-- 'boltinglaw09.LinkParts': WHATEVER THE INPUT: true; the input reads as it did. -/
def linkPartsSpec : ChangeSpec := { name := "linkParts", fn := fun _ => fun
  | [d1, d2] => { results := [.lit (.bool true)], args := [d1, d2] }
  | _ => none }
def linkPartsRow : OpenClaim := { program := "ytchholpiikeakaa", sum := "b96dfc1391cfb9ea552fade6f3ee0a3ea0cee3a903b859fe4e7825f2ec19de67", func := "bolting/boltinglaw09.LinkParts", spec := "linkParts", unfollowed := true, recurses := true, apart := false }
def LinkPartsSaid : Prop := linkPartsRow.holds Try.pinned (OpenSpec.ofChange linkPartsSpec)

/-- ITS FALSE NEIGHBOUR: 'it returns false'. Refute it at one input. -/
def linkPartsWrong : ChangeSpec := { name := "linkParts", fn := fun _ => fun
  | [d1, d2] => { results := [.lit (.bool false)], args := [d1, d2] }
  | _ => none }
def LinkPartsWrongFalsely : Prop := linkPartsRow.holds Try.pinned (OpenSpec.ofChange linkPartsWrong)

/-- 'boltinglaw09.LinkMarks': WHATEVER THE INPUT: true; the input reads as it did. -/
def linkMarksSpec : ChangeSpec := { name := "linkMarks", fn := fun _ => fun
  | [d1, d2] => { results := [.lit (.bool true)], args := [d1, d2] }
  | _ => none }
def linkMarksRow : OpenClaim := { program := "ytchholpiikeakaa", sum := "b96dfc1391cfb9ea552fade6f3ee0a3ea0cee3a903b859fe4e7825f2ec19de67", func := "bolting/boltinglaw09.LinkMarks", spec := "linkMarks", unfollowed := true, recurses := true, apart := false }
def LinkMarksSaid : Prop := linkMarksRow.holds Try.pinned (OpenSpec.ofChange linkMarksSpec)

/-- ITS FALSE NEIGHBOUR: 'it returns false'. Refute it at one input. -/
def linkMarksWrong : ChangeSpec := { name := "linkMarks", fn := fun _ => fun
  | [d1, d2] => { results := [.lit (.bool false)], args := [d1, d2] }
  | _ => none }
def LinkMarksWrongFalsely : Prop := linkMarksRow.holds Try.pinned (OpenSpec.ofChange linkMarksWrong)

/-- 'boltinglaw09.LinkNone': WHATEVER THE INPUT: true; the input reads as it did. -/
def linkNoneSpec : ChangeSpec := { name := "linkNone", fn := fun _ => fun
  | [d] => { results := [.lit (.bool true)], args := [d] }
  | _ => none }
def linkNoneRow : OpenClaim := { program := "ytchholpiikeakaa", sum := "b96dfc1391cfb9ea552fade6f3ee0a3ea0cee3a903b859fe4e7825f2ec19de67", func := "bolting/boltinglaw09.LinkNone", spec := "linkNone", unfollowed := true, recurses := true, apart := false }
def LinkNoneSaid : Prop := linkNoneRow.holds Try.pinned (OpenSpec.ofChange linkNoneSpec)

/-- ITS FALSE NEIGHBOUR: 'it returns false'. Refute it at one input. -/
def linkNoneWrong : ChangeSpec := { name := "linkNone", fn := fun _ => fun
  | [d] => { results := [.lit (.bool false)], args := [d] }
  | _ => none }
def LinkNoneWrongFalsely : Prop := linkNoneRow.holds Try.pinned (OpenSpec.ofChange linkNoneWrong)

/- THE SECOND FORM. 'bulk': how many values and letters a reading holds, each counted each time it is reached (what is shared counts as often as it is met; a slice's spare places count too). A statement '..UptoSaid' is the law's where the arguments, and the package variables that the reading takes, are together of bulk at most 1048576: NARROWER than '..Said'. Prove '..Said' where nothing that the law and all that it calls make is longer than what came in: it says more and counts as full. Else prove '..UptoSaid'. A law counts once. -/
mutual
def uptoBulk {H : Type} : DataW H → Nat
  | .lit (.string bytes) => bytes.length + 1
  | .lit _ => 1
  | .nil => 1
  | .ptr d => uptoBulk d + 1
  | .slice elems spare => uptoBulkAll elems + uptoBulkAll spare + 1
  | .agg parts => uptoBulkAll parts + 1
  | .iface _ d => uptoBulk d + 1
  | .map entries => uptoBulkEntries entries + 1
  | .held _ => 1
def uptoBulkAll {H : Type} : List (DataW H) → Nat
  | [] => 0
  | d :: r => uptoBulk d + uptoBulkAll r
def uptoBulkEntries {H : Type} : List (Lit × DataW H) → Nat
  | [] => 0
  | x :: r => uptoBulkEntry x + uptoBulkEntries r
def uptoBulkEntry {H : Type} : Lit × DataW H → Nat
  | (.string bytes, d) => bytes.length + uptoBulk d + 1
  | (_, d) => uptoBulk d + 1
 end
def uptoSmall : (H : Type) → List (DataW H) → Bool := fun _ ds => decide (uptoBulkAll ds ≤ 1048576)
def OpenSpec.upto (s : _root_.Go.ChangeSpec) : _root_.Go.OpenSpec := { _root_.Go.OpenSpec.ofChange s with cond := some uptoSmall }

/-- 'boltinglaw09.LinkSchemes', WHERE WHAT IT READS IS OF BULK AT MOST 1048576: true; the input reads as it did. -/
def linkSchemesUptoRow : OpenClaim := { program := "ytchholpiikeakaa", sum := "b96dfc1391cfb9ea552fade6f3ee0a3ea0cee3a903b859fe4e7825f2ec19de67", func := "bolting/boltinglaw09.LinkSchemes", spec := "linkSchemes", unfollowed := true, recurses := true, apart := false, narrowed := true }
def LinkSchemesUptoSaid : Prop := linkSchemesUptoRow.holds Try.pinned (OpenSpec.upto linkSchemesSpec)

/-- 'boltinglaw09.LinkSources', WHERE WHAT IT READS IS OF BULK AT MOST 1048576: true; the input reads as it did. -/
def linkSourcesUptoRow : OpenClaim := { program := "ytchholpiikeakaa", sum := "b96dfc1391cfb9ea552fade6f3ee0a3ea0cee3a903b859fe4e7825f2ec19de67", func := "bolting/boltinglaw09.LinkSources", spec := "linkSources", unfollowed := true, recurses := true, apart := false, narrowed := true }
def LinkSourcesUptoSaid : Prop := linkSourcesUptoRow.holds Try.pinned (OpenSpec.upto linkSourcesSpec)

/-- 'boltinglaw09.LinkHides', WHERE WHAT IT READS IS OF BULK AT MOST 1048576: true; the input reads as it did. -/
def linkHidesUptoRow : OpenClaim := { program := "ytchholpiikeakaa", sum := "b96dfc1391cfb9ea552fade6f3ee0a3ea0cee3a903b859fe4e7825f2ec19de67", func := "bolting/boltinglaw09.LinkHides", spec := "linkHides", unfollowed := true, recurses := true, apart := false, narrowed := true }
def LinkHidesUptoSaid : Prop := linkHidesUptoRow.holds Try.pinned (OpenSpec.upto linkHidesSpec)

/-- 'boltinglaw09.LinkAgain', WHERE WHAT IT READS IS OF BULK AT MOST 1048576: true; the input reads as it did. -/
def linkAgainUptoRow : OpenClaim := { program := "ytchholpiikeakaa", sum := "b96dfc1391cfb9ea552fade6f3ee0a3ea0cee3a903b859fe4e7825f2ec19de67", func := "bolting/boltinglaw09.LinkAgain", spec := "linkAgain", unfollowed := true, recurses := true, apart := false, narrowed := true }
def LinkAgainUptoSaid : Prop := linkAgainUptoRow.holds Try.pinned (OpenSpec.upto linkAgainSpec)

/-- 'boltinglaw09.LinkMade', WHERE WHAT IT READS IS OF BULK AT MOST 1048576: true; the input reads as it did. -/
def linkMadeUptoRow : OpenClaim := { program := "ytchholpiikeakaa", sum := "b96dfc1391cfb9ea552fade6f3ee0a3ea0cee3a903b859fe4e7825f2ec19de67", func := "bolting/boltinglaw09.LinkMade", spec := "linkMade", unfollowed := true, recurses := true, apart := false, narrowed := true }
def LinkMadeUptoSaid : Prop := linkMadeUptoRow.holds Try.pinned (OpenSpec.upto linkMadeSpec)

/-- 'boltinglaw09.LinkParts', WHERE WHAT IT READS IS OF BULK AT MOST 1048576: true; the input reads as it did. -/
def linkPartsUptoRow : OpenClaim := { program := "ytchholpiikeakaa", sum := "b96dfc1391cfb9ea552fade6f3ee0a3ea0cee3a903b859fe4e7825f2ec19de67", func := "bolting/boltinglaw09.LinkParts", spec := "linkParts", unfollowed := true, recurses := true, apart := false, narrowed := true }
def LinkPartsUptoSaid : Prop := linkPartsUptoRow.holds Try.pinned (OpenSpec.upto linkPartsSpec)

/-- 'boltinglaw09.LinkMarks', WHERE WHAT IT READS IS OF BULK AT MOST 1048576: true; the input reads as it did. -/
def linkMarksUptoRow : OpenClaim := { program := "ytchholpiikeakaa", sum := "b96dfc1391cfb9ea552fade6f3ee0a3ea0cee3a903b859fe4e7825f2ec19de67", func := "bolting/boltinglaw09.LinkMarks", spec := "linkMarks", unfollowed := true, recurses := true, apart := false, narrowed := true }
def LinkMarksUptoSaid : Prop := linkMarksUptoRow.holds Try.pinned (OpenSpec.upto linkMarksSpec)

/-- 'boltinglaw09.LinkNone', WHERE WHAT IT READS IS OF BULK AT MOST 1048576: true; the input reads as it did. -/
def linkNoneUptoRow : OpenClaim := { program := "ytchholpiikeakaa", sum := "b96dfc1391cfb9ea552fade6f3ee0a3ea0cee3a903b859fe4e7825f2ec19de67", func := "bolting/boltinglaw09.LinkNone", spec := "linkNone", unfollowed := true, recurses := true, apart := false, narrowed := true }
def LinkNoneUptoSaid : Prop := linkNoneUptoRow.holds Try.pinned (OpenSpec.upto linkNoneSpec)

end Rows
end Go.Proofs.Ytchholpiikeakaa
