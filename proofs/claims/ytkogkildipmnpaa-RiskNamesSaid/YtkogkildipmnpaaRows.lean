/-
  No cell of these rows narrows 'for every input' (looked for: loops, veiled, ifaces, maps, wideKeys, modest, calm, conditions, laid).
  DERIVED. THE GIVEN ROWS OF THIS SEAT. 6 by the template 'for every input the law returns true; each argument reads behind the call as it read before'; 0 by the template 'total and deterministic' (their statements: YtkogkildipmnpaaTotals.lean).
  GIVEN WITH THE SEED: the statements are not yours to turn. If you find one false, say at which input.
  Laid BY PROGRAM, IN A SANDBOX (cutbox-rows.mjs): the forced cells as the released guide's own fill.sh prints them over the translation b2420ba7e1365355… (all of the seat's roots in one cut). By AI agents, Wed Nov 11 2026. No macro, syntax, notation, axiom, sorry.
-/
import Derived.Test.YtkogkildipmnpaaChecked
import GoSem.Claim
import GoSem.ClaimJoined
import GoSem.ClaimMapViews
import Derived.JoinedTies
import Derived.KernelRfl
namespace Go.Proofs.Ytkogkildipmnpaa
/- THE CELL 'sum', in the pinned program and in every row, IS THE sha256 OF THE DUMP (.gsa) THAT YtkogkildipmnpaaProg.lean LOADS. Nothing in Lean hashes anything: it is a label: what it is worth is what the hold of that sum in a sandbox is worth. -/
noncomputable def Try.pinned : Pinned := { name := "ytkogkildipmnpaa", sum := "b2420ba7e136535512d8760df53baaf81be5981e12abb6d7a35146c77e7c3ae6", checked := Try.checked }
namespace Rows
def none {H : Type} : Left H := { results := [], args := [] }

/-- 'boltinglaw10.RiskNames': WHATEVER THE INPUT: true; the input reads as it did. -/
def riskNamesSpec : ChangeSpec := { name := "riskNames", fn := fun _ => fun
  | [d1, d2] => { results := [.lit (.bool true)], args := [d1, d2] }
  | _ => none }
def riskNamesRow : OpenClaim := { program := "ytkogkildipmnpaa", sum := "b2420ba7e136535512d8760df53baaf81be5981e12abb6d7a35146c77e7c3ae6", func := "bolting/boltinglaw10.RiskNames", spec := "riskNames", unfollowed := true, recurses := true, plainKeys := false, apart := false }
def RiskNamesSaid : Prop := riskNamesRow.holds Try.pinned (OpenSpec.ofChange riskNamesSpec)

/-- ITS FALSE NEIGHBOUR: 'it returns false'. Refute it at one input. -/
def riskNamesWrong : ChangeSpec := { name := "riskNames", fn := fun _ => fun
  | [d1, d2] => { results := [.lit (.bool false)], args := [d1, d2] }
  | _ => none }
def RiskNamesWrongFalsely : Prop := riskNamesRow.holds Try.pinned (OpenSpec.ofChange riskNamesWrong)

/-- 'boltinglaw10.RiskAttrs': WHATEVER THE INPUT: true; the input reads as it did. -/
def riskAttrsSpec : ChangeSpec := { name := "riskAttrs", fn := fun _ => fun
  | [d1, d2] => { results := [.lit (.bool true)], args := [d1, d2] }
  | _ => none }
def riskAttrsRow : OpenClaim := { program := "ytkogkildipmnpaa", sum := "b2420ba7e136535512d8760df53baaf81be5981e12abb6d7a35146c77e7c3ae6", func := "bolting/boltinglaw10.RiskAttrs", spec := "riskAttrs", unfollowed := true, recurses := true, plainKeys := false, apart := false }
def RiskAttrsSaid : Prop := riskAttrsRow.holds Try.pinned (OpenSpec.ofChange riskAttrsSpec)

/-- ITS FALSE NEIGHBOUR: 'it returns false'. Refute it at one input. -/
def riskAttrsWrong : ChangeSpec := { name := "riskAttrs", fn := fun _ => fun
  | [d1, d2] => { results := [.lit (.bool false)], args := [d1, d2] }
  | _ => none }
def RiskAttrsWrongFalsely : Prop := riskAttrsRow.holds Try.pinned (OpenSpec.ofChange riskAttrsWrong)

/-- 'boltinglaw10.RiskParts': WHATEVER THE INPUT: true; the input reads as it did. -/
def riskPartsSpec : ChangeSpec := { name := "riskParts", fn := fun _ => fun
  | [d1, d2, d3] => { results := [.lit (.bool true)], args := [d1, d2, d3] }
  | _ => none }
def riskPartsRow : OpenClaim := { program := "ytkogkildipmnpaa", sum := "b2420ba7e136535512d8760df53baaf81be5981e12abb6d7a35146c77e7c3ae6", func := "bolting/boltinglaw10.RiskParts", spec := "riskParts", unfollowed := true, recurses := true, plainKeys := false, apart := false }
def RiskPartsSaid : Prop := riskPartsRow.holds Try.pinned (OpenSpec.ofChange riskPartsSpec)

/-- ITS FALSE NEIGHBOUR: 'it returns false'. Refute it at one input. -/
def riskPartsWrong : ChangeSpec := { name := "riskParts", fn := fun _ => fun
  | [d1, d2, d3] => { results := [.lit (.bool false)], args := [d1, d2, d3] }
  | _ => none }
def RiskPartsWrongFalsely : Prop := riskPartsRow.holds Try.pinned (OpenSpec.ofChange riskPartsWrong)

/-- 'boltinglaw10.RiskHandlers': WHATEVER THE INPUT: true; the input reads as it did. -/
def riskHandlersSpec : ChangeSpec := { name := "riskHandlers", fn := fun _ => fun
  | [d1, d2, d3] => { results := [.lit (.bool true)], args := [d1, d2, d3] }
  | _ => none }
def riskHandlersRow : OpenClaim := { program := "ytkogkildipmnpaa", sum := "b2420ba7e136535512d8760df53baaf81be5981e12abb6d7a35146c77e7c3ae6", func := "bolting/boltinglaw10.RiskHandlers", spec := "riskHandlers", unfollowed := true, recurses := true, plainKeys := false, apart := false }
def RiskHandlersSaid : Prop := riskHandlersRow.holds Try.pinned (OpenSpec.ofChange riskHandlersSpec)

/-- ITS FALSE NEIGHBOUR: 'it returns false'. Refute it at one input. -/
def riskHandlersWrong : ChangeSpec := { name := "riskHandlers", fn := fun _ => fun
  | [d1, d2, d3] => { results := [.lit (.bool false)], args := [d1, d2, d3] }
  | _ => none }
def RiskHandlersWrongFalsely : Prop := riskHandlersRow.holds Try.pinned (OpenSpec.ofChange riskHandlersWrong)

/-- 'boltinglaw10.RiskLinks': WHATEVER THE INPUT: true; the input reads as it did. -/
def riskLinksSpec : ChangeSpec := { name := "riskLinks", fn := fun _ => fun
  | [d1, d2, d3] => { results := [.lit (.bool true)], args := [d1, d2, d3] }
  | _ => none }
def riskLinksRow : OpenClaim := { program := "ytkogkildipmnpaa", sum := "b2420ba7e136535512d8760df53baaf81be5981e12abb6d7a35146c77e7c3ae6", func := "bolting/boltinglaw10.RiskLinks", spec := "riskLinks", unfollowed := true, recurses := true, plainKeys := false, apart := false }
def RiskLinksSaid : Prop := riskLinksRow.holds Try.pinned (OpenSpec.ofChange riskLinksSpec)

/-- ITS FALSE NEIGHBOUR: 'it returns false'. Refute it at one input. -/
def riskLinksWrong : ChangeSpec := { name := "riskLinks", fn := fun _ => fun
  | [d1, d2, d3] => { results := [.lit (.bool false)], args := [d1, d2, d3] }
  | _ => none }
def RiskLinksWrongFalsely : Prop := riskLinksRow.holds Try.pinned (OpenSpec.ofChange riskLinksWrong)

/-- 'boltinglaw10.RiskOrder': WHATEVER THE INPUT: true; the input reads as it did. -/
def riskOrderSpec : ChangeSpec := { name := "riskOrder", fn := fun _ => fun
  | [d] => { results := [.lit (.bool true)], args := [d] }
  | _ => none }
def riskOrderRow : OpenClaim := { program := "ytkogkildipmnpaa", sum := "b2420ba7e136535512d8760df53baaf81be5981e12abb6d7a35146c77e7c3ae6", func := "bolting/boltinglaw10.RiskOrder", spec := "riskOrder", unfollowed := true, recurses := true, plainKeys := false, apart := false }
def RiskOrderSaid : Prop := riskOrderRow.holds Try.pinned (OpenSpec.ofChange riskOrderSpec)

/-- ITS FALSE NEIGHBOUR: 'it returns false'. Refute it at one input. -/
def riskOrderWrong : ChangeSpec := { name := "riskOrder", fn := fun _ => fun
  | [d] => { results := [.lit (.bool false)], args := [d] }
  | _ => none }
def RiskOrderWrongFalsely : Prop := riskOrderRow.holds Try.pinned (OpenSpec.ofChange riskOrderWrong)

/- THE SECOND FORM. 'bulk': how many values and letters a reading holds, each counted each time it is reached (what is shared counts as often as it is met; a slice's spare places count too). A statement '..UptoSaid' is the law's where the arguments, and the package variables that the reading takes, are together of bulk at most 1048576: NARROWER than '..Said'. Prove '..Said' where nothing that the law and all that it calls make is longer than what came in: it says more and counts as full. Else prove '..UptoSaid'. A law counts once. -/
mutual
def uptoBulk {H : Type} : DataW H → Nat
  | .lit (.string bytes) => bytes.length + 1
  | .lit _ => 1
  | .nil => 1
  | .ptr d => uptoBulk d + 1
  | .slice elems spare => uptoBulkAll elems + uptoBulkAll spare + 1
  | .agg parts => uptoBulkAll parts + 1
  | .iface _ d => uptoBulk d + 1
  | .map entries => uptoBulkEntries entries + 1
  | .held _ => 1
def uptoBulkAll {H : Type} : List (DataW H) → Nat
  | [] => 0
  | d :: r => uptoBulk d + uptoBulkAll r
def uptoBulkEntries {H : Type} : List (Lit × DataW H) → Nat
  | [] => 0
  | x :: r => uptoBulkEntry x + uptoBulkEntries r
def uptoBulkEntry {H : Type} : Lit × DataW H → Nat
  | (.string bytes, d) => bytes.length + uptoBulk d + 1
  | (_, d) => uptoBulk d + 1
 end
def uptoSmall : (H : Type) → List (DataW H) → Bool := fun _ ds => decide (uptoBulkAll ds ≤ 1048576)
def OpenSpec.upto (s : _root_.Go.ChangeSpec) : _root_.Go.OpenSpec := { _root_.Go.OpenSpec.ofChange s with cond := some uptoSmall }

/-- 'boltinglaw10.RiskNames', WHERE WHAT IT READS IS OF BULK AT MOST 1048576: true; the input reads as it did. -/
def riskNamesUptoRow : OpenClaim := { program := "ytkogkildipmnpaa", sum := "b2420ba7e136535512d8760df53baaf81be5981e12abb6d7a35146c77e7c3ae6", func := "bolting/boltinglaw10.RiskNames", spec := "riskNames", unfollowed := true, recurses := true, plainKeys := false, apart := false, narrowed := true }
def RiskNamesUptoSaid : Prop := riskNamesUptoRow.holds Try.pinned (OpenSpec.upto riskNamesSpec)

/-- 'boltinglaw10.RiskAttrs', WHERE WHAT IT READS IS OF BULK AT MOST 1048576: true; the input reads as it did. -/
def riskAttrsUptoRow : OpenClaim := { program := "ytkogkildipmnpaa", sum := "b2420ba7e136535512d8760df53baaf81be5981e12abb6d7a35146c77e7c3ae6", func := "bolting/boltinglaw10.RiskAttrs", spec := "riskAttrs", unfollowed := true, recurses := true, plainKeys := false, apart := false, narrowed := true }
def RiskAttrsUptoSaid : Prop := riskAttrsUptoRow.holds Try.pinned (OpenSpec.upto riskAttrsSpec)

/-- 'boltinglaw10.RiskParts', WHERE WHAT IT READS IS OF BULK AT MOST 1048576: true; the input reads as it did. -/
def riskPartsUptoRow : OpenClaim := { program := "ytkogkildipmnpaa", sum := "b2420ba7e136535512d8760df53baaf81be5981e12abb6d7a35146c77e7c3ae6", func := "bolting/boltinglaw10.RiskParts", spec := "riskParts", unfollowed := true, recurses := true, plainKeys := false, apart := false, narrowed := true }
def RiskPartsUptoSaid : Prop := riskPartsUptoRow.holds Try.pinned (OpenSpec.upto riskPartsSpec)

/-- 'boltinglaw10.RiskHandlers', WHERE WHAT IT READS IS OF BULK AT MOST 1048576: true; the input reads as it did. -/
def riskHandlersUptoRow : OpenClaim := { program := "ytkogkildipmnpaa", sum := "b2420ba7e136535512d8760df53baaf81be5981e12abb6d7a35146c77e7c3ae6", func := "bolting/boltinglaw10.RiskHandlers", spec := "riskHandlers", unfollowed := true, recurses := true, plainKeys := false, apart := false, narrowed := true }
def RiskHandlersUptoSaid : Prop := riskHandlersUptoRow.holds Try.pinned (OpenSpec.upto riskHandlersSpec)

/-- 'boltinglaw10.RiskLinks', WHERE WHAT IT READS IS OF BULK AT MOST 1048576: true; the input reads as it did. -/
def riskLinksUptoRow : OpenClaim := { program := "ytkogkildipmnpaa", sum := "b2420ba7e136535512d8760df53baaf81be5981e12abb6d7a35146c77e7c3ae6", func := "bolting/boltinglaw10.RiskLinks", spec := "riskLinks", unfollowed := true, recurses := true, plainKeys := false, apart := false, narrowed := true }
def RiskLinksUptoSaid : Prop := riskLinksUptoRow.holds Try.pinned (OpenSpec.upto riskLinksSpec)

/-- 'boltinglaw10.RiskOrder', WHERE WHAT IT READS IS OF BULK AT MOST 1048576: true; the input reads as it did. -/
def riskOrderUptoRow : OpenClaim := { program := "ytkogkildipmnpaa", sum := "b2420ba7e136535512d8760df53baaf81be5981e12abb6d7a35146c77e7c3ae6", func := "bolting/boltinglaw10.RiskOrder", spec := "riskOrder", unfollowed := true, recurses := true, plainKeys := false, apart := false, narrowed := true }
def RiskOrderUptoSaid : Prop := riskOrderUptoRow.holds Try.pinned (OpenSpec.upto riskOrderSpec)

end Rows
end Go.Proofs.Ytkogkildipmnpaa
