/-
  No cell of these rows narrows 'for every input' (looked for: loops, veiled, ifaces, maps, wideKeys, modest, calm, conditions, laid).
  DERIVED. THE GIVEN ROWS OF THIS SEAT. 7 by the template 'for every input the law returns true; each argument reads behind the call as it read before'; 0 by the template 'total and deterministic' (their statements: YthgpjhblbpiagaaTotals.lean).
  GIVEN WITH THE SEED: the statements are not yours to turn. If you find one false, say at which input.
  Laid BY PROGRAM, IN A SANDBOX (cutbox-rows.mjs): the forced cells as the released guide's own fill.sh prints them over the translation 7a50c924d234a084… (all of the seat's roots in one cut). By AI agents, Wed Nov 11 2026. No macro, syntax, notation, axiom, sorry.
-/
import Derived.Test.YthgpjhblbpiagaaChecked
import GoSem.Claim
import GoSem.ClaimJoined
import GoSem.ClaimMapViews
import Derived.JoinedTies
import Derived.KernelRfl
namespace Go.Proofs.Ythgpjhblbpiagaa
/- THE CELL 'sum', in the pinned program and in every row, IS THE sha256 OF THE DUMP (.gsa) THAT YthgpjhblbpiagaaProg.lean LOADS. Nothing in Lean hashes anything: it is a label: what it is worth is what the hold of that sum in a sandbox is worth. -/
noncomputable def Try.pinned : Pinned := { name := "ythgpjhblbpiagaa", sum := "7a50c924d234a0843510ce109e1d8376d81d4f767599285090477b112f4160bf", checked := Try.checked }
namespace Rows
def none {H : Type} : Left H := { results := [], args := [] }

/-- 'boltinglaw15.HeaderParses': WHATEVER THE INPUT: true; the input reads as it did. -/
def headerParsesSpec : ChangeSpec := { name := "headerParses", fn := fun _ => fun
  | [d1, d2] => { results := [.lit (.bool true)], args := [d1, d2] }
  | _ => none }
def headerParsesRow : OpenClaim := { program := "ythgpjhblbpiagaa", sum := "7a50c924d234a0843510ce109e1d8376d81d4f767599285090477b112f4160bf", func := "bolting/boltinglaw15.HeaderParses", spec := "headerParses", unfollowed := true, recurses := true, apart := false }
def HeaderParsesSaid : Prop := headerParsesRow.holds Try.pinned (OpenSpec.ofChange headerParsesSpec)

/-- ITS FALSE NEIGHBOUR: 'it returns false'. Refute it at one input. -/
def headerParsesWrong : ChangeSpec := { name := "headerParses", fn := fun _ => fun
  | [d1, d2] => { results := [.lit (.bool false)], args := [d1, d2] }
  | _ => none }
def HeaderParsesWrongFalsely : Prop := headerParsesRow.holds Try.pinned (OpenSpec.ofChange headerParsesWrong)

/-- 'boltinglaw15.HeaderAllows': WHATEVER THE INPUT: true; the input reads as it did. -/
def headerAllowsSpec : ChangeSpec := { name := "headerAllows", fn := fun _ => fun
  | [d1, d2, d3] => { results := [.lit (.bool true)], args := [d1, d2, d3] }
  | _ => none }
def headerAllowsRow : OpenClaim := { program := "ythgpjhblbpiagaa", sum := "7a50c924d234a0843510ce109e1d8376d81d4f767599285090477b112f4160bf", func := "bolting/boltinglaw15.HeaderAllows", spec := "headerAllows", unfollowed := true, recurses := true, apart := false }
def HeaderAllowsSaid : Prop := headerAllowsRow.holds Try.pinned (OpenSpec.ofChange headerAllowsSpec)

/-- ITS FALSE NEIGHBOUR: 'it returns false'. Refute it at one input. -/
def headerAllowsWrong : ChangeSpec := { name := "headerAllows", fn := fun _ => fun
  | [d1, d2, d3] => { results := [.lit (.bool false)], args := [d1, d2, d3] }
  | _ => none }
def HeaderAllowsWrongFalsely : Prop := headerAllowsRow.holds Try.pinned (OpenSpec.ofChange headerAllowsWrong)

/-- 'boltinglaw15.HeaderLess': WHATEVER THE INPUT: true; the input reads as it did. -/
def headerLessSpec : ChangeSpec := { name := "headerLess", fn := fun _ => fun
  | [d1, d2, d3] => { results := [.lit (.bool true)], args := [d1, d2, d3] }
  | _ => none }
def headerLessRow : OpenClaim := { program := "ythgpjhblbpiagaa", sum := "7a50c924d234a0843510ce109e1d8376d81d4f767599285090477b112f4160bf", func := "bolting/boltinglaw15.HeaderLess", spec := "headerLess", unfollowed := true, recurses := true, apart := false }
def HeaderLessSaid : Prop := headerLessRow.holds Try.pinned (OpenSpec.ofChange headerLessSpec)

/-- ITS FALSE NEIGHBOUR: 'it returns false'. Refute it at one input. -/
def headerLessWrong : ChangeSpec := { name := "headerLess", fn := fun _ => fun
  | [d1, d2, d3] => { results := [.lit (.bool false)], args := [d1, d2, d3] }
  | _ => none }
def HeaderLessWrongFalsely : Prop := headerLessRow.holds Try.pinned (OpenSpec.ofChange headerLessWrong)

/-- 'boltinglaw15.HeaderNames': WHATEVER THE INPUT: true; the input reads as it did. -/
def headerNamesSpec : ChangeSpec := { name := "headerNames", fn := fun _ => fun
  | [d1, d2, d3] => { results := [.lit (.bool true)], args := [d1, d2, d3] }
  | _ => none }
def headerNamesRow : OpenClaim := { program := "ythgpjhblbpiagaa", sum := "7a50c924d234a0843510ce109e1d8376d81d4f767599285090477b112f4160bf", func := "bolting/boltinglaw15.HeaderNames", spec := "headerNames", unfollowed := true, recurses := true, apart := false }
def HeaderNamesSaid : Prop := headerNamesRow.holds Try.pinned (OpenSpec.ofChange headerNamesSpec)

/-- ITS FALSE NEIGHBOUR: 'it returns false'. Refute it at one input. -/
def headerNamesWrong : ChangeSpec := { name := "headerNames", fn := fun _ => fun
  | [d1, d2, d3] => { results := [.lit (.bool false)], args := [d1, d2, d3] }
  | _ => none }
def HeaderNamesWrongFalsely : Prop := headerNamesRow.holds Try.pinned (OpenSpec.ofChange headerNamesWrong)

/-- 'boltinglaw15.HeaderParts': WHATEVER THE INPUT: true; the input reads as it did. -/
def headerPartsSpec : ChangeSpec := { name := "headerParts", fn := fun _ => fun
  | [d] => { results := [.lit (.bool true)], args := [d] }
  | _ => none }
def headerPartsRow : OpenClaim := { program := "ythgpjhblbpiagaa", sum := "7a50c924d234a0843510ce109e1d8376d81d4f767599285090477b112f4160bf", func := "bolting/boltinglaw15.HeaderParts", spec := "headerParts", unfollowed := true, recurses := true, apart := false }
def HeaderPartsSaid : Prop := headerPartsRow.holds Try.pinned (OpenSpec.ofChange headerPartsSpec)

/-- ITS FALSE NEIGHBOUR: 'it returns false'. Refute it at one input. -/
def headerPartsWrong : ChangeSpec := { name := "headerParts", fn := fun _ => fun
  | [d] => { results := [.lit (.bool false)], args := [d] }
  | _ => none }
def HeaderPartsWrongFalsely : Prop := headerPartsRow.holds Try.pinned (OpenSpec.ofChange headerPartsWrong)

/-- 'boltinglaw15.HeaderOn': WHATEVER THE INPUT: true; the input reads as it did. -/
def headerOnSpec : ChangeSpec := { name := "headerOn", fn := fun _ => fun
  | [d1, d2] => { results := [.lit (.bool true)], args := [d1, d2] }
  | _ => none }
def headerOnRow : OpenClaim := { program := "ythgpjhblbpiagaa", sum := "7a50c924d234a0843510ce109e1d8376d81d4f767599285090477b112f4160bf", func := "bolting/boltinglaw15.HeaderOn", spec := "headerOn", unfollowed := true, recurses := true, apart := false }
def HeaderOnSaid : Prop := headerOnRow.holds Try.pinned (OpenSpec.ofChange headerOnSpec)

/-- ITS FALSE NEIGHBOUR: 'it returns false'. Refute it at one input. -/
def headerOnWrong : ChangeSpec := { name := "headerOn", fn := fun _ => fun
  | [d1, d2] => { results := [.lit (.bool false)], args := [d1, d2] }
  | _ => none }
def HeaderOnWrongFalsely : Prop := headerOnRow.holds Try.pinned (OpenSpec.ofChange headerOnWrong)

/-- 'boltinglaw15.HeaderTwice': WHATEVER THE INPUT: true; the input reads as it did. -/
def headerTwiceSpec : ChangeSpec := { name := "headerTwice", fn := fun _ => fun
  | [d] => { results := [.lit (.bool true)], args := [d] }
  | _ => none }
def headerTwiceRow : OpenClaim := { program := "ythgpjhblbpiagaa", sum := "7a50c924d234a0843510ce109e1d8376d81d4f767599285090477b112f4160bf", func := "bolting/boltinglaw15.HeaderTwice", spec := "headerTwice", unfollowed := true, recurses := true, apart := false }
def HeaderTwiceSaid : Prop := headerTwiceRow.holds Try.pinned (OpenSpec.ofChange headerTwiceSpec)

/-- ITS FALSE NEIGHBOUR: 'it returns false'. Refute it at one input. -/
def headerTwiceWrong : ChangeSpec := { name := "headerTwice", fn := fun _ => fun
  | [d] => { results := [.lit (.bool false)], args := [d] }
  | _ => none }
def HeaderTwiceWrongFalsely : Prop := headerTwiceRow.holds Try.pinned (OpenSpec.ofChange headerTwiceWrong)

/- THE SECOND FORM. 'bulk': how many values and letters a reading holds, each counted each time it is reached (what is shared counts as often as it is met; a slice's spare places count too). A statement '..UptoSaid' is the law's where the arguments, and the package variables that the reading takes, are together of bulk at most 1048576: NARROWER than '..Said'. Prove '..Said' where nothing that the law and all that it calls make is longer than what came in: it says more and counts as full. Else prove '..UptoSaid'. A law counts once. -/
mutual
def uptoBulk {H : Type} : DataW H → Nat
  | .lit (.string bytes) => bytes.length + 1
  | .lit _ => 1
  | .nil => 1
  | .ptr d => uptoBulk d + 1
  | .slice elems spare => uptoBulkAll elems + uptoBulkAll spare + 1
  | .agg parts => uptoBulkAll parts + 1
  | .iface _ d => uptoBulk d + 1
  | .map entries => uptoBulkEntries entries + 1
  | .held _ => 1
def uptoBulkAll {H : Type} : List (DataW H) → Nat
  | [] => 0
  | d :: r => uptoBulk d + uptoBulkAll r
def uptoBulkEntries {H : Type} : List (Lit × DataW H) → Nat
  | [] => 0
  | x :: r => uptoBulkEntry x + uptoBulkEntries r
def uptoBulkEntry {H : Type} : Lit × DataW H → Nat
  | (.string bytes, d) => bytes.length + uptoBulk d + 1
  | (_, d) => uptoBulk d + 1
 end
def uptoSmall : (H : Type) → List (DataW H) → Bool := fun _ ds => decide (uptoBulkAll ds ≤ 1048576)
def OpenSpec.upto (s : _root_.Go.ChangeSpec) : _root_.Go.OpenSpec := { _root_.Go.OpenSpec.ofChange s with cond := some uptoSmall }

/-- 'boltinglaw15.HeaderParses', WHERE WHAT IT READS IS OF BULK AT MOST 1048576: true; the input reads as it did. -/
def headerParsesUptoRow : OpenClaim := { program := "ythgpjhblbpiagaa", sum := "7a50c924d234a0843510ce109e1d8376d81d4f767599285090477b112f4160bf", func := "bolting/boltinglaw15.HeaderParses", spec := "headerParses", unfollowed := true, recurses := true, apart := false, narrowed := true }
def HeaderParsesUptoSaid : Prop := headerParsesUptoRow.holds Try.pinned (OpenSpec.upto headerParsesSpec)

/-- 'boltinglaw15.HeaderAllows', WHERE WHAT IT READS IS OF BULK AT MOST 1048576: true; the input reads as it did. -/
def headerAllowsUptoRow : OpenClaim := { program := "ythgpjhblbpiagaa", sum := "7a50c924d234a0843510ce109e1d8376d81d4f767599285090477b112f4160bf", func := "bolting/boltinglaw15.HeaderAllows", spec := "headerAllows", unfollowed := true, recurses := true, apart := false, narrowed := true }
def HeaderAllowsUptoSaid : Prop := headerAllowsUptoRow.holds Try.pinned (OpenSpec.upto headerAllowsSpec)

/-- 'boltinglaw15.HeaderLess', WHERE WHAT IT READS IS OF BULK AT MOST 1048576: true; the input reads as it did. -/
def headerLessUptoRow : OpenClaim := { program := "ythgpjhblbpiagaa", sum := "7a50c924d234a0843510ce109e1d8376d81d4f767599285090477b112f4160bf", func := "bolting/boltinglaw15.HeaderLess", spec := "headerLess", unfollowed := true, recurses := true, apart := false, narrowed := true }
def HeaderLessUptoSaid : Prop := headerLessUptoRow.holds Try.pinned (OpenSpec.upto headerLessSpec)

/-- 'boltinglaw15.HeaderNames', WHERE WHAT IT READS IS OF BULK AT MOST 1048576: true; the input reads as it did. -/
def headerNamesUptoRow : OpenClaim := { program := "ythgpjhblbpiagaa", sum := "7a50c924d234a0843510ce109e1d8376d81d4f767599285090477b112f4160bf", func := "bolting/boltinglaw15.HeaderNames", spec := "headerNames", unfollowed := true, recurses := true, apart := false, narrowed := true }
def HeaderNamesUptoSaid : Prop := headerNamesUptoRow.holds Try.pinned (OpenSpec.upto headerNamesSpec)

/-- 'boltinglaw15.HeaderParts', WHERE WHAT IT READS IS OF BULK AT MOST 1048576: true; the input reads as it did. -/
def headerPartsUptoRow : OpenClaim := { program := "ythgpjhblbpiagaa", sum := "7a50c924d234a0843510ce109e1d8376d81d4f767599285090477b112f4160bf", func := "bolting/boltinglaw15.HeaderParts", spec := "headerParts", unfollowed := true, recurses := true, apart := false, narrowed := true }
def HeaderPartsUptoSaid : Prop := headerPartsUptoRow.holds Try.pinned (OpenSpec.upto headerPartsSpec)

/-- 'boltinglaw15.HeaderOn', WHERE WHAT IT READS IS OF BULK AT MOST 1048576: true; the input reads as it did. -/
def headerOnUptoRow : OpenClaim := { program := "ythgpjhblbpiagaa", sum := "7a50c924d234a0843510ce109e1d8376d81d4f767599285090477b112f4160bf", func := "bolting/boltinglaw15.HeaderOn", spec := "headerOn", unfollowed := true, recurses := true, apart := false, narrowed := true }
def HeaderOnUptoSaid : Prop := headerOnUptoRow.holds Try.pinned (OpenSpec.upto headerOnSpec)

/-- 'boltinglaw15.HeaderTwice', WHERE WHAT IT READS IS OF BULK AT MOST 1048576: true; the input reads as it did. -/
def headerTwiceUptoRow : OpenClaim := { program := "ythgpjhblbpiagaa", sum := "7a50c924d234a0843510ce109e1d8376d81d4f767599285090477b112f4160bf", func := "bolting/boltinglaw15.HeaderTwice", spec := "headerTwice", unfollowed := true, recurses := true, apart := false, narrowed := true }
def HeaderTwiceUptoSaid : Prop := headerTwiceUptoRow.holds Try.pinned (OpenSpec.upto headerTwiceSpec)

end Rows
end Go.Proofs.Ythgpjhblbpiagaa
