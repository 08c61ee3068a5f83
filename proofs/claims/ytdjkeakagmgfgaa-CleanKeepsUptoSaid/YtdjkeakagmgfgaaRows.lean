/-
  No cell of these rows narrows 'for every input' (looked for: loops, veiled, ifaces, maps, wideKeys, modest, calm, conditions, laid).
  DERIVED. THE GIVEN ROWS OF THIS SEAT. 7 by the template 'for every input the law returns true; each argument reads behind the call as it read before'; 0 by the template 'total and deterministic' (their statements: YtdjkeakagmgfgaaTotals.lean).
  GIVEN WITH THE SEED: the statements are not yours to turn. If you find one false, say at which input.
  Laid BY PROGRAM, IN A SANDBOX (cutbox-rows.mjs): the forced cells as the released guide's own fill.sh prints them over the translation 91d5e9663939debd… (all of the seat's roots in one cut). By AI agents, Wed Nov 11 2026. No macro, syntax, notation, axiom, sorry.
-/
import Derived.Test.YtdjkeakagmgfgaaChecked
import GoSem.Claim
import GoSem.ClaimJoined
import GoSem.ClaimMapViews
import Derived.JoinedTies
import Derived.KernelRfl
namespace Go.Proofs.Ytdjkeakagmgfgaa
/- THE CELL 'sum', in the pinned program and in every row, IS THE sha256 OF THE DUMP (.gsa) THAT YtdjkeakagmgfgaaProg.lean LOADS. Nothing in Lean hashes anything: it is a label: what it is worth is what the hold of that sum in a sandbox is worth. -/
noncomputable def Try.pinned : Pinned := { name := "ytdjkeakagmgfgaa", sum := "91d5e9663939debd7d13a43df9c7216cb5b7639c384b67488ab055f21eff357a", checked := Try.checked }
namespace Rows
def none {H : Type} : Left H := { results := [], args := [] }

/-- 'boltinglaw13.CleanRows': WHATEVER THE INPUT: true; the input reads as it did. -/
def cleanRowsSpec : ChangeSpec := { name := "cleanRows", fn := fun _ => fun
  | [d1, d2, d3] => { results := [.lit (.bool true)], args := [d1, d2, d3] }
  | _ => none }
def cleanRowsRow : OpenClaim := { program := "ytdjkeakagmgfgaa", sum := "91d5e9663939debd7d13a43df9c7216cb5b7639c384b67488ab055f21eff357a", func := "bolting/boltinglaw13.CleanRows", spec := "cleanRows", unfollowed := true, recurses := true, plainKeys := false, apart := false }
def CleanRowsSaid : Prop := cleanRowsRow.holds Try.pinned (OpenSpec.ofChange cleanRowsSpec)

/-- ITS FALSE NEIGHBOUR: 'it returns false'. Refute it at one input. -/
def cleanRowsWrong : ChangeSpec := { name := "cleanRows", fn := fun _ => fun
  | [d1, d2, d3] => { results := [.lit (.bool false)], args := [d1, d2, d3] }
  | _ => none }
def CleanRowsWrongFalsely : Prop := cleanRowsRow.holds Try.pinned (OpenSpec.ofChange cleanRowsWrong)

/-- 'boltinglaw13.CleanSafe': WHATEVER THE INPUT: true; the input reads as it did. -/
def cleanSafeSpec : ChangeSpec := { name := "cleanSafe", fn := fun _ => fun
  | [d1, d2, d3] => { results := [.lit (.bool true)], args := [d1, d2, d3] }
  | _ => none }
def cleanSafeRow : OpenClaim := { program := "ytdjkeakagmgfgaa", sum := "91d5e9663939debd7d13a43df9c7216cb5b7639c384b67488ab055f21eff357a", func := "bolting/boltinglaw13.CleanSafe", spec := "cleanSafe", unfollowed := true, recurses := true, plainKeys := false, apart := false }
def CleanSafeSaid : Prop := cleanSafeRow.holds Try.pinned (OpenSpec.ofChange cleanSafeSpec)

/-- ITS FALSE NEIGHBOUR: 'it returns false'. Refute it at one input. -/
def cleanSafeWrong : ChangeSpec := { name := "cleanSafe", fn := fun _ => fun
  | [d1, d2, d3] => { results := [.lit (.bool false)], args := [d1, d2, d3] }
  | _ => none }
def CleanSafeWrongFalsely : Prop := cleanSafeRow.holds Try.pinned (OpenSpec.ofChange cleanSafeWrong)

/-- 'boltinglaw13.CleanSteps': WHATEVER THE INPUT: true; the input reads as it did. -/
def cleanStepsSpec : ChangeSpec := { name := "cleanSteps", fn := fun _ => fun
  | [d1, d2] => { results := [.lit (.bool true)], args := [d1, d2] }
  | _ => none }
def cleanStepsRow : OpenClaim := { program := "ytdjkeakagmgfgaa", sum := "91d5e9663939debd7d13a43df9c7216cb5b7639c384b67488ab055f21eff357a", func := "bolting/boltinglaw13.CleanSteps", spec := "cleanSteps", unfollowed := true, recurses := true, plainKeys := false, apart := false }
def CleanStepsSaid : Prop := cleanStepsRow.holds Try.pinned (OpenSpec.ofChange cleanStepsSpec)

/-- ITS FALSE NEIGHBOUR: 'it returns false'. Refute it at one input. -/
def cleanStepsWrong : ChangeSpec := { name := "cleanSteps", fn := fun _ => fun
  | [d1, d2] => { results := [.lit (.bool false)], args := [d1, d2] }
  | _ => none }
def CleanStepsWrongFalsely : Prop := cleanStepsRow.holds Try.pinned (OpenSpec.ofChange cleanStepsWrong)

/-- 'boltinglaw13.CleanKeeps': WHATEVER THE INPUT: true; the input reads as it did. -/
def cleanKeepsSpec : ChangeSpec := { name := "cleanKeeps", fn := fun _ => fun
  | [d] => { results := [.lit (.bool true)], args := [d] }
  | _ => none }
def cleanKeepsRow : OpenClaim := { program := "ytdjkeakagmgfgaa", sum := "91d5e9663939debd7d13a43df9c7216cb5b7639c384b67488ab055f21eff357a", func := "bolting/boltinglaw13.CleanKeeps", spec := "cleanKeeps", unfollowed := true, recurses := true, plainKeys := false, apart := false }
def CleanKeepsSaid : Prop := cleanKeepsRow.holds Try.pinned (OpenSpec.ofChange cleanKeepsSpec)

/-- ITS FALSE NEIGHBOUR: 'it returns false'. Refute it at one input. -/
def cleanKeepsWrong : ChangeSpec := { name := "cleanKeeps", fn := fun _ => fun
  | [d] => { results := [.lit (.bool false)], args := [d] }
  | _ => none }
def CleanKeepsWrongFalsely : Prop := cleanKeepsRow.holds Try.pinned (OpenSpec.ofChange cleanKeepsWrong)

/-- 'boltinglaw13.CleanTexts': WHATEVER THE INPUT: true; the input reads as it did. -/
def cleanTextsSpec : ChangeSpec := { name := "cleanTexts", fn := fun _ => fun
  | [d1, d2] => { results := [.lit (.bool true)], args := [d1, d2] }
  | _ => none }
def cleanTextsRow : OpenClaim := { program := "ytdjkeakagmgfgaa", sum := "91d5e9663939debd7d13a43df9c7216cb5b7639c384b67488ab055f21eff357a", func := "bolting/boltinglaw13.CleanTexts", spec := "cleanTexts", unfollowed := true, recurses := true, plainKeys := false, apart := false }
def CleanTextsSaid : Prop := cleanTextsRow.holds Try.pinned (OpenSpec.ofChange cleanTextsSpec)

/-- ITS FALSE NEIGHBOUR: 'it returns false'. Refute it at one input. -/
def cleanTextsWrong : ChangeSpec := { name := "cleanTexts", fn := fun _ => fun
  | [d1, d2] => { results := [.lit (.bool false)], args := [d1, d2] }
  | _ => none }
def CleanTextsWrongFalsely : Prop := cleanTextsRow.holds Try.pinned (OpenSpec.ofChange cleanTextsWrong)

/-- 'boltinglaw13.CleanAttrs': WHATEVER THE INPUT: true; the input reads as it did. -/
def cleanAttrsSpec : ChangeSpec := { name := "cleanAttrs", fn := fun _ => fun
  | [d1, d2] => { results := [.lit (.bool true)], args := [d1, d2] }
  | _ => none }
def cleanAttrsRow : OpenClaim := { program := "ytdjkeakagmgfgaa", sum := "91d5e9663939debd7d13a43df9c7216cb5b7639c384b67488ab055f21eff357a", func := "bolting/boltinglaw13.CleanAttrs", spec := "cleanAttrs", unfollowed := true, recurses := true, plainKeys := false, apart := false }
def CleanAttrsSaid : Prop := cleanAttrsRow.holds Try.pinned (OpenSpec.ofChange cleanAttrsSpec)

/-- ITS FALSE NEIGHBOUR: 'it returns false'. Refute it at one input. -/
def cleanAttrsWrong : ChangeSpec := { name := "cleanAttrs", fn := fun _ => fun
  | [d1, d2] => { results := [.lit (.bool false)], args := [d1, d2] }
  | _ => none }
def CleanAttrsWrongFalsely : Prop := cleanAttrsRow.holds Try.pinned (OpenSpec.ofChange cleanAttrsWrong)

/-- 'boltinglaw13.CleanReplaces': WHATEVER THE INPUT: true; the input reads as it did. -/
def cleanReplacesSpec : ChangeSpec := { name := "cleanReplaces", fn := fun _ => fun
  | [d1, d2] => { results := [.lit (.bool true)], args := [d1, d2] }
  | _ => none }
def cleanReplacesRow : OpenClaim := { program := "ytdjkeakagmgfgaa", sum := "91d5e9663939debd7d13a43df9c7216cb5b7639c384b67488ab055f21eff357a", func := "bolting/boltinglaw13.CleanReplaces", spec := "cleanReplaces", unfollowed := true, recurses := true, plainKeys := false, apart := false }
def CleanReplacesSaid : Prop := cleanReplacesRow.holds Try.pinned (OpenSpec.ofChange cleanReplacesSpec)

/-- ITS FALSE NEIGHBOUR: 'it returns false'. Refute it at one input. -/
def cleanReplacesWrong : ChangeSpec := { name := "cleanReplaces", fn := fun _ => fun
  | [d1, d2] => { results := [.lit (.bool false)], args := [d1, d2] }
  | _ => none }
def CleanReplacesWrongFalsely : Prop := cleanReplacesRow.holds Try.pinned (OpenSpec.ofChange cleanReplacesWrong)

/- THE SECOND FORM. 'bulk': how many values and letters a reading holds, each counted each time it is reached (what is shared counts as often as it is met; a slice's spare places count too). A statement '..UptoSaid' is the law's where the arguments, and the package variables that the reading takes, are together of bulk at most 1048576: NARROWER than '..Said'. Prove '..Said' where nothing that the law and all that it calls make is longer than what came in: it says more and counts as full. Else prove '..UptoSaid'. A law counts once. -/
mutual
def uptoBulk {H : Type} : DataW H → Nat
  | .lit (.string bytes) => bytes.length + 1
  | .lit _ => 1
  | .nil => 1
  | .ptr d => uptoBulk d + 1
  | .slice elems spare => uptoBulkAll elems + uptoBulkAll spare + 1
  | .agg parts => uptoBulkAll parts + 1
  | .iface _ d => uptoBulk d + 1
  | .map entries => uptoBulkEntries entries + 1
  | .held _ => 1
def uptoBulkAll {H : Type} : List (DataW H) → Nat
  | [] => 0
  | d :: r => uptoBulk d + uptoBulkAll r
def uptoBulkEntries {H : Type} : List (Lit × DataW H) → Nat
  | [] => 0
  | x :: r => uptoBulkEntry x + uptoBulkEntries r
def uptoBulkEntry {H : Type} : Lit × DataW H → Nat
  | (.string bytes, d) => bytes.length + uptoBulk d + 1
  | (_, d) => uptoBulk d + 1
 end
def uptoSmall : (H : Type) → List (DataW H) → Bool := fun _ ds => decide (uptoBulkAll ds ≤ 1048576)
def OpenSpec.upto (s : _root_.Go.ChangeSpec) : _root_.Go.OpenSpec := { _root_.Go.OpenSpec.ofChange s with cond := some uptoSmall }

/-- 'boltinglaw13.CleanRows', WHERE WHAT IT READS IS OF BULK AT MOST 1048576: true; the input reads as it did. -/
def cleanRowsUptoRow : OpenClaim := { program := "ytdjkeakagmgfgaa", sum := "91d5e9663939debd7d13a43df9c7216cb5b7639c384b67488ab055f21eff357a", func := "bolting/boltinglaw13.CleanRows", spec := "cleanRows", unfollowed := true, recurses := true, plainKeys := false, apart := false, narrowed := true }
def CleanRowsUptoSaid : Prop := cleanRowsUptoRow.holds Try.pinned (OpenSpec.upto cleanRowsSpec)

/-- 'boltinglaw13.CleanSafe', WHERE WHAT IT READS IS OF BULK AT MOST 1048576: true; the input reads as it did. -/
def cleanSafeUptoRow : OpenClaim := { program := "ytdjkeakagmgfgaa", sum := "91d5e9663939debd7d13a43df9c7216cb5b7639c384b67488ab055f21eff357a", func := "bolting/boltinglaw13.CleanSafe", spec := "cleanSafe", unfollowed := true, recurses := true, plainKeys := false, apart := false, narrowed := true }
def CleanSafeUptoSaid : Prop := cleanSafeUptoRow.holds Try.pinned (OpenSpec.upto cleanSafeSpec)

/-- 'boltinglaw13.CleanSteps', WHERE WHAT IT READS IS OF BULK AT MOST 1048576: true; the input reads as it did. -/
def cleanStepsUptoRow : OpenClaim := { program := "ytdjkeakagmgfgaa", sum := "91d5e9663939debd7d13a43df9c7216cb5b7639c384b67488ab055f21eff357a", func := "bolting/boltinglaw13.CleanSteps", spec := "cleanSteps", unfollowed := true, recurses := true, plainKeys := false, apart := false, narrowed := true }
def CleanStepsUptoSaid : Prop := cleanStepsUptoRow.holds Try.pinned (OpenSpec.upto cleanStepsSpec)

/-- 'boltinglaw13.CleanKeeps', WHERE WHAT IT READS IS OF BULK AT MOST 1048576: true; the input reads as it did. -/
def cleanKeepsUptoRow : OpenClaim := { program := "ytdjkeakagmgfgaa", sum := "91d5e9663939debd7d13a43df9c7216cb5b7639c384b67488ab055f21eff357a", func := "bolting/boltinglaw13.CleanKeeps", spec := "cleanKeeps", unfollowed := true, recurses := true, plainKeys := false, apart := false, narrowed := true }
def CleanKeepsUptoSaid : Prop := cleanKeepsUptoRow.holds Try.pinned (OpenSpec.upto cleanKeepsSpec)

/-- 'boltinglaw13.CleanTexts', WHERE WHAT IT READS IS OF BULK AT MOST 1048576: true; the input reads as it did. -/
def cleanTextsUptoRow : OpenClaim := { program := "ytdjkeakagmgfgaa", sum := "91d5e9663939debd7d13a43df9c7216cb5b7639c384b67488ab055f21eff357a", func := "bolting/boltinglaw13.CleanTexts", spec := "cleanTexts", unfollowed := true, recurses := true, plainKeys := false, apart := false, narrowed := true }
def CleanTextsUptoSaid : Prop := cleanTextsUptoRow.holds Try.pinned (OpenSpec.upto cleanTextsSpec)

/-- 'boltinglaw13.CleanAttrs', WHERE WHAT IT READS IS OF BULK AT MOST 1048576: true; the input reads as it did. -/
def cleanAttrsUptoRow : OpenClaim := { program := "ytdjkeakagmgfgaa", sum := "91d5e9663939debd7d13a43df9c7216cb5b7639c384b67488ab055f21eff357a", func := "bolting/boltinglaw13.CleanAttrs", spec := "cleanAttrs", unfollowed := true, recurses := true, plainKeys := false, apart := false, narrowed := true }
def CleanAttrsUptoSaid : Prop := cleanAttrsUptoRow.holds Try.pinned (OpenSpec.upto cleanAttrsSpec)

/-- 'boltinglaw13.CleanReplaces', WHERE WHAT IT READS IS OF BULK AT MOST 1048576: true; the input reads as it did. -/
def cleanReplacesUptoRow : OpenClaim := { program := "ytdjkeakagmgfgaa", sum := "91d5e9663939debd7d13a43df9c7216cb5b7639c384b67488ab055f21eff357a", func := "bolting/boltinglaw13.CleanReplaces", spec := "cleanReplaces", unfollowed := true, recurses := true, plainKeys := false, apart := false, narrowed := true }
def CleanReplacesUptoSaid : Prop := cleanReplacesUptoRow.holds Try.pinned (OpenSpec.upto cleanReplacesSpec)

end Rows
end Go.Proofs.Ytdjkeakagmgfgaa
