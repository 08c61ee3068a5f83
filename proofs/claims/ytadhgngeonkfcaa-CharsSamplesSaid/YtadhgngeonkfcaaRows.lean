/-
  No cell of these rows narrows 'for every input' (looked for: loops, veiled, ifaces, maps, wideKeys, modest, calm, conditions, laid).
  DERIVED. THE GIVEN ROWS OF THIS SEAT. 8 by the template 'for every input the law returns true; each argument reads behind the call as it read before'; 0 by the template 'total and deterministic' (their statements: YtadhgngeonkfcaaTotals.lean).
  GIVEN WITH THE SEED: the statements are not yours to turn. If you find one false, say at which input.
  Laid BY PROGRAM, IN A SANDBOX (cutbox-rows.mjs): the forced cells as the released guide's own fill.sh prints them over the translation 0bd8e6dbb4ebe719… (all of the seat's roots in one cut). By AI agents, Wed Nov 11 2026. No macro, syntax, notation, axiom, sorry.
-/
import Derived.Test.YtadhgngeonkfcaaChecked
import GoSem.Claim
import GoSem.ClaimJoined
import GoSem.ClaimMapViews
import Derived.JoinedTies
import Derived.KernelRfl
namespace Go.Proofs.Ytadhgngeonkfcaa
/- THE CELL 'sum', in the pinned program and in every row, IS THE sha256 OF THE DUMP (.gsa) THAT YtadhgngeonkfcaaProg.lean LOADS. Nothing in Lean hashes anything: it is a label: what it is worth is what the hold of that sum in a sandbox is worth. -/
noncomputable def Try.pinned : Pinned := { name := "ytadhgngeonkfcaa", sum := "0bd8e6dbb4ebe719f12e5ce796ff3ceda5d8f8a8a2760832741f666a328b5955", checked := Try.checked }
namespace Rows
def none {H : Type} : Left H := { results := [], args := [] }

/-- 'boltinglaw01.CharsDecodes': WHATEVER THE INPUT: true; the input reads as it did. -/
def charsDecodesSpec : ChangeSpec := { name := "charsDecodes", fn := fun _ => fun
  | [d] => { results := [.lit (.bool true)], args := [d] }
  | _ => none }
def charsDecodesRow : OpenClaim := { program := "ytadhgngeonkfcaa", sum := "0bd8e6dbb4ebe719f12e5ce796ff3ceda5d8f8a8a2760832741f666a328b5955", func := "bolting/boltinglaw01.CharsDecodes", spec := "charsDecodes", apart := false }
def CharsDecodesSaid : Prop := charsDecodesRow.holds Try.pinned (OpenSpec.ofChange charsDecodesSpec)

/-- ITS FALSE NEIGHBOUR: 'it returns false'. Refute it at one input. -/
def charsDecodesWrong : ChangeSpec := { name := "charsDecodes", fn := fun _ => fun
  | [d] => { results := [.lit (.bool false)], args := [d] }
  | _ => none }
def CharsDecodesWrongFalsely : Prop := charsDecodesRow.holds Try.pinned (OpenSpec.ofChange charsDecodesWrong)

/-- 'boltinglaw01.CharsLines': WHATEVER THE INPUT: true; the input reads as it did. -/
def charsLinesSpec : ChangeSpec := { name := "charsLines", fn := fun _ => fun
  | [d] => { results := [.lit (.bool true)], args := [d] }
  | _ => none }
def charsLinesRow : OpenClaim := { program := "ytadhgngeonkfcaa", sum := "0bd8e6dbb4ebe719f12e5ce796ff3ceda5d8f8a8a2760832741f666a328b5955", func := "bolting/boltinglaw01.CharsLines", spec := "charsLines", apart := false }
def CharsLinesSaid : Prop := charsLinesRow.holds Try.pinned (OpenSpec.ofChange charsLinesSpec)

/-- ITS FALSE NEIGHBOUR: 'it returns false'. Refute it at one input. -/
def charsLinesWrong : ChangeSpec := { name := "charsLines", fn := fun _ => fun
  | [d] => { results := [.lit (.bool false)], args := [d] }
  | _ => none }
def CharsLinesWrongFalsely : Prop := charsLinesRow.holds Try.pinned (OpenSpec.ofChange charsLinesWrong)

/-- 'boltinglaw01.CharsSamples': WHATEVER THE INPUT: true; the input reads as it did. -/
def charsSamplesSpec : ChangeSpec := { name := "charsSamples", fn := fun _ => fun
  | [d1, d2] => { results := [.lit (.bool true)], args := [d1, d2] }
  | _ => none }
def charsSamplesRow : OpenClaim := { program := "ytadhgngeonkfcaa", sum := "0bd8e6dbb4ebe719f12e5ce796ff3ceda5d8f8a8a2760832741f666a328b5955", func := "bolting/boltinglaw01.CharsSamples", spec := "charsSamples", apart := false }
def CharsSamplesSaid : Prop := charsSamplesRow.holds Try.pinned (OpenSpec.ofChange charsSamplesSpec)

/-- ITS FALSE NEIGHBOUR: 'it returns false'. Refute it at one input. -/
def charsSamplesWrong : ChangeSpec := { name := "charsSamples", fn := fun _ => fun
  | [d1, d2] => { results := [.lit (.bool false)], args := [d1, d2] }
  | _ => none }
def CharsSamplesWrongFalsely : Prop := charsSamplesRow.holds Try.pinned (OpenSpec.ofChange charsSamplesWrong)

/-- 'boltinglaw01.CharsAgain': WHATEVER THE INPUT: true; the input reads as it did. -/
def charsAgainSpec : ChangeSpec := { name := "charsAgain", fn := fun _ => fun
  | [d] => { results := [.lit (.bool true)], args := [d] }
  | _ => none }
def charsAgainRow : OpenClaim := { program := "ytadhgngeonkfcaa", sum := "0bd8e6dbb4ebe719f12e5ce796ff3ceda5d8f8a8a2760832741f666a328b5955", func := "bolting/boltinglaw01.CharsAgain", spec := "charsAgain", apart := false }
def CharsAgainSaid : Prop := charsAgainRow.holds Try.pinned (OpenSpec.ofChange charsAgainSpec)

/-- ITS FALSE NEIGHBOUR: 'it returns false'. Refute it at one input. -/
def charsAgainWrong : ChangeSpec := { name := "charsAgain", fn := fun _ => fun
  | [d] => { results := [.lit (.bool false)], args := [d] }
  | _ => none }
def CharsAgainWrongFalsely : Prop := charsAgainRow.holds Try.pinned (OpenSpec.ofChange charsAgainWrong)

/-- 'boltinglaw01.CharsJoins': WHATEVER THE INPUT: true; the input reads as it did. -/
def charsJoinsSpec : ChangeSpec := { name := "charsJoins", fn := fun _ => fun
  | [d1, d2] => { results := [.lit (.bool true)], args := [d1, d2] }
  | _ => none }
def charsJoinsRow : OpenClaim := { program := "ytadhgngeonkfcaa", sum := "0bd8e6dbb4ebe719f12e5ce796ff3ceda5d8f8a8a2760832741f666a328b5955", func := "bolting/boltinglaw01.CharsJoins", spec := "charsJoins", apart := false }
def CharsJoinsSaid : Prop := charsJoinsRow.holds Try.pinned (OpenSpec.ofChange charsJoinsSpec)

/-- ITS FALSE NEIGHBOUR: 'it returns false'. Refute it at one input. -/
def charsJoinsWrong : ChangeSpec := { name := "charsJoins", fn := fun _ => fun
  | [d1, d2] => { results := [.lit (.bool false)], args := [d1, d2] }
  | _ => none }
def CharsJoinsWrongFalsely : Prop := charsJoinsRow.holds Try.pinned (OpenSpec.ofChange charsJoinsWrong)

/-- 'boltinglaw01.CharsParts': WHATEVER THE INPUT: true; the input reads as it did. -/
def charsPartsSpec : ChangeSpec := { name := "charsParts", fn := fun _ => fun
  | [d1, d2] => { results := [.lit (.bool true)], args := [d1, d2] }
  | _ => none }
def charsPartsRow : OpenClaim := { program := "ytadhgngeonkfcaa", sum := "0bd8e6dbb4ebe719f12e5ce796ff3ceda5d8f8a8a2760832741f666a328b5955", func := "bolting/boltinglaw01.CharsParts", spec := "charsParts", apart := false }
def CharsPartsSaid : Prop := charsPartsRow.holds Try.pinned (OpenSpec.ofChange charsPartsSpec)

/-- ITS FALSE NEIGHBOUR: 'it returns false'. Refute it at one input. -/
def charsPartsWrong : ChangeSpec := { name := "charsParts", fn := fun _ => fun
  | [d1, d2] => { results := [.lit (.bool false)], args := [d1, d2] }
  | _ => none }
def CharsPartsWrongFalsely : Prop := charsPartsRow.holds Try.pinned (OpenSpec.ofChange charsPartsWrong)

/-- 'boltinglaw01.CharsPlain': WHATEVER THE INPUT: true; the input reads as it did. -/
def charsPlainSpec : ChangeSpec := { name := "charsPlain", fn := fun _ => fun
  | [d] => { results := [.lit (.bool true)], args := [d] }
  | _ => none }
def charsPlainRow : OpenClaim := { program := "ytadhgngeonkfcaa", sum := "0bd8e6dbb4ebe719f12e5ce796ff3ceda5d8f8a8a2760832741f666a328b5955", func := "bolting/boltinglaw01.CharsPlain", spec := "charsPlain", apart := false }
def CharsPlainSaid : Prop := charsPlainRow.holds Try.pinned (OpenSpec.ofChange charsPlainSpec)

/-- ITS FALSE NEIGHBOUR: 'it returns false'. Refute it at one input. -/
def charsPlainWrong : ChangeSpec := { name := "charsPlain", fn := fun _ => fun
  | [d] => { results := [.lit (.bool false)], args := [d] }
  | _ => none }
def CharsPlainWrongFalsely : Prop := charsPlainRow.holds Try.pinned (OpenSpec.ofChange charsPlainWrong)

/-- 'boltinglaw01.CharsLonger': WHATEVER THE INPUT: true; the input reads as it did. -/
def charsLongerSpec : ChangeSpec := { name := "charsLonger", fn := fun _ => fun
  | [d] => { results := [.lit (.bool true)], args := [d] }
  | _ => none }
def charsLongerRow : OpenClaim := { program := "ytadhgngeonkfcaa", sum := "0bd8e6dbb4ebe719f12e5ce796ff3ceda5d8f8a8a2760832741f666a328b5955", func := "bolting/boltinglaw01.CharsLonger", spec := "charsLonger", apart := false }
def CharsLongerSaid : Prop := charsLongerRow.holds Try.pinned (OpenSpec.ofChange charsLongerSpec)

/-- ITS FALSE NEIGHBOUR: 'it returns false'. Refute it at one input. -/
def charsLongerWrong : ChangeSpec := { name := "charsLonger", fn := fun _ => fun
  | [d] => { results := [.lit (.bool false)], args := [d] }
  | _ => none }
def CharsLongerWrongFalsely : Prop := charsLongerRow.holds Try.pinned (OpenSpec.ofChange charsLongerWrong)

/- THE SECOND FORM. 'bulk': how many values and letters a reading holds, each counted each time it is reached (what is shared counts as often as it is met; a slice's spare places count too). A statement '..UptoSaid' is the law's where the arguments, and the package variables that the reading takes, are together of bulk at most 1048576: NARROWER than '..Said'. Prove '..Said' where nothing that the law and all that it calls make is longer than what came in: it says more and counts as full. Else prove '..UptoSaid'. A law counts once. -/
mutual
def uptoBulk {H : Type} : DataW H → Nat
  | .lit (.string bytes) => bytes.length + 1
  | .lit _ => 1
  | .nil => 1
  | .ptr d => uptoBulk d + 1
  | .slice elems spare => uptoBulkAll elems + uptoBulkAll spare + 1
  | .agg parts => uptoBulkAll parts + 1
  | .iface _ d => uptoBulk d + 1
  | .map entries => uptoBulkEntries entries + 1
  | .held _ => 1
def uptoBulkAll {H : Type} : List (DataW H) → Nat
  | [] => 0
  | d :: r => uptoBulk d + uptoBulkAll r
def uptoBulkEntries {H : Type} : List (Lit × DataW H) → Nat
  | [] => 0
  | x :: r => uptoBulkEntry x + uptoBulkEntries r
def uptoBulkEntry {H : Type} : Lit × DataW H → Nat
  | (.string bytes, d) => bytes.length + uptoBulk d + 1
  | (_, d) => uptoBulk d + 1
 end
def uptoSmall : (H : Type) → List (DataW H) → Bool := fun _ ds => decide (uptoBulkAll ds ≤ 1048576)
def OpenSpec.upto (s : _root_.Go.ChangeSpec) : _root_.Go.OpenSpec := { _root_.Go.OpenSpec.ofChange s with cond := some uptoSmall }

/-- 'boltinglaw01.CharsDecodes', WHERE WHAT IT READS IS OF BULK AT MOST 1048576: true; the input reads as it did. -/
def charsDecodesUptoRow : OpenClaim := { program := "ytadhgngeonkfcaa", sum := "0bd8e6dbb4ebe719f12e5ce796ff3ceda5d8f8a8a2760832741f666a328b5955", func := "bolting/boltinglaw01.CharsDecodes", spec := "charsDecodes", apart := false, narrowed := true }
def CharsDecodesUptoSaid : Prop := charsDecodesUptoRow.holds Try.pinned (OpenSpec.upto charsDecodesSpec)

/-- 'boltinglaw01.CharsLines', WHERE WHAT IT READS IS OF BULK AT MOST 1048576: true; the input reads as it did. -/
def charsLinesUptoRow : OpenClaim := { program := "ytadhgngeonkfcaa", sum := "0bd8e6dbb4ebe719f12e5ce796ff3ceda5d8f8a8a2760832741f666a328b5955", func := "bolting/boltinglaw01.CharsLines", spec := "charsLines", apart := false, narrowed := true }
def CharsLinesUptoSaid : Prop := charsLinesUptoRow.holds Try.pinned (OpenSpec.upto charsLinesSpec)

/-- 'boltinglaw01.CharsSamples', WHERE WHAT IT READS IS OF BULK AT MOST 1048576: true; the input reads as it did. -/
def charsSamplesUptoRow : OpenClaim := { program := "ytadhgngeonkfcaa", sum := "0bd8e6dbb4ebe719f12e5ce796ff3ceda5d8f8a8a2760832741f666a328b5955", func := "bolting/boltinglaw01.CharsSamples", spec := "charsSamples", apart := false, narrowed := true }
def CharsSamplesUptoSaid : Prop := charsSamplesUptoRow.holds Try.pinned (OpenSpec.upto charsSamplesSpec)

/-- 'boltinglaw01.CharsAgain', WHERE WHAT IT READS IS OF BULK AT MOST 1048576: true; the input reads as it did. -/
def charsAgainUptoRow : OpenClaim := { program := "ytadhgngeonkfcaa", sum := "0bd8e6dbb4ebe719f12e5ce796ff3ceda5d8f8a8a2760832741f666a328b5955", func := "bolting/boltinglaw01.CharsAgain", spec := "charsAgain", apart := false, narrowed := true }
def CharsAgainUptoSaid : Prop := charsAgainUptoRow.holds Try.pinned (OpenSpec.upto charsAgainSpec)

/-- 'boltinglaw01.CharsJoins', WHERE WHAT IT READS IS OF BULK AT MOST 1048576: true; the input reads as it did. -/
def charsJoinsUptoRow : OpenClaim := { program := "ytadhgngeonkfcaa", sum := "0bd8e6dbb4ebe719f12e5ce796ff3ceda5d8f8a8a2760832741f666a328b5955", func := "bolting/boltinglaw01.CharsJoins", spec := "charsJoins", apart := false, narrowed := true }
def CharsJoinsUptoSaid : Prop := charsJoinsUptoRow.holds Try.pinned (OpenSpec.upto charsJoinsSpec)

/-- 'boltinglaw01.CharsParts', WHERE WHAT IT READS IS OF BULK AT MOST 1048576: true; the input reads as it did. -/
def charsPartsUptoRow : OpenClaim := { program := "ytadhgngeonkfcaa", sum := "0bd8e6dbb4ebe719f12e5ce796ff3ceda5d8f8a8a2760832741f666a328b5955", func := "bolting/boltinglaw01.CharsParts", spec := "charsParts", apart := false, narrowed := true }
def CharsPartsUptoSaid : Prop := charsPartsUptoRow.holds Try.pinned (OpenSpec.upto charsPartsSpec)

/-- 'boltinglaw01.CharsPlain', WHERE WHAT IT READS IS OF BULK AT MOST 1048576: true; the input reads as it did. -/
def charsPlainUptoRow : OpenClaim := { program := "ytadhgngeonkfcaa", sum := "0bd8e6dbb4ebe719f12e5ce796ff3ceda5d8f8a8a2760832741f666a328b5955", func := "bolting/boltinglaw01.CharsPlain", spec := "charsPlain", apart := false, narrowed := true }
def CharsPlainUptoSaid : Prop := charsPlainUptoRow.holds Try.pinned (OpenSpec.upto charsPlainSpec)

/-- 'boltinglaw01.CharsLonger', WHERE WHAT IT READS IS OF BULK AT MOST 1048576: true; the input reads as it did. -/
def charsLongerUptoRow : OpenClaim := { program := "ytadhgngeonkfcaa", sum := "0bd8e6dbb4ebe719f12e5ce796ff3ceda5d8f8a8a2760832741f666a328b5955", func := "bolting/boltinglaw01.CharsLonger", spec := "charsLonger", apart := false, narrowed := true }
def CharsLongerUptoSaid : Prop := charsLongerUptoRow.holds Try.pinned (OpenSpec.upto charsLongerSpec)

end Rows
end Go.Proofs.Ytadhgngeonkfcaa
