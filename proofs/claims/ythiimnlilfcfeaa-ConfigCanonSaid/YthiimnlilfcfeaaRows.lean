/-
  No cell of these rows narrows 'for every input' (looked for: loops, veiled, ifaces, maps, wideKeys, modest, calm, conditions, laid).
  DERIVED. THE GIVEN ROWS OF THIS SEAT. 8 by the template 'for every input the law returns true; each argument reads behind the call as it read before'; 0 by the template 'total and deterministic' (their statements: YthiimnlilfcfeaaTotals.lean).
  GIVEN WITH THE SEED: the statements are not yours to turn. If you find one false, say at which input.
  Laid BY PROGRAM, IN A SANDBOX (cutbox-rows.mjs): the forced cells as the released guide's own fill.sh prints them over the translation 25f779700da9736f… (all of the seat's roots in one cut). By AI agents, Wed Nov 11 2026. No macro, syntax, notation, axiom, sorry.
-/
import Derived.Test.YthiimnlilfcfeaaChecked
import GoSem.Claim
import GoSem.ClaimJoined
import GoSem.ClaimMapViews
import Derived.JoinedTies
import Derived.KernelRfl
namespace Go.Proofs.Ythiimnlilfcfeaa
/- THE CELL 'sum', in the pinned program and in every row, IS THE sha256 OF THE DUMP (.gsa) THAT YthiimnlilfcfeaaProg.lean LOADS. Nothing in Lean hashes anything: it is a label: what it is worth is what the hold of that sum in a sandbox is worth. -/
noncomputable def Try.pinned : Pinned := { name := "ythiimnlilfcfeaa", sum := "25f779700da9736f1bef6a704780c6fbdec8202b95ed53b6611c5ca264b93923", checked := Try.checked }
namespace Rows
def none {H : Type} : Left H := { results := [], args := [] }

/-- 'boltinglaw12.ConfigChecks': WHATEVER THE INPUT: true; the input reads as it did. -/
def configChecksSpec : ChangeSpec := { name := "configChecks", fn := fun _ => fun
  | [d] => { results := [.lit (.bool true)], args := [d] }
  | _ => none }
def configChecksRow : OpenClaim := { program := "ythiimnlilfcfeaa", sum := "25f779700da9736f1bef6a704780c6fbdec8202b95ed53b6611c5ca264b93923", func := "bolting/boltinglaw12.ConfigChecks", spec := "configChecks", unfollowed := true, recurses := true, apart := false }
def ConfigChecksSaid : Prop := configChecksRow.holds Try.pinned (OpenSpec.ofChange configChecksSpec)

/-- ITS FALSE NEIGHBOUR: 'it returns false'. Refute it at one input. -/
def configChecksWrong : ChangeSpec := { name := "configChecks", fn := fun _ => fun
  | [d] => { results := [.lit (.bool false)], args := [d] }
  | _ => none }
def ConfigChecksWrongFalsely : Prop := configChecksRow.holds Try.pinned (OpenSpec.ofChange configChecksWrong)

/-- 'boltinglaw12.ConfigKeeps': WHATEVER THE INPUT: true; the input reads as it did. -/
def configKeepsSpec : ChangeSpec := { name := "configKeeps", fn := fun _ => fun
  | [d1, d2, d3] => { results := [.lit (.bool true)], args := [d1, d2, d3] }
  | _ => none }
def configKeepsRow : OpenClaim := { program := "ythiimnlilfcfeaa", sum := "25f779700da9736f1bef6a704780c6fbdec8202b95ed53b6611c5ca264b93923", func := "bolting/boltinglaw12.ConfigKeeps", spec := "configKeeps", unfollowed := true, recurses := true, apart := false }
def ConfigKeepsSaid : Prop := configKeepsRow.holds Try.pinned (OpenSpec.ofChange configKeepsSpec)

/-- ITS FALSE NEIGHBOUR: 'it returns false'. Refute it at one input. -/
def configKeepsWrong : ChangeSpec := { name := "configKeeps", fn := fun _ => fun
  | [d1, d2, d3] => { results := [.lit (.bool false)], args := [d1, d2, d3] }
  | _ => none }
def ConfigKeepsWrongFalsely : Prop := configKeepsRow.holds Try.pinned (OpenSpec.ofChange configKeepsWrong)

/-- 'boltinglaw12.ConfigCanon': WHATEVER THE INPUT: true; the input reads as it did. -/
def configCanonSpec : ChangeSpec := { name := "configCanon", fn := fun _ => fun
  | [d1, d2, d3] => { results := [.lit (.bool true)], args := [d1, d2, d3] }
  | _ => none }
def configCanonRow : OpenClaim := { program := "ythiimnlilfcfeaa", sum := "25f779700da9736f1bef6a704780c6fbdec8202b95ed53b6611c5ca264b93923", func := "bolting/boltinglaw12.ConfigCanon", spec := "configCanon", unfollowed := true, recurses := true, apart := false }
def ConfigCanonSaid : Prop := configCanonRow.holds Try.pinned (OpenSpec.ofChange configCanonSpec)

/-- ITS FALSE NEIGHBOUR: 'it returns false'. Refute it at one input. -/
def configCanonWrong : ChangeSpec := { name := "configCanon", fn := fun _ => fun
  | [d1, d2, d3] => { results := [.lit (.bool false)], args := [d1, d2, d3] }
  | _ => none }
def ConfigCanonWrongFalsely : Prop := configCanonRow.holds Try.pinned (OpenSpec.ofChange configCanonWrong)

/-- 'boltinglaw12.ConfigStrip': WHATEVER THE INPUT: true; the input reads as it did. -/
def configStripSpec : ChangeSpec := { name := "configStrip", fn := fun _ => fun
  | [d1, d2, d3] => { results := [.lit (.bool true)], args := [d1, d2, d3] }
  | _ => none }
def configStripRow : OpenClaim := { program := "ythiimnlilfcfeaa", sum := "25f779700da9736f1bef6a704780c6fbdec8202b95ed53b6611c5ca264b93923", func := "bolting/boltinglaw12.ConfigStrip", spec := "configStrip", unfollowed := true, recurses := true, apart := false }
def ConfigStripSaid : Prop := configStripRow.holds Try.pinned (OpenSpec.ofChange configStripSpec)

/-- ITS FALSE NEIGHBOUR: 'it returns false'. Refute it at one input. -/
def configStripWrong : ChangeSpec := { name := "configStrip", fn := fun _ => fun
  | [d1, d2, d3] => { results := [.lit (.bool false)], args := [d1, d2, d3] }
  | _ => none }
def ConfigStripWrongFalsely : Prop := configStripRow.holds Try.pinned (OpenSpec.ofChange configStripWrong)

/-- 'boltinglaw12.ConfigData': WHATEVER THE INPUT: true; the input reads as it did. -/
def configDataSpec : ChangeSpec := { name := "configData", fn := fun _ => fun
  | [d1, d2, d3] => { results := [.lit (.bool true)], args := [d1, d2, d3] }
  | _ => none }
def configDataRow : OpenClaim := { program := "ythiimnlilfcfeaa", sum := "25f779700da9736f1bef6a704780c6fbdec8202b95ed53b6611c5ca264b93923", func := "bolting/boltinglaw12.ConfigData", spec := "configData", unfollowed := true, recurses := true, apart := false }
def ConfigDataSaid : Prop := configDataRow.holds Try.pinned (OpenSpec.ofChange configDataSpec)

/-- ITS FALSE NEIGHBOUR: 'it returns false'. Refute it at one input. -/
def configDataWrong : ChangeSpec := { name := "configData", fn := fun _ => fun
  | [d1, d2, d3] => { results := [.lit (.bool false)], args := [d1, d2, d3] }
  | _ => none }
def ConfigDataWrongFalsely : Prop := configDataRow.holds Try.pinned (OpenSpec.ofChange configDataWrong)

/-- 'boltinglaw12.ConfigFew': WHATEVER THE INPUT: true; the input reads as it did. -/
def configFewSpec : ChangeSpec := { name := "configFew", fn := fun _ => fun
  | [d1, d2, d3] => { results := [.lit (.bool true)], args := [d1, d2, d3] }
  | _ => none }
def configFewRow : OpenClaim := { program := "ythiimnlilfcfeaa", sum := "25f779700da9736f1bef6a704780c6fbdec8202b95ed53b6611c5ca264b93923", func := "bolting/boltinglaw12.ConfigFew", spec := "configFew", unfollowed := true, recurses := true, apart := false }
def ConfigFewSaid : Prop := configFewRow.holds Try.pinned (OpenSpec.ofChange configFewSpec)

/-- ITS FALSE NEIGHBOUR: 'it returns false'. Refute it at one input. -/
def configFewWrong : ChangeSpec := { name := "configFew", fn := fun _ => fun
  | [d1, d2, d3] => { results := [.lit (.bool false)], args := [d1, d2, d3] }
  | _ => none }
def ConfigFewWrongFalsely : Prop := configFewRow.holds Try.pinned (OpenSpec.ofChange configFewWrong)

/-- 'boltinglaw12.ConfigPlain': WHATEVER THE INPUT: true; the input reads as it did. -/
def configPlainSpec : ChangeSpec := { name := "configPlain", fn := fun _ => fun
  | [d1, d2] => { results := [.lit (.bool true)], args := [d1, d2] }
  | _ => none }
def configPlainRow : OpenClaim := { program := "ythiimnlilfcfeaa", sum := "25f779700da9736f1bef6a704780c6fbdec8202b95ed53b6611c5ca264b93923", func := "bolting/boltinglaw12.ConfigPlain", spec := "configPlain", unfollowed := true, recurses := true, apart := false }
def ConfigPlainSaid : Prop := configPlainRow.holds Try.pinned (OpenSpec.ofChange configPlainSpec)

/-- ITS FALSE NEIGHBOUR: 'it returns false'. Refute it at one input. -/
def configPlainWrong : ChangeSpec := { name := "configPlain", fn := fun _ => fun
  | [d1, d2] => { results := [.lit (.bool false)], args := [d1, d2] }
  | _ => none }
def ConfigPlainWrongFalsely : Prop := configPlainRow.holds Try.pinned (OpenSpec.ofChange configPlainWrong)

/-- 'boltinglaw12.ConfigTurn': WHATEVER THE INPUT: true; the input reads as it did. -/
def configTurnSpec : ChangeSpec := { name := "configTurn", fn := fun _ => fun
  | [d1, d2, d3] => { results := [.lit (.bool true)], args := [d1, d2, d3] }
  | _ => none }
def configTurnRow : OpenClaim := { program := "ythiimnlilfcfeaa", sum := "25f779700da9736f1bef6a704780c6fbdec8202b95ed53b6611c5ca264b93923", func := "bolting/boltinglaw12.ConfigTurn", spec := "configTurn", unfollowed := true, recurses := true, apart := false }
def ConfigTurnSaid : Prop := configTurnRow.holds Try.pinned (OpenSpec.ofChange configTurnSpec)

/-- ITS FALSE NEIGHBOUR: 'it returns false'. Refute it at one input. -/
def configTurnWrong : ChangeSpec := { name := "configTurn", fn := fun _ => fun
  | [d1, d2, d3] => { results := [.lit (.bool false)], args := [d1, d2, d3] }
  | _ => none }
def ConfigTurnWrongFalsely : Prop := configTurnRow.holds Try.pinned (OpenSpec.ofChange configTurnWrong)

/- THE SECOND FORM. 'bulk': how many values and letters a reading holds, each counted each time it is reached (what is shared counts as often as it is met; a slice's spare places count too). A statement '..UptoSaid' is the law's where the arguments, and the package variables that the reading takes, are together of bulk at most 1048576: NARROWER than '..Said'. Prove '..Said' where nothing that the law and all that it calls make is longer than what came in: it says more and counts as full. Else prove '..UptoSaid'. A law counts once. -/
mutual
def uptoBulk {H : Type} : DataW H → Nat
  | .lit (.string bytes) => bytes.length + 1
  | .lit _ => 1
  | .nil => 1
  | .ptr d => uptoBulk d + 1
  | .slice elems spare => uptoBulkAll elems + uptoBulkAll spare + 1
  | .agg parts => uptoBulkAll parts + 1
  | .iface _ d => uptoBulk d + 1
  | .map entries => uptoBulkEntries entries + 1
  | .held _ => 1
def uptoBulkAll {H : Type} : List (DataW H) → Nat
  | [] => 0
  | d :: r => uptoBulk d + uptoBulkAll r
def uptoBulkEntries {H : Type} : List (Lit × DataW H) → Nat
  | [] => 0
  | x :: r => uptoBulkEntry x + uptoBulkEntries r
def uptoBulkEntry {H : Type} : Lit × DataW H → Nat
  | (.string bytes, d) => bytes.length + uptoBulk d + 1
  | (_, d) => uptoBulk d + 1
 end
def uptoSmall : (H : Type) → List (DataW H) → Bool := fun _ ds => decide (uptoBulkAll ds ≤ 1048576)
def OpenSpec.upto (s : _root_.Go.ChangeSpec) : _root_.Go.OpenSpec := { _root_.Go.OpenSpec.ofChange s with cond := some uptoSmall }

/-- 'boltinglaw12.ConfigChecks', WHERE WHAT IT READS IS OF BULK AT MOST 1048576: true; the input reads as it did. -/
def configChecksUptoRow : OpenClaim := { program := "ythiimnlilfcfeaa", sum := "25f779700da9736f1bef6a704780c6fbdec8202b95ed53b6611c5ca264b93923", func := "bolting/boltinglaw12.ConfigChecks", spec := "configChecks", unfollowed := true, recurses := true, apart := false, narrowed := true }
def ConfigChecksUptoSaid : Prop := configChecksUptoRow.holds Try.pinned (OpenSpec.upto configChecksSpec)

/-- 'boltinglaw12.ConfigKeeps', WHERE WHAT IT READS IS OF BULK AT MOST 1048576: true; the input reads as it did. -/
def configKeepsUptoRow : OpenClaim := { program := "ythiimnlilfcfeaa", sum := "25f779700da9736f1bef6a704780c6fbdec8202b95ed53b6611c5ca264b93923", func := "bolting/boltinglaw12.ConfigKeeps", spec := "configKeeps", unfollowed := true, recurses := true, apart := false, narrowed := true }
def ConfigKeepsUptoSaid : Prop := configKeepsUptoRow.holds Try.pinned (OpenSpec.upto configKeepsSpec)

/-- 'boltinglaw12.ConfigCanon', WHERE WHAT IT READS IS OF BULK AT MOST 1048576: true; the input reads as it did. -/
def configCanonUptoRow : OpenClaim := { program := "ythiimnlilfcfeaa", sum := "25f779700da9736f1bef6a704780c6fbdec8202b95ed53b6611c5ca264b93923", func := "bolting/boltinglaw12.ConfigCanon", spec := "configCanon", unfollowed := true, recurses := true, apart := false, narrowed := true }
def ConfigCanonUptoSaid : Prop := configCanonUptoRow.holds Try.pinned (OpenSpec.upto configCanonSpec)

/-- 'boltinglaw12.ConfigStrip', WHERE WHAT IT READS IS OF BULK AT MOST 1048576: true; the input reads as it did. -/
def configStripUptoRow : OpenClaim := { program := "ythiimnlilfcfeaa", sum := "25f779700da9736f1bef6a704780c6fbdec8202b95ed53b6611c5ca264b93923", func := "bolting/boltinglaw12.ConfigStrip", spec := "configStrip", unfollowed := true, recurses := true, apart := false, narrowed := true }
def ConfigStripUptoSaid : Prop := configStripUptoRow.holds Try.pinned (OpenSpec.upto configStripSpec)

/-- 'boltinglaw12.ConfigData', WHERE WHAT IT READS IS OF BULK AT MOST 1048576: true; the input reads as it did. -/
def configDataUptoRow : OpenClaim := { program := "ythiimnlilfcfeaa", sum := "25f779700da9736f1bef6a704780c6fbdec8202b95ed53b6611c5ca264b93923", func := "bolting/boltinglaw12.ConfigData", spec := "configData", unfollowed := true, recurses := true, apart := false, narrowed := true }
def ConfigDataUptoSaid : Prop := configDataUptoRow.holds Try.pinned (OpenSpec.upto configDataSpec)

/-- 'boltinglaw12.ConfigFew', WHERE WHAT IT READS IS OF BULK AT MOST 1048576: true; the input reads as it did. -/
def configFewUptoRow : OpenClaim := { program := "ythiimnlilfcfeaa", sum := "25f779700da9736f1bef6a704780c6fbdec8202b95ed53b6611c5ca264b93923", func := "bolting/boltinglaw12.ConfigFew", spec := "configFew", unfollowed := true, recurses := true, apart := false, narrowed := true }
def ConfigFewUptoSaid : Prop := configFewUptoRow.holds Try.pinned (OpenSpec.upto configFewSpec)

/-- 'boltinglaw12.ConfigPlain', WHERE WHAT IT READS IS OF BULK AT MOST 1048576: true; the input reads as it did. -/
def configPlainUptoRow : OpenClaim := { program := "ythiimnlilfcfeaa", sum := "25f779700da9736f1bef6a704780c6fbdec8202b95ed53b6611c5ca264b93923", func := "bolting/boltinglaw12.ConfigPlain", spec := "configPlain", unfollowed := true, recurses := true, apart := false, narrowed := true }
def ConfigPlainUptoSaid : Prop := configPlainUptoRow.holds Try.pinned (OpenSpec.upto configPlainSpec)

/-- 'boltinglaw12.ConfigTurn', WHERE WHAT IT READS IS OF BULK AT MOST 1048576: true; the input reads as it did. -/
def configTurnUptoRow : OpenClaim := { program := "ythiimnlilfcfeaa", sum := "25f779700da9736f1bef6a704780c6fbdec8202b95ed53b6611c5ca264b93923", func := "bolting/boltinglaw12.ConfigTurn", spec := "configTurn", unfollowed := true, recurses := true, apart := false, narrowed := true }
def ConfigTurnUptoSaid : Prop := configTurnUptoRow.holds Try.pinned (OpenSpec.upto configTurnSpec)

end Rows
end Go.Proofs.Ythiimnlilfcfeaa
