/-
  No cell of these rows narrows 'for every input' (looked for: loops, veiled, ifaces, maps, wideKeys, modest, calm, conditions, laid).
  DERIVED. THE GIVEN ROWS OF THIS SEAT. 7 by the template 'for every input the law returns true; each argument reads behind the call as it read before'; 0 by the template 'total and deterministic' (their statements: YtjgnbmebmjecpaaTotals.lean).
  GIVEN WITH THE SEED: the statements are not yours to turn. If you find one false, say at which input.
  Laid BY PROGRAM, IN A SANDBOX (cutbox-rows.mjs): the forced cells as the released guide's own fill.sh prints them over the translation e12161fcb99f835a… (all of the seat's roots in one cut). By AI agents, Wed Nov 11 2026. No macro, syntax, notation, axiom, sorry.
-/
import Derived.Test.YtjgnbmebmjecpaaChecked
import GoSem.Claim
import GoSem.ClaimJoined
import GoSem.ClaimMapViews
import Derived.JoinedTies
import Derived.KernelRfl
namespace Go.Proofs.Ytjgnbmebmjecpaa
/- THE CELL 'sum', in the pinned program and in every row, IS THE sha256 OF THE DUMP (.gsa) THAT YtjgnbmebmjecpaaProg.lean LOADS. Nothing in Lean hashes anything: it is a label: what it is worth is what the hold of that sum in a sandbox is worth. -/
noncomputable def Try.pinned : Pinned := { name := "ytjgnbmebmjecpaa", sum := "e12161fcb99f835a17b69089e4e17a00f102d88dfbef9ca4c037000007cab6bf", checked := Try.checked }
namespace Rows
def none {H : Type} : Left H := { results := [], args := [] }

/-- 'boltinglaw05.NamesKinds': WHATEVER THE INPUT: true; the input reads as it did. -/
def namesKindsSpec : ChangeSpec := { name := "namesKinds", fn := fun _ => fun
  | [d] => { results := [.lit (.bool true)], args := [d] }
  | _ => none }
def namesKindsRow : OpenClaim := { program := "ytjgnbmebmjecpaa", sum := "e12161fcb99f835a17b69089e4e17a00f102d88dfbef9ca4c037000007cab6bf", func := "bolting/boltinglaw05.NamesKinds", spec := "namesKinds", unfollowed := true, recurses := true, apart := false }
def NamesKindsSaid : Prop := namesKindsRow.holds Try.pinned (OpenSpec.ofChange namesKindsSpec)

/-- ITS FALSE NEIGHBOUR: 'it returns false'. Refute it at one input. -/
def namesKindsWrong : ChangeSpec := { name := "namesKinds", fn := fun _ => fun
  | [d] => { results := [.lit (.bool false)], args := [d] }
  | _ => none }
def NamesKindsWrongFalsely : Prop := namesKindsRow.holds Try.pinned (OpenSpec.ofChange namesKindsWrong)

/-- 'boltinglaw05.NamesCloses': WHATEVER THE INPUT: true; the input reads as it did. -/
def namesClosesSpec : ChangeSpec := { name := "namesCloses", fn := fun _ => fun
  | [d] => { results := [.lit (.bool true)], args := [d] }
  | _ => none }
def namesClosesRow : OpenClaim := { program := "ytjgnbmebmjecpaa", sum := "e12161fcb99f835a17b69089e4e17a00f102d88dfbef9ca4c037000007cab6bf", func := "bolting/boltinglaw05.NamesCloses", spec := "namesCloses", unfollowed := true, recurses := true, apart := false }
def NamesClosesSaid : Prop := namesClosesRow.holds Try.pinned (OpenSpec.ofChange namesClosesSpec)

/-- ITS FALSE NEIGHBOUR: 'it returns false'. Refute it at one input. -/
def namesClosesWrong : ChangeSpec := { name := "namesCloses", fn := fun _ => fun
  | [d] => { results := [.lit (.bool false)], args := [d] }
  | _ => none }
def NamesClosesWrongFalsely : Prop := namesClosesRow.holds Try.pinned (OpenSpec.ofChange namesClosesWrong)

/-- 'boltinglaw05.NamesMay': WHATEVER THE INPUT: true; the input reads as it did. -/
def namesMaySpec : ChangeSpec := { name := "namesMay", fn := fun _ => fun
  | [d] => { results := [.lit (.bool true)], args := [d] }
  | _ => none }
def namesMayRow : OpenClaim := { program := "ytjgnbmebmjecpaa", sum := "e12161fcb99f835a17b69089e4e17a00f102d88dfbef9ca4c037000007cab6bf", func := "bolting/boltinglaw05.NamesMay", spec := "namesMay", unfollowed := true, recurses := true, apart := false }
def NamesMaySaid : Prop := namesMayRow.holds Try.pinned (OpenSpec.ofChange namesMaySpec)

/-- ITS FALSE NEIGHBOUR: 'it returns false'. Refute it at one input. -/
def namesMayWrong : ChangeSpec := { name := "namesMay", fn := fun _ => fun
  | [d] => { results := [.lit (.bool false)], args := [d] }
  | _ => none }
def NamesMayWrongFalsely : Prop := namesMayRow.holds Try.pinned (OpenSpec.ofChange namesMayWrong)

/-- 'boltinglaw05.NamesApart': WHATEVER THE INPUT: true; the input reads as it did. -/
def namesApartSpec : ChangeSpec := { name := "namesApart", fn := fun _ => fun
  | [d] => { results := [.lit (.bool true)], args := [d] }
  | _ => none }
def namesApartRow : OpenClaim := { program := "ytjgnbmebmjecpaa", sum := "e12161fcb99f835a17b69089e4e17a00f102d88dfbef9ca4c037000007cab6bf", func := "bolting/boltinglaw05.NamesApart", spec := "namesApart", unfollowed := true, recurses := true, apart := false }
def NamesApartSaid : Prop := namesApartRow.holds Try.pinned (OpenSpec.ofChange namesApartSpec)

/-- ITS FALSE NEIGHBOUR: 'it returns false'. Refute it at one input. -/
def namesApartWrong : ChangeSpec := { name := "namesApart", fn := fun _ => fun
  | [d] => { results := [.lit (.bool false)], args := [d] }
  | _ => none }
def NamesApartWrongFalsely : Prop := namesApartRow.holds Try.pinned (OpenSpec.ofChange namesApartWrong)

/-- 'boltinglaw05.NamesJoin': WHATEVER THE INPUT: true; the input reads as it did. -/
def namesJoinSpec : ChangeSpec := { name := "namesJoin", fn := fun _ => fun
  | [d1, d2, d3] => { results := [.lit (.bool true)], args := [d1, d2, d3] }
  | _ => none }
def namesJoinRow : OpenClaim := { program := "ytjgnbmebmjecpaa", sum := "e12161fcb99f835a17b69089e4e17a00f102d88dfbef9ca4c037000007cab6bf", func := "bolting/boltinglaw05.NamesJoin", spec := "namesJoin", unfollowed := true, recurses := true, apart := false }
def NamesJoinSaid : Prop := namesJoinRow.holds Try.pinned (OpenSpec.ofChange namesJoinSpec)

/-- ITS FALSE NEIGHBOUR: 'it returns false'. Refute it at one input. -/
def namesJoinWrong : ChangeSpec := { name := "namesJoin", fn := fun _ => fun
  | [d1, d2, d3] => { results := [.lit (.bool false)], args := [d1, d2, d3] }
  | _ => none }
def NamesJoinWrongFalsely : Prop := namesJoinRow.holds Try.pinned (OpenSpec.ofChange namesJoinWrong)

/-- 'boltinglaw05.NamesSelf': WHATEVER THE INPUT: true; the input reads as it did. -/
def namesSelfSpec : ChangeSpec := { name := "namesSelf", fn := fun _ => fun
  | [d] => { results := [.lit (.bool true)], args := [d] }
  | _ => none }
def namesSelfRow : OpenClaim := { program := "ytjgnbmebmjecpaa", sum := "e12161fcb99f835a17b69089e4e17a00f102d88dfbef9ca4c037000007cab6bf", func := "bolting/boltinglaw05.NamesSelf", spec := "namesSelf", unfollowed := true, recurses := true, apart := false }
def NamesSelfSaid : Prop := namesSelfRow.holds Try.pinned (OpenSpec.ofChange namesSelfSpec)

/-- ITS FALSE NEIGHBOUR: 'it returns false'. Refute it at one input. -/
def namesSelfWrong : ChangeSpec := { name := "namesSelf", fn := fun _ => fun
  | [d] => { results := [.lit (.bool false)], args := [d] }
  | _ => none }
def NamesSelfWrongFalsely : Prop := namesSelfRow.holds Try.pinned (OpenSpec.ofChange namesSelfWrong)

/-- 'boltinglaw05.NamesEach': WHATEVER THE INPUT: true; the input reads as it did. -/
def namesEachSpec : ChangeSpec := { name := "namesEach", fn := fun _ => fun
  | [d] => { results := [.lit (.bool true)], args := [d] }
  | _ => none }
def namesEachRow : OpenClaim := { program := "ytjgnbmebmjecpaa", sum := "e12161fcb99f835a17b69089e4e17a00f102d88dfbef9ca4c037000007cab6bf", func := "bolting/boltinglaw05.NamesEach", spec := "namesEach", unfollowed := true, recurses := true, apart := false }
def NamesEachSaid : Prop := namesEachRow.holds Try.pinned (OpenSpec.ofChange namesEachSpec)

/-- ITS FALSE NEIGHBOUR: 'it returns false'. Refute it at one input. -/
def namesEachWrong : ChangeSpec := { name := "namesEach", fn := fun _ => fun
  | [d] => { results := [.lit (.bool false)], args := [d] }
  | _ => none }
def NamesEachWrongFalsely : Prop := namesEachRow.holds Try.pinned (OpenSpec.ofChange namesEachWrong)

/- THE SECOND FORM. 'bulk': how many values and letters a reading holds, each counted each time it is reached (what is shared counts as often as it is met; a slice's spare places count too). A statement '..UptoSaid' is the law's where the arguments, and the package variables that the reading takes, are together of bulk at most 1048576: NARROWER than '..Said'. Prove '..Said' where nothing that the law and all that it calls make is longer than what came in: it says more and counts as full. Else prove '..UptoSaid'. A law counts once. -/
mutual
def uptoBulk {H : Type} : DataW H → Nat
  | .lit (.string bytes) => bytes.length + 1
  | .lit _ => 1
  | .nil => 1
  | .ptr d => uptoBulk d + 1
  | .slice elems spare => uptoBulkAll elems + uptoBulkAll spare + 1
  | .agg parts => uptoBulkAll parts + 1
  | .iface _ d => uptoBulk d + 1
  | .map entries => uptoBulkEntries entries + 1
  | .held _ => 1
def uptoBulkAll {H : Type} : List (DataW H) → Nat
  | [] => 0
  | d :: r => uptoBulk d + uptoBulkAll r
def uptoBulkEntries {H : Type} : List (Lit × DataW H) → Nat
  | [] => 0
  | x :: r => uptoBulkEntry x + uptoBulkEntries r
def uptoBulkEntry {H : Type} : Lit × DataW H → Nat
  | (.string bytes, d) => bytes.length + uptoBulk d + 1
  | (_, d) => uptoBulk d + 1
 end
def uptoSmall : (H : Type) → List (DataW H) → Bool := fun _ ds => decide (uptoBulkAll ds ≤ 1048576)
def OpenSpec.upto (s : _root_.Go.ChangeSpec) : _root_.Go.OpenSpec := { _root_.Go.OpenSpec.ofChange s with cond := some uptoSmall }

/-- 'boltinglaw05.NamesKinds', WHERE WHAT IT READS IS OF BULK AT MOST 1048576: true; the input reads as it did. -/
def namesKindsUptoRow : OpenClaim := { program := "ytjgnbmebmjecpaa", sum := "e12161fcb99f835a17b69089e4e17a00f102d88dfbef9ca4c037000007cab6bf", func := "bolting/boltinglaw05.NamesKinds", spec := "namesKinds", unfollowed := true, recurses := true, apart := false, narrowed := true }
def NamesKindsUptoSaid : Prop := namesKindsUptoRow.holds Try.pinned (OpenSpec.upto namesKindsSpec)

/-- 'boltinglaw05.NamesCloses', WHERE WHAT IT READS IS OF BULK AT MOST 1048576: true; the input reads as it did. -/
def namesClosesUptoRow : OpenClaim := { program := "ytjgnbmebmjecpaa", sum := "e12161fcb99f835a17b69089e4e17a00f102d88dfbef9ca4c037000007cab6bf", func := "bolting/boltinglaw05.NamesCloses", spec := "namesCloses", unfollowed := true, recurses := true, apart := false, narrowed := true }
def NamesClosesUptoSaid : Prop := namesClosesUptoRow.holds Try.pinned (OpenSpec.upto namesClosesSpec)

/-- 'boltinglaw05.NamesMay', WHERE WHAT IT READS IS OF BULK AT MOST 1048576: true; the input reads as it did. -/
def namesMayUptoRow : OpenClaim := { program := "ytjgnbmebmjecpaa", sum := "e12161fcb99f835a17b69089e4e17a00f102d88dfbef9ca4c037000007cab6bf", func := "bolting/boltinglaw05.NamesMay", spec := "namesMay", unfollowed := true, recurses := true, apart := false, narrowed := true }
def NamesMayUptoSaid : Prop := namesMayUptoRow.holds Try.pinned (OpenSpec.upto namesMaySpec)

/-- 'boltinglaw05.NamesApart', WHERE WHAT IT READS IS OF BULK AT MOST 1048576: true; the input reads as it did. -/
def namesApartUptoRow : OpenClaim := { program := "ytjgnbmebmjecpaa", sum := "e12161fcb99f835a17b69089e4e17a00f102d88dfbef9ca4c037000007cab6bf", func := "bolting/boltinglaw05.NamesApart", spec := "namesApart", unfollowed := true, recurses := true, apart := false, narrowed := true }
def NamesApartUptoSaid : Prop := namesApartUptoRow.holds Try.pinned (OpenSpec.upto namesApartSpec)

/-- 'boltinglaw05.NamesJoin', WHERE WHAT IT READS IS OF BULK AT MOST 1048576: true; the input reads as it did. -/
def namesJoinUptoRow : OpenClaim := { program := "ytjgnbmebmjecpaa", sum := "e12161fcb99f835a17b69089e4e17a00f102d88dfbef9ca4c037000007cab6bf", func := "bolting/boltinglaw05.NamesJoin", spec := "namesJoin", unfollowed := true, recurses := true, apart := false, narrowed := true }
def NamesJoinUptoSaid : Prop := namesJoinUptoRow.holds Try.pinned (OpenSpec.upto namesJoinSpec)

/-- 'boltinglaw05.NamesSelf', WHERE WHAT IT READS IS OF BULK AT MOST 1048576: true; the input reads as it did. -/
def namesSelfUptoRow : OpenClaim := { program := "ytjgnbmebmjecpaa", sum := "e12161fcb99f835a17b69089e4e17a00f102d88dfbef9ca4c037000007cab6bf", func := "bolting/boltinglaw05.NamesSelf", spec := "namesSelf", unfollowed := true, recurses := true, apart := false, narrowed := true }
def NamesSelfUptoSaid : Prop := namesSelfUptoRow.holds Try.pinned (OpenSpec.upto namesSelfSpec)

/-- 'boltinglaw05.NamesEach', WHERE WHAT IT READS IS OF BULK AT MOST 1048576: true; the input reads as it did. -/
def namesEachUptoRow : OpenClaim := { program := "ytjgnbmebmjecpaa", sum := "e12161fcb99f835a17b69089e4e17a00f102d88dfbef9ca4c037000007cab6bf", func := "bolting/boltinglaw05.NamesEach", spec := "namesEach", unfollowed := true, recurses := true, apart := false, narrowed := true }
def NamesEachUptoSaid : Prop := namesEachUptoRow.holds Try.pinned (OpenSpec.upto namesEachSpec)

end Rows
end Go.Proofs.Ytjgnbmebmjecpaa
