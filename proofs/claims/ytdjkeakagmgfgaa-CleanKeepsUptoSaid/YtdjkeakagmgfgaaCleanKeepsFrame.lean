/-
  CleanKeeps: for every input of bulk at most 1048576 the law returns true, and each argument reads afterwards as it read before. Condition: what is read holds together at most 1048576 values and letters.
-/
import Derived.Test.YtdjkeakagmgfgaaRows
import Derived.Test.YtdjkeakagmgfgaaCk08
import Derived.Test.YtdjkeakagmgfgaaCk02
import Derived.Test.YtdjkeakagmgfgaaCk05
import Derived.WalkKit
import Derived.ProofKit
import Derived.OpenShut
import Derived.ShutString
import Derived.SizedLaws
import Derived.JoinedCond
import Derived.Deep.CondSized
import Derived.Below
namespace Go.Proofs.Ytdjkeakagmgfgaa.cleanKeeps
set_option maxRecDepth 100000
open Go.ChangeShapes Go.WideShapes Go.ChangeAt Go.RowKit
open Go.ChangeMaps (open_string shut_string)
set_option linter.unusedVariables false

theorem own : ownKnob Try.prog.godebug = none := by kernel_rfl

set_option maxRecDepth 100000 in
theorem lifted (os : Os) (started : os.Started) (H : Type) (enc : TypeId × Value → H) (G : Stop.Interp) :
    ReturnsInHanded {} Try.checked os 6 .any ((Rows.OpenSpec.upto Rows.cleanKeepsSpec).pre6 enc Try.prog Try.f6 Rows.cleanKeepsUptoRow.domain false) (((Rows.OpenSpec.upto Rows.cleanKeepsSpec).at G).post enc Try.prog Try.f6 false true false false) := by
  refine returnsInHanded_of_cond_sized (C := Try.checked) (s := Rows.OpenSpec.upto Rows.cleanKeepsSpec) (k := Rows.uptoSmall) rfl own started (by kernel_rfl) Try.func6
    (OpenSpec.witness (enc := enc) (C := Try.checked) (s := Rows.OpenSpec.upto Rows.cleanKeepsSpec) (k := Rows.uptoSmall) rfl false ⟨#[], #[.slice none 0 0], []⟩ 8 (by kernel_rfl) (by kernel_rfl) (by kernel_rfl)
      (x := ([.nil], [], [])) (by kernel_rfl) rfl (by kernel_rfl)) ?_
  intro W base args ds gs before hval0 hW _ hk0 hsz0 _
  have hval : ∀ (j : Nat) t v, Try.f6.params[j]? = some t → args[j]? = some v → Value.okWide Try.prog W .any base t v := hval0
  have hk : Rows.uptoSmall H (ds ++ gs) = true := hk0
  have hsz : (DataW.weightsEach Try.prog (Try.f6.params.toList ++ Rows.cleanKeepsSpec.plain.varTypes Try.prog) (ds ++ gs)).all (· ≤ reachBytes) = true := hsz0
  have hW' := hW
  obtain ⟨p, q, hA0, hV, rfl, hfz, hnd⟩ := hW
  have hA : DataW.TrodAll enc Try.prog W 0 (fun _ => true) true Try.f6.params.toList args.toList ds p := hA0
  rw [Try.params6] at hA hval hsz
  obtain ⟨v0, vs0, d0, ds0, p0, q0, hargs, rfl, rfl, h0, r0⟩ := trodAll_cons hA
  obtain ⟨rfl, rfl, rfl⟩ := trodAll_nil r0
  obtain rfl : args = #[v0] := by cases args; simp_all
  obtain ⟨rfl, rfl⟩ := trodVars_none hV
  have hlt0 : ∀ x ∈ p0, x.block < W.heap.size := fun x hx => by simpa using hW'.lt x (by simp [hx])
  obtain ⟨l0, hs0, hm0⟩ := Ro.open_rv (hval 0 22 v0 rfl rfl) h0 hlt0
  clear hA0 hval0 hk0 hsz0
  have hkk : Rows.uptoBulkAll _ ≤ 1048576 := of_decide_eq_true hk
  have hs0' := hs0
  obtain ⟨A0, c0, e0, _, _, hr0, _⟩ := hs0'
  have ht0 := Nat.le_trans (Ro.rows_bulk e0 hr0 h0) (Nat.le_trans (Ro.mem_bulk (by simp)) (Nat.le_trans hkk (show 1048576 ≤ 1000000000 by omega)))
  have hm0 : Rz.Small (Ro.ros l0) := Rz.rows_small hs0 h0 (Rz.sized_all hsz (j := 0) (t := 22) rfl rfl)
  refine (Cn.law13_keeps v0 l0 W hs0 hm0 ht0).mono fun e W' ⟨he, bel⟩ => ?_
  subst he
  exact ⟨_, rfl, _, _, _, [], _, [], hW', trodAll_mk1 (shut_bool Try.underlying4 _), (trodAll_cons_mk (Below.trod Ro.laidOut (by kernel_rfl) (of_decide_eq_true (by kernel_rfl)) h0 bel hlt0) trodAll_mk0), rfl, bel.frame _, fun h => by cases h⟩

theorem proved : Rows.CleanKeepsUptoSaid :=
  OpenClaim.holds_of_cond 6 Try.f6 rfl rfl rfl rfl rfl rfl rfl ⟨rfl, rfl, rfl, rfl, rfl⟩ rfl rfl rfl rfl rfl (by kernel_rfl) Try.func6 (by kernel_rfl)
    (of_decide_eq_true (by kernel_rfl)) (by unfold Func.isWrapper; first | (rw [if_pos (by decide +kernel)]; kernel_rfl) | (rw [if_neg (by decide +kernel)]; exact ⟨rfl, rfl⟩))
    (fun os started H enc _ G => lifted os started H enc G)
#print axioms proved
end Go.Proofs.Ytdjkeakagmgfgaa.cleanKeeps
