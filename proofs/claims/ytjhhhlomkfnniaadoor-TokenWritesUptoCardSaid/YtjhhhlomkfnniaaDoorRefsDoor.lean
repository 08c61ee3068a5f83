/-
  Stage 3: where the package's table reads as its text lays it, the walks' table is there; the door's own heap is such a world.
-/
import Derived.Test.YtjhhhlomkfnniaaDoorRefsWalkD
import Derived.ProofKit
import Derived.LaidMore
import Derived.OpenShut
import Derived.Stop.Joined
namespace Go.Proofs.YtjhhhlomkfnniaaDoor.Re
set_option linter.unusedSimpArgs false
set_option linter.unusedVariables false
open Go.ChangeShapes Go.WideShapes Go.ChangeAt Go.RowKit Ba Rm

abbrev laidL : List (String × DataW Unit) := [("bolting/refs.named", Rows.laid_bolting_refs_named)]
theorem gNamed : Tryd.prog.globalNamed "bolting/refs.named" = some 0 := by kernel_rfl
theorem tNamed : (Tryd.prog.globals[0]?).map (·.type) = some 96 := by kernel_rfl
theorem datum : (Rows.laid_bolting_refs_named : DataW Unit) = .agg (tab.map fun p => .agg [.lit (.string p.1), .lit (.int .i64 p.2)]) := by kernel_rfl
theorem c34 : Tryd.prog.cellsOf 95 = 2 := by kernel_rfl
theorem c9 : Tryd.prog.cellsOf 9 = 1 := by kernel_rfl
theorem c3 : Tryd.prog.cellsOf 3 = 1 := by kernel_rfl

theorem door_met (os : Os) (args : Array Value) : laidMetH Tryd.prog laidL ((World.doorLaid Tryd.prog 400 os).forCall (fun _ _ => 0) ⟨#[], args, []⟩).memory :=
  laidMetH_of_parts3 (fuel := 8) (laidMet_of_run' 8 (by kernel_rfl) (by kernel_rfl)) (by kernel_rfl) (by kernel_rfl)

theorem pair_at {W : World} {enc : TypeId × Value → Unit} {sp : Nat → Bool} {hd : Bool} {m : Nat} {cs : List Value} {x : DataW Unit × List MemPlace} {p : List UInt8 × Nat}
    (h : DataW.trod enc Tryd.prog W 0 sp hd m 95 cs = some x) (e : x.1 = .agg [.lit (.string p.1), .lit (.int .i64 p.2)]) : cs = [.string (B p.1), .int .i64 p.2] := by
  obtain ⟨y0, y1, n, rfl, hl, h0, h1⟩ := trod_struct2 Tryd.underlying95 h
  rw [c34] at hl
  simp only [DataW.agg.injEq, List.cons.injEq, and_true] at e
  obtain ⟨e0, e1⟩ := e
  obtain ⟨s, q0, rfl, _⟩ := DataW.trod_string Tryd.underlying9 h0
  obtain ⟨k, q1, rfl, _⟩ := DataW.trod_int Tryd.underlying3 h1
  simp only [DataW.lit.injEq, Lit.string.injEq, Lit.int.injEq, true_and] at e0 e1
  have q0' : (cs.drop 0).take 1 = [.string s] := by rw [← q0]; rw [show Tryd.prog.cellsOf _ = 1 from c9]
  have q1' : (cs.drop 1).take 1 = [.int .i64 k] := by rw [← q1]; rw [show Tryd.prog.cellsOf _ = 1 from c3]
  match cs, hl, q0', q1' with
  | [a, b], _, q0', q1' =>
    simp at q0' q1'
    rw [q0', q1', e1, show s = B p.1 from B_of e0]

set_option maxRecDepth 100000 in
theorem tab_of_laid {W : World} (h : laidMetH Tryd.prog laidL W) : Tab W := by
  rw [MakeChecks.laidMetH_plain _ _ _ (by kernel_rfl)] at h
  obtain ⟨ps, ⟨g0, t0, cs0, f0, p0, q0, hg0, ht0, hv0, hd0, _, _⟩, _, _⟩ := h
  obtain rfl := Option.some.inj (gNamed.symm.trans hg0)
  obtain rfl := Option.some.inj (tNamed.symm.trans ht0)
  rw [datum] at hd0
  obtain ⟨xs, m, rfl, hx, hlen, hn, hel⟩ := DataW.trod_array Tryd.underlying96 hd0
  simp only [Prod.mk.injEq, DataW.agg.injEq] at hx
  have hc : ∀ i, i < 24 → ∀ p, tab[i]? = some p → (cs0.toList.drop (2 * i)).take 2 = [.string (B p.1), .int .i64 p.2] := by
    intro i hi p hp
    have h1 := hel i hi
    rw [c34, Nat.mul_comm i 2] at h1
    have hxi : i < xs.length := by omega
    rw [List.getElem?_eq_getElem hxi] at h1
    refine pair_at h1 ?_
    have h2 := congrArg (fun l => l[i]?) hx.1
    simp only [List.getElem?_map, hp, Option.map_some, List.getElem?_eq_getElem hxi, Option.some.injEq] at h2
    exact h2.symm
  have hcell : ∀ j v, (cellsOf2 tab)[j]? = some v → W.cell? ⟨0, j, none⟩ = some v := by
    intro j v hv
    rw [World.var?_cell hg0 hv0 j, ← Array.getElem?_toList]
    have hj : j < 48 := (List.getElem?_eq_some_iff.1 hv).1
    have hi : j / 2 < 24 := by omega
    obtain ⟨p, hp⟩ : ∃ p, tab[j / 2]? = some p := ⟨_, List.getElem?_eq_getElem (show j / 2 < tab.length from hi)⟩
    have h1 := hc (j / 2) hi p hp
    have h2 : ((cellsOf2 tab).drop (2 * (j / 2))).take 2 = [.string (B p.1), .int .i64 p.2] := by
      rw [cellsOf2_drop]
      have : tab.drop (j / 2) = p :: tab.drop (j / 2 + 1) := by
        rw [List.drop_eq_getElem_cons (show j / 2 < tab.length from hi)]
        congr 1
        rw [List.getElem?_eq_getElem (show j / 2 < tab.length from hi)] at hp
        exact Option.some.inj hp
      rw [this]; rfl
    have h3 : ∀ l : List Value, ((l.drop (2 * (j / 2))).take 2)[j % 2]? = l[j]? := fun l => by
      rw [List.getElem?_take_of_lt (by omega), List.getElem?_drop]
      congr 1
      omega
    rw [← h3, h1, ← h2, h3]
    exact hv
  refine ⟨fun j v hv => by rw [Nat.zero_add]; exact hcell j v hv, ?_⟩
  have h0 := hcell 0 (.string (B [97, 109, 112])) rfl
  cases hz : W.heap.size with
  | succ n => omega
  | zero =>
    have : W.heap[0]? = none := Array.getElem?_eq_none (by omega)
    simp [World.cell?, this] at h0

end Go.Proofs.YtjhhhlomkfnniaaDoor.Re
