/-
  Walks of stage 4: the fixed rows.
-/
import Derived.Test.YtblefklfgaohfaaRowWalkT
namespace Go.Proofs.Ytblefklfgaohfaa.Ro
set_option linter.unusedVariables false
set_option linter.unusedSimpArgs false
open Go.RowKit Ba

def sDiv : ByteArray := { data := #[100, 105, 118] }
def sa : ByteArray := { data := #[97] }
def sb : ByteArray := { data := #[98] }
def sab : ByteArray := { data := #[97, 98] }
def sc : ByteArray := { data := #[99] }
def roDiv : Ro := ⟨0, 0, sDiv, .empty, []⟩
def roT (d : Int) (s : ByteArray) : Ro := ⟨d, 1, .empty, s, []⟩
def roC (d : Int) (s : ByteArray) : Ro := ⟨d, 2, .empty, s, []⟩
def bare (r : Ro) : Cw := ⟨r, none, 0⟩
def theDiv : List Cw := [bare roDiv, bare (roT 1 sa), bare (roT 1 sb)]

theorem bare_att (w : World) (N : Nat) {r : Ro} (h : r.attrs = []) : Att w N (bare r) := by
  refine ⟨?_, fun _ => rfl, Nat.zero_le _, ?_, ?_⟩
  · show r.attrs.length ≤ 0
    rw [h]; exact Nat.le_refl _
  · show Ra w N none r.attrs
    rw [h]; exact fun h => absurd h (by simp)
  · show Sh r.attrs
    rw [h]; exact fun _ hx => by simp at hx
theorem bare_ap (w : World) (N : Nat) {r : Ro} (h : r.attrs = []) : Ap w N (bare r) := fun h0 => by
  have h0 : 0 < r.attrs.length := h0
  rw [h] at h0
  exact absurd h0 (by simp)
/-- Rows without attributes, freshly written down. -/
theorem rows_new (w : World) (l : List Cw) (cs : Array Value) (n : Nat) (hn : l.length = n) (hm : n ≤ maxLen) (hcs : cs.toList = l.flatMap cells) (hl : ∀ x ∈ l, ∃ r : Ro, x = bare r ∧ r.attrs = []) :
    Ow w.heap.size (w.alloc (.cells cs 43)) (.slice (some ⟨w.heap.size, 0, none⟩) n n) l := by
  have hfl : (l.flatMap cells).length = n * 5 := by
    rw [← hn]
    clear hcs hl hn
    induction l with
    | nil => rfl
    | cons x r ih => rw [List.flatMap_cons, List.length_append, ih, List.length_cons]; simp [cells]; omega
  have hsz : cs.size = n * 5 := by rw [← Array.length_toList, hcs, hfl]
  refine ⟨⟨by rw [hn, hfl], .inr ⟨w.heap.size, n, cs, by rw [hn], Nat.le_refl _, heap_alloc_new w _, by rw [hn]; exact Nat.le_refl _, hm, hsz, ?_⟩⟩, fun x hx => ?_⟩
  · rw [hn, hcs, ← hfl, List.take_length]
  · obtain ⟨r, rfl, h⟩ := hl x hx
    exact ⟨bare_att _ _ h, bare_ap _ _ h⟩

set_option maxRecDepth 100000 in
theorem div_any (w : World) : Calls Try.prog 35 #[] w fun e w' => ∃ v, e = .returned v ∧ Ow w.heap.size w' v theDiv ∧ Below w.heap.size w w' := by
  go_enter Try.func35, Try.ntmps35
  go_wp2
  go_ret
  exact ⟨_, rfl, rows_new w theDiv _ 3 rfl (by decide) rfl (fun x hx => by
    simp only [theDiv, List.mem_cons, List.not_mem_nil, or_false] at hx
    rcases hx with rfl | rfl | rfl <;> exact ⟨_, rfl, rfl⟩), below_new w _⟩

theorem c_put1 : put (ros theDiv) 0 1 [roC 0 sc] = (0, [roDiv, roT 1 sa, roC 1 sc, roT 1 sb]) := by kernel_rfl
theorem c_put2 : put (ros theDiv) 1 0 [] = (41, []) := by rfl
theorem c_put3 : put (ros theDiv) 0 3 [] = (1, []) := by rfl
theorem c_take : takeAt [roDiv, roT 1 sa, roC 1 sc, roT 1 sb] 2 = [roC 0 sc] := by rfl
theorem c_drop : dropAt [roDiv, roT 1 sa, roC 1 sc, roT 1 sb] 2 = ros theDiv := by rfl
theorem c_normal : normal (ros theDiv) = [roDiv, roT 1 sab] := by kernel_rfl
theorem c_kids : kids (ros theDiv) 0 = [1, 2] := by rfl
theorem c_parent : parent (ros theDiv) 2 = 0 := by rfl
theorem c_end : endAt (ros theDiv) 0 = 3 := by rfl
theorem c_check : check (ros theDiv) = 0 := by kernel_rfl
theorem c_check2 : check ((ros theDiv).drop 1) = 40 := by rfl
theorem c_text : B (textAt (ros theDiv) 0) = sab := by kernel_rfl
theorem c_len : (txt (ros theDiv)).length ≤ 1000000000 := by decide
theorem few_div : Few (ros theDiv) := fun x hx => by
  simp only [theDiv, ros, bare, List.map_cons, List.map_nil, List.mem_cons, List.not_mem_nil, or_false] at hx
  rcases hx with rfl | rfl | rfl <;> exact Nat.zero_le _
theorem deep_div : Deep (ros theDiv) := fun x hx => by
  simp only [theDiv, ros, bare, List.map_cons, List.map_nil, List.mem_cons, List.not_mem_nil, or_false] at hx
  rcases hx with rfl | rfl | rfl <;> exact ⟨by decide, by decide⟩
def theP : List Ro := [roDiv, roT 1 sa, roC 1 sc, roT 1 sb]
theorem few_p : Few theP := fun x hx => by
  simp only [theP, List.mem_cons, List.not_mem_nil, or_false] at hx
  rcases hx with rfl | rfl | rfl | rfl <;> exact Nat.zero_le _
theorem deep_p : Deep theP := fun x hx => by
  simp only [theP, List.mem_cons, List.not_mem_nil, or_false] at hx
  rcases hx with rfl | rfl | rfl | rfl <;> exact ⟨by decide, by decide⟩
theorem few_c : Few (ros [bare (roC 0 sc)]) := fun x hx => by
  simp only [ros, bare, List.map_cons, List.map_nil, List.mem_cons, List.not_mem_nil, or_false] at hx
  rcases hx with rfl
  exact Nat.zero_le _

end Go.Proofs.Ytblefklfgaohfaa.Ro
