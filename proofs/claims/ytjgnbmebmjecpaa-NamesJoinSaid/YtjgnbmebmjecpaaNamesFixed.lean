/-
  Walk of stage 5: boltinglaw05.fixed: the calls whose answers the document fixes: it returns true.
-/
import Derived.Test.YtjgnbmebmjecpaaNamesWalkB
import Derived.Test.YtjgnbmebmjecpaaNamesWalkC
import Derived.Test.YtjgnbmebmjecpaaNamesWalkF
import Derived.Test.YtjgnbmebmjecpaaNamesFacts
import Derived.Test.YtjgnbmebmjecpaaRefEqual
import Derived.Test.YtjgnbmebmjecpaaRefIs
namespace Go.Proofs.Ytjgnbmebmjecpaa.Na
set_option linter.unusedSimpArgs false
set_option linter.unusedVariables false
open Go.RowKit Ba Fm Fo Nm

theorem void1 (w : World) (s : ByteArray) (q : Bool) (h : isIn s voidL = q) : Calls Try.prog 11 #[.string s] w fun e w' => e = .returned (.bool q) ∧ Below w.heap.size w w' := by
  have k := void_any s w
  rw [h] at k
  exact k
theorem raw1 (w : World) (s : ByteArray) (q : Bool) (h : isIn s rawL = q) : Calls Try.prog 14 #[.string s] w fun e w' => e = .returned (.bool q) ∧ Below w.heap.size w w' := by
  have k := raw_any s w
  rw [h] at k
  exact k
theorem soft1 (w : World) (s : ByteArray) (q : Bool) (h : isIn s softL = q) : Calls Try.prog 16 #[.string s] w fun e w' => e = .returned (.bool q) ∧ Below w.heap.size w w' := by
  have k := soft_any s w
  rw [h] at k
  exact k
theorem block1 (w : World) (s : ByteArray) (q : Bool) (h : isIn s blockL = q) : Calls Try.prog 18 #[.string s] w fun e w' => e = .returned (.bool q) ∧ Below w.heap.size w w' := by
  have k := block_any s w
  rw [h] at k
  exact k
theorem gone1 (w : World) (s : ByteArray) (q : Bool) (h : isIn s goneL = q) : Calls Try.prog 20 #[.string s] w fun e w' => e = .returned (.bool q) ∧ Below w.heap.size w w' := by
  have k := gone_any s w
  rw [h] at k
  exact k
theorem closes1 (w : World) (s : ByteArray) (r : List ByteArray) (h : closesL s = r) : Calls Try.prog 22 #[.string s] w fun e w' => ∃ v, e = .returned v ∧ Sown w.heap.size w' v r ∧ Below w.heap.size w w' := by
  have k := closes_any s w
  rw [h] at k
  exact k
theorem walls1 (w : World) (s : ByteArray) (r : List ByteArray) (h : wallsL s = r) : Calls Try.prog 23 #[.string s] w fun e w' => ∃ v, e = .returned v ∧ Sown w.heap.size w' v r ∧ Below w.heap.size w w' := by
  have k := walls_any s w
  rw [h] at k
  exact k
theorem right1 (w : World) (s : ByteArray) (q : Bool) (hs : s.size ≤ 140737488355328) (h : rightB s = q) : Calls Try.prog 28 #[.string s] w fun e w' => e = .returned (.bool q) ∧ w = w' := by
  have k := right_any s w hs
  rw [h] at k
  exact k
theorem attr1 (w : World) (s : ByteArray) (q : Bool) (hs : s.size ≤ 140737488355328) (h : attrB s = q) : Calls Try.prog 30 #[.string s] w fun e w' => e = .returned (.bool q) ∧ w = w' := by
  have k := attr_any s w hs
  rw [h] at k
  exact k
theorem equalS (w : World) (v u : Value) (l : List ByteArray) (hv : Sv w w.heap.size v l) (hu : Sv w w.heap.size u l) (hl : l.length ≤ 1000) :
    Calls Try.prog 24 #[v, u] w fun e w' => e = .returned (.bool true) ∧ Below w.heap.size w w' := by
  obtain ⟨A, c, rfl, _, _, hr⟩ := hv
  obtain ⟨C, d, rfl, _, _, hq⟩ := hu
  exact equal_any A C c d l w hr hq (by omega)
theorem equalLit (w : World) (N : Nat) (v : Value) (l : List ByteArray) (ho : Sown N w v l) (hl : l.length ≤ 1000) :
    Calls Try.prog 24 #[v, .slice (some ⟨w.heap.size, 0, none⟩) l.length l.length] (w.alloc (.cells (l.map sc).toArray 9)) fun e w' => e = .returned (.bool true) ∧ Below w.heap.size w w' := by
  have h1 := ((sv_own ho).below (below_one w (.cells (l.map sc).toArray 9)) (Nat.le_refl _)).more (below_one w (.cells (l.map sc).toArray 9)).size
  exact (equalS _ _ _ l h1 (sv_lit w l) hl).mono fun e w' ⟨he, hb⟩ => ⟨he, bt (below_one w _) hb⟩
theorem equal2 (w : World) (N : Nat) (v : Value) (x y : ByteArray) (ho : Sown N w v [x, y]) :
    Calls Try.prog 24 #[v, .slice (some ⟨w.heap.size, 0, none⟩) 2 2] (w.alloc (.cells #[.string x, .string y] 9)) fun e w' => e = .returned (.bool true) ∧ Below w.heap.size w w' := equalLit w N v [x, y] ho (by show 2 ≤ 1000; omega)
theorem equal4 (w : World) (N : Nat) (v : Value) (x y z u : ByteArray) (ho : Sown N w v [x, y, z, u]) :
    Calls Try.prog 24 #[v, .slice (some ⟨w.heap.size, 0, none⟩) 4 4] (w.alloc (.cells #[.string x, .string y, .string z, .string u] 9)) fun e w' => e = .returned (.bool true) ∧ Below w.heap.size w w' := equalLit w N v [x, y, z, u] ho (by show 4 ≤ 1000; omega)
theorem x1 : isIn ⟨#[98, 114]⟩ voidL = true := by kernel_rfl
theorem x2 : isIn ⟨#[98]⟩ voidL = false := by kernel_rfl
theorem x3 : isIn ⟨#[115, 99, 114, 105, 112, 116]⟩ rawL = true := by kernel_rfl
theorem x4 : isIn ⟨#[116, 105, 116, 108, 101]⟩ softL = true := by kernel_rfl
theorem x5 : isIn ⟨#[112]⟩ blockL = true := by kernel_rfl
theorem x6 : isIn ⟨#[98, 111, 100, 121]⟩ goneL = true := by kernel_rfl
theorem x7 : isIn ⟨#[100, 105, 118]⟩ goneL = false := by kernel_rfl
theorem x8 : closesL ⟨#[116, 100]⟩ = [n_td, n_th] := by kernel_rfl
theorem x9 : closesL ⟨#[98]⟩ = [] := by kernel_rfl
theorem x10 : wallsL ⟨#[108, 105]⟩ = [n_menu, n_ol, n_template, n_ul] := by kernel_rfl
theorem x11 : rightB ⟨#[120, 45, 121]⟩ = true := by kernel_rfl
theorem x12 : rightB ⟨#[49, 97]⟩ = false := by kernel_rfl
theorem x13 : attrB ⟨#[111, 110]⟩ = true := by kernel_rfl
theorem x14 : attrB ⟨#[111, 110, 61]⟩ = false := by kernel_rfl

set_option maxRecDepth 100000 in
set_option maxHeartbeats 4000000 in
theorem fixed_any (w : World) : Calls Try.prog 10 #[] w fun e w' => e = .returned (.bool true) ∧ Below w.heap.size w w' := by
  go_enter Try.func10, Try.ntmps10
  go_wp2_with fail
  refine (void1 w ⟨#[98, 114]⟩ true x1).mono ?_
  rintro e w1 ⟨rfl, hb1⟩
  go_wp2_with fail
  refine (void1 w1 ⟨#[98]⟩ false x2).mono ?_
  rintro e w2 ⟨rfl, hb2⟩
  have hb2 := bt hb1 hb2
  clear hb1
  go_wp2_with fail
  refine (raw1 w2 ⟨#[115, 99, 114, 105, 112, 116]⟩ true x3).mono ?_
  rintro e w3 ⟨rfl, hb3⟩
  have hb3 := bt hb2 hb3
  clear hb2
  go_wp2_with fail
  refine (soft1 w3 ⟨#[116, 105, 116, 108, 101]⟩ true x4).mono ?_
  rintro e w4 ⟨rfl, hb4⟩
  have hb4 := bt hb3 hb4
  clear hb3
  go_wp2_with fail
  refine (block1 w4 ⟨#[112]⟩ true x5).mono ?_
  rintro e w5 ⟨rfl, hb5⟩
  have hb5 := bt hb4 hb5
  clear hb4
  go_wp2_with fail
  refine (gone1 w5 ⟨#[98, 111, 100, 121]⟩ true x6).mono ?_
  rintro e w6 ⟨rfl, hb6⟩
  have hb6 := bt hb5 hb6
  clear hb5
  go_wp2_with fail
  refine (gone1 w6 ⟨#[100, 105, 118]⟩ false x7).mono ?_
  rintro e w7 ⟨rfl, hb7⟩
  have hb7 := bt hb6 hb7
  clear hb6
  go_wp2_with fail
  refine (closes1 w7 ⟨#[116, 100]⟩ [n_td, n_th] x8).mono ?_
  rintro e w8 ⟨v8, rfl, ho8, hb8⟩
  have hb8 := bt hb7 hb8
  clear hb7
  go_wp2_with fail
  refine (equal2 w8 _ v8 n_td n_th ho8).mono ?_
  rintro e w9 ⟨rfl, hb9⟩
  have hb9 := bt hb8 hb9
  clear hb8
  go_wp2_with fail
  refine (closes1 w9 ⟨#[98]⟩ [] x9).mono ?_
  rintro e w10 ⟨v9, rfl, ho9, hb10⟩
  have hb10 := bt hb9 hb10
  clear hb9
  obtain ⟨A9, c9, rfl, _, _, _⟩ := sv_own ho9
  clear ho8 ho9
  simp only [List.length_nil]
  go_wp2_with fail
  refine (walls1 w10 ⟨#[108, 105]⟩ [n_menu, n_ol, n_template, n_ul] x10).mono ?_
  rintro e w11 ⟨v10, rfl, ho10, hb11⟩
  have hb11 := bt hb10 hb11
  clear hb10
  go_wp2_with fail
  refine (equal4 w11 _ v10 n_menu n_ol n_template n_ul ho10).mono ?_
  rintro e w12 ⟨rfl, hb12⟩
  have hb12 := bt hb11 hb12
  clear hb11
  clear ho10
  go_wp2_with fail
  refine (right1 w12 ⟨#[120, 45, 121]⟩ true (by decide) x11).mono ?_
  rintro e w13 ⟨rfl, rfl⟩
  go_wp2_with fail
  refine (right1 w12 ⟨#[49, 97]⟩ false (by decide) x12).mono ?_
  rintro e w14 ⟨rfl, rfl⟩
  go_wp2_with fail
  refine (attr1 w12 ⟨#[111, 110]⟩ true (by decide) x13).mono ?_
  rintro e w15 ⟨rfl, rfl⟩
  go_wp2_with fail
  refine (attr1 w12 ⟨#[111, 110, 61]⟩ false (by decide) x14).mono ?_
  rintro e w16 ⟨rfl, rfl⟩
  go_wp2
  go_ret
  exact ⟨rfl, hb12⟩

end Go.Proofs.Ytjgnbmebmjecpaa.Na
