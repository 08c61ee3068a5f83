/-
  Walks of stage 3: the names (refs.Named over the package's table, boltingref03.Named).
-/
import Derived.Test.YtjhhhlomkfnniaaDoorRefsWalkC
import Derived.Deep.MidRow
namespace Go.Proofs.YtjhhhlomkfnniaaDoor.Re
set_option linter.unusedSimpArgs false
set_option linter.unusedVariables false
open Go.RowKit Ba Rm

/-- The table's cells. -/
def cellsOf2 (t : List (List UInt8 × Nat)) : List Value := match t with
  | [] => []
  | p :: r => .string (B p.1) :: .int .i64 p.2 :: cellsOf2 r
theorem cellsOf2_drop (t : List (List UInt8 × Nat)) (k : Nat) : (cellsOf2 t).drop (2 * k) = cellsOf2 (t.drop k) := by
  induction t generalizing k with
  | nil => simp [cellsOf2]
  | cons p r ih =>
    cases k with
    | zero => rfl
    | succ k => rw [show 2 * (k + 1) = 2 * k + 1 + 1 from by omega, cellsOf2, List.drop_succ_cons, List.drop_succ_cons, ih, List.drop_succ_cons]
/-- In this world the package's table is as its text lays it. -/
def Tab (w : World) : Prop := w.rangeAt 0 0 (cellsOf2 tab) ∧ 0 < w.heap.size
theorem Tab.below {w w' : World} (h : Tab w) (hb : Below w.heap.size w w') : Tab w' := by
  refine ⟨fun j v hv => ?_, Nat.lt_of_lt_of_le h.2 hb.size⟩
  rw [hb.cell (p := ⟨0, 0 + j, none⟩) h.2]
  exact h.1 j v hv

theorem tabT_info : (Tryd.prog.info? 96).map (·.size) = some 48 := by kernel_rfl
theorem pairT_info : (Tryd.prog.info? 95).map (·.size) = some 2 := by kernel_rfl

theorem load_tab {w : World} (h : Tab w) : (Instr.loadAt 96 (.pointer (some ⟨0, 0, none⟩))).run Tryd.prog w = .ok (.agg (cellsOf2 tab).toArray) w :=
  run_loadAt_mid w 0 0 96 (cellsOf2 tab) _ h.1 Tryd.underlying96 rfl (tabT_info.trans (by decide))
theorem index_tab (w : World) (k : Nat) (p : List UInt8 × Nat) (r : List (List UInt8 × Nat)) (hk : k < 24) (h : tab.drop k = p :: r) : (Instr.index 96 (.agg (cellsOf2 tab).toArray) (.int .i64 k)).run Tryd.prog w = .ok (.agg #[.string (B p.1), .int .i64 p.2]) w := by
  have hx : ((cellsOf2 tab).drop (k * 2)).take 2 = [.string (B p.1), .int .i64 p.2] := by
    rw [Nat.mul_comm k 2, cellsOf2_drop, h]
    rfl
  have h0 : (0 : Int) ≤ k ∧ (k : Int) < (24 : Nat) := by omega
  cases hq : Tryd.prog.info? 95 with
  | none => have := pairT_info; rw [hq] at this; cases this
  | some i =>
    have hs : i.size = 2 := by have := pairT_info; rw [hq] at this; simpa using this
    simp [Instr.index, run_underlying Tryd.underlying96, run_underlying Tryd.underlying95, asIntOf, part, isAgg, sizeOf, typeInfo, hq, hs, h0, go_sem]
    rw [if_pos hk, hx]

theorem look_stop {p : List UInt8 × Nat} {r : List (List UInt8 × Nat)} {s : List UInt8} (h : p.1 = s) : Rm.look (p :: r) s = some (code p.2) := by rw [Rm.look, if_pos h]
theorem look_on {p : List UInt8 × Nat} {r : List (List UInt8 × Nat)} {s : List UInt8} (h : ¬ p.1 = s) : Rm.look (p :: r) s = Rm.look r s := by rw [Rm.look, if_neg h]
theorem tab_at (k : Nat) (h : k < 24) : ∃ p, p ∈ tab ∧ tab.drop k = p :: tab.drop (k + 1) := by
  have hl : k < tab.length := h
  exact ⟨tab[k], List.getElem_mem _, List.drop_eq_getElem_cons hl⟩
theorem tab_small : ∀ p ∈ tab, p.2 ≤ 8364 ∧ code p.2 = enc p.2 := by decide
theorem str_eqL (a : List UInt8) (s : ByteArray) : ((B a).toList == s.toList) = decide (a = L s) := by
  rw [toList_B, toList_L, Bool.eq_iff_iff, beq_iff_eq, decide_eq_true_iff]

set_option maxRecDepth 100000 in
set_option maxHeartbeats 1000000 in
theorem named_any (s : ByteArray) (w : World) (ht : Tab w) :
    Calls Tryd.prog 95 #[.string s] w fun e w' => e = .returned (.tuple #[.string (B ((Rm.look tab (L s)).getD [])), .bool (Rm.look tab (L s)).isSome]) ∧ Below w.heap.size w w' := by
  obtain ⟨V, hV⟩ : ∃ V, Rm.look tab (L s) = V := ⟨_, rfl⟩
  rw [hV]
  have hrg := ht.1
  have hln : (Tryd.prog.info? 96).map (·.size) = some (cellsOf2 tab).length := tabT_info.trans (by decide)
  have hix := fun (w : World) k p r => index_tab w k p r
  generalize cellsOf2 tab = cs at hrg hix hln
  have HR := Lib.hid hrg; clear hrg
  have HL := Lib.hid hln; clear hln
  have HI := Lib.hid hix; clear hix
  go_enter Tryd.func95, Tryd.ntmps95
  go_wp2_with (refine wpList_load_mid rfl 96 (.global 0) rfl 0 0 rfl cs _ HR.out Tryd.underlying96 rfl HL.out ?_)
  clear HR HL
  go_loopw [7] (fun i wr => ∃ k : Nat, i = .int .i64 k ∧ k ≤ 24 ∧ Rm.look (tab.drop k) (L s) = V ∧ Below w.heap.size w wr) (fun i _ => 24 - (intOf i).toNat)
  case atStart => exact ⟨0, rfl, by omega, hV, Below.refl _ _⟩
  case round =>
    clear hV
    obtain ⟨k, rfl, hk, hc, hbel⟩ := hrel
    by_cases hp : k < 24
    · obtain ⟨p, hpm, hpd⟩ := tab_at k hp
      have hix := HI.out wr k p _ hp hpd
      rw [hpd] at hc
      have hsz := hbel.size
      by_cases he : p.1 = L s
      · rw [look_stop he] at hc
        subst hc
        have hb : ((B p.1).toList == s.toList) = true := by rw [str_eqL]; exact decide_eq_true he
        have hp2 := (tab_small p hpm).1
        have hwf : (Lit.int .i64 (p.2 : Int)).wf = true := WalkArith.wf_i64 (by omega)
        clear he hpd hp2
        go_wp2_with (go_at_call 104; refine (code_any p.2 _ hwf).mono ?_; rintro e w' ⟨rfl, rfl⟩)
        go_ret2
        exact ⟨rfl, hbel.alloc hsz _⟩
      · rw [look_on he] at hc
        have hb : ((B p.1).toList == s.toList) = false := by rw [str_eqL]; exact decide_eq_false he
        have HC := Lib.hid hc
        clear he hpd hc
        go_wp2
        go_roundw
        case rel => exact ⟨k + 1, by go_num, by omega, HC.out, hbel.alloc hsz _⟩
        case measure => simp [intOf]; omega
    · have hc' : V = none := by
        rw [← hc, List.drop_eq_nil_of_le (by show 24 ≤ k; omega)]
        rfl
      subst hc'
      clear hc
      go_wp2
      go_ret2
      exact ⟨rfl, hbel⟩

/-- The reference's lists of the names and their numbers. -/
def nmCells : List Value := tab.map fun p => .string (B p.1)
def noCells : List Value := tab.map fun p => .int .i64 p.2
theorem names_any (w : World) : Calls Tryd.prog 101 #[] w fun e w' => e = .returned (.slice (some ⟨w.heap.size, 0, none⟩) 24 24) ∧ w' = w.alloc (.cells nmCells.toArray 9) := by
  go_enter Tryd.func101, Tryd.ntmps101
  go_wp2
  go_ret
  exact ⟨rfl, rfl⟩
theorem numbers_any (w : World) : Calls Tryd.prog 102 #[] w fun e w' => e = .returned (.slice (some ⟨w.heap.size, 0, none⟩) 24 24) ∧ w' = w.alloc (.cells noCells.toArray 3) := by
  go_enter Tryd.func102, Tryd.ntmps102
  go_wp2
  go_ret
  exact ⟨rfl, rfl⟩
theorem map_at {f : List UInt8 × Nat → Value} {k : Nat} {p : List UInt8 × Nat} {r : List (List UInt8 × Nat)} (h : tab.drop k = p :: r) : (tab.map f).toArray[k]? = some (f p) := by
  have e : tab[k]? = some p := by
    have := List.getElem?_drop (xs := tab) (i := k) (j := 0)
    rw [h] at this
    simpa using this.symm
  simp [e]

set_option maxRecDepth 100000 in
set_option maxHeartbeats 1000000 in
theorem refNamed_any (s : ByteArray) (w : World) :
    Calls Tryd.prog 90 #[.string s] w fun e w' => e = .returned (.tuple #[.string (B ((Rm.look tab (L s)).getD [])), .bool (Rm.look tab (L s)).isSome]) ∧ Below w.heap.size w w' := by
  obtain ⟨V, hV⟩ : ∃ V, Rm.look tab (L s) = V := ⟨_, rfl⟩
  rw [hV]
  have c1 : ∀ k p r, tab.drop k = p :: r → ((w.alloc (.cells nmCells.toArray 9)).alloc (.cells noCells.toArray 3)).cell? ⟨w.heap.size, k, none⟩ = some (.string (B p.1)) := fun k p r h => by
    rw [World.cell?_alloc_lt _ _ _ (by simp), World.cell?_alloc_mark]
    exact map_at h
  have c2 : ∀ k p r, tab.drop k = p :: r → ((w.alloc (.cells nmCells.toArray 9)).alloc (.cells noCells.toArray 3)).cell? ⟨w.heap.size + 1, k, none⟩ = some (.int .i64 p.2) := fun k p r h => by
    have e : w.heap.size + 1 = (w.alloc (.cells nmCells.toArray 9)).heap.size := by simp
    rw [e, World.cell?_alloc_mark]
    exact map_at h
  have hbel : Below w.heap.size w ((w.alloc (.cells nmCells.toArray 9)).alloc (.cells noCells.toArray 3)) := (below_new w _).alloc (by simp) _
  go_enter Tryd.func90, Tryd.ntmps90
  go_wp2_with fail
  refine (names_any w).mono ?_
  rintro e w1 ⟨rfl, rfl⟩
  go_wp2_with fail
  refine (numbers_any _).mono ?_
  rintro e w2 ⟨rfl, hw2⟩
  rw [← hw2] at c1 c2 hbel
  have hz : (w.alloc (.cells nmCells.toArray 9)).heap.size = w.heap.size + 1 := by simp
  rw [hz]
  have C1 := Lib.hid c1; have C2 := Lib.hid c2
  clear c1 c2 hw2 hz
  go_wp2
  go_loop [6] (fun i => ∃ k : Nat, i = .int .i64 k ∧ k ≤ 24 ∧ Rm.look (tab.drop k) (L s) = V) (fun i => 24 - (intOf i).toNat)
  case atStart => exact ⟨0, rfl, by omega, hV⟩
  case round =>
    clear hV
    obtain ⟨k, rfl, hk, hc⟩ := hrel
    by_cases hp : k < 24
    · obtain ⟨p, hpm, hpd⟩ := tab_at k hp
      have d1 := C1.out k p _ hpd
      have d2 := C2.out k p _ hpd
      rw [hpd] at hc
      by_cases he : p.1 = L s
      · rw [look_stop he] at hc
        subst hc
        have hb : ((B p.1).toList == s.toList) = true := by rw [str_eqL]; exact decide_eq_true he
        obtain ⟨hp2, hp3⟩ := tab_small p hpm
        have HP3 := Lib.hid hp3
        clear he hpd hp3
        go_wp2_with fail
        refine (char_any p.2 (by omega) _).mono ?_
        rintro e w3 ⟨rfl, hb3⟩
        go_wp2
        go_ret2
        refine ⟨ret_sb ?_ rfl, hbel.trans (hb3.mono hbel.size)⟩
        rw [Option.getD_some, HP3.out]
      · rw [look_on he] at hc
        have hb : ((B p.1).toList == s.toList) = false := by rw [str_eqL]; exact decide_eq_false he
        have HC := Lib.hid hc
        clear he hpd hc
        go_wp2
        go_round
        case rel => exact ⟨k + 1, by go_num, by omega, HC.out⟩
        case measure => simp [intOf]; omega
    · have hc' : V = none := by
        rw [← hc, List.drop_eq_nil_of_le (by show 24 ≤ k; omega)]
        rfl
      subst hc'
      clear hc
      go_wp2
      go_ret2
      exact ⟨rfl, hbel⟩

end Go.Proofs.YtjhhhlomkfnniaaDoor.Re
