/-
  Walks of stage 7: joins, add of the builder.
  Tokens in memory: what a slice of rows reads as, their attributes, a row loaded, a row in a box.
  Rows and attributes of the call's own: what they hold, what is kept where another one grows, append of a row and of attributes.
  fold.Space.
  boltingref02.Space.
  Walks of stage 2, for later stages: fold.lowerByte, Letter, Lower, Same, Trim, boltingref02.Letter, Lower, Trim.
  Walks of stage 3: refs.Code, boltingref03's Char and Code, the digits, has, end, bodyOf, kindOf.
  Walks of stage 3: the digits, has, end, bodyOf, kindOf.
  Walks of stage 3: the value of digits (boltingref03.value, refs.numbered).
  Walks of stage 3: the names (refs.Named over the package's table, boltingref03.Named).
  Walks of stage 3: what a reference's body stands for (refs.denoted, boltingref03.meant), the start of a text (refs.first), a text decoded (refs.Decode, boltingref03.Decode).
  Walks of stage 3: the start of a text (refs.first), a text decoded (refs.Decode, boltingref03.Decode).
  Walks of stage 3: a text decoded (refs.Decode, boltingref03.Decode).
-/
import Derived.Test.YtoijeljjehjfjaaDoorCk03
import Derived.Test.YtoijeljjehjfjaaDoorCk02
import Derived.Test.YtoijeljjehjfjaaDoorCk01
import Derived.Deep.MidRow
import Derived.BigQuiet
import Derived.Deep.QuietTactic
import Derived.Lib.ConvBytes
namespace Go.Proofs.YtoijeljjehjfjaaDoor.Bu
set_option maxRecDepth 100000
set_option linter.unusedVariables false
set_option linter.unusedSimpArgs false
open Go.RowKit Ba Fm Fo Nm Bm
open Ro (At Ro Cw ros Fr Ow Att Ap Rr Sh acells len_acells cells len_cells rowV rowO info_row info_attr below_new acells_one flat_at flat_len row_cells_new cells_one range2 range5 len_ros ros_append)
theorem meets_nil (y : Ro) : meets [] y = false := by
  unfold meets
  rw [show ending [] = none from rfl, decide_eq_false (p := none = some (true, y.depth)) (by simp), Bool.and_false]
theorem meets_other (l : List Ro) {y : Ro} (h : ¬ y.kind = 1) : meets l y = false := by
  unfold meets
  rw [decide_eq_false h, Bool.false_and]
theorem meets_text {l : List Ro} {x y : Ro} (h : y.kind = 1) (he : ending l = some (decide (x.kind = 1), x.depth)) : meets l y = ((x.kind == 1) && (x.depth == y.depth)) := by
  unfold meets
  rw [decide_eq_true h, Bool.true_and, he]
  by_cases h1 : x.kind = 1
  · by_cases h2 : x.depth = y.depth
    · rw [decide_eq_true (by rw [decide_eq_true h1, h2]), beq_iff_eq.2 h1, beq_iff_eq.2 h2]; rfl
    · rw [decide_eq_false (fun e => by injection e with e; injection e with _ e; exact h2 e), beq_eq_false_iff_ne.2 h2, Bool.and_false]
  · rw [decide_eq_false (fun e => by injection e with e; injection e with e _; exact h1 (of_decide_eq_true e)), beq_eq_false_iff_ne.2 h1, Bool.false_and]

set_option maxHeartbeats 2000000 in
theorem joins_any (N b : Nat) (vo vr : Value) (n : Int) (big : Bool) (l : List Cw) (y : Cw) (w : World) (h : Bc w b vo vr n big) (hr : Or N w vr l) (hl : l.length ≤ 1000000) :
    Calls Tryd.prog 77 #[bp b, rowV y] w fun e w' => e = .returned (.bool (meets (ros l) y.ro)) ∧ Below w.heap.size w w' := by
  have c1 := h.c1; have hz := h.lt
  by_cases h0 : l.length = 0
  · obtain rfl : l = [] := List.eq_nil_of_length_eq_zero h0
    rw [show ros [] = [] from rfl, meets_nil]
    obtain ⟨A, c, rfl, _⟩ := hr.form
    clear h hr
    go_enter Tryd.func77, Tryd.ntmps77
    go_wp2
    go_ret
    exact ⟨rfl, below_new w _⟩
  obtain ⟨k, hk⟩ : ∃ k, l.length = k + 1 := ⟨l.length - 1, by omega⟩
  obtain ⟨b2, off, c, x, rfl, hc, hb2, hx, he⟩ := last_row hr (by omega)
  have g0 : (((k + 1 : Nat) : Int) == 0) = false := by rw [beq_eq_false_iff_ne]; omega
  rw [hk] at c1 hx hc
  by_cases hy : y.ro.kind = 1
  · rw [meets_text hy he]
    have g1 : (y.ro.kind != 1) = false := by rw [hy]; rfl
    rw [Nat.add_sub_cancel] at hx
    obtain ⟨x0, x1, x2, x3, x4⟩ := range5 hx
    have hkl : k ≤ 1000000 := by omega
    clear h hr he hx hk hy hl h0
    have i1 : (0 : Int) ≤ (k : Int) := by omega
    have i2 : (k : Int) < (k : Int) + 1 := by omega
    have i0 : IntKind.i64.wrap (k : Int) = (k : Nat) := IntWalk.i64_in _ (by omega)
    go_enter Tryd.func77, Tryd.ntmps77
    go_wp2
    go_region
    all_goals go_wp2
    all_goals go_ret
    all_goals refine ⟨?_, below_dN ((below_new w _).alloc (by simp) _) 1⟩
    all_goals first
      | exact ret_bool (by rw [show (x.ro.kind == 1) = true from beq_iff_eq.2 (by assumption)]; rfl)
      | exact ret_bool (by rw [show (x.ro.kind == 1) = false from beq_eq_false_iff_ne.2 (by assumption)]; rfl)
  · rw [meets_other _ hy]
    have g1 : (y.ro.kind != 1) = true := by rw [bne_iff_ne]; exact hy
    clear h hr he hx hk hy
    go_enter Tryd.func77, Tryd.ntmps77
    go_wp2
    go_ret
    exact ⟨rfl, below_new w _⟩

/-- What the builder says of a row that is added: so many, too many. -/
def more (l : List Ro) (n : Int) (y : Ro) : Int := if meets l y = true then n else n + 1
theorem more_yes {l : List Ro} {n : Int} {y : Ro} (h : meets l y = true) : more l n y = n := if_pos h
theorem more_no {l : List Ro} {n : Int} {y : Ro} (h : meets l y = false) : more l n y = n + 1 := if_neg (by rw [h]; simp)

theorem joins1 (N b : Nat) (vo vr : Value) (n : Int) (big : Bool) (l : List Cw) (y : Cw) (w : World) (h : Bc w b vo vr n big) (hr : Or N w vr l) (hl : l.length ≤ 1000000) (q : Bool) (hq : meets (ros l) y.ro = q) :
    Calls Tryd.prog 77 #[bp b, rowV y] w fun e w' => e = .returned (.bool q) ∧ Below w.heap.size w w' := by
  subst hq
  exact joins_any N b vo vr n big l y w h hr hl

/-- A row behind the rows of a builder, and what stands behind the store. -/
theorem Bg.put {N : Nat} {w w1 : World} {b : Nat} {vo vr v' : Value} {o : List ByteArray} {l : List Cw} {y : Cw} {n : Int} {big : Bool} (hc : Bc w b vo vr n big) (ho : Sown N w vo o) (hr : Or N w vr l) (hN : N ≤ b) (hy : Fr N w y)
    (h1 : w1.ownsRow N 31 5 v' (l.length + 1) (l.flatMap cells ++ cells y)) (hg : w.grownBy w1 vr.ownBlock) :
    Bg N (w1.setCell ⟨b, 1, none⟩ v') b o (l ++ [y]) n big ∧ ∀ w0, Below N w0 w → Below N w0 (w1.setCell ⟨b, 1, none⟩ v') := by
  have hrc : Bc w1 b vo vr n big := (hg.block b hc.lt (fun e => own_ne hr.1 hc (by decide) e.symm)).trans hc
  have hs : Sown N w1 vo o := World.ownsRow.kept ho hg (own_apart ho hr.1 (by decide))
  have hfr : ∀ x, Fr N w x → Fr N w1 x := fun x hx => ⟨World.ownsRow.kept hx.1 hg (own_apart hx.1 hr.1 (by decide)), hx.2⟩
  have hor : Or N w1 v' (l ++ [y]) := ⟨by rw [List.length_append, List.flatMap_append]; simpa using h1, fun x hx => by
    rcases List.mem_append.1 hx with hx | hx
    · exact hfr x (hr.2 x hx)
    · rw [List.mem_singleton.1 hx]; exact hfr y hy⟩
  have hgs := g_set w1 b 1 v'
  refine ⟨⟨vo, v', hrc.set1 v', Sown.keptB hs hgs hrc (by decide), hor.kept hgs hrc (by decide) (by decide), hN⟩, fun w0 h0 => ?_⟩
  have hlt := hc.lt
  exact (h0.grown hg (by omega) fun k hk => (World.ownsRow.lt hr.1 k hk).1).setCell hN _

theorem Bc.over {N : Nat} {w w' : World} {b : Nat} {vo vr : Value} {n : Int} {big : Bool} {l : List Cw} (h : Bc w b vo vr n big) (hr : Or N w vr l) (hg : w.grownBy w' vr.ownBlock) : Bc w' b vo vr n big := (hg.block b h.lt (fun e => own_ne hr.1 h (by decide) e.symm)).trans h
/-- append of one row onto the rows of a builder, at a step of a region that draws. -/
theorem step_app_row {ops : Array Oper} {o : Oper} {a : Act} {K : Act → World → Prop} {Q : Exit → Act → World → Prop} {E : Prop} (W : World) (hgd : o.guard = none) (s x : Operand)
    (ho : o.op = .call { callee := .builtin .append, args := #[s, x], argTypes := #[24, 24] })
    (W0 : World) (N : Nat) (v : Value) (l : List Cw) (z : Cw) (hr : Or N W0 v l) (hg : W0.grownBy W none) (hN : N ≤ W0.heap.size) (hl : l.length ≤ 2000000)
    (hs : a.eval s = v) (g0 : Nat) (hx : a.eval x = .slice (some ⟨g0, 0, none⟩) 1 1) (hz : W.heap[g0]? = some (rowO z))
    (h : ∀ g cap w', w'.ownsRow N 31 5 (.slice (some ⟨g, 0, none⟩) (l.length + 1) cap) (l.length + 1) (l.flatMap cells ++ cells z) → W0.grownBy w' v.ownBlock → K (a.put o.dst (.slice (some ⟨g, 0, none⟩) (l.length + 1) cap)) w') :
    if Region.wanted o (yielded ops a.tmps) = true then Oper.wp Tryd.prog o a W K Q else E := by
  obtain ⟨i0, hi, hz0, hz1, hz2⟩ := info_parts info_row
  have hown : W.ownsRow N 31 5 v l.length (l.flatMap cells) := World.ownsRow.kept hr.1 hg (by cases hv : v.ownBlock with
    | none => exact .inl rfl
    | some k => right; simp)
  refine step_append_lies W hgd s x 24 ho N 31 i0 _ 5 72 Tryd.underlying24 hi hz0 hz1 hz2 rfl (by decide) v l.length (l.flatMap cells) hs hown ⟨g0, 0, none⟩ 1 1 (cells z) hx rfl (fun j u hu => World.news_of_block hz j u hu) (cells_one z) (by decide) (by unfold maxLen; omega) (by omega) (Nat.le_trans hN hg.size) _ rfl ?_
  intro g cap w1 h1 h2 _ _
  refine h g cap w1 h1 ?_
  have hlt : ∀ k, v.ownBlock = some k → N ≤ k := fun k hk => (World.ownsRow.lt hr.1 k hk).1
  exact ⟨h2.os.trans hg.os, h2.tape.trans hg.tape, h2.output.trans hg.output, Nat.le_trans hg.size h2.size, fun i hi hne => (h2.block i (Nat.lt_of_lt_of_le hi hg.size) hne).trans (hg.block i hi (by simp))⟩

set_option maxHeartbeats 4000000 in
theorem add_any (N b : Nat) (o : List ByteArray) (l : List Cw) (n : Int) (big : Bool) (y : Cw) (w : World) (h : Bg N w b o l n big) (hy : Fr N w y) (hl : l.length ≤ 1000000) (hol : o.length ≤ 1000000) (hn0 : 0 ≤ n) (hn : n ≤ 1000000) :
    Calls Tryd.prog 62 #[bp b, rowV y] w fun e w' => e = .returned (.tuple #[]) ∧ ∃ z : Cw, z.ro = ⟨(o.length : Nat), y.ro.kind, y.ro.name, y.ro.data, y.ro.attrs⟩ ∧
      Bg N w' b o (l ++ [z]) (more (ros l) n z.ro) (decide (4096 < more (ros l) n z.ro) || decide (60 ≤ (o.length : Int))) ∧ Below N w w' ∧ Kt w w' := by
  obtain ⟨vo, vr, hc, ho, hr, hN⟩ := h
  obtain ⟨Ao, co, rfl, _⟩ := ho.form
  obtain ⟨z, hzd⟩ : ∃ z : Cw, z = ⟨⟨(o.length : Nat), y.ro.kind, y.ro.name, y.ro.data, y.ro.attrs⟩, y.A, y.c⟩ := ⟨_, rfl⟩
  have hyz : Fr N w z := by rw [hzd]; exact hy
  have hzro : z.ro = ⟨(o.length : Nat), y.ro.kind, y.ro.name, y.ro.data, y.ro.attrs⟩ := by rw [hzd]
  have hrow : (Value.agg #[.int .i64 (o.length : Nat), .int .i64 y.ro.kind, .string y.ro.name, .string y.ro.data, .slice y.A y.ro.attrs.length y.c]) = rowV z := by rw [hzd]
  have hobj : (Obj.cells #[.int .i64 (o.length : Nat), .int .i64 y.ro.kind, .string y.ro.name, .string y.ro.data, .slice y.A y.ro.attrs.length y.c] 31) = rowO z := by rw [hzd]
  have hdep : z.ro.depth = (o.length : Nat) := by rw [hzd]
  have c0 := hc.c0; have f0 := hc.f 0
  have hz := hc.lt
  have HC := Lib.hid hc; have HO := Lib.hid ho; have HR := Lib.hid hr; have HY := Lib.hid hyz; have HROW := Lib.hid hrow; have HOBJ := Lib.hid hobj; have HZ := Lib.hid hzro; have HD := Lib.hid hdep
  clear hc ho hr hy hyz hrow hobj hzro hzd hdep
  cases hq : meets (ros l) z.ro with
  | false =>
    have HQ := Lib.hid hq
    clear hq
    go_enter Tryd.func62, Tryd.ntmps62
    go_wp2_with fail
    rw [HROW.out, HOBJ.out]
    have hb1 := below_new w (rowO z)
    refine (joins1 N b _ vr n big l z (w.alloc (rowO z)) (HC.out.below hb1) (HR.out.below hb1) hl false HQ.out).mono ?_
    rintro e w3 ⟨rfl, hb3⟩
    have B3 := bt hb1 hb3
    have hc3 := HC.out.below B3
    have d0 : w3.cell? ⟨w.heap.size, 0, none⟩ = some (.int .i64 z.ro.depth) := Ro.box_kept (x := z) hb3 0
    have d1 : w3.cell? ⟨w.heap.size, 1, none⟩ = some (.int .i64 z.ro.kind) := Ro.box_kept (x := z) hb3 1
    have d2 : w3.cell? ⟨w.heap.size, 2, none⟩ = some (.string z.ro.name) := Ro.box_kept (x := z) hb3 2
    have d3 : w3.cell? ⟨w.heap.size, 3, none⟩ = some (.string z.ro.data) := Ro.box_kept (x := z) hb3 3
    have d4 : w3.cell? ⟨w.heap.size, 4, none⟩ = some (.slice z.A z.ro.attrs.length z.c) := Ro.box_kept (x := z) hb3 4
    have c2 := hc3.c2; have f2 := hc3.f 2; have c3 := hc3.c3; have f3 := hc3.f 3
    have HC3 := Lib.hid hc3; have HB3 := Lib.hid B3
    have HSZ : w.heap.size < w3.heap.size := Nat.lt_of_lt_of_le (by simp) hb3.size
    clear c0 f0 hc3 B3 hb3 hb1
    cases hg : decide (4096 < n + 1) with
    | true =>
      go_upto_region 5 with (fail)
      obtain ⟨W4, hW4⟩ : ∃ W4, (w3.setCell ⟨b, 2, none⟩ (.int .i64 (n + 1))).setCell ⟨b, 3, none⟩ (.bool true) = W4 := ⟨_, rfl⟩
      rw [hW4]
      have hc4 : Bc W4 b _ vr (n + 1) true := hW4 ▸ (HC3.out.set2 (n + 1)).set3 true
      have hgs : w3.grownBy W4 (some b) := hW4 ▸ (g_set w3 b 2 (.int .i64 (n + 1))).trans (g_set _ b 3 (.bool true))
      have ho4 : Sown N W4 _ o := Sown.keptB (HO.out.below HB3.out (Nat.le_refl _)) hgs HC3.out (by decide)
      have hr4 : Or N W4 vr l := (HR.out.below HB3.out).kept hgs HC3.out (by decide) (by decide)
      have hy4 : Fr N W4 z := ⟨World.ownsRow.kept (HY.out.below HB3.out).1 hgs (.inr (own_ne (HY.out.below HB3.out).1 HC3.out (by decide))), HY.out.2⟩
      have hB4 : Below N w W4 := (HB3.out.mono (by omega)).grown hgs (Nat.le_trans (by omega) HB3.out.size) (fun k hk => by injection hk with hk; omega)
      have hkt : Kt w W4 := (Kt.below HB3.out).trans (Kt.grown hgs HC3.out (by decide))
      have HKT := Lib.hid hkt
      have hZ4 : N ≤ W4.heap.size := by have := hc4.lt; omega
      have hne : w.heap.size ≠ b := by omega
      have hk4 : ∀ j, W4.cell? ⟨w.heap.size, j, none⟩ = w3.cell? ⟨w.heap.size, j, none⟩ := fun j => World.cell?_of_block (a := ⟨w.heap.size, j, none⟩) (hgs.block _ HSZ (by simpa using hne))
      have e0 : W4.cell? ⟨w.heap.size, 0, none⟩ = some (.int .i64 z.ro.depth) := (hk4 0).trans d0; have e1 : W4.cell? ⟨w.heap.size, 1, none⟩ = some (.int .i64 z.ro.kind) := (hk4 1).trans d1; have e2 : W4.cell? ⟨w.heap.size, 2, none⟩ = some (.string z.ro.name) := (hk4 2).trans d2; have e3 : W4.cell? ⟨w.heap.size, 3, none⟩ = some (.string z.ro.data) := (hk4 3).trans d3; have e4 : W4.cell? ⟨w.heap.size, 4, none⟩ = some (.slice z.A z.ro.attrs.length z.c) := (hk4 4).trans d4
      have c1 := hc4.c1; have f1 := hc4.f 1; have hz4 := hc4.lt
      have HC4 := Lib.hid hc4; have HO4 := Lib.hid ho4; have HR4 := Lib.hid hr4; have HY4 := Lib.hid hy4; have HB4 := Lib.hid hB4
      clear c2 f2 c3 f3 d0 d1 d2 d3 d4 hk4 hgs hc4 ho4 hr4 hy4 hB4 hW4 hkt
      go_region_law (refine step_app_row _ (by rfl) (.tmp 38) (.tmp 40) (by rfl) W4 N vr l z HR4.out (by first | exact (World.grownBy_alloc W4 _ _).trans (g_dN _ 1 _) | exact (g_dN W4 1 _).trans (World.grownBy_alloc _ _ _)) hZ4 (by omega) (by simp [Act.eval, Act.put]) _ (by simp [Act.eval, Act.put]) (World.alloc_heap_new _ _) ?_; intro g cap w5 hown5 hg5; have hc5 := Bc.over HC4.out HR4.out hg5; have c5 := hc5.c1; have f5 := hc5.f 1; clear hc5)
      all_goals go_wp2
      all_goals go_end0
      all_goals
        obtain ⟨r1, r2⟩ := Bg.put HC4.out HO4.out HR4.out hN HY4.out hown5 hg5
        refine ⟨rfl, z, HZ.out, ?_, r2 _ HB4.out, (HKT.out.trans (Kt.own hg5 HR4.out.1 (by decide))).trans (Kt.grown (g_set w5 b 1 _) (Bc.over HC4.out HR4.out hg5) (by decide))⟩
        rw [more_no HQ.out]
        rw [hg, Bool.true_or]
        exact r1
    | false =>
    cases h6 : decide (60 ≤ z.ro.depth) with
    | true =>
      go_upto_region 5 with (fail)
      obtain ⟨W4, hW4⟩ : ∃ W4, (w3.setCell ⟨b, 2, none⟩ (.int .i64 (n + 1))).setCell ⟨b, 3, none⟩ (.bool true) = W4 := ⟨_, rfl⟩
      rw [hW4]
      have hc4 : Bc W4 b _ vr (n + 1) true := hW4 ▸ (HC3.out.set2 (n + 1)).set3 true
      have hgs : w3.grownBy W4 (some b) := hW4 ▸ (g_set w3 b 2 (.int .i64 (n + 1))).trans (g_set _ b 3 (.bool true))
      have ho4 : Sown N W4 _ o := Sown.keptB (HO.out.below HB3.out (Nat.le_refl _)) hgs HC3.out (by decide)
      have hr4 : Or N W4 vr l := (HR.out.below HB3.out).kept hgs HC3.out (by decide) (by decide)
      have hy4 : Fr N W4 z := ⟨World.ownsRow.kept (HY.out.below HB3.out).1 hgs (.inr (own_ne (HY.out.below HB3.out).1 HC3.out (by decide))), HY.out.2⟩
      have hB4 : Below N w W4 := (HB3.out.mono (by omega)).grown hgs (Nat.le_trans (by omega) HB3.out.size) (fun k hk => by injection hk with hk; omega)
      have hkt : Kt w W4 := (Kt.below HB3.out).trans (Kt.grown hgs HC3.out (by decide))
      have HKT := Lib.hid hkt
      have hZ4 : N ≤ W4.heap.size := by have := hc4.lt; omega
      have hne : w.heap.size ≠ b := by omega
      have hk4 : ∀ j, W4.cell? ⟨w.heap.size, j, none⟩ = w3.cell? ⟨w.heap.size, j, none⟩ := fun j => World.cell?_of_block (a := ⟨w.heap.size, j, none⟩) (hgs.block _ HSZ (by simpa using hne))
      have e0 : W4.cell? ⟨w.heap.size, 0, none⟩ = some (.int .i64 z.ro.depth) := (hk4 0).trans d0; have e1 : W4.cell? ⟨w.heap.size, 1, none⟩ = some (.int .i64 z.ro.kind) := (hk4 1).trans d1; have e2 : W4.cell? ⟨w.heap.size, 2, none⟩ = some (.string z.ro.name) := (hk4 2).trans d2; have e3 : W4.cell? ⟨w.heap.size, 3, none⟩ = some (.string z.ro.data) := (hk4 3).trans d3; have e4 : W4.cell? ⟨w.heap.size, 4, none⟩ = some (.slice z.A z.ro.attrs.length z.c) := (hk4 4).trans d4
      have c1 := hc4.c1; have f1 := hc4.f 1; have hz4 := hc4.lt
      have HC4 := Lib.hid hc4; have HO4 := Lib.hid ho4; have HR4 := Lib.hid hr4; have HY4 := Lib.hid hy4; have HB4 := Lib.hid hB4
      clear c2 f2 c3 f3 d0 d1 d2 d3 d4 hk4 hgs hc4 ho4 hr4 hy4 hB4 hW4 hkt
      go_region_law (refine step_app_row _ (by rfl) (.tmp 38) (.tmp 40) (by rfl) W4 N vr l z HR4.out (by first | exact (World.grownBy_alloc W4 _ _).trans (g_dN _ 1 _) | exact (g_dN W4 1 _).trans (World.grownBy_alloc _ _ _)) hZ4 (by omega) (by simp [Act.eval, Act.put]) _ (by simp [Act.eval, Act.put]) (World.alloc_heap_new _ _) ?_; intro g cap w5 hown5 hg5; have hc5 := Bc.over HC4.out HR4.out hg5; have c5 := hc5.c1; have f5 := hc5.f 1; clear hc5)
      all_goals go_wp2
      all_goals go_end0
      all_goals
        obtain ⟨r1, r2⟩ := Bg.put HC4.out HO4.out HR4.out hN HY4.out hown5 hg5
        refine ⟨rfl, z, HZ.out, ?_, r2 _ HB4.out, (HKT.out.trans (Kt.own hg5 HR4.out.1 (by decide))).trans (Kt.grown (g_set w5 b 1 _) (Bc.over HC4.out HR4.out hg5) (by decide))⟩
        rw [more_no HQ.out]
        rw [hg, Bool.false_or, ← HD.out, h6]
        exact r1
    | false =>
      go_upto_region 5 with (fail)
      obtain ⟨W4, hW4⟩ : ∃ W4, (w3.setCell ⟨b, 2, none⟩ (.int .i64 (n + 1))).setCell ⟨b, 3, none⟩ (.bool false) = W4 := ⟨_, rfl⟩
      rw [hW4]
      have hc4 : Bc W4 b _ vr (n + 1) false := hW4 ▸ (HC3.out.set2 (n + 1)).set3 false
      have hgs : w3.grownBy W4 (some b) := hW4 ▸ (g_set w3 b 2 (.int .i64 (n + 1))).trans (g_set _ b 3 (.bool false))
      have ho4 : Sown N W4 _ o := Sown.keptB (HO.out.below HB3.out (Nat.le_refl _)) hgs HC3.out (by decide)
      have hr4 : Or N W4 vr l := (HR.out.below HB3.out).kept hgs HC3.out (by decide) (by decide)
      have hy4 : Fr N W4 z := ⟨World.ownsRow.kept (HY.out.below HB3.out).1 hgs (.inr (own_ne (HY.out.below HB3.out).1 HC3.out (by decide))), HY.out.2⟩
      have hB4 : Below N w W4 := (HB3.out.mono (by omega)).grown hgs (Nat.le_trans (by omega) HB3.out.size) (fun k hk => by injection hk with hk; omega)
      have hkt : Kt w W4 := (Kt.below HB3.out).trans (Kt.grown hgs HC3.out (by decide))
      have HKT := Lib.hid hkt
      have hZ4 : N ≤ W4.heap.size := by have := hc4.lt; omega
      have hne : w.heap.size ≠ b := by omega
      have hk4 : ∀ j, W4.cell? ⟨w.heap.size, j, none⟩ = w3.cell? ⟨w.heap.size, j, none⟩ := fun j => World.cell?_of_block (a := ⟨w.heap.size, j, none⟩) (hgs.block _ HSZ (by simpa using hne))
      have e0 : W4.cell? ⟨w.heap.size, 0, none⟩ = some (.int .i64 z.ro.depth) := (hk4 0).trans d0; have e1 : W4.cell? ⟨w.heap.size, 1, none⟩ = some (.int .i64 z.ro.kind) := (hk4 1).trans d1; have e2 : W4.cell? ⟨w.heap.size, 2, none⟩ = some (.string z.ro.name) := (hk4 2).trans d2; have e3 : W4.cell? ⟨w.heap.size, 3, none⟩ = some (.string z.ro.data) := (hk4 3).trans d3; have e4 : W4.cell? ⟨w.heap.size, 4, none⟩ = some (.slice z.A z.ro.attrs.length z.c) := (hk4 4).trans d4
      have c1 := hc4.c1; have f1 := hc4.f 1; have hz4 := hc4.lt
      have HC4 := Lib.hid hc4; have HO4 := Lib.hid ho4; have HR4 := Lib.hid hr4; have HY4 := Lib.hid hy4; have HB4 := Lib.hid hB4
      clear c2 f2 c3 f3 d0 d1 d2 d3 d4 hk4 hgs hc4 ho4 hr4 hy4 hB4 hW4 hkt
      go_region_law (refine step_app_row _ (by rfl) (.tmp 38) (.tmp 40) (by rfl) W4 N vr l z HR4.out (by first | exact (World.grownBy_alloc W4 _ _).trans (g_dN _ 1 _) | exact (g_dN W4 1 _).trans (World.grownBy_alloc _ _ _)) hZ4 (by omega) (by simp [Act.eval, Act.put]) _ (by simp [Act.eval, Act.put]) (World.alloc_heap_new _ _) ?_; intro g cap w5 hown5 hg5; have hc5 := Bc.over HC4.out HR4.out hg5; have c5 := hc5.c1; have f5 := hc5.f 1; clear hc5)
      all_goals go_wp2
      all_goals go_end0
      all_goals
        obtain ⟨r1, r2⟩ := Bg.put HC4.out HO4.out HR4.out hN HY4.out hown5 hg5
        refine ⟨rfl, z, HZ.out, ?_, r2 _ HB4.out, (HKT.out.trans (Kt.own hg5 HR4.out.1 (by decide))).trans (Kt.grown (g_set w5 b 1 _) (Bc.over HC4.out HR4.out hg5) (by decide))⟩
        rw [more_no HQ.out]
        rw [hg, Bool.false_or, ← HD.out, h6]
        exact r1
  | true =>
    have HQ := Lib.hid hq
    clear hq
    go_enter Tryd.func62, Tryd.ntmps62
    go_wp2_with fail
    rw [HROW.out, HOBJ.out]
    have hb1 := below_new w (rowO z)
    refine (joins1 N b _ vr n big l z (w.alloc (rowO z)) (HC.out.below hb1) (HR.out.below hb1) hl true HQ.out).mono ?_
    rintro e w3 ⟨rfl, hb3⟩
    have B3 := bt hb1 hb3
    have hc3 := HC.out.below B3
    have d0 : w3.cell? ⟨w.heap.size, 0, none⟩ = some (.int .i64 z.ro.depth) := Ro.box_kept (x := z) hb3 0
    have d1 : w3.cell? ⟨w.heap.size, 1, none⟩ = some (.int .i64 z.ro.kind) := Ro.box_kept (x := z) hb3 1
    have d2 : w3.cell? ⟨w.heap.size, 2, none⟩ = some (.string z.ro.name) := Ro.box_kept (x := z) hb3 2
    have d3 : w3.cell? ⟨w.heap.size, 3, none⟩ = some (.string z.ro.data) := Ro.box_kept (x := z) hb3 3
    have d4 : w3.cell? ⟨w.heap.size, 4, none⟩ = some (.slice z.A z.ro.attrs.length z.c) := Ro.box_kept (x := z) hb3 4
    have c2 := hc3.c2; have c3 := hc3.c3; have f3 := hc3.f 3
    have HC3 := Lib.hid hc3; have HB3 := Lib.hid B3
    have HSZ : w.heap.size < w3.heap.size := Nat.lt_of_lt_of_le (by simp) hb3.size
    clear c0 f0 hc3 B3 hb3 hb1
    cases hg : decide (4096 < n) with
    | true =>
      go_upto_region 5 with (fail)
      obtain ⟨W4, hW4⟩ : ∃ W4, w3.setCell ⟨b, 3, none⟩ (.bool true) = W4 := ⟨_, rfl⟩
      rw [hW4]
      have hc4 : Bc W4 b _ vr n true := hW4 ▸ HC3.out.set3 true
      have hgs : w3.grownBy W4 (some b) := hW4 ▸ g_set w3 b 3 (.bool true)
      have ho4 : Sown N W4 _ o := Sown.keptB (HO.out.below HB3.out (Nat.le_refl _)) hgs HC3.out (by decide)
      have hr4 : Or N W4 vr l := (HR.out.below HB3.out).kept hgs HC3.out (by decide) (by decide)
      have hy4 : Fr N W4 z := ⟨World.ownsRow.kept (HY.out.below HB3.out).1 hgs (.inr (own_ne (HY.out.below HB3.out).1 HC3.out (by decide))), HY.out.2⟩
      have hB4 : Below N w W4 := (HB3.out.mono (by omega)).grown hgs (Nat.le_trans (by omega) HB3.out.size) (fun k hk => by injection hk with hk; omega)
      have hkt : Kt w W4 := (Kt.below HB3.out).trans (Kt.grown hgs HC3.out (by decide))
      have HKT := Lib.hid hkt
      have hZ4 : N ≤ W4.heap.size := by have := hc4.lt; omega
      have hne : w.heap.size ≠ b := by omega
      have hk4 : ∀ j, W4.cell? ⟨w.heap.size, j, none⟩ = w3.cell? ⟨w.heap.size, j, none⟩ := fun j => World.cell?_of_block (a := ⟨w.heap.size, j, none⟩) (hgs.block _ HSZ (by simpa using hne))
      have e0 : W4.cell? ⟨w.heap.size, 0, none⟩ = some (.int .i64 z.ro.depth) := (hk4 0).trans d0; have e1 : W4.cell? ⟨w.heap.size, 1, none⟩ = some (.int .i64 z.ro.kind) := (hk4 1).trans d1; have e2 : W4.cell? ⟨w.heap.size, 2, none⟩ = some (.string z.ro.name) := (hk4 2).trans d2; have e3 : W4.cell? ⟨w.heap.size, 3, none⟩ = some (.string z.ro.data) := (hk4 3).trans d3; have e4 : W4.cell? ⟨w.heap.size, 4, none⟩ = some (.slice z.A z.ro.attrs.length z.c) := (hk4 4).trans d4
      have c1 := hc4.c1; have f1 := hc4.f 1; have hz4 := hc4.lt
      have HC4 := Lib.hid hc4; have HO4 := Lib.hid ho4; have HR4 := Lib.hid hr4; have HY4 := Lib.hid hy4; have HB4 := Lib.hid hB4
      clear c2 c3 f3 d0 d1 d2 d3 d4 hk4 hgs hc4 ho4 hr4 hy4 hB4 hW4 hkt
      go_region_law (refine step_app_row _ (by rfl) (.tmp 38) (.tmp 40) (by rfl) W4 N vr l z HR4.out (by first | exact (World.grownBy_alloc W4 _ _).trans (g_dN _ 1 _) | exact (g_dN W4 1 _).trans (World.grownBy_alloc _ _ _)) hZ4 (by omega) (by simp [Act.eval, Act.put]) _ (by simp [Act.eval, Act.put]) (World.alloc_heap_new _ _) ?_; intro g cap w5 hown5 hg5; have hc5 := Bc.over HC4.out HR4.out hg5; have c5 := hc5.c1; have f5 := hc5.f 1; clear hc5)
      all_goals go_wp2
      all_goals go_end0
      all_goals
        obtain ⟨r1, r2⟩ := Bg.put HC4.out HO4.out HR4.out hN HY4.out hown5 hg5
        refine ⟨rfl, z, HZ.out, ?_, r2 _ HB4.out, (HKT.out.trans (Kt.own hg5 HR4.out.1 (by decide))).trans (Kt.grown (g_set w5 b 1 _) (Bc.over HC4.out HR4.out hg5) (by decide))⟩
        rw [more_yes HQ.out]
        rw [hg, Bool.true_or]
        exact r1
    | false =>
    cases h6 : decide (60 ≤ z.ro.depth) with
    | true =>
      go_upto_region 5 with (fail)
      obtain ⟨W4, hW4⟩ : ∃ W4, w3.setCell ⟨b, 3, none⟩ (.bool true) = W4 := ⟨_, rfl⟩
      rw [hW4]
      have hc4 : Bc W4 b _ vr n true := hW4 ▸ HC3.out.set3 true
      have hgs : w3.grownBy W4 (some b) := hW4 ▸ g_set w3 b 3 (.bool true)
      have ho4 : Sown N W4 _ o := Sown.keptB (HO.out.below HB3.out (Nat.le_refl _)) hgs HC3.out (by decide)
      have hr4 : Or N W4 vr l := (HR.out.below HB3.out).kept hgs HC3.out (by decide) (by decide)
      have hy4 : Fr N W4 z := ⟨World.ownsRow.kept (HY.out.below HB3.out).1 hgs (.inr (own_ne (HY.out.below HB3.out).1 HC3.out (by decide))), HY.out.2⟩
      have hB4 : Below N w W4 := (HB3.out.mono (by omega)).grown hgs (Nat.le_trans (by omega) HB3.out.size) (fun k hk => by injection hk with hk; omega)
      have hkt : Kt w W4 := (Kt.below HB3.out).trans (Kt.grown hgs HC3.out (by decide))
      have HKT := Lib.hid hkt
      have hZ4 : N ≤ W4.heap.size := by have := hc4.lt; omega
      have hne : w.heap.size ≠ b := by omega
      have hk4 : ∀ j, W4.cell? ⟨w.heap.size, j, none⟩ = w3.cell? ⟨w.heap.size, j, none⟩ := fun j => World.cell?_of_block (a := ⟨w.heap.size, j, none⟩) (hgs.block _ HSZ (by simpa using hne))
      have e0 : W4.cell? ⟨w.heap.size, 0, none⟩ = some (.int .i64 z.ro.depth) := (hk4 0).trans d0; have e1 : W4.cell? ⟨w.heap.size, 1, none⟩ = some (.int .i64 z.ro.kind) := (hk4 1).trans d1; have e2 : W4.cell? ⟨w.heap.size, 2, none⟩ = some (.string z.ro.name) := (hk4 2).trans d2; have e3 : W4.cell? ⟨w.heap.size, 3, none⟩ = some (.string z.ro.data) := (hk4 3).trans d3; have e4 : W4.cell? ⟨w.heap.size, 4, none⟩ = some (.slice z.A z.ro.attrs.length z.c) := (hk4 4).trans d4
      have c1 := hc4.c1; have f1 := hc4.f 1; have hz4 := hc4.lt
      have HC4 := Lib.hid hc4; have HO4 := Lib.hid ho4; have HR4 := Lib.hid hr4; have HY4 := Lib.hid hy4; have HB4 := Lib.hid hB4
      clear c2 c3 f3 d0 d1 d2 d3 d4 hk4 hgs hc4 ho4 hr4 hy4 hB4 hW4 hkt
      go_region_law (refine step_app_row _ (by rfl) (.tmp 38) (.tmp 40) (by rfl) W4 N vr l z HR4.out (by first | exact (World.grownBy_alloc W4 _ _).trans (g_dN _ 1 _) | exact (g_dN W4 1 _).trans (World.grownBy_alloc _ _ _)) hZ4 (by omega) (by simp [Act.eval, Act.put]) _ (by simp [Act.eval, Act.put]) (World.alloc_heap_new _ _) ?_; intro g cap w5 hown5 hg5; have hc5 := Bc.over HC4.out HR4.out hg5; have c5 := hc5.c1; have f5 := hc5.f 1; clear hc5)
      all_goals go_wp2
      all_goals go_end0
      all_goals
        obtain ⟨r1, r2⟩ := Bg.put HC4.out HO4.out HR4.out hN HY4.out hown5 hg5
        refine ⟨rfl, z, HZ.out, ?_, r2 _ HB4.out, (HKT.out.trans (Kt.own hg5 HR4.out.1 (by decide))).trans (Kt.grown (g_set w5 b 1 _) (Bc.over HC4.out HR4.out hg5) (by decide))⟩
        rw [more_yes HQ.out]
        rw [hg, Bool.false_or, ← HD.out, h6]
        exact r1
    | false =>
      go_upto_region 5 with (fail)
      obtain ⟨W4, hW4⟩ : ∃ W4, w3.setCell ⟨b, 3, none⟩ (.bool false) = W4 := ⟨_, rfl⟩
      rw [hW4]
      have hc4 : Bc W4 b _ vr n false := hW4 ▸ HC3.out.set3 false
      have hgs : w3.grownBy W4 (some b) := hW4 ▸ g_set w3 b 3 (.bool false)
      have ho4 : Sown N W4 _ o := Sown.keptB (HO.out.below HB3.out (Nat.le_refl _)) hgs HC3.out (by decide)
      have hr4 : Or N W4 vr l := (HR.out.below HB3.out).kept hgs HC3.out (by decide) (by decide)
      have hy4 : Fr N W4 z := ⟨World.ownsRow.kept (HY.out.below HB3.out).1 hgs (.inr (own_ne (HY.out.below HB3.out).1 HC3.out (by decide))), HY.out.2⟩
      have hB4 : Below N w W4 := (HB3.out.mono (by omega)).grown hgs (Nat.le_trans (by omega) HB3.out.size) (fun k hk => by injection hk with hk; omega)
      have hkt : Kt w W4 := (Kt.below HB3.out).trans (Kt.grown hgs HC3.out (by decide))
      have HKT := Lib.hid hkt
      have hZ4 : N ≤ W4.heap.size := by have := hc4.lt; omega
      have hne : w.heap.size ≠ b := by omega
      have hk4 : ∀ j, W4.cell? ⟨w.heap.size, j, none⟩ = w3.cell? ⟨w.heap.size, j, none⟩ := fun j => World.cell?_of_block (a := ⟨w.heap.size, j, none⟩) (hgs.block _ HSZ (by simpa using hne))
      have e0 : W4.cell? ⟨w.heap.size, 0, none⟩ = some (.int .i64 z.ro.depth) := (hk4 0).trans d0; have e1 : W4.cell? ⟨w.heap.size, 1, none⟩ = some (.int .i64 z.ro.kind) := (hk4 1).trans d1; have e2 : W4.cell? ⟨w.heap.size, 2, none⟩ = some (.string z.ro.name) := (hk4 2).trans d2; have e3 : W4.cell? ⟨w.heap.size, 3, none⟩ = some (.string z.ro.data) := (hk4 3).trans d3; have e4 : W4.cell? ⟨w.heap.size, 4, none⟩ = some (.slice z.A z.ro.attrs.length z.c) := (hk4 4).trans d4
      have c1 := hc4.c1; have f1 := hc4.f 1; have hz4 := hc4.lt
      have HC4 := Lib.hid hc4; have HO4 := Lib.hid ho4; have HR4 := Lib.hid hr4; have HY4 := Lib.hid hy4; have HB4 := Lib.hid hB4
      clear c2 c3 f3 d0 d1 d2 d3 d4 hk4 hgs hc4 ho4 hr4 hy4 hB4 hW4 hkt
      go_region_law (refine step_app_row _ (by rfl) (.tmp 38) (.tmp 40) (by rfl) W4 N vr l z HR4.out (by first | exact (World.grownBy_alloc W4 _ _).trans (g_dN _ 1 _) | exact (g_dN W4 1 _).trans (World.grownBy_alloc _ _ _)) hZ4 (by omega) (by simp [Act.eval, Act.put]) _ (by simp [Act.eval, Act.put]) (World.alloc_heap_new _ _) ?_; intro g cap w5 hown5 hg5; have hc5 := Bc.over HC4.out HR4.out hg5; have c5 := hc5.c1; have f5 := hc5.f 1; clear hc5)
      all_goals go_wp2
      all_goals go_end0
      all_goals
        obtain ⟨r1, r2⟩ := Bg.put HC4.out HO4.out HR4.out hN HY4.out hown5 hg5
        refine ⟨rfl, z, HZ.out, ?_, r2 _ HB4.out, (HKT.out.trans (Kt.own hg5 HR4.out.1 (by decide))).trans (Kt.grown (g_set w5 b 1 _) (Bc.over HC4.out HR4.out hg5) (by decide))⟩
        rw [more_yes HQ.out]
        rw [hg, Bool.false_or, ← HD.out, h6]
        exact r1

end Go.Proofs.YtoijeljjehjfjaaDoor.Bu

namespace Go.Proofs.YtoijeljjehjfjaaDoor.To
set_option maxRecDepth 100000
set_option linter.unusedVariables false
set_option linter.unusedSimpArgs false
open Go.RowKit Ba Tm
open Ro (At acells len_acells Ra Sh range_keep info_attr range2 range5 below_new getElem_of_drop len_part flat_at flat_len acells_one)
/-- A row as it lies: where its attributes are, and how much room is there. -/
structure Tw where
  tk : Tk
  A : Option Addr
  c : Nat

def cells (x : Tw) : List Value := [.int .i64 x.tk.kind, .string x.tk.name, .string x.tk.data, .slice x.A x.tk.attrs.length x.c, .bool x.tk.self]
theorem len_cells (x : Tw) : (cells x).length = 5 := rfl
def Att (w : World) (N : Nat) (x : Tw) : Prop := x.tk.attrs.length ≤ x.c ∧ (x.A = none → x.c = 0) ∧ x.c ≤ maxLen ∧ Ra w N x.A x.tk.attrs ∧ Sh x.tk.attrs
/-- These rows lie at A, below block N, and their attributes. -/
def Rr (w : World) (N : Nat) (A : Option Addr) (l : List Tw) : Prop :=
  (0 < l.length → ∃ b off, A = some ⟨b, off, none⟩ ∧ b < N ∧ ∀ j (h : j < l.length), w.rangeAt b (off + j * 5) (cells l[j])) ∧ ∀ x ∈ l, Att w N x
/-- A row as a value. -/
abbrev tokV (x : Tw) : Value := .agg #[.int .i64 x.tk.kind, .string x.tk.name, .string x.tk.data, .slice x.A x.tk.attrs.length x.c, .bool x.tk.self]
def tks (l : List Tw) : List Tk := l.map Tw.tk
theorem len_tks (l : List Tw) : (tks l).length = l.length := List.length_map _
theorem tks_drop (l : List Tw) (k : Nat) : (tks l).drop k = tks (l.drop k) := by simp [tks, List.map_drop]
theorem tks_append (a b : List Tw) : tks (a ++ b) = tks a ++ tks b := by simp [tks]
theorem tks_cons (a : Tw) (b : List Tw) : tks (a :: b) = a.tk :: tks b := rfl

theorem Att.keep {w w' : World} {N : Nat} {x : Tw} (h : Att w N x) (hk : ∀ b o, b < N → w'.cell? ⟨b, o, none⟩ = w.cell? ⟨b, o, none⟩) : Att w' N x := ⟨h.1, h.2.1, h.2.2.1, h.2.2.2.1.keep hk, h.2.2.2.2⟩
theorem Att.more {w : World} {N M : Nat} {x : Tw} (h : Att w N x) (hN : N ≤ M) : Att w M x := ⟨h.1, h.2.1, h.2.2.1, h.2.2.2.1.more hN, h.2.2.2.2⟩
theorem Att.below {w w' : World} {N M : Nat} {x : Tw} (h : Att w N x) (hb : Below M w w') (hN : N ≤ M := by exact Nat.le_refl _) : Att w' N x := h.keep fun b o hbN => hb.cell (p := ⟨b, o, none⟩) (show b < M by omega)
theorem Rr.keep {w w' : World} {N : Nat} {A : Option Addr} {l : List Tw} (h : Rr w N A l) (hk : ∀ b o, b < N → w'.cell? ⟨b, o, none⟩ = w.cell? ⟨b, o, none⟩) : Rr w' N A l :=
  ⟨fun h0 => by
    obtain ⟨b, off, e, hb, hc⟩ := h.1 h0
    exact ⟨b, off, e, hb, fun j hj => range_keep (hc j hj) fun o => hk b o hb⟩, fun x hx => (h.2 x hx).keep hk⟩
theorem Rr.more {w : World} {N M : Nat} {A : Option Addr} {l : List Tw} (h : Rr w N A l) (hN : N ≤ M) : Rr w M A l :=
  ⟨fun h0 => by
    obtain ⟨b, off, e, hb, hc⟩ := h.1 h0
    exact ⟨b, off, e, by omega, hc⟩, fun x hx => (h.2 x hx).more hN⟩
theorem Rr.below {w w' : World} {N M : Nat} {A : Option Addr} {l : List Tw} (h : Rr w N A l) (hb : Below M w w') (hN : N ≤ M := by exact Nat.le_refl _) : Rr w' N A l := h.keep fun b o hbN => hb.cell (p := ⟨b, o, none⟩) (show b < M by omega)
theorem Rr.nil (w : World) (N : Nat) (A : Option Addr) : Rr w N A [] := ⟨fun h => absurd h (by simp), fun _ h => by simp at h⟩
/-- A part of it: what the model makes of l[i:j]. -/
theorem Rr.part {w : World} {N : Nat} {A : Option Addr} {l : List Tw} (h : Rr w N A l) (i j cap : Nat) (hij : i ≤ j) (hj : j ≤ l.length) (hc : l.length ≤ cap) :
    Rr w N (if cap = i then A else A.map (·.add (i * 5))) ((l.take j).drop i) := by
  refine ⟨fun h0 => ?_, fun x hx => h.2 x (List.mem_of_mem_take (List.mem_of_mem_drop hx))⟩
  rw [List.length_drop, List.length_take] at h0
  obtain ⟨b, off, e, hb, hcc⟩ := h.1 (by omega)
  rw [if_neg (by omega), e]
  refine ⟨b, off + i * 5, by simp [WideShapes.add_plain], hb, fun k hk => ?_⟩
  rw [List.length_drop, List.length_take] at hk
  have := hcc (i + k) (by omega)
  rw [show off + i * 5 + k * 5 = off + (i + k) * 5 from by omega]
  simpa using this

theorem info_tok : (Tryd.prog.info? 51).map (fun i => (i.zero, i.size, i.bytes)) = some (some (.agg #[.int .i64 0, .string .empty, .string .empty, .slice none 0 0, .bool false]), 5, 72) := by kernel_rfl
/-- The row at k. -/
theorem Rr.at_ {w : World} {N : Nat} {A : Option Addr} {l : List Tw} (h : Rr w N A l) (k : Nat) (hk : k < l.length) :
    ∃ b off x, A = some ⟨b, off, none⟩ ∧ b < N ∧ l.drop k = x :: l.drop (k + 1) ∧ w.rangeAt b (off + k * 5) [.int .i64 x.tk.kind, .string x.tk.name, .string x.tk.data, .slice x.A x.tk.attrs.length x.c, .bool x.tk.self] ∧ Att w N x ∧ x ∈ l := by
  obtain ⟨b, off, e, hb, hc⟩ := h.1 (by omega)
  exact ⟨b, off, l[k], e, hb, List.drop_eq_getElem_cons hk, hc k hk, h.2 _ (List.getElem_mem _), List.getElem_mem _⟩
/-- A row in a box of its own. -/
abbrev tokO (x : Tw) : Obj := .cells #[.int .i64 x.tk.kind, .string x.tk.name, .string x.tk.data, .slice x.A x.tk.attrs.length x.c, .bool x.tk.self] 51
theorem box_at (w : World) (x : Tw) (j : Nat) : (w.alloc (tokO x)).cell? ⟨w.heap.size, j, none⟩ = (cells x)[j]? := by
  rw [World.cell?_alloc_mark]
  match j with
  | 0 | 1 | 2 | 3 | 4 => rfl
  | j + 5 => simp [cells]
theorem box_kept {w w3 : World} {x : Tw} (hb : Below (w.alloc (tokO x)).heap.size (w.alloc (tokO x)) w3) (j : Nat) : w3.cell? ⟨w.heap.size, j, none⟩ = (cells x)[j]? :=
  (hb.cell (p := ⟨w.heap.size, j, none⟩) (by simp)).trans (box_at w x j)
theorem Att.boxed {w w0 : World} {x : Tw} (h : Att w w0.heap.size x) (hb : Below w0.heap.size w0 w) (o : Obj) : Att (w.alloc o) (w.alloc o).heap.size x :=
  ((h.more hb.size).below (below_new w o)).more (by simp)
/-- l[i:j] where i is ahead of the room's end. -/
theorem Rr.mid {w : World} {N : Nat} {A : Option Addr} {l : List Tw} (h : Rr w N A l) (i j cap : Nat) (hij : i ≤ j) (hj : j ≤ l.length) (hc : l.length ≤ cap) (hne : i < cap) :
    Rr w N (Option.map (fun x => x.add (i * 5)) A) ((l.take j).drop i) := by
  have := h.part i j cap hij hj hc
  rwa [if_neg (by omega)] at this
end Go.Proofs.YtoijeljjehjfjaaDoor.To

namespace Go.Proofs.YtoijeljjehjfjaaDoor.To
set_option maxRecDepth 100000
set_option linter.unusedVariables false
set_option linter.unusedSimpArgs false
open Go.RowKit Ba Tm
open Ro (At acells len_acells Ra Sh range_keep info_attr range2 range5 below_new getElem_of_drop len_part flat_at flat_len acells_one)
/-- The attributes of a row lie where no row of the call's own can lie. -/
def Ap (w : World) (N : Nat) (x : Tw) : Prop := 0 < x.tk.attrs.length → ∃ b off, x.A = some ⟨b, off, none⟩ ∧ (b < N ∨ ∃ cs fr, w.heap[b]? = some (.cells cs 33 fr))
/-- The attributes of a row are the call's own. -/
def Fr (N : Nat) (w : World) (x : Tw) : Prop := w.ownsRow N 33 2 (.slice x.A x.tk.attrs.length x.c) x.tk.attrs.length (x.tk.attrs.flatMap acells) ∧ Sh x.tk.attrs
/-- v is a slice of rows of the call's own. -/
def Ow (N : Nat) (w : World) (v : Value) (l : List Tw) : Prop := w.ownsRow N 51 5 v l.length (l.flatMap cells) ∧ ∀ x ∈ l, Att w w.heap.size x ∧ Ap w N x

theorem Fr.att {N : Nat} {w : World} {x : Tw} (h : Fr N w x) : Att w w.heap.size x := by
  obtain ⟨⟨hl, h⟩, hs⟩ := h
  rcases h with ⟨hv, hn⟩ | ⟨g, cap, cur, hv, hg, hh, hn, hm, hsz, ht⟩
  · injection hv with e1 e2 e3
    refine ⟨by omega, fun _ => e3, by rw [e3]; exact Nat.zero_le _, fun h0 => by omega, hs⟩
  · have hh0 : w.ownsRow N 33 2 (.slice x.A x.tk.attrs.length x.c) x.tk.attrs.length (x.tk.attrs.flatMap acells) := ⟨hl, .inr ⟨g, cap, cur, hv, hg, hh, hn, hm, hsz, ht⟩⟩
    injection hv with e1 _ e3
    refine ⟨by omega, (fun e => by rw [e] at e1; cases e1), by rw [e3]; exact hm, fun h0 => ⟨g, 0, e1, (Array.getElem?_eq_some_iff.1 hh).1, fun j hj i v hv => ?_⟩, hs⟩
    have hi : i < 2 := (List.getElem?_eq_some_iff.1 hv).1
    have := World.ownsRow.cells hh0 (g := g) (by rw [e1]; rfl) (j * 2 + i) v (by rw [flat_at acells 2 len_acells _ _ _ hj hi]; exact hv)
    rw [WideShapes.add_plain] at this
    rw [show 0 + j * 2 + i = 0 + (j * 2 + i) from by omega]
    exact this
theorem Fr.ap {N : Nat} {w : World} {x : Tw} (h : Fr N w x) : Ap w N x := fun h0 => by
  obtain ⟨⟨_, h⟩, _⟩ := h
  rcases h with ⟨hv, hn⟩ | ⟨g, cap, cur, hv, hg, hh, _⟩
  · omega
  · injection hv with e1
    exact ⟨g, 0, e1, .inr ⟨_, _, hh⟩⟩
theorem Fr.below {N M : Nat} {w w' : World} {x : Tw} (h : Fr N w x) (hb : Below M w w') (hM : w.heap.size ≤ M := by exact Nat.le_refl _) : Fr N w' x := by
  refine ⟨⟨h.1.1, ?_⟩, h.2⟩
  rcases h.1.2 with hn | ⟨g, cap, cur, hv, hg, hh, rest⟩
  · exact .inl hn
  · refine .inr ⟨g, cap, cur, hv, hg, ?_, rest⟩
    have hlt : g < w.heap.size := (Array.getElem?_eq_some_iff.1 hh).1
    rw [hb.block g (by omega)]
    exact hh
theorem Ap.below {N M : Nat} {w w' : World} {x : Tw} (h : Ap w N x) (hb : Below M w w') (hM : w.heap.size ≤ M := by exact Nat.le_refl _) : Ap w' N x := fun h0 => by
  obtain ⟨b, off, e, h⟩ := h h0
  refine ⟨b, off, e, ?_⟩
  rcases h with h | ⟨cs, fr, h⟩
  · exact .inl h
  · refine .inr ⟨cs, fr, ?_⟩
    have hlt : b < w.heap.size := (Array.getElem?_eq_some_iff.1 h).1
    rw [hb.block b (by omega)]
    exact h
theorem Att.apart {N : Nat} {w : World} {x : Tw} (h : Att w N x) : Ap w N x := fun h0 => by
  obtain ⟨b, off, e, hb, _⟩ := h.2.2.2.1 h0
  exact ⟨b, off, e, .inl hb⟩
theorem Ow.nil (N : Nat) (w : World) : Ow N w (.slice none 0 0) [] := ⟨World.ownsRow_nil w N _ 5, fun _ h => by simp at h⟩
theorem Ow.made (w : World) : Ow w.heap.size (w.alloc (.cells #[] 51)) (.slice (some ⟨w.heap.size, 0, none⟩) 0 0) [] :=
  ⟨World.ownsRow_made w #[] 0 (Nat.le_refl _) (Nat.zero_le _) rfl, fun _ h => by simp at h⟩
theorem Ow.below {N M : Nat} {w w' : World} {v : Value} {l : List Tw} (h : Ow N w v l) (hb : Below M w w') (hM : w.heap.size ≤ M := by exact Nat.le_refl _) : Ow N w' v l := by
  refine ⟨⟨h.1.1, ?_⟩, fun x hx => ⟨((h.2 x hx).1.below hb hM).more hb.size, (h.2 x hx).2.below hb hM⟩⟩
  rcases h.1.2 with hn | ⟨g, cap, cur, hv, hg, hh, rest⟩
  · exact .inl hn
  · refine .inr ⟨g, cap, cur, hv, hg, ?_, rest⟩
    have hlt : g < w.heap.size := (Array.getElem?_eq_some_iff.1 hh).1
    rw [hb.block g (by omega)]
    exact hh
theorem Ow.alloc {N : Nat} {w : World} {v : Value} {l : List Tw} (h : Ow N w v l) (o : Obj) : Ow N (w.alloc o) v l := h.below (below_new w o)
theorem Ow.mono {N N' : Nat} {w : World} {v : Value} {l : List Tw} (h : Ow N w v l) (hN : N' ≤ N) (hl : ∀ x ∈ l, Ap w N' x) : Ow N' w v l := ⟨World.ownsRow.mono h.1 hN, fun x hx => ⟨(h.2 x hx).1, hl x hx⟩⟩
/-- What a slice of the call's own is, and reads as. -/
theorem Ow.form {N : Nat} {w : World} {v : Value} {l : List Tw} (h : Ow N w v l) : ∃ A c, v = .slice A l.length c ∧ l.length ≤ c ∧ c ≤ maxLen ∧ (A = none → c = 0) ∧ Rr w w.heap.size A l := by
  rcases h.1.2 with ⟨hv, hl⟩ | ⟨g, cap, cur, hv, hg, hh, hn, hm, hs, ht⟩
  · have : l = [] := List.eq_nil_of_length_eq_zero hl
    subst this
    exact ⟨none, 0, hv, Nat.le_refl _, Nat.zero_le _, fun _ => rfl, Rr.nil _ _ _⟩
  · refine ⟨some ⟨g, 0, none⟩, cap, hv, hn, hm, (fun e => by cases e), fun _ => ⟨g, 0, rfl, (Array.getElem?_eq_some_iff.1 hh).1, fun j hj i u hu => ?_⟩, fun x hx => (h.2 x hx).1⟩
    have hi : i < 5 := (List.getElem?_eq_some_iff.1 hu).1
    subst hv
    have := World.ownsRow.cells h.1 (g := g) rfl (j * 5 + i) u (by rw [flat_at cells 5 len_cells _ _ _ hj hi]; exact hu)
    rw [WideShapes.add_plain] at this
    rw [show 0 + j * 5 + i = 0 + (j * 5 + i) from by omega]
    exact this

/-- A block of attributes is none of rows. -/
theorem block_ne {N n : Nat} {w : World} {v : Value} {xs : List Value} {b : Nat} {cs : Array Value} {fr : Nat × Nat} (h : w.ownsRow N 51 5 v n xs) (hb : w.heap[b]? = some (.cells cs 33 fr)) : some b ≠ v.ownBlock := by
  rcases h.2 with ⟨rfl, _⟩ | ⟨g, cap, cur, rfl, _, hh, _⟩
  · simp [Value.ownBlock]
  · intro e
    have e : b = g := by simpa [Value.ownBlock] using e
    subst e
    rw [hb] at hh
    injection hh with hh
    injection hh with _ ht
    exact absurd ht (by decide)
theorem low_ne {N n : Nat} {w : World} {v : Value} {xs : List Value} {b : Nat} (h : w.ownsRow N 51 5 v n xs) (hb : b < N) : some b ≠ v.ownBlock := fun e => by
  have := (World.ownsRow.lt h b e.symm).1
  omega
theorem Att.grown {N n : Nat} {w w' : World} {v : Value} {xs : List Value} {y : Tw} (h : w.ownsRow N 51 5 v n xs) (hg : w.grownBy w' v.ownBlock) (hy : Att w w.heap.size y) (ha : Ap w N y) : Att w' w'.heap.size y := by
  refine ⟨hy.1, hy.2.1, hy.2.2.1, fun h0 => ?_, hy.2.2.2.2⟩
  obtain ⟨b, off, e, hb, hc⟩ := hy.2.2.2.1 h0
  obtain ⟨b', off', e', ha⟩ := ha h0
  rw [e] at e'
  injection e' with e'
  injection e' with e1 e2
  subst e1 e2
  have hne : some b ≠ v.ownBlock := by
    rcases ha with ha | ⟨cs, fr, ha⟩
    · exact low_ne h ha
    · exact block_ne h ha
  exact ⟨b, off, e, Nat.lt_of_lt_of_le hb hg.size, fun j hj => range_keep (hc j hj) fun o => World.cell?_of_block (a := ⟨b, o, none⟩) (hg.block b hb hne)⟩
theorem Ap.grown {N n : Nat} {w w' : World} {v : Value} {xs : List Value} {y : Tw} (h : w.ownsRow N 51 5 v n xs) (hg : w.grownBy w' v.ownBlock) (ha : Ap w N y) : Ap w' N y := fun h0 => by
  obtain ⟨b, off, e, ha⟩ := ha h0
  refine ⟨b, off, e, ?_⟩
  rcases ha with ha | ⟨cs, fr, ha⟩
  · exact .inl ha
  · exact .inr ⟨cs, fr, (hg.block b (Array.getElem?_eq_some_iff.1 ha).1 (block_ne h ha)).trans ha⟩
theorem Fr.grown {N n : Nat} {w w' : World} {v : Value} {xs : List Value} {y : Tw} (h : w.ownsRow N 51 5 v n xs) (hg : w.grownBy w' v.ownBlock) (hy : Fr N w y) : Fr N w' y := by
  refine ⟨⟨hy.1.1, ?_⟩, hy.2⟩
  rcases hy.1.2 with hn | ⟨g, cap, cur, hv, hg', hh, rest⟩
  · exact .inl hn
  · exact .inr ⟨g, cap, cur, hv, hg', (hg.block g (Array.getElem?_eq_some_iff.1 hh).1 (block_ne h hh)).trans hh, rest⟩

theorem tok_cells_new (w : World) (x : Tw) : ∀ j u, (cells x)[j]? = some u → (w.alloc (tokO x)).cell? ((⟨w.heap.size, 0, none⟩ : Addr).add j) = some u := fun j u hu => by
  rw [WideShapes.add_plain, Nat.zero_add]
  exact (box_at w x j).trans hu
theorem cells_one (x : Tw) : ∀ u ∈ cells x, u.oneCell' = true := by
  intro u hu
  simp only [cells, List.mem_cons, List.not_mem_nil, or_false] at hu
  rcases hu with rfl | rfl | rfl | rfl | rfl <;> rfl
end Go.Proofs.YtoijeljjehjfjaaDoor.To

namespace Go.Proofs.YtoijeljjehjfjaaDoor.Fo
set_option maxRecDepth 100000
set_option linter.unusedSimpArgs false
set_option linter.unusedVariables false
open Go.RowKit Ba Fm
theorem space_any (c : UInt8) (w : World) :
    Calls Tryd.prog 75 #[.int .u8 c.toNat] w fun e w' => e = .returned (.bool (sp c)) ∧ w = w' := by
  have e9 : ((c.toNat : Int) == 9) = (c == 9) := u8_eq (b := 9)
  have e10 : ((c.toNat : Int) == 10) = (c == 10) := u8_eq (b := 10)
  have e12 : ((c.toNat : Int) == 12) = (c == 12) := u8_eq (b := 12)
  have e13 : ((c.toNat : Int) == 13) = (c == 13) := u8_eq (b := 13)
  have e32 : ((c.toNat : Int) == 32) = (c == 32) := u8_eq (b := 32)
  cases h9 : (c == 9) <;> cases h10 : (c == 10) <;> cases h12 : (c == 12) <;> cases h13 : (c == 13) <;> cases h32 : (c == 32)
  all_goals
    rw [h9] at e9
    rw [h10] at e10
    rw [h12] at e12
    rw [h13] at e13
    rw [h32] at e32
    have H9 := Lib.hid h9; have H10 := Lib.hid h10; have H12 := Lib.hid h12; have H13 := Lib.hid h13; have H32 := Lib.hid h32
    clear h9 h10 h12 h13 h32
    go_enter Tryd.func75, Tryd.ntmps75
    go_wp2
    go_ret
    exact ⟨ret_bool (by unfold sp; rw [H9.out, H10.out, H12.out, H13.out, H32.out]; rfl), rfl⟩

end Go.Proofs.YtoijeljjehjfjaaDoor.Fo

namespace Go.Proofs.YtoijeljjehjfjaaDoor.Fo
set_option linter.unusedSimpArgs false
set_option linter.unusedVariables false
open Go.RowKit Ba Fm
end Go.Proofs.YtoijeljjehjfjaaDoor.Fo

namespace Go.Proofs.YtoijeljjehjfjaaDoor.Fo
set_option maxRecDepth 100000
set_option linter.unusedSimpArgs false
set_option linter.unusedVariables false
open Go.RowKit Ba Fm

theorem lowerByte_any (c : UInt8) (w : World) :
    Calls Tryd.prog 112 #[.int .u8 c.toNat] w fun e w' => e = .returned (.int .u8 (low c).toNat) ∧ w = w' := by
  have hc := c.toNat_lt
  by_cases h1 : 65 ≤ c.toNat
  · by_cases h2 : c.toNat ≤ 90
    · have hl : ((low c).toNat : Int) = c.toNat + 32 := by
        unfold low
        rw [if_pos ⟨UInt8.le_iff_toNat_le.2 h1, UInt8.le_iff_toNat_le.2 h2⟩, UInt8.toNat_add]
        simp
        omega
      have HL := Lib.hid hl; clear hl
      go_enter Tryd.func112, Tryd.ntmps112
      go_wp2
      go_ret
      exact ⟨ret_int (by rw [HL.out]; omega), rfl⟩
    · have hl : low c = c := by
        unfold low
        rw [if_neg]
        rintro ⟨_, h⟩
        exact h2 (UInt8.le_iff_toNat_le.1 h)
      have HL := Lib.hid hl; clear hl
      go_enter Tryd.func112, Tryd.ntmps112
      go_wp2
      go_ret
      exact ⟨ret_int (by rw [HL.out]), rfl⟩
  · have hl : low c = c := by
      unfold low
      rw [if_neg]
      rintro ⟨h, _⟩
      exact h1 (UInt8.le_iff_toNat_le.1 h)
    have HL := Lib.hid hl; clear hl
    go_enter Tryd.func112, Tryd.ntmps112
    go_wp2
    go_ret
    exact ⟨ret_int (by rw [HL.out]), rfl⟩

theorem letter_any (c : UInt8) (w : World) :
    Calls Tryd.prog 99 #[.int .u8 c.toNat] w fun e w' => e = .returned (.bool (lr c)) ∧ w = w' := by
  have hc := c.toNat_lt
  have hl := (low c).toNat_lt
  have hv : lr c = (decide ((97 : Int) ≤ (low c).toNat) && decide (((low c).toNat : Int) ≤ 122)) := by
    have hlow : ((low c).toNat : Int) = if 65 ≤ c.toNat ∧ c.toNat ≤ 90 then c.toNat + 32 else c.toNat := by
      unfold low
      have e1 : (65 ≤ c ∧ c ≤ 90) ↔ (65 ≤ c.toNat ∧ c.toNat ≤ 90) := by rw [UInt8.le_iff_toNat_le, UInt8.le_iff_toNat_le]; exact Iff.rfl
      by_cases h : 65 ≤ c.toNat ∧ c.toNat ≤ 90
      · rw [if_pos (e1.2 h), if_pos h, UInt8.toNat_add]; simp; omega
      · rw [if_neg (fun q => h (e1.1 q)), if_neg h]
    unfold lr
    rw [hlow, Bool.eq_iff_iff]
    simp only [Bool.or_eq_true, Bool.and_eq_true, decide_eq_true_eq, UInt8.le_iff_toNat_le]
    have e65 : (65 : UInt8).toNat = 65 := rfl
    have e90 : (90 : UInt8).toNat = 90 := rfl
    have e97 : (97 : UInt8).toNat = 97 := rfl
    have e122 : (122 : UInt8).toNat = 122 := rfl
    rw [e65, e90, e97, e122]
    split <;> omega
  have HV := Lib.hid hv; clear hv hc
  by_cases h1 : (97 : Int) ≤ (low c).toNat
  · by_cases h2 : ((low c).toNat : Int) ≤ 122
    · go_enter Tryd.func99, Tryd.ntmps99
      go_wp2_with (go_at_call 112; refine (lowerByte_any c _).mono ?_; rintro e w' ⟨rfl, rfl⟩)
      go_ret
      exact ⟨ret_bool (by rw [HV.out]; simp [h1, h2]), rfl⟩
    · go_enter Tryd.func99, Tryd.ntmps99
      go_wp2_with (go_at_call 112; refine (lowerByte_any c _).mono ?_; rintro e w' ⟨rfl, rfl⟩)
      go_ret
      exact ⟨ret_bool (by rw [HV.out]; simp [h1, h2]), rfl⟩
  · go_enter Tryd.func99, Tryd.ntmps99
    go_wp2_with (go_at_call 112; refine (lowerByte_any c _).mono ?_; rintro e w' ⟨rfl, rfl⟩)
    go_ret
    exact ⟨ret_bool (by rw [HV.out, decide_eq_false (by omega)]; rfl), rfl⟩

set_option maxHeartbeats 1000000 in
theorem lower_any (s : ByteArray) (w : World) (hs : s.size ≤ 140737488355328) :
    Calls Tryd.prog 102 #[.string s] w fun e w' => e = .returned (.string (B (lowL (L s)))) ∧ Below w.heap.size w w' := by
  obtain ⟨i0, hi, hz0, hz1, hz2⟩ := info_parts info_u8
  go_enter Tryd.func102, Tryd.ntmps102
  go_wp2_with (at_make; refine wpList_make_own _ rfl (.const (.int .i64 0)) (.tmp 6) 44 rfl w.heap.size 5 i0 (.int .u8 0) 1 Tryd.underlying44 hi hz0 hz1 .i64 .i64 _ s.size rfl rfl rfl (by rw [hz2]; omega) (by unfold maxLen; omega) (Nat.le_refl _) ?_; intro w1 hown hgrow)
  have hb0 : Below w.heap.size w w1 := (Below.refl w.heap.size w).grown hgrow (Nat.le_refl _) (by simp)
  have ho0 : OwnB w.heap.size w1 (.slice (some ⟨w.heap.size, 0, none⟩) 0 s.size) [] := hown
  clear hown hgrow
  go_loopw [3, 10] (fun v i wr => ∃ (k : Nat), i = .int .i64 k ∧ k ≤ s.size ∧ OwnB w.heap.size wr v (lowL ((L s).take k)) ∧ Below w.heap.size w wr) (fun _ i _ => s.size - (intOf i).toNat)
  case atStart => exact ⟨0, rfl, Nat.zero_le _, ho0, hb0⟩
  case round =>
    clear ho0 hb0
    obtain ⟨k, rfl, hks, hown, hbel⟩ := hrel
    have hN := hbel.size
    by_cases hp : k < s.size
    · have hlen : (lowL ((L s).take k)).length + 1 ≤ 140737488355328 := by rw [len_lowL, List.length_take, size_L]; omega
      go_wp2_with (first | (go_at_call 112; refine (lowerByte_any s[k] _).mono ?_; rintro e w' ⟨rfl, rfl⟩) | (at_builtin; refine app_byte wr rfl (.tmp 13) (.tmp 18) rfl w.heap.size _ (lowL ((L s).take k)) (low s[k]) rfl hown rfl hlen hN ?_; intro v2 w2 hown2 hk2))
      go_roundw
      case rel =>
        refine ⟨k + 1, by go_num, by omega, ?_, hk2 _ hbel⟩
        rw [take_snoc s k hp, lowL_append]
        exact hown2
      case measure => simp [intOf]; omega
    · have hcv := hown.string
      go_wp2
      go_ret
      refine ⟨ret_str ?_, hbel⟩
      rw [List.take_of_length_le (by rw [size_L]; omega)]

theorem same_any (a b : ByteArray) (w : World) (ha : a.size ≤ 140737488355328) (hb : b.size ≤ 140737488355328) :
    Calls Tryd.prog 108 #[.string a, .string b] w fun e w' => e = .returned (.bool (decide (lowL (L a) = lowL (L b)))) ∧ Below w.heap.size w w' := by
  go_enter Tryd.func108, Tryd.ntmps108
  go_wp2_with fail
  refine (lower_any a _ ha).mono ?_
  rintro e w1 ⟨rfl, hb1⟩
  go_wp2_with fail
  refine (lower_any b _ hb).mono ?_
  rintro e w2 ⟨rfl, hb2⟩
  go_wp2
  go_ret
  refine ⟨ret_bool ?_, bt hb1 hb2⟩
  rw [eq_of_toList]
  exact decide_eq_decide.2 ⟨B_inj, fun h => by rw [h]⟩

theorem trim_cut (s : ByteArray) (k m : Nat) (hkm : k < m) (hm : m ≤ s.size) : ((L s).drop k).take (m - k) = ((L s).drop k).take (m - 1 - k) ++ [s[m - 1]'(by omega)] := by
  have e : m - k = (m - 1 - k) + 1 := by omega
  rw [e, List.take_succ_eq_append_getElem (by rw [List.length_drop, size_L]; omega)]
  congr 2
  rw [List.getElem_drop]
  have : k + (m - 1 - k) = m - 1 := by omega
  simp only [this]
  rfl

set_option maxHeartbeats 1000000 in
theorem trim_any (s : ByteArray) (w : World) (hs : s.size ≤ 140737488355328) :
    Calls Tryd.prog 89 #[.string s] w fun e w' => e = .returned (.string (B (trimL (L s)))) ∧ w = w' := by
  go_enter Tryd.func89, Tryd.ntmps89
  go_wp2
  go_loop [3] (fun i => ∃ k : Nat, i = .int .i64 k ∧ k ≤ s.size ∧ trimS ((L s).drop k) = trimS (L s)) (fun i => s.size - (intOf i).toNat)
  case atStart => exact ⟨0, rfl, Nat.zero_le _, by simp⟩
  case round =>
    obtain ⟨k, rfl, hks, hc⟩ := hrel
    by_cases hp : k < s.size
    · rw [drop_cons s k hp] at hc
      cases hsp : sp s[k] with
      | true =>
        rw [trimS_sp _ hsp] at hc
        have HC := Lib.hid hc; have HS := Lib.hid hsp; clear hc hsp
        go_wp2_with (go_at_call 75; refine (space_any s[k] _).mono ?_; rw [HS.out]; rintro e w' ⟨rfl, rfl⟩)
        go_round
        case rel => exact ⟨k + 1, by go_num, by omega, HC.out⟩
        case measure => simp [intOf]; omega
      | false =>
        rw [trimS_no _ hsp, ← drop_cons s k hp] at hc
        have HC := Lib.hid hc; have HS := Lib.hid hsp; clear hc hsp
        go_wp2_with (go_at_call 75; refine (space_any s[k] _).mono ?_; rw [HS.out]; rintro e w' ⟨rfl, rfl⟩)
        go_loop [4] (fun i => ∃ m : Nat, i = .int .i64 m ∧ k ≤ m ∧ m ≤ s.size ∧ trimE (((L s).drop k).take (m - k)) = trimE ((L s).drop k)) (fun i => (intOf i).toNat)
        case atStart => exact ⟨s.size, rfl, hks, Nat.le_refl _, by rw [List.take_of_length_le (by rw [List.length_drop, size_L]; omega)]⟩
        case round =>
          obtain ⟨m, rfl, hkm, hms, hd⟩ := hrel
          by_cases hq : k < m
          · have hcut := trim_cut s k m hq hms
            cases hsq : sp (s[m - 1]'(by omega)) with
            | true =>
              rw [hcut, trimE_sp _ hsq] at hd
              have HD := Lib.hid hd; have HQ := Lib.hid hsq; clear hd hsq hcut
              have hm1 : 1 ≤ m := by omega
              obtain ⟨j, rfl⟩ : ∃ j, m = j + 1 := ⟨m - 1, by omega⟩
              go_wp2_with (go_at_call 75; refine (space_any (s[j]'(by omega)) _).mono ?_; rw [show sp (s[j]'(by omega)) = true from HQ.out]; rintro e w' ⟨rfl, rfl⟩)
              go_round
              case rel => exact ⟨j, by go_num, by omega, by omega, HD.out⟩
              case measure => simp [intOf]
            | false =>
              rw [hcut, trimE_no _ hsq, ← hcut] at hd
              have HD := Lib.hid hd; have HQ := Lib.hid hsq; clear hd hsq hcut
              obtain ⟨j, rfl⟩ : ∃ j, m = j + 1 := ⟨m - 1, by omega⟩
              go_wp2_with (go_at_call 75; refine (space_any (s[j]'(by omega)) _).mono ?_; rw [show sp (s[j]'(by omega)) = false from HQ.out]; rintro e w' ⟨rfl, rfl⟩)
              go_ret
              refine ⟨ret_str (B_of ?_), rfl⟩
              rw [L_extract, HD.out, trimL, ← HC.out]
          · have HD := Lib.hid hd; clear hd
            go_wp2
            go_ret
            refine ⟨ret_str (B_of ?_), rfl⟩
            have h1 := HD.out
            obtain rfl : m = k := by omega
            rw [Nat.sub_self, List.take_zero] at h1
            rw [L_extract, Nat.sub_self, List.take_zero, trimL, ← HC.out, ← h1, trimE_nil]
    · have HC := Lib.hid hc; clear hc
      go_wp2
      go_loop [4] (fun i => i = .int .i64 s.size) (fun _ => 0)
      case atStart => exact rfl
      case round =>
        subst hrel
        go_wp2
        go_ret
        refine ⟨ret_str (B_of ?_), rfl⟩
        have h1 := HC.out
        rw [drop_nil s k hp] at h1
        rw [L_extract, drop_nil s k hp, trimL, ← h1]
        simp [trimS_nil, trimE_nil]

/-- Block g holds these bytes, as a string's conversion lays them. -/
def Raw (w : World) (g : Nat) (l : List UInt8) : Prop := ∃ cs : Array Value, w.heap[g]? = some (.cells cs 5 (cs.size, cs.size + 1)) ∧ l.length ≤ cs.size ∧ ∀ j (h : j < l.length), cs[j]? = some (bc l[j])

theorem Raw.cell {w : World} {g : Nat} {l : List UInt8} (h : Raw w g l) (j : Nat) (hj : j < l.length) : w.cell? ⟨g, j, none⟩ = some (.int .u8 (l[j].toNat : Int)) := by
  obtain ⟨cs, hg, _, hc⟩ := h
  rw [cell_of_row w g j cs _ _ hg, hc j hj]
  rfl
theorem Raw.frozen {w : World} {g : Nat} {l : List UInt8} (h : Raw w g l) (j : Nat) (hj : j < l.length) : w.frozen? ⟨g, j, none⟩ = false := by
  obtain ⟨cs, hg, hl, _⟩ := h
  simp [World.frozen?, hg]
  omega
theorem Raw.set {w : World} {g : Nat} {l : List UInt8} (h : Raw w g l) (j : Nat) (y : UInt8) : Raw (w.setCell ⟨g, j, none⟩ (.int .u8 (y.toNat : Int))) g (l.set j y) := by
  obtain ⟨cs, hg, hl, hc⟩ := h
  refine ⟨cs.setIfInBounds j (.int .u8 (y.toNat : Int)), ?_, by simpa using hl, fun i hi => ?_⟩
  · simp [World.setCell, Array.getElem?_modify, hg]
  · rw [List.length_set] at hi
    rw [Array.getElem?_setIfInBounds, List.getElem_set]
    by_cases hij : j = i
    · subst hij
      simp [bc]
      omega
    · simp [hij, hc i hi]
theorem Raw.string {w : World} {g c : Nat} {l : List UInt8} (h : Raw w g l) : (convert 44 9 (.slice (some ⟨g, 0, none⟩) l.length c)).run Tryd.prog w = .ok (.string (B l)) w :=
  run_convert_bytes_back w _ _ _ ⟨g, 0, none⟩ c l Tryd.underlying44 Tryd.underlying5 Tryd.underlying9 fun j hj => by
    rw [WideShapes.add_plain, Nat.zero_add]
    exact h.cell j hj
theorem Raw.new (w : World) (s : ByteArray) : Raw (Lib.bytesWorld w 5 s) w.heap.size (L s) := by
  refine ⟨_, Lib.bytesWorld_at_new w _ s, ?_, fun j hj => ?_⟩
  · unfold Lib.bytesCells
    rw [size_L]
    simp
  · rw [size_L] at hj
    simp [Lib.bytesCells, Array.getElem?_append, hj, bc]
end Go.Proofs.YtoijeljjehjfjaaDoor.Fo

namespace Go.Proofs.YtoijeljjehjfjaaDoor.Re
set_option maxRecDepth 100000
set_option linter.unusedSimpArgs false
set_option linter.unusedVariables false
open Go.RowKit Ba Rm
theorem below_new (w : World) (o : Obj) : Below w.heap.size w (w.alloc o) := (Below.refl _ _).alloc (Nat.le_refl _) _

theorem valid_of (m : Nat) (h : m < 1114112) (hs : ¬ (55296 ≤ m ∧ m ≤ 57343)) : Utf8.valid (m : Int) = true := by
  unfold Utf8.valid
  simp only [Bool.or_eq_true, Bool.and_eq_true, decide_eq_true_eq]
  omega
theorem enc_eq (m : Nat) (h : m < 1114112) (hs : ¬ (55296 ≤ m ∧ m ≤ 57343)) : Utf8.encode (m : Int) = B (enc m) := by
  have hv := valid_of m h hs
  unfold Utf8.encode enc
  rw [hv]
  simp only [if_true, Int.toNat_natCast]
  clear hv h hs
  by_cases h0 : m < 128
  · rw [if_pos h0, if_pos h0]; rfl
  by_cases h1 : m < 2048
  · rw [if_neg h0, if_pos h1, if_neg h0, if_pos h1]; rfl
  by_cases h2 : m < 65536
  · rw [if_neg h0, if_neg h1, if_pos h2, if_neg h0, if_neg h1, if_pos h2]; rfl
  · rw [if_neg h0, if_neg h1, if_neg h2, if_neg h0, if_neg h1, if_neg h2]; rfl

theorem code_any (n : Int) (w : World) (hn : (Lit.int .i64 n).wf = true) : Calls Tryd.prog 116 #[.int .i64 n] w fun e w' => e = .returned (.string (B (code n))) ∧ w = w' := by
  by_cases hb : n < 1 ∨ 1114111 < n ∨ (55296 ≤ n ∧ n ≤ 57343)
  · have hc : code n = [239, 191, 189] := by
      have : bad n = true := by unfold bad; rcases hb with h | h | ⟨h1, h2⟩ <;> simp [*]
      unfold code
      rw [if_pos this]
    rw [hc]
    rcases hb with h | h | ⟨h1, h2⟩
    all_goals
      go_enter Tryd.func116, Tryd.ntmps116
      go_wp2
      go_ret
      exact ⟨rfl, rfl⟩
  · have hbad : bad n = false := by
      unfold bad
      simp only [Bool.or_eq_false_iff, decide_eq_false_iff_not, Bool.and_eq_false_iff]
      omega
    by_cases h13 : n = 13
    · subst h13
      go_enter Tryd.func116, Tryd.ntmps116
      go_wp2
      go_ret
      exact ⟨rfl, rfl⟩
    · obtain ⟨m, rfl⟩ : ∃ m : Nat, n = m := ⟨n.toNat, by omega⟩
      have hc : code m = enc m := by
        unfold code
        rw [hbad, if_neg (by simp), if_neg h13]
        rfl
      rw [hc, ← enc_eq m (by omega) (by omega)]
      clear hc hbad hn
      have h1 : ¬ (m : Int) < 1 := by omega
      have h2 : ¬ 1114111 < (m : Int) := by omega
      by_cases h3 : 55296 ≤ (m : Int)
      · have h4 : ¬ (m : Int) ≤ 57343 := by omega
        clear hb
        go_enter Tryd.func116, Tryd.ntmps116
        go_wp2
        go_ret
        exact ⟨rfl, rfl⟩
      · clear hb
        go_enter Tryd.func116, Tryd.ntmps116
        go_wp2
        go_ret
        exact ⟨rfl, rfl⟩

end Go.Proofs.YtoijeljjehjfjaaDoor.Re

namespace Go.Proofs.YtoijeljjehjfjaaDoor.Re
set_option maxRecDepth 100000
set_option linter.unusedSimpArgs false
set_option linter.unusedVariables false
open Go.RowKit Ba Rm
def digI (x : Int) : Int := if 48 ≤ x ∧ x ≤ 57 then x - 48 else if 97 ≤ x ∧ x ≤ 102 then x - 87 else if 65 ≤ x ∧ x ≤ 70 then x - 55 else -1
theorem dig_eq (c : UInt8) : digI c.toNat = dig c := by
  unfold digI dig
  repeat' split
  all_goals omega
theorem digI_far (x : Int) (h : 128 ≤ x) : digI x = -1 := by
  unfold digI
  repeat' split
  all_goals omega
theorem seven (x : Int) : x < 48 ∨ (48 ≤ x ∧ x ≤ 57) ∨ (57 < x ∧ x < 65) ∨ (65 ≤ x ∧ x ≤ 70) ∨ (70 < x ∧ x < 97) ∨ (97 ≤ x ∧ x ≤ 102) ∨ 102 < x := by omega

set_option maxHeartbeats 1000000 in
theorem digit_any (r : Int) (h0 : 0 ≤ r) (h1 : r ≤ 1114111) (w : World) : Calls Tryd.prog 115 #[.int .i32 r] w fun e w' => e = .returned (.int .i64 (digI r)) ∧ w = w' := by
  rcases seven r with h | ⟨h, h'⟩ | ⟨h, h'⟩ | ⟨h, h'⟩ | ⟨h, h'⟩ | ⟨h, h'⟩ | h
  all_goals
    go_enter Tryd.func115, Tryd.ntmps115
    go_wp2
    go_ret
    refine ⟨ret_int ?_, rfl⟩
    unfold digI
    repeat' split
    all_goals omega

theorem ret_sb {a b : ByteArray} {x y : Bool} (h : a = b) (k : x = y) : Ending.returned (.tuple #[.string a, .bool x]) = .returned (.tuple #[.string b, .bool y]) := by rw [h, k]
theorem u8_ne {a b : UInt8} (h : a ≠ b) : (((a.toNat : Int)) == (b.toNat : Int)) = false := by rw [u8_eq]; simpa using h

theorem bodyOf_any (s : ByteArray) (w : World) (hs : s.size ≤ 140737488355328) : Calls Tryd.prog 97 #[.string s] w fun e w' => e = .returned (.tuple #[.string (B ((bod (L s)).getD [])), .bool (bod (L s)).isSome]) ∧ w = w' := by
  go_enter Tryd.func97, Tryd.ntmps97
  go_wp2
  go_loop [7] (fun i => ∃ k : Nat, i = .int .i64 k ∧ k ≤ s.size ∧ bod (L s) = (bod ((L s).drop k)).map ((L s).take k ++ ·)) (fun i => s.size - (intOf i).toNat)
  case atStart => exact ⟨0, rfl, Nat.zero_le _, by rw [List.drop_zero, List.take_zero]; cases bod (L s) <;> rfl⟩
  case round =>
    obtain ⟨k, rfl, hks, hc⟩ := hrel
    by_cases hp : k < s.size
    · rw [drop_cons s k hp] at hc
      by_cases he : s[k] = 59
      · have hb : (((s[k].toNat : Int)) == 59) = true := by rw [he]; rfl
        rw [bod, if_pos he] at hc
        have HC := Lib.hid hc; clear hc he
        go_wp2
        go_ret2
        refine ⟨ret_sb ?_ ?_, rfl⟩
        · rw [HC.out]
          exact B_of (by rw [L_extract]; simp)
        · rw [HC.out]; rfl
      · have hb : (((s[k].toNat : Int)) == 59) = false := u8_ne (b := 59) he
        by_cases h8 : s[k] = 38
        · have hb8 : (((s[k].toNat : Int)) == 38) = true := by rw [h8]; rfl
          rw [bod, if_neg he, if_pos h8] at hc
          have HC := Lib.hid hc; clear hc he h8
          go_wp2
          go_ret2
          refine ⟨ret_sb ?_ ?_, rfl⟩
          · rw [HC.out]; rfl
          · rw [HC.out]; rfl
        · have hb8 : (((s[k].toNat : Int)) == 38) = false := u8_ne (b := 38) h8
          rw [bod, if_neg he, if_neg h8] at hc
          have HC := Lib.hid hc; clear hc he h8
          go_wp2
          go_round
          case rel =>
            refine ⟨k + 1, by go_num, by omega, ?_⟩
            rw [HC.out, take_snoc s k hp]
            cases bod ((L s).drop (k + 1)) <;> simp
          case measure => simp [intOf]; omega
    · rw [drop_nil s k hp] at hc
      have HC := Lib.hid hc; clear hc
      go_wp2
      go_ret2
      refine ⟨ret_sb ?_ ?_, rfl⟩
      · rw [HC.out]; rfl
      · rw [HC.out]; rfl

/-- A body's kind: by its name, decimal, hexadecimal. -/
def knd (l : List UInt8) : Int := if l.head? = some 35 then (if l[1]? = some 120 ∨ l[1]? = some 88 then 2 else 1) else 0
def rst (l : List UInt8) : List UInt8 := if l.head? = some 35 then (if l[1]? = some 120 ∨ l[1]? = some 88 then l.drop 2 else l.drop 1) else l
theorem L_at (s : ByteArray) (k : Nat) (h : k < s.size) : (L s)[k]? = some s[k] := by
  rw [List.getElem?_eq_getElem (by rw [size_L]; exact h)]; rfl
theorem L_far (s : ByteArray) (k : Nat) (h : ¬ k < s.size) : (L s)[k]? = none := List.getElem?_eq_none (by rw [size_L]; omega)
theorem head_at (s : ByteArray) : (L s).head? = (L s)[0]? := by rw [List.head?_eq_getElem?]
theorem empty_ne {s : ByteArray} (h : 0 < s.size) : (s.toList == (ByteArray.mk #[]).toList) = false := by
  rw [eq_of_toList, decide_eq_false_iff_not]
  intro e
  rw [e] at h
  exact absurd h (by decide)

theorem below_dN {N : Nat} {w0 w : World} (h : Below N w0 w) (n : Nat) : Below N w0 (w.drewN n) := ⟨h.1, h.2, h.3, h.4, h.5⟩
theorem ne_empty {s : ByteArray} (h : 0 < s.size) : ¬ s.toList = [] := fun e => by
  have : s.size = 0 := by rw [← size_L, ← toList_L, e]; rfl
  omega

set_option maxHeartbeats 1000000 in
theorem kindOf_any (s : ByteArray) (w : World) (hs : s.size ≤ 140737488355328) : Calls Tryd.prog 109 #[.string s] w fun e w' => e = .returned (.tuple #[.int .i64 (knd (L s)), .string (B (rst (L s)))]) ∧ Below w.heap.size w w' := by
  by_cases h0 : 0 < s.size
  · have he0 := empty_ne h0
    have hn0 := ne_empty h0
    have hie : s.toList.isEmpty = false := by simpa using hn0
    by_cases h35 : s[0] = 35
    · have hb : (((s[0].toNat : Int)) != 35) = false := by rw [h35]; rfl
      have hh : (L s).head? = some 35 := by rw [head_at, L_at s 0 h0, h35]
      by_cases hx : ∃ h1 : 1 < s.size, s[1] = 120 ∨ s[1] = 88
      · obtain ⟨h1, hx⟩ := hx
        have k1 : knd (L s) = 2 := by
          unfold knd
          rw [if_pos hh, L_at s 1 h1, if_pos (by simpa using hx)]
        have k2 : B (rst (L s)) = s.extract 2 s.size := by
          unfold rst
          rw [if_pos hh, L_at s 1 h1, if_pos (by simpa using hx), ← L_end, B_L]
        rw [k1, k2]
        clear k1 k2 hh h35
        rcases hx with hx | hx
        · have hb1 : (((s[1].toNat : Int)) == 120) = true := by rw [hx]; rfl
          clear hx
          have hz : (2 : Int) ≤ s.size := by omega
          go_enter Tryd.func109, Tryd.ntmps109
          go_wp2
          go_quiet (fail)
          go_wp2
          go_ret2
          exact ⟨rfl, below_dN (Below.refl _ _) _⟩
        · have hb1 : (((s[1].toNat : Int)) == 120) = false := by rw [hx]; rfl
          have hb2 : (((s[1].toNat : Int)) == 88) = true := by rw [hx]; rfl
          clear hx
          have hz : (2 : Int) ≤ s.size := by omega
          go_enter Tryd.func109, Tryd.ntmps109
          go_wp2
          go_quiet (fail)
          go_wp2
          go_ret2
          exact ⟨rfl, below_dN (Below.refl _ _) _⟩
      · have hx' : ¬ ((L s)[1]? = some 120 ∨ (L s)[1]? = some 88) := by
          intro e
          by_cases h1 : 1 < s.size
          · rw [L_at s 1 h1] at e
            exact hx ⟨h1, by simpa using e⟩
          · rw [L_far s 1 h1] at e
            simp at e
        have k1 : knd (L s) = 1 := by
          unfold knd
          rw [if_pos hh, if_neg hx']
        have k2 : B (rst (L s)) = s.extract 1 s.size := by
          unfold rst
          rw [if_pos hh, if_neg hx', ← L_end, B_L]
        rw [k1, k2]
        clear k1 k2 hh h35 hx'
        by_cases h1 : 1 < s.size
        · have hb1 : (((s[1].toNat : Int)) == 120) = false := u8_ne (b := 120) fun e => hx ⟨h1, .inl e⟩
          have hb2 : (((s[1].toNat : Int)) == 88) = false := u8_ne (b := 88) fun e => hx ⟨h1, .inr e⟩
          clear hx
          go_enter Tryd.func109, Tryd.ntmps109
          go_wp2
          go_quiet (fail)
          go_wp2
          go_ret2
          exact ⟨rfl, below_dN (Below.refl _ _) _⟩
        · clear hx
          go_enter Tryd.func109, Tryd.ntmps109
          go_wp2
          go_quiet (fail)
          go_wp2
          go_ret2
          exact ⟨rfl, below_dN (Below.refl _ _) _⟩
    · have hb : (((s[0].toNat : Int)) != 35) = true := by
        have := u8_ne (b := 35) h35
        rw [show (((35 : UInt8).toNat : Int)) = 35 from rfl] at this
        rw [bne, this]; rfl
      have hh : ¬ (L s).head? = some 35 := by rw [head_at, L_at s 0 h0]; simpa using h35
      have k1 : knd (L s) = 0 := by
        unfold knd
        rw [if_neg hh]
      have k2 : B (rst (L s)) = s := by
        unfold rst
        rw [if_neg hh, B_L]
      rw [k1, k2]
      clear k1 k2 hh h35
      go_enter Tryd.func109, Tryd.ntmps109
      go_wp2
      go_ret2
      exact ⟨rfl, Below.refl _ _⟩
  · obtain rfl : s = ByteArray.mk #[] := L_inj (by
      have : (L s).length = 0 := by rw [size_L]; omega
      exact List.eq_nil_of_length_eq_zero this)
    go_enter Tryd.func109, Tryd.ntmps109
    go_wp2
    go_ret2
    exact ⟨rfl, Below.refl _ _⟩

end Go.Proofs.YtoijeljjehjfjaaDoor.Re

namespace Go.Proofs.YtoijeljjehjfjaaDoor.Re
set_option maxRecDepth 100000
set_option linter.unusedSimpArgs false
set_option linter.unusedVariables false
open Go.RowKit Ba Rm
theorem min_int (x m : Int) (w : World) : ∀ ts t, (Builtin.min_ ts t #[.int .i64 x, .int .i64 m]).run Tryd.prog w = .ok (.int .i64 (min x m)) w := fun ts t => by
  rw [run_min_int2]
  congr 2
  split <;> omega
theorem prod_bound {n base : Int} (h0 : 0 ≤ n) (h1 : n ≤ 1114112) (hb : base = 10 ∨ base = 16) : 0 ≤ n * base ∧ n * base ≤ 17825792 := by
  rcases hb with rfl | rfl <;> omega
theorem val_stop {base n : Int} {c : UInt8} {r : List UInt8} (h : dig c < 0 ∨ base ≤ dig c) : val base n (c :: r) = none := by rw [val, if_pos h]
theorem val_on {base n : Int} {c : UInt8} {r : List UInt8} (h : ¬ (dig c < 0 ∨ base ≤ dig c)) : val base n (c :: r) = val base (min (n * base + dig c) 1114112) r := by rw [val, if_neg h]

/-- One character of a text that is ranged over: a byte below 128 is its own; any other one is no digit. -/
theorem get_at (s : ByteArray) (k : Nat) (h : k < s.size) : s.get! (k + 0) = s[k] := by
  show s.data[k]! = s.data[k]
  exact getElem!_pos s.data k h
theorem dec_small (s : ByteArray) (k : Nat) (h : k < s.size) (hc : s[k].toNat < 128) : Utf8.decode s k = (s[k].toNat, 1) := by
  unfold Utf8.decode
  simp only [get_at s k h, hc, if_true]
theorem dec_big (s : ByteArray) (k : Nat) (h : k < s.size) (hc : ¬ s[k].toNat < 128) : 128 ≤ (Utf8.decode s k).1 ∧ (Utf8.decode s k).1 ≤ 1114111 := by
  unfold Utf8.decode
  simp only [get_at s k h, hc, if_false]
  repeat' split
  all_goals simp only [Utf8.runeError, Utf8.valid, Bool.and_eq_true, Bool.or_eq_true, decide_eq_true_eq, ge_iff_le] at *
  all_goals omega

theorem below_iter (w : World) (s : ByteArray) (p : Nat) : Below w.heap.size w (w.iter s p) := (Below.refl _ _).alloc (Nat.le_refl _) _

set_option maxHeartbeats 1000000 in
theorem numbered_any (s : ByteArray) (base : Int) (hbase : base = 10 ∨ base = 16) (w : World) (hs : s.size ≤ 140737488355328) :
    Calls Tryd.prog 110 #[.string s, .int .i64 base] w fun e w' => e = .returned (.tuple #[.string (B ((numL base (L s)).getD [])), .bool (numL base (L s)).isSome]) ∧ Below w.heap.size w w' := by
  obtain ⟨V, hV⟩ : ∃ V, val base 0 (L s) = V := ⟨_, rfl⟩
  have hN : numL base (L s) = if L s = [] then none else V.map code := by unfold numL; rw [hV]
  have HN := Lib.hid hN; clear hN
  go_enter Tryd.func110, Tryd.ntmps110
  go_wp2
  go_loopw [6] (fun v w' => ∃ (k : Nat) (n : Int), w' = w.iter s k ∧ v = .int .i64 n ∧ k ≤ s.size ∧ 0 ≤ n ∧ n ≤ 1114112 ∧ val base n ((L s).drop k) = V) (fun _ w' => s.size - w'.iterPos w.heap.size)
  case atStart => exact ⟨0, 0, rfl, rfl, Nat.zero_le _, Int.le_refl _, by omega, by rw [List.drop_zero]; exact hV⟩
  case round =>
    clear hV
    obtain ⟨k, n, rfl, rfl, hks, hn0, hn1, hc⟩ := hrel
    by_cases hp : k < s.size
    · have hnx : ∀ ty, (Instr.next (.pointer (some ⟨w.heap.size, 0, none⟩)) true ty).run Tryd.prog (w.iter s k) = _ := fun ty => run_next_any w s k ty hp
      rw [drop_cons s k hp] at hc
      by_cases hsm : s[k].toNat < 128
      · rw [dec_small s k hp hsm] at hnx
        simp only [] at hnx
        have hdl := dig_le s[k]
        have hdq := dig_eq s[k]
        by_cases hd : dig s[k] < 0 ∨ base ≤ dig s[k]
        · rw [val_stop hd] at hc
          subst hc
          rcases hd with hd | hd
          · go_wp2_with (go_at_call 115; refine (digit_any s[k].toNat (by omega) (by omega) _).mono ?_; rw [hdq]; rintro e w' ⟨rfl, rfl⟩)
            go_ret2
            refine ⟨?_, below_iter _ _ _⟩
            rw [HN.out]
            split <;> rfl
          · have hd0 : ¬ dig s[k] < 0 := by omega
            go_wp2_with (go_at_call 115; refine (digit_any s[k].toNat (by omega) (by omega) _).mono ?_; rw [hdq]; rintro e w' ⟨rfl, rfl⟩)
            go_ret2
            refine ⟨?_, below_iter _ _ _⟩
            rw [HN.out]
            split <;> rfl
        · rw [val_on hd] at hc
          have hd0 : ¬ dig s[k] < 0 := by omega
          have hd1 : ¬ base ≤ dig s[k] := by omega
          have hpb := prod_bound hn0 hn1 hbase
          obtain ⟨p1, p2⟩ := hpb
          have hmin := min_int (n * base + dig s[k]) 1114112 (w.iter s (k + 1))
          have HC := Lib.hid hc; clear hc hd
          go_wp2_with (go_at_call 115; refine (digit_any s[k].toNat (by omega) (by omega) _).mono ?_; rw [hdq]; rintro e w' ⟨rfl, rfl⟩)
          go_roundw
          case rel => exact ⟨k + 1, _, rfl, rfl, by omega, by omega, by omega, HC.out⟩
          case measure => simp; omega
      · obtain ⟨hb1, hb2⟩ := dec_big s k hp hsm
        have hdq := digI_far (Utf8.decode s k).1 (by omega)
        have hdg : dig s[k] < 0 := by
          rw [← dig_eq, digI_far _ (by omega)]; decide
        rw [val_stop (.inl hdg)] at hc
        subst hc
        go_wp2_with (go_at_call 115; refine (digit_any (Utf8.decode s k).1 (by omega) (by omega) _).mono ?_; rw [hdq]; rintro e w' ⟨rfl, rfl⟩)
        go_ret2
        refine ⟨?_, below_iter _ _ _⟩
        rw [HN.out]
        split <;> rfl
    · have hnx : ∀ ty, (Instr.next (.pointer (some ⟨w.heap.size, 0, none⟩)) true ty).run Tryd.prog (w.iter s k) = _ := fun ty => run_next_end w s k ty hp
      rw [drop_nil s k hp] at hc
      have hc' : V = some n := hc.symm
      subst hc'
      clear hc
      by_cases h0 : 0 < s.size
      · have hie : s.toList.isEmpty = false := by simpa using ne_empty h0
        have hn2 := ne_empty h0
        have hL : ¬ L s = [] := by rw [← toList_L]; exact hn2
        go_wp2_with (go_at_call 116; refine (code_any n _ (WalkArith.wf_i64 (by omega))).mono ?_; rintro e w' ⟨rfl, rfl⟩)
        go_ret2
        refine ⟨?_, below_iter _ _ _⟩
        rw [HN.out, if_neg hL]
        rfl
      · have hL : L s = [] := List.eq_nil_of_length_eq_zero (by rw [size_L]; omega)
        have hie : s.toList.isEmpty = true := by rw [toList_L, hL]; rfl
        have hn2 : s.toList = [] := by rw [toList_L, hL]
        go_wp2
        go_ret2
        refine ⟨?_, below_iter _ _ _⟩
        rw [HN.out, if_pos hL]
        rfl

end Go.Proofs.YtoijeljjehjfjaaDoor.Re

namespace Go.Proofs.YtoijeljjehjfjaaDoor.Re
set_option maxRecDepth 100000
set_option linter.unusedSimpArgs false
set_option linter.unusedVariables false
open Go.RowKit Ba Rm
/-- The table's cells. -/
def cellsOf2 (t : List (List UInt8 × Nat)) : List Value := match t with
  | [] => []
  | p :: r => .string (B p.1) :: .int .i64 p.2 :: cellsOf2 r
theorem cellsOf2_drop (t : List (List UInt8 × Nat)) (k : Nat) : (cellsOf2 t).drop (2 * k) = cellsOf2 (t.drop k) := by
  induction t generalizing k with
  | nil => simp [cellsOf2]
  | cons p r ih =>
    cases k with
    | zero => rfl
    | succ k => rw [show 2 * (k + 1) = 2 * k + 1 + 1 from by omega, cellsOf2, List.drop_succ_cons, List.drop_succ_cons, ih, List.drop_succ_cons]
/-- In this world the package's table is as its text lays it. -/
def Tab (w : World) : Prop := w.rangeAt 0 0 (cellsOf2 tab) ∧ 0 < w.heap.size
theorem Tab.below {w w' : World} (h : Tab w) (hb : Below w.heap.size w w') : Tab w' := by
  refine ⟨fun j v hv => ?_, Nat.lt_of_lt_of_le h.2 hb.size⟩
  rw [hb.cell (p := ⟨0, 0 + j, none⟩) h.2]
  exact h.1 j v hv

theorem tabT_info : (Tryd.prog.info? 109).map (·.size) = some 48 := by kernel_rfl
theorem pairT_info : (Tryd.prog.info? 108).map (·.size) = some 2 := by kernel_rfl

theorem index_tab (w : World) (k : Nat) (p : List UInt8 × Nat) (r : List (List UInt8 × Nat)) (hk : k < 24) (h : tab.drop k = p :: r) : (Instr.index 109 (.agg (cellsOf2 tab).toArray) (.int .i64 k)).run Tryd.prog w = .ok (.agg #[.string (B p.1), .int .i64 p.2]) w := by
  have hx : ((cellsOf2 tab).drop (k * 2)).take 2 = [.string (B p.1), .int .i64 p.2] := by
    rw [Nat.mul_comm k 2, cellsOf2_drop, h]
    rfl
  have h0 : (0 : Int) ≤ k ∧ (k : Int) < (24 : Nat) := by omega
  cases hq : Tryd.prog.info? 108 with
  | none => have := pairT_info; rw [hq] at this; cases this
  | some i =>
    have hs : i.size = 2 := by have := pairT_info; rw [hq] at this; simpa using this
    simp [Instr.index, run_underlying Tryd.underlying109, run_underlying Tryd.underlying108, asIntOf, part, isAgg, sizeOf, typeInfo, hq, hs, h0, go_sem]
    rw [if_pos hk, hx]

theorem look_stop {p : List UInt8 × Nat} {r : List (List UInt8 × Nat)} {s : List UInt8} (h : p.1 = s) : Rm.look (p :: r) s = some (code p.2) := by rw [Rm.look, if_pos h]
theorem look_on {p : List UInt8 × Nat} {r : List (List UInt8 × Nat)} {s : List UInt8} (h : ¬ p.1 = s) : Rm.look (p :: r) s = Rm.look r s := by rw [Rm.look, if_neg h]
theorem tab_at (k : Nat) (h : k < 24) : ∃ p, p ∈ tab ∧ tab.drop k = p :: tab.drop (k + 1) := by
  have hl : k < tab.length := h
  exact ⟨tab[k], List.getElem_mem _, List.drop_eq_getElem_cons hl⟩
theorem tab_small : ∀ p ∈ tab, p.2 ≤ 8364 ∧ code p.2 = enc p.2 := by decide
theorem str_eqL (a : List UInt8) (s : ByteArray) : ((B a).toList == s.toList) = decide (a = L s) := by
  rw [toList_B, toList_L, Bool.eq_iff_iff, beq_iff_eq, decide_eq_true_iff]

set_option maxRecDepth 100000 in
set_option maxHeartbeats 1000000 in
theorem named_any (s : ByteArray) (w : World) (ht : Tab w) :
    Calls Tryd.prog 111 #[.string s] w fun e w' => e = .returned (.tuple #[.string (B ((Rm.look tab (L s)).getD [])), .bool (Rm.look tab (L s)).isSome]) ∧ Below w.heap.size w w' := by
  obtain ⟨V, hV⟩ : ∃ V, Rm.look tab (L s) = V := ⟨_, rfl⟩
  rw [hV]
  have hrg := ht.1
  have hln : (Tryd.prog.info? 109).map (·.size) = some (cellsOf2 tab).length := tabT_info.trans (by decide)
  have hix := fun (w : World) k p r => index_tab w k p r
  generalize cellsOf2 tab = cs at hrg hix hln
  have HR := Lib.hid hrg; clear hrg
  have HL := Lib.hid hln; clear hln
  have HI := Lib.hid hix; clear hix
  go_enter Tryd.func111, Tryd.ntmps111
  go_wp2_with (refine wpList_load_mid rfl 109 (.global 0) rfl 0 0 rfl cs _ HR.out Tryd.underlying109 rfl HL.out ?_)
  clear HR HL
  go_loopw [7] (fun i wr => ∃ k : Nat, i = .int .i64 k ∧ k ≤ 24 ∧ Rm.look (tab.drop k) (L s) = V ∧ Below w.heap.size w wr) (fun i _ => 24 - (intOf i).toNat)
  case atStart => exact ⟨0, rfl, by omega, hV, Below.refl _ _⟩
  case round =>
    clear hV
    obtain ⟨k, rfl, hk, hc, hbel⟩ := hrel
    by_cases hp : k < 24
    · obtain ⟨p, hpm, hpd⟩ := tab_at k hp
      have hix := HI.out wr k p _ hp hpd
      rw [hpd] at hc
      have hsz := hbel.size
      by_cases he : p.1 = L s
      · rw [look_stop he] at hc
        subst hc
        have hb : ((B p.1).toList == s.toList) = true := by rw [str_eqL]; exact decide_eq_true he
        have hp2 := (tab_small p hpm).1
        have hwf : (Lit.int .i64 (p.2 : Int)).wf = true := WalkArith.wf_i64 (by omega)
        clear he hpd hp2
        go_wp2_with (go_at_call 116; refine (code_any p.2 _ hwf).mono ?_; rintro e w' ⟨rfl, rfl⟩)
        go_ret2
        exact ⟨rfl, hbel.alloc hsz _⟩
      · rw [look_on he] at hc
        have hb : ((B p.1).toList == s.toList) = false := by rw [str_eqL]; exact decide_eq_false he
        have HC := Lib.hid hc
        clear he hpd hc
        go_wp2
        go_roundw
        case rel => exact ⟨k + 1, by go_num, by omega, HC.out, hbel.alloc hsz _⟩
        case measure => simp [intOf]; omega
    · have hc' : V = none := by
        rw [← hc, List.drop_eq_nil_of_le (by show 24 ≤ k; omega)]
        rfl
      subst hc'
      clear hc
      go_wp2
      go_ret2
      exact ⟨rfl, hbel⟩

end Go.Proofs.YtoijeljjehjfjaaDoor.Re

namespace Go.Proofs.YtoijeljjehjfjaaDoor.Re
set_option maxRecDepth 100000
set_option linter.unusedSimpArgs false
set_option linter.unusedVariables false
open Go.RowKit Ba Rm
theorem meant_rst (l : List UInt8) : meant l = if knd l = 1 then numL 10 (rst l) else if knd l = 2 then numL 16 (rst l) else Rm.look tab (rst l) := by
  unfold meant knd rst
  repeat' split
  all_goals first | rfl | (exfalso; omega) | simp_all
theorem knd_three (l : List UInt8) : knd l = 1 ∨ knd l = 2 ∨ knd l = 0 := by
  unfold knd
  repeat' split
  all_goals simp
theorem rst_len (l : List UInt8) : (rst l).length ≤ l.length := by
  unfold rst
  repeat' split
  all_goals (try rw [List.length_drop]); omega

set_option maxHeartbeats 1000000 in
theorem denoted_any (s : ByteArray) (w : World) (ht : Tab w) (hs : s.size ≤ 140737488355328) :
    Calls Tryd.prog 98 #[.string s] w fun e w' => e = .returned (.tuple #[.string (B ((meant (L s)).getD [])), .bool (meant (L s)).isSome]) ∧ Below w.heap.size w w' := by
  have hm := meant_rst (L s)
  have hr : (B (rst (L s))).size ≤ 140737488355328 := by
    have := rst_len (L s)
    rw [size_L] at this
    rw [size_B]; omega
  have hk := kindOf_any s w hs
  have h3 := knd_three (L s)
  have hL := L_B (rst (L s))
  generalize meant (L s) = M at hm
  generalize B (rst (L s)) = t at hk hr hL
  rw [← hL] at hm
  generalize knd (L s) = K at hm hk h3
  clear hL
  rcases h3 with rfl | rfl | rfl
  · rw [if_pos rfl] at hm
    subst hm
    go_enter Tryd.func98, Tryd.ntmps98
    go_wp2_with fail
    refine hk.mono ?_
    clear hk
    rintro e w1 ⟨rfl, hb1⟩
    go_wp2_with fail
    refine (numbered_any t 10 (.inl rfl) w1 hr).mono ?_
    rintro e w2 ⟨rfl, hb2⟩
    go_wp2
    go_ret2
    exact ⟨rfl, bt hb1 hb2⟩
  · rw [if_neg (by decide), if_pos rfl] at hm
    subst hm
    go_enter Tryd.func98, Tryd.ntmps98
    go_wp2_with fail
    refine hk.mono ?_
    clear hk
    rintro e w1 ⟨rfl, hb1⟩
    go_wp2_with fail
    refine (numbered_any t 16 (.inr rfl) w1 hr).mono ?_
    rintro e w2 ⟨rfl, hb2⟩
    go_wp2
    go_ret2
    exact ⟨rfl, bt hb1 hb2⟩
  · rw [if_neg (by decide), if_neg (by decide)] at hm
    subst hm
    go_enter Tryd.func98, Tryd.ntmps98
    go_wp2_with fail
    refine hk.mono ?_
    clear hk
    rintro e w1 ⟨rfl, hb1⟩
    go_wp2_with fail
    refine (named_any t w1 (ht.below hb1)).mono ?_
    rintro e w2 ⟨rfl, hb2⟩
    go_wp2
    go_ret2
    exact ⟨rfl, bt hb1 hb2⟩

end Go.Proofs.YtoijeljjehjfjaaDoor.Re

namespace Go.Proofs.YtoijeljjehjfjaaDoor.Re
set_option maxRecDepth 100000
set_option linter.unusedSimpArgs false
set_option linter.unusedVariables false
open Go.RowKit Ba Rm
theorem strCells_L (s : ByteArray) : Lib.strCells s = (L s).map bc := rfl
/-- append of a string's bytes onto bytes of the call's own. -/
theorem app_str {ops : Array Oper} {rest : List Oper} {o : Oper} {a : Act} {Q : Exit → Act → World → Prop} (w : World) (hgd : o.guard = none) (s x : Operand)
    (ho : o.op = .call { callee := .builtin .append, args := #[s, x], argTypes := #[44, 9] })
    (N : Nat) (v : Value) (l : List UInt8) (t : ByteArray) (hs : a.eval s = v) (hown : OwnB N w v l) (hx : a.eval x = .string t)
    (hl : l.length + t.size ≤ 140737488355328) (hN : N ≤ w.heap.size)
    (h : ∀ v' w', OwnB N w' v' (l ++ L t) → (∀ w0, Below N w0 w → Below N w0 w') → wpList Tryd.prog ops Q rest (a.put o.dst v') w') :
    wpList Tryd.prog ops Q (o :: rest) a w := by
  obtain ⟨i0, hi, hz0, hz1, hz2⟩ := info_parts info_u8
  refine Lib.wpList_append_own_string _ hgd s x 44 9 ho N 5 i0 Tryd.underlying44 Tryd.underlying9 hi hz0 hz1 hz2 v l.length (l.map bc) hs hown t hx (by unfold maxLen; omega) hl hN ?_
  intro v2 w2 hown2 hgrow2 _
  refine h v2 w2 ?_ fun w0 hb => hown.below hgrow2 hb hN
  rw [strCells_L] at hown2
  exact OwnB.appended hown2 (by rw [size_L])

theorem bodyOf1 (w : World) (s x : ByteArray) (ok : Bool) (hs : s.size ≤ 140737488355328) (h1 : B ((bod (L s)).getD []) = x) (h2 : (bod (L s)).isSome = ok) :
    Calls Tryd.prog 97 #[.string s] w fun e w' => e = .returned (.tuple #[.string x, .bool ok]) ∧ w = w' := by
  have k := bodyOf_any s w hs
  rw [h1, h2] at k
  exact k
theorem denoted1 (w : World) (s x : ByteArray) (ok : Bool) (ht : Tab w) (hs : s.size ≤ 140737488355328) (h1 : B ((meant (L s)).getD []) = x) (h2 : (meant (L s)).isSome = ok) :
    Calls Tryd.prog 98 #[.string s] w fun e w' => e = .returned (.tuple #[.string x, .bool ok]) ∧ Below w.heap.size w w' := by
  have k := denoted_any s w ht hs
  rw [h1, h2] at k
  exact k
theorem fst_amp {r : List UInt8} : fst (38 :: r) = (match bod r with | some b => (match meant b with | some t => (t, b.length + 2) | none => ([38], 1)) | none => ([38], 1)) := by
  rw [fst_cons, if_pos rfl, refAt_bod]
  cases bod r with
  | none => rfl
  | some b => cases hm : meant b <;> simp [hm]
theorem bod_len {r b : List UInt8} (h : bod r = some b) : b.length + 1 ≤ r.length := len_cut ((bod_cut r).1 b h)
theorem ext1 (s : ByteArray) (h : 0 < s.size) : s.extract 0 1 = B [s[0]] := B_of (by rw [L_extract, List.drop_zero, show 1 - 0 = 0 + 1 from rfl, take_snoc s 0 h]; rfl)

set_option maxHeartbeats 1000000 in
theorem first_any (s t : ByteArray) (n : Nat) (w : World) (ht : Tab w) (h0 : 0 < s.size) (hs : s.size ≤ 140737488355328) (h1 : B (fst (L s)).1 = t) (h2 : (fst (L s)).2 = n) :
    Calls Tryd.prog 84 #[.string s] w fun e w' => e = .returned (.tuple #[.string t, .int .i64 n]) ∧ Below w.heap.size w w' := by
  have hL : L s = s[0] :: (L s).drop 1 := by
    have := drop_cons s 0 h0
    rw [List.drop_zero] at this
    exact this
  have hz : (1 : Int) ≤ s.size := by omega
  by_cases h8 : s[0] = 38
  · have hb : (((s[0].toNat : Int)) == 38) = true := by rw [h8]; rfl
    rw [hL, h8, fst_amp] at h1 h2
    have hxs : (s.extract 1 s.size).size ≤ 140737488355328 := Nat.le_trans (size_extract s 1 s.size) hs
    have hxL := L_end s 1
    cases hbd : bod ((L s).drop 1) with
    | none =>
      rw [hbd] at h1 h2
      have e1 : t = s.extract 0 1 := by rw [← h1, ext1 s h0, h8]
      have e2 : n = 1 := h2.symm
      subst e1 e2
      have k1 : B ((bod (L (s.extract 1 s.size))).getD []) = B [] := by rw [hxL, hbd]; rfl
      have k2 : (bod (L (s.extract 1 s.size))).isSome = false := by rw [hxL, hbd]; rfl
      have K1 := Lib.hid k1; have K2 := Lib.hid k2
      clear k1 k2 hxL hbd hL h1 h2 h8
      go_enter Tryd.func84, Tryd.ntmps84
      go_wp2_with fail
      refine (bodyOf1 w _ _ _ hxs K1.out K2.out).mono ?_
      rintro e w1 ⟨rfl, rfl⟩
      go_wp2
      go_ret2
      exact ⟨rfl, Below.refl _ _⟩
    | some b =>
      rw [hbd] at h1 h2
      simp only at h1 h2
      have hbl := bod_len hbd
      rw [List.length_drop, size_L] at hbl
      have k1 : B ((bod (L (s.extract 1 s.size))).getD []) = B b := by rw [hxL, hbd]; rfl
      have k2 : (bod (L (s.extract 1 s.size))).isSome = true := by rw [hxL, hbd]; rfl
      have hbs : (B b).size ≤ 140737488355328 := by rw [size_B]; omega
      have hbz : (B b).size = b.length := size_B b
      have K1 := Lib.hid k1; have K2 := Lib.hid k2
      clear k1 k2 hxL hbd hL
      cases hm : meant b with
      | none =>
        rw [hm] at h1 h2
        have e1 : t = s.extract 0 1 := by rw [← h1, ext1 s h0, h8]
        have e2 : n = 1 := h2.symm
        subst e1 e2
        have j1 : B ((meant (L (B b))).getD []) = B [] := by rw [L_B, hm]; rfl
        have j2 : (meant (L (B b))).isSome = false := by rw [L_B, hm]; rfl
        have J1 := Lib.hid j1; have J2 := Lib.hid j2
        generalize B b = u at hbs hbz J1 J2 K1
        clear j1 j2 hm h1 h2 h8
        go_enter Tryd.func84, Tryd.ntmps84
        go_wp2_with fail
        refine (bodyOf1 w _ _ _ hxs K1.out K2.out).mono ?_
        rintro e w1 ⟨rfl, rfl⟩
        go_wp2_with fail
        refine (denoted1 w _ _ _ ht hbs J1.out J2.out).mono ?_
        rintro e w2 ⟨rfl, hb2⟩
        go_wp2
        go_ret2
        exact ⟨rfl, hb2⟩
      | some x =>
        rw [hm] at h1 h2
        simp only at h1 h2
        subst h1 h2
        have j1 : B ((meant (L (B b))).getD []) = B x := by rw [L_B, hm]; rfl
        have j2 : (meant (L (B b))).isSome = true := by rw [L_B, hm]; rfl
        have J1 := Lib.hid j1; have J2 := Lib.hid j2
        clear j1 j2 hm h8
        generalize B b = u at hbs hbz J1 J2 K1
        go_enter Tryd.func84, Tryd.ntmps84
        go_wp2_with fail
        refine (bodyOf1 w _ _ _ hxs K1.out K2.out).mono ?_
        rintro e w1 ⟨rfl, rfl⟩
        go_wp2_with fail
        refine (denoted1 w _ _ _ ht hbs J1.out J2.out).mono ?_
        rintro e w2 ⟨rfl, hb2⟩
        go_wp2
        go_ret2
        refine ⟨?_, hb2⟩
        simp
        omega
  · have hb : (((s[0].toNat : Int)) == 38) = false := u8_ne (b := 38) h8
    rw [hL, fst_byte _ h8] at h1 h2
    have e1 : t = s.extract 0 1 := by rw [← h1, ext1 s h0]
    have e2 : n = 1 := h2.symm
    subst e1 e2
    clear hL h1 h2 h8
    go_enter Tryd.func84, Tryd.ntmps84
    go_wp2
    go_ret2
    exact ⟨rfl, Below.refl _ _⟩

end Go.Proofs.YtoijeljjehjfjaaDoor.Re

namespace Go.Proofs.YtoijeljjehjfjaaDoor.Re
set_option maxRecDepth 100000
set_option linter.unusedSimpArgs false
set_option linter.unusedVariables false
open Go.RowKit Ba Rm
theorem dec_bound {acc l : List UInt8} {x : List UInt8} (h : acc ++ dec l = dec x) : acc.length + (dec l).length ≤ x.length := by
  have h1 := congrArg List.length h
  have h2 := len_dec x
  rw [List.length_append] at h1
  omega

set_option maxHeartbeats 1000000 in
theorem decode_any (s : ByteArray) (w : World) (ht : Tab w) (hs : s.size ≤ 140737488351232) :
    Calls Tryd.prog 68 #[.string s] w fun e w' => e = .returned (.string (B (dec (L s)))) ∧ Below w.heap.size w w' := by
  obtain ⟨i0, hi, hz0, hz1, hz2⟩ := info_parts info_u8
  go_enter Tryd.func68, Tryd.ntmps68
  go_wp2_with (at_make; refine wpList_make_own _ rfl (.const (.int .i64 0)) (.tmp 8) 44 rfl w.heap.size 5 i0 (.int .u8 0) 1 Tryd.underlying44 hi hz0 hz1 .i64 .i64 _ s.size rfl rfl rfl (by rw [hz2]; omega) (by unfold maxLen; omega) (Nat.le_refl _) ?_; intro w1 hown hgrow)
  have hb0 : Below w.heap.size w w1 := (Below.refl w.heap.size w).grown hgrow (Nat.le_refl _) (by simp)
  have ho0 : OwnB w.heap.size w1 (.slice (some ⟨w.heap.size, 0, none⟩) 0 s.size) [] := hown
  clear hown hgrow
  go_loopw [3, 4] (fun v i wr => ∃ (k : Nat) (acc : List UInt8), i = .int .i64 k ∧ k ≤ s.size ∧ OwnB w.heap.size wr v acc ∧ acc ++ dec ((L s).drop k) = dec (L s) ∧ Below w.heap.size w wr) (fun _ i _ => s.size - (intOf i).toNat)
  case atStart => exact ⟨0, [], rfl, Nat.zero_le _, ho0, by simp, hb0⟩
  case round =>
    clear ho0 hb0
    obtain ⟨k, acc, rfl, hks, hown, hc, hbel⟩ := hrel
    have hN := hbel.size
    by_cases hp : k < s.size
    · have hne : (L s).drop k ≠ [] := by rw [drop_cons s k hp]; exact List.cons_ne_nil _ _
      have hbd := dec_bound hc
      have hok := fst_ok _ hne
      rw [dec_step hne] at hc hbd
      have hxz : 0 < (s.extract k s.size).size := by rw [← size_L, L_end, List.length_drop, size_L]; omega
      have hxs : (s.extract k s.size).size ≤ 140737488355328 := Nat.le_trans (size_extract s k s.size) (by omega)
      obtain ⟨t, hT⟩ : ∃ t, B (fst (L (s.extract k s.size))).1 = t := ⟨_, rfl⟩
      obtain ⟨n, hn⟩ : ∃ n, (fst (L (s.extract k s.size))).2 = n := ⟨_, rfl⟩
      have hTL : (fst ((L s).drop k)).1 = L t := by rw [← hT, L_end, L_B]
      have hnn : (fst ((L s).drop k)).2 = n := by rw [← hn, L_end]
      rw [hTL, hnn, List.drop_drop] at hc
      rw [hTL, hnn] at hok
      rw [hTL, List.length_append, size_L, size_L] at hbd
      rw [List.length_drop, size_L, size_L] at hok
      obtain ⟨hn1, hn2, hn3⟩ := hok
      have hbt : acc.length + t.size ≤ 140737488355328 := by omega
      have HC := Lib.hid hc; have HT := Lib.hid hT; have HN := Lib.hid hn; have HX := Lib.hid hxz
      have hnc : (n : Int) ≤ 140737488355328 := by omega
      clear hc hT hn hTL hnn hbd hn3 hne hxz
      go_wp2_with fail
      refine (first_any _ t n wr (ht.below hbel) HX.out hxs HT.out HN.out).mono ?_
      rintro e w3 ⟨rfl, hb3⟩
      have hbel3 : Below w.heap.size w w3 := hbel.trans (hb3.mono hN)
      have hown3 : OwnB w.heap.size w3 _ acc := OwnB.keep hown hb3
      have hN3 := hbel3.size
      clear hown
      go_wp2_with (at_builtin; refine app_str w3 rfl (.tmp 21) (.tmp 22) rfl w.heap.size _ acc t rfl hown3 rfl hbt hN3 ?_; intro v4 w4 hown4 hk4)
      go_roundw
      case rel => exact ⟨k + n, acc ++ L t, by go_num, by omega, hown4, by rw [List.append_assoc]; exact HC.out, hk4 _ hbel3⟩
      case measure => simp [intOf]; omega
    · have hcv := hown.string
      rw [drop_nil s k hp, dec_nil, List.append_nil] at hc
      subst hc
      go_wp2
      go_ret
      exact ⟨rfl, hbel⟩

end Go.Proofs.YtoijeljjehjfjaaDoor.Re
