/-
  Walks of stage 7: joins, add of the builder.
  Walks of stage 7: firsts: of attributes with one name the first one, the names seen kept in a map.
  Walks of stage 7: passedOver, endWalls; text, end of the builder.
  Walks of stage 7: end of the builder.
  Walks of stage 7: start of the builder.
  Stage 7, in plain words: joined rows have no more attributes each, and the same text; nothing of the program.
  Walks of stage 7: take of the builder; Tree, In, Parse.
  Walks of stage 1: chars.Count, chars.startsReplaced, chars.Sample: each returns what the plain function of CharsSpec says, for every string.
  Walks of stage 1: chars.Decode, chars.Lines, chars.Ready: each returns the string that the plain function of CharsSpec says, where that string and the argument have at most 2^47 bytes.
  Walks of stage 1: chars.Lines, chars.Ready: each returns the string that the plain function of CharsSpec says, where that string and the argument have at most 2^47 bytes.
  Walks of stage 7: In, Parse.
-/
import Derived.Test.YtgjlfcamgkeibaaGreatDoorCk08
import Derived.Test.YtgjlfcamgkeibaaGreatDoorCk05
import Derived.Test.YtgjlfcamgkeibaaGreatDoorCk01
import Derived.Test.YtgjlfcamgkeibaaGreatDoorCk03
import Derived.Test.YtgjlfcamgkeibaaGreatDoorRows
import Derived.WalkKit
import Derived.WalkSpells
import Derived.Lib.OthersKept
import Derived.Lib.Hide
import Derived.Lib.Strings
import Derived.OpenShut
import Derived.WalkLawsBesides
import Derived.Lib.AppendStr
import Derived.WalkSmall
import Derived.Laws.IdiomStrings
import Derived.Test.YtgjlfcamgkeibaaGreatDoorCk06
namespace Go.Proofs.YtgjlfcamgkeibaaGreatDoor.Bu
set_option maxRecDepth 100000
set_option linter.unusedVariables false
set_option linter.unusedSimpArgs false
open Go.RowKit Ba Fm Fo Nm Bm
open Ro (At Ro Cw ros Fr Ow Att Ap Rr Sh acells len_acells cells len_cells rowV rowO info_row info_attr below_new acells_one flat_at flat_len row_cells_new cells_one range2 range5 len_ros ros_append)
theorem meets_nil (y : Ro) : meets [] y = false := by
  unfold meets
  rw [show ending [] = none from rfl, decide_eq_false (p := none = some (true, y.depth)) (by simp), Bool.and_false]
theorem meets_other (l : List Ro) {y : Ro} (h : ¬ y.kind = 1) : meets l y = false := by
  unfold meets
  rw [decide_eq_false h, Bool.false_and]
theorem meets_text {l : List Ro} {x y : Ro} (h : y.kind = 1) (he : ending l = some (decide (x.kind = 1), x.depth)) : meets l y = ((x.kind == 1) && (x.depth == y.depth)) := by
  unfold meets
  rw [decide_eq_true h, Bool.true_and, he]
  by_cases h1 : x.kind = 1
  · by_cases h2 : x.depth = y.depth
    · rw [decide_eq_true (by rw [decide_eq_true h1, h2]), beq_iff_eq.2 h1, beq_iff_eq.2 h2]; rfl
    · rw [decide_eq_false (fun e => by injection e with e; injection e with _ e; exact h2 e), beq_eq_false_iff_ne.2 h2, Bool.and_false]
  · rw [decide_eq_false (fun e => by injection e with e; injection e with e _; exact h1 (of_decide_eq_true e)), beq_eq_false_iff_ne.2 h1, Bool.false_and]

set_option maxHeartbeats 2000000 in
theorem joins_any (N b : Nat) (vo vr : Value) (n : Int) (big : Bool) (l : List Cw) (y : Cw) (w : World) (h : Bc w b vo vr n big) (hr : Or N w vr l) (hl : l.length ≤ 1000000) :
    Calls Tryz.prog 204 #[bp b, rowV y] w fun e w' => e = .returned (.bool (meets (ros l) y.ro)) ∧ Below w.heap.size w w' := by
  have c1 := h.c1; have hz := h.lt
  by_cases h0 : l.length = 0
  · obtain rfl : l = [] := List.eq_nil_of_length_eq_zero h0
    rw [show ros [] = [] from rfl, meets_nil]
    obtain ⟨A, c, rfl, _⟩ := hr.form
    clear h hr
    go_enter Tryz.func204, Tryz.ntmps204
    go_wp2
    go_ret
    exact ⟨rfl, below_new w _⟩
  obtain ⟨k, hk⟩ : ∃ k, l.length = k + 1 := ⟨l.length - 1, by omega⟩
  obtain ⟨b2, off, c, x, rfl, hc, hb2, hx, he⟩ := last_row hr (by omega)
  have g0 : (((k + 1 : Nat) : Int) == 0) = false := by rw [beq_eq_false_iff_ne]; omega
  rw [hk] at c1 hx hc
  by_cases hy : y.ro.kind = 1
  · rw [meets_text hy he]
    have g1 : (y.ro.kind != 1) = false := by rw [hy]; rfl
    rw [Nat.add_sub_cancel] at hx
    obtain ⟨x0, x1, x2, x3, x4⟩ := range5 hx
    have hkl : k ≤ 1000000 := by omega
    clear h hr he hx hk hy hl h0
    have i1 : (0 : Int) ≤ (k : Int) := by omega
    have i2 : (k : Int) < (k : Int) + 1 := by omega
    have i0 : IntKind.i64.wrap (k : Int) = (k : Nat) := IntWalk.i64_in _ (by omega)
    go_enter Tryz.func204, Tryz.ntmps204
    go_wp2
    go_region
    all_goals go_wp2
    all_goals go_ret
    all_goals refine ⟨?_, below_dN ((below_new w _).alloc (by simp) _) 1⟩
    all_goals first
      | exact ret_bool (by rw [show (x.ro.kind == 1) = true from beq_iff_eq.2 (by assumption)]; rfl)
      | exact ret_bool (by rw [show (x.ro.kind == 1) = false from beq_eq_false_iff_ne.2 (by assumption)]; rfl)
  · rw [meets_other _ hy]
    have g1 : (y.ro.kind != 1) = true := by rw [bne_iff_ne]; exact hy
    clear h hr he hx hk hy
    go_enter Tryz.func204, Tryz.ntmps204
    go_wp2
    go_ret
    exact ⟨rfl, below_new w _⟩

def more (l : List Ro) (n : Int) (y : Ro) : Int := if meets l y = true then n else n + 1
theorem more_yes {l : List Ro} {n : Int} {y : Ro} (h : meets l y = true) : more l n y = n := if_pos h
theorem more_no {l : List Ro} {n : Int} {y : Ro} (h : meets l y = false) : more l n y = n + 1 := if_neg (by rw [h]; simp)

theorem joins1 (N b : Nat) (vo vr : Value) (n : Int) (big : Bool) (l : List Cw) (y : Cw) (w : World) (h : Bc w b vo vr n big) (hr : Or N w vr l) (hl : l.length ≤ 1000000) (q : Bool) (hq : meets (ros l) y.ro = q) :
    Calls Tryz.prog 204 #[bp b, rowV y] w fun e w' => e = .returned (.bool q) ∧ Below w.heap.size w w' := by
  subst hq
  exact joins_any N b vo vr n big l y w h hr hl

theorem Bg.put {N : Nat} {w w1 : World} {b : Nat} {vo vr v' : Value} {o : List ByteArray} {l : List Cw} {y : Cw} {n : Int} {big : Bool} (hc : Bc w b vo vr n big) (ho : Sown N w vo o) (hr : Or N w vr l) (hN : N ≤ b) (hy : Fr N w y)
    (h1 : w1.ownsRow N 47 5 v' (l.length + 1) (l.flatMap cells ++ cells y)) (hg : w.grownBy w1 vr.ownBlock) :
    Bg N (w1.setCell ⟨b, 1, none⟩ v') b o (l ++ [y]) n big ∧ ∀ w0, Below N w0 w → Below N w0 (w1.setCell ⟨b, 1, none⟩ v') := by
  have hrc : Bc w1 b vo vr n big := (hg.block b hc.lt (fun e => own_ne hr.1 hc (by decide) e.symm)).trans hc
  have hs : Sown N w1 vo o := World.ownsRow.kept ho hg (own_apart ho hr.1 (by decide))
  have hfr : ∀ x, Fr N w x → Fr N w1 x := fun x hx => ⟨World.ownsRow.kept hx.1 hg (own_apart hx.1 hr.1 (by decide)), hx.2⟩
  have hor : Or N w1 v' (l ++ [y]) := ⟨by rw [List.length_append, List.flatMap_append]; simpa using h1, fun x hx => by
    rcases List.mem_append.1 hx with hx | hx
    · exact hfr x (hr.2 x hx)
    · rw [List.mem_singleton.1 hx]; exact hfr y hy⟩
  have hgs := g_set w1 b 1 v'
  refine ⟨⟨vo, v', hrc.set1 v', Sown.keptB hs hgs hrc (by decide), hor.kept hgs hrc (by decide) (by decide), hN⟩, fun w0 h0 => ?_⟩
  have hlt := hc.lt
  exact (h0.grown hg (by omega) fun k hk => (World.ownsRow.lt hr.1 k hk).1).setCell hN _

theorem Bc.over {N : Nat} {w w' : World} {b : Nat} {vo vr : Value} {n : Int} {big : Bool} {l : List Cw} (h : Bc w b vo vr n big) (hr : Or N w vr l) (hg : w.grownBy w' vr.ownBlock) : Bc w' b vo vr n big := (hg.block b h.lt (fun e => own_ne hr.1 h (by decide) e.symm)).trans h
theorem step_app_row {ops : Array Oper} {o : Oper} {a : Act} {K : Act → World → Prop} {Q : Exit → Act → World → Prop} {E : Prop} (W : World) (hgd : o.guard = none) (s x : Operand)
    (ho : o.op = .call { callee := .builtin .append, args := #[s, x], argTypes := #[22, 22] })
    (W0 : World) (N : Nat) (v : Value) (l : List Cw) (z : Cw) (hr : Or N W0 v l) (hg : W0.grownBy W none) (hN : N ≤ W0.heap.size) (hl : l.length ≤ 2000000)
    (hs : a.eval s = v) (g0 : Nat) (hx : a.eval x = .slice (some ⟨g0, 0, none⟩) 1 1) (hz : W.heap[g0]? = some (rowO z))
    (h : ∀ g cap w', w'.ownsRow N 47 5 (.slice (some ⟨g, 0, none⟩) (l.length + 1) cap) (l.length + 1) (l.flatMap cells ++ cells z) → W0.grownBy w' v.ownBlock → K (a.put o.dst (.slice (some ⟨g, 0, none⟩) (l.length + 1) cap)) w') :
    if Region.wanted o (yielded ops a.tmps) = true then Oper.wp Tryz.prog o a W K Q else E := by
  obtain ⟨i0, hi, hz0, hz1, hz2⟩ := info_parts info_row
  have hown : W.ownsRow N 47 5 v l.length (l.flatMap cells) := World.ownsRow.kept hr.1 hg (by cases hv : v.ownBlock with
    | none => exact .inl rfl
    | some k => right; simp)
  refine step_append_lies W hgd s x 22 ho N 47 i0 _ 5 72 Tryz.underlying22 hi hz0 hz1 hz2 rfl (by decide) v l.length (l.flatMap cells) hs hown ⟨g0, 0, none⟩ 1 1 (cells z) hx rfl (fun j u hu => World.news_of_block hz j u hu) (cells_one z) (by decide) (by unfold maxLen; omega) (by omega) (Nat.le_trans hN hg.size) _ rfl ?_
  intro g cap w1 h1 h2 _ _
  refine h g cap w1 h1 ?_
  have hlt : ∀ k, v.ownBlock = some k → N ≤ k := fun k hk => (World.ownsRow.lt hr.1 k hk).1
  exact ⟨h2.os.trans hg.os, h2.tape.trans hg.tape, h2.output.trans hg.output, Nat.le_trans hg.size h2.size, fun i hi hne => (h2.block i (Nat.lt_of_lt_of_le hi hg.size) hne).trans (hg.block i hi (by simp))⟩

set_option maxHeartbeats 4000000 in
theorem add_any (N b : Nat) (o : List ByteArray) (l : List Cw) (n : Int) (big : Bool) (y : Cw) (w : World) (h : Bg N w b o l n big) (hy : Fr N w y) (hl : l.length ≤ 1000000) (hol : o.length ≤ 1000000) (hn0 : 0 ≤ n) (hn : n ≤ 1000000) :
    Calls Tryz.prog 169 #[bp b, rowV y] w fun e w' => e = .returned (.tuple #[]) ∧ ∃ z : Cw, z.ro = ⟨(o.length : Nat), y.ro.kind, y.ro.name, y.ro.data, y.ro.attrs⟩ ∧
      Bg N w' b o (l ++ [z]) (more (ros l) n z.ro) (decide (4096 < more (ros l) n z.ro) || decide (60 ≤ (o.length : Int))) ∧ Below N w w' ∧ Kt w w' := by
  obtain ⟨vo, vr, hc, ho, hr, hN⟩ := h
  obtain ⟨Ao, co, rfl, _⟩ := ho.form
  obtain ⟨z, hzd⟩ : ∃ z : Cw, z = ⟨⟨(o.length : Nat), y.ro.kind, y.ro.name, y.ro.data, y.ro.attrs⟩, y.A, y.c⟩ := ⟨_, rfl⟩
  have hyz : Fr N w z := by rw [hzd]; exact hy
  have hzro : z.ro = ⟨(o.length : Nat), y.ro.kind, y.ro.name, y.ro.data, y.ro.attrs⟩ := by rw [hzd]
  have hrow : (Value.agg #[.int .i64 (o.length : Nat), .int .i64 y.ro.kind, .string y.ro.name, .string y.ro.data, .slice y.A y.ro.attrs.length y.c]) = rowV z := by rw [hzd]
  have hobj : (Obj.cells #[.int .i64 (o.length : Nat), .int .i64 y.ro.kind, .string y.ro.name, .string y.ro.data, .slice y.A y.ro.attrs.length y.c] 47) = rowO z := by rw [hzd]
  have hdep : z.ro.depth = (o.length : Nat) := by rw [hzd]
  have c0 := hc.c0; have f0 := hc.f 0
  have hz := hc.lt
  have HC := Lib.hid hc; have HO := Lib.hid ho; have HR := Lib.hid hr; have HY := Lib.hid hyz; have HROW := Lib.hid hrow; have HOBJ := Lib.hid hobj; have HZ := Lib.hid hzro; have HD := Lib.hid hdep
  clear hc ho hr hy hyz hrow hobj hzro hzd hdep
  cases hq : meets (ros l) z.ro with
  | false =>
    have HQ := Lib.hid hq
    clear hq
    go_enter Tryz.func169, Tryz.ntmps169
    go_wp2_with fail
    rw [HROW.out, HOBJ.out]
    have hb1 := below_new w (rowO z)
    refine (joins1 N b _ vr n big l z (w.alloc (rowO z)) (HC.out.below hb1) (HR.out.below hb1) hl false HQ.out).mono ?_
    rintro e w3 ⟨rfl, hb3⟩
    have B3 := bt hb1 hb3
    have hc3 := HC.out.below B3
    have d0 : w3.cell? ⟨w.heap.size, 0, none⟩ = some (.int .i64 z.ro.depth) := Ro.box_kept (x := z) hb3 0
    have d1 : w3.cell? ⟨w.heap.size, 1, none⟩ = some (.int .i64 z.ro.kind) := Ro.box_kept (x := z) hb3 1
    have d2 : w3.cell? ⟨w.heap.size, 2, none⟩ = some (.string z.ro.name) := Ro.box_kept (x := z) hb3 2
    have d3 : w3.cell? ⟨w.heap.size, 3, none⟩ = some (.string z.ro.data) := Ro.box_kept (x := z) hb3 3
    have d4 : w3.cell? ⟨w.heap.size, 4, none⟩ = some (.slice z.A z.ro.attrs.length z.c) := Ro.box_kept (x := z) hb3 4
    have c2 := hc3.c2; have f2 := hc3.f 2; have c3 := hc3.c3; have f3 := hc3.f 3
    have HC3 := Lib.hid hc3; have HB3 := Lib.hid B3
    have HSZ : w.heap.size < w3.heap.size := Nat.lt_of_lt_of_le (by simp) hb3.size
    clear c0 f0 hc3 B3 hb3 hb1
    cases hg : decide (4096 < n + 1) with
    | true =>
      go_upto_region 5 with (fail)
      obtain ⟨W4, hW4⟩ : ∃ W4, (w3.setCell ⟨b, 2, none⟩ (.int .i64 (n + 1))).setCell ⟨b, 3, none⟩ (.bool true) = W4 := ⟨_, rfl⟩
      rw [hW4]
      have hc4 : Bc W4 b _ vr (n + 1) true := hW4 ▸ (HC3.out.set2 (n + 1)).set3 true
      have hgs : w3.grownBy W4 (some b) := hW4 ▸ (g_set w3 b 2 (.int .i64 (n + 1))).trans (g_set _ b 3 (.bool true))
      have ho4 : Sown N W4 _ o := Sown.keptB (HO.out.below HB3.out (Nat.le_refl _)) hgs HC3.out (by decide)
      have hr4 : Or N W4 vr l := (HR.out.below HB3.out).kept hgs HC3.out (by decide) (by decide)
      have hy4 : Fr N W4 z := ⟨World.ownsRow.kept (HY.out.below HB3.out).1 hgs (.inr (own_ne (HY.out.below HB3.out).1 HC3.out (by decide))), HY.out.2⟩
      have hB4 : Below N w W4 := (HB3.out.mono (by omega)).grown hgs (Nat.le_trans (by omega) HB3.out.size) (fun k hk => by injection hk with hk; omega)
      have hkt : Kt w W4 := (Kt.below HB3.out).trans (Kt.grown hgs HC3.out (by decide))
      have HKT := Lib.hid hkt
      have hZ4 : N ≤ W4.heap.size := by have := hc4.lt; omega
      have hne : w.heap.size ≠ b := by omega
      have hk4 : ∀ j, W4.cell? ⟨w.heap.size, j, none⟩ = w3.cell? ⟨w.heap.size, j, none⟩ := fun j => World.cell?_of_block (a := ⟨w.heap.size, j, none⟩) (hgs.block _ HSZ (by simpa using hne))
      have e0 : W4.cell? ⟨w.heap.size, 0, none⟩ = some (.int .i64 z.ro.depth) := (hk4 0).trans d0; have e1 : W4.cell? ⟨w.heap.size, 1, none⟩ = some (.int .i64 z.ro.kind) := (hk4 1).trans d1; have e2 : W4.cell? ⟨w.heap.size, 2, none⟩ = some (.string z.ro.name) := (hk4 2).trans d2; have e3 : W4.cell? ⟨w.heap.size, 3, none⟩ = some (.string z.ro.data) := (hk4 3).trans d3; have e4 : W4.cell? ⟨w.heap.size, 4, none⟩ = some (.slice z.A z.ro.attrs.length z.c) := (hk4 4).trans d4
      have c1 := hc4.c1; have f1 := hc4.f 1; have hz4 := hc4.lt
      have HC4 := Lib.hid hc4; have HO4 := Lib.hid ho4; have HR4 := Lib.hid hr4; have HY4 := Lib.hid hy4; have HB4 := Lib.hid hB4
      clear c2 f2 c3 f3 d0 d1 d2 d3 d4 hk4 hgs hc4 ho4 hr4 hy4 hB4 hW4 hkt
      go_region_law (refine step_app_row _ (by rfl) (.tmp 38) (.tmp 40) (by rfl) W4 N vr l z HR4.out (by first | exact (World.grownBy_alloc W4 _ _).trans (g_dN _ 1 _) | exact (g_dN W4 1 _).trans (World.grownBy_alloc _ _ _)) hZ4 (by omega) (by simp [Act.eval, Act.put]) _ (by simp [Act.eval, Act.put]) (World.alloc_heap_new _ _) ?_; intro g cap w5 hown5 hg5; have hc5 := Bc.over HC4.out HR4.out hg5; have c5 := hc5.c1; have f5 := hc5.f 1; clear hc5)
      all_goals go_wp2
      all_goals go_end0
      all_goals
        obtain ⟨r1, r2⟩ := Bg.put HC4.out HO4.out HR4.out hN HY4.out hown5 hg5
        refine ⟨rfl, z, HZ.out, ?_, r2 _ HB4.out, (HKT.out.trans (Kt.own hg5 HR4.out.1 (by decide))).trans (Kt.grown (g_set w5 b 1 _) (Bc.over HC4.out HR4.out hg5) (by decide))⟩
        rw [more_no HQ.out]
        rw [hg, Bool.true_or]
        exact r1
    | false =>
    cases h6 : decide (60 ≤ z.ro.depth) with
    | true =>
      go_upto_region 5 with (fail)
      obtain ⟨W4, hW4⟩ : ∃ W4, (w3.setCell ⟨b, 2, none⟩ (.int .i64 (n + 1))).setCell ⟨b, 3, none⟩ (.bool true) = W4 := ⟨_, rfl⟩
      rw [hW4]
      have hc4 : Bc W4 b _ vr (n + 1) true := hW4 ▸ (HC3.out.set2 (n + 1)).set3 true
      have hgs : w3.grownBy W4 (some b) := hW4 ▸ (g_set w3 b 2 (.int .i64 (n + 1))).trans (g_set _ b 3 (.bool true))
      have ho4 : Sown N W4 _ o := Sown.keptB (HO.out.below HB3.out (Nat.le_refl _)) hgs HC3.out (by decide)
      have hr4 : Or N W4 vr l := (HR.out.below HB3.out).kept hgs HC3.out (by decide) (by decide)
      have hy4 : Fr N W4 z := ⟨World.ownsRow.kept (HY.out.below HB3.out).1 hgs (.inr (own_ne (HY.out.below HB3.out).1 HC3.out (by decide))), HY.out.2⟩
      have hB4 : Below N w W4 := (HB3.out.mono (by omega)).grown hgs (Nat.le_trans (by omega) HB3.out.size) (fun k hk => by injection hk with hk; omega)
      have hkt : Kt w W4 := (Kt.below HB3.out).trans (Kt.grown hgs HC3.out (by decide))
      have HKT := Lib.hid hkt
      have hZ4 : N ≤ W4.heap.size := by have := hc4.lt; omega
      have hne : w.heap.size ≠ b := by omega
      have hk4 : ∀ j, W4.cell? ⟨w.heap.size, j, none⟩ = w3.cell? ⟨w.heap.size, j, none⟩ := fun j => World.cell?_of_block (a := ⟨w.heap.size, j, none⟩) (hgs.block _ HSZ (by simpa using hne))
      have e0 : W4.cell? ⟨w.heap.size, 0, none⟩ = some (.int .i64 z.ro.depth) := (hk4 0).trans d0; have e1 : W4.cell? ⟨w.heap.size, 1, none⟩ = some (.int .i64 z.ro.kind) := (hk4 1).trans d1; have e2 : W4.cell? ⟨w.heap.size, 2, none⟩ = some (.string z.ro.name) := (hk4 2).trans d2; have e3 : W4.cell? ⟨w.heap.size, 3, none⟩ = some (.string z.ro.data) := (hk4 3).trans d3; have e4 : W4.cell? ⟨w.heap.size, 4, none⟩ = some (.slice z.A z.ro.attrs.length z.c) := (hk4 4).trans d4
      have c1 := hc4.c1; have f1 := hc4.f 1; have hz4 := hc4.lt
      have HC4 := Lib.hid hc4; have HO4 := Lib.hid ho4; have HR4 := Lib.hid hr4; have HY4 := Lib.hid hy4; have HB4 := Lib.hid hB4
      clear c2 f2 c3 f3 d0 d1 d2 d3 d4 hk4 hgs hc4 ho4 hr4 hy4 hB4 hW4 hkt
      go_region_law (refine step_app_row _ (by rfl) (.tmp 38) (.tmp 40) (by rfl) W4 N vr l z HR4.out (by first | exact (World.grownBy_alloc W4 _ _).trans (g_dN _ 1 _) | exact (g_dN W4 1 _).trans (World.grownBy_alloc _ _ _)) hZ4 (by omega) (by simp [Act.eval, Act.put]) _ (by simp [Act.eval, Act.put]) (World.alloc_heap_new _ _) ?_; intro g cap w5 hown5 hg5; have hc5 := Bc.over HC4.out HR4.out hg5; have c5 := hc5.c1; have f5 := hc5.f 1; clear hc5)
      all_goals go_wp2
      all_goals go_end0
      all_goals
        obtain ⟨r1, r2⟩ := Bg.put HC4.out HO4.out HR4.out hN HY4.out hown5 hg5
        refine ⟨rfl, z, HZ.out, ?_, r2 _ HB4.out, (HKT.out.trans (Kt.own hg5 HR4.out.1 (by decide))).trans (Kt.grown (g_set w5 b 1 _) (Bc.over HC4.out HR4.out hg5) (by decide))⟩
        rw [more_no HQ.out]
        rw [hg, Bool.false_or, ← HD.out, h6]
        exact r1
    | false =>
      go_upto_region 5 with (fail)
      obtain ⟨W4, hW4⟩ : ∃ W4, (w3.setCell ⟨b, 2, none⟩ (.int .i64 (n + 1))).setCell ⟨b, 3, none⟩ (.bool false) = W4 := ⟨_, rfl⟩
      rw [hW4]
      have hc4 : Bc W4 b _ vr (n + 1) false := hW4 ▸ (HC3.out.set2 (n + 1)).set3 false
      have hgs : w3.grownBy W4 (some b) := hW4 ▸ (g_set w3 b 2 (.int .i64 (n + 1))).trans (g_set _ b 3 (.bool false))
      have ho4 : Sown N W4 _ o := Sown.keptB (HO.out.below HB3.out (Nat.le_refl _)) hgs HC3.out (by decide)
      have hr4 : Or N W4 vr l := (HR.out.below HB3.out).kept hgs HC3.out (by decide) (by decide)
      have hy4 : Fr N W4 z := ⟨World.ownsRow.kept (HY.out.below HB3.out).1 hgs (.inr (own_ne (HY.out.below HB3.out).1 HC3.out (by decide))), HY.out.2⟩
      have hB4 : Below N w W4 := (HB3.out.mono (by omega)).grown hgs (Nat.le_trans (by omega) HB3.out.size) (fun k hk => by injection hk with hk; omega)
      have hkt : Kt w W4 := (Kt.below HB3.out).trans (Kt.grown hgs HC3.out (by decide))
      have HKT := Lib.hid hkt
      have hZ4 : N ≤ W4.heap.size := by have := hc4.lt; omega
      have hne : w.heap.size ≠ b := by omega
      have hk4 : ∀ j, W4.cell? ⟨w.heap.size, j, none⟩ = w3.cell? ⟨w.heap.size, j, none⟩ := fun j => World.cell?_of_block (a := ⟨w.heap.size, j, none⟩) (hgs.block _ HSZ (by simpa using hne))
      have e0 : W4.cell? ⟨w.heap.size, 0, none⟩ = some (.int .i64 z.ro.depth) := (hk4 0).trans d0; have e1 : W4.cell? ⟨w.heap.size, 1, none⟩ = some (.int .i64 z.ro.kind) := (hk4 1).trans d1; have e2 : W4.cell? ⟨w.heap.size, 2, none⟩ = some (.string z.ro.name) := (hk4 2).trans d2; have e3 : W4.cell? ⟨w.heap.size, 3, none⟩ = some (.string z.ro.data) := (hk4 3).trans d3; have e4 : W4.cell? ⟨w.heap.size, 4, none⟩ = some (.slice z.A z.ro.attrs.length z.c) := (hk4 4).trans d4
      have c1 := hc4.c1; have f1 := hc4.f 1; have hz4 := hc4.lt
      have HC4 := Lib.hid hc4; have HO4 := Lib.hid ho4; have HR4 := Lib.hid hr4; have HY4 := Lib.hid hy4; have HB4 := Lib.hid hB4
      clear c2 f2 c3 f3 d0 d1 d2 d3 d4 hk4 hgs hc4 ho4 hr4 hy4 hB4 hW4 hkt
      go_region_law (refine step_app_row _ (by rfl) (.tmp 38) (.tmp 40) (by rfl) W4 N vr l z HR4.out (by first | exact (World.grownBy_alloc W4 _ _).trans (g_dN _ 1 _) | exact (g_dN W4 1 _).trans (World.grownBy_alloc _ _ _)) hZ4 (by omega) (by simp [Act.eval, Act.put]) _ (by simp [Act.eval, Act.put]) (World.alloc_heap_new _ _) ?_; intro g cap w5 hown5 hg5; have hc5 := Bc.over HC4.out HR4.out hg5; have c5 := hc5.c1; have f5 := hc5.f 1; clear hc5)
      all_goals go_wp2
      all_goals go_end0
      all_goals
        obtain ⟨r1, r2⟩ := Bg.put HC4.out HO4.out HR4.out hN HY4.out hown5 hg5
        refine ⟨rfl, z, HZ.out, ?_, r2 _ HB4.out, (HKT.out.trans (Kt.own hg5 HR4.out.1 (by decide))).trans (Kt.grown (g_set w5 b 1 _) (Bc.over HC4.out HR4.out hg5) (by decide))⟩
        rw [more_no HQ.out]
        rw [hg, Bool.false_or, ← HD.out, h6]
        exact r1
  | true =>
    have HQ := Lib.hid hq
    clear hq
    go_enter Tryz.func169, Tryz.ntmps169
    go_wp2_with fail
    rw [HROW.out, HOBJ.out]
    have hb1 := below_new w (rowO z)
    refine (joins1 N b _ vr n big l z (w.alloc (rowO z)) (HC.out.below hb1) (HR.out.below hb1) hl true HQ.out).mono ?_
    rintro e w3 ⟨rfl, hb3⟩
    have B3 := bt hb1 hb3
    have hc3 := HC.out.below B3
    have d0 : w3.cell? ⟨w.heap.size, 0, none⟩ = some (.int .i64 z.ro.depth) := Ro.box_kept (x := z) hb3 0
    have d1 : w3.cell? ⟨w.heap.size, 1, none⟩ = some (.int .i64 z.ro.kind) := Ro.box_kept (x := z) hb3 1
    have d2 : w3.cell? ⟨w.heap.size, 2, none⟩ = some (.string z.ro.name) := Ro.box_kept (x := z) hb3 2
    have d3 : w3.cell? ⟨w.heap.size, 3, none⟩ = some (.string z.ro.data) := Ro.box_kept (x := z) hb3 3
    have d4 : w3.cell? ⟨w.heap.size, 4, none⟩ = some (.slice z.A z.ro.attrs.length z.c) := Ro.box_kept (x := z) hb3 4
    have c2 := hc3.c2; have c3 := hc3.c3; have f3 := hc3.f 3
    have HC3 := Lib.hid hc3; have HB3 := Lib.hid B3
    have HSZ : w.heap.size < w3.heap.size := Nat.lt_of_lt_of_le (by simp) hb3.size
    clear c0 f0 hc3 B3 hb3 hb1
    cases hg : decide (4096 < n) with
    | true =>
      go_upto_region 5 with (fail)
      obtain ⟨W4, hW4⟩ : ∃ W4, w3.setCell ⟨b, 3, none⟩ (.bool true) = W4 := ⟨_, rfl⟩
      rw [hW4]
      have hc4 : Bc W4 b _ vr n true := hW4 ▸ HC3.out.set3 true
      have hgs : w3.grownBy W4 (some b) := hW4 ▸ g_set w3 b 3 (.bool true)
      have ho4 : Sown N W4 _ o := Sown.keptB (HO.out.below HB3.out (Nat.le_refl _)) hgs HC3.out (by decide)
      have hr4 : Or N W4 vr l := (HR.out.below HB3.out).kept hgs HC3.out (by decide) (by decide)
      have hy4 : Fr N W4 z := ⟨World.ownsRow.kept (HY.out.below HB3.out).1 hgs (.inr (own_ne (HY.out.below HB3.out).1 HC3.out (by decide))), HY.out.2⟩
      have hB4 : Below N w W4 := (HB3.out.mono (by omega)).grown hgs (Nat.le_trans (by omega) HB3.out.size) (fun k hk => by injection hk with hk; omega)
      have hkt : Kt w W4 := (Kt.below HB3.out).trans (Kt.grown hgs HC3.out (by decide))
      have HKT := Lib.hid hkt
      have hZ4 : N ≤ W4.heap.size := by have := hc4.lt; omega
      have hne : w.heap.size ≠ b := by omega
      have hk4 : ∀ j, W4.cell? ⟨w.heap.size, j, none⟩ = w3.cell? ⟨w.heap.size, j, none⟩ := fun j => World.cell?_of_block (a := ⟨w.heap.size, j, none⟩) (hgs.block _ HSZ (by simpa using hne))
      have e0 : W4.cell? ⟨w.heap.size, 0, none⟩ = some (.int .i64 z.ro.depth) := (hk4 0).trans d0; have e1 : W4.cell? ⟨w.heap.size, 1, none⟩ = some (.int .i64 z.ro.kind) := (hk4 1).trans d1; have e2 : W4.cell? ⟨w.heap.size, 2, none⟩ = some (.string z.ro.name) := (hk4 2).trans d2; have e3 : W4.cell? ⟨w.heap.size, 3, none⟩ = some (.string z.ro.data) := (hk4 3).trans d3; have e4 : W4.cell? ⟨w.heap.size, 4, none⟩ = some (.slice z.A z.ro.attrs.length z.c) := (hk4 4).trans d4
      have c1 := hc4.c1; have f1 := hc4.f 1; have hz4 := hc4.lt
      have HC4 := Lib.hid hc4; have HO4 := Lib.hid ho4; have HR4 := Lib.hid hr4; have HY4 := Lib.hid hy4; have HB4 := Lib.hid hB4
      clear c2 c3 f3 d0 d1 d2 d3 d4 hk4 hgs hc4 ho4 hr4 hy4 hB4 hW4 hkt
      go_region_law (refine step_app_row _ (by rfl) (.tmp 38) (.tmp 40) (by rfl) W4 N vr l z HR4.out (by first | exact (World.grownBy_alloc W4 _ _).trans (g_dN _ 1 _) | exact (g_dN W4 1 _).trans (World.grownBy_alloc _ _ _)) hZ4 (by omega) (by simp [Act.eval, Act.put]) _ (by simp [Act.eval, Act.put]) (World.alloc_heap_new _ _) ?_; intro g cap w5 hown5 hg5; have hc5 := Bc.over HC4.out HR4.out hg5; have c5 := hc5.c1; have f5 := hc5.f 1; clear hc5)
      all_goals go_wp2
      all_goals go_end0
      all_goals
        obtain ⟨r1, r2⟩ := Bg.put HC4.out HO4.out HR4.out hN HY4.out hown5 hg5
        refine ⟨rfl, z, HZ.out, ?_, r2 _ HB4.out, (HKT.out.trans (Kt.own hg5 HR4.out.1 (by decide))).trans (Kt.grown (g_set w5 b 1 _) (Bc.over HC4.out HR4.out hg5) (by decide))⟩
        rw [more_yes HQ.out]
        rw [hg, Bool.true_or]
        exact r1
    | false =>
    cases h6 : decide (60 ≤ z.ro.depth) with
    | true =>
      go_upto_region 5 with (fail)
      obtain ⟨W4, hW4⟩ : ∃ W4, w3.setCell ⟨b, 3, none⟩ (.bool true) = W4 := ⟨_, rfl⟩
      rw [hW4]
      have hc4 : Bc W4 b _ vr n true := hW4 ▸ HC3.out.set3 true
      have hgs : w3.grownBy W4 (some b) := hW4 ▸ g_set w3 b 3 (.bool true)
      have ho4 : Sown N W4 _ o := Sown.keptB (HO.out.below HB3.out (Nat.le_refl _)) hgs HC3.out (by decide)
      have hr4 : Or N W4 vr l := (HR.out.below HB3.out).kept hgs HC3.out (by decide) (by decide)
      have hy4 : Fr N W4 z := ⟨World.ownsRow.kept (HY.out.below HB3.out).1 hgs (.inr (own_ne (HY.out.below HB3.out).1 HC3.out (by decide))), HY.out.2⟩
      have hB4 : Below N w W4 := (HB3.out.mono (by omega)).grown hgs (Nat.le_trans (by omega) HB3.out.size) (fun k hk => by injection hk with hk; omega)
      have hkt : Kt w W4 := (Kt.below HB3.out).trans (Kt.grown hgs HC3.out (by decide))
      have HKT := Lib.hid hkt
      have hZ4 : N ≤ W4.heap.size := by have := hc4.lt; omega
      have hne : w.heap.size ≠ b := by omega
      have hk4 : ∀ j, W4.cell? ⟨w.heap.size, j, none⟩ = w3.cell? ⟨w.heap.size, j, none⟩ := fun j => World.cell?_of_block (a := ⟨w.heap.size, j, none⟩) (hgs.block _ HSZ (by simpa using hne))
      have e0 : W4.cell? ⟨w.heap.size, 0, none⟩ = some (.int .i64 z.ro.depth) := (hk4 0).trans d0; have e1 : W4.cell? ⟨w.heap.size, 1, none⟩ = some (.int .i64 z.ro.kind) := (hk4 1).trans d1; have e2 : W4.cell? ⟨w.heap.size, 2, none⟩ = some (.string z.ro.name) := (hk4 2).trans d2; have e3 : W4.cell? ⟨w.heap.size, 3, none⟩ = some (.string z.ro.data) := (hk4 3).trans d3; have e4 : W4.cell? ⟨w.heap.size, 4, none⟩ = some (.slice z.A z.ro.attrs.length z.c) := (hk4 4).trans d4
      have c1 := hc4.c1; have f1 := hc4.f 1; have hz4 := hc4.lt
      have HC4 := Lib.hid hc4; have HO4 := Lib.hid ho4; have HR4 := Lib.hid hr4; have HY4 := Lib.hid hy4; have HB4 := Lib.hid hB4
      clear c2 c3 f3 d0 d1 d2 d3 d4 hk4 hgs hc4 ho4 hr4 hy4 hB4 hW4 hkt
      go_region_law (refine step_app_row _ (by rfl) (.tmp 38) (.tmp 40) (by rfl) W4 N vr l z HR4.out (by first | exact (World.grownBy_alloc W4 _ _).trans (g_dN _ 1 _) | exact (g_dN W4 1 _).trans (World.grownBy_alloc _ _ _)) hZ4 (by omega) (by simp [Act.eval, Act.put]) _ (by simp [Act.eval, Act.put]) (World.alloc_heap_new _ _) ?_; intro g cap w5 hown5 hg5; have hc5 := Bc.over HC4.out HR4.out hg5; have c5 := hc5.c1; have f5 := hc5.f 1; clear hc5)
      all_goals go_wp2
      all_goals go_end0
      all_goals
        obtain ⟨r1, r2⟩ := Bg.put HC4.out HO4.out HR4.out hN HY4.out hown5 hg5
        refine ⟨rfl, z, HZ.out, ?_, r2 _ HB4.out, (HKT.out.trans (Kt.own hg5 HR4.out.1 (by decide))).trans (Kt.grown (g_set w5 b 1 _) (Bc.over HC4.out HR4.out hg5) (by decide))⟩
        rw [more_yes HQ.out]
        rw [hg, Bool.false_or, ← HD.out, h6]
        exact r1
    | false =>
      go_upto_region 5 with (fail)
      obtain ⟨W4, hW4⟩ : ∃ W4, w3.setCell ⟨b, 3, none⟩ (.bool false) = W4 := ⟨_, rfl⟩
      rw [hW4]
      have hc4 : Bc W4 b _ vr n false := hW4 ▸ HC3.out.set3 false
      have hgs : w3.grownBy W4 (some b) := hW4 ▸ g_set w3 b 3 (.bool false)
      have ho4 : Sown N W4 _ o := Sown.keptB (HO.out.below HB3.out (Nat.le_refl _)) hgs HC3.out (by decide)
      have hr4 : Or N W4 vr l := (HR.out.below HB3.out).kept hgs HC3.out (by decide) (by decide)
      have hy4 : Fr N W4 z := ⟨World.ownsRow.kept (HY.out.below HB3.out).1 hgs (.inr (own_ne (HY.out.below HB3.out).1 HC3.out (by decide))), HY.out.2⟩
      have hB4 : Below N w W4 := (HB3.out.mono (by omega)).grown hgs (Nat.le_trans (by omega) HB3.out.size) (fun k hk => by injection hk with hk; omega)
      have hkt : Kt w W4 := (Kt.below HB3.out).trans (Kt.grown hgs HC3.out (by decide))
      have HKT := Lib.hid hkt
      have hZ4 : N ≤ W4.heap.size := by have := hc4.lt; omega
      have hne : w.heap.size ≠ b := by omega
      have hk4 : ∀ j, W4.cell? ⟨w.heap.size, j, none⟩ = w3.cell? ⟨w.heap.size, j, none⟩ := fun j => World.cell?_of_block (a := ⟨w.heap.size, j, none⟩) (hgs.block _ HSZ (by simpa using hne))
      have e0 : W4.cell? ⟨w.heap.size, 0, none⟩ = some (.int .i64 z.ro.depth) := (hk4 0).trans d0; have e1 : W4.cell? ⟨w.heap.size, 1, none⟩ = some (.int .i64 z.ro.kind) := (hk4 1).trans d1; have e2 : W4.cell? ⟨w.heap.size, 2, none⟩ = some (.string z.ro.name) := (hk4 2).trans d2; have e3 : W4.cell? ⟨w.heap.size, 3, none⟩ = some (.string z.ro.data) := (hk4 3).trans d3; have e4 : W4.cell? ⟨w.heap.size, 4, none⟩ = some (.slice z.A z.ro.attrs.length z.c) := (hk4 4).trans d4
      have c1 := hc4.c1; have f1 := hc4.f 1; have hz4 := hc4.lt
      have HC4 := Lib.hid hc4; have HO4 := Lib.hid ho4; have HR4 := Lib.hid hr4; have HY4 := Lib.hid hy4; have HB4 := Lib.hid hB4
      clear c2 c3 f3 d0 d1 d2 d3 d4 hk4 hgs hc4 ho4 hr4 hy4 hB4 hW4 hkt
      go_region_law (refine step_app_row _ (by rfl) (.tmp 38) (.tmp 40) (by rfl) W4 N vr l z HR4.out (by first | exact (World.grownBy_alloc W4 _ _).trans (g_dN _ 1 _) | exact (g_dN W4 1 _).trans (World.grownBy_alloc _ _ _)) hZ4 (by omega) (by simp [Act.eval, Act.put]) _ (by simp [Act.eval, Act.put]) (World.alloc_heap_new _ _) ?_; intro g cap w5 hown5 hg5; have hc5 := Bc.over HC4.out HR4.out hg5; have c5 := hc5.c1; have f5 := hc5.f 1; clear hc5)
      all_goals go_wp2
      all_goals go_end0
      all_goals
        obtain ⟨r1, r2⟩ := Bg.put HC4.out HO4.out HR4.out hN HY4.out hown5 hg5
        refine ⟨rfl, z, HZ.out, ?_, r2 _ HB4.out, (HKT.out.trans (Kt.own hg5 HR4.out.1 (by decide))).trans (Kt.grown (g_set w5 b 1 _) (Bc.over HC4.out HR4.out hg5) (by decide))⟩
        rw [more_yes HQ.out]
        rw [hg, Bool.false_or, ← HD.out, h6]
        exact r1

end Go.Proofs.YtgjlfcamgkeibaaGreatDoor.Bu

namespace Go.Proofs.YtgjlfcamgkeibaaGreatDoor.Bu
set_option maxRecDepth 100000
set_option linter.unusedVariables false
set_option linter.unusedSimpArgs false
open Go.RowKit Ba Fm Fo Nm Bm
open Ro (At Ra Sh acells len_acells below_new getElem_of_drop range2 run_makeMap_hint size_attr)
open Tm (put known)
open To (Aw app_attr Sn has_Sn Sn_snoc keyed_str zero_unit)
theorem once_take {l : List At} {k : Nat} {x : At} {r : List At} (h : l.drop k = x :: r) : once (l.take (k + 1)) = put (once (l.take k)) x := by
  have htk : l.take (k + 1) = l.take k ++ [x] := by
    rw [List.take_add_one, getElem_of_drop h]
    rfl
  rw [htk]
  unfold once
  rw [List.foldl_append]
  rfl

set_option maxRecDepth 100000 in
set_option maxHeartbeats 4000000 in
theorem firsts_any (A : Option Addr) (c : Nat) (l : List At) (w : World) (hr : Ra w w.heap.size A l) (hsh : Sh l) (hc : l.length ≤ c) (hl : l.length ≤ 1000000) :
    Calls Tryz.prog 207 #[.slice A l.length c] w fun e w' => ∃ v, e = .returned v ∧ Aw w.heap.size w' v (once l) ∧ Below w.heap.size w w' := by
  have hmm := fun q n w => run_makeMap_hint Tryz.underlying167 q n w
  go_enter Tryz.func207, Tryz.ntmps207
  go_wp2
  go_loopw [3, 14] (fun v i wr => ∃ k : Nat, i = .int .i64 k ∧ k ≤ l.length ∧ wr.ownsMap Tryz.prog 9 (unitElem (H := Unit)) w.heap.size (once (l.take k)).length (Sn (once (l.take k))) ∧ Aw (w.heap.size + 1) wr v (once (l.take k)) ∧ Below w.heap.size w wr ∧ w.heap.size + 1 ≤ wr.heap.size ∧ (once (l.take k)).length ≤ k) (fun _ i _ => l.length - (intOf i).toNat)
  case atStart => exact ⟨0, rfl, by omega, World.ownsMap_made _ _ _ _, Aw.nil _ _, (Below.refl _ _).alloc (Nat.le_refl _) _, by simp, Nat.le_refl _⟩
  case round =>
    clear hmm
    obtain ⟨k, rfl, hk, hown, haw, hbel, hwz, hkl⟩ := hrel
    have hsz := hbel.size
    by_cases hp : k < l.length
    · obtain ⟨b, off, a, rfl, hb, hd, hx, hxm⟩ := (hr.below hbel).at_ k hp
      obtain ⟨x0, x1⟩ := range2 hx
      have hot := once_take hd
      have hnm := hsh a hxm
      have hkey : keyOf Tryz.prog 9 (.string a.name) = some (.string (L a.name)) := WideMaps.keyOf_string_mk Tryz.underlying9 hnm
      obtain ⟨ac, hac⟩ : ∃ ac, once (l.take k) = ac := ⟨_, rfl⟩
      rw [hac] at hot hown haw hkl
      have hbw : b < wr.heap.size := by omega
      cases hq : known ac a.name with
      | true =>
        have hp2 : put ac a = ac := by unfold put; rw [if_pos hq]
        rw [hp2] at hot
        have hhas := has_Sn ac a.name
        rw [hq] at hhas
        have HT := Lib.hid hot; have HH := Lib.hid hhas; have HM := Lib.hid hown; have HW := Lib.hid haw; have HB := Lib.hid hbel
        clear hd hot hx hhas hq hp2 hac hown haw hbel
        go_wp2_with (at_lookup; refine wpList_lookup_own_unit _ rfl _ _ 167 rfl 9 155 keyed_str Tryz.underlying167 (zero_unit _) w.heap.size ac.length (Sn ac) rfl (HM.out.alloc _) _ _ rfl hkey ?_; rw [HH.out])
        go_roundw
        case rel => exact ⟨k + 1, by go_num, by omega, by rw [HT.out]; exact (HM.out.alloc _).alloc _, by rw [HT.out]; exact (HW.out.alloc _).alloc _, (HB.out.alloc hsz _).alloc (by simp; omega) _, by simp; omega, by rw [HT.out]; omega⟩
        case measure => simp [intOf]; omega
      | false =>
        have hp2 : put ac a = ac ++ [a] := by unfold put; rw [if_neg (by rw [hq]; simp)]
        rw [hp2] at hot
        have hhas := has_Sn ac a.name
        rw [hq] at hhas
        have hlen : ac.length < maxLen := by unfold maxLen; omega
        have hl4 : ac.length ≤ 4000000000 := by omega
        have HT := Lib.hid hot; have HH := Lib.hid hhas; have HM := Lib.hid hown; have HW := Lib.hid haw; have HB := Lib.hid hbel; have HBX := Lib.hid (To.Bx.new wr a.name a.value)
        clear hd hot hx hhas hq hp2 hac hown haw hbel
        have hne1 : w.heap.size ≠ wr.heap.size := by omega
        go_wp2_with (first
          | (at_lookup; refine wpList_lookup_own_unit _ rfl _ _ 167 rfl 9 155 keyed_str Tryz.underlying167 (zero_unit _) w.heap.size ac.length (Sn ac) rfl (HM.out.alloc _) _ _ rfl hkey ?_; rw [HH.out])
          | (at_mapUpdate; refine wpList_mapUpdate_own _ rfl _ _ _ 167 rfl 9 155 keyed_str Tryz.underlying167 (unitElem (H := Unit)) w.heap.size ac.length (Sn ac) rfl ((HM.out.alloc _).alloc _) hlen _ _ _ rfl rfl hkey _ [] unitElem_mk ?_; intro w5 hown5 hgrow5; have hx5 := ((HBX.out).below (below_new _ (.cells #[] 155))).kept hgrow5 hne1.symm; have y0 := hx5.c0; have y1 := hx5.c1; have hw5 := (((HW.out.alloc (.cells #[.string a.name, .string a.value] 51)).alloc (.cells #[] 155)).kept hgrow5 (.inr (HW.out.low (Nat.lt_succ_self _)))); have hz5 : w.heap.size + 1 ≤ w5.heap.size := Nat.le_trans (by simp; omega) hgrow5.size; have HO5 := Lib.hid hown5; have HG5 := Lib.hid hgrow5; have HW5 := Lib.hid hw5; have HZ5 := Lib.hid hz5; clear hx5 hw5 hz5 hown5 hgrow5)
          | (at_builtin; go_loud (refine app_attr w5 rfl (.tmp 30) (.tmp 32) rfl (w.heap.size + 1) _ ac a rfl HW5.out hnm w5.heap.size rfl rfl hl4 HZ5.out ?_); intro v7 w7 hw7 hg7))
        have hm7 := World.ownsMap.kept HO5.out hg7 (fun e => HW5.out.low (Nat.lt_succ_self _) e.symm)
        rw [← Sn_snoc] at hm7
        have hb5 : Below w.heap.size w w5 := ((HB.out.alloc hsz _).alloc (by simp; omega) _).grown HG5.out (by simp; omega) (fun j hj => by injection hj with hj; omega)
        have hb7 : Below w.heap.size w w7 := hb5.grown hg7 (by have := HZ5.out; omega) (fun j hj => by have := (World.ownsRow.lt HW5.out.1 j hj).1; omega)
        have hz7 : w.heap.size + 1 ≤ w7.heap.size := Nat.le_trans HZ5.out hg7.size
        go_roundw
        case rel => exact ⟨k + 1, by go_num, by omega, by rw [HT.out, List.length_append]; exact hm7, by rw [HT.out]; exact hw7, hb7, hz7, by rw [HT.out, List.length_append]; simp; omega⟩
        case measure => simp [intOf]; omega
    · rw [List.take_of_length_le (by omega)] at haw
      go_wp2
      go_ret
      exact ⟨_, rfl, ⟨World.ownsRow.mono haw.1 (by omega), haw.2⟩, hbel⟩

end Go.Proofs.YtgjlfcamgkeibaaGreatDoor.Bu

namespace Go.Proofs.YtgjlfcamgkeibaaGreatDoor.Bu
set_option maxRecDepth 100000
set_option linter.unusedVariables false
set_option linter.unusedSimpArgs false
open Go.RowKit Ba Fm Fo Nm Bm
open Ro (At Ro Cw ros Fr Ow Att Ap Rr Sh Ra acells len_acells cells len_cells rowV rowO info_row info_attr below_new len_ros ros_append)
theorem void1 (n : ByteArray) (w : World) (q : Bool) (h : isIn n voidL = q) : Calls Tryz.prog 126 #[.string n] w fun e w' => e = .returned (.bool q) ∧ Below w.heap.size w w' := by
  subst h
  exact Na.void_any n w
theorem gone1 (n : ByteArray) (w : World) (q : Bool) (h : isIn n goneL = q) : Calls Tryz.prog 232 #[.string n] w fun e w' => e = .returned (.bool q) ∧ Below w.heap.size w w' := by
  subst h
  exact Na.gone_any n w
theorem empty_eq (n : ByteArray) : n.toList.isEmpty = decide (n = ⟨#[]⟩) := by
  rw [Bool.eq_iff_iff, decide_eq_true_iff]
  constructor
  · intro h
    exact empty_name h
  · rintro rfl
    exact nil_empty
theorem passedOver_any (n : ByteArray) (w : World) (q : Bool) (h : noName n = q) : Calls Tryz.prog 205 #[.string n] w fun e w' => e = .returned (.bool q) ∧ Below w.heap.size w w' := by
  subst h
  unfold noName
  rw [← empty_eq]
  cases he : n.toList.isEmpty with
  | true =>
    go_enter Tryz.func205, Tryz.ntmps205
    go_wp2
    go_ret
    exact ⟨rfl, Below.refl _ _⟩
  | false =>
    obtain ⟨q, hq⟩ : ∃ q, isIn n goneL = q := ⟨_, rfl⟩
    rw [hq]
    have HQ := Lib.hid hq
    clear hq
    go_enter Tryz.func205, Tryz.ntmps205
    go_wp2_with fail
    refine (gone1 n w q HQ.out).mono ?_
    rintro e w1 ⟨rfl, hb⟩
    go_wp2
    go_ret
    exact ⟨rfl, hb⟩

theorem of_bytes {n m : ByteArray} {l : List UInt8} (h : (n.toList == l) = true) (hm : L m = l) : n = m := by
  rw [beq_iff_eq, toList_L] at h
  exact L_inj (h.trans hm.symm)
theorem not_bytes {n m : ByteArray} {l : List UInt8} (h : (n.toList == l) = false) (hm : L m = l) : n ≠ m := fun e => by
  rw [beq_eq_false_iff_ne, toList_L, e] at h
  exact h hm
theorem endWalls_yes {n : ByteArray} (h : n = n_table ∨ isIn n tableL = true) : endWalls n = [n_table, n_template] := by
  unfold endWalls
  rw [if_pos h]
  rfl
theorem endWalls_no {n : ByteArray} (h : n ≠ n_table) (h' : isIn n tableL = false) : endWalls n = wallsL n_p := by
  unfold endWalls
  rw [if_neg (fun e => e.elim h (fun e => by rw [h'] at e; cases e))]

set_option maxRecDepth 100000 in
set_option maxHeartbeats 1000000 in
theorem endWalls_any (n : ByteArray) (w : World) : Calls Tryz.prog 209 #[.string n] w fun e w' => ∃ v, e = .returned v ∧ Sown w.heap.size w' v (endWalls n) ∧ Below w.heap.size w w' := by
  have hs := Na.sown_lit w [n_table, n_template] (by decide)
  have hb := below_one w (.cells ([n_table, n_template].map sc).toArray 9)
  have HS := Lib.hid hs; have HB := Lib.hid hb
  clear hs hb
  cases h0 : (n.toList == [116, 97, 98, 108, 101]) with
  | true =>
    have he : endWalls n = [n_table, n_template] := endWalls_yes (by obtain rfl := of_bytes (m := n_table) h0 rfl; decide)
    rw [he]
    clear he
    go_enter Tryz.func209, Tryz.ntmps209
    go_wp2
    go_ret
    exact ⟨_, rfl, HS.out, HB.out⟩
  | false =>
  cases h1 : (n.toList == [116, 98, 111, 100, 121]) with
  | true =>
    have he : endWalls n = [n_table, n_template] := endWalls_yes (by obtain rfl := of_bytes (m := n_tbody) h1 rfl; decide)
    rw [he]
    clear he
    go_enter Tryz.func209, Tryz.ntmps209
    go_wp2
    go_ret
    exact ⟨_, rfl, HS.out, HB.out⟩
  | false =>
  cases h2 : (n.toList == [116, 100]) with
  | true =>
    have he : endWalls n = [n_table, n_template] := endWalls_yes (by obtain rfl := of_bytes (m := n_td) h2 rfl; decide)
    rw [he]
    clear he
    go_enter Tryz.func209, Tryz.ntmps209
    go_wp2
    go_ret
    exact ⟨_, rfl, HS.out, HB.out⟩
  | false =>
  cases h3 : (n.toList == [116, 102, 111, 111, 116]) with
  | true =>
    have he : endWalls n = [n_table, n_template] := endWalls_yes (by obtain rfl := of_bytes (m := n_tfoot) h3 rfl; decide)
    rw [he]
    clear he
    go_enter Tryz.func209, Tryz.ntmps209
    go_wp2
    go_ret
    exact ⟨_, rfl, HS.out, HB.out⟩
  | false =>
  cases h4 : (n.toList == [116, 104]) with
  | true =>
    have he : endWalls n = [n_table, n_template] := endWalls_yes (by obtain rfl := of_bytes (m := n_th) h4 rfl; decide)
    rw [he]
    clear he
    go_enter Tryz.func209, Tryz.ntmps209
    go_wp2
    go_ret
    exact ⟨_, rfl, HS.out, HB.out⟩
  | false =>
  cases h5 : (n.toList == [116, 104, 101, 97, 100]) with
  | true =>
    have he : endWalls n = [n_table, n_template] := endWalls_yes (by obtain rfl := of_bytes (m := n_thead) h5 rfl; decide)
    rw [he]
    clear he
    go_enter Tryz.func209, Tryz.ntmps209
    go_wp2
    go_ret
    exact ⟨_, rfl, HS.out, HB.out⟩
  | false =>
  cases h6 : (n.toList == [116, 114]) with
  | true =>
    have he : endWalls n = [n_table, n_template] := endWalls_yes (by obtain rfl := of_bytes (m := n_tr) h6 rfl; decide)
    rw [he]
    clear he
    go_enter Tryz.func209, Tryz.ntmps209
    go_wp2
    go_ret
    exact ⟨_, rfl, HS.out, HB.out⟩
  | false =>
  have hno : endWalls n = wallsL n_p := endWalls_no (not_bytes h0 rfl) (isIn_no fun hm => by
    unfold tableL at hm
    simp only [List.mem_cons, List.not_mem_nil, or_false] at hm
    rcases hm with e | e | e | e | e | e
    · exact not_bytes h1 rfl e
    · exact not_bytes h2 rfl e
    · exact not_bytes h3 rfl e
    · exact not_bytes h4 rfl e
    · exact not_bytes h5 rfl e
    · exact not_bytes h6 rfl e)
  rw [hno]
  clear hno HS HB
  go_enter Tryz.func209, Tryz.ntmps209
  go_wp2_with fail
  refine (Na.walls_any n_p w).mono ?_
  rintro e w1 ⟨v, rfl, hs, hb⟩
  go_wp2
  go_ret
  exact ⟨v, rfl, hs, hb⟩

def addRow (o : List Ro) (z : Ro) : List Ro := if z.kind = 1 then addText o z.depth z.data else o ++ [z]
theorem len_norm (l : List Ro) : full l → (Ro.normal l).length ≤ l.length := by
  induction hn : l.length using Nat.strongRecOn generalizing l with
  | ind n ih =>
    subst hn
    intro h
    rcases snoc_cases l with rfl | ⟨m, y, rfl⟩
    · rw [Ro.normal]; exact Nat.le_refl _
    · rw [len_normal h, List.length_append]
      have := ih m.length (by rw [List.length_append]; exact Nat.lt_succ_self _) m rfl (full_init h)
      show _ ≤ m.length + 1
      split <;> omega

structure Bt (N : Nat) (w : World) (b : Nat) (st : St) (big : Bool) (m T : Nat) : Prop where
  ex : ∃ l, Bg N w b st.stk.reverse l (st.out.length : Nat) big ∧ full (ros l) ∧ Ro.normal (ros l) = st.out ∧ l.length ≤ m ∧ (Ro.txt (ros l)).length ≤ T ∧ ∀ x ∈ l, x.ro.attrs.length ≤ 1000000 ∧ 0 ≤ x.ro.depth ∧ x.ro.depth ≤ 1000000
  sm : st.stk.length ≤ m
theorem Bt.below {N : Nat} {w w' : World} {b : Nat} {st : St} {big : Bool} {m T : Nat} (h : Bt N w b st big m T) (hb : Below w.heap.size w w') : Bt N w' b st big m T ∧ Below N w w' := by
  obtain ⟨⟨l, h1, h2⟩, h3⟩ := h
  obtain ⟨a, c⟩ := h1.below hb
  exact ⟨⟨⟨l, a, h2⟩, h3⟩, c⟩
theorem Bt.more {N : Nat} {w : World} {b : Nat} {st : St} {big : Bool} {m T m' T' : Nat} (h : Bt N w b st big m T) (hm : m ≤ m') (hT : T ≤ T') : Bt N w b st big m' T' := by
  obtain ⟨⟨l, h1, h2, h3, h4, h5, h6⟩, h7⟩ := h
  exact ⟨⟨l, h1, h2, h3, Nat.le_trans h4 hm, Nat.le_trans h5 hT, h6⟩, Nat.le_trans h7 hm⟩
theorem Bt.n {N : Nat} {w : World} {b : Nat} {st : St} {big : Bool} {m T : Nat} (h : Bt N w b st big m T) : N ≤ b ∧ b < w.heap.size := by
  obtain ⟨⟨l, h1, _⟩, _⟩ := h
  exact h1.lt

theorem fr_row (N : Nat) (w : World) (r : Ro) (h : r.attrs = []) : Fr N w ⟨r, none, 0⟩ := by
  refine ⟨?_, fun a ha => ?_⟩
  · show w.ownsRow N 51 2 (.slice none r.attrs.length 0) r.attrs.length (r.attrs.flatMap acells)
    rw [h]
    exact World.ownsRow_nil w N _ 2
  · have : a ∈ r.attrs := ha
    rw [h] at this
    cases this

theorem add_bt (N b m T : Nat) (st : St) (big : Bool) (y : Cw) (w : World) (V : Value) (hV : V = rowV y) (h : Bt N w b st big m T) (hy : Fr N w y) (hm : m < 1000000) (hd : y.ro.kind = 1 → y.ro.data ≠ ⟨#[]⟩) (ha : y.ro.attrs.length ≤ 1000000) (dt : Nat) (hdt : y.ro.kind = 1 → y.ro.data.size ≤ dt) :
    Calls Tryz.prog 169 #[bp b, V] w fun e w' => e = .returned (.tuple #[]) ∧
      Bt N w' b ⟨st.stk, addRow st.out ⟨(st.stk.length : Nat), y.ro.kind, y.ro.name, y.ro.data, y.ro.attrs⟩⟩ (tooBig (addRow st.out ⟨(st.stk.length : Nat), y.ro.kind, y.ro.name, y.ro.data, y.ro.attrs⟩)) (m + 1) (T + dt) ∧ Below N w w' ∧ Kt w w' := by
  subst hV
  obtain ⟨⟨l, hg, hf, hn, hl, ht, hx⟩, hs⟩ := h
  have hnl := len_norm _ hf
  rw [hn, len_ros] at hnl
  refine (add_any N b st.stk.reverse l (st.out.length : Nat) big y w hg hy (by omega) (by rw [List.length_reverse]; omega) (by omega) (by omega)).mono ?_
  rintro e w' ⟨rfl, z, hz, hg', hb, hkt⟩
  rw [List.length_reverse] at hz hg'
  have hzk : z.ro.kind = y.ro.kind := by rw [hz]
  have hzd : z.ro.data = y.ro.data := by rw [hz]
  have hza : z.ro.attrs = y.ro.attrs := by rw [hz]
  have hzp : z.ro.depth = (st.stk.length : Nat) := by rw [hz]
  have hros : ros (l ++ [z]) = ros l ++ [z.ro] := by rw [ros_append]; rfl
  have hf' : full (ros l ++ [z.ro]) := full_snoc hf (by rw [hzk, hzd]; exact hd)
  have hno : Ro.normal (ros l ++ [z.ro]) = addRow st.out z.ro := by
    rw [normal_snoc _ _ hf', hn]
    rfl
  have hln := len_normal hf'
  rw [hno, hn] at hln
  have hmo : more (ros l) (st.out.length : Nat) z.ro = ((addRow st.out z.ro).length : Nat) := by
    unfold more
    rw [hln]
    split <;> simp
  have hbg := big_normal hf'
  rw [hno, hzp] at hbg
  rw [← hz]
  refine ⟨rfl, ⟨⟨l ++ [z], ?_, by rw [hros]; exact hf', by rw [hros]; exact hno, ?_, ?_, ?_⟩, by show st.stk.length ≤ m + 1; omega⟩, hb, hkt⟩
  · have hbb : (decide (4096 < more (ros l) (st.out.length : Nat) z.ro) || decide (60 ≤ (st.stk.length : Int))) = tooBig (addRow st.out z.ro) := by
      rw [hbg, hmo]
      congr 1
      exact decide_eq_decide.2 (by omega)
    rw [hbb, hmo] at hg'
    exact hg'
  · rw [List.length_append]; show l.length + 1 ≤ m + 1; omega
  · rw [hros, Ro.txt_append, List.length_append, Ro.txt_one]
    by_cases hk : z.ro.kind = 1
    · rw [if_pos hk, hzd, size_L]
      have := hdt (hzk ▸ hk)
      omega
    · rw [if_neg hk]
      show _ + 0 ≤ _
      omega
  · intro x hxm
    rcases List.mem_append.1 hxm with e | e
    · exact hx x e
    · rw [List.mem_singleton.1 e, hza, hzp]
      exact ⟨ha, by omega, by omega⟩

theorem text_no (b : Nat) (d : ByteArray) (w : World) (hd : d = ⟨#[]⟩) :
    Calls Tryz.prog 168 #[bp b, .string d] w fun e w' => e = .returned (.tuple #[]) ∧ w = w' := by
  have he : d.toList.isEmpty = true := by rw [hd]; exact nil_empty
  clear hd
  go_enter Tryz.func168, Tryz.ntmps168
  go_wp2
  go_end0
  exact ⟨rfl, rfl⟩
theorem text_yes (N b m T : Nat) (st : St) (big : Bool) (d : ByteArray) (w : World) (h : Bt N w b st big m T) (hm : m < 1000000) (hd : d ≠ ⟨#[]⟩) :
    Calls Tryz.prog 168 #[bp b, .string d] w fun e w' => e = .returned (.tuple #[]) ∧
      Bt N w' b ⟨st.stk, addText st.out st.stk.length d⟩ (tooBig (addText st.out st.stk.length d)) (m + 1) (T + d.size) ∧ Below N w w' := by
  have he : d.toList.isEmpty = false := by rw [empty_eq, decide_eq_false hd]
  have HD := Lib.hid hd; have H := Lib.hid h
  clear hd h
  go_enter Tryz.func168, Tryz.ntmps168
  go_wp2_with fail
  refine (add_bt N b m T st big ⟨⟨0, 1, ⟨#[]⟩, d, []⟩, none, 0⟩ w _ rfl H.out (fr_row N w _ rfl) hm (fun _ => HD.out) (by simp) d.size (fun _ => Nat.le_refl _)).mono ?_
  rintro e w1 ⟨rfl, h1, hb, _⟩
  have H1 := Lib.hid h1; have HB := Lib.hid hb
  clear h1 hb
  go_wp2
  go_end0
  exact ⟨rfl, H1.out, HB.out⟩

end Go.Proofs.YtgjlfcamgkeibaaGreatDoor.Bu

namespace Go.Proofs.YtgjlfcamgkeibaaGreatDoor.Bu
set_option maxRecDepth 100000
set_option linter.unusedVariables false
set_option linter.unusedSimpArgs false
open Go.RowKit Ba Fm Fo Nm Bm
open Ro (At Ro Cw ros Fr Ow Att Ap Rr Sh Ra acells len_acells cells len_cells rowV rowO info_row info_attr below_new len_ros ros_append)
theorem end_no (b : Nat) (n : ByteArray) (w : World) (h : noName n = true ∨ (noName n = false ∧ isIn n voidL = true)) :
    Calls Tryz.prog 171 #[bp b, .string n] w fun e w' => e = .returned (.tuple #[]) ∧ Below w.heap.size w w' := by
  rcases h with h | ⟨h, h'⟩
  · go_enter Tryz.func171, Tryz.ntmps171
    go_wp2_with fail
    refine (passedOver_any n w true h).mono ?_
    rintro e w1 ⟨rfl, b1⟩
    go_wp2
    first | go_end0 | refine bodyPost_ret (results_none rfl _ _ _) rfl ?_
    exact ⟨rfl, b1⟩
  · go_enter Tryz.func171, Tryz.ntmps171
    go_wp2_with fail
    refine (passedOver_any n w false h).mono ?_
    rintro e w1 ⟨rfl, b1⟩
    go_wp2_with fail
    refine (void1 n w1 true h').mono ?_
    rintro e w2 ⟨rfl, b2⟩
    go_wp2
    first | go_end0 | refine bodyPost_ret (results_none rfl _ _ _) rfl ?_
    exact ⟨rfl, bt b1 b2⟩

def endS (st : St) (n : ByteArray) : St :=
  match findS [n] (endWalls n) st.stk with
  | some r => ⟨r, st.out⟩
  | none => if n = n_p then ⟨st.stk, st.out ++ [⟨st.stk.length, 0, n_p, ⟨#[]⟩, []⟩]⟩ else st
theorem ends_len (n : ByteArray) : (endWalls n).length ≤ 1000 := by
  unfold endWalls
  split
  · exact walls_len _
  · exact walls_len _
theorem p_of {n : ByteArray} (h : (n.toList == [112]) = true) : n = n_p := of_bytes h rfl
theorem p_no {n : ByteArray} (h : (n.toList == [112]) = false) : n ≠ n_p := not_bytes h rfl
theorem sv_one (w : World) (n : ByteArray) : Sv (w.alloc (.cells #[.string n] 9)) (w.alloc (.cells #[.string n] 9)).heap.size (.slice (some ⟨w.heap.size, 0, none⟩) 1 1) [n] := sv_lit w [n]
theorem Sv.drew {w : World} {v : Value} {l : List ByteArray} (h : Sv w w.heap.size v l) : Sv w.drew w.drew.heap.size v l := h
theorem Sv.up {w w' : World} {v : Value} {l : List ByteArray} (h : Sv w w.heap.size v l) (hb : Below w.heap.size w w') : Sv w' w'.heap.size v l := (h.below hb (Nat.le_refl _)).more hb.size

set_option maxRecDepth 100000 in
set_option maxHeartbeats 4000000 in
theorem end_any (N b m T : Nat) (st : St) (n : ByteArray) (w : World) (h : Bt N w b st false m T) (hm : m < 1000000) (h1 : noName n = false) (h2 : isIn n voidL = false) (hbig : tooBig st.out = false) :
    Calls Tryz.prog 171 #[bp b, .string n] w fun e w' => e = .returned (.tuple #[]) ∧ Bt N w' b (endS st n) (tooBig (endS st n).out) (m + 1) T ∧ Below N w w' := by
  have hel := ends_len n
  go_enter Tryz.func171, Tryz.ntmps171
  go_wp2_with fail
  refine (passedOver_any n w false h1).mono ?_
  rintro e w1 ⟨rfl, b1⟩
  go_wp2_with fail
  refine (void1 n w1 false h2).mono ?_
  rintro e w2 ⟨rfl, b2⟩
  obtain ⟨hb2, hB2⟩ := h.below (bt b1 b2)
  clear h
  have HB := Lib.hid hb2; have HBW := Lib.hid hB2
  obtain ⟨⟨l, ⟨vo, vr, hc, ho, hr, hN⟩, hrest⟩, hsm⟩ := hb2
  obtain ⟨so, hso⟩ : ∃ so, st.stk.reverse = so := ⟨_, rfl⟩
  have hsl : so.length = st.stk.length := by rw [← hso, List.length_reverse]
  rw [hso] at ho
  obtain ⟨Ao, co, hv, hco, _, hro⟩ := ho.form
  subst hv
  have c0 := hc.c0; have hz := hc.lt
  have hol : so.length ≤ 1000000 := by omega
  have HSO := Lib.hid hso; have HSL := Lib.hid hsl
  have HC := Lib.hid hc; have HRO := Lib.hid hro; have HSM := Lib.hid hsm
  have HA := Lib.hid (show Bc (w2.alloc (.cells #[.string n] 9)).drew b _ vr _ false from (hc.below (below_one w2 (.cells #[.string n] 9))).drew 1)
  have HZ := Lib.hid (show Bc w2.drew b _ vr _ false from hc)
  have hva : Sv (w2.alloc (.cells #[.string n] 9)).drew (w2.alloc (.cells #[.string n] 9)).drew.heap.size (.slice (some ⟨w2.heap.size, 0, none⟩) 1 1) [n] := sv_one w2 n
  have hba : Below w2.heap.size w2 (w2.alloc (.cells #[.string n] 9)).drew := below_dN (below_one w2 (.cells #[.string n] 9)) 1
  have HVA := Lib.hid hva; have HBA := Lib.hid hba
  clear hva hba
  clear hso hsl hc ho hr hro hrest hsm hB2 b1 b2 h1 h2
  go_upto_region 1 with (fail)
  obtain ⟨i, hi⟩ : ∃ i, idx [n] (endWalls n) so = i := ⟨_, rfl⟩
  have HI := Lib.hid hi
  clear hi
  go_cut [4] from 11 to 19 (fun s4 wx => s4 = .int .i64 i ∧ Below w2.heap.size w2 wx)
  case first =>
    go_region_held3 (fun w' => w'.cell? ⟨b, 0, none⟩ = some (.slice Ao so.length co)) (first | exact e0 | exact d0 | exact c0 | go_keep) (first
      | (go_at_call 208; first
          | (with_reducible show Calls _ _ _ (World.alloc _ _) _; refine (find1 _ _ _ 0 so [n] (endWalls n) (w3.alloc (.cells #[.string n] 9)) hol Ao co rfl ((HR3.out.below (below_one w3 _) (Nat.le_refl _)).more (by simp)) (sv_one w3 n) (Sv.up HW3.out (below_one w3 _)) (by simp) hel i HI.out).mono ?_; rintro e w4 ⟨rfl, b4⟩; have hc4 := (HC3.out.below (below_one w3 (.cells #[.string n] 9))).below b4; have e0 := hc4.c0; have HB4 := Lib.hid (bt (bt HB3.out (below_one w3 _)) b4); clear b4 hc4)
          | (refine (find1 _ _ _ 0 so [n] (endWalls n) w3 hol Ao co rfl HR3.out HV3.out HW3.out (by simp) hel i HI.out).mono ?_; rintro e w4 ⟨rfl, b4⟩; have hc4 := HC3.out.below b4; have e0 := hc4.c0; have HB4 := Lib.hid (bt HB3.out b4); clear b4 hc4))
      | (go_at_call 209; first
          | (with_reducible show Calls _ _ _ (World.drew (World.alloc _ _)) _; refine (endWalls_any n (w2.alloc (.cells #[.string n] 9)).drew).mono ?_; rintro e w3 ⟨Vw, rfl, sw, b3⟩; have hc3 := HA.out.below b3; have d0 := hc3.c0; have HC3 := Lib.hid hc3; have hb3 : Below w2.heap.size w2 w3 := bt HBA.out b3; have hr3 : Rd w3 w3.heap.size Ao so := (HRO.out.below hb3 (Nat.le_refl _)).more hb3.size; have hv3 : Sv w3 w3.heap.size (.slice (some ⟨w2.heap.size, 0, none⟩) 1 1) [n] := Sv.up HVA.out b3; have hw3 : Sv w3 w3.heap.size Vw (endWalls n) := sv_own sw; have HR3 := Lib.hid hr3; have HV3 := Lib.hid hv3; have HW3 := Lib.hid hw3; have HB3 := Lib.hid hb3; clear hc3 b3 hb3 sw hr3 hv3 hw3)
          | (refine (endWalls_any n w2.drew).mono ?_; rintro e w3 ⟨Vw, rfl, sw, b3⟩; have hc3 := HZ.out.below b3; have d0 := hc3.c0; have HC3 := Lib.hid hc3; have hb3 : Below w2.heap.size w2 w3 := bt (show Below w2.heap.size w2 w2.drew from below_dN (Below.refl _ _) 1) b3; have hr3 : Rd w3 w3.heap.size Ao so := (HRO.out.below hb3 (Nat.le_refl _)).more hb3.size; have hw3 : Sv w3 w3.heap.size Vw (endWalls n) := sv_own sw; have HR3 := Lib.hid hr3; have HW3 := Lib.hid hw3; have HB3 := Lib.hid hb3; clear hc3 b3 hb3 sw hr3 hw3)))
    all_goals go_wp2_with fail
    all_goals go_meet
    all_goals exact ⟨rfl, HB4.out⟩
  case rest =>
  obtain ⟨rfl, hb4⟩ := hcut
  rename World => w4
  obtain ⟨hB4, hW4⟩ := HB.out.below hb4
  have HWW := Lib.hid (HBW.out.trans hW4)
  clear HA HZ HVA HBA HC HRO HSM HB HBW c0 hW4
  have hRV : st.stk.reverse.reverse = st.stk := List.reverse_reverse _
  rw [HSO.out] at hRV
  rcases idx_take (ns := [n]) (ws := endWalls n) (o := so) with ⟨e1, e2⟩ | ⟨k, e1, hk, e2⟩
  · rw [HI.out] at e1
    subst e1
    rw [hRV] at e2
    cases hp : (n.toList == [112]) with
    | true =>
      have hes : endS st n = ⟨st.stk, addRow st.out ⟨(st.stk.length : Nat), 0, n, ⟨#[]⟩, []⟩⟩ := by
        unfold endS
        rw [e2, p_of hp]
        rfl
      have HES := Lib.hid hes
      have HB4 := Lib.hid hB4
      clear hes e2 hRV hB4
      go_wp2_with fail
      refine (add_bt N b m T st false ⟨⟨0, 0, n, ⟨#[]⟩, []⟩, none, 0⟩ w4 _ rfl HB4.out (fr_row N w4 _ rfl) hm (by simp) (by simp) 0 (by simp)).mono ?_
      rintro e w5 ⟨rfl, h5, b5, _⟩
      have H5 := Lib.hid h5; have B5 := Lib.hid (HWW.out.trans b5)
      clear h5 b5
      go_wp2
      first | go_end0 | refine bodyPost_ret (results_none rfl _ _ _) rfl ?_
      exact ⟨rfl, by rw [HES.out]; exact H5.out, B5.out⟩
    | false =>
      have hes : endS st n = st := by
        unfold endS
        rw [e2]
        show (if n = n_p then _ else st) = st
        rw [if_neg (p_no hp)]
      have HES := Lib.hid hes
      have HB4 := Lib.hid hB4
      clear hes e2 hRV hB4
      go_wp2
      first | go_end0 | refine bodyPost_ret (results_none rfl _ _ _) rfl ?_
      exact ⟨rfl, by rw [HES.out, hbig]; exact HB4.out.more (Nat.le_succ _) (Nat.le_refl _), HWW.out⟩
  · rw [HI.out] at e1
    subst e1
    rw [hRV] at e2
    have hes : endS st n = ⟨(so.take k).reverse, st.out⟩ := by
      unfold endS
      rw [e2]
    have HES := Lib.hid hes
    obtain ⟨⟨l, ⟨vo, vr, hc, ho, hr, hN⟩, hf, hn, hl, ht, hx⟩, hsm⟩ := hB4
    rw [HSO.out] at ho
    obtain ⟨Ao, co, rfl, hco, _, _⟩ := ho.form
    have c0 := hc.c0; have f0 := hc.f 0; have hz := hc.lt
    have hge : decide ((0 : Int) ≤ (k : Int)) = true := decide_eq_true (by omega)
    have i0 : (0 : Int) ≤ (k : Int) := by omega
    have i1 : (k : Int) ≤ (co : Int) := by omega
    have hcut := Sown.cut ho (Nat.le_of_lt hk)
    have hkl : (so.take k).length = k := by rw [List.length_take]; omega
    have HCU := Lib.hid hcut; have HC := Lib.hid hc; have HR := Lib.hid hr
    have HREST := Lib.hid (show full (ros l) ∧ Ro.normal (ros l) = st.out ∧ l.length ≤ m ∧ (Ro.txt (ros l)).length ≤ T ∧ ∀ x ∈ l, x.ro.attrs.length ≤ 1000000 ∧ 0 ≤ x.ro.depth ∧ x.ro.depth ≤ 1000000 from ⟨hf, hn, hl, ht, hx⟩)
    have HKL := Lib.hid hkl
    clear hes e2 hRV hc ho hr hf hn hl ht hx hcut hkl
    go_wp2
    first | go_end0 | refine bodyPost_ret (results_none rfl _ _ _) rfl ?_
    have hgs := g_set w4 b 0 (.slice Ao k co)
    obtain ⟨hf, hn, hl, ht, hx⟩ := HREST.out
    rw [HES.out]
    refine ⟨rfl, ⟨⟨l, ⟨.slice Ao k co, vr, ?_, ?_, HR.out.kept hgs HC.out (by decide) (by decide), hN⟩, hf, hn, by omega, ht, hx⟩, ?_⟩, ?_⟩
    · show Bc _ b _ vr _ (tooBig st.out)
      rw [hbig]
      exact HC.out.set0 _
    · show Sown N _ _ (so.take k).reverse.reverse
      rw [List.reverse_reverse]
      exact Sown.keptB HCU.out hgs HC.out (by decide)
    · show (so.take k).reverse.length ≤ m + 1
      rw [List.length_reverse, HKL.out]
      have := HSL.out
      omega
    · exact HWW.out.setCell hN _

end Go.Proofs.YtgjlfcamgkeibaaGreatDoor.Bu

namespace Go.Proofs.YtgjlfcamgkeibaaGreatDoor.Bu
set_option maxRecDepth 100000
set_option linter.unusedVariables false
set_option linter.unusedSimpArgs false
open Go.RowKit Ba Fm Fo Nm Bm
open Ro (At Ro Cw ros Fr Ow Att Ap Rr Sh Ra acells len_acells cells len_cells rowV rowO info_row info_attr below_new len_ros ros_append)
open Tm (Tk put)
open To (Tw Aw tokV tokO tks)
theorem step_app_str {ops : Array Oper} {o : Oper} {a : Act} {K : Act → World → Prop} {Q : Exit → Act → World → Prop} {E : Prop} (W : World) (hgd : o.guard = none) (s x : Operand)
    (ho : o.op = .call { callee := .builtin .append, args := #[s, x], argTypes := #[23, 23] })
    (W0 : World) (N : Nat) (v : Value) (l : List ByteArray) (z : ByteArray) (hr : Sown N W0 v l) (hg : W0.grownBy W none) (hN : N ≤ W0.heap.size) (hl : l.length ≤ 2000000)
    (hs : a.eval s = v) (g0 : Nat) (hx : a.eval x = .slice (some ⟨g0, 0, none⟩) 1 1) (hz : W.heap[g0]? = some (.cells #[.string z] 9))
    (h : ∀ g cap w', w'.ownsRow N 9 1 (.slice (some ⟨g, 0, none⟩) (l.length + 1) cap) (l.length + 1) (l.map sc ++ [.string z]) → W0.grownBy w' v.ownBlock → K (a.put o.dst (.slice (some ⟨g, 0, none⟩) (l.length + 1) cap)) w') :
    if Region.wanted o (yielded ops a.tmps) = true then Oper.wp Tryz.prog o a W K Q else E := by
  obtain ⟨i0, hi, hz0, hz1, hz2⟩ := info_parts info_str
  have hown : W.ownsRow N 9 1 v l.length (l.map sc) := World.ownsRow.kept hr hg (by cases hv : v.ownBlock with
    | none => exact .inl rfl
    | some k => right; simp)
  refine step_append_lies W hgd s x 23 ho N 9 i0 _ 1 16 Tryz.underlying23 hi hz0 hz1 hz2 rfl (by decide) v l.length (l.map sc) hs hown ⟨g0, 0, none⟩ 1 1 [.string z] hx rfl (fun j u hu => World.news_of_block hz j u hu) (by simp [Value.oneCell']) (by decide) (by unfold maxLen; omega) (by omega) (Nat.le_trans hN hg.size) _ rfl ?_
  intro g cap w1 h1 h2 _ _
  exact h g cap w1 h1 ⟨h2.os.trans hg.os, h2.tape.trans hg.tape, h2.output.trans hg.output, Nat.le_trans hg.size h2.size, fun i hi hne => (h2.block i (Nat.lt_of_lt_of_le hi hg.size) hne).trans (hg.block i hi (by simp))⟩

theorem Bc.overS {N : Nat} {w w' : World} {b : Nat} {vo vr : Value} {n : Int} {big : Bool} {o : List ByteArray} (h : Bc w b vo vr n big) (hr : Sown N w vo o) (hg : w.grownBy w' vo.ownBlock) : Bc w' b vo vr n big := (hg.block b h.lt (fun e => own_ne hr h (by decide) e.symm)).trans h
theorem Bg.push {N : Nat} {w w1 : World} {b : Nat} {vo vr v' : Value} {o : List ByteArray} {l : List Cw} {z : ByteArray} {n : Int} {big : Bool} (hc : Bc w b vo vr n big) (ho : Sown N w vo o) (hr : Or N w vr l) (hN : N ≤ b)
    (h1 : w1.ownsRow N 9 1 v' (o.length + 1) (o.map sc ++ [.string z])) (hg : w.grownBy w1 vo.ownBlock) :
    Bg N (w1.setCell ⟨b, 0, none⟩ v') b (o ++ [z]) l n big ∧ ∀ w0, Below N w0 w → Below N w0 (w1.setCell ⟨b, 0, none⟩ v') := by
  have hrc : Bc w1 b vo vr n big := Bc.overS hc ho hg
  have hor : Or N w1 vr l := hr.apart ho hg (by decide) (by decide)
  have hs : Sown N w1 v' (o ++ [z]) := Sown.appended (m := [z]) h1 rfl
  have hgs := g_set w1 b 0 v'
  refine ⟨⟨v', vr, hrc.set0 v', Sown.keptB hs hgs hrc (by decide), hor.kept hgs hrc (by decide) (by decide), hN⟩, fun w0 h0 => ?_⟩
  have hlt := hc.lt
  exact (h0.grown hg (by omega) fun k hk => (World.ownsRow.lt ho k hk).1).setCell hN _

theorem leftOpen1 (V : Value) (l : List ByteArray) (n : ByteArray) (w : World) (hm : l.length ≤ 1000000) (A : Option Addr) (c : Nat) (hV : V = .slice A l.length c) (hc : l.length ≤ c) (hr : Rd w w.heap.size A l) :
    Calls Tryz.prog 206 #[V, .string n] w fun e w' => ∃ k : Nat, e = .returned (.slice A k c) ∧ k ≤ l.length ∧ (l.take k).reverse = openedS n l.reverse ∧ Below w.heap.size w w' := by
  subst hV
  exact leftOpen_any A c l n w hm hc hr

theorem start_no (b : Nat) (x : Tw) (w : World) (h : noName x.tk.name = true) :
    Calls Tryz.prog 170 #[bp b, tokV x] w fun e w' => e = .returned (.tuple #[]) ∧ Below w.heap.size w w' := by
  go_enter Tryz.func170, Tryz.ntmps170
  go_wp2_with fail
  refine (passedOver_any x.tk.name _ true h).mono ?_
  rintro e w1 ⟨rfl, b1⟩
  go_wp2
  first | go_end0 | refine bodyPost_ret (results_none rfl _ _ _) rfl ?_
  exact ⟨rfl, bt (below_new w _) b1⟩

def startS (st : St) (n : ByteArray) (at_ : List At) : St := ⟨if isIn n voidL = true then openedS n st.stk else n :: openedS n st.stk, st.out ++ [⟨(openedS n st.stk).length, 0, n, ⟨#[]⟩, once at_⟩]⟩

set_option maxRecDepth 100000 in
set_option maxHeartbeats 4000000 in
theorem start_any (N b m T : Nat) (st : St) (x : Tw) (w : World) (h : Bt N w b st false m T) (hx : To.Att w N x) (hm : m < 1000000) (hal : x.tk.attrs.length ≤ 1000000) (h1 : noName x.tk.name = false) :
    Calls Tryz.prog 170 #[bp b, tokV x] w fun e w' => e = .returned (.tuple #[]) ∧ Bt N w' b (startS st x.tk.name x.tk.attrs) (tooBig (startS st x.tk.name x.tk.attrs).out) (m + 1) T ∧ Below N w w' := by
  have hNz := h.n
  go_enter Tryz.func170, Tryz.ntmps170
  go_wp2_with fail
  refine (passedOver_any x.tk.name _ false h1).mono ?_
  rintro e w2 ⟨rfl, b2⟩
  obtain ⟨hb2, hB2⟩ := h.below (bt (below_new w _) b2)
  have hbox : w2.heap[w.heap.size]? = some (tokO x) := (b2.block w.heap.size (by simp)).trans (World.alloc_heap_new _ _)
  have HX := Lib.hid hx
  clear h hx b2
  obtain ⟨⟨l, ⟨vo, vr, hc, ho, hr, hN⟩, hf, hn, hl, ht, hxl⟩, hsm⟩ := hb2
  obtain ⟨so, hso⟩ : ∃ so, st.stk.reverse = so := ⟨_, rfl⟩
  have hsl : so.length = st.stk.length := by rw [← hso, List.length_reverse]
  have hsr : so.reverse = st.stk := by rw [← hso, List.reverse_reverse]
  rw [hso] at ho
  obtain ⟨Ao, co, hv, hco, _, hro⟩ := ho.form
  subst hv
  have c0 := hc.c0; have f0 := hc.f 0; have hz := hc.lt
  have hol : so.length ≤ 1000000 := by omega
  have y1 : w2.cell? ⟨w.heap.size, 1, none⟩ = some (.string x.tk.name) := by rw [cell_of_row w2 w.heap.size 1 _ _ _ hbox]; rfl
  have hgz : w.heap.size < w2.heap.size := (Array.getElem?_eq_some_iff.1 hbox).1
  have hne : w.heap.size ≠ b := by omega
  have HC := Lib.hid hc; have HO := Lib.hid ho; have HR := Lib.hid hr; have HRO := Lib.hid hro; have HBX := Lib.hid hbox; have HBW := Lib.hid hB2; have HSR := Lib.hid hsr; have HSL := Lib.hid hsl
  have HREST := Lib.hid (show full (ros l) ∧ Ro.normal (ros l) = st.out ∧ l.length ≤ m ∧ (Ro.txt (ros l)).length ≤ T ∧ (∀ y ∈ l, y.ro.attrs.length ≤ 1000000 ∧ 0 ≤ y.ro.depth ∧ y.ro.depth ≤ 1000000) ∧ st.stk.length ≤ m from ⟨hf, hn, hl, ht, hxl, hsm⟩)
  clear hc ho hr hro hbox hB2 hsr hsl hf hn hl ht hxl hsm hso h1
  go_upto_region 2 with (fail)
  go_cut [3] from 7 to 16 (fun s3 wx => s3 = .pointer (some ⟨w.heap.size, 0, none⟩) ∧ ∃ k : Nat, k ≤ so.length ∧ (so.take k).reverse = openedS x.tk.name st.stk ∧ Bc wx b (.slice Ao k co) vr (st.out.length : Nat) false ∧ Sown N wx (.slice Ao k co) (so.take k) ∧ Or N wx vr l ∧ Below N w wx ∧ wx.heap[w.heap.size]? = some (tokO x))
  case first =>
    go_region_law (go_simp; go_at_call 206; refine (leftOpen1 _ so x.tk.name w2.drew hol Ao co rfl hco HRO.out).mono ?_; rintro e w3 ⟨k, rfl, hk, hop, b3⟩; have hb3 : Below w2.heap.size w2 w3 := bt (show Below w2.heap.size w2 w2.drew from below_dN (Below.refl _ _) 1) b3; have hc3 := HC.out.below hb3; have c3 := hc3.c0; have f3 := hc3.f 0; have HC3 := Lib.hid hc3; have HB3 := Lib.hid hb3; have HOP := Lib.hid hop; clear hc3 b3 hb3 hop)
    all_goals go_wp2_with fail
    all_goals go_meet
    all_goals
      have hgs := g_set w3 b 0 (.slice Ao k co)
      have ho3 := HO.out.below HB3.out (Nat.le_refl _)
      refine ⟨rfl, k, hk, by rw [HOP.out, HSR.out], HC3.out.set0 _, Sown.keptB (Sown.cut ho3 hk) hgs HC3.out (by decide), (HR.out.below HB3.out).kept hgs HC3.out (by decide) (by decide), (HBW.out.trans (HB3.out.mono (by omega))).setCell hN _, ?_⟩
      rw [hgs.block _ (Nat.lt_of_lt_of_le hgz HB3.out.size) (by simpa using hne)]
      exact (HB3.out.block _ hgz).trans HBX.out
  case rest =>
  obtain ⟨rfl, k, hk, hop, hc, ho, hr, hBW, hbox⟩ := hcut
  rename World => w4
  obtain ⟨hf, hn, hl, ht, hxl, hsm⟩ := HREST.out
  have hkl : (so.take k).length = k := by rw [List.length_take]; omega
  have hok : (openedS x.tk.name st.stk).length = k := by rw [← hop, List.length_reverse, hkl]
  have hks : k ≤ m := by have := HSL.out; omega
  have hbt : Bt N w4 b ⟨openedS x.tk.name st.stk, st.out⟩ false m T := ⟨⟨l, ⟨_, vr, hc, by show Sown N w4 _ (openedS x.tk.name st.stk).reverse; rw [← hop, List.reverse_reverse]; exact ho, hr, hN⟩, hf, hn, hl, ht, hxl⟩, by show (openedS x.tk.name st.stk).length ≤ m; omega⟩
  have hx4 : To.Att w4 N x := HX.out.below hBW
  have hb4 := hbt.n.2
  have z1 : w4.cell? ⟨w.heap.size, 1, none⟩ = some (.string x.tk.name) := by rw [cell_of_row w4 w.heap.size 1 _ _ _ hbox]; rfl
  have z3 : w4.cell? ⟨w.heap.size, 3, none⟩ = some (.slice x.A x.tk.attrs.length x.c) := by rw [cell_of_row w4 w.heap.size 3 _ _ _ hbox]; rfl
  have hg4 : w.heap.size < w4.heap.size := (Array.getElem?_eq_some_iff.1 hbox).1
  have hol2 := once_len x.tk.attrs
  have HKM := Lib.hid (show (openedS x.tk.name st.stk).length ≤ m from by omega)
  have HBT := Lib.hid hbt; have HX4 := Lib.hid hx4; have HBX4 := Lib.hid hbox; have HBW4 := Lib.hid hBW
  clear hbt hx4 hbox hBW hc ho hr hop hkl hok hf hn hl ht hxl hsm hks c0 f0 y1
  clear HREST HSL HSR HC HO HR HRO HBX HBW HX
  go_upto_region 3 with (fail)
  obtain ⟨ro, hro⟩ : ∃ ro, addRow st.out ⟨((openedS x.tk.name st.stk).length : Nat), 0, x.tk.name, ⟨#[]⟩, once x.tk.attrs⟩ = ro := ⟨_, rfl⟩
  go_cut [3] from 17 to 24 (fun s3 wx => s3 = .pointer (some ⟨w.heap.size, 0, none⟩) ∧ Bt N wx b ⟨openedS x.tk.name st.stk, ro⟩ (tooBig ro) (m + 1) T ∧ Below N w wx ∧ wx.heap[w.heap.size]? = some (tokO x))
  case first =>
    go_region_held3 (fun w' => w'.cell? ⟨w.heap.size, 1, none⟩ = some (.string x.tk.name) ∧ w'.cell? ⟨w.heap.size, 3, none⟩ = some (.slice x.A x.tk.attrs.length x.c)) (first | exact ⟨e1, e3⟩ | exact ⟨d1, d3⟩ | exact ⟨z1, z3⟩ | go_keep) (first
      | (go_at_call 169; refine (add_bt N b m T ⟨openedS x.tk.name st.stk, st.out⟩ false ⟨⟨0, 0, x.tk.name, ⟨#[]⟩, once x.tk.attrs⟩, A5, c5⟩ w5 _ rfl HBT5.out HAW.out hm (by simp) (by show (once x.tk.attrs).length ≤ 1000000; omega) 0 (by simp)).mono ?_; rintro e w6 ⟨rfl, h6, b6, k6⟩; have hbx6 := (k6 _ _ _ HBX5.out).trans HBX5.out; have e1 : w6.cell? ⟨w.heap.size, 1, none⟩ = some (.string x.tk.name) := (cell_of_row w6 w.heap.size 1 _ _ _ hbx6).trans rfl; have e3 : w6.cell? ⟨w.heap.size, 3, none⟩ = some (.slice x.A x.tk.attrs.length x.c) := (cell_of_row w6 w.heap.size 3 _ _ _ hbx6).trans rfl; have HBX6 := Lib.hid hbx6; have H6 := Lib.hid h6; have HBW6 := Lib.hid (HBW5.out.trans b6); clear hbx6 h6 b6 k6)
      | (go_at_call 207; refine (firsts_any x.A x.c x.tk.attrs w4.drew (HX4.out.2.2.2.1.more (by have := hNz.1; show N ≤ w4.heap.size; omega)) HX4.out.2.2.2.2 HX4.out.1 hal).mono ?_; rintro e w5 ⟨v5, rfl, haw, b5⟩; obtain ⟨A5, c5, rfl⟩ := haw.form; have hb5 : Below w4.heap.size w4 w5 := bt (show Below w4.heap.size w4 w4.drew from below_dN (Below.refl _ _) 1) b5; have hbx5 := (hb5.block _ hg4).trans HBX4.out; have d1 : w5.cell? ⟨w.heap.size, 1, none⟩ = some (.string x.tk.name) := (cell_of_row w5 w.heap.size 1 _ _ _ hbx5).trans rfl; have d3 : w5.cell? ⟨w.heap.size, 3, none⟩ = some (.slice x.A x.tk.attrs.length x.c) := (cell_of_row w5 w.heap.size 3 _ _ _ hbx5).trans rfl; have hbt5 := HBT.out.below hb5; have haw5 : Fr N w5 ⟨⟨0, 0, x.tk.name, ⟨#[]⟩, once x.tk.attrs⟩, A5, c5⟩ := ⟨World.ownsRow.mono haw.1 (by have := hNz.1; show N ≤ w4.heap.size; omega), haw.2⟩; have HBX5 := Lib.hid hbx5; have HBT5 := Lib.hid hbt5.1; have HAW := Lib.hid haw5; have HBW5 := Lib.hid (HBW4.out.trans hbt5.2); clear hbx5 hbt5 haw5 haw hb5 b5))
    all_goals go_wp2_with fail
    all_goals go_meet
    all_goals
      refine ⟨rfl, ?_, HBW6.out, HBX6.out⟩
      rw [← hro]
      exact H6.out
  case rest =>
  obtain ⟨rfl, hbt, hBW, hbox⟩ := hcut
  rename World => w7
  have hst : startS st x.tk.name x.tk.attrs = ⟨if isIn x.tk.name voidL = true then openedS x.tk.name st.stk else x.tk.name :: openedS x.tk.name st.stk, ro⟩ := by
    unfold startS
    rw [← hro]
    rfl
  have z1' : w7.cell? ⟨w.heap.size, 1, none⟩ = some (.string x.tk.name) := (cell_of_row w7 w.heap.size 1 _ _ _ hbox).trans rfl
  have HBX7 := Lib.hid hbox; have HB7 := Lib.hid hbt; have HBW7 := Lib.hid hBW; have HST := Lib.hid hst
  clear z1 z3 hbox hbt hBW hst hro HBT HX4 HBX4 HBW4
  cases hv : isIn x.tk.name voidL with
  | true =>
    go_wp2_with fail
    refine (void1 x.tk.name w7 true hv).mono ?_
    rintro e w8 ⟨rfl, b8⟩
    obtain ⟨h8, hB8⟩ := HB7.out.below b8
    have H8 := Lib.hid h8; have HB8 := Lib.hid (HBW7.out.trans hB8)
    clear h8 hB8 b8 z1'
    go_wp2
    first | go_end0 | refine bodyPost_ret (results_none rfl _ _ _) rfl ?_
    rw [HST.out, if_pos hv]
    exact ⟨rfl, H8.out, HB8.out⟩
  | false =>
    go_wp2_with fail
    refine (void1 x.tk.name w7 false hv).mono ?_
    rintro e w8 ⟨rfl, b8⟩
    obtain ⟨h8, hB8⟩ := HB7.out.below b8
    have hbx8 := (b8.block _ (Array.getElem?_eq_some_iff.1 HBX7.out).1).trans HBX7.out
    obtain ⟨⟨l, ⟨vo, vr, hc, ho, hr, hN⟩, hf, hn, hl, ht, hxl⟩, hsm⟩ := h8
    obtain ⟨s2, hs2⟩ : ∃ s2, (openedS x.tk.name st.stk).reverse = s2 := ⟨_, rfl⟩
    rw [show (St.mk (openedS x.tk.name st.stk) ro).stk.reverse = s2 from hs2] at ho
    have hs2l : s2.length = (openedS x.tk.name st.stk).length := by rw [← hs2, List.length_reverse]
    have y1 : w8.cell? ⟨w.heap.size, 1, none⟩ = some (.string x.tk.name) := (cell_of_row w8 w.heap.size 1 _ _ _ hbx8).trans rfl
    have c0 := hc.c0; have f0 := hc.f 0; have hz8 := hc.lt
    have hg8 : w.heap.size < w8.heap.size := (Array.getElem?_eq_some_iff.1 hbx8).1
    have hN8 : N ≤ w8.heap.size := by omega
    have hsm2 : s2.length ≤ 2000000 := by
      have : (openedS x.tk.name st.stk).length ≤ m + 1 := hsm
      omega
    have HC := Lib.hid hc; have HO := Lib.hid ho; have HR := Lib.hid hr; have HB8 := Lib.hid (HBW7.out.trans hB8)
    have HREST := Lib.hid (show full (ros l) ∧ Ro.normal (ros l) = ro ∧ l.length ≤ m + 1 ∧ (Ro.txt (ros l)).length ≤ T ∧ (∀ y ∈ l, y.ro.attrs.length ≤ 1000000 ∧ 0 ≤ y.ro.depth ∧ y.ro.depth ≤ 1000000) from ⟨hf, hn, hl, ht, hxl⟩)
    have HS2 := Lib.hid hs2; have HS2L := Lib.hid hs2l
    clear hc ho hr hB8 hbx8 hf hn hl ht hxl b8 z1' hs2 hs2l hsm
    go_upto_region 5 with (fail)
    go_region_law (refine step_app_str _ (by rfl) (.tmp 33) (.tmp 36) (by rfl) w8 N vo s2 x.tk.name HO.out (by first | exact (World.grownBy_alloc w8 _ _).trans (g_dN _ 1 _) | exact (g_dN w8 1 _).trans (World.grownBy_alloc _ _ _)) hN8 hsm2 (by simp [Act.eval, Act.put]) _ (by simp [Act.eval, Act.put]) (World.alloc_heap_new _ _) ?_; intro g cap w9 hown9 hg9; have hc9 := Bc.overS HC.out HO.out hg9; have c9 := hc9.c0; have f9 := hc9.f 0; clear hc9)
    all_goals go_wp2
    all_goals go_end0
    all_goals
      obtain ⟨r1, r2⟩ := Bg.push HC.out HO.out HR.out hN hown9 hg9
      obtain ⟨hf, hn, hl, ht, hxl⟩ := HREST.out
      rw [HST.out, if_neg (by rw [hv]; simp)]
      refine ⟨rfl, ⟨⟨l, ?_, hf, hn, hl, ht, hxl⟩, ?_⟩, r2 _ HB8.out⟩
      · show Bg N _ b (x.tk.name :: openedS x.tk.name st.stk).reverse l _ _
        rw [List.reverse_cons, HS2.out]
        exact r1
      · show (x.tk.name :: openedS x.tk.name st.stk).length ≤ m + 1
        rw [List.length_cons]
        have := HKM.out
        omega

theorem step_0 {st : St} {t : Tk} (h : t.kind = 0) : stepB st t = if t.data = ⟨#[]⟩ then st else ⟨st.stk, addText st.out st.stk.length t.data⟩ := by unfold stepB; rw [if_pos h]
theorem step_3 {st : St} {t : Tk} (h : t.kind = 3) : stepB st t = ⟨st.stk, addRow st.out ⟨st.stk.length, 2, ⟨#[]⟩, t.data, []⟩⟩ := by
  unfold stepB
  rw [if_neg (by rw [h]; decide), if_pos h]
  rfl
theorem step_1 {st : St} {t : Tk} (h : t.kind = 1) : stepB st t = if noName t.name = true then st else startS st t.name t.attrs := by
  unfold stepB
  rw [if_neg (by rw [h]; decide), if_neg (by rw [h]; decide), if_pos h]
  rfl
theorem step_2 {st : St} {t : Tk} (h : t.kind = 2) : stepB st t = if noName t.name = true ∨ isIn t.name voidL = true then st else endS st t.name := by
  unfold stepB
  rw [if_neg (by rw [h]; decide), if_neg (by rw [h]; decide), if_neg (by rw [h]; decide), if_pos h]
  rfl
theorem step_no {st : St} {t : Tk} (h0 : t.kind ≠ 0) (h1 : t.kind ≠ 1) (h2 : t.kind ≠ 2) (h3 : t.kind ≠ 3) : stepB st t = st := by
  unfold stepB
  rw [if_neg h0, if_neg h3, if_neg h1, if_neg h2]

end Go.Proofs.YtgjlfcamgkeibaaGreatDoor.Bu

namespace Go.Proofs.YtgjlfcamgkeibaaGreatDoor.Bm
set_option linter.unusedVariables false
set_option linter.unusedSimpArgs false
open Ba Fm Nm
open Ro (At Ro)
open Tm (Tk put)
def mild (K : Nat) (l : List Ro) : Prop := ∀ x ∈ l, x.attrs.length ≤ K
theorem mild_add {K : Nat} {o : List Ro} {d : Int} {t : ByteArray} (h : mild K o) : mild K (addText o d t) := by
  unfold addText
  cases hy : o.getLast? with
  | none =>
    intro x hx
    rcases List.mem_append.1 hx with e | e
    · exact h x e
    · rw [List.mem_singleton.1 e]; exact Nat.zero_le _
  | some z =>
    show mild K (if z.kind = 1 ∧ z.depth = d then _ else _)
    split
    · intro x hx
      rcases List.mem_append.1 hx with e | e
      · exact h x (List.dropLast_subset _ e)
      · rw [List.mem_singleton.1 e]; exact h z (List.mem_of_getLast? hy)
    · intro x hx
      rcases List.mem_append.1 hx with e | e
      · exact h x e
      · rw [List.mem_singleton.1 e]; exact Nat.zero_le _
theorem txt_add (o : List Ro) (d : Int) (t : ByteArray) : Ro.txt (addText o d t) = Ro.txt o ++ L t := by
  unfold addText
  cases hy : o.getLast? with
  | none => show Ro.txt (o ++ [_]) = _; rw [Ro.txt_append, Ro.txt_text rfl]
  | some z =>
    show Ro.txt (if z.kind = 1 ∧ z.depth = d then _ else _) = _
    split
    · rename_i hc
      have ho := last_snoc hy
      have e1 : Ro.txt o = Ro.txt o.dropLast ++ L z.data := by
        have := congrArg Ro.txt ho
        rw [Ro.txt_append, Ro.txt_text hc.1] at this
        exact this
      rw [Ro.txt_append, e1, Ro.txt_text (show (⟨z.depth, z.kind, z.name, z.data ++ t, z.attrs⟩ : Ro).kind = 1 from hc.1), List.append_assoc]
      show _ ++ L (z.data ++ t) = _
      rw [L_append]
    · rw [Ro.txt_append, Ro.txt_text rfl]
theorem mild_normal {K : Nat} (l : List Ro) : full l → mild K l → mild K (Ro.normal l) ∧ Ro.txt (Ro.normal l) = Ro.txt l := by
  induction hn : l.length using Nat.strongRecOn generalizing l with
  | ind n ih =>
    subst hn
    intro h hk
    rcases snoc_cases l with rfl | ⟨m, y, rfl⟩
    · rw [Ro.normal]; exact ⟨(fun x hx => by cases hx), rfl⟩
    · obtain ⟨h1, h2⟩ := ih m.length (by rw [List.length_append]; exact Nat.lt_succ_self _) m rfl (full_init h) (fun x hx => hk x (List.mem_append_left _ hx))
      rw [normal_snoc m y h]
      split
      · rename_i hy
        exact ⟨mild_add h1, by rw [txt_add, h2, Ro.txt_append, Ro.txt_text hy]⟩
      · rename_i hy
        refine ⟨fun x hx => ?_, by rw [Ro.txt_append, Ro.txt_append, h2]⟩
        rcases List.mem_append.1 hx with e | e
        · exact h1 x e
        · rw [List.mem_singleton.1 e]; exact hk y (List.mem_append_right _ (List.mem_singleton.2 rfl))

end Go.Proofs.YtgjlfcamgkeibaaGreatDoor.Bm

namespace Go.Proofs.YtgjlfcamgkeibaaGreatDoor.Bu
set_option maxRecDepth 100000
set_option linter.unusedVariables false
set_option linter.unusedSimpArgs false
open Go.RowKit Ba Fm Fo Nm Bm
open Ro (At Ro Cw ros Fr Ow Att Ap Rr Sh Ra Rv acells len_acells cells len_cells rowV rowO info_row info_attr below_new len_ros ros_append)
open Tm (Tk put)
open To (Tw Aw tokV tokO tks)
set_option maxRecDepth 100000 in
set_option maxHeartbeats 2000000 in
theorem take_any (N b m T : Nat) (st : St) (x : Tw) (w : World) (h : Bt N w b st false m T) (hx : To.Att w N x) (hm : m < 1000000) (hal : x.tk.attrs.length ≤ 1000000) (hbig : tooBig st.out = false) :
    Calls Tryz.prog 118 #[bp b, tokV x] w fun e w' => e = .returned (.tuple #[]) ∧ Bt N w' b (stepB st x.tk) (tooBig (stepB st x.tk).out) (m + 1) (T + x.tk.data.size) ∧ Below N w w' := by
  obtain ⟨h1, hB1⟩ := h.below (below_new w (tokO x))
  have hx1 : To.Att (w.alloc (tokO x)) N x := hx.below hB1
  have H1 := Lib.hid h1; have HX := Lib.hid hx1; have HB := Lib.hid hB1
  have hsame : Bt N (w.alloc (tokO x)) b st (tooBig st.out) (m + 1) (T + x.tk.data.size) := by rw [hbig]; exact h1.more (Nat.le_succ _) (Nat.le_add_right _ _)
  have HSM := Lib.hid hsame
  clear h hx h1 hB1 hx1 hsame
  by_cases k0 : x.tk.kind = 0
  · have g0 : (x.tk.kind == 0) = true := beq_iff_eq.2 k0
    have HS := Lib.hid (step_0 (st := st) k0)
    clear k0
    by_cases hd : x.tk.data = ⟨#[]⟩
    · have hs : stepB st x.tk = st := by rw [HS.out, if_pos hd]
      have HS2 := Lib.hid hs; have HD := Lib.hid hd
      clear hs hd HS
      go_enter Tryz.func118, Tryz.ntmps118
      go_wp2_with fail
      refine (text_no b x.tk.data _ HD.out).mono ?_
      rintro e w2 ⟨rfl, rfl⟩
      go_wp2
      first | go_end0 | refine bodyPost_ret (results_none rfl _ _ _) rfl ?_
      rw [HS2.out]
      exact ⟨rfl, HSM.out, HB.out⟩
    · have hs : stepB st x.tk = ⟨st.stk, addText st.out st.stk.length x.tk.data⟩ := by rw [HS.out, if_neg hd]
      have HS2 := Lib.hid hs; have HD := Lib.hid hd
      clear hs hd HS
      go_enter Tryz.func118, Tryz.ntmps118
      go_wp2_with fail
      refine (text_yes N b m T st false x.tk.data _ H1.out hm HD.out).mono ?_
      rintro e w2 ⟨rfl, h2, b2⟩
      have H2 := Lib.hid h2; have B2 := Lib.hid (HB.out.trans b2)
      clear h2 b2
      go_wp2
      first | go_end0 | refine bodyPost_ret (results_none rfl _ _ _) rfl ?_
      rw [HS2.out]
      exact ⟨rfl, H2.out, B2.out⟩
  have g0 : (x.tk.kind == 0) = false := beq_eq_false_iff_ne.2 k0
  by_cases k3 : x.tk.kind = 3
  · have g3 : (x.tk.kind == 3) = true := beq_iff_eq.2 k3
    have HS := Lib.hid (step_3 (st := st) k3)
    clear k0 k3
    go_enter Tryz.func118, Tryz.ntmps118
    go_wp2_with fail
    refine (add_bt N b m T st false ⟨⟨0, 2, ⟨#[]⟩, x.tk.data, []⟩, none, 0⟩ _ _ rfl H1.out (fr_row N _ _ rfl) hm (by simp) (by simp) x.tk.data.size (by simp)).mono ?_
    rintro e w2 ⟨rfl, h2, b2, _⟩
    have H2 := Lib.hid h2; have B2 := Lib.hid (HB.out.trans b2)
    clear h2 b2
    go_wp2
    first | go_end0 | refine bodyPost_ret (results_none rfl _ _ _) rfl ?_
    rw [HS.out]
    exact ⟨rfl, H2.out, B2.out⟩
  have g3 : (x.tk.kind == 3) = false := beq_eq_false_iff_ne.2 k3
  by_cases k1 : x.tk.kind = 1
  · have g1 : (x.tk.kind == 1) = true := beq_iff_eq.2 k1
    have HS := Lib.hid (step_1 (st := st) k1)
    clear k0 k3 k1
    cases hn : noName x.tk.name with
    | true =>
      have hs : stepB st x.tk = st := by rw [HS.out, if_pos hn]
      have HS2 := Lib.hid hs; have HN := Lib.hid hn
      clear hs hn HS
      go_enter Tryz.func118, Tryz.ntmps118
      go_wp2_with fail
      refine (start_no b x _ HN.out).mono ?_
      rintro e w2 ⟨rfl, b2⟩
      obtain ⟨h2, hb2⟩ := HSM.out.below b2
      have H2 := Lib.hid h2; have B2 := Lib.hid (HB.out.trans hb2)
      clear h2 b2 hb2
      go_wp2
      first | go_end0 | refine bodyPost_ret (results_none rfl _ _ _) rfl ?_
      rw [HS2.out]
      exact ⟨rfl, H2.out, B2.out⟩
    | false =>
      have hs : stepB st x.tk = startS st x.tk.name x.tk.attrs := by rw [HS.out, if_neg (by rw [hn]; simp)]
      have HS2 := Lib.hid hs; have HN := Lib.hid hn
      clear hs hn HS
      go_enter Tryz.func118, Tryz.ntmps118
      go_wp2_with fail
      refine (start_any N b m T st x _ H1.out HX.out hm hal HN.out).mono ?_
      rintro e w2 ⟨rfl, h2, b2⟩
      have H2 := Lib.hid h2; have B2 := Lib.hid (HB.out.trans b2)
      clear h2 b2
      go_wp2
      first | go_end0 | refine bodyPost_ret (results_none rfl _ _ _) rfl ?_
      rw [HS2.out]
      exact ⟨rfl, H2.out.more (Nat.le_refl _) (Nat.le_add_right _ _), B2.out⟩
  have g1 : (x.tk.kind == 1) = false := beq_eq_false_iff_ne.2 k1
  by_cases k2 : x.tk.kind = 2
  · have g2 : (x.tk.kind == 2) = true := beq_iff_eq.2 k2
    have HS := Lib.hid (step_2 (st := st) k2)
    clear k0 k3 k1 k2
    by_cases hn : noName x.tk.name = true ∨ (noName x.tk.name = false ∧ isIn x.tk.name voidL = true)
    · have hs : stepB st x.tk = st := by rw [HS.out, if_pos (hn.imp id And.right)]
      have HS2 := Lib.hid hs; have HN := Lib.hid hn
      clear hs hn HS
      go_enter Tryz.func118, Tryz.ntmps118
      go_wp2_with fail
      refine (end_no b x.tk.name _ HN.out).mono ?_
      rintro e w2 ⟨rfl, b2⟩
      obtain ⟨h2, hb2⟩ := HSM.out.below b2
      have H2 := Lib.hid h2; have B2 := Lib.hid (HB.out.trans hb2)
      clear h2 b2 hb2
      go_wp2
      first | go_end0 | refine bodyPost_ret (results_none rfl _ _ _) rfl ?_
      rw [HS2.out]
      exact ⟨rfl, H2.out, B2.out⟩
    · have hn1 : noName x.tk.name = false := by
        cases h : noName x.tk.name with
        | true => exact absurd (.inl h) hn
        | false => rfl
      have hn2 : isIn x.tk.name voidL = false := by
        cases h : isIn x.tk.name voidL with
        | true => exact absurd (.inr ⟨hn1, h⟩) hn
        | false => rfl
      have hs : stepB st x.tk = endS st x.tk.name := by rw [HS.out, if_neg (by rw [hn1, hn2]; simp)]
      have HS2 := Lib.hid hs; have HN1 := Lib.hid hn1; have HN2 := Lib.hid hn2; have HBIG := Lib.hid hbig
      clear hs hn hn1 hn2 HS hbig
      go_enter Tryz.func118, Tryz.ntmps118
      go_wp2_with fail
      refine (end_any N b m T st x.tk.name _ H1.out hm HN1.out HN2.out HBIG.out).mono ?_
      rintro e w2 ⟨rfl, h2, b2⟩
      have H2 := Lib.hid h2; have B2 := Lib.hid (HB.out.trans b2)
      clear h2 b2
      go_wp2
      first | go_end0 | refine bodyPost_ret (results_none rfl _ _ _) rfl ?_
      rw [HS2.out]
      exact ⟨rfl, H2.out.more (Nat.le_refl _) (Nat.le_add_right _ _), B2.out⟩
  have g2 : (x.tk.kind == 2) = false := beq_eq_false_iff_ne.2 k2
  have HS := Lib.hid (step_no (st := st) k0 k1 k2 k3)
  clear k0 k1 k2 k3
  go_enter Tryz.func118, Tryz.ntmps118
  go_wp2
  first | go_end0 | refine bodyPost_ret (results_none rfl _ _ _) rfl ?_
  rw [HS.out]
  exact ⟨rfl, HSM.out, HB.out⟩

def dsum : List Tk → Nat
  | [] => 0
  | t :: r => t.data.size + dsum r
theorem tree_cons (st : St) (t : Tk) (r : List Tk) : treeB st (t :: r) = if tooBig (stepB st t).out = true then none else treeB (stepB st t) r := rfl

def TreeSays (w : World) (t : List Tk) (e : Ending) (w' : World) : Prop :=
  (match treeB ⟨[], []⟩ t with
  | none => e = .returned (.tuple #[.slice none 0 0, .int .i64 2])
  | some o => ∃ v y, e = .returned (.tuple #[v, .int .i64 0]) ∧ Ow w.heap.size w' v y ∧ (∀ z ∈ y, Fr w.heap.size w' z) ∧ ros y = o ∧ Ro.Few o ∧ (Ro.txt o).length ≤ 1000000000) ∧ Below w.heap.size w w'
theorem TreeSays.no {w w' : World} {t : List Tk} {e : Ending} (h : treeB ⟨[], []⟩ t = none) (he : e = .returned (.tuple #[.slice none 0 0, .int .i64 2])) (hb : Below w.heap.size w w') : TreeSays w t e w' := by
  refine ⟨?_, hb⟩
  rw [h]
  exact he
theorem TreeSays.yes {w w' : World} {t : List Tk} {e : Ending} {o : List Ro} (h : treeB ⟨[], []⟩ t = some o) (he : ∃ v y, e = .returned (.tuple #[v, .int .i64 0]) ∧ Ow w.heap.size w' v y ∧ (∀ z ∈ y, Fr w.heap.size w' z) ∧ ros y = o ∧ Ro.Few o ∧ (Ro.txt o).length ≤ 1000000000) (hb : Below w.heap.size w w') : TreeSays w t e w' := by
  refine ⟨?_, hb⟩
  rw [h]
  exact he

set_option maxRecDepth 100000 in
set_option maxHeartbeats 4000000 in
theorem Tree_any (A : Option Addr) (c : Nat) (l : List Tw) (w : World) (hr : To.Rr w w.heap.size A l) (hc : l.length ≤ c) (hl : l.length ≤ 700000) (hd : dsum (tks l) ≤ 1000000000) (hat : ∀ x ∈ l, x.tk.attrs.length ≤ 1000000) :
    Calls Tryz.prog 74 #[.slice A l.length c] w fun e w' => TreeSays w (tks l) e w' := by
  obtain ⟨W0, hW0⟩ : ∃ W0, w.alloc (.cells #[.slice none 0 0, .slice none 0 0, .int .i64 0, .bool false] 116) = W0 := ⟨_, rfl⟩
  have h0 : Bt w.heap.size W0 w.heap.size ⟨[], []⟩ false 0 0 := by
    rw [← hW0]
    exact ⟨⟨[], ⟨.slice none 0 0, .slice none 0 0, World.alloc_heap_new _ _, Sown.nil _ _, Or.nil _ _, Nat.le_refl _⟩, full_nil, by unfold ros; rw [List.map_nil, Ro.normal], Nat.le_refl _, Nat.le_refl _, fun x hx => by cases hx⟩, Nat.le_refl _⟩
  have hb0 : Below w.heap.size w W0 := by rw [← hW0]; exact below_one w _
  obtain ⟨Z, hZ⟩ : ∃ Z, w.heap.size = Z := ⟨_, rfl⟩
  go_enter Tryz.func74, Tryz.ntmps74
  go_wp2
  rw [hZ] at h0 hb0 hr
  go_loopw [9] (fun i wr => ∃ (k T : Nat) (st : St), i = .int .i64 k ∧ k ≤ l.length ∧ Bt Z wr Z st false k T ∧ tooBig st.out = false ∧ treeB ⟨[], []⟩ (tks l) = treeB st ((tks l).drop k) ∧ T + dsum ((tks l).drop k) ≤ 1000000000 ∧ Below Z w wr) (fun i _ => l.length - (intOf i).toNat)
  case atStart => exact ⟨0, 0, ⟨[], []⟩, rfl, Nat.zero_le _, h0, by decide, by rw [List.drop_zero], by rw [List.drop_zero]; omega, hb0⟩
  case round =>
    clear h0 hb0 hW0
    obtain ⟨k, T, st, rfl, hk, hbt, hbig, htr, hT, hbel⟩ := hrel
    by_cases hp : k < l.length
    · obtain ⟨b, off, x, rfl, hb, hdx, hx, hxa, hxm⟩ := (hr.below hbel).at_ k hp
      obtain ⟨x0, x1, x2, x3, x4⟩ := Ro.range5 hx
      have hdr : (tks l).drop k = x.tk :: (tks l).drop (k + 1) := by rw [To.tks_drop, hdx, To.tks_cons, ← To.tks_drop]
      rw [hdr, tree_cons] at htr
      rw [hdr] at hT
      have hT2 : T + x.tk.data.size + dsum ((tks l).drop (k + 1)) ≤ 1000000000 := by
        have : dsum (x.tk :: (tks l).drop (k + 1)) = x.tk.data.size + dsum ((tks l).drop (k + 1)) := rfl
        omega
      have hb1 := below_new wr (tokO x)
      obtain ⟨h1, hB1⟩ := hbt.below hb1
      have hxa1 : To.Att (wr.alloc (tokO x)) Z x := hxa.below hB1
      have hbz : Z < wr.heap.size := hbt.n.2
      have H1 := Lib.hid h1; have HX := Lib.hid hxa1; have HB1 := Lib.hid (hbel.trans hB1); have HTR := Lib.hid htr; have HT2 := Lib.hid hT2; have HBIG := Lib.hid hbig
      have hal := hat x hxm
      clear hbt hbig htr hT hbel hdx hx hxa hxm hdr hT2 hb1 h1 hB1 hxa1
      cases hq : tooBig (stepB st x.tk).out with
      | true =>
        have HQ := Lib.hid hq
        clear hq
        go_wp2_with fail
        refine (take_any Z Z k T st x (wr.alloc (tokO x)) H1.out HX.out (by omega) hal HBIG.out).mono ?_
        rintro e w2 ⟨rfl, h2, b2⟩
        rw [HQ.out] at h2
        obtain ⟨⟨l2, ⟨vo, vr, hc2, _⟩, _⟩, _⟩ := h2
        have c3 := hc2.c3
        have HB2 := Lib.hid (HB1.out.trans b2)
        clear hc2 b2
        go_wp2
        go_ret2
        exact TreeSays.no (by rw [HTR.out, if_pos HQ.out]) rfl (hZ ▸ HB2.out)
      | false =>
        have HQ := Lib.hid hq
        clear hq
        go_wp2_with fail
        refine (take_any Z Z k T st x (wr.alloc (tokO x)) H1.out HX.out (by omega) hal HBIG.out).mono ?_
        rintro e w2 ⟨rfl, h2, b2⟩
        rw [HQ.out] at h2
        have H2 := Lib.hid h2
        obtain ⟨⟨l2, ⟨vo, vr, hc2, _⟩, _⟩, _⟩ := h2
        have c3 := hc2.c3
        have HB2 := Lib.hid (HB1.out.trans b2)
        clear hc2 b2
        go_wp2
        go_roundw
        case rel => exact ⟨k + 1, T + x.tk.data.size, stepB st x.tk, by go_num, by omega, H2.out, HQ.out, by rw [HTR.out, if_neg (by rw [HQ.out]; simp)], HT2.out, HB2.out⟩
        case measure => simp [intOf]; omega
    · rw [List.drop_eq_nil_of_le (by rw [To.len_tks]; omega)] at htr hT
      obtain ⟨⟨l2, ⟨vo, vr, hc2, ho2, hr2, hN2⟩, hf, hn, hl2, ht, hx2⟩, _⟩ := hbt
      obtain ⟨A2, c2, rfl, hcc, _, _, hrr⟩ := hr2.form
      have c1 := hc2.c1
      have hfew : Ro.Few (ros l2) := fun y hy => by
        obtain ⟨z, hz, rfl⟩ := List.mem_map.1 hy
        exact (hx2 z hz).1
      have hheld : Ro.Held (ros l2) := fun y hy => by
        obtain ⟨z, hz, rfl⟩ := List.mem_map.1 hy
        have := (hx2 z hz).2
        omega
      have HR := Lib.hid hrr; have HF := Lib.hid hfew; have HH := Lib.hid hheld; have HN := Lib.hid hn; have HTR := Lib.hid htr; have HB := Lib.hid hbel
      have hT3 : (Ro.txt (ros l2)).length ≤ 1000000000 := by omega
      obtain ⟨hmi, hmt⟩ := mild_normal (K := 1000000) (ros l2) hf hfew
      rw [hn] at hmi hmt
      have HMI := Lib.hid (show Ro.Few st.out from hmi); have HMT := Lib.hid (show (Ro.txt st.out).length ≤ 1000000000 from by rw [hmt]; exact hT3)
      clear hmi hmt
      clear hc2 ho2 hr2 hf hn ht hx2 hrr hfew hheld htr hT hbel hbig
      go_wp2_with fail
      refine (Ro.Normal_any A2 c2 l2 wr HR.out hcc (by omega) hT3 HF.out HH.out).mono ?_
      rintro e w3 ⟨v, y, rfl, ho, hfr, hros, b3⟩
      have HO := Lib.hid ho; have HFR := Lib.hid hfr; have HROS := Lib.hid hros; have B3 := Lib.hid b3
      clear ho hfr hros b3
      have hzw : Z ≤ wr.heap.size := by have := HB.out.size; omega
      go_wp2
      go_ret2
      exact TreeSays.yes (o := st.out) HTR.out ⟨v, y, rfl, HO.out.mono (by omega) (fun z hz => (show Fr w.heap.size w3 z from ⟨World.ownsRow.mono (HFR.out z hz).1 (by omega), (HFR.out z hz).2⟩).ap), fun z hz => ⟨World.ownsRow.mono (HFR.out z hz).1 (by omega), (HFR.out z hz).2⟩, by rw [HROS.out, HN.out], HMI.out, HMT.out⟩ (hZ ▸ HB.out.trans (B3.out.mono hzw))

end Go.Proofs.YtgjlfcamgkeibaaGreatDoor.Bu

namespace Go.Proofs.YtgjlfcamgkeibaaGreatDoor.Ch
set_option linter.unusedSimpArgs false
set_option linter.unusedVariables false
open Go.RowKit
abbrev L (s : ByteArray) : List UInt8 := s.data.toList
theorem size_L (s : ByteArray) : (L s).length = s.size := by rw [Array.length_toList]; rfl
theorem drop_ne (s : ByteArray) (k : Nat) (h : k < s.size) : (L s).drop k ≠ [] := by
  intro e
  have := congrArg List.length e
  rw [List.length_drop, size_L] at this
  simp at this; omega
theorem drop_nil (s : ByteArray) (k : Nat) (h : ¬ k < s.size) : (L s).drop k = [] := List.drop_eq_nil_of_le (by rw [size_L]; omega)

theorem ret_str {a b : ByteArray} (h : a = b) : Ending.returned (.string a) = .returned (.string b) := by rw [h]

def B (l : List UInt8) : ByteArray := ⟨l.toArray⟩
theorem L_B (l : List UInt8) : L (B l) = l := by simp [B]
theorem size_B (l : List UInt8) : (B l).size = l.length := by rw [← size_L, L_B]
end Go.Proofs.YtgjlfcamgkeibaaGreatDoor.Ch

namespace Go.Proofs.YtgjlfcamgkeibaaGreatDoor.Ch
set_option maxRecDepth 100000
set_option linter.unusedSimpArgs false
set_option linter.unusedVariables false
open Go.RowKit
def bc (b : UInt8) : Value := .int .u8 b.toNat
def Own (N : Nat) (w : World) (v : Value) (l : List UInt8) : Prop := w.ownsRow N 5 1 v l.length (l.map bc)

theorem info_u8 : (Tryz.prog.info? 5).map (fun i => (i.zero, i.size, i.bytes)) = some (some (.int .u8 0), 1, 1) := by kernel_rfl

theorem Own.iterAt {N : Nat} {w : World} {v : Value} {l : List UInt8} (h : Own N w v l) {k : Nat} {s : ByteArray} {pos : Nat} (hk : w.heap[k]? = some (.stringIter s pos)) (pos' : Nat) : Own N (w.iterAt k s pos') v l := by
  refine ⟨h.1, ?_⟩
  rcases h.2 with hn | ⟨g, cap, cur, hv, hb, hg, rest⟩
  · exact .inl hn
  · have hkg : g ≠ k := by
      intro e1
      rw [e1, hk] at hg
      cases hg
    exact .inr ⟨g, cap, cur, hv, hb, (Lib.iterAt_other w k g s pos' hkg).trans hg, rest⟩

theorem Own.iterKept {N : Nat} {w w' : World} {v : Value} {l : List UInt8} (h : Own N w v l) (hg : w.grownBy w' v.ownBlock) {k : Nat} {s : ByteArray} {pos : Nat} (hk : w.heap[k]? = some (.stringIter s pos)) : w'.heap[k]? = some (.stringIter s pos) := by
  have hlt : k < w.heap.size := (Array.getElem?_eq_some_iff.1 hk).1
  rw [hg.block k hlt, hk]
  intro e
  rcases h.2 with ⟨hv, _⟩ | ⟨g, cap, cur, hv, hb, hgg, rest⟩
  · rw [hv] at e; simp [Value.ownBlock] at e
  · rw [hv] at e; simp [Value.ownBlock] at e
    rw [← e, hk] at hgg; cases hgg

theorem Own.below {N : Nat} {w0 w w' : World} {v : Value} {l : List UInt8} (h : Own N w v l) (hg : w.grownBy w' v.ownBlock) (hb : Below N w0 w) (hN : N ≤ w.heap.size) : Below N w0 w' :=
  hb.grown hg hN fun k hk => (h.lt k hk).1

theorem Own.string {N : Nat} {w : World} {v : Value} {l : List UInt8} (h : Own N w v l) : (convert 88 9 v).run Tryz.prog w = .ok (.string (B l)) w := by
  rcases h.2 with ⟨hv, hl⟩ | ⟨g, cap, cur, hv, hb, hgg, rest⟩
  · have : l = [] := List.eq_nil_of_length_eq_zero hl
    subst this hv
    rw [run_convert_bytes_string w _ _ _ none 0 0 Tryz.underlying88 Tryz.underlying5 Tryz.underlying9]
    rfl
  · subst hv
    exact run_convert_bytes_back w _ _ _ ⟨g, 0, none⟩ cap l Tryz.underlying88 Tryz.underlying5 Tryz.underlying9 fun j hj => World.ownsRow.cells h rfl j _ (by simp [bc, hj])

theorem strCells_L (s : ByteArray) : Lib.strCells s = (L s).map bc := rfl

theorem Own.appended {N : Nat} {w : World} {v : Value} {l m : List UInt8} {n : Nat} (h : w.ownsRow N 5 1 v n (l.map bc ++ m.map bc)) (hn : n = l.length + m.length) : Own N w v (l ++ m) := by
  unfold Own
  rw [List.map_append, List.length_append, ← hn]
  exact h

theorem L_def (s : ByteArray) : L s = s.data.toList := rfl
theorem enc_F : L (Utf8.encode 65533) = F :=
  (L_def _).trans ((congrArg (fun z : Int => (Utf8.encode z).data.toList) (show (65533 : Int) = ((0xFFFD : Nat) : Int) from rfl)).trans F_good.enc)
theorem enc_r (r : Nat) (h : r ≠ 0) : L (Utf8.encode r) = encR r := (L_def _).trans (encR_pos h).symm

set_option maxHeartbeats 1000000 in
theorem decode_any (s : ByteArray) (w : World) (hs : s.size ≤ 140737488355328) (hd : (dL (L s)).length ≤ 140737488355328) :
    Calls Tryz.prog 125 #[.string s] w fun e w' => e = .returned (.string (B (dL (L s)))) ∧ Below w.heap.size w w' := by
  obtain ⟨i0, hi, hz0, hz1, hz2⟩ := info_parts info_u8
  go_enter Tryz.func125, Tryz.ntmps125
  go_wp2_with (at_make; refine wpList_make_own _ rfl (.const (.int .i64 0)) (.tmp 7) 88 rfl w.heap.size 5 i0 (.int .u8 0) 1 Tryz.underlying88 hi hz0 hz1 .i64 .i64 _ s.size rfl rfl rfl (by rw [hz2]; omega) (by unfold maxLen; omega) (Nat.le_refl _) ?_; intro w1 hown hgrow)
  have hk0 : (w1.iter s 0).heap[w1.heap.size]? = some (.stringIter s 0) := World.iter_heap w1 s 0
  have hb0 : Below w.heap.size w (w1.iter s 0) := ((Below.refl w.heap.size w).grown hgrow (Nat.le_refl _) (by simp)).alloc hgrow.size _
  have ho0 : Own w.heap.size (w1.iter s 0) (.slice (some ⟨w.heap.size, 0, none⟩) 0 s.size) [] := World.ownsRow.alloc hown _
  have hsz1 := hgrow.size
  clear hown hgrow
  have HK0 := Lib.hid hk0; clear hk0
  go_loopw [3, 5] (fun v _ wr => ∃ (pos : Nat) (acc : List UInt8), wr.heap[w1.heap.size]? = some (.stringIter s pos) ∧ Own w.heap.size wr v acc ∧ acc ++ dL ((L s).drop pos) = dL (L s) ∧ Below w.heap.size w wr) (fun _ _ wr => s.size - wr.iterPos w1.heap.size)
  case atStart => exact ⟨0, [], HK0.out, ho0, by simp, hb0⟩
  case round =>
    clear ho0 hb0 HK0
    obtain ⟨pos, acc, hk, hown, hc, hbel⟩ := hrel
    have hpos : wr.iterPos w1.heap.size = pos := iterPos_of hk
    have HC := Lib.hid hc; clear hc
    have HP := Lib.hid hpos; clear hpos
    by_cases hp : pos < s.size
    · have hnx : ∀ ty, (Instr.next (.pointer (some ⟨w1.heap.size, 0, none⟩)) true ty).run Tryz.prog wr = _ := fun ty => Lib.run_next_any_at wr _ s pos ty hk hp
      have hdp := dec_pos _ (drop_ne s pos hp)
      have hst := dL_step _ (drop_ne s pos hp)
      rw [List.drop_drop] at hst
      rw [← decode_eq] at hst hdp
      have hk' := Lib.iterAt_heap wr w1.heap.size s pos (pos + (Utf8.decode s pos).2) hk
      have hown' := hown.iterAt hk (pos + (Utf8.decode s pos).2)
      have hbel' := Lib.below_iterAt hbel (k := w1.heap.size) hsz1 s (pos + (Utf8.decode s pos).2)
      have hN : w.heap.size ≤ (wr.iterAt w1.heap.size s (pos + (Utf8.decode s pos).2)).heap.size := hbel'.size
      have HS := Lib.hid hst; clear hst
      have HK := Lib.hid hk'; clear hk hk'
      clear hown hbel
      by_cases hr : (Utf8.decode s pos).1 = 0
      · have hrb : (((Utf8.decode s pos).1 : Int) == 0) = true := by rw [hr]; rfl
        have HR := Lib.hid hr; clear hr
        have he : L (Utf8.encode 65533) = F := enc_F
        have hbd : acc.length + (Utf8.encode 65533).size ≤ 140737488355328 := by
          have h1 := congrArg List.length HC.out
          rw [HS.out, HR.out, encR_zero, List.length_append, List.length_append] at h1
          rw [← size_L, he]; omega
        have HE := Lib.hid he; clear he
        go_wp2_with (at_builtin; refine Lib.wpList_append_own_string _ rfl (.tmp 16) (.tmp 18) 88 9 rfl w.heap.size 5 i0 Tryz.underlying88 Tryz.underlying9 hi hz0 hz1 hz2 _ acc.length (acc.map bc) rfl hown' _ rfl (by unfold maxLen; omega) hbd hN ?_; intro v2 w2 hown2 hgrow2 _)
        go_roundw
        case rel =>
          refine ⟨pos + (Utf8.decode s pos).2, acc ++ F, hown'.iterKept hgrow2 HK.out, ?_, ?_, hown'.below hgrow2 hbel' hN⟩
          · rw [strCells_L, HE.out] at hown2
            exact Own.appended hown2 (by rw [← size_L, HE.out])
          · rw [← HC.out, HS.out, List.append_assoc]; rw [HR.out, encR_zero]
        case measure =>
          rw [iterPos_of (hown'.iterKept hgrow2 HK.out), HP.out]
          omega
      · have hrb : (((Utf8.decode s pos).1 : Int) == 0) = false := by simpa using fun h => hr (by omega)
        have he : L (Utf8.encode (Utf8.decode s pos).1) = encR (Utf8.decode s pos).1 := enc_r _ hr
        clear hr
        have hbd : acc.length + (Utf8.encode (Utf8.decode s pos).1).size ≤ 140737488355328 := by
          have h1 := congrArg List.length HC.out
          rw [HS.out, List.length_append, List.length_append] at h1
          rw [← size_L, he]; omega
        have HE := Lib.hid he; clear he
        go_wp2_with (at_builtin; refine Lib.wpList_append_own_string _ rfl (.tmp 16) (.tmp 18) 88 9 rfl w.heap.size 5 i0 Tryz.underlying88 Tryz.underlying9 hi hz0 hz1 hz2 _ acc.length (acc.map bc) rfl hown' _ rfl (by unfold maxLen; omega) hbd hN ?_; intro v2 w2 hown2 hgrow2 _)
        go_roundw
        case rel =>
          refine ⟨pos + (Utf8.decode s pos).2, acc ++ encR (Utf8.decode s pos).1, hown'.iterKept hgrow2 HK.out, ?_, ?_, hown'.below hgrow2 hbel' hN⟩
          · rw [strCells_L, HE.out] at hown2
            exact Own.appended hown2 (by rw [← size_L, HE.out])
          · rw [← HC.out, HS.out, List.append_assoc]
        case measure =>
          rw [iterPos_of (hown'.iterKept hgrow2 HK.out), HP.out]
          omega
    · have hnx : ∀ ty, (Instr.next (.pointer (some ⟨w1.heap.size, 0, none⟩)) true ty).run Tryz.prog wr = _ := fun ty => Lib.run_next_end_at wr _ s pos ty hk hp
      have hcv := hown.string
      clear hk
      go_wp2
      go_ret
      refine ⟨ret_str ?_, hbel⟩
      have h1 := HC.out
      rw [drop_nil s pos hp, dL_nil, List.append_nil] at h1
      rw [h1]

end Go.Proofs.YtgjlfcamgkeibaaGreatDoor.Ch

namespace Go.Proofs.YtgjlfcamgkeibaaGreatDoor.Ch
set_option maxRecDepth 100000
set_option linter.unusedSimpArgs false
set_option linter.unusedVariables false
open Go.RowKit
theorem drop_cons (s : ByteArray) (k : Nat) (h : k < s.size) : (L s).drop k = s[k] :: (L s).drop (k + 1) := by
  rw [List.drop_eq_getElem_cons (by rw [size_L]; exact h)]
  rfl

def was (s : ByteArray) (k : Nat) : Bool := (L s)[k - 1]? == some 13 && decide (0 < k)

theorem was_zero (s : ByteArray) : was s 0 = false := by simp [was]
theorem was_succ (s : ByteArray) (k : Nat) (h : k < s.size) : was s (k + 1) = (s[k] == 13) := by
  have : (L s)[k]? = some s[k] := by rw [List.getElem?_eq_getElem (by rw [size_L]; exact h)]; rfl
  simp [was, this]

theorem bd {acc rest total : List UInt8} {x : UInt8} {n : Nat} (h : (acc ++ [x]) ++ rest = total) (ht : total.length ≤ n) : acc.length + 1 ≤ n := by
  have h1 := congrArg List.length h
  rw [List.length_append, List.length_append, List.length_cons, List.length_nil] at h1
  omega

theorem Own.alloc {N : Nat} {w : World} {v : Value} {l : List UInt8} (h : Own N w v l) (o : Obj) : Own N (w.alloc o) v l := World.ownsRow.alloc h o

set_option maxHeartbeats 1000000 in
theorem lines_any (s : ByteArray) (w : World) (hs : s.size ≤ 140737488355328) :
    Calls Tryz.prog 124 #[.string s] w fun e w' => e = .returned (.string (B (ln false (L s)))) ∧ Below w.heap.size w w' := by
  obtain ⟨i0, hi, hz0, hz1, hz2⟩ := info_parts info_u8
  have hll := ln_len false (L s)
  rw [size_L] at hll
  go_enter Tryz.func124, Tryz.ntmps124
  go_wp2_with (at_make; refine wpList_make_own _ rfl (.const (.int .i64 0)) (.tmp 6) 88 rfl w.heap.size 5 i0 (.int .u8 0) 1 Tryz.underlying88 hi hz0 hz1 .i64 .i64 _ s.size rfl rfl rfl (by rw [hz2]; omega) (by unfold maxLen; omega) (Nat.le_refl _) ?_; intro w1 hown hgrow)
  have hb0 : Below w.heap.size w w1 := (Below.refl w.heap.size w).grown hgrow (Nat.le_refl _) (by simp)
  have ho0 : Own w.heap.size w1 (.slice (some ⟨w.heap.size, 0, none⟩) 0 s.size) [] := hown
  clear hown hgrow
  go_loopw [3, 4, 10] (fun v _ i wr => ∃ (k : Nat) (acc : List UInt8), i = .int .i64 k ∧ k ≤ s.size ∧ Own w.heap.size wr v acc ∧ acc ++ ln (was s k) ((L s).drop k) = ln false (L s) ∧ Below w.heap.size w wr) (fun _ _ i _ => s.size - (intOf i).toNat)
  case atStart => exact ⟨0, [], rfl, Nat.zero_le _, ho0, by simp [was_zero], hb0⟩
  case round =>
    clear ho0 hb0
    obtain ⟨k, acc, rfl, hks, hown, hc, hbel⟩ := hrel
    have hN := hbel.size
    by_cases hp : k < s.size
    · have hdc := drop_cons s k hp
      rw [hdc] at hc
      have hws := was_succ s k hp
      have HW := Lib.hid hws; clear hws hdc
      by_cases h13 : s[k] = 13
      · have hb13 : ((s[k].toNat : Int) == 13) = true := by rw [h13]; rfl
        have hc' : (acc ++ [10]) ++ ln (was s (k + 1)) ((L s).drop (k + 1)) = ln false (L s) := by
          rw [← hc, h13, ln_13, HW.out, h13, List.append_assoc]; rfl
        have hbd := bd hc' hll
        have HC := Lib.hid hc'; clear hc hc' h13
        go_wp2_with (at_builtin; refine wpList_append_own _ rfl (.tmp 24) (.tmp 25) 88 rfl w.heap.size 5 i0 (.int .u8 0) 1 1 Tryz.underlying88 hi hz0 hz1 hz2 rfl (by decide) _ acc.length (acc.map bc) rfl (hown.alloc _) ⟨wr.heap.size, 0, none⟩ 1 1 [.int .u8 10] rfl rfl (cell_one_new _ _ _) (by intro u hu; simp at hu; subst hu; rfl) (by unfold maxLen; omega) (by omega) (by simp; omega) ?_; intro v2 w2 hown2 hgrow2 _)
        go_roundw
        case rel => exact ⟨k + 1, acc ++ [10], by go_num, by omega, Own.appended (m := [10]) hown2 rfl, HC.out, (hown.alloc _).below hgrow2 (hbel.alloc hN _) (by simp; omega)⟩
        case measure => simp [intOf]; omega
      · have hb13 : ((s[k].toNat : Int) == 13) = false := by
          simpa using fun h => h13 (u8_ext (by simpa using (by omega : s[k].toNat = 13)))
        have hn13 : (s[k] == 13) = false := by simpa using h13
        by_cases h10 : s[k] = 10
        · have hb10 : ((s[k].toNat : Int) == 10) = true := by rw [h10]; rfl
          by_cases h0 : 0 < k
          · obtain ⟨j, rfl⟩ : ∃ j, k = j + 1 := ⟨k - 1, by omega⟩
            have hj : j < s.size := by omega
            have hws := was_succ s j hj
            by_cases hj13 : s[j] = 13
            · have hbj : ((s[j].toNat : Int) == 13) = true := by rw [hj13]; rfl
              have hc' : acc ++ ln (was s (j + 1 + 1)) ((L s).drop (j + 1 + 1)) = ln false (L s) := by
                rw [← hc, h10, HW.out, hn13, hws, hj13]
                exact congrArg (acc ++ ·) (ln_10 _).symm
              have HC := Lib.hid hc'; clear hc hc' hws hj13 h10 h13 hn13 h0
              go_wp2_with fail
              go_roundw
              case rel => exact ⟨j + 1 + 1, acc, by go_num, by omega, hown, HC.out, hbel⟩
              case measure => simp [intOf]; omega
            · have hbj : ((s[j].toNat : Int) == 13) = false := by
                simpa using fun h => hj13 (u8_ext (by simpa using (by omega : s[j].toNat = 13)))
              have hc' : (acc ++ [s[j + 1]]) ++ ln (was s (j + 1 + 1)) ((L s).drop (j + 1 + 1)) = ln false (L s) := by
                rw [← hc, ln_other _ _ _ h13 ?_, HW.out, hn13, List.append_assoc]; rfl
                rw [hws]; simp [hj13]
              have hbd := bd hc' hll
              have HC := Lib.hid hc'; clear hc hc' hws hj13 h10 h13 hn13 h0
              go_wp2_with (at_builtin; refine wpList_append_own _ rfl (.tmp 13) (.tmp 17) 88 rfl w.heap.size 5 i0 (.int .u8 0) 1 1 Tryz.underlying88 hi hz0 hz1 hz2 rfl (by decide) _ acc.length (acc.map bc) rfl (hown.alloc _) ⟨wr.heap.size, 0, none⟩ 1 1 [.int .u8 s[j + 1].toNat] rfl rfl (cell_one_new _ _ _) (by intro u hu; simp at hu; subst hu; rfl) (by unfold maxLen; omega) (by omega) (by simp; omega) ?_; intro v2 w2 hown2 hgrow2 _)
              go_roundw
              case rel => exact ⟨j + 1 + 1, acc ++ [s[j + 1]], by go_num, by omega, Own.appended (m := [s[j + 1]]) hown2 rfl, HC.out, (hown.alloc _).below hgrow2 (hbel.alloc hN _) (by simp; omega)⟩
              case measure => simp [intOf]; omega
          · obtain rfl : k = 0 := by omega
            have hc' : (acc ++ [s[0]]) ++ ln (was s (0 + 1)) ((L s).drop (0 + 1)) = ln false (L s) := by
              rw [← hc, ln_other _ _ _ h13 ?_, HW.out, hn13, List.append_assoc]; rfl
              rw [was_zero]; simp
            have hbd := bd hc' hll
            have HC := Lib.hid hc'; clear hc hc' h10 h13 hn13 h0
            go_wp2_with (at_builtin; refine wpList_append_own _ rfl (.tmp 13) (.tmp 17) 88 rfl w.heap.size 5 i0 (.int .u8 0) 1 1 Tryz.underlying88 hi hz0 hz1 hz2 rfl (by decide) _ acc.length (acc.map bc) rfl (hown.alloc _) ⟨wr.heap.size, 0, none⟩ 1 1 [.int .u8 s[0].toNat] rfl rfl (cell_one_new _ _ _) (by intro u hu; simp at hu; subst hu; rfl) (by unfold maxLen; omega) (by omega) (by simp; omega) ?_; intro v2 w2 hown2 hgrow2 _)
            go_roundw
            case rel => exact ⟨0 + 1, acc ++ [s[0]], by go_num, by omega, Own.appended (m := [s[0]]) hown2 rfl, HC.out, (hown.alloc _).below hgrow2 (hbel.alloc hN _) (by simp; omega)⟩
            case measure => simp [intOf]; omega
        · have hb10 : ((s[k].toNat : Int) == 10) = false := by
            simpa using fun h => h10 (u8_ext (by simpa using (by omega : s[k].toNat = 10)))
          have hc' : (acc ++ [s[k]]) ++ ln (was s (k + 1)) ((L s).drop (k + 1)) = ln false (L s) := by
            rw [← hc, ln_other _ _ _ h13 (fun x => h10 x.1), HW.out, hn13, List.append_assoc]; rfl
          have hbd := bd hc' hll
          have HC := Lib.hid hc'; clear hc hc'
          clear h13 h10 hn13
          go_wp2_with (at_builtin; refine wpList_append_own _ rfl (.tmp 13) (.tmp 17) 88 rfl w.heap.size 5 i0 (.int .u8 0) 1 1 Tryz.underlying88 hi hz0 hz1 hz2 rfl (by decide) _ acc.length (acc.map bc) rfl (hown.alloc _) ⟨wr.heap.size, 0, none⟩ 1 1 [.int .u8 s[k].toNat] rfl rfl (cell_one_new _ _ _) (by intro u hu; simp at hu; subst hu; rfl) (by unfold maxLen; omega) (by omega) (by simp; omega) ?_; intro v2 w2 hown2 hgrow2 _)
          go_roundw
          case rel => exact ⟨k + 1, acc ++ [s[k]], by go_num, by omega, Own.appended (m := [s[k]]) hown2 rfl, HC.out, (hown.alloc _).below hgrow2 (hbel.alloc hN _) (by simp; omega)⟩
          case measure => simp [intOf]; omega
    · have hcv := hown.string
      rw [List.drop_eq_nil_of_le (by rw [size_L]; omega)] at hc
      have HC := Lib.hid hc; clear hc
      go_wp2
      go_ret
      refine ⟨ret_str ?_, hbel⟩
      have h1 := HC.out
      rw [show ln (was s k) [] = [] from by cases (was s k) <;> rfl, List.append_nil] at h1
      rw [h1]

theorem ready_any (s : ByteArray) (w : World) (hs : s.size ≤ 140737488355328) (hd : (dL (L s)).length ≤ 140737488355328) :
    Calls Tryz.prog 76 #[.string s] w fun e w' => e = .returned (.string (B (ln false (dL (L s))))) ∧ Below w.heap.size w w' := by
  go_enter Tryz.func76, Tryz.ntmps76
  go_wp2_with fail
  refine (decode_any s _ hs hd).mono ?_
  rintro e w1 ⟨rfl, hb1⟩
  go_wp2_with fail
  refine (lines_any (B (dL (L s))) _ (by rw [size_B]; exact hd)).mono ?_
  rintro e w2 ⟨rfl, hb2⟩
  go_wp2
  go_ret
  exact ⟨ret_str (by rw [L_B]), hb1.trans (hb2.mono hb1.size)⟩

end Go.Proofs.YtgjlfcamgkeibaaGreatDoor.Ch

namespace Go.Proofs.YtgjlfcamgkeibaaGreatDoor.Bu
set_option maxRecDepth 100000
set_option linter.unusedVariables false
set_option linter.unusedSimpArgs false
open Go.RowKit Ba Fm Fo Nm Bm
open Ro (At Ro Cw ros Fr Ow Rv)
open Tm (Tk within bulk bulkT bulkA)
open To (Tw tks)
open Re (Tab)
def rdy (l : List UInt8) : List UInt8 := Ch.ln false (Ch.dL l)
theorem len_rdy (l : List UInt8) : (rdy l).length ≤ 3 * l.length := Nat.le_trans (Ch.ln_len _ _) (Ch.len_dL l)
theorem dsum_bulk : ∀ l : List Tk, dsum l ≤ bulk l
  | [] => Nat.zero_le _
  | t :: r => by
    have := dsum_bulk r
    show t.data.size + dsum r ≤ (List.map bulkT (t :: r)).sum
    rw [List.map_cons, List.sum_cons]
    have e : bulkT t = t.name.size + t.data.size + bulkA t.attrs + t.attrs.length := rfl
    have e2 : bulk r = (List.map bulkT r).sum := rfl
    omega
def SaysM (w : World) (r : Option (List Ro)) (e : Ending) (w' : World) : Prop :=
  (match r with
  | none => e = .returned (.tuple #[.slice none 0 0, .int .i64 2])
  | some o => ∃ v y, e = .returned (.tuple #[v, .int .i64 0]) ∧ Rv w' v y ∧ ros y = o ∧ Ro.Few o ∧ (Ro.txt o).length ≤ 1000000000) ∧ Below w.heap.size w w'
theorem TreeSays.cases {w w' : World} {t : List Tk} {e : Ending} (h : TreeSays w t e w') :
    (treeB ⟨[], []⟩ t = none ∧ e = .returned (.tuple #[.slice none 0 0, .int .i64 2]) ∧ Below w.heap.size w w') ∨
    (∃ o v y, treeB ⟨[], []⟩ t = some o ∧ e = .returned (.tuple #[v, .int .i64 0]) ∧ Ow w.heap.size w' v y ∧ (∀ z ∈ y, Fr w.heap.size w' z) ∧ ros y = o ∧ (Ro.Few o ∧ (Ro.txt o).length ≤ 1000000000) ∧ Below w.heap.size w w') := by
  obtain ⟨h1, h2⟩ := h
  cases ht : treeB ⟨[], []⟩ t with
  | none => rw [ht] at h1; exact .inl ⟨rfl, h1, h2⟩
  | some o =>
    rw [ht] at h1
    obtain ⟨v, y, e1, e2, e3, e4, e5⟩ := h1
    exact .inr ⟨o, v, y, rfl, e1, e2, e3, e4, e5, h2⟩
theorem good_zero : ∀ {l : List Ro} {p : List ByteArray}, goodFrom p l → ∀ x ∈ l, 0 ≤ x.depth
  | [], p, _, x, h => by cases h
  | y :: l, p, h, x, hx => by
    rcases List.mem_cons.1 hx with e | e
    · rw [e]; exact h.1.1
    · exact good_zero h.2 x e
theorem tree_held {t : List Tk} {o : List Ro} (h : treeB ⟨[], []⟩ t = some o) : Ro.Held o := fun x hx => by
  obtain ⟨h1, _, _, h2⟩ := tree_all h
  have := good_zero h1 x hx
  have := h2.2 x hx
  omega

end Go.Proofs.YtgjlfcamgkeibaaGreatDoor.Bu
