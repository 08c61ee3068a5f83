/-
  Stage 11: the reference's add.
  Stage 11: the reference's Insert.
  Slices of strings in memory: what a slice reads as, and a slice of the call's own. For every stage.
  Plain mathematics for stage 2: lists that rise in a strict order, merging, inserting, counting; spaces, words and small letters of bytes. Nothing of the program stands here.
  Slices of strings as values: reading (Sv), of the call's own (Sown), literals, stores; the order of strings. For every stage from 5 on.
  fold.Space.
  Plain mathematics for stage 5: the lists of elements, what each closes and what ends the search, texts that may be names. Nothing of the program stands here.
  Walks of stage 5: names.inElement, inAttr, every, Attr, Right.
  boltingref02.Space.
  Walks of stage 5: names.inElement, inAttr, every, Right, Attr, and the document's bad, May.
  Stage 11: the reference's New, Make.
  Stage 11: the reference's Make.
  Stage 11: the reference's rows copied, one of them changed; element, Data.
  Stage 11: the reference's element, Data.
-/
import Derived.Test.YtfnffplnoicjcaaCk02
import Derived.Test.YtfnffplnoicjcaaCk01
import Derived.Deep.QuietTactic
import Derived.BigQuiet
namespace Go.Proofs.Ytfnffplnoicjcaa.Ar
set_option maxRecDepth 100000
set_option linter.unusedSimpArgs false
set_option linter.unusedVariables false
open Go.RowKit Ba
open Ro (At Ro Cw ros Rr Ow Nw Fr Att Ap Sh cells acells app_num below_new infoI info_row len_cells rowV rowO cells_one Few Fits deeper deeper_zero Moved_any)
/-- append of one row. -/
theorem app_rowL {ops : Array Oper} {rest : List Oper} {o : Oper} {a : Act} {Q : Exit → Act → World → Prop} (w : World) (hgd : o.guard = none) (s x : Operand)
    (ho : o.op = .call { callee := .builtin .append, args := #[s, x], argTypes := #[23, 23] })
    (N gX cX nX : Nat) (lX : List Cw) (hs : a.eval s = .slice (some ⟨gX, 0, none⟩) nX cX) (hown : w.ownsRow N 47 5 (.slice (some ⟨gX, 0, none⟩) nX cX) nX (lX.flatMap cells)) (y : Cw) (gy cy : Nat) (hx : a.eval x = .slice (some ⟨gy, 0, none⟩) 1 cy) (hy : ∀ j u, (cells y)[j]? = some u → w.cell? ⟨gy, j, none⟩ = some u)
    (hl : nX ≤ 2000000) (hN : N ≤ w.heap.size) (H : Nat) (hH : w.heap.size = H)
    (h : ∀ g' c' w', w'.ownsRow N 47 5 (.slice (some ⟨g', 0, none⟩) (nX + 1) c') (nX + 1) ((lX ++ [y]).flatMap cells) → w.grownBy w' (some gX) → (g' = gX ∨ g' = H) → wpList Try.prog ops Q rest (a.put o.dst (.slice (some ⟨g', 0, none⟩) (nX + 1) c')) w') :
    wpList Try.prog ops Q (o :: rest) a w := by
  obtain ⟨i0, hi, hz0, hz1, hz2⟩ := info_parts info_row
  refine wpList_append_lies w hgd s x 23 ho N 47 i0 _ 5 72 Try.underlying23 hi hz0 hz1 hz2 rfl (by decide) _ nX (lX.flatMap cells) hs hown ⟨gy, 0, none⟩ 1 cy (cells y) hx rfl (fun j u hu => ?_) (cells_one y) (by decide) (by unfold maxLen; omega) (by omega) hN H hH ?_
  · rw [WideShapes.add_plain, Nat.zero_add]
    exact hy j u hu
  · intro g' c' w' h1 h2 h3 _
    refine h g' c' w' (by rw [List.flatMap_append]; simpa using h1) h2 ?_
    rcases h3 with h3 | h3
    · exact .inl (Option.some.inj h3).symm
    · exact .inr h3
/-- One row of one's own: where it lies. -/
theorem row_one {K : Nat} {w : World} {v : Value} {y : Cw} (h : Ow K w v [y]) : ∃ g c, v = .slice (some ⟨g, 0, none⟩) 1 c ∧ K ≤ g ∧ g < w.heap.size ∧ w.ownsRow K 47 5 (.slice (some ⟨g, 0, none⟩) 1 c) 1 (cells y) := by
  have h1 := h.1
  rcases h.1.2 with ⟨hv, hl⟩ | ⟨g, cap, cur, hv, hg, hh, _⟩
  · simp at hl
  · refine ⟨g, cap, hv, hg, (Array.getElem?_eq_some_iff.1 hh).1, ?_⟩
    rw [hv] at h1
    simpa using h1
section
variable {w : World} {N : Nat} {F : Nat → Prop} {p nX nU nR gX cX gU cU gR cR : Nat} {lX : List Cw} {lU lR : List Int}
theorem RP.boxX {w' : World} (h : RP w N F p nX nU nR gX cX gU cU gR cR lX lU lR) (t : Touch (fun b => b = gX) w w') : w'.cell? ⟨p, 0, none⟩ = some (.slice (some ⟨gX, 0, none⟩) nX cX) ∧ w'.frozen? ⟨p, 0, none⟩ = false := by
  obtain ⟨⟨_, _, oX⟩, _, _⟩ := h.obj
  have hb := (t.block p h.p_lt (type_ne h.box oX (by decide))).trans h.box
  exact ⟨cell_of_row w' p 0 _ _ _ hb, box_frozen hb 0⟩
theorem RP.boxU {w' : World} (h : RP w N F p nX nU nR gX cX gU cU gR cR lX lU lR) (t : Touch (fun b => b = gU) w w') : w'.cell? ⟨p, 1, none⟩ = some (.slice (some ⟨gU, 0, none⟩) nU cU) ∧ w'.frozen? ⟨p, 1, none⟩ = false := by
  obtain ⟨_, ⟨_, _, oX⟩, _⟩ := h.obj
  have hb := (t.block p h.p_lt (type_ne h.box oX (by decide))).trans h.box
  exact ⟨cell_of_row w' p 1 _ _ _ hb, box_frozen hb 1⟩
theorem RP.boxR {w' : World} (h : RP w N F p nX nU nR gX cX gU cU gR cR lX lU lR) (t : Touch (fun b => b = gR) w w') : w'.cell? ⟨p, 2, none⟩ = some (.slice (some ⟨gR, 0, none⟩) nR cR) ∧ w'.frozen? ⟨p, 2, none⟩ = false := by
  obtain ⟨_, _, ⟨_, _, oX⟩⟩ := h.obj
  have hb := (t.block p h.p_lt (type_ne h.box oX (by decide))).trans h.box
  exact ⟨cell_of_row w' p 2 _ _ _ hb, box_frozen hb 2⟩
end
theorem rf_add {M : List Nd} {rk : List Int} (W : Wf M) (R : Rf M rk) (x : Ro) : Rf (addM M x) (rk ++ [0]) := by
  have hat : ∀ c, c < M.length → rkAt (rk ++ [0]) c = rkAt rk c := fun c hc => by
    unfold rkAt
    rw [List.getElem?_append_left (by rw [R.len]; exact hc)]
  refine ⟨by rw [len_add, List.length_append, R.len]; rfl, fun c => ?_, fun q => ?_⟩
  · by_cases h : c < M.length
    · rw [hat c h]
      exact R.low c
    · unfold rkAt
      rw [List.getElem?_append_right (by rw [R.len]; omega)]
      cases hk : ([0] : List Int)[c - rk.length]? with
      | none => exact Int.le_refl _
      | some y =>
        have := List.mem_of_getElem? hk
        simp at this
        subst this
        exact Int.le_refl _
  · rw [nd_add]
    by_cases e : q = M.length
    · rw [if_pos e]
      exact List.Pairwise.nil
    · rw [if_neg e, map_congr_rk (b := rk) fun c hc => hat c ((W.kid q c).1 hc).1]
      exact R.rise q
theorem fr_touch {N g : Nat} {w w' : World} {x : Cw} (h : Fr N w x) (t : Touch (fun b => b = g) w w') {c : Array Value} {f : Nat × Nat} {tt : TypeId} (ho : w.heap[g]? = some (.cells c tt f)) (ht : tt ≠ 62) : Fr N w' x := Fr.block h fun g' hg' => by
  obtain ⟨_, _, hh⟩ := at_obj h hg'
  exact t.block g' (owns_lt h.1 hg').2.1 (type_ne hh ho ht.symm)
theorem Li.of_new (w : World) (y : Int) : Li (w.alloc (.cells #[.int .i64 y] 3)) w.heap.size [y] := by
  refine ⟨by simp, fun j hj => ?_⟩
  have hj0 : j = 0 := by simpa using hj
  subst hj0
  rw [World.cell?_alloc_mark]
  rfl
set_option maxRecDepth 100000 in
set_option maxHeartbeats 4000000 in
theorem refAdd1 {p N : Nat} {F : Nat → Prop} {M : List Nd} (y : Cw) (w : World) (D : Doc11 w N F p M) (W : Wf M) (hm : M.length ≤ 5000) (hy : Att w w.heap.size y) (hfw : Few [y.ro]) (hft : Fits 0 [y.ro]) :
    Calls Try.prog 61 #[.pointer (some ⟨p, 0, none⟩), rowV y] w fun e w' => e = .returned (.int .i64 M.length) ∧ ∃ F', Doc11 w' N F' p (addM M y.ro) ∧ Next w w' F F' := by
  obtain ⟨rk, gX, cX, gU, cU, gR, cR, lX, D⟩ := D
  have P := D.rp
  have hb1 := below_new w (rowO y)
  have hb2 := bt hb1 (below_new (w.alloc (rowO y)) (rowO y))
  have hsz : (w.alloc (rowO y)).heap.size = w.heap.size + 1 := by simp
  have hrr : Rr ((w.alloc (rowO y)).alloc (rowO y)) ((w.alloc (rowO y)).alloc (rowO y)).heap.size (some ⟨w.heap.size + 1, 0, none⟩) [y] := by
    refine ⟨fun _ => ⟨w.heap.size + 1, 0, rfl, by simp, fun j hj i u hu => ?_⟩, fun x hx => ?_⟩
    · have hj0 : j = 0 := by simpa using hj
      subst hj0
      have := Ro.box_at (w.alloc (rowO y)) y i
      rw [hsz] at this
      rw [show 0 + 0 * 5 + i = i from by omega, this]
      exact hu
    · rw [List.mem_singleton] at hx
      subst hx
      exact (hy.boxed (Below.refl _ _) (rowO x)).boxed (Below.refl _ _) (rowO x)
  obtain ⟨w2, hw2⟩ : ∃ w2, (w.alloc (rowO y)).alloc (rowO y) = w2 := ⟨_, rfl⟩
  rw [hw2] at hrr hb2
  have HRR := Lib.hid hrr; have HB2 := Lib.hid hb2; have HW2 := Lib.hid hw2; have HD := Lib.hid D; have HP := Lib.hid P; have HFW := Lib.hid hfw; have HFT := Lib.hid hft; have HSZ := Lib.hid hsz
  have hml := hm
  clear hrr hb1 hb2 hw2 D P hy hfw hft hsz
  go_enter Try.func61, Try.ntmps61
  go_wp2_with fail
  rw [HW2.out]
  refine (Moved_any (some ⟨w.heap.size + 1, 0, none⟩) 1 [y] 0 w2 HRR.out (by simp) (by simp) HFW.out HFT.out).mono ?_
  rintro e w3 ⟨v3, l3, rfl, ho3, hf3, hr3, hb3⟩
  rw [deeper_zero] at hr3
  obtain ⟨y', rfl, hy'⟩ : ∃ y' : Cw, l3 = [y'] ∧ y'.ro = y.ro := by
    match l3, hr3 with
    | [z], h => exact ⟨z, rfl, by simpa [ros] using h⟩
    | [], h => simp [ros] at h
    | a :: b :: l, h => simp [ros] at h
  obtain ⟨gy, cy, rfl, hgy, hgy2, hoy⟩ := row_one ho3
  have hyc : w3.cell? ⟨gy, 0, none⟩ = some (.int .i64 y'.ro.depth) ∧ w3.frozen? ⟨gy, 0, none⟩ = false := by
    refine ⟨?_, World.ownsRow.frozenAt hoy 0⟩
    rw [World.ownsRow.cellAt hoy 0 (by decide)]
    rfl
  obtain ⟨hyc, hyf⟩ := hyc
  have hst := (World.ownsRow.stored hoy 0 (.int .i64 0)).1
  have hsz2 := HB2.out.size
  have hb4 := (bt HB2.out hb3).setCell (p := ⟨gy, 0, none⟩) (by show w.heap.size ≤ gy; omega) (.int .i64 0)
  obtain ⟨w4, hw4⟩ : ∃ w4, w3.setCell ⟨gy, 0, none⟩ (.int .i64 0) = w4 := ⟨_, rfl⟩
  rw [hw4] at hst hb4
  obtain ⟨z, hz⟩ : ∃ z : Cw, z = ⟨{ y'.ro with depth := 0 }, y'.A, y'.c⟩ := ⟨_, rfl⟩
  have hzc : (cells y').set 0 (.int .i64 0) = cells z := by rw [hz]; rfl
  rw [hzc] at hst
  have hzr : z.ro = { y.ro with depth := 0 } := by rw [hz, ← hy']
  have hfz3 := hf3 y' (by simp)
  have hfz : Fr w2.heap.size w4 z := by
    have h4 : Fr w2.heap.size w4 y' := Fr.block hfz3 fun g hg => by
      obtain ⟨_, _, hh⟩ := at_obj hfz3 hg
      rcases hoy.2 with ⟨hv, _⟩ | ⟨g'', cap, cur, hv, _, hh2, _⟩
      · cases hv
      · injection hv with hv
        injection hv with hv
        injection hv with hv
        rw [← hv] at hh2
        exact hw4 ▸ Below.heap_setCell _ _ _ _ (type_ne hh hh2 (by decide))
    rw [hz]
    exact h4
  have hzcell : ∀ j u, (cells z)[j]? = some u → w4.cell? ⟨gy, j, none⟩ = some u := fun j u hu => by
    have := World.ownsRow.cells hst (g := gy) rfl j u hu
    rwa [WideShapes.add_plain, Nat.zero_add] at this
  have P4 := HP.out.below hb4
  have hx4 := P4.cell.1
  have HW4 := Lib.hid hw4; have HB4 := Lib.hid hb4; have HFZ := Lib.hid hfz; have HZC := Lib.hid hzcell; have HZR := Lib.hid hzr; have HP4 := Lib.hid P4
  have HN := Lib.hid P4.hN
  clear hst hzc hfz3 hf3 ho3 hoy hb3 hr3 hw4 hb4 hfz hzcell hzr P4 hz
  go_upto_region 3 with (fail)
  rw [HW4.out]
  clear HW4
  go_upto_region 4 with (at_builtin; refine app_rowL w4 rfl (.tmp 16) (.tmp 17) rfl N gX cX M.length lX rfl HP4.out.rows z gy cy rfl HZC.out (by omega) HN.out w4.heap.size rfl ?_; intro g5 c5 w5 ho5 hg5 hl5; have t5 : Touch (fun b => b = gX) w4 w5 := (Touch.grown hg5 (fun b e => (Option.some.inj e).symm)); obtain ⟨hx5, hf5⟩ := HP4.out.boxX t5; have T5 := Lib.hid t5; have HO5 := Lib.hid ho5; have HL5 := Lib.hid hl5; clear t5 ho5 hg5 hl5)
  have hT : Touch (fun b => b = gX) w w5 := (Touch.of_below HB4.out).trans T5.out fun _ _ h => h
  have hgX4 := HP.out.obj.1
  obtain ⟨_, _, oX4⟩ := HP4.out.obj.1
  have hgX := HP.out.bd gX HP.out.fx
  have hsz4 := HB4.out.size
  obtain ⟨P6, N6⟩ := HP.out.putX (w' := w5) hT HO5.out (by
    rcases HL5.out with h | h
    · exact .inl h
    · exact .inr (by omega)) (fun x hx => by
    rcases List.mem_append.1 hx with hx | hx
    · exact ⟨fr_touch (HP4.out.attrs x hx).1 T5.out oX4 (by decide), fun b hb => .inl ((HP4.out.attrs x hx).2 b hb)⟩
    · obtain rfl := List.mem_singleton.1 hx
      have hfx := (HFZ.out.mono (N' := N) (by have := HP.out.hN; omega))
      exact ⟨fr_touch hfx T5.out oX4 (by decide), fun b hb => .inr (by have := (owns_lt HFZ.out.1 hb).1; omega)⟩)
  obtain ⟨w6, hw6⟩ : ∃ w6, w5.setCell ⟨p, 0, none⟩ (.slice (some ⟨g5, 0, none⟩) (M.length + 1) c5) = w6 := ⟨_, rfl⟩
  rw [hw6] at P6 N6
  rw [hw6]
  have P7 := P6.below (below_new w6 (.cells #[.int .i64 (-1)] 3))
  have hu6 := P6.cell.2.1
  have hu7 := P7.cell.2.1
  have HP6 := Lib.hid P6; have HN6 := Lib.hid N6; have HP7 := Lib.hid P7
  have HUL := Lib.hid (show (M.map Nd.up).length = M.length by rw [List.length_map])
  have HNN7 := Lib.hid P7.hN
  have hli7 := Li.of_new w6 (-1)
  have HLI7 := Lib.hid hli7
  clear P6 N6 P7 hw6 hT hx5 hf5 hx4 hyc hyf oX4 hgX4 hli7
  go_upto_region 5 with (at_builtin; refine app_ints (w6.alloc (.cells #[.int .i64 (-1)] 3)) rfl (.tmp 25) (.tmp 26) rfl N gU cU M.length (M.map Nd.up) rfl HP7.out.ups w6.heap.size 1 1 [-1] rfl rfl HLI7.out (by decide) (by omega) HNN7.out (w6.heap.size + 1) (by simp) ?_; intro g8 c8 w8 ho8 hg8 hl8; have t8 : Touch (fun b => b = gU) (w6.alloc (.cells #[.int .i64 (-1)] 3)) w8 := (Touch.grown hg8 (fun b e => (Option.some.inj e).symm)); obtain ⟨hx8, hf8⟩ := HP7.out.boxU t8; have T8 := Lib.hid t8; have HO8 := Lib.hid ho8; have HL8 := Lib.hid hl8; clear t8 ho8 hg8 hl8)
  obtain ⟨P9, N9⟩ := HP6.out.putU (w' := w8) ((Touch.of_below (F := fun b => b = gU) (below_new w6 (.cells #[.int .i64 (-1)] 3))).trans T8.out fun _ _ h => h) HO8.out (by
    rcases HL8.out with h | h
    · exact .inl h
    · exact .inr (by omega))
  obtain ⟨w9, hw9⟩ : ∃ w9, w8.setCell ⟨p, 1, none⟩ (.slice (some ⟨g8, 0, none⟩) (M.length + 1) c8) = w9 := ⟨_, rfl⟩
  rw [hw9] at P9 N9
  rw [hw9]
  have P10 := P9.below (below_new w9 (.cells #[.int .i64 0] 3))
  have hr9 := P9.cell.2.2
  have hr10 := P10.cell.2.2
  have HP9 := Lib.hid P9; have HN9 := Lib.hid (HN6.out.trans N9); have HP10 := Lib.hid P10
  have HRL := Lib.hid HD.out.rf.len
  have HNN10 := Lib.hid P10.hN
  have HLI10 := Lib.hid (Li.of_new w9 0)
  clear P9 N9 P10 hw9 hu6 hu7 hx8 hf8
  go_upto_region 6 with (at_builtin; refine app_ints (w9.alloc (.cells #[.int .i64 0] 3)) rfl (.tmp 34) (.tmp 35) rfl N gR cR M.length rk rfl HP10.out.ranks w9.heap.size 1 1 [0] rfl rfl HLI10.out (by decide) (by omega) HNN10.out (w9.heap.size + 1) (by simp) ?_; intro g11 c11 w11 ho11 hg11 hl11; have t11 : Touch (fun b => b = gR) (w9.alloc (.cells #[.int .i64 0] 3)) w11 := (Touch.grown hg11 (fun b e => (Option.some.inj e).symm)); obtain ⟨hx11, hf11⟩ := HP10.out.boxR t11; have T11 := Lib.hid t11; have HO11 := Lib.hid ho11; have HL11 := Lib.hid hl11; clear t11 ho11 hg11 hl11)
  obtain ⟨P12, N12⟩ := HP9.out.putR (w' := w11) ((Touch.of_below (F := fun b => b = gR) (below_new w9 (.cells #[.int .i64 0] 3))).trans T11.out fun _ _ h => h) HO11.out (by
    rcases HL11.out with h | h
    · exact .inl h
    · exact .inr (by omega))
  obtain ⟨w12, hw12⟩ : ∃ w12, w11.setCell ⟨p, 2, none⟩ (.slice (some ⟨g11, 0, none⟩) (M.length + 1) c11) = w12 := ⟨_, rfl⟩
  rw [hw12] at P12 N12
  rw [hw12]
  have hx12 := P12.cell.1
  have HP12 := Lib.hid P12; have HN12 := Lib.hid (HN9.out.trans N12)
  clear P12 N12 hw12 hr9 hr10 hx11 hf11
  go_wp2
  go_ret
  refine ⟨ret_int (by omega), _, ⟨rk ++ [0], g5, c5, g8, c8, g11, c11, lX ++ [z], RP.doc (M := addM M y.ro) (by rw [len_add]; exact HP12.out) ?_ ?_ (rf_add W HD.out.rf y.ro)⟩, HN12.out⟩
  · unfold addM
    rw [List.map_append, ← HD.out.same]
    simp [ros, HZR.out]
  · unfold addM
    simp
end Go.Proofs.Ytfnffplnoicjcaa.Ar

namespace Go.Proofs.Ytfnffplnoicjcaa.Ar
set_option maxRecDepth 100000
set_option linter.unusedSimpArgs false
set_option linter.unusedVariables false
open Go.RowKit Ba
open Ro (At Ro Cw ros Rr Ow Nw Fr Att Ap Sh cells acells app_num below_new infoI info_row len_cells)
/-! ### What Insert answers. -/
open Classical in
noncomputable def insE (M : List Nd) (P A n : Int) : Int :=
  if P < 0 ∨ (M.length : Int) ≤ P ∨ n < 1 ∨ (M.length : Int) ≤ n then 110
  else if (0 < P ∧ (nd M P.toNat).ro.kind ≠ 0) ∨ Win M P n then 111
  else if A < 0 ∨ (((nd M P.toNat).kids.filter (· != n.toNat)).length : Int) < A then 1 else 0
noncomputable def insM (M : List Nd) (P A n : Int) : List Nd := if insE M P A n = 0 then setM M P.toNat A.toNat n.toNat else M
theorem ins_110 {M : List Nd} {P A n : Int} (h : P < 0 ∨ (M.length : Int) ≤ P ∨ n < 1 ∨ (M.length : Int) ≤ n) : insE M P A n = 110 ∧ insM M P A n = M := by
  have e : insE M P A n = 110 := by unfold insE; rw [if_pos h]
  refine ⟨e, ?_⟩
  unfold insM
  rw [e, if_neg (by decide)]
theorem ins_111 {M : List Nd} {P A n : Int} (h : ¬ (P < 0 ∨ (M.length : Int) ≤ P ∨ n < 1 ∨ (M.length : Int) ≤ n)) (h2 : (0 < P ∧ (nd M P.toNat).ro.kind ≠ 0) ∨ Win M P n) : insE M P A n = 111 ∧ insM M P A n = M := by
  have e : insE M P A n = 111 := by unfold insE; rw [if_neg h, if_pos h2]
  refine ⟨e, ?_⟩
  unfold insM
  rw [e, if_neg (by decide)]
theorem ins_1 {M : List Nd} {P A n : Int} (h : ¬ (P < 0 ∨ (M.length : Int) ≤ P ∨ n < 1 ∨ (M.length : Int) ≤ n)) (h2 : ¬ ((0 < P ∧ (nd M P.toNat).ro.kind ≠ 0) ∨ Win M P n)) (h3 : A < 0 ∨ (((nd M P.toNat).kids.filter (· != n.toNat)).length : Int) < A) : insE M P A n = 1 ∧ insM M P A n = M := by
  have e : insE M P A n = 1 := by unfold insE; rw [if_neg h, if_neg h2, if_pos h3]
  refine ⟨e, ?_⟩
  unfold insM
  rw [e, if_neg (by decide)]
theorem ins_0 {M : List Nd} {P A n : Int} (h : ¬ (P < 0 ∨ (M.length : Int) ≤ P ∨ n < 1 ∨ (M.length : Int) ≤ n)) (h2 : ¬ ((0 < P ∧ (nd M P.toNat).ro.kind ≠ 0) ∨ Win M P n)) (h3 : ¬ (A < 0 ∨ (((nd M P.toNat).kids.filter (· != n.toNat)).length : Int) < A)) : insE M P A n = 0 ∧ insM M P A n = setM M P.toNat A.toNat n.toNat := by
  have e : insE M P A n = 0 := by unfold insE; rw [if_neg h, if_neg h2, if_neg h3]
  refine ⟨e, ?_⟩
  unfold insM
  rw [e, if_pos rfl]
theorem filter_len {l : List Nat} (hn : l.Nodup) (n : Nat) : (l.filter (· != n)).length = if n ∈ l then l.length - 1 else l.length := by
  induction l with
  | nil => simp
  | cons a r ih =>
    have hr := (List.nodup_cons.1 hn)
    rw [List.filter_cons]
    by_cases e : a = n
    · subst e
      have h0 : ((a != a) : Bool) = false := by simp
      rw [h0]
      have := ih hr.2
      rw [if_neg hr.1] at this
      simp [this]
    · have h0 : ((a != n) : Bool) = true := by simpa using e
      rw [h0]
      have := ih hr.2
      rw [if_pos rfl, List.length_cons, this]
      by_cases hm : n ∈ r
      · rw [if_pos hm, if_pos (by simp [hm])]
        have := List.length_pos_of_mem hm
        rw [List.length_cons]
        omega
      · rw [if_neg hm, if_neg (by simp [hm]; exact fun h => e h.symm)]
        simp
theorem kids_less {M : List Nd} (W : Wf M) {P n : Nat} (hn : n < M.length) : (((nd M P).kids.filter (· != n)).length : Int) = if (nd M n).up = (P : Int) then ((nd M P).kids.length : Int) - 1 else (nd M P).kids.length := by
  rw [filter_len (W.nodup P)]
  by_cases h : (nd M n).up = (P : Int)
  · have hm := (W.kid P n).2 ⟨hn, h⟩
    have := List.length_pos_of_mem hm
    rw [if_pos h, if_pos hm]
    omega
  · rw [if_neg h, if_neg fun hm => h ((W.kid P n).1 hm).2]
theorem RD.cellX {w : World} {N : Nat} {F : Nat → Prop} {p : Nat} {M : List Nd} {rk : List Int} {gX cX gU cU gR cR : Nat} {lX : List Cw} (h : RD w N F p M rk gX cX gU cU gR cR lX) {k : Nat} (hk : k < M.length) : ∃ x : Cw, lX[k]? = some x ∧ x.ro = (nd M k).ro ∧ Att w w.heap.size x ∧ ∀ j u, (cells x)[j]? = some u → w.cell? ⟨gX, k * 5 + j, none⟩ = some u := by
  have hl := h.len
  have hkl : k < lX.length := by omega
  have hs : (ros lX)[k]? = (M.map Nd.ro)[k]? := by rw [h.same]
  refine ⟨lX[k], List.getElem?_eq_getElem hkl, ?_, (h.attrs _ (List.getElem_mem hkl)).1.att, fun j u hu => ?_⟩
  · unfold ros at hs
    rw [List.getElem?_map, List.getElem?_map, List.getElem?_eq_getElem hkl, List.getElem?_eq_getElem hk] at hs
    have hs := Option.some.inj hs
    rw [hs]
    unfold nd
    rw [List.getElem?_eq_getElem hk]
    rfl
  · have hj : j < 5 := (List.getElem?_eq_some_iff.1 hu).1
    have := World.ownsRow.cells h.rows (g := gX) rfl (k * 5 + j) u (by rw [Ro.flat_at cells 5 Ro.len_cells _ _ _ hkl hj]; exact hu)
    rwa [WideShapes.add_plain, Nat.zero_add] at this
theorem Doc11.below {w w' : World} {N : Nat} {F : Nat → Prop} {p : Nat} {M : List Nd} (h : Doc11 w N F p M) (hb : Below w.heap.size w w') : Doc11 w' N F p M := by
  obtain ⟨rk, gX, cX, gU, cU, gR, cR, lX, D⟩ := h
  exact ⟨rk, gX, cX, gU, cU, gR, cR, lX, D.below hb⟩
theorem Next.of_below {w w' : World} {F : Nat → Prop} (hb : Below w.heap.size w w') : Next w w' F F := ⟨Touch.of_below hb, fun _ h => h, fun _ h => .inl h⟩
set_option maxRecDepth 100000 in
set_option maxHeartbeats 4000000 in
theorem refInsert1 {p N : Nat} {F : Nat → Prop} {M : List Nd} (P A n : Int) (w : World) (D : Doc11 w N F p M) (W : Wf M) (hm : M.length ≤ 5000) :
    Calls Try.prog 41 #[.pointer (some ⟨p, 0, none⟩), .int .i64 P, .int .i64 A, .int .i64 n] w fun e w' => e = .returned (.int .i64 (insE M P A n)) ∧ ∃ F', Doc11 w' N F' p (insM M P A n) ∧ Next w w' F F' := by
  have D0 := Lib.hid D
  obtain ⟨rk, gX, cX, gU, cU, gR, cR, lX, D⟩ := D
  have HD := Lib.hid D
  have hx := D.rd.x
  by_cases h1 : P < 0 ∨ (M.length : Int) ≤ P ∨ n < 1 ∨ (M.length : Int) ≤ n
  · obtain ⟨e1, e2⟩ := ins_110 (A := A) h1
    rw [e1, e2]
    clear D e1 e2
    by_cases c1 : P < 0
    · go_enter Try.func41, Try.ntmps41
      go_wp2
      go_ret
      exact ⟨rfl, F, D0.out, Next.refl w F⟩
    by_cases c2 : (M.length : Int) ≤ P
    · go_enter Try.func41, Try.ntmps41
      go_wp2
      go_ret
      exact ⟨rfl, F, D0.out, Next.refl w F⟩
    by_cases c3 : n < 1
    · go_enter Try.func41, Try.ntmps41
      go_wp2
      go_ret
      exact ⟨rfl, F, D0.out, Next.refl w F⟩
    have c4 : (M.length : Int) ≤ n := by omega
    go_enter Try.func41, Try.ntmps41
    go_wp2
    go_ret
    exact ⟨rfl, F, D0.out, Next.refl w F⟩
  · obtain ⟨k, rfl⟩ : ∃ k : Nat, P = k := ⟨P.toNat, by omega⟩
    obtain ⟨m, rfl⟩ : ∃ m : Nat, n = m := ⟨n.toNat, by omega⟩
    have hk : k < M.length := by omega
    have hmm : m < M.length := by omega
    obtain ⟨x, hxk, hxr, _, hxc⟩ := D.cellX hk
    have hck := hxc 1 _ rfl
    rw [hxr] at hck
    have H1 := Lib.hid h1
    have hki : (k : Int) < M.length := by omega
    have hmi : (m : Int) < M.length := by omega
    have hm1 : ¬ (m : Int) < 1 := by omega
    have hkb : (nd M k).kids.length ≤ 5000 := Nat.le_trans (nodup_bound (W.nodup k) fun x hx => ((W.kid k x).1 hx).1) hm
    have HKL := Lib.hid (kids_less W (P := k) hmm)
    clear h1 hxk hxr hxc D
    by_cases c0 : k = 0
    · subst c0
      have hne : M ≠ [] := fun e => by rw [e] at hk; exact absurd hk (by simp)
      obtain ⟨q, hq⟩ : ∃ q : Bool, q = true ↔ Win M (0 : Nat) m := by
        by_cases hw : Win M (0 : Nat) m
        · exact ⟨true, fun _ => hw, fun _ => rfl⟩
        · exact ⟨false, fun h => (by cases h), fun h => absurd h hw⟩
      have HQ := Lib.hid hq
      clear hq
      cases q with
      | true =>
        have HW := Lib.hid (HQ.out.1 rfl)
        obtain ⟨e1, e2⟩ := ins_111 (A := A) H1.out (.inr HW.out)
        clear HQ
        rw [e1, e2]
        clear e1 e2
        go_enter Try.func41, Try.ntmps41
        go_wp2_with fail
        refine (refWithin1 ((0 : Nat) : Int) (m : Int) w HD.out.rd W hm true ⟨fun _ => HW.out, fun _ => rfl⟩).mono ?_
        rintro e w1 ⟨rfl, rfl⟩
        go_wp2
        go_ret
        exact ⟨rfl, F, D0.out, Next.refl w F⟩
      | false =>
        have hn2 : ¬ ((0 < ((0 : Nat) : Int) ∧ (nd M ((0 : Nat) : Int).toNat).ro.kind ≠ 0) ∨ Win M 0 m) := by
          rintro (h | h)
          · exact absurd h.1 (by simp)
          · exact absurd (HQ.out.2 h) (by decide)
        have HN2 := Lib.hid hn2
        clear hn2
        obtain ⟨y, hy⟩ : ∃ y, (nd M m).up = y := ⟨_, rfl⟩
        have HY := Lib.hid hy
        clear hy
        have HK2 := refKids1 ((0 : Nat) : Int) w HD.out.rd W HD.out.rf hm
        rw [kidsI_nat] at HK2
        have HK2 := Lib.hid HK2
        have hkl := HKL.out
        rw [HY.out] at hkl
        by_cases hyk : y = ((0 : Nat) : Int)
        · rw [if_pos hyk] at hkl
          obtain ⟨L, hL⟩ : ∃ L, ((nd M 0).kids.filter (· != m)).length = L := ⟨_, rfl⟩
          have HL := Lib.hid hL
          have hLk : (nd M 0).kids.length = L + 1 := by rw [hL] at hkl; have hLL := hkl; omega
          have HLK := Lib.hid hLk
          have hLb : L ≤ 5000 := by omega
          clear hkl hL hLk
          subst hyk
          by_cases a1 : A < 0
          · obtain ⟨e1, e2⟩ := ins_1 H1.out HN2.out (.inl a1)
            rw [e1, e2]
            clear e1 e2
            go_enter Try.func41, Try.ntmps41
            go_wp2_with fail
            refine (refWithin1 ((0 : Nat) : Int) (m : Int) w HD.out.rd W hm false HQ.out).mono ?_
            rintro e w1 ⟨rfl, rfl⟩
            go_wp2_with fail
            refine HK2.out.mono ?_
            rintro e w2 ⟨v2, rfl, hnw, hb2⟩
            obtain ⟨A2, c2, rfl, _⟩ := nw_at hnw
            rw [HLK.out]
            have D2 := Lib.hid (D0.out.below hb2)
            have hu2 := (HD.out.below hb2).rd.u
            have hcu2 := ups_at (HD.out.below hb2).rd.ups hmm
            rw [HY.out] at hcu2
            have N2 := Lib.hid (Next.of_below (F := F) hb2)
            clear hnw hb2
            go_wp2
            go_ret
            exact ⟨rfl, F, D2.out, N2.out⟩
          by_cases a2 : (L : Int) < A
          · obtain ⟨e1, e2⟩ := ins_1 H1.out HN2.out (.inr (by show (((nd M 0).kids.filter (· != m)).length : Int) < A; rw [HL.out]; exact a2))
            rw [e1, e2]
            clear e1 e2
            go_enter Try.func41, Try.ntmps41
            go_wp2_with fail
            refine (refWithin1 ((0 : Nat) : Int) (m : Int) w HD.out.rd W hm false HQ.out).mono ?_
            rintro e w1 ⟨rfl, rfl⟩
            go_wp2_with fail
            refine HK2.out.mono ?_
            rintro e w2 ⟨v2, rfl, hnw, hb2⟩
            obtain ⟨A2, c2, rfl, _⟩ := nw_at hnw
            rw [HLK.out]
            have D2 := Lib.hid (D0.out.below hb2)
            have hu2 := (HD.out.below hb2).rd.u
            have hcu2 := ups_at (HD.out.below hb2).rd.ups hmm
            rw [HY.out] at hcu2
            have N2 := Lib.hid (Next.of_below (F := F) hb2)
            clear hnw hb2
            go_wp2
            go_ret
            exact ⟨rfl, F, D2.out, N2.out⟩
          · obtain ⟨e1, e2⟩ := ins_0 H1.out HN2.out (fun h => h.elim a1 (by show ¬ (((nd M 0).kids.filter (· != m)).length : Int) < A; rw [HL.out]; exact a2))
            rw [e1, e2]
            clear e1 e2
            obtain ⟨a, rfl⟩ : ∃ a : Nat, A = a := ⟨A.toNat, by omega⟩
            go_enter Try.func41, Try.ntmps41
            go_wp2_with fail
            refine (refWithin1 ((0 : Nat) : Int) (m : Int) w HD.out.rd W hm false HQ.out).mono ?_
            rintro e w1 ⟨rfl, rfl⟩
            go_wp2_with fail
            refine HK2.out.mono ?_
            rintro e w2 ⟨v2, rfl, hnw, hb2⟩
            obtain ⟨A2, c2, rfl, _⟩ := nw_at hnw
            rw [HLK.out]
            have D2 := Lib.hid (D0.out.below hb2)
            have hu2 := (HD.out.below hb2).rd.u
            have hcu2 := ups_at (HD.out.below hb2).rd.ups hmm
            rw [HY.out] at hcu2
            have N2 := Lib.hid (Next.of_below (F := F) hb2)
            clear hnw hb2
            go_wp2_with fail
            refine (refSet1 0 a m w2 D2.out W hm hk hmm (by rw [HL.out]; omega)).mono ?_
            rintro e w3 ⟨rfl, F3, D3, N3⟩
            have HD3 := Lib.hid D3; have HN3 := Lib.hid (N2.out.trans N3)
            clear D3 N3
            go_wp2
            go_ret
            exact ⟨rfl, F3, HD3.out, HN3.out⟩
        · rw [if_neg hyk] at hkl
          obtain ⟨L, hL⟩ : ∃ L, ((nd M 0).kids.filter (· != m)).length = L := ⟨_, rfl⟩
          have HL := Lib.hid hL
          have hLk : (nd M 0).kids.length = L := by rw [hL] at hkl; have hLL := hkl; omega
          have HLK := Lib.hid hLk
          have hLb : L ≤ 5000 := by omega
          clear hkl hL hLk
          by_cases a1 : A < 0
          · obtain ⟨e1, e2⟩ := ins_1 H1.out HN2.out (.inl a1)
            rw [e1, e2]
            clear e1 e2
            go_enter Try.func41, Try.ntmps41
            go_wp2_with fail
            refine (refWithin1 ((0 : Nat) : Int) (m : Int) w HD.out.rd W hm false HQ.out).mono ?_
            rintro e w1 ⟨rfl, rfl⟩
            go_wp2_with fail
            refine HK2.out.mono ?_
            rintro e w2 ⟨v2, rfl, hnw, hb2⟩
            obtain ⟨A2, c2, rfl, _⟩ := nw_at hnw
            rw [HLK.out]
            have D2 := Lib.hid (D0.out.below hb2)
            have hu2 := (HD.out.below hb2).rd.u
            have hcu2 := ups_at (HD.out.below hb2).rd.ups hmm
            rw [HY.out] at hcu2
            have N2 := Lib.hid (Next.of_below (F := F) hb2)
            clear hnw hb2
            go_wp2
            go_ret
            exact ⟨rfl, F, D2.out, N2.out⟩
          by_cases a2 : (L : Int) < A
          · obtain ⟨e1, e2⟩ := ins_1 H1.out HN2.out (.inr (by show (((nd M 0).kids.filter (· != m)).length : Int) < A; rw [HL.out]; exact a2))
            rw [e1, e2]
            clear e1 e2
            go_enter Try.func41, Try.ntmps41
            go_wp2_with fail
            refine (refWithin1 ((0 : Nat) : Int) (m : Int) w HD.out.rd W hm false HQ.out).mono ?_
            rintro e w1 ⟨rfl, rfl⟩
            go_wp2_with fail
            refine HK2.out.mono ?_
            rintro e w2 ⟨v2, rfl, hnw, hb2⟩
            obtain ⟨A2, c2, rfl, _⟩ := nw_at hnw
            rw [HLK.out]
            have D2 := Lib.hid (D0.out.below hb2)
            have hu2 := (HD.out.below hb2).rd.u
            have hcu2 := ups_at (HD.out.below hb2).rd.ups hmm
            rw [HY.out] at hcu2
            have N2 := Lib.hid (Next.of_below (F := F) hb2)
            clear hnw hb2
            go_wp2
            go_ret
            exact ⟨rfl, F, D2.out, N2.out⟩
          · obtain ⟨e1, e2⟩ := ins_0 H1.out HN2.out (fun h => h.elim a1 (by show ¬ (((nd M 0).kids.filter (· != m)).length : Int) < A; rw [HL.out]; exact a2))
            rw [e1, e2]
            clear e1 e2
            obtain ⟨a, rfl⟩ : ∃ a : Nat, A = a := ⟨A.toNat, by omega⟩
            go_enter Try.func41, Try.ntmps41
            go_wp2_with fail
            refine (refWithin1 ((0 : Nat) : Int) (m : Int) w HD.out.rd W hm false HQ.out).mono ?_
            rintro e w1 ⟨rfl, rfl⟩
            go_wp2_with fail
            refine HK2.out.mono ?_
            rintro e w2 ⟨v2, rfl, hnw, hb2⟩
            obtain ⟨A2, c2, rfl, _⟩ := nw_at hnw
            rw [HLK.out]
            have D2 := Lib.hid (D0.out.below hb2)
            have hu2 := (HD.out.below hb2).rd.u
            have hcu2 := ups_at (HD.out.below hb2).rd.ups hmm
            rw [HY.out] at hcu2
            have N2 := Lib.hid (Next.of_below (F := F) hb2)
            clear hnw hb2
            go_wp2_with fail
            refine (refSet1 0 a m w2 D2.out W hm hk hmm (by rw [HL.out]; omega)).mono ?_
            rintro e w3 ⟨rfl, F3, D3, N3⟩
            have HD3 := Lib.hid D3; have HN3 := Lib.hid (N2.out.trans N3)
            clear D3 N3
            go_wp2
            go_ret
            exact ⟨rfl, F3, HD3.out, HN3.out⟩
    · have hk0 : (0 : Int) < k := by omega
      by_cases c1 : (nd M k).ro.kind = 0
      · obtain ⟨q, hq⟩ : ∃ q : Bool, q = true ↔ Win M k m := by
          by_cases hw : Win M k m
          · exact ⟨true, fun _ => hw, fun _ => rfl⟩
          · exact ⟨false, fun h => (by cases h), fun h => absurd h hw⟩
        have HQ := Lib.hid hq
        clear hq
        cases q with
        | true =>
          have HW := Lib.hid (HQ.out.1 rfl)
          obtain ⟨e1, e2⟩ := ins_111 (A := A) H1.out (.inr HW.out)
          clear HQ
          rw [e1, e2]
          clear e1 e2
          go_enter Try.func41, Try.ntmps41
          go_wp2_with fail
          refine (refWithin1 (k : Int) (m : Int) w HD.out.rd W hm true ⟨fun _ => HW.out, fun _ => rfl⟩).mono ?_
          rintro e w1 ⟨rfl, rfl⟩
          go_wp2
          go_ret
          exact ⟨rfl, F, D0.out, Next.refl w F⟩
        | false =>
          have hn2 : ¬ ((0 < (k : Int) ∧ (nd M (k : Int).toNat).ro.kind ≠ 0) ∨ Win M k m) := by
            rintro (h | h)
            · exact h.2 c1
            · exact absurd (HQ.out.2 h) (by decide)
          have HN2 := Lib.hid hn2
          clear hn2
          obtain ⟨y, hy⟩ : ∃ y, (nd M m).up = y := ⟨_, rfl⟩
          have HY := Lib.hid hy
          clear hy
          have HK2 := refKids1 (k : Int) w HD.out.rd W HD.out.rf hm
          rw [kidsI_nat] at HK2
          have HK2 := Lib.hid HK2
          have hkl := HKL.out
          rw [HY.out] at hkl
          by_cases hyk : y = (k : Int)
          · rw [if_pos hyk] at hkl
            obtain ⟨L, hL⟩ : ∃ L, ((nd M k).kids.filter (· != m)).length = L := ⟨_, rfl⟩
            have HL := Lib.hid hL
            have hLk : (nd M k).kids.length = L + 1 := by rw [hL] at hkl; have hLL := hkl; omega
            have HLK := Lib.hid hLk
            have hLb : L ≤ 5000 := by omega
            clear hkl hL hLk
            subst hyk
            by_cases a1 : A < 0
            · obtain ⟨e1, e2⟩ := ins_1 H1.out HN2.out (.inl a1)
              rw [e1, e2]
              clear e1 e2
              go_enter Try.func41, Try.ntmps41
              go_wp2_with fail
              refine (refWithin1 (k : Int) (m : Int) w HD.out.rd W hm false HQ.out).mono ?_
              rintro e w1 ⟨rfl, rfl⟩
              go_wp2_with fail
              refine HK2.out.mono ?_
              rintro e w2 ⟨v2, rfl, hnw, hb2⟩
              obtain ⟨A2, c2, rfl, _⟩ := nw_at hnw
              rw [HLK.out]
              have D2 := Lib.hid (D0.out.below hb2)
              have hu2 := (HD.out.below hb2).rd.u
              have hcu2 := ups_at (HD.out.below hb2).rd.ups hmm
              rw [HY.out] at hcu2
              have N2 := Lib.hid (Next.of_below (F := F) hb2)
              clear hnw hb2
              go_wp2
              go_ret
              exact ⟨rfl, F, D2.out, N2.out⟩
            by_cases a2 : (L : Int) < A
            · obtain ⟨e1, e2⟩ := ins_1 H1.out HN2.out (.inr (by show (((nd M k).kids.filter (· != m)).length : Int) < A; rw [HL.out]; exact a2))
              rw [e1, e2]
              clear e1 e2
              go_enter Try.func41, Try.ntmps41
              go_wp2_with fail
              refine (refWithin1 (k : Int) (m : Int) w HD.out.rd W hm false HQ.out).mono ?_
              rintro e w1 ⟨rfl, rfl⟩
              go_wp2_with fail
              refine HK2.out.mono ?_
              rintro e w2 ⟨v2, rfl, hnw, hb2⟩
              obtain ⟨A2, c2, rfl, _⟩ := nw_at hnw
              rw [HLK.out]
              have D2 := Lib.hid (D0.out.below hb2)
              have hu2 := (HD.out.below hb2).rd.u
              have hcu2 := ups_at (HD.out.below hb2).rd.ups hmm
              rw [HY.out] at hcu2
              have N2 := Lib.hid (Next.of_below (F := F) hb2)
              clear hnw hb2
              go_wp2
              go_ret
              exact ⟨rfl, F, D2.out, N2.out⟩
            · obtain ⟨e1, e2⟩ := ins_0 H1.out HN2.out (fun h => h.elim a1 (by show ¬ (((nd M k).kids.filter (· != m)).length : Int) < A; rw [HL.out]; exact a2))
              rw [e1, e2]
              clear e1 e2
              obtain ⟨a, rfl⟩ : ∃ a : Nat, A = a := ⟨A.toNat, by omega⟩
              go_enter Try.func41, Try.ntmps41
              go_wp2_with fail
              refine (refWithin1 (k : Int) (m : Int) w HD.out.rd W hm false HQ.out).mono ?_
              rintro e w1 ⟨rfl, rfl⟩
              go_wp2_with fail
              refine HK2.out.mono ?_
              rintro e w2 ⟨v2, rfl, hnw, hb2⟩
              obtain ⟨A2, c2, rfl, _⟩ := nw_at hnw
              rw [HLK.out]
              have D2 := Lib.hid (D0.out.below hb2)
              have hu2 := (HD.out.below hb2).rd.u
              have hcu2 := ups_at (HD.out.below hb2).rd.ups hmm
              rw [HY.out] at hcu2
              have N2 := Lib.hid (Next.of_below (F := F) hb2)
              clear hnw hb2
              go_wp2_with fail
              refine (refSet1 k a m w2 D2.out W hm hk hmm (by rw [HL.out]; omega)).mono ?_
              rintro e w3 ⟨rfl, F3, D3, N3⟩
              have HD3 := Lib.hid D3; have HN3 := Lib.hid (N2.out.trans N3)
              clear D3 N3
              go_wp2
              go_ret
              exact ⟨rfl, F3, HD3.out, HN3.out⟩
          · rw [if_neg hyk] at hkl
            obtain ⟨L, hL⟩ : ∃ L, ((nd M k).kids.filter (· != m)).length = L := ⟨_, rfl⟩
            have HL := Lib.hid hL
            have hLk : (nd M k).kids.length = L := by rw [hL] at hkl; have hLL := hkl; omega
            have HLK := Lib.hid hLk
            have hLb : L ≤ 5000 := by omega
            clear hkl hL hLk
            by_cases a1 : A < 0
            · obtain ⟨e1, e2⟩ := ins_1 H1.out HN2.out (.inl a1)
              rw [e1, e2]
              clear e1 e2
              go_enter Try.func41, Try.ntmps41
              go_wp2_with fail
              refine (refWithin1 (k : Int) (m : Int) w HD.out.rd W hm false HQ.out).mono ?_
              rintro e w1 ⟨rfl, rfl⟩
              go_wp2_with fail
              refine HK2.out.mono ?_
              rintro e w2 ⟨v2, rfl, hnw, hb2⟩
              obtain ⟨A2, c2, rfl, _⟩ := nw_at hnw
              rw [HLK.out]
              have D2 := Lib.hid (D0.out.below hb2)
              have hu2 := (HD.out.below hb2).rd.u
              have hcu2 := ups_at (HD.out.below hb2).rd.ups hmm
              rw [HY.out] at hcu2
              have N2 := Lib.hid (Next.of_below (F := F) hb2)
              clear hnw hb2
              go_wp2
              go_ret
              exact ⟨rfl, F, D2.out, N2.out⟩
            by_cases a2 : (L : Int) < A
            · obtain ⟨e1, e2⟩ := ins_1 H1.out HN2.out (.inr (by show (((nd M k).kids.filter (· != m)).length : Int) < A; rw [HL.out]; exact a2))
              rw [e1, e2]
              clear e1 e2
              go_enter Try.func41, Try.ntmps41
              go_wp2_with fail
              refine (refWithin1 (k : Int) (m : Int) w HD.out.rd W hm false HQ.out).mono ?_
              rintro e w1 ⟨rfl, rfl⟩
              go_wp2_with fail
              refine HK2.out.mono ?_
              rintro e w2 ⟨v2, rfl, hnw, hb2⟩
              obtain ⟨A2, c2, rfl, _⟩ := nw_at hnw
              rw [HLK.out]
              have D2 := Lib.hid (D0.out.below hb2)
              have hu2 := (HD.out.below hb2).rd.u
              have hcu2 := ups_at (HD.out.below hb2).rd.ups hmm
              rw [HY.out] at hcu2
              have N2 := Lib.hid (Next.of_below (F := F) hb2)
              clear hnw hb2
              go_wp2
              go_ret
              exact ⟨rfl, F, D2.out, N2.out⟩
            · obtain ⟨e1, e2⟩ := ins_0 H1.out HN2.out (fun h => h.elim a1 (by show ¬ (((nd M k).kids.filter (· != m)).length : Int) < A; rw [HL.out]; exact a2))
              rw [e1, e2]
              clear e1 e2
              obtain ⟨a, rfl⟩ : ∃ a : Nat, A = a := ⟨A.toNat, by omega⟩
              go_enter Try.func41, Try.ntmps41
              go_wp2_with fail
              refine (refWithin1 (k : Int) (m : Int) w HD.out.rd W hm false HQ.out).mono ?_
              rintro e w1 ⟨rfl, rfl⟩
              go_wp2_with fail
              refine HK2.out.mono ?_
              rintro e w2 ⟨v2, rfl, hnw, hb2⟩
              obtain ⟨A2, c2, rfl, _⟩ := nw_at hnw
              rw [HLK.out]
              have D2 := Lib.hid (D0.out.below hb2)
              have hu2 := (HD.out.below hb2).rd.u
              have hcu2 := ups_at (HD.out.below hb2).rd.ups hmm
              rw [HY.out] at hcu2
              have N2 := Lib.hid (Next.of_below (F := F) hb2)
              clear hnw hb2
              go_wp2_with fail
              refine (refSet1 k a m w2 D2.out W hm hk hmm (by rw [HL.out]; omega)).mono ?_
              rintro e w3 ⟨rfl, F3, D3, N3⟩
              have HD3 := Lib.hid D3; have HN3 := Lib.hid (N2.out.trans N3)
              clear D3 N3
              go_wp2
              go_ret
              exact ⟨rfl, F3, HD3.out, HN3.out⟩
      · obtain ⟨e1, e2⟩ := ins_111 (A := A) H1.out (.inl ⟨hk0, by simpa using c1⟩)
        rw [e1, e2]
        clear e1 e2
        go_enter Try.func41, Try.ntmps41
        go_wp2
        go_ret
        exact ⟨rfl, F, D0.out, Next.refl w F⟩
end Go.Proofs.Ytfnffplnoicjcaa.Ar

namespace Go.Proofs.Ytfnffplnoicjcaa.Ba
set_option maxRecDepth 100000
set_option linter.unusedSimpArgs false
set_option linter.unusedVariables false
open Go.RowKit
/-- A slice at A reads as these strings, below block B. -/
def Rd (w : World) (N : Nat) (A : Option Addr) (l : List ByteArray) : Prop :=
  0 < l.length → ∃ b off, A = some ⟨b, off, none⟩ ∧ b < N ∧ ∀ j (h : j < l.length), w.cell? ⟨b, off + j, none⟩ = some (.string l[j])

theorem Rd.nil (w : World) (N : Nat) (A : Option Addr) : Rd w N A [] := fun h => absurd h (by simp)
theorem Rd.keep {w w' : World} {N : Nat} {A : Option Addr} {l : List ByteArray} (h : Rd w N A l) (hk : ∀ p : Addr, p.block < N → w'.cell? p = w.cell? p) : Rd w' N A l := fun h0 => by
  obtain ⟨b, off, e, hb, hc⟩ := h h0
  exact ⟨b, off, e, hb, fun j hj => (hk _ hb).trans (hc j hj)⟩
theorem Rd.more {w : World} {N N' : Nat} {A : Option Addr} {l : List ByteArray} (h : Rd w N A l) (hN : N ≤ N') : Rd w N' A l := fun h0 => by
  obtain ⟨b, off, e, hb, hc⟩ := h h0
  exact ⟨b, off, e, by omega, hc⟩
theorem Rd.below {w w' : World} {N M : Nat} {A : Option Addr} {l : List ByteArray} (h : Rd w N A l) (hb : Below M w w') (hN : N ≤ M) : Rd w' N A l := h.keep fun p hp => hb.cell (p := p) (by omega)
theorem Rd.alloc {w : World} {N : Nat} {A : Option Addr} {l : List ByteArray} (h : Rd w N A l) (hN : N ≤ w.heap.size) (o : Obj) : Rd (w.alloc o) N A l := h.keep fun p hp => World.cell?_alloc_lt w o p (by omega)
theorem Rd.take {w : World} {N : Nat} {A : Option Addr} {l : List ByteArray} (h : Rd w N A l) (m : Nat) : Rd w N A (l.take m) := fun h0 => by
  rw [List.length_take] at h0
  obtain ⟨b, off, e, hb, hc⟩ := h (by omega)
  refine ⟨b, off, e, hb, fun j hj => ?_⟩
  rw [List.length_take] at hj
  rw [List.getElem_take]
  exact hc j (by omega)
/-- Cut: what the model makes of s[m:]. -/
theorem Rd.drop {w : World} {N : Nat} {A : Option Addr} {l : List ByteArray} (h : Rd w N A l) (m cap : Nat) (hc : l.length ≤ cap) : Rd w N (if cap = m then A else A.map (·.add m)) (l.drop m) := fun h0 => by
  rw [List.length_drop] at h0
  obtain ⟨b, off, e, hb, hcc⟩ := h (by omega)
  rw [if_neg (by omega), e]
  refine ⟨b, off + m, by simp [WideShapes.add_plain], hb, fun j hj => ?_⟩
  rw [List.length_drop] at hj
  rw [List.getElem_drop, Nat.add_assoc]
  exact hcc (m + j) (by omega)

def sc (s : ByteArray) : Value := .string s
/-- v is a slice of strings of the call's own that holds l. -/
def Sown (N : Nat) (w : World) (v : Value) (l : List ByteArray) : Prop := w.ownsRow N 9 1 v l.length (l.map sc)

theorem Sown.nil (N : Nat) (w : World) : Sown N w (.slice none 0 0) [] := World.ownsRow_nil w N _ 1
theorem Sown.made (w : World) : Sown w.heap.size (w.alloc (.cells #[] 9)) (.slice (some ⟨w.heap.size, 0, none⟩) 0 0) [] :=
  World.ownsRow_made w #[] 0 (Nat.le_refl _) (Nat.zero_le _) rfl
theorem Sown.alloc {N : Nat} {w : World} {v : Value} {l : List ByteArray} (h : Sown N w v l) (o : Obj) : Sown N (w.alloc o) v l := World.ownsRow.alloc h o
theorem Sown.mono {N N' : Nat} {w : World} {v : Value} {l : List ByteArray} (h : Sown N w v l) (hN : N' ≤ N) : Sown N' w v l := World.ownsRow.mono h hN
theorem Sown.below {N M : Nat} {w w' : World} {v : Value} {l : List ByteArray} (h : Sown N w v l) (hb : Below M w w') (hM : w.heap.size ≤ M) : Sown N w' v l := by
  refine ⟨h.1, ?_⟩
  rcases h.2 with hn | ⟨g, cap, cur, hv, hg, hh, rest⟩
  · exact .inl hn
  · refine .inr ⟨g, cap, cur, hv, hg, ?_, rest⟩
    have hlt : g < w.heap.size := (Array.getElem?_eq_some_iff.1 hh).1
    rw [hb.block g (by omega)]
    exact hh
theorem Sown.kept {N : Nat} {w0 w w' : World} {v : Value} {l : List ByteArray} (h : Sown N w v l) (hg : w.grownBy w' v.ownBlock) (hb : Below N w0 w) (hN : N ≤ w.heap.size) : Below N w0 w' :=
  hb.grown hg hN fun k hk => (h.lt k hk).1
/-- Its form, and what it reads as. -/
theorem Sown.form {N : Nat} {w : World} {v : Value} {l : List ByteArray} (h : Sown N w v l) : ∃ A c, v = .slice A l.length c ∧ l.length ≤ c ∧ c ≤ maxLen ∧ Rd w w.heap.size A l := by
  rcases h.2 with ⟨hv, hl⟩ | ⟨g, cap, cur, hv, hg, hh, hn, hm, hs, ht⟩
  · have : l = [] := List.eq_nil_of_length_eq_zero hl
    subst this
    exact ⟨none, 0, hv, Nat.le_refl _, Nat.zero_le _, Rd.nil _ _ _⟩
  · refine ⟨some ⟨g, 0, none⟩, cap, hv, hn, hm, fun _ => ⟨g, 0, rfl, (Array.getElem?_eq_some_iff.1 hh).1, fun j hj => ?_⟩⟩
    subst hv
    have := World.ownsRow.cells h rfl j (sc l[j]) (by simp [hj])
    rw [WideShapes.add_plain] at this
    exact this
end Go.Proofs.Ytfnffplnoicjcaa.Ba

namespace Go.Proofs.Ytfnffplnoicjcaa.Fm
set_option linter.unusedSimpArgs false
set_option linter.unusedVariables false

section order
variable {α : Type}

/-- A name put at its place; 'put': it is there already. -/
def insL (lt : α → α → Bool) (x : α) : Bool → List α → List α
  | true, l => l
  | false, [] => [x]
  | false, y :: l => if lt x y = true then x :: y :: l else y :: insL lt x false l

/-- How many names are smaller. -/
def below (lt : α → α → Bool) (l : List α) (s : α) : Nat := l.countP (lt · s)

variable [DecidableEq α]

/-- Does it stand there? -/
def isIn (x : α) (l : List α) : Bool := decide (x ∈ l)
def ins (lt : α → α → Bool) (x : α) (l : List α) : List α := insL lt x (isIn x l) l
end order

section bytes

/-- A space. -/
def sp (c : UInt8) : Bool := c == 32 || c == 9 || c == 10 || c == 12 || c == 13
/-- A small letter. -/
def low (c : UInt8) : UInt8 := if 65 ≤ c ∧ c ≤ 90 then c + 32 else c
end bytes
end Go.Proofs.Ytfnffplnoicjcaa.Fm

namespace Go.Proofs.Ytfnffplnoicjcaa.Fo
set_option linter.unusedSimpArgs false
set_option linter.unusedVariables false
open Go.RowKit Ba Fm
/-- Less, byte by byte. -/
def lt (a b : ByteArray) : Bool := Op.bytesLess a.toList b.toList

theorem below_dN {N : Nat} {a w : World} (h : Below N a w) (n : Nat) : Below N a (w.drewN n) := ⟨h.os, h.tape, h.output, h.size, h.block⟩

/-- v reads as l, below block N. -/
def Sv (w : World) (N : Nat) (v : Value) (l : List ByteArray) : Prop := ∃ A c, v = .slice A l.length c ∧ l.length ≤ c ∧ (A = none → c = 0) ∧ Rd w N A l
theorem Sv.below {w w' : World} {N M : Nat} {v : Value} {l : List ByteArray} (h : Sv w N v l) (hb : Below M w w') (hN : N ≤ M) : Sv w' N v l := by
  obtain ⟨A, c, h1, h2, h3, h4⟩ := h
  exact ⟨A, c, h1, h2, h3, h4.below hb hN⟩
theorem Sv.more {w : World} {N M : Nat} {v : Value} {l : List ByteArray} (h : Sv w N v l) (hN : N ≤ M) : Sv w M v l := by
  obtain ⟨A, c, h1, h2, h3, h4⟩ := h
  exact ⟨A, c, h1, h2, h3, h4.more hN⟩

theorem Sv.rd {w : World} {N n c : Nat} {A : Option Addr} {l : List ByteArray} (h : Sv w N (.slice A n c) l) : Rd w N A l := by
  obtain ⟨A', c', e, _, _, hr⟩ := h
  injection e with e
  rw [e]
  exact hr
end Go.Proofs.Ytfnffplnoicjcaa.Fo

namespace Go.Proofs.Ytfnffplnoicjcaa.Fo
set_option maxRecDepth 100000
set_option linter.unusedSimpArgs false
set_option linter.unusedVariables false
open Go.RowKit Ba Fm
theorem space_any (c : UInt8) (w : World) :
    Calls Try.prog 83 #[.int .u8 c.toNat] w fun e w' => e = .returned (.bool (sp c)) ∧ w = w' := by
  have e9 : ((c.toNat : Int) == 9) = (c == 9) := u8_eq (b := 9)
  have e10 : ((c.toNat : Int) == 10) = (c == 10) := u8_eq (b := 10)
  have e12 : ((c.toNat : Int) == 12) = (c == 12) := u8_eq (b := 12)
  have e13 : ((c.toNat : Int) == 13) = (c == 13) := u8_eq (b := 13)
  have e32 : ((c.toNat : Int) == 32) = (c == 32) := u8_eq (b := 32)
  cases h9 : (c == 9) <;> cases h10 : (c == 10) <;> cases h12 : (c == 12) <;> cases h13 : (c == 13) <;> cases h32 : (c == 32)
  all_goals
    rw [h9] at e9
    rw [h10] at e10
    rw [h12] at e12
    rw [h13] at e13
    rw [h32] at e32
    have H9 := Lib.hid h9; have H10 := Lib.hid h10; have H12 := Lib.hid h12; have H13 := Lib.hid h13; have H32 := Lib.hid h32
    clear h9 h10 h12 h13 h32
    go_enter Try.func83, Try.ntmps83
    go_wp2
    go_ret
    exact ⟨ret_bool (by unfold sp; rw [H9.out, H10.out, H12.out, H13.out, H32.out]; rfl), rfl⟩

end Go.Proofs.Ytfnffplnoicjcaa.Fo

namespace Go.Proofs.Ytfnffplnoicjcaa.Nm
set_option linter.unusedSimpArgs false
set_option linter.unusedVariables false
open Ba Fm
/-- May a byte stand in an element's name; in an attribute's. -/
def elB (c : UInt8) : Bool := !(sp c || (65 ≤ c && c ≤ 90) || c == 0 || c == 47 || c == 62)
def atB (c : UInt8) : Bool := elB c && !(c == 34 || c == 39 || c == 60 || c == 61)
def small (c : UInt8) : Bool := 97 ≤ c && c ≤ 122
def rightL : List UInt8 → Bool
  | [] => false
  | c :: r => small c && (c :: r).all elB
def attrL : List UInt8 → Bool
  | [] => false
  | c :: r => (c :: r).all atB
def rightB (s : ByteArray) : Bool := rightL (L s)
def attrB (s : ByteArray) : Bool := attrL (L s)

end Go.Proofs.Ytfnffplnoicjcaa.Nm

namespace Go.Proofs.Ytfnffplnoicjcaa.Na
set_option maxRecDepth 100000
set_option linter.unusedSimpArgs false
set_option linter.unusedVariables false
open Go.RowKit Ba Fm Fo Nm
theorem u8_range {c : UInt8} : (decide ((65 : UInt8) ≤ c) && decide (c ≤ 90)) = (decide ((65 : Int) ≤ c.toNat) && decide ((c.toNat : Int) ≤ 90)) := by
  rw [Bool.eq_iff_iff]
  simp only [Bool.and_eq_true, decide_eq_true_eq, UInt8.le_iff_toNat_le]
  have e65 : (65 : UInt8).toNat = 65 := rfl
  have e90 : (90 : UInt8).toNat = 90 := rfl
  rw [e65, e90]
  omega
theorem u8_small {c : UInt8} : small c = (decide ((97 : Int) ≤ c.toNat) && decide ((c.toNat : Int) ≤ 122)) := by
  unfold small
  rw [Bool.eq_iff_iff]
  simp only [Bool.and_eq_true, decide_eq_true_eq, UInt8.le_iff_toNat_le]
  have e65 : (97 : UInt8).toNat = 97 := rfl
  have e90 : (122 : UInt8).toNat = 122 := rfl
  rw [e65, e90]
  omega

def elBAll (s : ByteArray) : Bool := (L s).all elB
def atBAll (s : ByteArray) : Bool := (L s).all atB
theorem all_snoc (p : UInt8 → Bool) (s : ByteArray) (k : Nat) (h : k < s.size) : ((L s).take (k + 1)).all p = (((L s).take k).all p && p s[k]) := by
  rw [take_snoc s k h, List.all_append]; simp
theorem all_no (p : UInt8 → Bool) (s : ByteArray) (k : Nat) (h : k < s.size) (hb : p s[k] = false) : (L s).all p = false := by
  rw [List.all_eq_false]
  exact ⟨s[k], List.getElem_mem (by rw [size_L]; exact h), by simp [hb]⟩

set_option maxHeartbeats 1000000 in
theorem inElement_any (c : UInt8) (w : World) :
    Calls Try.prog 80 #[.int .u8 c.toNat] w fun e w' => e = .returned (.bool (elB c)) ∧ w = w' := by
  have e0 : ((c.toNat : Int) == 0) = (c == 0) := u8_eq (b := 0)
  have e47 : ((c.toNat : Int) == 47) = (c == 47) := u8_eq (b := 47)
  have e62 : ((c.toNat : Int) == 62) = (c == 62) := u8_eq (b := 62)
  have hr := u8_range (c := c)
  have he : elB c = !(sp c || (decide ((65 : UInt8) ≤ c) && decide (c ≤ 90)) || c == 0 || c == 47 || c == 62) := rfl
  rw [hr] at he
  obtain ⟨q, hq⟩ : ∃ q, elB c = q := ⟨_, rfl⟩
  rw [hq] at he ⊢
  clear hr hq
  cases h0 : (c == 0) <;> cases h47 : (c == 47) <;> cases h62 : (c == 62)
  all_goals
    rw [h0] at e0
    rw [h47] at e47
    rw [h62] at e62
    rw [h0, h47, h62] at he
    clear h0 h47 h62
  case false.false.false =>
    cases hs : sp c <;> by_cases h1 : (65 : Int) ≤ c.toNat <;> by_cases h2 : (c.toNat : Int) ≤ 90
    all_goals
      have HE := Lib.hid he; have HS := Lib.hid hs
      clear he hs
      first
      | omega
      | (go_enter Try.func80, Try.ntmps80
         go_wp2_with (go_at_call 83; refine (space_any c _).mono ?_; rw [HS.out]; rintro e w' ⟨rfl, rfl⟩)
         go_ret
         exact ⟨ret_bool (by rw [HE.out, HS.out]; simp [h1, h2]), rfl⟩)
  all_goals
    have HE := Lib.hid he
    clear he
    go_enter Try.func80, Try.ntmps80
    go_wp2
    go_ret
    exact ⟨ret_bool (by rw [HE.out]; simp), rfl⟩

set_option maxHeartbeats 1000000 in
theorem inAttr_any (c : UInt8) (w : World) :
    Calls Try.prog 73 #[.int .u8 c.toNat] w fun e w' => e = .returned (.bool (atB c)) ∧ w = w' := by
  have e34 : ((c.toNat : Int) == 34) = (c == 34) := u8_eq (b := 34)
  have e39 : ((c.toNat : Int) == 39) = (c == 39) := u8_eq (b := 39)
  have e60 : ((c.toNat : Int) == 60) = (c == 60) := u8_eq (b := 60)
  have e61 : ((c.toNat : Int) == 61) = (c == 61) := u8_eq (b := 61)
  have he : atB c = (elB c && !(c == 34 || c == 39 || c == 60 || c == 61)) := rfl
  obtain ⟨q, hq⟩ : ∃ q, atB c = q := ⟨_, rfl⟩
  rw [hq] at he ⊢
  clear hq
  cases h34 : (c == 34) <;> cases h39 : (c == 39) <;> cases h60 : (c == 60) <;> cases h61 : (c == 61)
  all_goals
    rw [h34] at e34
    rw [h39] at e39
    rw [h60] at e60
    rw [h61] at e61
    rw [h34, h39, h60, h61] at he
    clear h34 h39 h60 h61
    have HE := Lib.hid he
    clear he
    go_enter Try.func73, Try.ntmps73
    go_wp2_with (go_at_call 80; refine (inElement_any c _).mono ?_; rintro e w' ⟨rfl, rfl⟩)
    go_ret
    exact ⟨ret_bool (by rw [HE.out]; simp), rfl⟩

set_option maxHeartbeats 1000000 in
theorem every_el (s : ByteArray) (w : World) (hs : s.size ≤ 140737488355328) :
    Calls Try.prog 72 #[.string s, .func (.func 80) #[] #[]] w fun e w' => e = .returned (.bool (elBAll s)) ∧ w = w' := by
  go_enter Try.func72, Try.ntmps72
  go_wp2
  go_loop [8] (fun i => ∃ k : Nat, i = .int .i64 k ∧ k ≤ s.size ∧ ((L s).take k).all elB = true) (fun i => s.size - (intOf i).toNat)
  case atStart => exact ⟨0, rfl, Nat.zero_le _, by simp⟩
  case round =>
    obtain ⟨k, rfl, hks, hn⟩ := hrel
    by_cases hp : k < s.size
    · have hsn := all_snoc elB s k hp
      rw [hn] at hsn
      cases hb : elB s[k] with
      | true =>
        rw [hb] at hsn
        have HB := Lib.hid hb; have HS := Lib.hid hsn; clear hb hsn hn
        go_wp2_with (go_at_call 80; refine (inElement_any s[k] _).mono ?_; rw [HB.out]; rintro e w' ⟨rfl, rfl⟩)
        go_round
        case rel => exact ⟨k + 1, by go_num, by omega, HS.out⟩
        case measure => simp [intOf]; omega
      | false =>
        have hno : elBAll s = false := all_no elB s k hp hb
        have HB := Lib.hid hb; have HN := Lib.hid hno; clear hb hsn hn hno
        go_wp2_with (go_at_call 80; refine (inElement_any s[k] _).mono ?_; rw [HB.out]; rintro e w' ⟨rfl, rfl⟩)
        go_ret
        exact ⟨ret_bool HN.out.symm, rfl⟩
    · rw [List.take_of_length_le (by rw [size_L]; omega)] at hn
      have hn : elBAll s = true := hn
      have HN := Lib.hid hn; clear hn
      go_wp2
      go_ret
      exact ⟨ret_bool HN.out.symm, rfl⟩
set_option maxHeartbeats 1000000 in
theorem every_at (s : ByteArray) (w : World) (hs : s.size ≤ 140737488355328) :
    Calls Try.prog 72 #[.string s, .func (.func 73) #[] #[]] w fun e w' => e = .returned (.bool (atBAll s)) ∧ w = w' := by
  go_enter Try.func72, Try.ntmps72
  go_wp2
  go_loop [8] (fun i => ∃ k : Nat, i = .int .i64 k ∧ k ≤ s.size ∧ ((L s).take k).all atB = true) (fun i => s.size - (intOf i).toNat)
  case atStart => exact ⟨0, rfl, Nat.zero_le _, by simp⟩
  case round =>
    obtain ⟨k, rfl, hks, hn⟩ := hrel
    by_cases hp : k < s.size
    · have hsn := all_snoc atB s k hp
      rw [hn] at hsn
      cases hb : atB s[k] with
      | true =>
        rw [hb] at hsn
        have HB := Lib.hid hb; have HS := Lib.hid hsn; clear hb hsn hn
        go_wp2_with (go_at_call 73; refine (inAttr_any s[k] _).mono ?_; rw [HB.out]; rintro e w' ⟨rfl, rfl⟩)
        go_round
        case rel => exact ⟨k + 1, by go_num, by omega, HS.out⟩
        case measure => simp [intOf]; omega
      | false =>
        have hno : atBAll s = false := all_no atB s k hp hb
        have HB := Lib.hid hb; have HN := Lib.hid hno; clear hb hsn hn hno
        go_wp2_with (go_at_call 73; refine (inAttr_any s[k] _).mono ?_; rw [HB.out]; rintro e w' ⟨rfl, rfl⟩)
        go_ret
        exact ⟨ret_bool HN.out.symm, rfl⟩
    · rw [List.take_of_length_le (by rw [size_L]; omega)] at hn
      have hn : atBAll s = true := hn
      have HN := Lib.hid hn; clear hn
      go_wp2
      go_ret
      exact ⟨ret_bool HN.out.symm, rfl⟩

theorem nil_size {s : ByteArray} (h : s.toList = []) : s.size = 0 := by
  rw [toList_L] at h
  rw [← size_L, h]; rfl
theorem not_nil {s : ByteArray} (h : ¬ s.size = 0) : ¬ s.toList = [] := fun e => h (nil_size e)
theorem nil_of {s : ByteArray} (h : s.size = 0) : s.toList = [] := by
  rw [toList_L]
  exact List.eq_nil_of_length_eq_zero (by rw [size_L]; exact h)
theorem attrB_nil {s : ByteArray} (h : s.size = 0) : attrB s = false := by
  unfold attrB
  rw [← toList_L, nil_of h]; rfl
theorem rightB_nil {s : ByteArray} (h : s.size = 0) : rightB s = false := by
  unfold rightB
  rw [← toList_L, nil_of h]; rfl
theorem attrB_cons {s : ByteArray} (h : ¬ s.size = 0) : attrB s = atBAll s := by
  unfold attrB atBAll
  have := drop_cons s 0 (by omega)
  rw [List.drop_zero] at this
  rw [this]; rfl
theorem rightB_cons {s : ByteArray} (h : 0 < s.size) : rightB s = (small s[0] && elBAll s) := by
  unfold rightB elBAll
  have := drop_cons s 0 h
  rw [List.drop_zero] at this
  rw [this]; rfl

set_option maxHeartbeats 1000000 in
theorem attr_any (s : ByteArray) (w : World) (hs : s.size ≤ 140737488355328) :
    Calls Try.prog 55 #[.string s] w fun e w' => e = .returned (.bool (attrB s)) ∧ w = w' := by
  by_cases h0 : s.size = 0
  · rw [attrB_nil h0]
    have hn := nil_of h0
    clear h0
    go_enter Try.func55, Try.ntmps55
    go_wp2
    go_ret
    exact ⟨rfl, rfl⟩
  · rw [attrB_cons h0]
    have hn := not_nil h0
    clear h0
    go_enter Try.func55, Try.ntmps55
    go_wp2_with fail
    refine (every_at s w hs).mono ?_
    rintro e w' ⟨rfl, rfl⟩
    go_wp2
    go_ret
    exact ⟨ret_bool (by simp [hn]), rfl⟩
set_option maxHeartbeats 1000000 in
theorem right_any (s : ByteArray) (w : World) (hs : s.size ≤ 140737488355328) :
    Calls Try.prog 71 #[.string s] w fun e w' => e = .returned (.bool (rightB s)) ∧ w = w' := by
  by_cases h0 : s.size = 0
  · rw [rightB_nil h0]
    have hn := nil_of h0
    clear h0
    go_enter Try.func71, Try.ntmps71
    go_wp2
    go_ret
    exact ⟨rfl, rfl⟩
  · have hp : 0 < s.size := by omega
    have he := rightB_cons hp
    rw [u8_small] at he
    obtain ⟨q, hq⟩ : ∃ q, rightB s = q := ⟨_, rfl⟩
    rw [hq] at he ⊢
    have hn := not_nil h0
    clear h0 hq
    have HE := Lib.hid he
    clear he
    by_cases h1 : (97 : Int) ≤ s[0].toNat <;> by_cases h2 : (s[0].toNat : Int) ≤ 122
    all_goals
      go_enter Try.func71, Try.ntmps71
      go_wp2_with (go_at_call 72; refine (every_el s _ hs).mono ?_; rintro e w' ⟨rfl, rfl⟩)
      go_ret
      refine ⟨ret_bool ?_, rfl⟩
      rw [HE.out]
      by_cases g1 : (97 : Int) ≤ s[0].toNat
      · by_cases g2 : (s[0].toNat : Int) ≤ 122
        · rw [decide_eq_true g1, decide_eq_true g2]
          first | rfl | (simp [hn]; done) | (exfalso; omega)
        · rw [decide_eq_false g2, decide_eq_true g1]
          first | rfl | (exfalso; omega)
      · rw [decide_eq_false g1]
        first | rfl | (exfalso; omega)

end Go.Proofs.Ytfnffplnoicjcaa.Na

namespace Go.Proofs.Ytfnffplnoicjcaa.Fo
set_option maxRecDepth 100000
set_option linter.unusedSimpArgs false
set_option linter.unusedVariables false
open Go.RowKit Ba Fm
theorem refSpace_any (c : UInt8) (w : World) :
    Calls Try.prog 81 #[.int .u8 c.toNat] w fun e w' => e = .returned (.bool (sp c)) ∧ w = w' := by
  have e9 : ((c.toNat : Int) == 9) = (c == 9) := u8_eq (b := 9)
  have e10 : ((c.toNat : Int) == 10) = (c == 10) := u8_eq (b := 10)
  have e12 : ((c.toNat : Int) == 12) = (c == 12) := u8_eq (b := 12)
  have e13 : ((c.toNat : Int) == 13) = (c == 13) := u8_eq (b := 13)
  have e32 : ((c.toNat : Int) == 32) = (c == 32) := u8_eq (b := 32)
  cases h9 : (c == 9) <;> cases h10 : (c == 10) <;> cases h12 : (c == 12) <;> cases h13 : (c == 13) <;> cases h32 : (c == 32)
  all_goals
    rw [h9] at e9
    rw [h10] at e10
    rw [h12] at e12
    rw [h13] at e13
    rw [h32] at e32
    have H9 := Lib.hid h9; have H10 := Lib.hid h10; have H12 := Lib.hid h12; have H13 := Lib.hid h13; have H32 := Lib.hid h32
    clear h9 h10 h12 h13 h32
    go_enter Try.func81, Try.ntmps81
    go_wp2
    go_ret
    exact ⟨ret_bool (by unfold sp; rw [H9.out, H10.out, H12.out, H13.out, H32.out]; rfl), rfl⟩

end Go.Proofs.Ytfnffplnoicjcaa.Fo

namespace Go.Proofs.Ytfnffplnoicjcaa.Na
set_option maxRecDepth 100000
set_option linter.unusedSimpArgs false
set_option linter.unusedVariables false
open Go.RowKit Ba Fm Fo Nm
theorem bad_eq (c : UInt8) (at_ : Bool) : (if at_ = true then atB c else elB c) = !(sp c || (decide ((65 : Int) ≤ c.toNat) && decide ((c.toNat : Int) ≤ 90)) || c == 0 || c == 47 || c == 62 || (at_ && (c == 34 || c == 39 || c == 60 || c == 61))) := by
  unfold atB elB
  rw [← u8_range]
  cases at_ <;> cases sp c <;> cases (decide ((65 : UInt8) ≤ c) && decide (c ≤ 90)) <;> cases (c == 0) <;> cases (c == 47) <;> cases (c == 62) <;> cases (c == 34) <;> cases (c == 39) <;> cases (c == 60) <;> cases (c == 61) <;> rfl

/-- One byte that no name has. -/
def badB (c : UInt8) (a : Bool) : Bool := !(if a = true then atB c else elB c)

set_option maxHeartbeats 4000000 in
theorem bad_any (c : UInt8) (a : Bool) (w : World) :
    Calls Try.prog 75 #[.int .u8 c.toNat, .bool a] w fun e w' => e = .returned (.bool (badB c a)) ∧ w = w' := by
  have e0 : ((c.toNat : Int) == 0) = (c == 0) := u8_eq (b := 0)
  have e47 : ((c.toNat : Int) == 47) = (c == 47) := u8_eq (b := 47)
  have e62 : ((c.toNat : Int) == 62) = (c == 62) := u8_eq (b := 62)
  have e34 : ((c.toNat : Int) == 34) = (c == 34) := u8_eq (b := 34)
  have e39 : ((c.toNat : Int) == 39) = (c == 39) := u8_eq (b := 39)
  have e60 : ((c.toNat : Int) == 60) = (c == 60) := u8_eq (b := 60)
  have e61 : ((c.toNat : Int) == 61) = (c == 61) := u8_eq (b := 61)
  have he : badB c a = (sp c || (decide ((65 : Int) ≤ c.toNat) && decide ((c.toNat : Int) ≤ 90)) || c == 0 || c == 47 || c == 62 || (a && (c == 34 || c == 39 || c == 60 || c == 61))) := by unfold badB; rw [bad_eq, Bool.not_not]
  obtain ⟨q, hq⟩ : ∃ q, badB c a = q := ⟨_, rfl⟩
  rw [hq] at he ⊢
  clear hq
  obtain ⟨b0, h0⟩ : ∃ b, (c == 0) = b := ⟨_, rfl⟩
  obtain ⟨b47, h47⟩ : ∃ b, (c == 47) = b := ⟨_, rfl⟩
  obtain ⟨b62, h62⟩ : ∃ b, (c == 62) = b := ⟨_, rfl⟩
  obtain ⟨b34, h34⟩ : ∃ b, (c == 34) = b := ⟨_, rfl⟩
  obtain ⟨b39, h39⟩ : ∃ b, (c == 39) = b := ⟨_, rfl⟩
  obtain ⟨b60, h60⟩ : ∃ b, (c == 60) = b := ⟨_, rfl⟩
  obtain ⟨b61, h61⟩ : ∃ b, (c == 61) = b := ⟨_, rfl⟩
  rw [h0] at e0
  rw [h47] at e47
  rw [h62] at e62
  rw [h34] at e34
  rw [h39] at e39
  rw [h60] at e60
  rw [h61] at e61
  rw [h0, h47, h62, h34, h39, h60, h61] at he
  clear h0 h47 h62 h34 h39 h60 h61
  obtain ⟨g, hg⟩ : ∃ g, sp c = g := ⟨_, rfl⟩
  obtain ⟨r1, hr1⟩ : ∃ r, decide ((65 : Int) ≤ c.toNat) = r := ⟨_, rfl⟩
  obtain ⟨r2, hr2⟩ : ∃ r, decide ((c.toNat : Int) ≤ 90) = r := ⟨_, rfl⟩
  rw [hg, hr1, hr2] at he
  have HG := Lib.hid hg; have HE := Lib.hid he
  clear hg he
  cases g with
  | true =>
    go_enter Try.func75, Try.ntmps75
    go_wp2_with (go_at_call 81; refine (refSpace_any c _).mono ?_; rw [HG.out]; rintro e w' ⟨rfl, rfl⟩)
    go_ret
    exact ⟨ret_bool (by rw [HE.out]; simp), rfl⟩
  | false =>
    go_enter Try.func75, Try.ntmps75
    go_wp2_with (go_at_call 81; refine (refSpace_any c _).mono ?_; rw [HG.out]; rintro e w' ⟨rfl, rfl⟩)
    all_goals
      go_ret
      exact ⟨ret_bool (by rw [HE.out]; simp [*]), rfl⟩

/-- No byte is bad. -/
def noBad (s : ByteArray) (a : Bool) : Bool := (L s).all fun c => !badB c a
def mayB (s : ByteArray) (a : Bool) : Bool := if a = true then attrB s else rightB s
theorem noBad_eq (s : ByteArray) (a : Bool) : noBad s a = if a = true then atBAll s else elBAll s := by
  unfold noBad badB atBAll elBAll
  cases a <;> simp
theorem may_nil {s : ByteArray} (a : Bool) (h : s.size = 0) : mayB s a = false := by
  unfold mayB
  rw [attrB_nil h, rightB_nil h]
  cases a <;> rfl
theorem may_cons {s : ByteArray} (a : Bool) (h : 0 < s.size) : mayB s a = (noBad s a && (a || (decide ((97 : Int) ≤ s[0].toNat) && decide ((s[0].toNat : Int) ≤ 122)))) := by
  rw [noBad_eq, ← u8_small]
  unfold mayB
  rw [attrB_cons (by omega), rightB_cons h]
  cases a
  · simp [Bool.and_comm]
  · simp

set_option maxHeartbeats 2000000 in
theorem may_any (s : ByteArray) (a : Bool) (w : World) (hs : s.size ≤ 140737488355328) :
    Calls Try.prog 60 #[.string s, .bool a] w fun e w' => e = .returned (.bool (mayB s a)) ∧ w = w' := by
  go_enter Try.func60, Try.ntmps60
  go_wp2
  go_loop [5] (fun i => ∃ k : Nat, i = .int .i64 k ∧ k ≤ s.size ∧ ((L s).take k).all (fun c => !badB c a) = true) (fun i => s.size - (intOf i).toNat)
  case atStart => exact ⟨0, rfl, Nat.zero_le _, by simp⟩
  case round =>
    obtain ⟨k, rfl, hks, hn⟩ := hrel
    by_cases hp : k < s.size
    · have hsn := all_snoc (fun c => !badB c a) s k hp
      rw [hn] at hsn
      cases hb : badB s[k] a with
      | false =>
        rw [hb] at hsn
        have HB := Lib.hid hb; have HS := Lib.hid hsn; clear hb hsn hn
        go_wp2_with (go_at_call 75; refine (bad_any s[k] a _).mono ?_; rw [HB.out]; rintro e w' ⟨rfl, rfl⟩)
        go_round
        case rel => exact ⟨k + 1, by go_num, by omega, HS.out⟩
        case measure => simp [intOf]; omega
      | true =>
        have hno : noBad s a = false := all_no (fun c => !badB c a) s k hp (by rw [hb]; rfl)
        have hm : mayB s a = false := by rw [may_cons a (by omega), hno]; rfl
        have HB := Lib.hid hb; have HN := Lib.hid hm; clear hb hsn hn hno hm
        go_wp2_with (go_at_call 75; refine (bad_any s[k] a _).mono ?_; rw [HB.out]; rintro e w' ⟨rfl, rfl⟩)
        go_ret
        exact ⟨ret_bool HN.out.symm, rfl⟩
    · rw [List.take_of_length_le (by rw [size_L]; omega)] at hn
      by_cases h0 : s.size = 0
      · have hm := may_nil a h0
        have HN := Lib.hid hm; clear hn hm
        have hd : decide ((0 : Int) < (s.size : Int)) = false := decide_eq_false (by omega)
        go_wp2
        go_ret
        exact ⟨ret_bool HN.out.symm, rfl⟩
      · have h1 : 0 < s.size := by omega
        have hm := may_cons a h1
        rw [show noBad s a = true from hn, Bool.true_and] at hm
        obtain ⟨r1, hr1⟩ : ∃ r, decide ((97 : Int) ≤ s[0].toNat) = r := ⟨_, rfl⟩
        obtain ⟨r2, hr2⟩ : ∃ r, decide ((s[0].toNat : Int) ≤ 122) = r := ⟨_, rfl⟩
        rw [hr1, hr2] at hm
        have HM := Lib.hid hm
        clear hm hn h0
        go_wp2
        all_goals
          go_ret
          exact ⟨ret_bool (by have hm := HM.out; clear hr1 hr2; simp_all), rfl⟩

end Go.Proofs.Ytfnffplnoicjcaa.Na

namespace Go.Proofs.Ytfnffplnoicjcaa.Ar
set_option maxRecDepth 100000
set_option linter.unusedSimpArgs false
set_option linter.unusedVariables false
open Go.RowKit Ba
open Ro (At Ro Cw ros Rr Ow Nw Fr Att Ap Sh cells acells app_num below_new infoI info_row len_cells rowV rowO Few Fits)
def ro00 : Ro := ⟨0, 0, ⟨#[]⟩, ⟨#[]⟩, []⟩
def M0 : List Nd := [⟨ro00, -1, []⟩]
theorem nd_M0 (n : Nat) : nd M0 n = if n = 0 then ⟨ro00, -1, []⟩ else nd0 := by
  unfold nd M0
  match n with
  | 0 => rfl
  | n + 1 => rfl
theorem wf_M0 : Wf M0 := by
  have h0 : ∀ n, (nd M0 n).up = -1 := fun n => by rw [nd_M0]; split <;> rfl
  have h1 : ∀ n, (nd M0 n).kids = [] := fun n => by rw [nd_M0]; split <;> rfl
  refine ⟨by decide, h0 0, fun n => by rw [h0]; decide, fun p c => ?_, fun p => by rw [h1]; exact List.nodup_nil, fun n => by rw [nd_M0]; split <;> rfl, ⟨fun _ => 0, fun c p _ h => ?_⟩⟩
  · rw [h1, h0]
    constructor
    · intro h
      cases h
    · rintro ⟨_, h⟩
      omega
  · rw [h0] at h
    omega
theorem rf_M0 : Rf M0 [0] := ⟨rfl, fun c => by
  unfold rkAt
  match c with
  | 0 => exact Int.le_refl _
  | c + 1 => exact Int.le_refl _, fun p => by
  have h1 : (nd M0 p).kids = [] := by rw [nd_M0]; split <;> rfl
  rw [h1]
  exact List.Pairwise.nil⟩
theorem own_full {e : TypeId} {size n base : Nat} (w : World) (cur : Array Value) (xs : List Value) (hb : base ≤ w.heap.size) (hm : n ≤ maxLen) (hs : cur.size = n * size) (hx : xs = cur.toList) :
    (w.alloc (.cells cur e)).ownsRow base e size (.slice (some ⟨w.heap.size, 0, none⟩) n n) n xs := by
  subst hx
  exact ⟨by simp [hs], .inr ⟨w.heap.size, n, cur, rfl, hb, heap_alloc_new w _, Nat.le_refl _, hm, hs, (List.take_of_length_le (by simp [hs]))⟩⟩
set_option maxRecDepth 100000 in
theorem refNew1 (w : World) : Calls Try.prog 16 #[] w fun e w' => ∃ p F, e = .returned (.pointer (some ⟨p, 0, none⟩)) ∧ Doc11 w' w.heap.size F p M0 ∧ Below w.heap.size w w' ∧ ∀ b, F b → w.heap.size ≤ b := by
  have hx0 := own_full (e := 47) (size := 5) (n := 1) (base := w.heap.size) w #[.int .i64 0, .int .i64 0, .string ⟨#[]⟩, .string ⟨#[]⟩, .slice none 0 0] (([⟨ro00, none, 0⟩] : List Cw).flatMap cells) (Nat.le_refl _) (by decide) rfl rfl
  obtain ⟨w1, hw1⟩ : ∃ w1, w.alloc (.cells #[.int .i64 0, .int .i64 0, .string ⟨#[]⟩, .string ⟨#[]⟩, .slice none 0 0] 47) = w1 := ⟨_, rfl⟩
  have hs1 : w1.heap.size = w.heap.size + 1 := by rw [← hw1]; simp
  have hb1 : Below w.heap.size w w1 := hw1 ▸ below_new w _
  rw [hw1] at hx0
  have hu0 := own_full (e := 3) (size := 1) (n := 1) (base := w.heap.size) w1 #[.int .i64 (-1)] (([-1] : List Int).map iv) (by omega) (by decide) rfl rfl
  obtain ⟨w2, hw2⟩ : ∃ w2, w1.alloc (.cells #[.int .i64 (-1)] 3) = w2 := ⟨_, rfl⟩
  have hs2 : w2.heap.size = w.heap.size + 1 + 1 := by rw [← hw2]; simp [hs1]
  have hb2 : Below w1.heap.size w1 w2 := hw2 ▸ below_new w1 _
  rw [hw2, hs1] at hu0
  have hr0 := own_full (e := 3) (size := 1) (n := 1) (base := w.heap.size) w2 #[.int .i64 0] (([0] : List Int).map iv) (by omega) (by decide) rfl rfl
  obtain ⟨w3, hw3⟩ : ∃ w3, w2.alloc (.cells #[.int .i64 0] 3) = w3 := ⟨_, rfl⟩
  have hs3 : w3.heap.size = w.heap.size + 1 + 1 + 1 := by rw [← hw3]; simp [hs2]
  have hb3 : Below w2.heap.size w2 w3 := hw3 ▸ below_new w2 _
  rw [hw3, hs2] at hr0
  obtain ⟨o4, ho4⟩ : ∃ o4 : Obj, o4 = .cells #[.slice (some ⟨w.heap.size, 0, none⟩) 1 1, .slice (some ⟨w.heap.size + 1, 0, none⟩) 1 1, .slice (some ⟨w.heap.size + 1 + 1, 0, none⟩) 1 1] 75 := ⟨_, rfl⟩
  obtain ⟨w4, hw4⟩ : ∃ w4, w3.alloc o4 = w4 := ⟨_, rfl⟩
  have hs4 : w4.heap.size = w.heap.size + 1 + 1 + 1 + 1 := by rw [← hw4]; simp [hs3]
  have hb4 : Below w3.heap.size w3 w4 := hw4 ▸ below_new w3 _
  have hbox : w4.heap[w.heap.size + 1 + 1 + 1]? = some o4 := by rw [← hw4, ← hs3]; exact heap_alloc_new w3 _
  have hB := bt (bt (bt hb1 hb2) hb3) hb4
  have HW := Lib.hid (show (((w.alloc (.cells #[.int .i64 0, .int .i64 0, .string ⟨#[]⟩, .string ⟨#[]⟩, .slice none 0 0] 47)).alloc (.cells #[.int .i64 (-1)] 3)).alloc (.cells #[.int .i64 0] 3)).alloc (.cells #[.slice (some ⟨w.heap.size, 0, none⟩) 1 1, .slice (some ⟨w.heap.size + 1, 0, none⟩) 1 1, .slice (some ⟨w.heap.size + 1 + 1, 0, none⟩) 1 1] 75) = w4 from by rw [hw1, hw2, hw3, ← ho4, hw4])
  have hX : w4.ownsRow w.heap.size 47 5 (.slice (some ⟨w.heap.size, 0, none⟩) 1 1) 1 (([⟨ro00, none, 0⟩] : List Cw).flatMap cells) := owns_block hx0 fun g hg => by
    obtain rfl : w.heap.size = g := Option.some.inj hg
    rw [hb4.block _ (by omega), hb3.block _ (by omega), hb2.block _ (by omega)]
  have hU : Iw w.heap.size w4 (w.heap.size + 1) 1 1 [-1] := owns_block hu0 fun g hg => by
    obtain rfl : w.heap.size + 1 = g := Option.some.inj hg
    rw [hb4.block _ (by omega), hb3.block _ (by omega)]
  have hR : Iw w.heap.size w4 (w.heap.size + 1 + 1) 1 1 [0] := owns_block hr0 fun g hg => by
    obtain rfl : w.heap.size + 1 + 1 = g := Option.some.inj hg
    rw [hb4.block _ (by omega)]
  have hRP : RP w4 w.heap.size (fun b => w.heap.size ≤ b ∧ b < w4.heap.size) (w.heap.size + 1 + 1 + 1) 1 1 1 w.heap.size 1 (w.heap.size + 1) 1 (w.heap.size + 1 + 1) 1 [⟨ro00, none, 0⟩] [-1] [0] := by
    refine ⟨ho4 ▸ hbox, hX, fun x hx => ?_, hU, hR, by omega, by omega, ⟨by omega, by omega⟩, ⟨by omega, by omega⟩, ⟨by omega, by omega⟩, ⟨by omega, by omega⟩, fun b hb => hb.2⟩
    rw [List.mem_singleton] at hx
    subst hx
    exact ⟨⟨World.ownsRow_nil _ _ _ _, fun x hx => by cases hx⟩, fun g hg => by cases hg⟩
  have HB := Lib.hid hB; have HRP := Lib.hid hRP
  clear hX hU hR hRP hB hbox hs4 hb4 hw4 ho4 hr0 hb3 hs3 hw3 hu0 hb2 hs2 hw2 hx0 hb1 hs1 hw1
  go_enter Try.func16, Try.ntmps16
  go_wp2
  go_ret
  rw [HW.out]
  exact ⟨w.heap.size + 1 + 1 + 1, _, rfl, ⟨_, _, _, _, _, _, _, _, RP.doc (M := M0) HRP.out rfl rfl rf_M0⟩, HB.out, fun b hb => hb.1⟩
end Go.Proofs.Ytfnffplnoicjcaa.Ar

namespace Go.Proofs.Ytfnffplnoicjcaa.Ar
set_option maxRecDepth 100000
set_option linter.unusedSimpArgs false
set_option linter.unusedVariables false
open Go.RowKit Ba
open Ro (At Ro Cw ros Rr Ow Nw Fr Att Ap Sh cells acells app_num below_new infoI info_row len_cells rowV rowO Few Fits)
open Na (mayB)
/-! ### What Make answers. -/
def makeB (k : Int) (n d : ByteArray) : Bool := (k == 0 && mayB n false && d.toList.isEmpty) || ((k == 1 || k == 2) && n.toList.isEmpty)
def makeR (k : Int) (n d : ByteArray) : Ro := ⟨0, k, n, d, []⟩
def makeE (M : List Nd) (k : Int) (n d : ByteArray) : Int × Int := if makeB k n d then (if 4096 ≤ M.length then (0, 2) else ((M.length : Int), 0)) else (0, 1)
def makeM (M : List Nd) (k : Int) (n d : ByteArray) : List Nd := if makeB k n d && decide (M.length < 4096) then addM M (makeR k n d) else M
theorem att_none (w : World) (r : Ro) (h : r.attrs = []) : Att w w.heap.size ⟨r, none, 0⟩ := by
  refine ⟨by rw [h]; exact Nat.le_refl _, fun _ => rfl, Nat.zero_le _, fun h0 => ?_, ?_⟩
  · rw [h] at h0
    exact absurd h0 (by simp)
  · show Sh r.attrs
    rw [h]
    intro x hx
    cases hx
set_option maxRecDepth 100000 in
set_option maxHeartbeats 4000000 in
theorem refMake1 {p N : Nat} {F : Nat → Prop} {M : List Nd} (k : Int) (n d : ByteArray) (w : World) (D : Doc11 w N F p M) (W : Wf M) (hm : M.length ≤ 5000) (hs : n.size ≤ 140737488355328) (hk : -9223372036854775808 ≤ k ∧ k ≤ 9223372036854775807) :
    Calls Try.prog 38 #[.pointer (some ⟨p, 0, none⟩), .int .i64 k, .string n, .string d] w fun e w' => e = .returned (.tuple #[.int .i64 (makeE M k n d).1, .int .i64 (makeE M k n d).2]) ∧ ∃ F', Doc11 w' N F' p (makeM M k n d) ∧ Next w w' F F' := by
  have D0 := Lib.hid D
  obtain ⟨rk, gX, cX, gU, cU, gR, cR, lX, D⟩ := D
  have hx := D.rd.x
  clear D
  have hmay := Na.may_any n false w hs
  obtain ⟨q, hq⟩ : ∃ q, mayB n false = q := ⟨_, rfl⟩
  rw [hq] at hmay
  have HM := Lib.hid hmay; have HQ := Lib.hid hq
  clear hmay
  by_cases k0 : k = 0
  · subst k0
    cases q with
    | false =>
      have e1 : makeB 0 n d = false := by unfold makeB; rw [hq]; rfl
      have e2 : makeE M 0 n d = (0, 1) := by unfold makeE; rw [e1]; rfl
      have e3 : makeM M 0 n d = M := by unfold makeM; rw [e1]; rfl
      rw [e2, e3]
      clear e1 e2 e3 hq
      go_enter Try.func38, Try.ntmps38
      go_wp2_with fail
      refine HM.out.mono ?_
      rintro e w1 ⟨rfl, rfl⟩
      go_wp2
      go_ret2
      exact ⟨rfl, F, D0.out, Next.refl w F⟩
    | true =>
      cases hd : d.toList.isEmpty with
      | true =>
        have e1 : makeB 0 n d = true := by unfold makeB; rw [hq, hd]; rfl
        by_cases hb : 4096 ≤ M.length
        · have e2 : makeE M 0 n d = (0, 2) := by unfold makeE; rw [e1, if_pos rfl, if_pos hb]
          have e3 : makeM M 0 n d = M := by unfold makeM; rw [e1, decide_eq_false (by omega)]; rfl
          rw [e2, e3]
          clear e1 e2 e3 hq
          go_enter Try.func38, Try.ntmps38
          go_wp2_with fail
          refine HM.out.mono ?_
          rintro e w1 ⟨rfl, rfl⟩
          go_wp2
          go_ret2
          exact ⟨rfl, F, D0.out, Next.refl w F⟩
        · have e2 : makeE M 0 n d = ((M.length : Int), 0) := by unfold makeE; rw [e1, if_pos rfl, if_neg hb]
          have e3 : makeM M 0 n d = addM M (makeR 0 n d) := by unfold makeM; rw [e1, decide_eq_true (by omega)]; rfl
          rw [e2, e3]
          have HA := Lib.hid (refAdd1 ⟨makeR 0 n d, none, 0⟩ w D0.out W hm (att_none w _ rfl) (fun x hx => by rw [List.mem_singleton] at hx; subst hx; exact Nat.zero_le _) (fun x hx => by rw [List.mem_singleton] at hx; subst hx; exact ⟨by show (-9223372036854775808 : Int) ≤ 0 + 0; decide, by show (0 : Int) + 0 ≤ 9223372036854775807; decide⟩))
          clear e1 e2 e3 hq
          go_enter Try.func38, Try.ntmps38
          go_wp2_with fail
          refine HM.out.mono ?_
          rintro e w1 ⟨rfl, rfl⟩
          go_wp2_with fail
          refine HA.out.mono ?_
          rintro e w2 ⟨rfl, F2, D2, N2⟩
          have HD2 := Lib.hid D2; have HN2 := Lib.hid N2
          clear D2 N2
          go_wp2
          go_ret2
          exact ⟨rfl, F2, HD2.out, HN2.out⟩
      | false =>
        have e1 : makeB 0 n d = false := by unfold makeB; rw [hq, hd]; rfl
        have e2 : makeE M 0 n d = (0, 1) := by unfold makeE; rw [e1]; rfl
        have e3 : makeM M 0 n d = M := by unfold makeM; rw [e1]; rfl
        rw [e2, e3]
        clear e1 e2 e3 hq
        go_enter Try.func38, Try.ntmps38
        go_wp2_with fail
        refine HM.out.mono ?_
        rintro e w1 ⟨rfl, rfl⟩
        go_wp2
        go_ret2
        exact ⟨rfl, F, D0.out, Next.refl w F⟩
  · by_cases k12 : k = 1 ∨ k = 2
    · cases hn : n.toList.isEmpty with
      | true =>
        rcases k12 with rfl | rfl
        · have e1 : makeB 1 n d = true := by unfold makeB; rw [hn]; rfl
          by_cases hb : 4096 ≤ M.length
          · have e2 : makeE M 1 n d = (0, 2) := by unfold makeE; rw [e1, if_pos rfl, if_pos hb]
            have e3 : makeM M 1 n d = M := by unfold makeM; rw [e1, decide_eq_false (by omega)]; rfl
            rw [e2, e3]
            clear e1 e2 e3 hq
            go_enter Try.func38, Try.ntmps38
            go_wp2
            go_ret2
            exact ⟨rfl, F, D0.out, Next.refl w F⟩
          · have e2 : makeE M 1 n d = ((M.length : Int), 0) := by unfold makeE; rw [e1, if_pos rfl, if_neg hb]
            have e3 : makeM M 1 n d = addM M (makeR 1 n d) := by unfold makeM; rw [e1, decide_eq_true (by omega)]; rfl
            rw [e2, e3]
            have HA := Lib.hid (refAdd1 ⟨makeR 1 n d, none, 0⟩ w D0.out W hm (att_none w _ rfl) (fun x hx => by rw [List.mem_singleton] at hx; subst hx; exact Nat.zero_le _) (fun x hx => by rw [List.mem_singleton] at hx; subst hx; exact ⟨by show (-9223372036854775808 : Int) ≤ 0 + 0; decide, by show (0 : Int) + 0 ≤ 9223372036854775807; decide⟩))
            clear e1 e2 e3 hq
            go_enter Try.func38, Try.ntmps38
            go_wp2_with fail
            refine HA.out.mono ?_
            rintro e w2 ⟨rfl, F2, D2, N2⟩
            have HD2 := Lib.hid D2; have HN2 := Lib.hid N2
            clear D2 N2
            go_wp2
            go_ret2
            exact ⟨rfl, F2, HD2.out, HN2.out⟩
        · have e1 : makeB 2 n d = true := by unfold makeB; rw [hn]; rfl
          by_cases hb : 4096 ≤ M.length
          · have e2 : makeE M 2 n d = (0, 2) := by unfold makeE; rw [e1, if_pos rfl, if_pos hb]
            have e3 : makeM M 2 n d = M := by unfold makeM; rw [e1, decide_eq_false (by omega)]; rfl
            rw [e2, e3]
            clear e1 e2 e3 hq
            go_enter Try.func38, Try.ntmps38
            go_wp2
            go_ret2
            exact ⟨rfl, F, D0.out, Next.refl w F⟩
          · have e2 : makeE M 2 n d = ((M.length : Int), 0) := by unfold makeE; rw [e1, if_pos rfl, if_neg hb]
            have e3 : makeM M 2 n d = addM M (makeR 2 n d) := by unfold makeM; rw [e1, decide_eq_true (by omega)]; rfl
            rw [e2, e3]
            have HA := Lib.hid (refAdd1 ⟨makeR 2 n d, none, 0⟩ w D0.out W hm (att_none w _ rfl) (fun x hx => by rw [List.mem_singleton] at hx; subst hx; exact Nat.zero_le _) (fun x hx => by rw [List.mem_singleton] at hx; subst hx; exact ⟨by show (-9223372036854775808 : Int) ≤ 0 + 0; decide, by show (0 : Int) + 0 ≤ 9223372036854775807; decide⟩))
            clear e1 e2 e3 hq
            go_enter Try.func38, Try.ntmps38
            go_wp2_with fail
            refine HA.out.mono ?_
            rintro e w2 ⟨rfl, F2, D2, N2⟩
            have HD2 := Lib.hid D2; have HN2 := Lib.hid N2
            clear D2 N2
            go_wp2
            go_ret2
            exact ⟨rfl, F2, HD2.out, HN2.out⟩
      | false =>
        rcases k12 with rfl | rfl
        · have e1 : makeB 1 n d = false := by unfold makeB; rw [hn]; rfl
          have e2 : makeE M 1 n d = (0, 1) := by unfold makeE; rw [e1]; rfl
          have e3 : makeM M 1 n d = M := by unfold makeM; rw [e1]; rfl
          rw [e2, e3]
          clear e1 e2 e3 hq
          go_enter Try.func38, Try.ntmps38
          go_wp2
          go_ret2
          exact ⟨rfl, F, D0.out, Next.refl w F⟩
        · have e1 : makeB 2 n d = false := by unfold makeB; rw [hn]; rfl
          have e2 : makeE M 2 n d = (0, 1) := by unfold makeE; rw [e1]; rfl
          have e3 : makeM M 2 n d = M := by unfold makeM; rw [e1]; rfl
          rw [e2, e3]
          clear e1 e2 e3 hq
          go_enter Try.func38, Try.ntmps38
          go_wp2
          go_ret2
          exact ⟨rfl, F, D0.out, Next.refl w F⟩
    · have k1 : ¬ k = 1 := fun h => k12 (.inl h)
      have k2 : ¬ k = 2 := fun h => k12 (.inr h)
      have e1 : makeB k n d = false := by
        unfold makeB
        have a0 : (k == 0) = false := by simpa using k0
        have a1 : (k == 1) = false := by simpa using k1
        have a2 : (k == 2) = false := by simpa using k2
        rw [a0, a1, a2]
        rfl
      have e2 : makeE M k n d = (0, 1) := by unfold makeE; rw [e1]; rfl
      have e3 : makeM M k n d = M := by unfold makeM; rw [e1]; rfl
      rw [e2, e3]
      clear e1 e2 e3 hq
      go_enter Try.func38, Try.ntmps38
      go_wp2
      go_ret2
      exact ⟨rfl, F, D0.out, Next.refl w F⟩
end Go.Proofs.Ytfnffplnoicjcaa.Ar

namespace Go.Proofs.Ytfnffplnoicjcaa.Ar
set_option maxRecDepth 100000
set_option linter.unusedSimpArgs false
set_option linter.unusedVariables false
open Go.RowKit Ba
open Ro (At Ro Cw ros Rr Ow Nw Fr Att Ap Sh cells acells app_num below_new infoI info_row len_cells rowV rowO Few Fits deeper deeper_zero Moved_any)
theorem flat_set {j : Nat} (hj : j < 5) (u : Value) : ∀ (l : List Cw) (k : Nat) (y : Cw), (∀ h : k < l.length, cells y = (cells l[k]).set j u) → k < l.length → (l.flatMap cells).set (k * 5 + j) u = (l.set k y).flatMap cells
  | [], k, _, _, h => absurd h (by simp)
  | a :: r, 0, y, hy, h => by
    have hc := hy h
    rw [List.getElem_cons_zero] at hc
    rw [List.flatMap_cons, List.set_cons_zero, List.flatMap_cons, hc, Nat.zero_mul, Nat.zero_add, List.set_append_left _ _ (by rw [len_cells]; exact hj)]
  | a :: r, k + 1, y, hy, h => by
    have hk : k < r.length := by simpa using h
    rw [List.flatMap_cons, List.set_cons_succ, List.flatMap_cons, List.set_append_right _ _ (by rw [len_cells]; omega), len_cells, show (k + 1) * 5 + j - 5 = k * 5 + j from by omega, flat_set hj u r k y (fun h' => hy h) hk]
theorem own_some5 {K n : Nat} {w : World} {v : Value} {xs : List Value} (h : w.ownsRow K 47 5 v n xs) (hn : 0 < n) : ∃ g c, v = .slice (some ⟨g, 0, none⟩) n c ∧ K ≤ g ∧ g < w.heap.size ∧ n ≤ c ∧ ∃ cs f, w.heap[g]? = some (.cells cs 47 f) := by
  rcases h.2 with ⟨hv, h0⟩ | ⟨g, cap, cur, hv, hg, hh, hnc, _⟩
  · omega
  · exact ⟨g, cap, hv, hg, (Array.getElem?_eq_some_iff.1 hh).1, hnc, _, _, hh⟩
theorem flat_few {M : List Nd} (W : Wf M) {lX : List Cw} (hs : ros lX = M.map Nd.ro) : Fits 0 (ros lX) := fun x hx => by
  rw [hs] at hx
  obtain ⟨y, hy, rfl⟩ := List.mem_map.1 hx
  obtain ⟨k, hk, rfl⟩ := List.getElem_of_mem hy
  have := W.flat k
  rw [nd_at hk] at this
  rw [this]
  decide
/-- The document's rows, copied. -/
theorem moved_doc {p N : Nat} {F : Nat → Prop} {M : List Nd} {rk : List Int} {gX cX gU cU gR cR : Nat} {lX : List Cw} (w : World) (D : RD w N F p M rk gX cX gU cU gR cR lX) (W : Wf M) (hm : M.length ≤ 5000) (hf : Few (M.map Nd.ro)) :
    Calls Try.prog 37 #[.slice (some ⟨gX, 0, none⟩) M.length cX, .int .i64 0] w fun e w1 => ∃ g c l', e = .returned (.slice (some ⟨g, 0, none⟩) M.length c) ∧ w.heap.size ≤ g ∧ w1.ownsRow w.heap.size 47 5 (.slice (some ⟨g, 0, none⟩) M.length c) M.length (l'.flatMap cells) ∧ (∀ x ∈ l', Fr w.heap.size w1 x) ∧ ros l' = M.map Nd.ro ∧ l'.length = M.length ∧ Below w.heap.size w w1 := by
  have hl := D.len
  have hcap : M.length ≤ cX := by
    obtain ⟨g, c, hv, _, _, hnc, _⟩ := own_some5 D.rows W.pos
    injection hv with _ _ hc
    omega
  have h := Moved_any (some ⟨gX, 0, none⟩) cX lX 0 w D.rd.rows (by omega) (by omega) (by rw [D.same]; exact hf) (flat_few W D.same)
  rw [hl] at h
  refine h.mono ?_
  rintro e w1 ⟨v, l', rfl, ho, hfr, hr, hb⟩
  rw [deeper_zero, D.same] at hr
  have hll : l'.length = M.length := by
    have := congrArg List.length hr
    rw [Ro.len_ros, List.length_map] at this
    exact this
  have ho1 := ho.1
  rw [hll] at ho1
  obtain ⟨g, c, rfl, hg, _, _, _⟩ := own_some5 ho1 W.pos
  exact ⟨g, c, l', rfl, hg, ho1, hfr, hr, hll, hb⟩
theorem up_row (M : List Nd) (n : Nat) (f : Ro → Ro) : (rowM M n f).map Nd.up = M.map Nd.up := by
  apply List.ext_getElem?
  intro j
  unfold rowM
  rw [List.getElem?_map, List.getElem?_mapIdx, List.getElem?_map]
  cases M[j]? with
  | none => rfl
  | some x =>
    show some (Nd.up (if j = n then _ else x)) = some x.up
    split <;> rfl
theorem ro_row (M : List Nd) (n : Nat) (f : Ro → Ro) : (rowM M n f).map Nd.ro = (M.map Nd.ro).set n (f (nd M n).ro) := by
  apply List.ext_getElem?
  intro j
  unfold rowM
  rw [List.getElem?_map, List.getElem?_mapIdx, List.getElem?_set, List.getElem?_map, List.length_map]
  by_cases hj : j < M.length
  · rw [List.getElem?_eq_getElem hj]
    by_cases e : n = j
    · subst e
      rw [if_pos rfl, if_pos hj, nd_at hj]
      simp
    · have e' : ¬ j = n := fun h => e h.symm
      rw [if_neg e]
      simp [e']
  · rw [List.getElem?_eq_none (by omega : M.length ≤ j)]
    by_cases e : n = j
    · subst e
      simp [hj]
    · simp [e]
theorem rf_row {M : List Nd} {rk : List Int} (R : Rf M rk) {n : Nat} (hn : n < M.length) (f : Ro → Ro) : Rf (rowM M n f) rk := ⟨by rw [len_row]; exact R.len, R.low, fun p => by
  have : (nd (rowM M n f) p).kids = (nd M p).kids := by rw [nd_row hn]; split <;> rfl
  rw [this]
  exact R.rise p⟩
/-- The rows copied, one of them changed, put into the box. -/
theorem RD.newRow {w w2 : World} {p N : Nat} {F : Nat → Prop} {M : List Nd} {rk : List Int} {gX cX gU cU gR cR : Nat} {lX : List Cw} (D : RD w N F p M rk gX cX gU cU gR cR lX) {g c : Nat} {l' : List Cw} (hg : w.heap.size ≤ g) {k : Nat} (hk : k < M.length) {y : Cw} {f : Ro → Ro} (hy : y.ro = f (nd M k).ro) (ho : w2.ownsRow w.heap.size 47 5 (.slice (some ⟨g, 0, none⟩) M.length c) M.length ((l'.set k y).flatMap cells)) (hfr : ∀ x ∈ l'.set k y, Fr w.heap.size w2 x) (hr : ros l' = M.map Nd.ro) (hb : Below w.heap.size w w2) :
    ∃ F', Doc11 (w2.setCell ⟨p, 0, none⟩ (.slice (some ⟨g, 0, none⟩) M.length c)) N F' p (rowM M k f) ∧ Next w (w2.setCell ⟨p, 0, none⟩ (.slice (some ⟨g, 0, none⟩) M.length c)) F F' := by
  have hN := D.rp.hN
  obtain ⟨h1, h2⟩ := D.rp.putX (w' := w2) ((Touch.of_below hb)) (World.ownsRow.mono ho hN) (.inr hg) (fun x hx => ⟨(hfr x hx).mono hN, fun b hb' => .inr (owns_lt (hfr x hx).1 hb').1⟩)
  refine ⟨_, ⟨rk, g, c, gU, cU, gR, cR, l'.set k y, RP.doc (M := rowM M k f) (by rw [len_row]; exact h1) ?_ (up_row M k f).symm (rf_row D.rf hk f)⟩, h2⟩
  rw [ro_row, ← hr, ← hy]
  unfold ros
  rw [List.map_set]
/-- One cell of a row of one's own changed. -/
theorem row_stored {K n g c : Nat} {w : World} {l' : List Cw} (ho : w.ownsRow K 47 5 (.slice (some ⟨g, 0, none⟩) n c) n (l'.flatMap cells)) (hf : ∀ x ∈ l', Fr K w x) {k j : Nat} (hk : k < l'.length) (hj : j < 5) (u : Value) {y : Cw} (hy : cells y = (cells l'[k]).set j u) :
    (w.setCell ⟨g, k * 5 + j, none⟩ u).ownsRow K 47 5 (.slice (some ⟨g, 0, none⟩) n c) n ((l'.set k y).flatMap cells) ∧ (∀ x, Fr K w x → Fr K (w.setCell ⟨g, k * 5 + j, none⟩ u) x) := by
  have h1 := (World.ownsRow.stored ho (k * 5 + j) u).1
  rw [flat_set hj u l' k y (fun _ => hy) hk] at h1
  refine ⟨h1, fun x hx => Fr.block hx fun b hb => Below.heap_setCell _ _ _ _ fun e => ?_⟩
  obtain ⟨_, _, hh⟩ := at_obj hx hb
  have hn : 0 < n := by
    have := ho.1
    rw [Ro.flat_len cells 5 Ro.len_cells] at this
    omega
  obtain ⟨g', c', hv, _, _, _, _, _, hh2⟩ := own_some5 ho hn
  injection hv with hv
  injection hv with hv
  injection hv with hv
  rw [e] at hh
  have e' : b = g := e
  rw [← hv] at hh2
  exact type_ne hh hh2 (by decide) rfl
end Go.Proofs.Ytfnffplnoicjcaa.Ar

namespace Go.Proofs.Ytfnffplnoicjcaa.Ar
set_option maxRecDepth 100000
set_option linter.unusedSimpArgs false
set_option linter.unusedVariables false
open Go.RowKit Ba
open Ro (At Ro Cw ros Rr Ow Nw Fr Att Ap Sh cells acells app_num below_new infoI info_row len_cells rowV rowO Few Fits deeper deeper_zero Moved_any)
/-! ### What they answer. -/
def elB11 (M : List Nd) (n : Int) : Bool := decide (0 < n) && decide (n < M.length) && decide ((nd M n.toNat).ro.kind = 0)
def dataE (M : List Nd) (n : Int) : Int := if n < 1 ∨ (M.length : Int) ≤ n ∨ (nd M n.toNat).ro.kind = 0 then 110 else 0
def dataM (M : List Nd) (n : Int) (d : ByteArray) : List Nd := if n < 1 ∨ (M.length : Int) ≤ n ∨ (nd M n.toNat).ro.kind = 0 then M else rowM M n.toNat fun r => { r with data := d }
set_option maxRecDepth 100000 in
theorem refElement1 {p N : Nat} {F : Nat → Prop} {M : List Nd} {rk : List Int} {gX cX gU cU gR cR : Nat} {lX : List Cw} (n : Int) (w : World) (D : RD w N F p M rk gX cX gU cU gR cR lX) :
    Calls Try.prog 68 #[.pointer (some ⟨p, 0, none⟩), .int .i64 n] w fun e w' => e = .returned (.bool (elB11 M n)) ∧ w = w' := by
  have hx := D.rd.x
  by_cases c1 : 0 < n
  · by_cases c2 : n < M.length
    · obtain ⟨k, rfl⟩ : ∃ k : Nat, n = k := ⟨n.toNat, by omega⟩
      have hk : k < M.length := by omega
      obtain ⟨x, hxk, hxr, _, hxc⟩ := D.cellX hk
      have hck := hxc 1 _ rfl
      rw [hxr] at hck
      by_cases c3 : (nd M k).ro.kind = 0
      · have e1 : elB11 M k = true := by
          unfold elB11
          rw [decide_eq_true c1, decide_eq_true c2]
          show decide ((nd M k).ro.kind = 0) = true
          exact decide_eq_true c3
        rw [e1]
        rw [c3] at hck
        clear D hxk hxr hxc e1 c3
        go_enter Try.func68, Try.ntmps68
        go_wp2
        go_ret
        exact ⟨rfl, rfl⟩
      · have e1 : elB11 M k = false := by
          unfold elB11
          rw [decide_eq_true c1, decide_eq_true c2]
          show decide ((nd M k).ro.kind = 0) = false
          exact decide_eq_false c3
        rw [e1]
        obtain ⟨kd, hkd⟩ : ∃ kd, (nd M k).ro.kind = kd := ⟨_, rfl⟩
        rw [hkd] at hck c3
        have c4 : (kd == 0) = false := by simpa using c3
        clear D hxk hxr hxc e1 hkd
        go_enter Try.func68, Try.ntmps68
        go_wp2
        go_ret
        exact ⟨ret_bool (by simp [c3, c4]), rfl⟩
    · have e1 : elB11 M n = false := by
        unfold elB11
        rw [decide_eq_false c2, Bool.and_false, Bool.false_and]
      rw [e1]
      clear D e1
      go_enter Try.func68, Try.ntmps68
      go_wp2
      go_ret
      exact ⟨rfl, rfl⟩
  · have e1 : elB11 M n = false := by
      unfold elB11
      rw [decide_eq_false c1, Bool.false_and, Bool.false_and]
    rw [e1]
    clear D e1
    go_enter Try.func68, Try.ntmps68
    go_wp2
    go_ret
    exact ⟨rfl, rfl⟩
set_option maxRecDepth 100000 in
set_option maxHeartbeats 4000000 in
theorem refData1 {p N : Nat} {F : Nat → Prop} {M : List Nd} (n : Int) (d : ByteArray) (w : World) (D : Doc11 w N F p M) (W : Wf M) (hm : M.length ≤ 5000) (hf : Few (M.map Nd.ro)) :
    Calls Try.prog 47 #[.pointer (some ⟨p, 0, none⟩), .int .i64 n, .string d] w fun e w' => e = .returned (.int .i64 (dataE M n)) ∧ ∃ F', Doc11 w' N F' p (dataM M n d) ∧ Next w w' F F' := by
  have D0 := Lib.hid D
  obtain ⟨rk, gX, cX, gU, cU, gR, cR, lX, D⟩ := D
  have hx := D.rd.x
  by_cases h1 : n < 1 ∨ (M.length : Int) ≤ n ∨ (nd M n.toNat).ro.kind = 0
  · have e1 : dataE M n = 110 := by unfold dataE; rw [if_pos h1]
    have e2 : dataM M n d = M := by unfold dataM; rw [if_pos h1]
    rw [e1, e2]
    clear e1 e2
    by_cases c1 : n < 1
    · clear D h1
      go_enter Try.func47, Try.ntmps47
      go_wp2
      go_ret
      exact ⟨rfl, F, D0.out, Next.refl w F⟩
    by_cases c2 : (M.length : Int) ≤ n
    · clear D h1
      go_enter Try.func47, Try.ntmps47
      go_wp2
      go_ret
      exact ⟨rfl, F, D0.out, Next.refl w F⟩
    obtain ⟨k, rfl⟩ : ∃ k : Nat, n = k := ⟨n.toNat, by omega⟩
    have hk : k < M.length := by omega
    have c3 : (nd M k).ro.kind = 0 := (h1.resolve_left c1).resolve_left c2
    obtain ⟨x, hxk, hxr, _, hxc⟩ := D.cellX hk
    have hck := hxc 1 _ rfl
    rw [hxr, c3] at hck
    have hki : (k : Int) < M.length := by omega
    clear D hxk hxr hxc c3 h1
    go_enter Try.func47, Try.ntmps47
    go_wp2
    go_ret
    exact ⟨rfl, F, D0.out, Next.refl w F⟩
  · have e1 : dataE M n = 0 := by unfold dataE; rw [if_neg h1]
    have e2 : dataM M n d = rowM M n.toNat fun r => { r with data := d } := by unfold dataM; rw [if_neg h1]
    rw [e1, e2]
    obtain ⟨k, rfl⟩ : ∃ k : Nat, n = k := ⟨n.toNat, by omega⟩
    have hk : k < M.length := by omega
    have c3 : ¬ (nd M k).ro.kind = 0 := fun h => h1 (.inr (.inr h))
    obtain ⟨x, hxk, hxr, _, hxc⟩ := D.cellX hk
    have hck := hxc 1 _ rfl
    rw [hxr] at hck
    obtain ⟨kd, hkd⟩ : ∃ kd, (nd M k).ro.kind = kd := ⟨_, rfl⟩
    rw [hkd] at hck c3
    have c4 : (kd == 0) = false := by simpa using c3
    have hki : (k : Int) < M.length := by omega
    have hk1 : ¬ (k : Int) < 1 := by omega
    have HMV := Lib.hid (moved_doc w D W hm hf)
    have HD := Lib.hid D
    clear D hxk hxr hxc h1 e1 e2 hkd
    go_enter Try.func47, Try.ntmps47
    go_wp2_with fail
    refine HMV.out.mono ?_
    rintro e w1 ⟨g, c, l', rfl, hg, ho, hfr, hr, hl, hb⟩
    have hkl : k < l'.length := by omega
    have hcell : w1.cell? ⟨g, k * 5 + 3, none⟩ = some (.string l'[k].ro.data) ∧ w1.frozen? ⟨g, k * 5 + 3, none⟩ = false := by
      refine ⟨?_, World.ownsRow.frozenAt ho _⟩
      rw [World.ownsRow.cellAt ho _ (by omega), Ro.flat_at cells 5 Ro.len_cells _ _ _ hkl (by decide)]
      rfl
    obtain ⟨hcell, hfz⟩ := hcell
    obtain ⟨y, hy⟩ : ∃ y : Cw, y = ⟨{ l'[k].ro with data := d }, l'[k].A, l'[k].c⟩ := ⟨_, rfl⟩
    have hyc : cells y = (cells l'[k]).set 3 (.string d) := by rw [hy]; rfl
    have hyr : y.ro = { (nd M k).ro with data := d } := by
      rw [hy]
      have h0 : (ros l')[k]? = (M.map Nd.ro)[k]? := by rw [hr]
      unfold ros at h0
      rw [List.getElem?_map, List.getElem?_map, List.getElem?_eq_getElem hkl, List.getElem?_eq_getElem hk] at h0
      rw [nd_at hk, ← Option.some.inj h0]
    obtain ⟨s1, s2⟩ := row_stored ho hfr hkl (by decide) (.string d) hyc
    have hfr2 : ∀ x ∈ l'.set k y, Fr w.heap.size (w1.setCell ⟨g, k * 5 + 3, none⟩ (.string d)) x := fun x hx => by
      rcases List.mem_or_eq_of_mem_set hx with hx | rfl
      · exact s2 x (hfr x hx)
      · have := s2 _ (hfr _ (List.getElem_mem hkl))
        rw [hy]
        exact this
    have hb2 := hb.setCell (p := ⟨g, k * 5 + 3, none⟩) hg (.string d)
    have D2 := HD.out.below hb2
    have hp2 := D2.rd.x
    have hpf := box_frozen D2.box 0
    have KEY := Lib.hid (HD.out.newRow (f := fun r => { r with data := d }) hg hk hyr s1 hfr2 hr hb2)
    clear s1 s2 hfr2 hb2 D2 hyc hyr hy ho hfr hr hb HMV
    go_wp2
    go_ret
    obtain ⟨F', h3, h4⟩ := KEY.out
    exact ⟨rfl, F', h3, h4⟩
end Go.Proofs.Ytfnffplnoicjcaa.Ar
