/-
  Stage 13: what the law asks ahead: calls whose answers are fixed.
  Stage 13: the law's bound: forty rows of eight attributes.
  Arguments that are slices of structs: their parts, and what is read of each.
  An argument that is a slice of strings, as the row reads it: a list of strings, nil or not.
  An argument api.Conf, as a statement's row reads it.
  Walk of stage 12: the law's Bound.
  Stage 12: what the laws have in common: a configuration bounded, in a box of the law's own.
  Stage 13: what the laws have in common: rows and a configuration bounded.
  Stage 13: one list of attributes within another one, in order.
  Stage 13: CleanAttrs.
  Stage 13: an argument api.Row, as a statement's row reads it.
-/
import Derived.Test.YtdjkeakagmgfgaaCk05
import Derived.Deep.RegionHeld3
import Derived.Test.YtdjkeakagmgfgaaCk01
import Derived.Test.YtdjkeakagmgfgaaCk02
import Derived.Test.YtdjkeakagmgfgaaCk04
import Derived.Deep.Slices
import Derived.Deep.Fields
import Derived.ChangeSame
import Derived.ProofKit
import Derived.Carry
import Derived.Lib.SmallJoins
import Derived.SliceStrings
import Derived.Test.YtdjkeakagmgfgaaCk03
import Derived.Laws.Small
import Derived.BigQuiet
import Derived.Deep.QuietTactic
import Derived.Deep.CutRange
namespace Go.Proofs.Ytdjkeakagmgfgaa.Cn
set_option maxRecDepth 100000
set_option linter.unusedVariables false
set_option linter.unusedSimpArgs false
open Go.RowKit Ba Ro
open Co (Cf Cv Sm confV confO attrB12 elementN checkN bel_eq12 allC sv_lit12 sv_nil12)
def treeL : List Ro := [⟨0, 0, ⟨#[98]⟩, .empty, [⟨⟨#[111, 110, 99, 108, 105, 99, 107]⟩, ⟨#[120]⟩⟩, ⟨⟨#[105, 100]⟩, .empty⟩]⟩, ⟨1, 1, .empty, ⟨#[97]⟩, []⟩, ⟨1, 0, ⟨#[115, 99, 114, 105, 112, 116]⟩, .empty, []⟩, ⟨2, 1, .empty, ⟨#[121]⟩, []⟩]
def X1 : List Ro := [⟨0, 0, ⟨#[98]⟩, .empty, [⟨⟨#[105, 100]⟩, .empty⟩]⟩, ⟨1, 1, .empty, ⟨#[97]⟩, []⟩]
def X2 : List Ro := [⟨0, 1, .empty, ⟨#[97]⟩, []⟩]
def cRep : Cf := ⟨false, false, [], [⟨#[98]⟩], [], [], false, false⟩
def cDat : Cf := ⟨false, false, [], [], [], [], false, true⟩
theorem tree_check : check treeL = 0 := by decide +kernel
theorem tree_right : right treeL = true := by decide +kernel
theorem err1 : errI allC treeL = 0 := by decide +kernel
theorem err2 : errI cRep treeL = 0 := by decide +kernel
theorem err4 : errI cDat treeL = 120 := by decide +kernel
theorem err5 : errI allC (treeL.drop 1) = 40 := by decide +kernel
theorem out1 : outL allC true treeL = X1 := by
  unfold outL
  rw [if_pos err1, clean_nr allC true tree_right]
  decide +kernel
theorem out2 : outL cRep true treeL = X2 := by
  unfold outL
  rw [if_pos err2, clean_nr cRep true tree_right]
  decide +kernel
theorem out3 : outL allC false treeL = treeL := by
  unfold outL
  rw [if_pos err1, clean_nr allC false tree_right]
  decide +kernel
theorem out4 : outL cDat true treeL = [] := by
  unfold outL
  rw [if_neg (by rw [err4]; decide)]
theorem out5 : outL allC true (treeL.drop 1) = [] := by
  unfold outL
  rw [if_neg (by rw [err5]; decide)]
theorem sm_rep : Sm cRep := Co.sm_few (by decide +kernel)
theorem sm_dat : Sm cDat := Co.sm_few (by decide +kernel)
theorem small_dec {l : List Ro} (h : (l.all fun x => decide (x.name.size ≤ 1000) && decide (x.data.size ≤ 1000) && x.attrs.all fun a => decide (a.name.size ≤ 1000) && decide (a.value.size ≤ 1000)) = true) : Rz.Small l := fun x hx => by
  have := List.all_eq_true.1 h x hx
  simp only [Bool.and_eq_true, decide_eq_true_eq, List.all_eq_true] at this
  exact ⟨by omega, by omega, fun a ha => by have := this.2 a ha; omega⟩
theorem tree_small : Rz.Small treeL := small_dec (by decide +kernel)
theorem few_dec {l : List Ro} (h : (l.all fun x => decide (x.attrs.length ≤ 1000000)) = true) : Few l := fun x hx => of_decide_eq_true (List.all_eq_true.1 h x hx)
theorem tree_few : Few treeL := few_dec (by decide +kernel)
theorem tree_txt : (txt treeL).length ≤ 1000000000 := by decide +kernel
theorem tree_txt1 : (txt (treeL.drop 1)).length ≤ 1000000000 := by decide +kernel
theorem tree_small1 : Rz.Small (treeL.drop 1) := small_dec (by decide +kernel)
theorem tree_few1 : Few (treeL.drop 1) := few_dec (by decide +kernel)
theorem tree_held : Held treeL := held_check tree_check

/-- Rows freshly written down, with their attributes. -/
theorem rows_lit (w : World) (l : List Cw) (cs : Array Value) (n : Nat) (hn : l.length = n) (hm : n ≤ maxLen) (hcs : cs.toList = l.flatMap cells) (hl : ∀ x ∈ l, Att (w.alloc (.cells cs 36)) (w.alloc (.cells cs 36)).heap.size x ∧ Ap (w.alloc (.cells cs 36)) w.heap.size x) :
    Ow w.heap.size (w.alloc (.cells cs 36)) (.slice (some ⟨w.heap.size, 0, none⟩) n n) l := by
  have hfl : (l.flatMap cells).length = n * 5 := by rw [flat_len cells 5 len_cells, hn]
  have hsz : cs.size = n * 5 := by rw [← Array.length_toList, hcs, hfl]
  refine ⟨⟨by rw [hn, hfl], .inr ⟨w.heap.size, n, cs, by rw [hn], Nat.le_refl _, heap_alloc_new w _, by rw [hn]; exact Nat.le_refl _, hm, hsz, ?_⟩⟩, hl⟩
  rw [hn, hcs, ← hfl, List.take_length]
/-- A row whose attributes fill block g. -/
theorem att_lit {w : World} {g : Nat} (d k : Int) (nm dt : ByteArray) (l : List At) (h : w.heap[g]? = some (.cells (l.flatMap acells).toArray 40)) (hm : l.length ≤ maxLen) (hs : Sh l) : Att w w.heap.size ⟨⟨d, k, nm, dt, l⟩, some ⟨g, 0, none⟩, l.length⟩ := by
  refine ⟨Nat.le_refl _, (fun e => by cases e), hm, fun _ => ⟨g, 0, rfl, (Array.getElem?_eq_some_iff.1 h).1, fun j hj i u hu => ?_⟩, hs⟩
  have hi : i < 2 := (List.getElem?_eq_some_iff.1 hu).1
  rw [cell_of_row w g (0 + j * 2 + i) _ _ _ h]
  rw [List.getElem?_toArray, show 0 + j * 2 + i = j * 2 + i by omega, flat_at acells 2 len_acells _ _ _ hj hi]
  exact hu
def aX1 (g : Nat) : List Cw := [⟨⟨0, 0, ⟨#[98]⟩, .empty, [⟨⟨#[105, 100]⟩, .empty⟩]⟩, some ⟨g, 0, none⟩, 1⟩, bare ⟨1, 1, .empty, ⟨#[97]⟩, []⟩]
theorem lit_rv (w : World) (g : Nat) (x : Cw) (l : List Ro) (cs : Array Value) (n : Nat) (hn : l.length + 1 = n) (hm : n ≤ 1000) (hcs : cs.toList = (x :: l.map bare).flatMap cells) (hx : Att w w.heap.size x) (hl : ∀ r ∈ l, r.attrs = []) (hh : Held (ros (x :: l.map bare))) :
    Rv (w.alloc (.cells cs 36)) (.slice (some ⟨w.heap.size, 0, none⟩) n n) (x :: l.map bare) := by
  refine (rows_lit w (x :: l.map bare) cs n (by rw [List.length_cons, List.length_map, hn]) (by unfold maxLen; omega) hcs fun y hy => ?_).rv hh
  rcases List.mem_cons.1 hy with rfl | hy
  · exact ⟨(hx.below (below_new w _)).more (below_new w _).size, (hx.below (below_new w _)).apart⟩
  · obtain ⟨r, hr, rfl⟩ := List.mem_map.1 hy
    exact ⟨bare_att _ _ (hl r hr), bare_ap _ _ (hl r hr)⟩
theorem bel_drew {n : Nat} {w v : World} (h : Below n w.drew v) : Below n w v := ⟨h.os, h.tape, h.output, h.size, h.block⟩
theorem tree1 (w : World) : Calls Try.prog 39 #[] w fun r w' => ∃ g y, r = .returned (.slice (some ⟨g, 0, none⟩) 4 4) ∧ Rv w' (.slice (some ⟨g, 0, none⟩) 4 4) y ∧ ros y = treeL ∧ Below w.heap.size w w' := by
  have h0 : (w.alloc (.cells #[.string ⟨#[111, 110, 99, 108, 105, 99, 107]⟩, .string ⟨#[120]⟩, .string ⟨#[105, 100]⟩, .string .empty] 40)).heap[w.heap.size]? = some (.cells #[.string ⟨#[111, 110, 99, 108, 105, 99, 107]⟩, .string ⟨#[120]⟩, .string ⟨#[105, 100]⟩, .string .empty] 40) := heap_alloc_new w _
  have ha := att_lit 0 0 ⟨#[98]⟩ .empty [⟨⟨#[111, 110, 99, 108, 105, 99, 107]⟩, ⟨#[120]⟩⟩, ⟨⟨#[105, 100]⟩, .empty⟩] h0 (by decide) (fun a ha => by
    have : a.name.size ≤ 7 := by
      rcases List.mem_cons.1 ha with rfl | ha
      · decide
      · rw [List.mem_singleton.1 ha]; decide
    unfold maxLen; omega)
  have hv := lit_rv _ w.heap.size _ [⟨1, 1, .empty, ⟨#[97]⟩, []⟩, ⟨1, 0, ⟨#[115, 99, 114, 105, 112, 116]⟩, .empty, []⟩, ⟨2, 1, .empty, ⟨#[121]⟩, []⟩] #[.int .i64 0, .int .i64 0, .string ⟨#[98]⟩, .string .empty, .slice (some ⟨w.heap.size, 0, none⟩) 2 2, .int .i64 1, .int .i64 1, .string .empty, .string ⟨#[97]⟩, .slice none 0 0, .int .i64 1, .int .i64 0, .string ⟨#[115, 99, 114, 105, 112, 116]⟩, .string .empty, .slice none 0 0, .int .i64 2, .int .i64 1, .string .empty, .string ⟨#[121]⟩, .slice none 0 0] 4 rfl (by decide) rfl ha (by decide) tree_held
  rw [World.size_alloc] at hv
  have hb := below_two w (.cells #[.string ⟨#[111, 110, 99, 108, 105, 99, 107]⟩, .string ⟨#[120]⟩, .string ⟨#[105, 100]⟩, .string .empty] 40) (.cells #[.int .i64 0, .int .i64 0, .string ⟨#[98]⟩, .string .empty, .slice (some ⟨w.heap.size, 0, none⟩) 2 2, .int .i64 1, .int .i64 1, .string .empty, .string ⟨#[97]⟩, .slice none 0 0, .int .i64 1, .int .i64 0, .string ⟨#[115, 99, 114, 105, 112, 116]⟩, .string .empty, .slice none 0 0, .int .i64 2, .int .i64 1, .string .empty, .string ⟨#[121]⟩, .slice none 0 0] 36)
  have HV := Lib.hid hv; have HB := Lib.hid hb
  clear h0 ha hv hb
  go_enter Try.func39, Try.ntmps39
  go_wp2
  go_ret
  exact ⟨_, _, rfl, HV.out, rfl, HB.out⟩
theorem rows_of (V v : Value) (y : List Cw) (T : List Ro) (c : Cf) (s : Bool) (w : World) (hV : Rv w V y) (hy : ros y = T) (hl : T.length ≤ 1000) (hz : Rz.Small T) (hf : Few T) (ht : (txt T).length ≤ 1000000000) (hc : Cv w w.heap.size v c) (hs : Sm c) (E : Int) (q : List Ro) (hE : errI c T = E) (hq : outL c s T = q) :
    Calls Try.prog 14 #[V, v, .bool s] w fun r w' => ∃ V y, r = .returned (.tuple #[V, .int .i64 E]) ∧ ros y = q ∧ Rv w' V y ∧ Below w.heap.size w w' := by
  subst hy
  refine (rows13 V v y c s w hV (by rw [← len_ros]; omega) hz hf ht hc hs E q hE hq).mono ?_
  rintro r w' ⟨V', y', h1, h2, h3, h4, h5⟩
  exact ⟨V', y', h1, h3, h4, h5⟩
theorem cut_rv {w : World} {g : Nat} {y : List Cw} (h : Rv w (.slice (some ⟨g, 0, none⟩) 4 4) y) : Rv w (.slice (some ⟨g, 5, none⟩) 3 3) (y.drop 1) := by
  obtain ⟨A, c, e, h1, h2, h3, h4⟩ := h
  injection e with e1 e2 e3
  subst e1 e3
  have hp := h3.mid 1 y.length 4 (by omega) (by omega) (by omega) (by decide)
  rw [List.take_length] at hp
  refine ⟨_, 3, by rw [List.length_drop, ← e2]; rfl, by rw [List.length_drop]; omega, by decide, hp, fun x hx => ?_⟩
  rw [← ros_drop] at hx
  exact h4 x (List.mem_of_mem_drop hx)
theorem conf_rep {w : World} {g : Nat} (h : w.heap[g]? = some (.cells #[.string ⟨#[98]⟩] 9)) : Cv w w.heap.size (.agg #[.bool false, .bool false, .slice none 0 0, .slice (some ⟨g, 0, none⟩) 1 1, .slice none 0 0, .slice none 0 0, .bool false, .bool false]) cRep :=
  ⟨_, _, _, _, [], rfl, ⟨sv_nil12 _ _, sv_lit12 (l := [⟨#[98]⟩]) h, sv_nil12 _ _, ⟨none, 0, rfl, Nat.le_refl _, fun _ => rfl, Co.Pr.nil _ _ _⟩, rfl⟩⟩
theorem conf_dat (w : World) : Cv w w.heap.size (.agg #[.bool false, .bool false, .slice none 0 0, .slice none 0 0, .slice none 0 0, .slice none 0 0, .bool false, .bool true]) cDat :=
  ⟨_, _, _, _, [], rfl, ⟨sv_nil12 _ _, sv_nil12 _ _, sv_nil12 _ _, ⟨none, 0, rfl, Nat.le_refl _, fun _ => rfl, Co.Pr.nil _ _ _⟩, rfl⟩⟩
theorem x1_rv (w : World) : Rv ((w.alloc (.cells #[.string ⟨#[105, 100]⟩, .string .empty] 40)).alloc (.cells #[.int .i64 0, .int .i64 0, .string ⟨#[98]⟩, .string .empty, .slice (some ⟨w.heap.size, 0, none⟩) 1 1, .int .i64 1, .int .i64 1, .string .empty, .string ⟨#[97]⟩, .slice none 0 0] 36)) (.slice (some ⟨w.heap.size + 1, 0, none⟩) 2 2) (aX1 w.heap.size) := by
  have h0 : (w.alloc (.cells #[.string ⟨#[105, 100]⟩, .string .empty] 40)).heap[w.heap.size]? = some (.cells #[.string ⟨#[105, 100]⟩, .string .empty] 40) := heap_alloc_new w _
  have ha := att_lit 0 0 ⟨#[98]⟩ .empty [⟨⟨#[105, 100]⟩, .empty⟩] h0 (by decide) (fun a ha => by rw [List.mem_singleton.1 ha]; decide)
  have hv := lit_rv _ w.heap.size _ [⟨1, 1, .empty, ⟨#[97]⟩, []⟩] #[.int .i64 0, .int .i64 0, .string ⟨#[98]⟩, .string .empty, .slice (some ⟨w.heap.size, 0, none⟩) 1 1, .int .i64 1, .int .i64 1, .string .empty, .string ⟨#[97]⟩, .slice none 0 0] 2 rfl (by decide) rfl ha (by decide) (fun x hx => by
    have hx : x ∈ X1 := hx
    rcases List.mem_cons.1 hx with rfl | hx
    · exact ⟨by decide, by decide⟩
    · rw [List.mem_singleton.1 hx]; exact ⟨by decide, by decide⟩)
  rwa [World.size_alloc] at hv
theorem x2_rv (w : World) : Rv (w.alloc (.cells #[.int .i64 0, .int .i64 1, .string .empty, .string ⟨#[97]⟩, .slice none 0 0] 36)) (.slice (some ⟨w.heap.size, 0, none⟩) 1 1) [bare ⟨0, 1, .empty, ⟨#[97]⟩, []⟩] :=
  (rows_new w [bare ⟨0, 1, .empty, ⟨#[97]⟩, []⟩] _ 1 rfl (by decide) rfl (fun x hx => ⟨_, List.mem_singleton.1 hx, rfl⟩)).rv (fun x hx => by
    have := List.mem_singleton.1 hx
    subst this
    exact ⟨by decide, by decide⟩)

set_option maxRecDepth 100000 in
set_option maxHeartbeats 40000000 in
theorem fixed13 (w : World) : Calls Try.prog 19 #[] w fun e w' => e = .returned (.bool true) ∧ Below w.heap.size w w' := by
  go_enter Try.func19, Try.ntmps19
  go_upto_region 2 with (first
    | (go_at_call 39; refine (tree1 _).mono ?_; rintro r a1 ⟨g1, y1, rfl, hv1, hy1, hb⟩; have HV1 := Lib.hid hv1; have HY1 := Lib.hid hy1; have HA1 := Lib.hid (hb); clear hv1 hy1 hb)
    | (go_at_call 22; refine (Co.all1 _).mono ?_; rintro r b1 ⟨vA1, rfl, ho, hb⟩; have HBA1 := Lib.hid hb; have HO1 := Lib.hid ho.cv; have HB1 := Lib.hid (HA1.out.trans (hb.mono HA1.out.size)); clear ho hb)
    | (go_at_call 14; refine (rows_of _ vA1 y1 treeL allC true b1 (HV1.out.below HBA1.out) HY1.out (by decide) tree_small tree_few tree_txt HO1.out Co.sm_all 0 X1 err1 out1).mono ?_; rintro r c1 ⟨V1, z1, rfl, hz1, hr1, hb⟩; have HZ1 := Lib.hid hz1; have HR1 := Lib.hid hr1; have HC1 := Lib.hid (HB1.out.trans (hb.mono HB1.out.size)); clear hz1 hr1 hb)
    | fail)
  go_upto_region 3 with (first
    | (go_at_call 39; refine (tree1 _).mono ?_; rintro r a2 ⟨g2, y2, rfl, hv2, hy2, hb⟩; have HV2 := Lib.hid hv2; have HY2 := Lib.hid hy2; have HA2 := Lib.hid (HC1.out.trans (hb.mono HC1.out.size)); have HR1 := Lib.hid (HR1.out.below (hb)); clear hv2 hy2 hb)
    | (go_at_call 14; refine (rows_of _ _ y2 treeL cRep true _ (HV2.out.below (below_new a2 _)) HY2.out (by decide) tree_small tree_few tree_txt (conf_rep (heap_alloc_new a2 _)) sm_rep 0 X2 err2 out2).mono ?_; rintro r c2 ⟨V2, z2, rfl, hz2, hr2, hb⟩; have HZ2 := Lib.hid hz2; have HR2 := Lib.hid hr2; have HC2 := Lib.hid (HA2.out.trans (((below_new a2 _).trans (hb.mono (by simp))).mono HA2.out.size)); have HR1 := Lib.hid (HR1.out.below ((below_new a2 _).trans (hb.mono (by simp)))); clear hz2 hr2 hb)
    | fail)
  go_upto_region 4 with (first
    | (go_at_call 39; refine (tree1 _).mono ?_; rintro r a3 ⟨g3, y3, rfl, hv3, hy3, hb⟩; have HV3 := Lib.hid hv3; have HY3 := Lib.hid hy3; have HA3 := Lib.hid (HC2.out.trans (hb.mono HC2.out.size)); have HR1 := Lib.hid (HR1.out.below (hb)); have HR2 := Lib.hid (HR2.out.below (hb)); clear hv3 hy3 hb)
    | (go_at_call 22; refine (Co.all1 _).mono ?_; rintro r b3 ⟨vA3, rfl, ho, hb⟩; have HBA3 := Lib.hid hb; have HO3 := Lib.hid ho.cv; have HB3 := Lib.hid (HA3.out.trans (hb.mono HA3.out.size)); have HR1 := Lib.hid (HR1.out.below (hb)); have HR2 := Lib.hid (HR2.out.below (hb)); clear ho hb)
    | (go_at_call 14; refine (rows_of _ vA3 y3 treeL allC false b3 (HV3.out.below HBA3.out) HY3.out (by decide) tree_small tree_few tree_txt HO3.out Co.sm_all 0 treeL err1 out3).mono ?_; rintro r c3 ⟨V3, z3, rfl, hz3, hr3, hb⟩; have HZ3 := Lib.hid hz3; have HR3 := Lib.hid hr3; have HC3 := Lib.hid (HB3.out.trans (hb.mono HB3.out.size)); have HR1 := Lib.hid (HR1.out.below (hb)); have HR2 := Lib.hid (HR2.out.below (hb)); clear hz3 hr3 hb)
    | fail)
  go_upto_region 5 with (first
    | (go_at_call 39; refine (tree1 _).mono ?_; rintro r a4 ⟨g4, y4, rfl, hv4, hy4, hb⟩; have HV4 := Lib.hid hv4; have HY4 := Lib.hid hy4; have HA4 := Lib.hid (HC3.out.trans (hb.mono HC3.out.size)); have HR1 := Lib.hid (HR1.out.below (hb)); have HR2 := Lib.hid (HR2.out.below (hb)); have HR3 := Lib.hid (HR3.out.below (hb)); clear hv4 hy4 hb)
    | (go_at_call 14; refine (rows_of _ _ y4 treeL cDat true a4 HV4.out HY4.out (by decide) tree_small tree_few tree_txt (conf_dat _) sm_dat 120 [] err4 out4).mono ?_; rintro r c4 ⟨V4, z4, rfl, hz4, hr4, hb⟩; have HZ4 := Lib.hid hz4; have HR4 := Lib.hid hr4; have HC4 := Lib.hid (HA4.out.trans (hb.mono HA4.out.size)); have HR1 := Lib.hid (HR1.out.below (hb)); have HR2 := Lib.hid (HR2.out.below (hb)); have HR3 := Lib.hid (HR3.out.below (hb)); clear hz4 hr4 hb)
    | fail)
  go_region_held3 (fun wx => True) (first | exact trivial | go_keep) (first
    | (go_at_call 39; refine (tree1 _).mono ?_; rintro r a5 ⟨g5, y5, rfl, hv5, hy5, hb⟩; have HV5 := Lib.hid hv5; have HY5 := Lib.hid hy5; clear hv5 hy5; first | (have hq : Below c4.heap.size c4 a5 := bel_drew hb; have HA5 := Lib.hid (HC4.out.trans (hq.mono HC4.out.size)); have HR1 := Lib.hid (HR1.out.below hq); have HR2 := Lib.hid (HR2.out.below hq); have HR3 := Lib.hid (HR3.out.below hq); clear hq hb) | (have hq : Below b5.heap.size b5 a5 := hb; have HA5 := Lib.hid (HB5.out.trans (hq.mono HB5.out.size)); have HL := Lib.hid hq; have HR1 := Lib.hid (HR1.out.below hq); have HR2 := Lib.hid (HR2.out.below hq); have HR3 := Lib.hid (HR3.out.below hq); clear hq hb))
    | (go_at_call 22; refine (Co.all1 _).mono ?_; rintro r b5 ⟨vA5, rfl, ho, hb⟩; have HO5 := Lib.hid ho.cv; clear ho; first | (have hq : Below c4.heap.size c4 b5 := bel_drew hb; have HB5 := Lib.hid (HC4.out.trans (hq.mono HC4.out.size)); have HR1 := Lib.hid (HR1.out.below hq); have HR2 := Lib.hid (HR2.out.below hq); have HR3 := Lib.hid (HR3.out.below hq); clear hq hb) | (have hq : Below a5.heap.size a5 b5 := hb; have HB5 := Lib.hid (HA5.out.trans (hq.mono HA5.out.size)); have HL := Lib.hid hq; have HR1 := Lib.hid (HR1.out.below hq); have HR2 := Lib.hid (HR2.out.below hq); have HR3 := Lib.hid (HR3.out.below hq); clear hq hb))
    | (go_at_call 14; (with_reducible show Calls _ _ _ b5 _); refine (rows_of _ vA5 (y5.drop 1) (treeL.drop 1) allC true b5 (cut_rv (HV5.out.below HL.out)) (by rw [← ros_drop, HY5.out]) (by decide) tree_small1 tree_few1 tree_txt1 HO5.out Co.sm_all 40 [] err5 out5).mono ?_; rintro r c5 ⟨V5, z5, rfl, -, -, hq⟩; have HC5 := Lib.hid (HB5.out.trans (hq.mono HB5.out.size)); have HR1 := Lib.hid (HR1.out.below hq); have HR2 := Lib.hid (HR2.out.below hq); have HR3 := Lib.hid (HR3.out.below hq); clear hq)
    | (go_at_call 14; refine (rows_of _ vA5 (y5.drop 1) (treeL.drop 1) allC true a5 (cut_rv HV5.out) (by rw [← ros_drop, HY5.out]) (by decide) tree_small1 tree_few1 tree_txt1 (HO5.out.on HL.out) Co.sm_all 40 [] err5 out5).mono ?_; rintro r c5 ⟨V5, z5, rfl, -, -, hq⟩; have HC5 := Lib.hid (HA5.out.trans (hq.mono HA5.out.size)); have HR1 := Lib.hid (HR1.out.below hq); have HR2 := Lib.hid (HR2.out.below hq); have HR3 := Lib.hid (HR3.out.below hq); clear hq))
  all_goals go_wp2_with (first
    | (go_at_call 15; (with_reducible show Calls _ _ #[V1, _] _ _); refine (refSame1 V1 _ z1 (aX1 c5.heap.size) _ true (HR1.out.below (below_two c5 _ _)) (x1_rv c5) (by rw [← len_ros, HZ1.out]; decide) (show 2 ≤ 1000000 by omega) (decide_eq_true (HZ1.out.trans (show X1 = ros (aX1 c5.heap.size) from rfl)))).mono ?_; rintro r d1 ⟨rfl, hb⟩; have hq := (below_two c5 _ _).trans (hb.mono (below_two c5 _ _).size); have HD1 := Lib.hid (HC5.out.trans (hq.mono HC5.out.size)); have HR2 := Lib.hid (HR2.out.below hq); have HR3 := Lib.hid (HR3.out.below hq); clear hb hq)
    | (go_at_call 15; (with_reducible show Calls _ _ #[V2, _] _ _); refine (refSame1 V2 _ z2 [bare ⟨0, 1, .empty, ⟨#[97]⟩, []⟩] _ true (HR2.out.below (below_new d1 _)) (x2_rv d1) (by rw [← len_ros, HZ2.out]; decide) (show 1 ≤ 1000000 by omega) (decide_eq_true (HZ2.out.trans (show X2 = ros [bare ⟨0, 1, .empty, ⟨#[97]⟩, []⟩] from rfl)))).mono ?_; rintro r d2 ⟨rfl, hb⟩; have hq := (below_new d1 _).trans (hb.mono (below_new d1 _).size); have HD2 := Lib.hid (HD1.out.trans (hq.mono HD1.out.size)); have HR3 := Lib.hid (HR3.out.below hq); clear hb hq)
    | (go_at_call 39; refine (tree1 _).mono ?_; rintro r a6 ⟨g6, y6, rfl, hv6, hy6, hb⟩; have HV6 := Lib.hid hv6; have HY6 := Lib.hid hy6; have HA6 := Lib.hid (HD2.out.trans (hb.mono HD2.out.size)); have HR3 := Lib.hid (HR3.out.below hb); clear hv6 hy6 hb)
    | (go_at_call 15; (with_reducible show Calls _ _ #[V3, _] _ _); refine (refSame1 V3 _ z3 y6 a6 true HR3.out HV6.out (by rw [← len_ros, HZ3.out]; decide) (by rw [← len_ros, HY6.out]; decide) (decide_eq_true (HZ3.out.trans HY6.out.symm))).mono ?_; rintro r d3 ⟨rfl, hb⟩; have HD3 := Lib.hid (HA6.out.trans (hb.mono HA6.out.size)); clear hb)
    | fail)
  all_goals go_ret
  all_goals exact ⟨rfl, HD3.out⟩

end Go.Proofs.Ytdjkeakagmgfgaa.Cn

namespace Go.Proofs.Ytdjkeakagmgfgaa.Cn
set_option maxRecDepth 100000
set_option linter.unusedVariables false
set_option linter.unusedSimpArgs false
open Go.RowKit Ba Ro
theorem AttR.cut {w : World} {N : Nat} {x : Cw} (h : Att w N x) : Att w N (cut x (x.ro.attrs.take 8)) :=
  ⟨Nat.le_trans (List.length_take_le' _ _) h.1, h.2.1, h.2.2.1, h.2.2.2.1.take 8, fun a ha => h.2.2.2.2 a (List.mem_of_mem_take ha)⟩
end Go.Proofs.Ytdjkeakagmgfgaa.Cn

namespace Go.Proofs.Ytdjkeakagmgfgaa.Oq
set_option linter.unusedVariables false
set_option linter.unusedSimpArgs false
open Go.RowKit Go.ChangeShapes Go.WideShapes Go.Deep
section
variable {H : Type} {enc : TypeId × Value → H} {P : Program} {w : World} {base : Nat} {spare : Nat → Bool} {held : Bool}
/-- A slice of structs of one-cell fields: its parts. -/
theorem open_rows_both {t e : TypeId} {fs : Array Field} {fuel : Nat} {cs : List Value} {x : DataW H × List MemPlace} (ht : P.underlying t = some (.slice e)) (he : P.underlying e = some (.struct fs))
    (hone : oneCellFields P fs = true) (hC : P.cellsOf e = fs.size) (h : DataW.trod enc P w base spare held fuel t cs = some x) :
    cs = [.slice none 0 0] ∨
    ∃ (a : Addr) (len cap m : Nat) (Pl : Nat → List MemPlace) (D : Nat → DataW H) (sp : List (DataW H)), cs = [.slice (some a) len cap] ∧ len ≤ cap ∧ cap ≤ maxLen ∧ m = (if spare a.block then cap else len) ∧
      x.1 = .slice ((List.range len).map D) sp ∧ x.2 = MemPlace.row a (m * fs.size) ++ (List.range m).flatMap Pl ∧
      ∀ i, i < m → ∀ (j : Nat) (f : Field), fs[j]? = some f → ∃ (v : Value) (y : DataW H × List MemPlace) (n : Nat) (parts : List (DataW H)), w.cell? (a.add (i * fs.size + j)) = some v ∧ (∀ z ∈ y.2, z ∈ Pl i) ∧ D i = .agg parts ∧ parts[j]? = some y.1 ∧ DataW.trod enc P w base spare held n f.type [v] = some y := by
  rcases open_slice ht h with ⟨h0, _⟩ | ⟨a, len, cap, m, n, D, Pl, hcs, hb, hl, hm, hmm, hx, hi⟩
  · exact .inl h0
  · refine .inr ⟨a, len, cap, m, Pl, D, _, hcs, hl, hm, hmm, by rw [hx], by rw [hx, hC], fun i him j f hj => ?_⟩
    obtain ⟨cs', hc, ht'⟩ := hi i him
    rw [hC] at hc
    obtain ⟨ys, n', hn', hy, hlen, hyl, hf⟩ := DataW.trod_struct he ht'
    obtain ⟨_, hcl, hat⟩ := World.cells?_some hc
    simp only [Prod.mk.injEq] at hy
    obtain ⟨ho, hk⟩ := hone_of hone j f hj
    have hjl : j < fs.size := (Array.getElem?_eq_some_iff.1 hj).1
    have hcell := hat j hjl
    have hv : cs'[j]? = some (cs'[j]'(by omega)) := List.getElem?_eq_getElem (by omega)
    have h1 := hf j f hj
    rw [ho, hk] at h1
    have hone' : (cs'.drop j).take 1 = [cs'[j]'(by omega)] := by
      rw [List.drop_eq_getElem_cons (by omega)]
      rfl
    rw [hone'] at h1
    have hys : ys[j]? = some (ys[j]'(by omega)) := List.getElem?_eq_getElem (by omega)
    refine ⟨_, _, n', _, ?_, fun z hz => ?_, hy.1, by rw [List.getElem?_map, hys]; rfl, h1.trans hys⟩
    · rw [← Go.Deep.add_add, hcell, hv]
    · rw [hy.2]
      exact List.mem_flatMap.2 ⟨_, List.getElem_mem _, hz⟩
end
section
variable {H : Type} {enc : TypeId × Value → H} {P : Program} {w : World} {base : Nat} {spare : Nat → Bool} {held : Bool}
theorem list_of {α : Type} (Q : Nat → α → Prop) : ∀ n : Nat, (∀ i < n, ∃ x, Q i x) → ∃ l : List α, l.length = n ∧ ∀ i (h : i < l.length), Q i l[i]
  | 0, _ => ⟨[], rfl, fun i h => absurd h (by simp)⟩
  | n + 1, h => by
    obtain ⟨l, hl, hq⟩ := list_of Q n fun i hi => h i (by omega)
    obtain ⟨x, hx⟩ := h n (by omega)
    refine ⟨l ++ [x], by rw [List.length_append, hl]; rfl, fun i hi => ?_⟩
    rw [List.length_append, List.length_singleton] at hi
    by_cases e : i < l.length
    · rw [List.getElem_append_left e]
      exact hq i e
    · have : i = l.length := by omega
      subst this
      rw [List.getElem_append_right (Nat.le_refl _)]
      simp only [Nat.sub_self, List.getElem_cons_zero]
      rw [hl]; exact hx

/-- A struct of one-cell fields: its parts. -/
theorem open_agg_any {r : Reach} {b0 : Nat} {t : TypeId} {fs : Array Field} {v : Value} {d : DataW H} {p : List MemPlace} (hs : P.underlying t = some (.struct fs)) (hone : oneCellFields P fs = true) (hC : P.cellsOf t = fs.size)
    (hv : Value.okWide P w r b0 t v) (h : DataW.Trod enc P w base spare held t v d p) :
    ∃ (cs : Array Value) (ys : List (DataW H × List MemPlace)) (n : Nat), v = .agg cs ∧ cs.size = fs.size ∧ d = .agg (ys.map (·.1)) ∧ p = ys.flatMap (·.2) ∧
      ∀ (j : Nat) (f : Field), fs[j]? = some f → ∃ (u : Value) (y : DataW H × List MemPlace), cs[j]? = some u ∧ ys[j]? = some y ∧ DataW.trod enc P w base spare held n f.type [u] = some y := by
  obtain ⟨cs, rfl, hsz⟩ := okWide_struct hs hv
  obtain ⟨fuel, hf⟩ := h
  obtain ⟨ys, n', hn', hy, hlen, hyl, hat⟩ := DataW.trod_struct hs hf
  simp only [Prod.mk.injEq] at hy
  refine ⟨cs, ys, n', rfl, hsz.trans hC, hy.1, hy.2, fun j f hj => ?_⟩
  obtain ⟨ho, hk⟩ := hone_of hone j f hj
  have hjl : j < fs.size := (Array.getElem?_eq_some_iff.1 hj).1
  have hjc : j < cs.size := by rw [hsz, hC]; exact hjl
  have h1 := hat j f hj
  rw [ho, hk] at h1
  have hcl : ((Value.agg cs).cells.toList) = cs.toList := rfl
  have hone' : (((Value.agg cs).cells.toList).drop j).take 1 = [cs[j]] := by
    rw [hcl, List.drop_eq_getElem_cons (by rw [Array.length_toList]; exact hjc)]
    simp
  rw [hone'] at h1
  have hys : ys[j]? = some (ys[j]'(by omega)) := List.getElem?_eq_getElem (by omega)
  exact ⟨cs[j], _, Array.getElem?_eq_getElem hjc, hys, h1.trans hys⟩
end
end Go.Proofs.Ytdjkeakagmgfgaa.Oq

namespace Go.Proofs.Ytdjkeakagmgfgaa.Fo
set_option maxRecDepth 100000
set_option linter.unusedSimpArgs false
set_option linter.unusedVariables false
open Go.RowKit Ba Go.ChangeShapes Go.WideShapes Go.ChangeAt
theorem cells_str : Try.prog.cellsOf 9 = 1 := by kernel_rfl
theorem laidOut : laidOutB Try.prog = true := by kernel_rfl

end Go.Proofs.Ytdjkeakagmgfgaa.Fo

namespace Go.Proofs.Ytdjkeakagmgfgaa.Co
set_option maxRecDepth 100000
set_option linter.unusedVariables false
set_option linter.unusedSimpArgs false
open Go.RowKit Ba Fm Fo Nm Rk Go.ChangeShapes Go.WideShapes Go.ChangeAt Go.Deep
open Rz (Within reach_le)
open Oq (open_rows_both open_agg_any list_of)
/-- The sizes of what it holds. -/
structure St (c : Cf) : Prop where
  es : ∀ s ∈ c.els, s.size ≤ 140737488355328
  rs : ∀ s ∈ c.reps, s.size ≤ 140737488355328
  as_ : ∀ s ∈ c.ats, s.size ≤ 140737488355328
  ps : ∀ p ∈ c.per, p.el.size ≤ 140737488355328 ∧ ∀ s ∈ p.at_, s.size ≤ 140737488355328
section
variable {H : Type} {enc : TypeId × Value → H} {w : World}
theorem svs_in {fuel : Nat} {v : Value} {x : DataW H × List MemPlace} (hz : Within Try.prog 23 x.1) (h : DataW.trod enc Try.prog w 0 (fun _ => true) true fuel 23 [v] = some x) (N : Nat) (hlt : ∀ z ∈ x.2, z.block < N) : ∃ l, Sv w N v l ∧ ∀ s ∈ l, s.size ≤ 140737488355328 := by
  rcases open_strings Try.underlying23 Try.underlying9 cells_str h with ⟨hcs, hx⟩ | ⟨a, len', cap', ss, hcs, _, hl, hm, hzz, hx, hcell, hws⟩
  · obtain rfl : v = .slice none 0 0 := by simpa using hcs
    exact ⟨[], ⟨none, 0, rfl, Nat.le_refl _, fun _ => rfl, Rd.nil _ _ _⟩, fun s hs => by cases hs⟩
  · obtain rfl : v = .slice (some a) len' cap' := by simpa using hcs
    subst hx
    simp only [if_true] at hzz
    have hlen : (ss.take len').length = len' := by rw [List.length_take]; omega
    refine ⟨ss.take len', ⟨some a, cap', by rw [hlen], by rw [hlen]; exact hl, (fun e => by cases e), fun h0 => ?_⟩, fun s hs => reach_le (hz.elem (d := .lit (.string s.data.toList)) Try.underlying23 (List.mem_map.2 ⟨s, hs, rfl⟩)).str⟩
    rw [hlen] at h0
    obtain ⟨b, off, spot⟩ := a
    have hspot : spot = none := by simpa [Addr.add] using World.cell?_spot (hcell 0 (by omega))
    subst hspot
    have hbW : b < N := hlt (.cell b off) (MemPlace.mem_row.2 ⟨0, by omega, by simp⟩)
    refine ⟨b, off, rfl, hbW, fun j hj => ?_⟩
    rw [hlen] at hj
    have := hcell j (by omega)
    rw [add_plain] at this
    rw [this, List.getElem_take]
    congr 2
    rw [List.getD_eq_getElem?_getD, List.getElem?_eq_getElem (by omega)]
    rfl
theorem pers_in {fuel : Nat} {v : Value} {x : DataW H × List MemPlace} (hz : Within Try.prog 24 x.1) (h : DataW.trod enc Try.prog w 0 (fun _ => true) true fuel 24 [v] = some x) (N : Nat) (hlt : ∀ z ∈ x.2, z.block < N) :
    ∃ l, Pv w N v l ∧ ∀ p ∈ pes l, p.el.size ≤ 140737488355328 ∧ ∀ s ∈ p.at_, s.size ≤ 140737488355328 := by
  rcases open_rows_both Try.underlying24 Try.underlying52 (by kernel_rfl) (by kernel_rfl) h with hcs | ⟨a, len', cap', m, Pl, D, sp, hcs, hl, hm, hmm, hx1, hx, hi⟩
  · obtain rfl : v = .slice none 0 0 := by simpa using hcs
    exact ⟨[], ⟨none, 0, rfl, Nat.le_refl _, fun _ => rfl, Pr.nil _ _ _⟩, fun p hp => by simp [pes] at hp⟩
  · obtain rfl : v = .slice (some a) len' cap' := by simpa using hcs
    simp only [if_true] at hmm
    subst hmm
    obtain ⟨b, off, spot⟩ := a
    have hrow : ∀ i < len', ∃ r : Pw, (∀ (j : Nat) (u : Value), (pcells r)[j]? = some u → w.cell? ((⟨b, off, spot⟩ : Addr).add (i * 2 + j)) = some u) ∧ Sx w N r ∧ r.pe.el.size ≤ 140737488355328 ∧ ∀ s ∈ r.pe.at_, s.size ≤ 140737488355328 := fun i hil => by
      obtain ⟨v0, y0, n0, q0, c0, _, D0, g0, t0⟩ := hi i (by omega) 0 _ rfl
      obtain ⟨v1, y1, n1, q1, c1, p1, D1, g1, t1⟩ := hi i (by omega) 1 _ rfl
      rw [D0] at D1
      injection D1 with D1
      subst D1
      have hzi : Within Try.prog 52 (D i) := by
        rw [hx1] at hz
        exact hz.elem Try.underlying24 (List.mem_map.2 ⟨i, List.mem_range.2 hil, rfl⟩)
      rw [D0] at hzi
      have z0 := hzi.part Try.underlying52 (j := 0) rfl g0
      have z1 := hzi.part Try.underlying52 (j := 1) rfl g1
      obtain ⟨s0, e0, b0, _⟩ := DataW.trod_string Try.underlying9 t0
      obtain rfl : v0 = .string s0 := by simpa using e0
      rw [b0] at z0
      obtain ⟨l, hs, hk⟩ := svs_in z1 t1 N fun z hzz => hlt z (by
        rw [hx]
        exact List.mem_append_right _ (List.mem_flatMap.2 ⟨i, List.mem_range.2 (by omega), p1 z hzz⟩))
      have hs' := hs
      obtain ⟨A, c, rfl, _, _, _⟩ := hs'
      refine ⟨⟨⟨s0, l⟩, A, c⟩, fun j u hu => ?_, hs, reach_le z0.str, hk⟩
      match j, hu with
      | 0, hu => exact c0.trans hu
      | 1, hu => exact c1.trans hu
      | j + 2, hu => exact absurd hu (by simp [pcells])
    obtain ⟨l, hll, hq⟩ := list_of _ len' hrow
    refine ⟨l, ⟨some ⟨b, off, spot⟩, _, by rw [hll], by omega, (fun e => by cases e), fun h0 => ?_, fun r hr => ?_⟩, fun p hp => ?_⟩
    · have hspot : spot = none := by
        have := World.cell?_spot ((hq 0 h0).1 0 _ rfl)
        simpa [Addr.add] using this
      subst hspot
      refine ⟨b, off, rfl, hlt (.cell b off) (by rw [hx]; exact List.mem_append_left _ (MemPlace.mem_row.2 ⟨0, by show 0 < _ * 2; omega, by simp⟩)), fun j hj k u hu => ?_⟩
      have := (hq j hj).1 k u hu
      rw [add_plain] at this
      rw [show off + j * 2 + k = off + (j * 2 + k) by omega]
      exact this
    · obtain ⟨j, hj, rfl⟩ := List.getElem_of_mem hr
      exact (hq j hj).2.1
    · obtain ⟨z, hz', rfl⟩ := List.mem_map.1 hp
      obtain ⟨j, hj, rfl⟩ := List.getElem_of_mem hz'
      exact (hq j hj).2.2
theorem open_cf {base : Nat} {v : Value} {d : DataW H} {p : List MemPlace} (hz : Within Try.prog 26 d) (hv : Value.okWide Try.prog w .any base 26 v)
    (h : ∃ fuel, DataW.trod enc Try.prog w 0 (fun _ => true) true fuel 26 v.cells.toList = some (d, p)) (hlt : ∀ z ∈ p, z.block < w.heap.size) : ∃ c, Cv w w.heap.size v c ∧ St c := by
  obtain ⟨cs, ys, n, rfl, hcs, hd, hp, hat⟩ := open_agg_any Try.underlying26 (by kernel_rfl) (by kernel_rfl) hv h
  obtain ⟨v0, y0, c0, g0, t0⟩ := hat 0 _ rfl
  obtain ⟨v1, y1, c1, g1, t1⟩ := hat 1 _ rfl
  obtain ⟨v2, y2, c2, g2, t2⟩ := hat 2 _ rfl
  obtain ⟨v3, y3, c3, g3, t3⟩ := hat 3 _ rfl
  obtain ⟨v4, y4, c4, g4, t4⟩ := hat 4 _ rfl
  obtain ⟨v5, y5, c5, g5, t5⟩ := hat 5 _ rfl
  obtain ⟨v6, y6, c6, g6, t6⟩ := hat 6 _ rfl
  obtain ⟨v7, y7, c7, g7, t7⟩ := hat 7 _ rfl
  subst hd
  have gm : ∀ {j : Nat} {y : DataW H × List MemPlace}, ys[j]? = some y → (ys.map (·.1))[j]? = some y.1 := fun h => by rw [List.getElem?_map, h]; rfl
  have lt : ∀ {j : Nat} {y : DataW H × List MemPlace}, ys[j]? = some y → ∀ z ∈ y.2, z.block < w.heap.size := fun h z hzz => hlt z (by
    rw [hp]
    exact List.mem_flatMap.2 ⟨_, List.mem_of_getElem? h, hzz⟩)
  obtain ⟨b0, e0, _⟩ := DataW.trod_bool Try.underlying4 t0
  obtain ⟨b1, e1, _⟩ := DataW.trod_bool Try.underlying4 t1
  obtain ⟨lE, sE, kE⟩ := svs_in (hz.part Try.underlying26 (j := 2) rfl (gm g2)) t2 w.heap.size (lt g2)
  obtain ⟨lR, sR, kR⟩ := svs_in (hz.part Try.underlying26 (j := 3) rfl (gm g3)) t3 w.heap.size (lt g3)
  obtain ⟨lA, sA, kA⟩ := svs_in (hz.part Try.underlying26 (j := 4) rfl (gm g4)) t4 w.heap.size (lt g4)
  obtain ⟨lP, sP, kP⟩ := pers_in (hz.part Try.underlying26 (j := 5) rfl (gm g5)) t5 w.heap.size (lt g5)
  obtain ⟨b6, e6, _⟩ := DataW.trod_bool Try.underlying4 t6
  obtain ⟨b7, e7, _⟩ := DataW.trod_bool Try.underlying4 t7
  obtain rfl : v0 = .bool b0 := by simpa using e0
  obtain rfl : v1 = .bool b1 := by simpa using e1
  obtain rfl : v6 = .bool b6 := by simpa using e6
  obtain rfl : v7 = .bool b7 := by simpa using e7
  refine ⟨⟨b0, b1, lE, lR, lA, pes lP, b6, b7⟩, ⟨v2, v3, v4, v5, lP, ?_, sE, sR, sA, sP, rfl⟩, kE, kR, kA, kP⟩
  have hcs8 : cs.size = 8 := hcs
  congr 1
  apply Array.ext_getElem?
  intro i
  match i with
  | 0 => exact c0
  | 1 => exact c1
  | 2 => exact c2
  | 3 => exact c3
  | 4 => exact c4
  | 5 => exact c5
  | 6 => exact c6
  | 7 => exact c7
  | i + 8 => rw [Array.getElem?_eq_none (by omega), Array.getElem?_eq_none (by simp)]
end

end Go.Proofs.Ytdjkeakagmgfgaa.Co

namespace Go.Proofs.Ytdjkeakagmgfgaa.Co
set_option maxRecDepth 100000
set_option linter.unusedVariables false
set_option linter.unusedSimpArgs false
open Go.RowKit Ba Fm Fo Nm Rk
/-- Lists of at most 70, of at most 12 elements with their own. -/
def boundC (c : Cf) : Cf := ⟨c.allow, c.attrsAllow, c.els.take 70, c.reps.take 70, c.ats.take 70, (c.per.take 12).map fun p => ⟨p.el, p.at_.take 70⟩, c.comments, c.dataAttrs⟩
theorem min_named (x m k : Nat) (hk : min x m = k) (M : Int) (hM : M = m) (ts : Array TypeId) (t : TypeId) (w : World) : (Builtin.min_ ts t #[.int .i64 x, .int .i64 M]).run Try.prog w = .ok (.int .i64 k) w := by
  rw [run_min_int2]
  congr 2
  split <;> omega
theorem sx_snoc {w w' : World} {N : Nat} {acc : List Pw} {z : Pw} (h : ∀ y ∈ acc, Sx w N y) (hz : Sx w N z) (hb : Below N w w') : ∀ y ∈ acc ++ [z], Sx w' N y := fun y hy => by
  rcases List.mem_append.1 hy with h1 | h1
  · exact (h y h1).below hb
  · obtain rfl := List.mem_singleton.1 h1
    exact hz.below hb
theorem po_kept {N : Nat} {w W : World} {v : Value} {l : List Pw} (h : Po N w v l) (hs : ∀ z ∈ l, Sx W W.heap.size z) (hk : ∀ b, N ≤ b → b < w.heap.size → W.heap[b]? = w.heap[b]?) (hz : w.heap.size ≤ W.heap.size) : Pv W W.heap.size v l := by
  obtain ⟨A, c, e, h1, _, h2, h3⟩ := h.form
  refine ⟨A, c, e, h1, h2, fun h0 => ?_, hs⟩
  obtain ⟨b, off, eA, hb, hc⟩ := h3.1 h0
  have hN : N ≤ b := (World.ownsRow.lt h.1 b (by rw [e, eA]; simp [Value.ownBlock])).1
  exact ⟨b, off, eA, by omega, fun j hj => range_keep12 (hc j hj) fun o => World.cell?_of_block (a := ⟨b, o, none⟩) (hk b hN hb)⟩
theorem step_min {ops : Array Oper} {o : Oper} {a : Act} {K : Act → World → Prop} {Q : Exit → Act → World → Prop} {E : Prop} (W : World) (hgd : o.guard = none) (x : Operand)
    (ho : o.op = .call { callee := .builtin .min, args := #[x, .const (.int .i64 70)], argTypes := #[3, 3] }) (n m : Nat) (hm : min n 70 = m) (hx : a.eval x = .int .i64 n) (h : K (a.put o.dst (.int .i64 m)) W) :
    if Region.wanted o (yielded ops a.tmps) = true then Oper.wp Try.prog o a W K Q else E := by
  rw [if_pos (show Region.wanted o (yielded ops a.tmps) = true by simp [Region.wanted, hgd])]
  have hrun := fun ts t => min_named n 70 m hm 70 rfl ts t W
  have hc : a.eval (.const (.int .i64 70)) = .int .i64 70 := rfl
  unfold Oper.wp
  simp [execOp, ho, resolve, invoke, builtin, hx, hc, hrun, Result.andThen]
  exact h
theorem sv_takeC {w : World} {N c m : Nat} {A : Option Addr} {l : List ByteArray} (h : Sv w N (.slice A l.length c) l) (k : Nat) (hm : min l.length k = m) : Sv w N (.slice A m c) (l.take k) := by
  obtain ⟨A', c', e, hc, hn, hr⟩ := h
  injection e with e1 e2 e3
  subst e1 e3
  have e : (l.take k).length = m := by rw [List.length_take, Nat.min_comm]; exact hm
  exact ⟨A, c, by rw [e], by rw [e]; omega, hn, hr.take k⟩
theorem cut_snoc {l : List Pw} {k : Nat} {x : Pw} {acc : List Pw} (h : l[k]? = some x) (ha : pes acc = (pes (l.take k)).map fun p => ⟨p.el, p.at_.take 70⟩) (z : Pw) (hz : z.pe = ⟨x.pe.el, x.pe.at_.take 70⟩) : pes (acc ++ [z]) = (pes (l.take (k + 1))).map fun p => ⟨p.el, p.at_.take 70⟩ := by
  have hk : k < l.length := (List.getElem?_eq_some_iff.1 h).1
  have hx : l[k] = x := (List.getElem?_eq_some_iff.1 h).2
  rw [List.take_succ_eq_append_getElem hk, pes_append, pes_append, hx, List.map_append, ha]
  simp [pes, hz]
theorem ap_cut {w : World} {N M : Nat} {x : Pw} (h : Sx w N x) (hN : N ≤ M) (z : Pw) (hA : z.A = x.A) (hz : z.pe.at_.length ≤ x.pe.at_.length) : Ap w M z := fun h0 => by
  obtain ⟨A, c, e, _, _, hr⟩ := h
  injection e with e1 e2 e3
  obtain ⟨b, off, e', hb, _⟩ := hr (by omega)
  exact ⟨b, off, by rw [hA, e1, e'], .inl (by omega)⟩
set_option maxRecDepth 100000 in
set_option maxHeartbeats 2000000 in
theorem bound12 (v : Value) (c : Cf) (w : World) (h : Cv w w.heap.size v c) :
    Calls Try.prog 11 #[v] w fun r w' => ∃ v', r = .returned v' ∧ Cv w' w'.heap.size v' (boundC c) ∧ Below w.heap.size w w' := by
  obtain ⟨vE, vR, vA, vP, l, rfl, h⟩ := h
  obtain ⟨al, aa, els, reps, ats, per, cm, da⟩ := c
  obtain ⟨E, ce, rfl, he1, he2, he3⟩ := h.e
  obtain ⟨R, cr, rfl, hr1, hr2, hr3⟩ := h.r
  obtain ⟨T, ct, rfl, ht1, ht2, ht3⟩ := h.a
  obtain ⟨A, cp, rfl, hp1, hp2, hp3⟩ := h.p
  obtain ⟨n1, hn1⟩ : ∃ n, els.length = n := ⟨_, rfl⟩
  obtain ⟨n2, hn2⟩ : ∃ n, reps.length = n := ⟨_, rfl⟩
  obtain ⟨n3, hn3⟩ : ∃ n, ats.length = n := ⟨_, rfl⟩
  obtain ⟨m1, hm1⟩ : ∃ n, min n1 70 = n := ⟨_, rfl⟩
  obtain ⟨m2, hm2⟩ : ∃ n, min n2 70 = n := ⟨_, rfl⟩
  obtain ⟨m3, hm3⟩ : ∃ n, min n3 70 = n := ⟨_, rfl⟩
  have q1 := fun ts t w => min_named n1 70 m1 hm1 70 rfl ts t w
  have q2 := fun ts t w => min_named n2 70 m2 hm2 70 rfl ts t w
  have q3 := fun ts t w => min_named n3 70 m3 hm3 70 rfl ts t w
  have u1 : m1 ≤ ce := by simp only at he1; omega
  have u2 : m2 ≤ cr := by simp only at hr1; omega
  have u3 : m3 ≤ ct := by simp only at ht1; omega
  simp only
  rw [hn1, hn2, hn3]
  have H0 := Lib.hid h
  clear he1 he2 he3 hr1 hr2 hr3 ht1 ht2 ht3 hp1 hp2 hp3 h
  go_enter Try.func11, Try.ntmps11
  go_upto_region 5 with (fail)
  obtain ⟨w0, hw0⟩ : ∃ w0, (w.alloc (.cells #[.bool al, .bool aa, .slice E m1 ce, .slice R m2 cr, .slice T m3 ct, .slice A l.length cp, .bool cm, .bool da] 26)).alloc (.cells #[.bool false, .bool false, .slice none 0 0, .slice none 0 0, .slice none 0 0, .slice none 0 0, .bool false, .bool false] 26) = w0 := ⟨_, rfl⟩
  rw [hw0]
  have hz0 : w0.heap.size = w.heap.size + 1 + 1 := by rw [← hw0]; simp
  have hb0 : Below w.heap.size w w0 := hw0 ▸ below_two w _ _
  have hh1 : Hb w0 w.heap.size #[.bool al, .bool aa, .slice E m1 ce, .slice R m2 cr, .slice T m3 ct, .slice A l.length cp, .bool cm, .bool da] := hw0 ▸ (Hb.new w _).on (below_new12 _ _)
  have hh2 : Hb w0 (w.heap.size + 1) #[.bool false, .bool false, .slice none 0 0, .slice none 0 0, .slice none 0 0, .slice none 0 0, .bool false, .bool false] := by
    have := Hb.new (w.alloc (.cells #[.bool al, .bool aa, .slice E m1 ce, .slice R m2 cr, .slice T m3 ct, .slice A l.length cp, .bool cm, .bool da] 26)) #[.bool false, .bool false, .slice none 0 0, .slice none 0 0, .slice none 0 0, .slice none 0 0, .bool false, .bool false]
    rw [World.size_alloc] at this
    exact hw0 ▸ this
  have h := H0.out
  have ho0 := Po.made w0
  rw [hz0] at ho0
  obtain ⟨A', cp', e, hp1, hp2, hp3⟩ := h.p
  injection e with e1 e2 e3
  subst e1 e3
  have hlast : Cp w w.heap.size (boundC ⟨al, aa, els, reps, ats, per, cm, da⟩) (.slice E m1 ce) (.slice R m2 cr) (.slice T m3 ct) (.slice none 0 0) [] → True := fun _ => trivial
  have hse := sv_takeC (m := m1) h.e 70 (show min els.length 70 = m1 by rw [hn1]; exact hm1)
  have hsr := sv_takeC (m := m2) h.r 70 (show min reps.length 70 = m2 by rw [hn2]; exact hm2)
  have hst := sv_takeC (m := m3) h.a 70 (show min ats.length 70 = m3 by rw [hn3]; exact hm3)
  have hper : (per.take 12).map (fun p => (⟨p.el, p.at_.take 70⟩ : Pe)) = (pes (l.take 12)).map fun p => ⟨p.el, p.at_.take 70⟩ := by rw [← pes_take]; have := h.m; simp only at this; rw [this]
  have HP := Lib.hid hp3; have HH1 := Lib.hid hh1; have HH2 := Lib.hid hh2; have HB0 := Lib.hid hb0
  have HSE := Lib.hid hse; have HSR := Lib.hid hsr; have HST := Lib.hid hst; have HPER := Lib.hid hper
  clear hw0 hb0 hh1 hh2 h hp3 hlast hse hsr hst hper H0 q1 q2 q3
  go_wp2
  go_loopw [3, 4] (fun v i wr => ∃ (k : Nat) (acc : List Pw), i = .int .i64 k ∧ k ≤ l.length ∧ k ≤ 12 ∧ acc.length = k ∧ Po (w.heap.size + 1 + 1) wr v acc ∧ pes acc = (pes (l.take k)).map (fun p => ⟨p.el, p.at_.take 70⟩) ∧ (∀ z ∈ acc, Sx wr w.heap.size z) ∧ Below w0.heap.size w0 wr) (fun _ i _ => l.length - (intOf i).toNat)
  case atStart => exact ⟨0, [], rfl, Nat.zero_le _, Nat.zero_le _, rfl, ho0, rfl, (fun z hz => by cases hz), below_new12 w0 _⟩
  case round =>
    clear ho0
    obtain ⟨k, acc, rfl, hks, hk12, hal, hown, hpes, hsa, hbel⟩ := hrel
    have hhb1 := HH1.out.below hbel (by omega)
    have g5 := hhb1.cell 5 _ rfl
    have hbw : Below w.heap.size w wr := HB0.out.trans (hbel.mono (by omega))
    have hsz := hbel.size
    by_cases hk : k < l.length
    · by_cases hk2 : k < 12
      · obtain ⟨b, off, x, rfl, hb, hx, hcs, hsx, hxm⟩ := (HP.out.below hbw).at_ k hk
        obtain ⟨k0, k1⟩ := range2p hcs
        obtain ⟨m, hm⟩ : ∃ n, min x.pe.at_.length 70 = n := ⟨_, rfl⟩
        have hmin := fun ts t w => min_named x.pe.at_.length 70 m hm 70 rfl ts t w
        have hif : (if (70 : Int) < (x.pe.at_.length : Int) then (70 : Int) else (x.pe.at_.length : Int)) = (m : Int) := by split <;> omega
        have hmc : m ≤ x.c := by obtain ⟨A', c', e, hc, _, _⟩ := hsx; injection e with e1 e2 e3; omega
        have hlz : (x.pe.at_.take 70).length = m := by rw [List.length_take, Nat.min_comm]; exact hm
        obtain ⟨z, hz⟩ : ∃ z : Pw, z = ⟨⟨x.pe.el, x.pe.at_.take 70⟩, x.A, x.c⟩ := ⟨_, rfl⟩
        have hzv : perO z = .cells #[.string x.pe.el, .slice x.A m x.c] 52 := by rw [hz, ← hlz]
        have hsz1 : Sx wr w.heap.size z := by
          rw [hz]
          unfold Sx
          simp only
          rw [hlz]
          exact sv_takeC hsx 70 hm
        have hap : Ap wr (w.heap.size + 1 + 1) z := ap_cut hsx (by omega) z (by rw [hz]) (by rw [hz]; simp only; rw [hlz]; omega)
        have hpz := cut_snoc hx hpes z (by rw [hz])
        have HO := Lib.hid hown; have HZ1 := Lib.hid (hsz1.more (show w.heap.size ≤ wr.heap.size by omega)); have HAP := Lib.hid hap; have HPZ := Lib.hid hpz; have HZV := Lib.hid hzv; have HBL := Lib.hid hbel; have HAL := Lib.hid hal; have HM := Lib.hid hm; have HSA := Lib.hid hsa; have HZ0 := Lib.hid hsz1
        have hacc : acc.length ≤ 2000000 := by omega
        have hk0 : (0 : Int) ≤ (k : Int) := by omega
        have hk1 : (k : Int) < (l.length : Int) := by omega
        have hk2' : (k : Int) < 12 := by omega
        clear hcs hsx hx hxm hpes hsa hown hbel hbw hsz1 hap hpz hz hzv hhb1 hal hm hlz
        have HBK := Lib.hid (fun wx (hb : Below (w.heap.size + 1 + 1) wr wx) => (show wx.cell? ⟨w.heap.size, 5, none⟩ = some (.slice (some ⟨b, off, none⟩) l.length cp) ∧ wx.cell? ⟨b, off + k * 2, none⟩ = some (.string x.pe.el) ∧ wx.cell? ⟨b, off + k * 2 + 1, none⟩ = some (.slice x.A x.pe.at_.length x.c) from ⟨(hb.cell (p := ⟨w.heap.size, 5, none⟩) (show w.heap.size < w.heap.size + 1 + 1 by omega)).trans g5, (hb.cell (p := ⟨b, off + k * 2, none⟩) (show b < w.heap.size + 1 + 1 by omega)).trans k0, (hb.cell (p := ⟨b, off + k * 2 + 1, none⟩) (show b < w.heap.size + 1 + 1 by omega)).trans k1⟩))
        go_wp2_with fail
        refine wp_region_noPanic ?_
        refine Ph.T_begin (fun wx => wx.cell? ⟨w.heap.size, 5, none⟩ = some (.slice (some ⟨b, off, none⟩) l.length cp) ∧ wx.cell? ⟨b, off + k * 2, none⟩ = some (.string x.pe.el) ∧ wx.cell? ⟨b, off + k * 2 + 1, none⟩ = some (.slice x.A x.pe.at_.length x.c)) 25 (by kernel_rfl) ?_ (fun hHeld => ?_)
        · exact HBK.out _ (bel_eq12 (Below.refl _ wr) rfl rfl rfl rfl)
        refine Ph.T_pure (i := 0) (oi := _) (v := ?_) rfl (by kernel_rfl) (by kernel_rfl) (by kernel_rfl) (by kernel_rfl) (fun _ _ _ h => h) (Or.inl ⟨by rfl, ?_⟩) (by assumption) (fun hHeld => ?_)
        rotate_left
        · intro w hSw; (try dsimp only at hSw); go_simp; all_goals with_reducible rfl
        try simp only [Act.put, List.getElem_toArray, List.getElem_cons_zero, List.getElem_cons_succ, List.setIfInBounds_toArray, List.set_cons_zero, List.set_cons_succ]
        refine Ph.T_pure (i := 1) (oi := _) (v := ?_) rfl (by kernel_rfl) (by kernel_rfl) (by kernel_rfl) (by kernel_rfl) (fun _ _ _ h => h) (Or.inl ⟨by rfl, ?_⟩) (by assumption) (fun hHeld => ?_)
        rotate_left
        · intro w hSw; (try dsimp only at hSw); go_simp; all_goals with_reducible rfl
        try simp only [Act.put, List.getElem_toArray, List.getElem_cons_zero, List.getElem_cons_succ, List.setIfInBounds_toArray, List.set_cons_zero, List.set_cons_succ]
        refine Ph.T_take (i := 2) (oi := _) (v := ?_) rfl (by kernel_rfl) (by kernel_rfl) (by kernel_rfl) (by kernel_rfl) (fun _ _ _ h => h) (Or.inl ⟨by rfl, ?_⟩) (by assumption) (fun hHeld => ?_)
        rotate_left
        · intro w hSw; (try dsimp only at hSw); go_simp; all_goals with_reducible rfl
        try simp only [Act.put, List.getElem_toArray, List.getElem_cons_zero, List.getElem_cons_succ, List.setIfInBounds_toArray, List.set_cons_zero, List.set_cons_succ]
        refine Ph.T_pure (i := 3) (oi := _) (v := ?_) rfl (by kernel_rfl) (by kernel_rfl) (by kernel_rfl) (by kernel_rfl) (fun _ _ _ h => h) (Or.inl ⟨by rfl, ?_⟩) (by assumption) (fun hHeld => ?_)
        rotate_left
        · intro w hSw; (try dsimp only at hSw); go_simp; all_goals with_reducible rfl
        try simp only [Act.put, List.getElem_toArray, List.getElem_cons_zero, List.getElem_cons_succ, List.setIfInBounds_toArray, List.set_cons_zero, List.set_cons_succ]
        refine Ph.T_pure (i := 4) (oi := _) (v := ?_) rfl (by kernel_rfl) (by kernel_rfl) (by kernel_rfl) (by kernel_rfl) (fun _ _ _ h => h) (Or.inl ⟨by rfl, ?_⟩) (by assumption) (fun hHeld => ?_)
        rotate_left
        · intro w hSw; (try dsimp only at hSw); go_simp; all_goals with_reducible rfl
        try simp only [Act.put, List.getElem_toArray, List.getElem_cons_zero, List.getElem_cons_succ, List.setIfInBounds_toArray, List.set_cons_zero, List.set_cons_succ]
        refine Ph.T_pure (i := 5) (oi := _) (v := ?_) rfl (by kernel_rfl) (by kernel_rfl) (by kernel_rfl) (by kernel_rfl) (fun _ _ _ h => h) (Or.inl ⟨by rfl, ?_⟩) (by assumption) (fun hHeld => ?_)
        rotate_left
        · intro w hSw; (try dsimp only at hSw); go_simp; all_goals with_reducible rfl
        try simp only [Act.put, List.getElem_toArray, List.getElem_cons_zero, List.getElem_cons_succ, List.setIfInBounds_toArray, List.set_cons_zero, List.set_cons_succ]
        refine Ph.T_take (i := 6) (oi := _) (v := ?_) rfl (by kernel_rfl) (by kernel_rfl) (by kernel_rfl) (by kernel_rfl) (fun _ _ _ h => h) (Or.inl ⟨by rfl, ?_⟩) (by assumption) (fun hHeld => ?_)
        rotate_left
        · intro w hSw; (try dsimp only at hSw); go_simp; all_goals with_reducible rfl
        try simp only [Act.put, List.getElem_toArray, List.getElem_cons_zero, List.getElem_cons_succ, List.setIfInBounds_toArray, List.set_cons_zero, List.set_cons_succ]
        refine Ph.T_pure (i := 7) (oi := _) (v := ?_) rfl (by kernel_rfl) (by kernel_rfl) (by kernel_rfl) (by kernel_rfl) (fun _ _ _ h => h) (Or.inl ⟨by rfl, ?_⟩) (by assumption) (fun hHeld => ?_)
        rotate_left
        · intro w hSw; (try dsimp only at hSw); go_simp; all_goals with_reducible rfl
        try simp only [Act.put, List.getElem_toArray, List.getElem_cons_zero, List.getElem_cons_succ, List.setIfInBounds_toArray, List.set_cons_zero, List.set_cons_succ]
        refine Ph.T_take (i := 8) (oi := _) (v := ?_) rfl (by kernel_rfl) (by kernel_rfl) (by kernel_rfl) (by kernel_rfl) (fun _ _ _ h => h) (Or.inl ⟨by rfl, ?_⟩) (by assumption) (fun hHeld => ?_)
        rotate_left
        · intro w hSw; (try dsimp only at hSw); go_simp; all_goals with_reducible rfl
        try simp only [Act.put, List.getElem_toArray, List.getElem_cons_zero, List.getElem_cons_succ, List.setIfInBounds_toArray, List.set_cons_zero, List.set_cons_succ]
        refine Ph.T_pure (i := 9) (oi := _) (v := ?_) rfl (by kernel_rfl) (by kernel_rfl) (by kernel_rfl) (by kernel_rfl) (fun _ _ _ h => h) (Or.inl ⟨by rfl, ?_⟩) (by assumption) (fun hHeld => ?_)
        rotate_left
        · intro w hSw; (try dsimp only at hSw); go_simp; all_goals with_reducible rfl
        try simp only [Act.put, List.getElem_toArray, List.getElem_cons_zero, List.getElem_cons_succ, List.setIfInBounds_toArray, List.set_cons_zero, List.set_cons_succ]
        refine Ph.T_pure (i := 10) (oi := _) (v := ?_) rfl (by kernel_rfl) (by kernel_rfl) (by kernel_rfl) (by kernel_rfl) (fun _ _ _ h => h) (Or.inl ⟨by rfl, ?_⟩) (by assumption) (fun hHeld => ?_)
        rotate_left
        · intro w hSw; (try dsimp only at hSw); go_simp; all_goals with_reducible rfl
        try simp only [Act.put, List.getElem_toArray, List.getElem_cons_zero, List.getElem_cons_succ, List.setIfInBounds_toArray, List.set_cons_zero, List.set_cons_succ]
        refine Ph.T_pure (i := 11) (oi := _) (v := ?_) rfl (by kernel_rfl) (by kernel_rfl) (by kernel_rfl) (by kernel_rfl) (fun _ _ _ h => h) (Or.inl ⟨by rfl, ?_⟩) (by assumption) (fun hHeld => ?_)
        rotate_left
        · intro w hSw; (try dsimp only at hSw); go_simp; all_goals with_reducible rfl
        try simp only [Act.put, List.getElem_toArray, List.getElem_cons_zero, List.getElem_cons_succ, List.setIfInBounds_toArray, List.set_cons_zero, List.set_cons_succ]
        refine Ph.T_take (i := 12) (oi := _) (v := ?_) rfl (by kernel_rfl) (by kernel_rfl) (by kernel_rfl) (by kernel_rfl) (fun _ _ _ h => h) (Or.inl ⟨by rfl, ?_⟩) (by assumption) (fun hHeld => ?_)
        rotate_left
        · intro w hSw; (try dsimp only at hSw); go_simp; all_goals with_reducible rfl
        try simp only [Act.put, List.getElem_toArray, List.getElem_cons_zero, List.getElem_cons_succ, List.setIfInBounds_toArray, List.set_cons_zero, List.set_cons_succ]
        refine Ph.T_pure (i := 13) (oi := _) (v := ?_) rfl (by kernel_rfl) (by kernel_rfl) (by kernel_rfl) (by kernel_rfl) (fun _ _ _ h => h) (Or.inl ⟨by rfl, ?_⟩) (by assumption) (fun hHeld => ?_)
        rotate_left
        · intro w hSw; (try dsimp only at hSw); go_simp; all_goals with_reducible rfl
        try simp only [Act.put, List.getElem_toArray, List.getElem_cons_zero, List.getElem_cons_succ, List.setIfInBounds_toArray, List.set_cons_zero, List.set_cons_succ]
        refine Ph.T_take (i := 14) (oi := _) (v := ?_) rfl (by kernel_rfl) (by kernel_rfl) (by kernel_rfl) (by kernel_rfl) (fun _ _ _ h => h) (Or.inl ⟨by rfl, ?_⟩) (by assumption) (fun hHeld => ?_)
        rotate_left
        · intro w hSw; (try dsimp only at hSw); go_simp; all_goals with_reducible rfl
        try simp only [Act.put, List.getElem_toArray, List.getElem_cons_zero, List.getElem_cons_succ, List.setIfInBounds_toArray, List.set_cons_zero, List.set_cons_succ]
        refine Ph.T_pure (i := 15) (oi := _) (v := ?_) rfl (by kernel_rfl) (by kernel_rfl) (by kernel_rfl) (by kernel_rfl) (fun _ _ _ h => h) (Or.inl ⟨by rfl, ?_⟩) (by assumption) (fun hHeld => ?_)
        rotate_left
        · intro w hSw; (try dsimp only at hSw); go_simp; all_goals with_reducible rfl
        try simp only [Act.put, List.getElem_toArray, List.getElem_cons_zero, List.getElem_cons_succ, List.setIfInBounds_toArray, List.set_cons_zero, List.set_cons_succ]
        refine Ph.T_pure (i := 16) (oi := _) (v := ?_) rfl (by kernel_rfl) (by kernel_rfl) (by kernel_rfl) (by kernel_rfl) (fun _ _ _ h => h) (Or.inl ⟨by rfl, ?_⟩) (by assumption) (fun hHeld => ?_)
        rotate_left
        · intro w hSw; (try dsimp only at hSw); go_simp; all_goals with_reducible rfl
        try simp only [Act.put, List.getElem_toArray, List.getElem_cons_zero, List.getElem_cons_succ, List.setIfInBounds_toArray, List.set_cons_zero, List.set_cons_succ]
        refine Ph.T_pure (i := 17) (oi := _) (v := ?_) rfl (by kernel_rfl) (by kernel_rfl) (by kernel_rfl) (by kernel_rfl) (fun _ _ _ h => h) (Or.inl ⟨by rfl, ?_⟩) (by assumption) (fun hHeld => ?_)
        rotate_left
        · intro w hSw; (try dsimp only at hSw); go_simp; all_goals with_reducible rfl
        try simp only [Act.put, List.getElem_toArray, List.getElem_cons_zero, List.getElem_cons_succ, List.setIfInBounds_toArray, List.set_cons_zero, List.set_cons_succ]
        refine Ph.T_take (i := 18) (oi := _) (v := ?_) rfl (by kernel_rfl) (by kernel_rfl) (by kernel_rfl) (by kernel_rfl) (fun _ _ _ h => h) (Or.inl ⟨by rfl, ?_⟩) (by assumption) (fun hHeld => ?_)
        rotate_left
        · intro w hSw; (try dsimp only at hSw); go_simp; all_goals with_reducible rfl
        try simp only [Act.put, List.getElem_toArray, List.getElem_cons_zero, List.getElem_cons_succ, List.setIfInBounds_toArray, List.set_cons_zero, List.set_cons_succ]
        refine Ph.T_pure (i := 19) (oi := _) (v := ?_) rfl (by kernel_rfl) (by kernel_rfl) (by kernel_rfl) (by kernel_rfl) (fun _ _ _ h => h) (Or.inl ⟨by rfl, ?_⟩) (by assumption) (fun hHeld => ?_)
        rotate_left
        · intro w hSw; (try dsimp only at hSw); go_simp; all_goals with_reducible rfl
        try simp only [Act.put, List.getElem_toArray, List.getElem_cons_zero, List.getElem_cons_succ, List.setIfInBounds_toArray, List.set_cons_zero, List.set_cons_succ]
        refine Ph.T_one (i := 20) (o := _) (by kernel_rfl) rfl (fun K hK => ?_)
        refine step_min _ (by rfl) (.tmp 60) (by rfl) _ m HM.out (by simp [Act.eval, Act.put]) ?_
        refine hK.out _ _ ?_ (fun hHeld => ?_)
        · exact HBK.out _ (bel_eq12 (Below.refl _ wr) rfl rfl rfl rfl)
        clear hK K
        try simp only [Act.put, List.getElem_toArray, List.getElem_cons_zero, List.getElem_cons_succ, List.setIfInBounds_toArray, List.set_cons_zero, List.set_cons_succ]
        refine Ph.T_pure (i := 21) (oi := _) (v := ?_) rfl (by kernel_rfl) (by kernel_rfl) (by kernel_rfl) (by kernel_rfl) (fun _ _ _ h => h) (Or.inl ⟨by rfl, ?_⟩) (by assumption) (fun hHeld => ?_)
        rotate_left
        · intro w hSw; (try dsimp only at hSw); go_simp; all_goals with_reducible rfl
        try simp only [Act.put, List.getElem_toArray, List.getElem_cons_zero, List.getElem_cons_succ, List.setIfInBounds_toArray, List.set_cons_zero, List.set_cons_succ]
        refine Ph.T_pure (i := 22) (oi := _) (v := ?_) rfl (by kernel_rfl) (by kernel_rfl) (by kernel_rfl) (by kernel_rfl) (fun _ _ _ h => h) (Or.inl ⟨by rfl, ?_⟩) (by assumption) (fun hHeld => ?_)
        rotate_left
        · intro w hSw; (try dsimp only at hSw); go_simp; all_goals with_reducible rfl
        try simp only [Act.put, List.getElem_toArray, List.getElem_cons_zero, List.getElem_cons_succ, List.setIfInBounds_toArray, List.set_cons_zero, List.set_cons_succ]
        refine Ph.T_one (i := 23) (o := _) (by kernel_rfl) rfl (fun K hK => ?_)
        go_simp
        go_wp2_with fail
        refine hK.out _ _ ?_ (fun hHeld => ?_)
        · exact HBK.out _ (bel_eq12 ((Below.refl (w.heap.size + 1 + 1) wr).alloc (by omega) _) rfl rfl rfl rfl)
        clear hK K
        try simp only [Act.put, List.getElem_toArray, List.getElem_cons_zero, List.getElem_cons_succ, List.setIfInBounds_toArray, List.set_cons_zero, List.set_cons_succ]
        refine Ph.T_one (i := 24) (o := _) (by kernel_rfl) rfl (fun K hK => ?_)
        refine step_app_per _ (by rfl) (.tmp 41) (.tmp 64) (by rfl) wr (w.heap.size + 1 + 1) _ acc z HO.out HZ1.out HAP.out ((grown_drew wr 1 _).trans (World.grownBy_alloc _ _ _)) (by omega) hacc (by simp [Act.eval, Act.put]) wr.heap.size (by simp [Act.eval, Act.put]) (by rw [HZV.out]; exact heap_alloc_new _ _) ?_
        intro v9 w9 ho9 hg9
        have HO9 := Lib.hid ho9
        have hb9 : Below (w.heap.size + 1 + 1) wr w9 := (Below.refl _ wr).grown hg9 (by omega) (fun q hq => (World.ownsRow.lt HO.out.1 q hq).1)
        have HB9 := Lib.hid hb9
        clear hb9 hg9 ho9
        refine hK.out _ _ ?_ (fun hHeld => ?_)
        · exact HBK.out _ HB9.out
        clear hK K
        try simp only [Act.put, List.getElem_toArray, List.getElem_cons_zero, List.getElem_cons_succ, List.setIfInBounds_toArray, List.set_cons_zero, List.set_cons_succ]
        refine Ph.T_free (i := 25) (oi := _) (v := ?_) (by kernel_rfl) (by kernel_rfl) rfl (Or.inl ⟨by rfl, ?_⟩) ?_
        rotate_left
        · intro w; go_simp; all_goals with_reducible rfl
        try simp only [Act.put, List.getElem_toArray, List.getElem_cons_zero, List.getElem_cons_succ, List.setIfInBounds_toArray, List.set_cons_zero, List.set_cons_succ]
        refine Ph.T_done (by kernel_rfl) ?_ _
        refine NoPanic.normal ?_
        go_wp2
        go_roundw
        case rel => exact ⟨k + 1, acc ++ [z], by go_num, by omega, by omega, by rw [List.length_append, HAL.out]; rfl, HO9.out, HPZ.out, sx_snoc HSA.out HZ0.out (HB9.out.mono (by omega)), HBL.out.trans (HB9.out.mono (by omega))⟩
        case measure => simp [intOf]; omega
      · have hfin : pes acc = (per.take 12).map (fun p => (⟨p.el, p.at_.take 70⟩ : Pe)) := by
          obtain rfl : k = 12 := by omega
          rw [HPER.out, hpes]
        have HFIN := Lib.hid hfin; have HOW := Lib.hid hown; have HSA := Lib.hid hsa; have HBL := Lib.hid hbel
        obtain ⟨B, nB, cB, rfl⟩ := po_shape hown
        have hx5 := HH1.out.below hbel (by omega); have hz5 := HH2.out.below hbel (by omega)
        have HX5 := Lib.hid hx5; have HZ5 := Lib.hid hz5; have HBW := Lib.hid hbw
        have hxf := hx5.f 5
        clear hfin hown hsa hbel hpes hx5 hz5 hbw hhb1
        go_upto_region 10 with (fail)
        obtain ⟨W9, hW9⟩ : ∃ W9, wr.setCell ⟨w.heap.size, 5, none⟩ (.slice B nB cB) = W9 := ⟨_, rfl⟩
        have hg9 : wr.grownBy W9 (some w.heap.size) := hW9 ▸ gcell12 wr _ 5 _
        have hx9 : Hb W9 w.heap.size #[.bool al, .bool aa, .slice E m1 ce, .slice R m2 cr, .slice T m3 ct, .slice B nB cB, .bool cm, .bool da] := hW9 ▸ HX5.out.set 5 (.slice B nB cB)
        have hz9 : Hb W9 (w.heap.size + 1) #[.bool false, .bool false, .slice none 0 0, .slice none 0 0, .slice none 0 0, .slice none 0 0, .bool false, .bool false] := HZ5.out.keep (hg9.block _ HZ5.out.lt (by simp))
        rw [hW9]
        have HRG9 := Lib.hid hx9.range; have HTH := Lib.hid (hz9.there 8 rfl)
        clear hW9
        go_wp2_with (first
          | (show wpList _ _ _ (⟨_, Op.load 26 (.tmp 1), _, _, _, _⟩ :: _) _ _; refine wpList_load_mid rfl 26 (.tmp 1) rfl w.heap.size 0 rfl _ _ HRG9.out Try.underlying26 rfl size_conf ?_)
          | (show wpList _ _ _ (⟨none, Op.store 26 (.tmp 2) (.tmp 68), _, _, _, _⟩ :: _) _ _; refine wpList_store_mid rfl 26 (.tmp 2) (.tmp 68) rfl (w.heap.size + 1) 0 #[.bool al, .bool aa, .slice E m1 ce, .slice R m2 cr, .slice T m3 ct, .slice B nB cB, .bool cm, .bool da] rfl rfl HTH.out size_conf (by simp [Value.oneCell']) ?_))
        obtain ⟨W, hW, hgW, hbW⟩ := res_box (c := ⟨al, aa, els, reps, ats, per, cm, da⟩) (vE := .slice E m1 ce) (vR := .slice R m2 cr) (vA := .slice T m3 ct) (vP := .slice B nB cB) hz9 rfl
        obtain ⟨z0, z1, z2, z3, z4, z5, z6, z7⟩ := hbW.at_
        rw [← hW]
        have hsz9 := hg9.size
        have hwW : Below w.heap.size wr W := (((Below.refl w.heap.size wr).grown hg9 (by omega) (fun q hq => by injection hq with hq; omega)).grown hgW (by omega) (fun q hq => by injection hq with hq; omega))
        have hbelW : Below w.heap.size w W := HBW.out.trans (hwW.mono (by omega))
        have hpW : Pv W W.heap.size (.slice B nB cB) acc := po_kept HOW.out (fun z hz => ((HSA.out z hz).below hwW).more hbelW.size) (fun b hb hb2 => (hgW.block b (by omega) (by simp; omega)).trans (hg9.block b hb2 (by simp; omega))) hwW.size
        have hcW : Cp W W.heap.size (boundC ⟨al, aa, els, reps, ats, per, cm, da⟩) (.slice E m1 ce) (.slice R m2 cr) (.slice T m3 ct) (.slice B nB cB) acc := ⟨(Sv.below HSE.out hbelW (Nat.le_refl _)).more hbelW.size, (Sv.below HSR.out hbelW (Nat.le_refl _)).more hbelW.size, (Sv.below HST.out hbelW (Nat.le_refl _)).more hbelW.size, hpW, HFIN.out⟩
        clear hx9 hz9 HRG9 HTH hgW hW hg9 HX5 HZ5 HOW HSA HFIN hwW hpW
        go_wp2
        exact bodyPost_ret (v := .agg #[.bool al, .bool aa, .slice E m1 ce, .slice R m2 cr, .slice T m3 ct, .slice B nB cB, .bool cm, .bool da]) (by simp [results, Try.f11, go_sem, z0, z1, z2, z3, z4, z5, z6, z7]) rfl ⟨_, rfl, ⟨_, _, _, _, _, rfl, hcW⟩, hbelW⟩
    · have hfin : pes acc = (per.take 12).map (fun p => (⟨p.el, p.at_.take 70⟩ : Pe)) := by
        rw [HPER.out, hpes, List.take_of_length_le (show l.length ≤ k by omega), List.take_of_length_le (show l.length ≤ 12 by omega)]
      have HFIN := Lib.hid hfin; have HOW := Lib.hid hown; have HSA := Lib.hid hsa; have HBL := Lib.hid hbel
      obtain ⟨B, nB, cB, rfl⟩ := po_shape hown
      have hx5 := HH1.out.below hbel (by omega); have hz5 := HH2.out.below hbel (by omega)
      have HX5 := Lib.hid hx5; have HZ5 := Lib.hid hz5; have HBW := Lib.hid hbw
      have hxf := hx5.f 5
      clear hfin hown hsa hbel hpes hx5 hz5 hbw hhb1
      go_upto_region 10 with (fail)
      obtain ⟨W9, hW9⟩ : ∃ W9, wr.setCell ⟨w.heap.size, 5, none⟩ (.slice B nB cB) = W9 := ⟨_, rfl⟩
      have hg9 : wr.grownBy W9 (some w.heap.size) := hW9 ▸ gcell12 wr _ 5 _
      have hx9 : Hb W9 w.heap.size #[.bool al, .bool aa, .slice E m1 ce, .slice R m2 cr, .slice T m3 ct, .slice B nB cB, .bool cm, .bool da] := hW9 ▸ HX5.out.set 5 (.slice B nB cB)
      have hz9 : Hb W9 (w.heap.size + 1) #[.bool false, .bool false, .slice none 0 0, .slice none 0 0, .slice none 0 0, .slice none 0 0, .bool false, .bool false] := HZ5.out.keep (hg9.block _ HZ5.out.lt (by simp))
      rw [hW9]
      have HRG9 := Lib.hid hx9.range; have HTH := Lib.hid (hz9.there 8 rfl)
      clear hW9
      go_wp2_with (first
        | (show wpList _ _ _ (⟨_, Op.load 26 (.tmp 1), _, _, _, _⟩ :: _) _ _; refine wpList_load_mid rfl 26 (.tmp 1) rfl w.heap.size 0 rfl _ _ HRG9.out Try.underlying26 rfl size_conf ?_)
        | (show wpList _ _ _ (⟨none, Op.store 26 (.tmp 2) (.tmp 68), _, _, _, _⟩ :: _) _ _; refine wpList_store_mid rfl 26 (.tmp 2) (.tmp 68) rfl (w.heap.size + 1) 0 #[.bool al, .bool aa, .slice E m1 ce, .slice R m2 cr, .slice T m3 ct, .slice B nB cB, .bool cm, .bool da] rfl rfl HTH.out size_conf (by simp [Value.oneCell']) ?_))
      obtain ⟨W, hW, hgW, hbW⟩ := res_box (c := ⟨al, aa, els, reps, ats, per, cm, da⟩) (vE := .slice E m1 ce) (vR := .slice R m2 cr) (vA := .slice T m3 ct) (vP := .slice B nB cB) hz9 rfl
      obtain ⟨z0, z1, z2, z3, z4, z5, z6, z7⟩ := hbW.at_
      rw [← hW]
      have hsz9 := hg9.size
      have hwW : Below w.heap.size wr W := (((Below.refl w.heap.size wr).grown hg9 (by omega) (fun q hq => by injection hq with hq; omega)).grown hgW (by omega) (fun q hq => by injection hq with hq; omega))
      have hbelW : Below w.heap.size w W := HBW.out.trans (hwW.mono (by omega))
      have hpW : Pv W W.heap.size (.slice B nB cB) acc := po_kept HOW.out (fun z hz => ((HSA.out z hz).below hwW).more hbelW.size) (fun b hb hb2 => (hgW.block b (by omega) (by simp; omega)).trans (hg9.block b hb2 (by simp; omega))) hwW.size
      have hcW : Cp W W.heap.size (boundC ⟨al, aa, els, reps, ats, per, cm, da⟩) (.slice E m1 ce) (.slice R m2 cr) (.slice T m3 ct) (.slice B nB cB) acc := ⟨(Sv.below HSE.out hbelW (Nat.le_refl _)).more hbelW.size, (Sv.below HSR.out hbelW (Nat.le_refl _)).more hbelW.size, (Sv.below HST.out hbelW (Nat.le_refl _)).more hbelW.size, hpW, HFIN.out⟩
      clear hx9 hz9 HRG9 HTH hgW hW hg9 HX5 HZ5 HOW HSA HFIN hwW hpW
      go_wp2
      exact bodyPost_ret (v := .agg #[.bool al, .bool aa, .slice E m1 ce, .slice R m2 cr, .slice T m3 ct, .slice B nB cB, .bool cm, .bool da]) (by simp [results, Try.f11, go_sem, z0, z1, z2, z3, z4, z5, z6, z7]) rfl ⟨_, rfl, ⟨_, _, _, _, _, rfl, hcW⟩, hbelW⟩

end Go.Proofs.Ytdjkeakagmgfgaa.Co

namespace Go.Proofs.Ytdjkeakagmgfgaa.Co
set_option linter.unusedVariables false
set_option linter.unusedSimpArgs false
open Go.RowKit Ba Fm Fo Nm Rk
/-- No string lies there. -/
def noStr (cs : Array Value) : Prop := ∀ (i : Nat) (s : ByteArray), cs[i]? ≠ some (Value.string s)
theorem noStr8 (a b m d : Bool) (A1 A2 A3 A4 : Option Addr) (n1 n2 n3 n4 c1 c2 c3 c4 : Nat) : noStr #[.bool a, .bool b, .slice A1 n1 c1, .slice A2 n2 c2, .slice A3 n3 c3, .slice A4 n4 c4, .bool m, .bool d] := fun i s => by
  match i with
  | 0 | 1 | 2 | 3 | 4 | 5 | 6 | 7 => simp
  | i + 8 => simp
theorem sv_shape {w : World} {N : Nat} {v : Value} {l : List ByteArray} (h : Sv w N v l) : ∃ A n c, v = .slice A n c := by
  obtain ⟨A, c, e, _⟩ := h
  exact ⟨A, _, c, e⟩
theorem pv_shape {w : World} {N : Nat} {v : Value} {l : List Pw} (h : Pv w N v l) : ∃ A n c, v = .slice A n c := by
  obtain ⟨A, c, e, _⟩ := h
  exact ⟨A, _, c, e⟩
theorem sv_boxed {w w' : World} {b N : Nat} {cs : Array Value} {v : Value} {l : List ByteArray} (h : Sv w N v l) (hb : Hb w b cs) (hn : noStr cs) (hg : w.grownBy w' (some b)) (hN : N ≤ w.heap.size) : Sv w' N v l := by
  obtain ⟨A, c, e, h1, h2, h3⟩ := h
  refine ⟨A, c, e, h1, h2, fun h0 => ?_⟩
  obtain ⟨b', off, eA, hb', hc⟩ := h3 h0
  have hne : b' ≠ b := by
    rintro rfl
    have := hc 0 h0
    rw [cell_of_row w b' (off + 0) _ _ _ hb] at this
    exact hn _ _ this
  exact ⟨b', off, eA, hb', fun j hj => (World.cell?_of_block (a := ⟨b', off + j, none⟩) (hg.block b' (by omega) (by simpa using hne))).trans (hc j hj)⟩
theorem pv_boxed {w w' : World} {b N : Nat} {cs : Array Value} {v : Value} {l : List Pw} (h : Pv w N v l) (hb : Hb w b cs) (hn : noStr cs) (hg : w.grownBy w' (some b)) (hN : N ≤ w.heap.size) : Pv w' N v l := by
  obtain ⟨A, c, e, h1, h2, h3, h4⟩ := h
  refine ⟨A, c, e, h1, h2, fun h0 => ?_, fun x hx => sv_boxed (h4 x hx) hb hn hg hN⟩
  obtain ⟨b', off, eA, hb', hc⟩ := h3 h0
  have hne : b' ≠ b := by
    rintro rfl
    have := hc 0 h0 0 (.string l[0].pe.el) rfl
    rw [cell_of_row w b' _ _ _ _ hb] at this
    exact hn _ _ this
  exact ⟨b', off, eA, hb', fun j hj => range_keep12 (hc j hj) fun o => World.cell?_of_block (a := ⟨b', o, none⟩) (hg.block b' (by omega) (by simpa using hne))⟩
theorem cp_boxed {w w' : World} {b : Nat} {cs : Array Value} {c : Cf} {vE vR vA vP : Value} {l : List Pw} (h : Cp w w.heap.size c vE vR vA vP l) (hb : Hb w b cs) (hn : noStr cs) (hg : w.grownBy w' (some b)) : Cp w' w'.heap.size c vE vR vA vP l :=
  (⟨sv_boxed h.e hb hn hg (Nat.le_refl _), sv_boxed h.r hb hn hg (Nat.le_refl _), sv_boxed h.a hb hn hg (Nat.le_refl _), pv_boxed h.p hb hn hg (Nat.le_refl _), h.m⟩ : Cp w' w.heap.size c vE vR vA vP l).more hg.size
/-- A configuration is stored in a box. -/
theorem res_hb {w : World} {g : Nat} {cs : Array Value} (h : Hb w g cs) (hc : cs.size = 8) (v0 v1 v2 v3 v4 v5 v6 v7 : Value) :
    ∃ W, W = w.setCells g 0 [v0, v1, v2, v3, v4, v5, v6, v7] ∧ w.grownBy W (some g) ∧ Hb W g #[v0, v1, v2, v3, v4, v5, v6, v7] := by
  refine ⟨_, rfl, gcells12 g _ 0 w, ?_⟩
  match cs, hc with
  | ⟨[x0, x1, x2, x3, x4, x5, x6, x7]⟩, _ =>
    exact (((((((h.set 0 v0 (by simp)).set 1 v1 (by simp)).set 2 v2 (by simp)).set 3 v3 (by simp)).set 4 v4 (by simp)).set 5 v5 (by simp)).set 6 v6 (by simp)).set 7 v7 (by simp)
theorem mem_bound {c : Cf} {p : Pe} (h : p ∈ (boundC c).per) : ∃ q ∈ c.per, p.el = q.el ∧ p.at_ = q.at_.take 70 := by
  obtain ⟨q, hq, rfl⟩ := List.mem_map.1 (show p ∈ (c.per.take 12).map fun p => (⟨p.el, p.at_.take 70⟩ : Pe) from h)
  exact ⟨q, List.mem_of_mem_take hq, rfl, rfl⟩
theorem sm_bound {c : Cf} (h : St c) : Sm (boundC c) := by
  refine ⟨?_, ?_, ?_, ?_, fun p hp => ?_, fun s hs => h.es s (List.mem_of_mem_take hs), fun s hs => h.rs s (List.mem_of_mem_take hs), fun s hs => h.as_ s (List.mem_of_mem_take hs), fun p hp => ?_⟩
  · show (c.els.take 70).length ≤ 1000; rw [List.length_take]; omega
  · show (c.reps.take 70).length ≤ 1000; rw [List.length_take]; omega
  · show (c.ats.take 70).length ≤ 1000; rw [List.length_take]; omega
  · show ((c.per.take 12).map _).length ≤ 1000; rw [List.length_map, List.length_take]; omega
  · obtain ⟨q, hq, h1, h2⟩ := mem_bound hp
    rw [h2, List.length_take]; omega
  · obtain ⟨q, hq, h1, h2⟩ := mem_bound hp
    rw [h1, h2]
    exact ⟨(h.ps q hq).1, fun s hs => (h.ps q hq).2 s (List.mem_of_mem_take hs)⟩
/-- A contract, as it is asked for behind a beginning. -/
theorem on_base {P : Program} {f : FuncId} {args : Array Value} {w0 w : World} {T : Ending → Prop} (h : Calls P f args w fun e w' => T e ∧ Below w.heap.size w w') (hb : Below w0.heap.size w0 w) : Calls P f args w fun e w' => T e ∧ Below w0.heap.size w0 w' :=
  h.mono fun e w' ⟨he, hw⟩ => ⟨he, hb.trans (hw.mono hb.size)⟩

end Go.Proofs.Ytdjkeakagmgfgaa.Co

namespace Go.Proofs.Ytdjkeakagmgfgaa.Cn
set_option maxRecDepth 100000
set_option linter.unusedVariables false
set_option linter.unusedSimpArgs false
open Go.RowKit Ba Ro
open Co (Cf Cv Sm confV confO attrB12 elementN checkN bel_eq12 Hb noStr)
/-- Rows as the laws have them. -/
structure Lw (L : List Ro) : Prop where
  n : L.length ≤ 40
  z : Rz.Small L
  f : Few L
  t : (txt L).length ≤ 1000000000
theorem Lw.clean {c : Cf} {s : Bool} {L : List Ro} (h : Lw L) (hr : right L = true) : Lw (cleanL c s L) :=
  ⟨Nat.le_trans (clean_len c s hr) h.n, small_clean hr h.z h.t, few_clean hr h.f, Nat.le_trans (clean_txt_le c s hr) h.t⟩
end Go.Proofs.Ytdjkeakagmgfgaa.Cn

namespace Go.Proofs.Ytdjkeakagmgfgaa.Cn
set_option maxRecDepth 100000
set_option linter.unusedVariables false
set_option linter.unusedSimpArgs false
open Go.RowKit Ba Ro
theorem sub_hit {α : Type} {x y : α} {a b : List α} (h : (x :: a).Sublist (y :: b)) : a.Sublist b := by
  cases h with
  | cons _ h => exact (List.sublist_cons_self x a).trans h
  | cons_cons _ h => exact h
theorem sub_miss {α : Type} {x y : α} {a b : List α} (h : (x :: a).Sublist (y :: b)) (hne : x ≠ y) : (x :: a).Sublist b := by
  cases h with
  | cons _ h => exact h
  | cons_cons _ h => exact absurd rfl hne
set_option maxRecDepth 100000 in
set_option maxHeartbeats 4000000 in
theorem among_any (A B : Option Addr) (ca cb : Nat) (xs ys : List At) (w : World) (hra : Ra w w.heap.size A xs) (hrb : Ra w w.heap.size B ys) (hca : xs.length ≤ ca) (hcb : ys.length ≤ cb) (hma : ca ≤ maxLen) (hmb : cb ≤ maxLen) (hs : xs.Sublist ys) :
    Calls Try.prog 27 #[.slice A xs.length ca, .slice B ys.length cb] w fun e w' => e = .returned (.bool true) ∧ Below w.heap.size w w' := by
  unfold maxLen at hma hmb
  have HS := Lib.hid hs
  clear hs
  go_enter Try.func27, Try.ntmps27
  go_wp2
  go_loopw [5, 6] (fun kv iv wr => ∃ k i : Nat, iv = .int .i64 i ∧ kv = .int .i64 k ∧ k ≤ xs.length ∧ i ≤ ys.length ∧ Hid ((xs.drop k).Sublist (ys.drop i)) ∧ ∃ n, wr = w.drewN n) (fun _ iv _ => ys.length - (intOf iv).toNat)
  case atStart => exact ⟨0, 0, rfl, rfl, Nat.zero_le _, Nat.zero_le _, HS, 0, rfl⟩
  case round =>
    obtain ⟨k, i, rfl, rfl, hk, hi, hsub, n, rfl⟩ := hrel
    by_cases hp : i < ys.length
    · by_cases hq : k < xs.length
      · obtain ⟨b1, o1, x, rfl, h1, hd1, hx, _⟩ := hra.at_ k hq
        obtain ⟨b2, o2, y, rfl, h2, hd2, hy, _⟩ := hrb.at_ i hp
        obtain ⟨f1, f2⟩ := range2 hx
        obtain ⟨g1, g2⟩ := range2 hy
        have hs2 := hsub.out
        rw [hd1, hd2] at hs2
        have HS2 := Lib.hid hs2; have HD1 := Lib.hid hd1
        clear hs2 hd1 hd2 hx hy hra hrb hsub
        obtain ⟨nx, vx⟩ := x
        obtain ⟨ny, vy⟩ := y
        simp only at f1 f2 g1 g2
        have e1 := eq_of_toList (a := nx) (b := ny)
        have e2 := eq_of_toList (a := vx) (b := vy)
        by_cases hn : nx = ny
        · rw [decide_eq_true hn] at e1
          by_cases hv : vx = vy
          · rw [decide_eq_true hv] at e2
            have HNN := Lib.hid hn; have HVV := Lib.hid hv
            clear hn hv
            go_wp2
            go_quiet (fail)
            go_wp2
            go_roundw
            case rel => exact ⟨k + 1, i + 1, by go_num, by go_num, by omega, by omega, Lib.hid (sub_hit HS2.out), _, by rfl⟩
            case measure => simp [intOf]; omega
          · rw [decide_eq_false hv] at e2
            have HVV := Lib.hid hv
            clear hn hv
            go_wp2
            go_quiet (fail)
            go_wp2
            go_roundw
            case rel => exact ⟨k, i + 1, by go_num, rfl, by omega, by omega, Lib.hid (by rw [HD1.out]; exact sub_miss HS2.out (fun e => HVV.out (by injection e))), _, by rfl⟩
            case measure => simp [intOf]; omega
        · rw [decide_eq_false hn] at e1
          have HNN := Lib.hid hn
          clear hn
          go_wp2
          go_quiet (fail)
          go_wp2
          go_roundw
          case rel => exact ⟨k, i + 1, by go_num, rfl, by omega, by omega, Lib.hid (by rw [HD1.out]; exact sub_miss HS2.out (fun e => HNN.out (by injection e))), _, by rfl⟩
          case measure => simp [intOf]; omega
      · have hkl : (k : Int) = (xs.length : Int) := by omega
        have hkb : ((k : Int) == (xs.length : Int)) = true := by rw [hkl]; simp
        clear hkl
        go_wp2
        go_ret
        exact ⟨rfl, Ba.below_drewN w n⟩
    · have hkl : (k : Int) = (xs.length : Int) := by
        have h := hsub.out
        rw [List.drop_of_length_le (show ys.length ≤ i by omega)] at h
        have h3 := congrArg List.length (List.sublist_nil.1 h)
        rw [List.length_drop] at h3
        have : xs.length - k = 0 := h3
        omega
      have hkb : ((k : Int) == (xs.length : Int)) = true := by rw [hkl]; simp
      clear hkl
      go_wp2
      go_ret
      exact ⟨rfl, Ba.below_drewN w n⟩

end Go.Proofs.Ytdjkeakagmgfgaa.Cn

namespace Go.Proofs.Ytdjkeakagmgfgaa.Cn
set_option maxRecDepth 100000
set_option linter.unusedVariables false
set_option linter.unusedSimpArgs false
open Go.RowKit Ba Ro
open Co (Cf Cv Sm confV confO attrB12 elementN checkN bel_eq12 Hb noStr noStr8 allC)
open Rk (safeB)
set_option maxRecDepth 100000 in
set_option maxHeartbeats 8000000 in
theorem law13_attrs (x : Cw) (v : Value) (c : Cf) (w : World) (hx : Att w w.heap.size x) (hz : Rz.SmallR x.ro) (h : Cv w w.heap.size v c) (hst : Co.St c) :
    Calls Try.prog 8 #[rowV x, v] w fun r w' => r = .returned (.bool true) ∧ Below w.heap.size w w' := by
  obtain ⟨d, hd⟩ : ∃ d, Co.boundC c = d := ⟨_, rfl⟩
  have hsm := Co.sm_bound hst
  rw [hd] at hsm
  obtain ⟨uE, uR, uA, uP, lu, rfl, h⟩ := h
  obtain ⟨E0, e0, k0, rfl⟩ := Co.sv_shape h.e
  obtain ⟨R0, r0, k1, rfl⟩ := Co.sv_shape h.r
  obtain ⟨T0, t0, k2, rfl⟩ := Co.sv_shape h.a
  obtain ⟨P0, p0, k3, rfl⟩ := Co.pv_shape h.p
  obtain ⟨⟨dep, kd, nm, dt, ats⟩, A, cc⟩ := x
  obtain ⟨hz1, hz2, hz3⟩ := hz
  simp only at hz1 hz2 hz3
  have hac := hx.1; have hcm := hx.2.2.1
  unfold maxLen at hcm
  simp only at hac hcm
  obtain ⟨m, hm⟩ : ∃ m, min ats.length 8 = m := ⟨_, rfl⟩
  have hmin := fun w => min_any ats.length 8 8 rfl m hm.symm w
  have hmc : m ≤ cc := by omega
  have hml : (ats.take 8).length = m := by rw [List.length_take, Nat.min_comm]; exact hm
  have hxb : Att w w.heap.size ⟨⟨dep, kd, nm, dt, ats.take 8⟩, A, cc⟩ := AttR.cut hx
  obtain ⟨W0, hW0⟩ : ∃ W0, (w.alloc (rowO ⟨⟨dep, kd, nm, dt, ats⟩, A, cc⟩)).alloc (confO c (.slice E0 e0 k0) (.slice R0 r0 k1) (.slice T0 t0 k2) (.slice P0 p0 k3)) = W0 := ⟨_, rfl⟩
  have hb0 : Below w.heap.size w W0 := hW0 ▸ below_two w _ _
  have hv0 : Hv 36 W0 w.heap.size #[.int .i64 dep, .int .i64 kd, .string nm, .string dt, .slice A ats.length cc] := hW0 ▸ (Hv.new _ _ _).on (below_new _ _)
  have hx0 : Hb W0 (w.heap.size + 1) #[.bool c.allow, .bool c.attrsAllow, .slice E0 e0 k0, .slice R0 r0 k1, .slice T0 t0 k2, .slice P0 p0 k3, .bool c.comments, .bool c.dataAttrs] := by
    have := Hb.new (w.alloc (rowO ⟨⟨dep, kd, nm, dt, ats⟩, A, cc⟩)) #[.bool c.allow, .bool c.attrsAllow, .slice E0 e0 k0, .slice R0 r0 k1, .slice T0 t0 k2, .slice P0 p0 k3, .bool c.comments, .bool c.dataAttrs]
    rw [World.size_alloc] at this
    exact hW0 ▸ this
  have g4 := hv0.cell 4 _ rfl; have f4 := hv0.f 4
  have HM := Lib.hid hm; have HW0 := Lib.hid hW0; have HB0 := Lib.hid hb0; have HV0 := Lib.hid hv0; have HX0 := Lib.hid hx0; have HSM := Lib.hid hsm; have HXB := Lib.hid hxb; have HZ3 := Lib.hid hz3; have HML := Lib.hid hml; have HD := Lib.hid hd; have HCP := Lib.hid h
  clear hm hW0 hb0 hv0 hx0 hsm hxb hz3 hml hd h hst hx
  go_enter Try.func8, Try.ntmps8
  go_upto_region 1 with (fail)
  rw [HW0.out]
  clear HW0
  go_upto_region 2 with (fail)
  obtain ⟨w1, hw1⟩ : ∃ w1, W0.setCell ⟨w.heap.size, 4, none⟩ (.slice A m cc) = w1 := ⟨_, rfl⟩
  rw [hw1]
  have hv1 : Hv 36 w1 w.heap.size #[.int .i64 dep, .int .i64 kd, .string nm, .string dt, .slice A m cc] := hw1 ▸ HV0.out.set 4 _
  have hb1 : Below w.heap.size w w1 := hw1 ▸ HB0.out.setCell (Nat.le_refl _) _
  have hx1 : Hb w1 (w.heap.size + 1) #[.bool c.allow, .bool c.attrsAllow, .slice E0 e0 k0, .slice R0 r0 k1, .slice T0 t0 k2, .slice P0 p0 k3, .bool c.comments, .bool c.dataAttrs] := hw1 ▸ HX0.out.keep (Below.heap_setCell _ _ _ _ (show w.heap.size + 1 ≠ w.heap.size by omega))
  have HBD := Lib.hid (Co.bound12 (confV c (.slice E0 e0 k0) (.slice R0 r0 k1) (.slice T0 t0 k2) (.slice P0 p0 k3)) c w1 ⟨_, _, _, _, _, rfl, HCP.out.on hb1⟩)
  rw [HD.out] at HBD
  have HV1 := Lib.hid hv1; have HB1 := Lib.hid hb1; have HX1 := Lib.hid hx1; have HR1 := Lib.hid hx1.range
  clear g4 f4 hw1 hv1 hb1 hx1 HV0 HX0 HB0 hmin
  go_upto_region 3 with (first
    | (show wpList _ _ _ (⟨_, Op.load 26 (.tmp 3), _, _, _, _⟩ :: _) _ _; refine wpList_load_mid rfl 26 (.tmp 3) rfl (w.heap.size + 1) 0 rfl _ _ HR1.out Try.underlying26 rfl Co.size_conf ?_)
    | (go_at_call 11; refine HBD.out.mono ?_; rintro r w2 ⟨v2, rfl, hc2, hb2⟩; obtain ⟨vE, vR, vA, vP, pl, rfl, hc2⟩ := hc2; obtain ⟨A1, n1, c1, rfl⟩ := Co.sv_shape hc2.e; obtain ⟨A2, n2, c2, rfl⟩ := Co.sv_shape hc2.r; obtain ⟨A3, n3, c3, rfl⟩ := Co.sv_shape hc2.a; obtain ⟨A4, n4, c4, rfl⟩ := Co.pv_shape hc2.p; have hx2 := HX1.out.on hb2; have HTH := Lib.hid (hx2.there 8 rfl); have HX2 := Lib.hid hx2; have HC2 := Lib.hid hc2; have HB2 := Lib.hid hb2; clear hx2 hc2 hb2)
    | (show wpList _ _ _ (⟨none, Op.store 26 (.tmp 3) (.tmp 16), _, _, _, _⟩ :: _) _ _; refine wpList_store_mid rfl 26 (.tmp 3) (.tmp 16) rfl (w.heap.size + 1) 0 #[.bool d.allow, .bool d.attrsAllow, .slice A1 n1 c1, .slice A2 n2 c2, .slice A3 n3 c3, .slice A4 n4 c4, .bool d.comments, .bool d.dataAttrs] rfl rfl HTH.out Co.size_conf (by simp [Value.oneCell']) ?_)
    | fail)
  obtain ⟨W, hW1, hg1, hh1⟩ := Co.res_hb HX2.out rfl (.bool d.allow) (.bool d.attrsAllow) (.slice A1 n1 c1) (.slice A2 n2 c2) (.slice A3 n3 c3) (.slice A4 n4 c4) (.bool d.comments) (.bool d.dataAttrs)
  rw [← hW1]
  have hcW := Co.cp_boxed HC2.out HX2.out (noStr8 c.allow c.attrsAllow c.comments c.dataAttrs E0 R0 T0 P0 e0 r0 t0 p0 k0 k1 k2 k3) hg1
  have hbW : Below w.heap.size w W := (HB1.out.trans (HB2.out.mono HB1.out.size)).grown hg1 (Nat.le_trans HB1.out.size HB2.out.size) (fun q hq => by injection hq with hq; omega)
  have hvW : Hv 36 W w.heap.size #[.int .i64 dep, .int .i64 kd, .string nm, .string dt, .slice A m cc] := (HV1.out.on HB2.out).keep (hg1.block _ (HV1.out.on HB2.out).lt (by simp))
  have HSF := Lib.hid (fun wx (hb : Below W.heap.size W wx) => show (wx.cell? ⟨w.heap.size, 0, none⟩ = some (.int .i64 dep) ∧ wx.cell? ⟨w.heap.size, 1, none⟩ = some (.int .i64 kd) ∧ wx.cell? ⟨w.heap.size, 2, none⟩ = some (.string nm) ∧ wx.cell? ⟨w.heap.size, 3, none⟩ = some (.string dt) ∧ wx.cell? ⟨w.heap.size, 4, none⟩ = some (.slice A m cc) ∧ wx.cell? ⟨w.heap.size + 1, 0, none⟩ = some (.bool d.allow) ∧ wx.cell? ⟨w.heap.size + 1, 1, none⟩ = some (.bool d.attrsAllow) ∧ wx.cell? ⟨w.heap.size + 1, 2, none⟩ = some (.slice A1 n1 c1) ∧ wx.cell? ⟨w.heap.size + 1, 3, none⟩ = some (.slice A2 n2 c2) ∧ wx.cell? ⟨w.heap.size + 1, 4, none⟩ = some (.slice A3 n3 c3) ∧ wx.cell? ⟨w.heap.size + 1, 5, none⟩ = some (.slice A4 n4 c4) ∧ wx.cell? ⟨w.heap.size + 1, 6, none⟩ = some (.bool d.comments) ∧ wx.cell? ⟨w.heap.size + 1, 7, none⟩ = some (.bool d.dataAttrs)) from by
    obtain ⟨a0, a1, a2, a3, a4, a5, a6, a7⟩ := (show Co.Bx wx (w.heap.size + 1) d (.slice A1 n1 c1) (.slice A2 n2 c2) (.slice A3 n3 c3) (.slice A4 n4 c4) from (hh1.on hb).range).at_
    have q := hvW.on hb
    exact ⟨q.cell 0 _ rfl, q.cell 1 _ rfl, q.cell 2 _ rfl, q.cell 3 _ rfl, q.cell 4 _ rfl, a0, a1, a2, a3, a4, a5, a6, a7⟩)
  have HXA := Lib.hid (fun wx (hb : Below W.heap.size W wx) => show Att wx wx.heap.size ⟨⟨dep, kd, nm, dt, ats.take 8⟩, A, cc⟩ from (HXB.out.below (hbW.trans (hb.mono hbW.size))).more (Nat.le_trans hbW.size hb.size))
  have HAF : Hid (∀ (s : Bool) (wx : World), Below W.heap.size W wx → Calls Try.prog 17 #[.agg #[.int .i64 dep, .int .i64 kd, .string nm, .string dt, .slice A m cc], (confV d (.slice A1 n1 c1) (.slice A2 n2 c2) (.slice A3 n3 c3) (.slice A4 n4 c4)), .bool s] wx fun r w' => ∃ B k, r = Ending.returned (.slice B (attrsL d s nm (ats.take 8)).length k) ∧ (attrsL d s nm (ats.take 8)).length ≤ k ∧ k ≤ maxLen ∧ Ra w' w'.heap.size B (attrsL d s nm (ats.take 8)) ∧ Below wx.heap.size wx w' ∧ Below W.heap.size W w') := Lib.hid (fun s wx hb => by
    rw [← HML.out]
    exact (attrs_any ⟨⟨dep, kd, nm, dt, ats.take 8⟩, A, cc⟩ (confV d (.slice A1 n1 c1) (.slice A2 n2 c2) (.slice A3 n3 c3) (.slice A4 n4 c4)) d s wx (HXA.out wx hb) ⟨hz1, hz2, fun a ha => HZ3.out a (List.mem_of_mem_take ha)⟩ ⟨_, _, _, _, _, rfl, hcW.on hb⟩ HSM.out (by show (ats.take 8).length ≤ _; have := HML.out; have := HM.out; omega)).mono fun r w' ⟨u, e, ho, hb'⟩ => (show ∃ B k, r = Ending.returned (.slice B (attrsL d s nm (ats.take 8)).length k) ∧ (attrsL d s nm (ats.take 8)).length ≤ k ∧ k ≤ maxLen ∧ Ra w' w'.heap.size B (attrsL d s nm (ats.take 8)) ∧ Below wx.heap.size wx w' ∧ Below W.heap.size W w' from by
    obtain ⟨B, k, rfl⟩ := ho.form
    have hat := (show Fr wx.heap.size w' ⟨⟨0, 0, .empty, .empty, attrsL d s nm (ats.take 8)⟩, B, k⟩ from ho).att
    exact ⟨B, k, e, hat.1, hat.2.2.1, hat.2.2.2.1, hb', hb.trans (hb'.mono hb.size)⟩))
  have HBW := Lib.hid hbW
  have HML' := HML.out
  have HMLh := Lib.hid HML'
  clear hW1 hg1 hh1 hcW hbW hvW HTH HX2 HC2 HB2 HX1 HB1 HV1 HR1 HBD HML'
  rw [show (⟨⟨dep, kd, nm, dt, ats⟩, A, cc⟩ : Cw) = ⟨⟨dep, kd, nm, dt, ats⟩, A, cc⟩ from rfl]
  have HF0 := Lib.hid (HAF.out false)
  have HT0 := Lib.hid (HAF.out true)
  go_region_held3 (fun wx => (wx.cell? ⟨w.heap.size, 0, none⟩ = some (.int .i64 dep) ∧ wx.cell? ⟨w.heap.size, 1, none⟩ = some (.int .i64 kd) ∧ wx.cell? ⟨w.heap.size, 2, none⟩ = some (.string nm) ∧ wx.cell? ⟨w.heap.size, 3, none⟩ = some (.string dt) ∧ wx.cell? ⟨w.heap.size, 4, none⟩ = some (.slice A m cc) ∧ wx.cell? ⟨w.heap.size + 1, 0, none⟩ = some (.bool d.allow) ∧ wx.cell? ⟨w.heap.size + 1, 1, none⟩ = some (.bool d.attrsAllow) ∧ wx.cell? ⟨w.heap.size + 1, 2, none⟩ = some (.slice A1 n1 c1) ∧ wx.cell? ⟨w.heap.size + 1, 3, none⟩ = some (.slice A2 n2 c2) ∧ wx.cell? ⟨w.heap.size + 1, 4, none⟩ = some (.slice A3 n3 c3) ∧ wx.cell? ⟨w.heap.size + 1, 5, none⟩ = some (.slice A4 n4 c4) ∧ wx.cell? ⟨w.heap.size + 1, 6, none⟩ = some (.bool d.comments) ∧ wx.cell? ⟨w.heap.size + 1, 7, none⟩ = some (.bool d.dataAttrs))) (first
    | exact HSF.out _ (bel_eq12 (Below.refl _ W) rfl rfl rfl rfl)
    | exact HSF.out _ (bel_eq12 HWT.out rfl rfl rfl rfl)
    | exact HSF.out _ (bel_eq12 HWF.out rfl rfl rfl rfl)
    | go_keep) (first
    | (go_at_call 17; (with_reducible show Calls _ _ #[_, _, .bool false] _ _); refine (HF0.out _ (by first | exact HWT.out | exact bel_eq12 (Below.refl _ W) rfl rfl rfl rfl)).mono ?_; rintro r xF ⟨BF, kF, rfl, hlF, hkF, hrF, hc, hw⟩; have HRF := Lib.hid hrF; have HLF := Lib.hid hlF; have HKF := Lib.hid hkF; have HWF := Lib.hid hw; (try have HRT := Lib.hid ((HRT.out.below hc).more hc.size)); clear hlF hkF hrF hc hw)
    | (go_at_call 17; (with_reducible show Calls _ _ #[_, _, .bool true] _ _); refine (HT0.out _ (by first | exact HWF.out | exact bel_eq12 (Below.refl _ W) rfl rfl rfl rfl)).mono ?_; rintro r xT ⟨BT, kT, rfl, hlT, hkT, hrT, hc, hw⟩; have HRT := Lib.hid hrT; have HLT := Lib.hid hlT; have HKT := Lib.hid hkT; have HWT := Lib.hid hw; (try have HRF := Lib.hid ((HRF.out.below hc).more hc.size)); clear hlT hkT hrT hc hw))
  all_goals
    have hsub1 : (attrsL d false nm (ats.take 8)).Sublist (ats.take 8) := List.filter_sublist
    have hsub2 : (attrsL d true nm (ats.take 8)).Sublist (attrsL d false nm (ats.take 8)) := by
      rw [← attrs_then d d false true d true nm (fun a => by unfold keepB; cases attrB12 d nm a.name <;> cases Rk.attrB nm a <;> rfl) (ats.take 8)]
      exact List.filter_sublist
    first
    | (have CA1 : Calls Try.prog 27 #[.slice BF (attrsL d false nm (ats.take 8)).length kF, .slice A m cc] xT (fun e w' => e = .returned (.bool true) ∧ Below xT.heap.size xT w') := (by rw [← HML.out]; exact among_any BF A kF cc _ _ xT HRF.out (HXA.out xT HWT.out).2.2.2.1 HLF.out (show (ats.take 8).length ≤ cc from (HXA.out xT HWT.out).1) HKF.out (HXA.out xT HWT.out).2.2.1 hsub1); have HCA := Lib.hid CA1; have HWZ := Lib.hid HWT.out; have g4 := (HSF.out xT HWT.out).2.2.2.2.1; have HRT := Lib.hid (show Ra xT xT.heap.size BT _ from HRT.out); clear CA1)
    | (have CA1 : Calls Try.prog 27 #[.slice BF (attrsL d false nm (ats.take 8)).length kF, .slice A m cc] xF (fun e w' => e = .returned (.bool true) ∧ Below xF.heap.size xF w') := (by rw [← HML.out]; exact among_any BF A kF cc _ _ xF HRF.out (HXA.out xF HWF.out).2.2.2.1 HLF.out (show (ats.take 8).length ≤ cc from (HXA.out xF HWF.out).1) HKF.out (HXA.out xF HWF.out).2.2.1 hsub1); have HCA := Lib.hid CA1; have HWZ := Lib.hid HWF.out; have g4 := (HSF.out xF HWF.out).2.2.2.2.1; have HRT := Lib.hid (show Ra xF xF.heap.size BT _ from HRT.out); clear CA1)
  all_goals
    have HS2 := Lib.hid hsub2
    clear hsub1 hsub2
    go_wp2_with (first
      | (go_at_call 27; (with_reducible show Calls _ _ #[.slice BF _ _, _] _ _); refine HCA.out.mono ?_; rintro r z1 ⟨rfl, hb⟩; have HZ1 := Lib.hid (HWZ.out.trans (hb.mono HWZ.out.size)); have HRF := Lib.hid ((HRF.out.below hb).more hb.size); have HRT := Lib.hid ((HRT.out.below hb).more hb.size); clear hb)
      | (go_at_call 27; (with_reducible show Calls _ _ #[.slice BT _ _, _] _ _); refine (among_any BT BF kT kF _ _ z1 HRT.out HRF.out HLT.out HLF.out HKT.out HKF.out HS2.out).mono ?_; rintro r z2 ⟨rfl, hb⟩; have HZ2 := Lib.hid (HZ1.out.trans (hb.mono HZ1.out.size)); clear hb)
      | (go_at_call 19; refine (Co.on_base (fixed13 z2) HZ2.out).mono ?_; rintro r z4 ⟨rfl, hb⟩; have HZ4 := Lib.hid hb; clear hb)
      | fail)
    go_ret
    exact ⟨rfl, HBW.out.trans (HZ4.out.mono HBW.out.size)⟩

end Go.Proofs.Ytdjkeakagmgfgaa.Cn

namespace Go.Proofs.Ytdjkeakagmgfgaa.Cn
set_option maxRecDepth 100000
set_option linter.unusedVariables false
set_option linter.unusedSimpArgs false
open Go.RowKit Ba Ro Go.ChangeShapes Go.WideShapes Go.ChangeAt Go.Deep
open Rz (Within reach_le)
section
variable {H : Type} {enc : TypeId × Value → H} {w : World}
theorem open_row {base : Nat} {v : Value} {d : DataW H} {p : List MemPlace} (hz : Within Try.prog 36 d) (hv : Value.okWide Try.prog w .any base 36 v)
    (h : ∃ fuel, DataW.trod enc Try.prog w 0 (fun _ => true) true fuel 36 v.cells.toList = some (d, p)) (hlt : ∀ z ∈ p, z.block < w.heap.size) : ∃ x : Cw, v = rowV x ∧ Att w w.heap.size x ∧ Rz.SmallR x.ro := by
  obtain ⟨cs, ys, n, rfl, hcs, hd, hp, hat⟩ := Oq.open_agg_any Try.underlying36 (by kernel_rfl) (by kernel_rfl) hv h
  obtain ⟨v0, y0, c0, g0, t0⟩ := hat 0 _ rfl
  obtain ⟨v1, y1, c1, g1, t1⟩ := hat 1 _ rfl
  obtain ⟨v2, y2, c2, g2, t2⟩ := hat 2 _ rfl
  obtain ⟨v3, y3, c3, g3, t3⟩ := hat 3 _ rfl
  obtain ⟨v4, y4, c4, g4, t4⟩ := hat 4 _ rfl
  subst hd
  have gm : ∀ {j : Nat} {y : DataW H × List MemPlace}, ys[j]? = some y → (ys.map (·.1))[j]? = some y.1 := fun h => by rw [List.getElem?_map, h]; rfl
  have lt : ∀ {j : Nat} {y : DataW H × List MemPlace}, ys[j]? = some y → ∀ z ∈ y.2, z.block < w.heap.size := fun h z hzz => hlt z (by
    rw [hp]
    exact List.mem_flatMap.2 ⟨_, List.mem_of_getElem? h, hzz⟩)
  obtain ⟨s0, e0, _, _⟩ := DataW.trod_int Try.underlying3 t0
  obtain ⟨s1, e1, _, _⟩ := DataW.trod_int Try.underlying3 t1
  obtain ⟨s2, e2, b2, _⟩ := DataW.trod_string Try.underlying9 t2
  obtain ⟨s3, e3, b3, _⟩ := DataW.trod_string Try.underlying9 t3
  obtain rfl : v0 = .int .i64 s0 := by simpa using e0
  obtain rfl : v1 = .int .i64 s1 := by simpa using e1
  obtain rfl : v2 = .string s2 := by simpa using e2
  obtain rfl : v3 = .string s3 := by simpa using e3
  have z2 := hz.part Try.underlying36 (j := 2) rfl (gm g2)
  have z3 := hz.part Try.underlying36 (j := 3) rfl (gm g3)
  have z4 := hz.part Try.underlying36 (j := 4) rfl (gm g4)
  rw [b2] at z2
  rw [b3] at z3
  obtain ⟨A, c, al, rfl, hac, hA, hcm, hra, hsh⟩ := open_attrs t4 w.heap.size (lt g4)
  refine ⟨⟨⟨s0, s1, s2, s3, al⟩, A, c⟩, ?_, ⟨hac, hA, hcm, hra, hsh⟩, reach_le z2.str, reach_le z3.str, Rz.attrs_small t4 rfl hra z4⟩
  have hcs5 : cs.size = 5 := hcs
  congr 1
  apply Array.ext_getElem?
  intro i
  match i with
  | 0 => exact c0
  | 1 => exact c1
  | 2 => exact c2
  | 3 => exact c3
  | 4 => exact c4
  | i + 5 => rw [Array.getElem?_eq_none (by omega), Array.getElem?_eq_none (by simp)]
end
end Go.Proofs.Ytdjkeakagmgfgaa.Cn
