/-
  Stage 8, in plain words: the samples that the document fixes.
  Stage 8: the law's bound: forty rows of six attributes; arguments that are rows, and their bulk.
  Stage 8, in plain words: trees behind trees, written; how long what is written is.
  Walks of stage 6: boltingref06.Same.
  Stage 6: slices that read as tokens; the calls whose answers the document fixes.
  Small laws for the statements' own texts: min of a length, a mask of an int, a cut's size. For every stage from 5 on.
  Walks of stage 6's laws TokenEnds: it returns true.
  Walks of stage 6's laws TokenComments, TokenRaw: each returns true.
  Tokens in boxes, attributes of the call's own beside them.
  Walks of stage 5: names.inElement, inAttr, every, Attr, Right.
  Walk of stage 6's law TokenBack: it returns true. Ahead of it: what a start tag of names that may be, an end tag, and texts around a tag come back as.
  Stage 8, in plain words: legal trees are such as come back.
  Walks of stage 5: bolting/names.Closes: what an element closes, and what ends the search.
  Walks of stage 5: bolting/names.Walls: what an element closes, and what ends the search.
  Walks of stage 7: the open elements from the end on (a range over a function): among, fromEnd, find.
  Walks of stage 7: closed, leftOpen, Nested, endWalls, passedOver.
  Stage 7, in plain words: rows whose texts are joined at the end are those whose texts were joined one by one; nothing of the program.
  Stage 7: a builder in memory: its open elements, its rows, each of the call's own.
-/
import Derived.Test.YtgjlfcamgkeibaaGreatDoorCk03
import Derived.Test.YtgjlfcamgkeibaaGreatDoorCk07
import Derived.Test.YtgjlfcamgkeibaaGreatDoorCk02
import Derived.Test.YtgjlfcamgkeibaaGreatDoorCk01
import Derived.Test.YtgjlfcamgkeibaaGreatDoorCk05
import Derived.Deep.CutRange
import Derived.Deep.RegionHeld3
import Derived.Test.YtgjlfcamgkeibaaGreatDoorCk06
import Derived.Deep.CutBlock
import Derived.Deep.DeepCutAuto
import Derived.RangeFuncBox
import Derived.RangeFuncLeaves
import Derived.RangeFuncCalls
import Derived.Shelf.Abstract
import Derived.OwnWalkIn
import Derived.TacticsInMore
import Derived.LoopNIn
import Derived.LoopIn
import Derived.Sort.BigQuietIn
import Derived.Maps.AppendAt
import Derived.Shelf.RegionOpen
import Derived.Deep.AppendLies
import Derived.Deep.RegionLaw
import Derived.BigRegion
import Derived.StillTailTactics
namespace Go.Proofs.YtgjlfcamgkeibaaGreatDoor.Wm
set_option linter.unusedVariables false
set_option linter.unusedSimpArgs false
open Ba Fm Rm Nm Bm
open Ro (At Ro)
open Tm (pre)
open Wr (insideB rest)
def oneR (n s : ByteArray) : List Ro := [⟨0, 0, n, ⟨#[]⟩, []⟩, ⟨1, 1, ⟨#[]⟩, s, []⟩]
theorem in_one (n s : ByteArray) (raw : Bool) : Wm.wr raw [⟨1, 1, ⟨#[]⟩, s, []⟩] = if raw = true then L s else esc false (L s) := by
  rw [wr_cons]
  have : beh (⟨1, 1, ⟨#[]⟩, s, []⟩ : Ro) [] = [] := rfl
  rw [this, wr_nil, holds_no (by decide : (1 : Int) ≠ 0), if_neg (by simp), List.append_nil, List.append_nil]
  unfold node
  rw [if_neg (by decide : ¬ (1 : Int) = 0), if_pos rfl]
theorem wr_one (n s : ByteArray) (hv : isIn n voidL = false) : insideB (oneR n s) (-1) = [60] ++ L n ++ [62] ++ ((if isIn n rawL = true then L s else esc false (L s)) ++ ([60, 47] ++ L n ++ [62])) := by
  unfold insideB
  rw [if_pos rfl]
  have hr : rest (oneR n s) (-1) 0 = oneR n s := rfl
  rw [hr]
  unfold oneR
  rw [wr_cons]
  have h1 : inn (⟨0, 0, n, ⟨#[]⟩, []⟩ : Ro) [⟨1, 1, ⟨#[]⟩, s, []⟩] = [⟨1, 1, ⟨#[]⟩, s, []⟩] := rfl
  have h2 : beh (⟨0, 0, n, ⟨#[]⟩, []⟩ : Ro) [⟨1, 1, ⟨#[]⟩, s, []⟩] = [] := rfl
  have h3 : holds (⟨0, 0, n, ⟨#[]⟩, []⟩ : Ro) = true := by unfold holds; rw [hv]; rfl
  rw [h1, h2, h3, if_pos rfl, wr_nil, List.append_nil, in_one n s]
  unfold node tagW endW
  rw [if_pos rfl, List.flatMap_nil, List.append_nil]
def ppR : List Ro := [⟨0, 0, n_p, ⟨#[]⟩, []⟩, ⟨1, 0, n_p, ⟨#[]⟩, []⟩]
end Go.Proofs.YtgjlfcamgkeibaaGreatDoor.Wm

namespace Go.Proofs.YtgjlfcamgkeibaaGreatDoor.Wr
set_option linter.unusedVariables false
set_option linter.unusedSimpArgs false
open Go.RowKit Ba Ro Wm
open Tm (bulkA)
theorem AttW.cut {w : World} {N : Nat} {x : Cw} (h : Att w N x) : Att w N (cut x (x.ro.attrs.take 6)) :=
  ⟨Nat.le_trans (List.length_take_le' _ _) h.1, h.2.1, h.2.2.1, h.2.2.2.1.take 6, fun a ha => h.2.2.2.2 a (List.mem_of_mem_take ha)⟩
def rsum (l : List Ro) : Nat := (l.map rb).sum
end Go.Proofs.YtgjlfcamgkeibaaGreatDoor.Wr

namespace Go.Proofs.YtgjlfcamgkeibaaGreatDoor.Wm
set_option linter.unusedVariables false
set_option linter.unusedSimpArgs false
open Ba Fm Rm Nm Bm
open Ro (At Ro)
open Wr (insideB rest rsum rb)
theorem rsum_append (a b : List Ro) : rsum (a ++ b) = rsum a + rsum b := by
  unfold rsum
  rw [List.map_append, List.sum_append]
theorem len_node (raw : Bool) (x : Ro) : (node raw x).length + (endW x).length ≤ 6 * rb x + 10 + (if holds x = true then 0 else (endW x).length) := by
  have h1 := Wr.len_wAs x.attrs
  have h2 := (len_esc false (L x.data)).2.1
  rw [size_L] at h2
  have he : (endW x).length = x.name.size + 3 := by
    unfold endW
    simp only [List.length_append, List.length_cons, List.length_nil, size_L]
    omega
  rw [he]
  unfold rb
  unfold node tagW
  by_cases h0 : x.kind = 0
  · rw [if_pos h0]
    simp only [List.length_append, List.length_cons, List.length_nil, size_L]
    split <;> omega
  · have hh : holds x = false := holds_no h0
    rw [if_neg h0]
    have hif : (if holds x = true then 0 else x.name.size + 3) = x.name.size + 3 := by rw [hh]; rfl
    rw [hif]
    by_cases h1 : x.kind = 1
    · rw [if_pos h1]
      cases raw with
      | true => rw [if_pos rfl, size_L]; omega
      | false => rw [if_neg (by simp)]; omega
    · rw [if_neg h1]
      by_cases h2 : x.kind = 2
      · rw [if_pos h2]
        simp only [List.length_append, List.length_cons, List.length_nil, size_L]; omega
      · rw [if_neg h2]
        simp only [List.length_nil]; omega
theorem len_wr (n : Nat) : ∀ (l : List Ro) (raw : Bool), l.length ≤ n → (wr raw l).length ≤ 6 * rsum l + 10 * l.length := by
  induction n with
  | zero =>
    intro l raw h
    obtain rfl : l = [] := List.eq_nil_of_length_eq_zero (by omega)
    rw [wr_nil]; exact Nat.zero_le _
  | succ n ih =>
    intro l raw h
    cases l with
    | nil => rw [wr_nil]; exact Nat.zero_le _
    | cons x r =>
      rw [wr_cons, List.length_append, List.length_append]
      have hp := len_parts x r
      rw [List.length_cons] at h ⊢
      have h1 := ih (inn x r) (isIn x.name rawL) (by omega)
      have h2 := ih (beh x r) raw (by omega)
      have h3 := len_node raw x
      have h4 : rsum (x :: r) = rb x + (rsum (inn x r) + rsum (beh x r)) := by
        rw [← rsum_append, inn_beh]
        unfold rsum
        rw [List.map_cons, List.sum_cons]
      rw [h4]
      cases hh : holds x with
      | true =>
        rw [hh] at h3
        rw [if_pos rfl] at h3 ⊢
        rw [List.length_append]
        omega
      | false =>
        rw [hh] at h3
        rw [if_neg (by simp)] at h3 ⊢
        simp only [List.length_nil]
        omega
theorem rest_rsum (l : List Ro) (D : Int) (s : Nat) : rsum (rest l D s) ≤ rsum l ∧ (rest l D s).length ≤ l.length := by
  have h1 := rsum_append ((l.drop s).takeWhile (deep D)) ((l.drop s).dropWhile (deep D))
  rw [List.takeWhile_append_dropWhile] at h1
  have h2 := rsum_append (l.take s) (l.drop s)
  rw [List.take_append_drop] at h2
  refine ⟨by unfold rest; omega, ?_⟩
  unfold rest
  have := (List.takeWhile_sublist (deep D) (l := l.drop s)).length_le
  rw [List.length_drop] at this
  omega
theorem len_inside (l : List Ro) (i : Int) : (insideB l i).length ≤ 6 * rsum l + 10 * l.length := by
  unfold insideB
  split
  · have h1 := len_wr _ (rest l (-1) 0) false (Nat.le_refl _)
    have h2 := rest_rsum l (-1) 0
    omega
  · split
    · split
      · rename_i x hx
        split
        · have h1 := len_wr _ (rest l x.depth (i.toNat + 1)) (isIn x.name rawL) (Nat.le_refl _)
          have h2 := rest_rsum l x.depth (i.toNat + 1)
          omega
        · exact Nat.zero_le _
      · exact Nat.zero_le _
    · exact Nat.zero_le _

theorem rest_all {l : List Ro} (h : ∀ x ∈ l, 0 ≤ x.depth) : rest l (-1) 0 = l := by
  unfold rest
  rw [List.drop_zero]
  induction l with
  | nil => rfl
  | cons x r ih =>
    rw [List.takeWhile_cons, if_pos (by unfold deep; exact decide_eq_true (by have := h x List.mem_cons_self; omega)), ih fun y hy => h y (List.mem_cons_of_mem _ hy)]
theorem inside_all {l : List Ro} (h : ∀ x ∈ l, 0 ≤ x.depth) : insideB l (-1) = wr false l := by
  unfold insideB
  rw [if_pos rfl, rest_all h]

theorem depth_right : ∀ {l : List Ro} {m : Int}, Ro.rightFrom m l = true → ∀ x ∈ l, 0 ≤ x.depth
  | [], _, _, x, hx => by cases hx
  | y :: r, m, h, x, hx => by
    rw [Ro.rightFrom] at h
    simp only [Bool.and_eq_true, decide_eq_true_eq] at h
    rcases List.mem_cons.1 hx with rfl | hx
    · exact h.1.1.1
    · exact depth_right h.2 x hx
end Go.Proofs.YtgjlfcamgkeibaaGreatDoor.Wm

namespace Go.Proofs.YtgjlfcamgkeibaaGreatDoor.To
set_option linter.unusedSimpArgs false
set_option linter.unusedVariables false
open Go.RowKit Ba Fm Fo Tm
open Ro (At acells len_acells below_new Sh Ra acells_one info_attr range2 range5)
end Go.Proofs.YtgjlfcamgkeibaaGreatDoor.To

namespace Go.Proofs.YtgjlfcamgkeibaaGreatDoor.To
set_option maxRecDepth 100000
set_option linter.unusedSimpArgs false
set_option linter.unusedVariables false
open Go.RowKit Ba Fm Fo Tm
open Ro (At acells len_acells below_new Sh Ra acells_one info_attr range2 range5 flat_at flat_len)
open Re (Tab)
def Tv (w : World) (V : Value) (t : List Tk) : Prop := ∃ A c l, V = .slice A t.length c ∧ t.length ≤ c ∧ Rr w w.heap.size A l ∧ tks l = t
theorem Tv.below {w w' : World} {V : Value} {t : List Tk} (h : Tv w V t) (hb : Below w.heap.size w w') : Tv w' V t := by
  obtain ⟨A, c, l, e, hc, hr, ht⟩ := h
  exact ⟨A, c, l, e, hc, (hr.below hb).more hb.size, ht⟩
theorem Tv.lit (w : World) (l : List Tw) (h : ∀ x ∈ l, Att w w.heap.size x) : Tv (w.alloc (.cells (l.flatMap cells).toArray 104)) (.slice (some ⟨w.heap.size, 0, none⟩) l.length l.length) (tks l) := by
  refine ⟨_, _, l, by rw [len_tks], by rw [len_tks]; exact Nat.le_refl _, ⟨fun h0 => ⟨w.heap.size, 0, rfl, by simp, fun j hj i u hu => ?_⟩, fun x hx => (h x hx).boxed (Below.refl _ _) _⟩, rfl⟩
  have hi : i < 5 := (List.getElem?_eq_some_iff.1 hu).1
  rw [World.cell?_alloc_mark]
  rw [show 0 + j * 5 + i = j * 5 + i from by omega]
  simp only [List.getElem?_toArray]
  rw [flat_at cells 5 len_cells _ _ _ hj hi]
  exact hu

end Go.Proofs.YtgjlfcamgkeibaaGreatDoor.To

namespace Go.Proofs.YtgjlfcamgkeibaaGreatDoor.Sm
set_option maxRecDepth 100000
set_option linter.unusedSimpArgs false
set_option linter.unusedVariables false
open Go.RowKit Ba
theorem min_any (x : Nat) (m : Nat) (M : Int) (hM : M = m) (w : World) : ∃ k : Nat, k ≤ x ∧ k ≤ m ∧ k = min x m ∧ ∀ ts t, (Builtin.min_ ts t #[.int .i64 x, .int .i64 M]).run Tryz.prog w = .ok (.int .i64 k) w := by
  refine ⟨min x m, by omega, by omega, rfl, fun ts t => ?_⟩
  rw [run_min_int2]
  congr 2
  split <;> omega
end Go.Proofs.YtgjlfcamgkeibaaGreatDoor.Sm

namespace Go.Proofs.YtgjlfcamgkeibaaGreatDoor.To
set_option linter.unusedSimpArgs false
set_option linter.unusedVariables false
open Go.RowKit Ba Fm Fo Tm Sm
open Re (Tab)
end Go.Proofs.YtgjlfcamgkeibaaGreatDoor.To

namespace Go.Proofs.YtgjlfcamgkeibaaGreatDoor.To
set_option linter.unusedSimpArgs false
set_option linter.unusedVariables false
open Go.RowKit Ba Fm Fo Tm Sm
open Ro (range5)
open Re (Tab)
theorem Tv.one {w : World} {V : Value} {t : Tk} (h : Tv w V [t]) : ∃ b off c x, V = .slice (some ⟨b, off, none⟩) 1 c ∧ 1 ≤ c ∧ x.tk = t ∧ b < w.heap.size ∧ w.rangeAt b off (cells x) := by
  obtain ⟨A, c, l, rfl, hc, hr, ht⟩ := h
  have hl : l.length = 1 := by rw [← len_tks, ht]; rfl
  obtain ⟨b, off, e, hb, hcells⟩ := hr.1 (by omega)
  match l, hl with
  | [x], _ =>
    refine ⟨b, off, c, x, by rw [e]; rfl, hc, by injection ht, hb, ?_⟩
    have := hcells 0 (by simp)
    simpa using this

end Go.Proofs.YtgjlfcamgkeibaaGreatDoor.To

namespace Go.Proofs.YtgjlfcamgkeibaaGreatDoor.To
set_option linter.unusedSimpArgs false
set_option linter.unusedVariables false
open Go.RowKit Ba Fm Fo Tm
open Ro (below_new At acells len_acells Sh Ra range2)
theorem Tb.f {w : World} {g : Nat} {x : Tw} (h : Tb w g x) (j : Nat) : w.frozen? ⟨g, j, none⟩ = false := by
  unfold Tb at h
  simp [World.frozen?, h]
theorem Tb.lt {w : World} {g : Nat} {x : Tw} (h : Tb w g x) : g < w.heap.size := (Array.getElem?_eq_some_iff.1 h).1
theorem Tb.below {w w' : World} {g : Nat} {x : Tw} (h : Tb w g x) (hb : Below w.heap.size w w') : Tb w' g x := (hb.block g h.lt).trans h
theorem Tb.kept {w w' : World} {g b : Nat} {x : Tw} (h : Tb w g x) (hg : w.grownBy w' (some b)) (hne : g ≠ b) : Tb w' g x := (hg.block g h.lt (by simpa using hne)).trans h
theorem Tb.other {w : World} {g b j : Nat} {x : Tw} (h : Tb w g x) (hne : g ≠ b) (u : Value) : Tb (w.setCell ⟨b, j, none⟩ u) g x := h.kept (g_set w b j u) hne
theorem Tb.set2 {w : World} {g : Nat} {x : Tw} (h : Tb w g x) (d : ByteArray) : Tb (w.setCell ⟨g, 2, none⟩ (.string d)) g ⟨⟨x.tk.kind, x.tk.name, d, x.tk.attrs, x.tk.self⟩, x.A, x.c⟩ := by
  unfold Tb at h ⊢
  simp [World.setCell, Array.getElem?_modify, h]
theorem Tb.set0 {w : World} {g : Nat} {x : Tw} (h : Tb w g x) (k : Int) : Tb (w.setCell ⟨g, 0, none⟩ (.int .i64 k)) g ⟨⟨k, x.tk.name, x.tk.data, x.tk.attrs, x.tk.self⟩, x.A, x.c⟩ := by
  unfold Tb at h ⊢
  simp [World.setCell, Array.getElem?_modify, h]
theorem Tb.set3 {w : World} {g : Nat} {x : Tw} (h : Tb w g x) (A : Option Addr) (c : Nat) (l : List At) : Tb (w.setCell ⟨g, 3, none⟩ (.slice A l.length c)) g ⟨⟨x.tk.kind, x.tk.name, x.tk.data, l, x.tk.self⟩, A, c⟩ := by
  unfold Tb at h ⊢
  simp [World.setCell, Array.getElem?_modify, h]
theorem Tb.over {w : World} {g : Nat} {y : Tw} (h : Tb w g y) (x : Tw) : Tb (((((w.setCell ⟨g, 0, none⟩ (.int .i64 x.tk.kind)).setCell ⟨g, 1, none⟩ (.string x.tk.name)).setCell ⟨g, 2, none⟩ (.string x.tk.data)).setCell ⟨g, 3, none⟩ (.slice x.A x.tk.attrs.length x.c)).setCell ⟨g, 4, none⟩ (.bool x.tk.self)) g x := by
  unfold Tb at h ⊢
  simp [World.setCell, Array.getElem?_modify, h]
abbrev T0 (k : Int) (d : ByteArray) : Tw := ⟨⟨k, ⟨#[]⟩, d, [], false⟩, none, 0⟩
theorem Tb.z {w : World} {g : Nat} {k : Int} {d : ByteArray} (h : Tb w g (T0 k d)) : w.cell? ⟨g, 0, none⟩ = some (.int .i64 k) ∧ w.cell? ⟨g, 1, none⟩ = some (.string ⟨#[]⟩) ∧ w.cell? ⟨g, 2, none⟩ = some (.string d) ∧ w.cell? ⟨g, 3, none⟩ = some (.slice none 0 0) ∧ w.cell? ⟨g, 4, none⟩ = some (.bool false) := h.c

theorem Tb.off {w w' : World} {g N : Nat} {x : Tw} {v : Value} {l : List At} (h : Tb w g x) (hv : Aw N w v l) (hg : w.grownBy w' v.ownBlock) : Tb w' g x :=
  (hg.block g h.lt (fun e => hv.ne h (by decide) e.symm)).trans h
theorem Aw.below {N : Nat} {w w' : World} {A : Option Addr} {c : Nat} {l : List At} (h : Aw N w (.slice A l.length c) l) (hb : Below w.heap.size w w') : Aw N w' (.slice A l.length c) l := Fr.below (h.fr 0 ⟨#[]⟩ ⟨#[]⟩ false) hb
theorem Tb.t {w : World} {g : Nat} {nm : ByteArray} {l : List At} {sf : Bool} {A : Option Addr} {c : Nat} (h : Tb w g ⟨⟨0, nm, ⟨#[]⟩, l, sf⟩, A, c⟩) : w.cell? ⟨g, 0, none⟩ = some (.int .i64 0) ∧ w.cell? ⟨g, 1, none⟩ = some (.string nm) ∧ w.cell? ⟨g, 2, none⟩ = some (.string ⟨#[]⟩) ∧ w.cell? ⟨g, 3, none⟩ = some (.slice A l.length c) ∧ w.cell? ⟨g, 4, none⟩ = some (.bool sf) := h.c
theorem Aw.boxes {N : Nat} {w : World} {v : Value} {l : List At} {g j : Nat} {x : Tw} (h : Aw N w v l) (hb : Tb w g x) (u : Value) : Aw N (w.setCell ⟨g, j, none⟩ u) v l := h.kept (g_set w g j u) (.inr (h.ne hb (by decide)))
theorem Aw.over {N : Nat} {w : World} {v : Value} {l : List At} {g : Nat} {y : Tw} (h : Aw N w v l) (hb : Tb w g y) (nm : ByteArray) (l' : List At) (sf : Bool) (A : Option Addr) (c : Nat) : Aw N (((((w.setCell ⟨g, 0, none⟩ (.int .i64 0)).setCell ⟨g, 1, none⟩ (.string nm)).setCell ⟨g, 2, none⟩ (.string ⟨#[]⟩)).setCell ⟨g, 3, none⟩ (.slice A l'.length c)).setCell ⟨g, 4, none⟩ (.bool sf)) v l := by
  have h1 := h.boxes hb (j := 0) (.int .i64 0)
  have b1 := hb.set0 0
  have h2 := h1.boxes b1 (j := 1) (.string nm)
  have b2 : Tb ((w.setCell ⟨g, 0, none⟩ (.int .i64 0)).setCell ⟨g, 1, none⟩ (.string nm)) g ⟨⟨0, nm, y.tk.data, y.tk.attrs, y.tk.self⟩, y.A, y.c⟩ := by
    unfold Tb at hb ⊢
    simp [World.setCell, Array.getElem?_modify, hb]
  have h3 := h2.boxes b2 (j := 2) (.string ⟨#[]⟩)
  have b3 := b2.set2 ⟨#[]⟩
  have h4 := h3.boxes b3 (j := 3) (.slice A l'.length c)
  have b4 := b3.set3 A c l'
  exact h4.boxes b4 (j := 4) (.bool sf)

end Go.Proofs.YtgjlfcamgkeibaaGreatDoor.To

namespace Go.Proofs.YtgjlfcamgkeibaaGreatDoor.Na
set_option maxRecDepth 100000
set_option linter.unusedSimpArgs false
set_option linter.unusedVariables false
open Go.RowKit Ba Fm Fo Nm
theorem u8_range {c : UInt8} : (decide ((65 : UInt8) ≤ c) && decide (c ≤ 90)) = (decide ((65 : Int) ≤ c.toNat) && decide ((c.toNat : Int) ≤ 90)) := by
  rw [Bool.eq_iff_iff]
  simp only [Bool.and_eq_true, decide_eq_true_eq, UInt8.le_iff_toNat_le]
  have e65 : (65 : UInt8).toNat = 65 := rfl
  have e90 : (90 : UInt8).toNat = 90 := rfl
  rw [e65, e90]
  omega
theorem u8_small {c : UInt8} : small c = (decide ((97 : Int) ≤ c.toNat) && decide ((c.toNat : Int) ≤ 122)) := by
  unfold small
  rw [Bool.eq_iff_iff]
  simp only [Bool.and_eq_true, decide_eq_true_eq, UInt8.le_iff_toNat_le]
  have e65 : (97 : UInt8).toNat = 97 := rfl
  have e90 : (122 : UInt8).toNat = 122 := rfl
  rw [e65, e90]
  omega

def elBAll (s : ByteArray) : Bool := (L s).all elB
def atBAll (s : ByteArray) : Bool := (L s).all atB
theorem all_snoc (p : UInt8 → Bool) (s : ByteArray) (k : Nat) (h : k < s.size) : ((L s).take (k + 1)).all p = (((L s).take k).all p && p s[k]) := by
  rw [take_snoc s k h, List.all_append]; simp
theorem all_no (p : UInt8 → Bool) (s : ByteArray) (k : Nat) (h : k < s.size) (hb : p s[k] = false) : (L s).all p = false := by
  rw [List.all_eq_false]
  exact ⟨s[k], List.getElem_mem (by rw [size_L]; exact h), by simp [hb]⟩

set_option maxHeartbeats 1000000 in
theorem inElement_any (c : UInt8) (w : World) :
    Calls Tryz.prog 191 #[.int .u8 c.toNat] w fun e w' => e = .returned (.bool (elB c)) ∧ w = w' := by
  have e0 : ((c.toNat : Int) == 0) = (c == 0) := u8_eq (b := 0)
  have e47 : ((c.toNat : Int) == 47) = (c == 47) := u8_eq (b := 47)
  have e62 : ((c.toNat : Int) == 62) = (c == 62) := u8_eq (b := 62)
  have hr := u8_range (c := c)
  have he : elB c = !(sp c || (decide ((65 : UInt8) ≤ c) && decide (c ≤ 90)) || c == 0 || c == 47 || c == 62) := rfl
  rw [hr] at he
  obtain ⟨q, hq⟩ : ∃ q, elB c = q := ⟨_, rfl⟩
  rw [hq] at he ⊢
  clear hr hq
  cases h0 : (c == 0) <;> cases h47 : (c == 47) <;> cases h62 : (c == 62)
  all_goals
    rw [h0] at e0
    rw [h47] at e47
    rw [h62] at e62
    rw [h0, h47, h62] at he
    clear h0 h47 h62
  case false.false.false =>
    cases hs : sp c <;> by_cases h1 : (65 : Int) ≤ c.toNat <;> by_cases h2 : (c.toNat : Int) ≤ 90
    all_goals
      have HE := Lib.hid he; have HS := Lib.hid hs
      clear he hs
      first
      | omega
      | (go_enter Tryz.func191, Tryz.ntmps191
         go_wp2_with (go_at_call 220; refine (space_any c _).mono ?_; rw [HS.out]; rintro e w' ⟨rfl, rfl⟩)
         go_ret
         exact ⟨ret_bool (by rw [HE.out, HS.out]; simp [h1, h2]), rfl⟩)
  all_goals
    have HE := Lib.hid he
    clear he
    go_enter Tryz.func191, Tryz.ntmps191
    go_wp2
    go_ret
    exact ⟨ret_bool (by rw [HE.out]; simp), rfl⟩

set_option maxHeartbeats 1000000 in
theorem inAttr_any (c : UInt8) (w : World) :
    Calls Tryz.prog 192 #[.int .u8 c.toNat] w fun e w' => e = .returned (.bool (atB c)) ∧ w = w' := by
  have e34 : ((c.toNat : Int) == 34) = (c == 34) := u8_eq (b := 34)
  have e39 : ((c.toNat : Int) == 39) = (c == 39) := u8_eq (b := 39)
  have e60 : ((c.toNat : Int) == 60) = (c == 60) := u8_eq (b := 60)
  have e61 : ((c.toNat : Int) == 61) = (c == 61) := u8_eq (b := 61)
  have he : atB c = (elB c && !(c == 34 || c == 39 || c == 60 || c == 61)) := rfl
  obtain ⟨q, hq⟩ : ∃ q, atB c = q := ⟨_, rfl⟩
  rw [hq] at he ⊢
  clear hq
  cases h34 : (c == 34) <;> cases h39 : (c == 39) <;> cases h60 : (c == 60) <;> cases h61 : (c == 61)
  all_goals
    rw [h34] at e34
    rw [h39] at e39
    rw [h60] at e60
    rw [h61] at e61
    rw [h34, h39, h60, h61] at he
    clear h34 h39 h60 h61
    have HE := Lib.hid he
    clear he
    go_enter Tryz.func192, Tryz.ntmps192
    go_wp2_with (go_at_call 191; refine (inElement_any c _).mono ?_; rintro e w' ⟨rfl, rfl⟩)
    go_ret
    exact ⟨ret_bool (by rw [HE.out]; simp), rfl⟩

set_option maxHeartbeats 1000000 in
theorem every_el (s : ByteArray) (w : World) (hs : s.size ≤ 140737488355328) :
    Calls Tryz.prog 190 #[.string s, .func (.func 191) #[] #[]] w fun e w' => e = .returned (.bool (elBAll s)) ∧ w = w' := by
  go_enter Tryz.func190, Tryz.ntmps190
  go_wp2
  go_loop [8] (fun i => ∃ k : Nat, i = .int .i64 k ∧ k ≤ s.size ∧ ((L s).take k).all elB = true) (fun i => s.size - (intOf i).toNat)
  case atStart => exact ⟨0, rfl, Nat.zero_le _, by simp⟩
  case round =>
    obtain ⟨k, rfl, hks, hn⟩ := hrel
    by_cases hp : k < s.size
    · have hsn := all_snoc elB s k hp
      rw [hn] at hsn
      cases hb : elB s[k] with
      | true =>
        rw [hb] at hsn
        have HB := Lib.hid hb; have HS := Lib.hid hsn; clear hb hsn hn
        go_wp2_with (go_at_call 191; refine (inElement_any s[k] _).mono ?_; rw [HB.out]; rintro e w' ⟨rfl, rfl⟩)
        go_round
        case rel => exact ⟨k + 1, by go_num, by omega, HS.out⟩
        case measure => simp [intOf]; omega
      | false =>
        have hno : elBAll s = false := all_no elB s k hp hb
        have HB := Lib.hid hb; have HN := Lib.hid hno; clear hb hsn hn hno
        go_wp2_with (go_at_call 191; refine (inElement_any s[k] _).mono ?_; rw [HB.out]; rintro e w' ⟨rfl, rfl⟩)
        go_ret
        exact ⟨ret_bool HN.out.symm, rfl⟩
    · rw [List.take_of_length_le (by rw [size_L]; omega)] at hn
      have hn : elBAll s = true := hn
      have HN := Lib.hid hn; clear hn
      go_wp2
      go_ret
      exact ⟨ret_bool HN.out.symm, rfl⟩
set_option maxHeartbeats 1000000 in
theorem every_at (s : ByteArray) (w : World) (hs : s.size ≤ 140737488355328) :
    Calls Tryz.prog 190 #[.string s, .func (.func 192) #[] #[]] w fun e w' => e = .returned (.bool (atBAll s)) ∧ w = w' := by
  go_enter Tryz.func190, Tryz.ntmps190
  go_wp2
  go_loop [8] (fun i => ∃ k : Nat, i = .int .i64 k ∧ k ≤ s.size ∧ ((L s).take k).all atB = true) (fun i => s.size - (intOf i).toNat)
  case atStart => exact ⟨0, rfl, Nat.zero_le _, by simp⟩
  case round =>
    obtain ⟨k, rfl, hks, hn⟩ := hrel
    by_cases hp : k < s.size
    · have hsn := all_snoc atB s k hp
      rw [hn] at hsn
      cases hb : atB s[k] with
      | true =>
        rw [hb] at hsn
        have HB := Lib.hid hb; have HS := Lib.hid hsn; clear hb hsn hn
        go_wp2_with (go_at_call 192; refine (inAttr_any s[k] _).mono ?_; rw [HB.out]; rintro e w' ⟨rfl, rfl⟩)
        go_round
        case rel => exact ⟨k + 1, by go_num, by omega, HS.out⟩
        case measure => simp [intOf]; omega
      | false =>
        have hno : atBAll s = false := all_no atB s k hp hb
        have HB := Lib.hid hb; have HN := Lib.hid hno; clear hb hsn hn hno
        go_wp2_with (go_at_call 192; refine (inAttr_any s[k] _).mono ?_; rw [HB.out]; rintro e w' ⟨rfl, rfl⟩)
        go_ret
        exact ⟨ret_bool HN.out.symm, rfl⟩
    · rw [List.take_of_length_le (by rw [size_L]; omega)] at hn
      have hn : atBAll s = true := hn
      have HN := Lib.hid hn; clear hn
      go_wp2
      go_ret
      exact ⟨ret_bool HN.out.symm, rfl⟩

theorem nil_size {s : ByteArray} (h : s.toList = []) : s.size = 0 := by
  rw [toList_L] at h
  rw [← size_L, h]; rfl
theorem not_nil {s : ByteArray} (h : ¬ s.size = 0) : ¬ s.toList = [] := fun e => h (nil_size e)
theorem nil_of {s : ByteArray} (h : s.size = 0) : s.toList = [] := by
  rw [toList_L]
  exact List.eq_nil_of_length_eq_zero (by rw [size_L]; exact h)
theorem attrB_nil {s : ByteArray} (h : s.size = 0) : attrB s = false := by
  unfold attrB
  rw [← toList_L, nil_of h]; rfl
theorem rightB_nil {s : ByteArray} (h : s.size = 0) : rightB s = false := by
  unfold rightB
  rw [← toList_L, nil_of h]; rfl
theorem attrB_cons {s : ByteArray} (h : ¬ s.size = 0) : attrB s = atBAll s := by
  unfold attrB atBAll
  have := drop_cons s 0 (by omega)
  rw [List.drop_zero] at this
  rw [this]; rfl
theorem rightB_cons {s : ByteArray} (h : 0 < s.size) : rightB s = (small s[0] && elBAll s) := by
  unfold rightB elBAll
  have := drop_cons s 0 h
  rw [List.drop_zero] at this
  rw [this]; rfl

set_option maxHeartbeats 1000000 in
theorem attr_any (s : ByteArray) (w : World) (hs : s.size ≤ 140737488355328) :
    Calls Tryz.prog 143 #[.string s] w fun e w' => e = .returned (.bool (attrB s)) ∧ w = w' := by
  by_cases h0 : s.size = 0
  · rw [attrB_nil h0]
    have hn := nil_of h0
    clear h0
    go_enter Tryz.func143, Tryz.ntmps143
    go_wp2
    go_ret
    exact ⟨rfl, rfl⟩
  · rw [attrB_cons h0]
    have hn := not_nil h0
    clear h0
    go_enter Tryz.func143, Tryz.ntmps143
    go_wp2_with fail
    refine (every_at s w hs).mono ?_
    rintro e w' ⟨rfl, rfl⟩
    go_wp2
    go_ret
    exact ⟨ret_bool (by simp [hn]), rfl⟩
set_option maxHeartbeats 1000000 in
theorem right_any (s : ByteArray) (w : World) (hs : s.size ≤ 140737488355328) :
    Calls Tryz.prog 142 #[.string s] w fun e w' => e = .returned (.bool (rightB s)) ∧ w = w' := by
  by_cases h0 : s.size = 0
  · rw [rightB_nil h0]
    have hn := nil_of h0
    clear h0
    go_enter Tryz.func142, Tryz.ntmps142
    go_wp2
    go_ret
    exact ⟨rfl, rfl⟩
  · have hp : 0 < s.size := by omega
    have he := rightB_cons hp
    rw [u8_small] at he
    obtain ⟨q, hq⟩ : ∃ q, rightB s = q := ⟨_, rfl⟩
    rw [hq] at he ⊢
    have hn := not_nil h0
    clear h0 hq
    have HE := Lib.hid he
    clear he
    by_cases h1 : (97 : Int) ≤ s[0].toNat <;> by_cases h2 : (s[0].toNat : Int) ≤ 122
    all_goals
      go_enter Tryz.func142, Tryz.ntmps142
      go_wp2_with (go_at_call 190; refine (every_el s _ hs).mono ?_; rintro e w' ⟨rfl, rfl⟩)
      go_ret
      refine ⟨ret_bool ?_, rfl⟩
      rw [HE.out]
      by_cases g1 : (97 : Int) ≤ s[0].toNat
      · by_cases g2 : (s[0].toNat : Int) ≤ 122
        · rw [decide_eq_true g1, decide_eq_true g2]
          first | rfl | (simp [hn]; done) | (exfalso; omega)
        · rw [decide_eq_false g2, decide_eq_true g1]
          first | rfl | (exfalso; omega)
      · rw [decide_eq_false g1]
        first | rfl | (exfalso; omega)

end Go.Proofs.YtgjlfcamgkeibaaGreatDoor.Na

namespace Go.Proofs.YtgjlfcamgkeibaaGreatDoor.Tm
set_option linter.unusedVariables false
set_option linter.unusedSimpArgs false
open Ba Fm Rm Nm
open Ro (At)
theorem el_out {c : UInt8} (h : elB c = true) : sp c = false ∧ low c = c ∧ c ≠ 47 ∧ c ≠ 62 := by
  unfold elB at h
  rw [Bool.not_eq_true'] at h
  simp only [Bool.or_eq_false_iff] at h
  obtain ⟨⟨⟨⟨h1, h2⟩, _⟩, h4⟩, h5⟩ := h
  refine ⟨h1, ?_, by simpa using h4, by simpa using h5⟩
  unfold low
  rw [if_neg]
  rintro ⟨a, b⟩
  rw [decide_eq_true a, decide_eq_true b] at h2
  cases h2
theorem el_en {c : UInt8} (h : elB c = true) : en c = false ∧ low c = c := by
  obtain ⟨h1, h2, h3, h4⟩ := el_out h
  refine ⟨?_, h2⟩
  unfold en ev
  rw [h1]
  simp [h3, h4]
theorem nm_right {n : ByteArray} (h : rightB n = true) : nmOk (L n) := by
  have hel := Nm.el_of_right h
  unfold rightB rightL at h
  cases hn : L n with
  | nil => rw [hn] at h; cases h
  | cons c r =>
    rw [hn] at h hel
    have h : (small c && (c :: r).all elB) = true := h
    rw [Bool.and_eq_true] at h
    refine ⟨?_, fun x hx => el_en (hel x hx)⟩
    show lr c = true
    have h1 := h.1
    unfold small at h1
    unfold lr
    rw [h1, Bool.or_true]
end Go.Proofs.YtgjlfcamgkeibaaGreatDoor.Tm

namespace Go.Proofs.YtgjlfcamgkeibaaGreatDoor.To
set_option linter.unusedSimpArgs false
set_option linter.unusedVariables false
open Go.RowKit Ba Fm Fo Tm Sm Nm
open Ro (below_new At acells len_acells Sh Ra range2)
open Re (Tab)
structure Bl (w wr : World) (x : Tw) (g2 g5 k : Nat) (A : Option Addr) (c : Nat) (al : List At) : Prop where
  k_le : k ≤ x.tk.attrs.length
  k6 : k ≤ 6
  b2 : Tb wr g2 x
  b5 : Tb wr g5 ⟨⟨1, x.tk.name, ⟨#[]⟩, al, x.tk.self⟩, A, c⟩
  own : Aw w.heap.size wr (.slice A al.length c) al
  bel : Below w.heap.size w wr
  len : al.length = k
  att : ∀ a ∈ al, attrB a.name = true ∧ a.name.size ≤ 1048576 ∧ a.value.size ≤ 200
  pw : al.Pairwise fun a b => a.name ≠ b.name
theorem Bl.below {w wr w' : World} {x : Tw} {g2 g5 k c : Nat} {A : Option Addr} {al : List At} (h : Bl w wr x g2 g5 k A c al) (hb : Below wr.heap.size wr w') : Bl w w' x g2 g5 k A c al :=
  ⟨h.k_le, h.k6, h.b2.below hb, h.b5.below hb, h.own.below hb, h.bel.trans (hb.mono h.bel.size), h.len, h.att, h.pw⟩
theorem Bl.drew {w wr : World} {x : Tw} {g2 g5 k c : Nat} {A : Option Addr} {al : List At} (h : Bl w wr x g2 g5 k A c al) (n : Nat) : Bl w (wr.drewN n) x g2 g5 k A c al :=
  ⟨h.k_le, h.k6, h.b2, h.b5, h.own, below_dN h.bel n, h.len, h.att, h.pw⟩
end Go.Proofs.YtgjlfcamgkeibaaGreatDoor.To

namespace Go.Proofs.YtgjlfcamgkeibaaGreatDoor.Wm
set_option linter.unusedVariables false
set_option linter.unusedSimpArgs false
open Ba Fm Rm Nm Bm
open Ro (At Ro)
open Tm (pre comm cend lead trail isEnd nmOk asOk softOr rawB softB pre_cons pre_nil)
end Go.Proofs.YtgjlfcamgkeibaaGreatDoor.Wm

namespace Go.Proofs.YtgjlfcamgkeibaaGreatDoor.Na
set_option maxRecDepth 100000
set_option linter.unusedSimpArgs false
set_option linter.unusedVariables false
open Go.RowKit Ba Fm Fo Nm
set_option maxRecDepth 100000 in
set_option maxHeartbeats 4000000 in
theorem closes_any (s : ByteArray) (w : World) : Calls Tryz.prog 251 #[.string s] w fun e w' => ∃ v, e = .returned v ∧ Sown w.heap.size w' v (closesL s) ∧ Below w.heap.size w w' := by
  by_cases h0 : s = n_li
  · obtain ⟨⟨f0, f1, f2, f3, f4, f5, f6, f7, f8, f9, f10⟩, hcl, hwl, htb, hbl⟩ := own_li h0
    rw [hcl]
    have hb := below_one w (.cells ([n_li].map sc).toArray 9)
    have hs := sown_lit w [n_li] (by decide)
    have HX := Lib.hid h0; have HTB := Lib.hid htb
    clear h0 hcl hwl htb hbl
    go_enter Tryz.func251, Tryz.ntmps251
    go_wp2
    go_ret
    exact ⟨_, rfl, hs, hb⟩
  by_cases h1 : s = n_dd
  · obtain ⟨⟨f0, f1, f2, f3, f4, f5, f6, f7, f8, f9, f10⟩, hcl, hwl, htb, hbl⟩ := own_dd h1
    rw [hcl]
    have hb := below_one w (.cells ([n_dd, n_dt].map sc).toArray 9)
    have hs := sown_lit w [n_dd, n_dt] (by decide)
    have HX := Lib.hid h1; have HTB := Lib.hid htb
    clear h0 h1 hcl hwl htb hbl
    go_enter Tryz.func251, Tryz.ntmps251
    go_wp2
    go_ret
    exact ⟨_, rfl, hs, hb⟩
  by_cases h2 : s = n_dt
  · obtain ⟨⟨f0, f1, f2, f3, f4, f5, f6, f7, f8, f9, f10⟩, hcl, hwl, htb, hbl⟩ := own_dt h2
    rw [hcl]
    have hb := below_one w (.cells ([n_dd, n_dt].map sc).toArray 9)
    have hs := sown_lit w [n_dd, n_dt] (by decide)
    have HX := Lib.hid h2; have HTB := Lib.hid htb
    clear h0 h1 h2 hcl hwl htb hbl
    go_enter Tryz.func251, Tryz.ntmps251
    go_wp2
    go_ret
    exact ⟨_, rfl, hs, hb⟩
  by_cases h3 : s = n_option
  · obtain ⟨⟨f0, f1, f2, f3, f4, f5, f6, f7, f8, f9, f10⟩, hcl, hwl, htb, hbl⟩ := own_option h3
    rw [hcl]
    have hb := below_one w (.cells ([n_option].map sc).toArray 9)
    have hs := sown_lit w [n_option] (by decide)
    have HX := Lib.hid h3; have HTB := Lib.hid htb
    clear h0 h1 h2 h3 hcl hwl htb hbl
    go_enter Tryz.func251, Tryz.ntmps251
    go_wp2
    go_ret
    exact ⟨_, rfl, hs, hb⟩
  by_cases h4 : s = n_optgroup
  · obtain ⟨⟨f0, f1, f2, f3, f4, f5, f6, f7, f8, f9, f10⟩, hcl, hwl, htb, hbl⟩ := own_optgroup h4
    rw [hcl]
    have hb := below_one w (.cells ([n_optgroup, n_option].map sc).toArray 9)
    have hs := sown_lit w [n_optgroup, n_option] (by decide)
    have HX := Lib.hid h4; have HTB := Lib.hid htb
    clear h0 h1 h2 h3 h4 hcl hwl htb hbl
    go_enter Tryz.func251, Tryz.ntmps251
    go_wp2
    go_ret
    exact ⟨_, rfl, hs, hb⟩
  by_cases h5 : s = n_tr
  · obtain ⟨⟨f0, f1, f2, f3, f4, f5, f6, f7, f8, f9, f10⟩, hcl, hwl, htb, hbl⟩ := own_tr h5
    rw [hcl]
    have hb := below_one w (.cells ([n_td, n_th, n_tr].map sc).toArray 9)
    have hs := sown_lit w [n_td, n_th, n_tr] (by decide)
    have HX := Lib.hid h5; have HTB := Lib.hid htb
    clear h0 h1 h2 h3 h4 h5 hcl hwl htb hbl
    go_enter Tryz.func251, Tryz.ntmps251
    go_wp2
    go_ret
    exact ⟨_, rfl, hs, hb⟩
  by_cases h6 : s = n_td
  · obtain ⟨⟨f0, f1, f2, f3, f4, f5, f6, f7, f8, f9, f10⟩, hcl, hwl, htb, hbl⟩ := own_td h6
    rw [hcl]
    have hb := below_one w (.cells ([n_td, n_th].map sc).toArray 9)
    have hs := sown_lit w [n_td, n_th] (by decide)
    have HX := Lib.hid h6; have HTB := Lib.hid htb
    clear h0 h1 h2 h3 h4 h5 h6 hcl hwl htb hbl
    go_enter Tryz.func251, Tryz.ntmps251
    go_wp2
    go_ret
    exact ⟨_, rfl, hs, hb⟩
  by_cases h7 : s = n_th
  · obtain ⟨⟨f0, f1, f2, f3, f4, f5, f6, f7, f8, f9, f10⟩, hcl, hwl, htb, hbl⟩ := own_th h7
    rw [hcl]
    have hb := below_one w (.cells ([n_td, n_th].map sc).toArray 9)
    have hs := sown_lit w [n_td, n_th] (by decide)
    have HX := Lib.hid h7; have HTB := Lib.hid htb
    clear h0 h1 h2 h3 h4 h5 h6 h7 hcl hwl htb hbl
    go_enter Tryz.func251, Tryz.ntmps251
    go_wp2
    go_ret
    exact ⟨_, rfl, hs, hb⟩
  by_cases h8 : s = n_tbody
  · obtain ⟨⟨f0, f1, f2, f3, f4, f5, f6, f7, f8, f9, f10⟩, hcl, hwl, htb, hbl⟩ := own_tbody h8
    rw [hcl]
    have hb := below_one w (.cells ([n_tbody, n_td, n_tfoot, n_th, n_thead, n_tr].map sc).toArray 9)
    have hs := sown_lit w [n_tbody, n_td, n_tfoot, n_th, n_thead, n_tr] (by decide)
    have HX := Lib.hid h8; have HTB := Lib.hid htb
    clear h0 h1 h2 h3 h4 h5 h6 h7 h8 hcl hwl htb hbl
    go_enter Tryz.func251, Tryz.ntmps251
    go_wp2
    go_ret
    exact ⟨_, rfl, hs, hb⟩
  by_cases h9 : s = n_tfoot
  · obtain ⟨⟨f0, f1, f2, f3, f4, f5, f6, f7, f8, f9, f10⟩, hcl, hwl, htb, hbl⟩ := own_tfoot h9
    rw [hcl]
    have hb := below_one w (.cells ([n_tbody, n_td, n_tfoot, n_th, n_thead, n_tr].map sc).toArray 9)
    have hs := sown_lit w [n_tbody, n_td, n_tfoot, n_th, n_thead, n_tr] (by decide)
    have HX := Lib.hid h9; have HTB := Lib.hid htb
    clear h0 h1 h2 h3 h4 h5 h6 h7 h8 h9 hcl hwl htb hbl
    go_enter Tryz.func251, Tryz.ntmps251
    go_wp2
    go_ret
    exact ⟨_, rfl, hs, hb⟩
  by_cases h10 : s = n_thead
  · obtain ⟨⟨f0, f1, f2, f3, f4, f5, f6, f7, f8, f9, f10⟩, hcl, hwl, htb, hbl⟩ := own_thead h10
    rw [hcl]
    have hb := below_one w (.cells ([n_tbody, n_td, n_tfoot, n_th, n_thead, n_tr].map sc).toArray 9)
    have hs := sown_lit w [n_tbody, n_td, n_tfoot, n_th, n_thead, n_tr] (by decide)
    have HX := Lib.hid h10; have HTB := Lib.hid htb
    clear h0 h1 h2 h3 h4 h5 h6 h7 h8 h9 h10 hcl hwl htb hbl
    go_enter Tryz.func251, Tryz.ntmps251
    go_wp2
    go_ret
    exact ⟨_, rfl, hs, hb⟩
  obtain ⟨⟨f0, f1, f2, f3, f4, f5, f6, f7, f8, f9, f10⟩, hcl, hwl, htb⟩ := own_none h0 h1 h2 h3 h4 h5 h6 h7 h8 h9 h10
  clear h0 h1 h2 h3 h4 h5 h6 h7 h8 h9 h10
  rw [hcl]
  have HTB := Lib.hid htb
  clear htb
  clear hcl hwl
  obtain ⟨q, hq⟩ : ∃ q, isIn s blockL = q := ⟨_, rfl⟩
  rw [hq]
  have HQ := Lib.hid hq
  clear hq
  cases q with
  | true =>
    rw [if_pos rfl]
    go_enter Tryz.func251, Tryz.ntmps251
    go_wp2_with fail
    refine (block_any s w).mono ?_
    rintro e w1 ⟨rfl, hb12⟩
    rw [HQ.out]
    have hb3 := below_one w1 (.cells ([n_p].map sc).toArray 9)
    have hs3 := sown_lit w1 [n_p] (by decide)
    go_wp2
    go_ret
    exact ⟨_, rfl, hs3.mono hb12.size, bt hb12 hb3⟩
    | false =>
    rw [if_neg (by decide)]
    go_enter Tryz.func251, Tryz.ntmps251
    go_wp2_with fail
    refine (block_any s w).mono ?_
    rintro e w1 ⟨rfl, hb12⟩
    rw [HQ.out]
    go_wp2
    go_ret
    exact ⟨_, rfl, Sown.nil _ _, hb12⟩

end Go.Proofs.YtgjlfcamgkeibaaGreatDoor.Na

namespace Go.Proofs.YtgjlfcamgkeibaaGreatDoor.Na
set_option maxRecDepth 100000
set_option linter.unusedSimpArgs false
set_option linter.unusedVariables false
open Go.RowKit Ba Fm Fo Nm
set_option maxRecDepth 100000 in
set_option maxHeartbeats 4000000 in
theorem walls_any (s : ByteArray) (w : World) : Calls Tryz.prog 236 #[.string s] w fun e w' => ∃ v, e = .returned v ∧ Sown w.heap.size w' v (wallsL s) ∧ Below w.heap.size w w' := by
  by_cases h0 : s = n_li
  · obtain ⟨⟨f0, f1, f2, f3, f4, f5, f6, f7, f8, f9, f10⟩, hcl, hwl, htb, hbl⟩ := own_li h0
    rw [hwl]
    have hb := below_one w (.cells ([n_menu, n_ol, n_template, n_ul].map sc).toArray 9)
    have hs := sown_lit w [n_menu, n_ol, n_template, n_ul] (by decide)
    have HX := Lib.hid h0; have HTB := Lib.hid htb
    clear h0 hcl hwl htb hbl
    go_enter Tryz.func236, Tryz.ntmps236
    go_wp2
    go_ret
    exact ⟨_, rfl, hs, hb⟩
  by_cases h1 : s = n_dd
  · obtain ⟨⟨f0, f1, f2, f3, f4, f5, f6, f7, f8, f9, f10⟩, hcl, hwl, htb, hbl⟩ := own_dd h1
    rw [hwl]
    have hb := below_one w (.cells ([n_dl, n_template].map sc).toArray 9)
    have hs := sown_lit w [n_dl, n_template] (by decide)
    have HX := Lib.hid h1; have HTB := Lib.hid htb
    clear h0 h1 hcl hwl htb hbl
    go_enter Tryz.func236, Tryz.ntmps236
    go_wp2
    go_ret
    exact ⟨_, rfl, hs, hb⟩
  by_cases h2 : s = n_dt
  · obtain ⟨⟨f0, f1, f2, f3, f4, f5, f6, f7, f8, f9, f10⟩, hcl, hwl, htb, hbl⟩ := own_dt h2
    rw [hwl]
    have hb := below_one w (.cells ([n_dl, n_template].map sc).toArray 9)
    have hs := sown_lit w [n_dl, n_template] (by decide)
    have HX := Lib.hid h2; have HTB := Lib.hid htb
    clear h0 h1 h2 hcl hwl htb hbl
    go_enter Tryz.func236, Tryz.ntmps236
    go_wp2
    go_ret
    exact ⟨_, rfl, hs, hb⟩
  by_cases h3 : s = n_option
  · obtain ⟨⟨f0, f1, f2, f3, f4, f5, f6, f7, f8, f9, f10⟩, hcl, hwl, htb, hbl⟩ := own_option h3
    rw [hwl]
    have hb := below_one w (.cells ([n_select, n_template].map sc).toArray 9)
    have hs := sown_lit w [n_select, n_template] (by decide)
    have HX := Lib.hid h3; have HTB := Lib.hid htb
    clear h0 h1 h2 h3 hcl hwl htb hbl
    go_enter Tryz.func236, Tryz.ntmps236
    go_wp2
    go_ret
    exact ⟨_, rfl, hs, hb⟩
  by_cases h4 : s = n_optgroup
  · obtain ⟨⟨f0, f1, f2, f3, f4, f5, f6, f7, f8, f9, f10⟩, hcl, hwl, htb, hbl⟩ := own_optgroup h4
    rw [hwl]
    have hb := below_one w (.cells ([n_select, n_template].map sc).toArray 9)
    have hs := sown_lit w [n_select, n_template] (by decide)
    have HX := Lib.hid h4; have HTB := Lib.hid htb
    clear h0 h1 h2 h3 h4 hcl hwl htb hbl
    go_enter Tryz.func236, Tryz.ntmps236
    go_wp2
    go_ret
    exact ⟨_, rfl, hs, hb⟩
  by_cases h5 : s = n_tr
  · obtain ⟨⟨f0, f1, f2, f3, f4, f5, f6, f7, f8, f9, f10⟩, hcl, hwl, htb, hbl⟩ := own_tr h5
    rw [hwl]
    have hb := below_one w (.cells ([n_table, n_template].map sc).toArray 9)
    have hs := sown_lit w [n_table, n_template] (by decide)
    have HX := Lib.hid h5; have HTB := Lib.hid htb
    clear h0 h1 h2 h3 h4 h5 hcl hwl htb hbl
    go_enter Tryz.func236, Tryz.ntmps236
    go_wp2
    go_ret
    exact ⟨_, rfl, hs, hb⟩
  by_cases h6 : s = n_td
  · obtain ⟨⟨f0, f1, f2, f3, f4, f5, f6, f7, f8, f9, f10⟩, hcl, hwl, htb, hbl⟩ := own_td h6
    rw [hwl]
    have hb := below_one w (.cells ([n_table, n_template].map sc).toArray 9)
    have hs := sown_lit w [n_table, n_template] (by decide)
    have HX := Lib.hid h6; have HTB := Lib.hid htb
    clear h0 h1 h2 h3 h4 h5 h6 hcl hwl htb hbl
    go_enter Tryz.func236, Tryz.ntmps236
    go_wp2
    go_ret
    exact ⟨_, rfl, hs, hb⟩
  by_cases h7 : s = n_th
  · obtain ⟨⟨f0, f1, f2, f3, f4, f5, f6, f7, f8, f9, f10⟩, hcl, hwl, htb, hbl⟩ := own_th h7
    rw [hwl]
    have hb := below_one w (.cells ([n_table, n_template].map sc).toArray 9)
    have hs := sown_lit w [n_table, n_template] (by decide)
    have HX := Lib.hid h7; have HTB := Lib.hid htb
    clear h0 h1 h2 h3 h4 h5 h6 h7 hcl hwl htb hbl
    go_enter Tryz.func236, Tryz.ntmps236
    go_wp2
    go_ret
    exact ⟨_, rfl, hs, hb⟩
  by_cases h8 : s = n_tbody
  · obtain ⟨⟨f0, f1, f2, f3, f4, f5, f6, f7, f8, f9, f10⟩, hcl, hwl, htb, hbl⟩ := own_tbody h8
    rw [hwl]
    have hb := below_one w (.cells ([n_table, n_template].map sc).toArray 9)
    have hs := sown_lit w [n_table, n_template] (by decide)
    have HX := Lib.hid h8; have HTB := Lib.hid htb
    clear h0 h1 h2 h3 h4 h5 h6 h7 h8 hcl hwl htb hbl
    go_enter Tryz.func236, Tryz.ntmps236
    go_wp2
    go_ret
    exact ⟨_, rfl, hs, hb⟩
  by_cases h9 : s = n_tfoot
  · obtain ⟨⟨f0, f1, f2, f3, f4, f5, f6, f7, f8, f9, f10⟩, hcl, hwl, htb, hbl⟩ := own_tfoot h9
    rw [hwl]
    have hb := below_one w (.cells ([n_table, n_template].map sc).toArray 9)
    have hs := sown_lit w [n_table, n_template] (by decide)
    have HX := Lib.hid h9; have HTB := Lib.hid htb
    clear h0 h1 h2 h3 h4 h5 h6 h7 h8 h9 hcl hwl htb hbl
    go_enter Tryz.func236, Tryz.ntmps236
    go_wp2
    go_ret
    exact ⟨_, rfl, hs, hb⟩
  by_cases h10 : s = n_thead
  · obtain ⟨⟨f0, f1, f2, f3, f4, f5, f6, f7, f8, f9, f10⟩, hcl, hwl, htb, hbl⟩ := own_thead h10
    rw [hwl]
    have hb := below_one w (.cells ([n_table, n_template].map sc).toArray 9)
    have hs := sown_lit w [n_table, n_template] (by decide)
    have HX := Lib.hid h10; have HTB := Lib.hid htb
    clear h0 h1 h2 h3 h4 h5 h6 h7 h8 h9 h10 hcl hwl htb hbl
    go_enter Tryz.func236, Tryz.ntmps236
    go_wp2
    go_ret
    exact ⟨_, rfl, hs, hb⟩
  obtain ⟨⟨f0, f1, f2, f3, f4, f5, f6, f7, f8, f9, f10⟩, hcl, hwl, htb⟩ := own_none h0 h1 h2 h3 h4 h5 h6 h7 h8 h9 h10
  clear h0 h1 h2 h3 h4 h5 h6 h7 h8 h9 h10
  rw [hwl]
  clear hcl hwl htb
  have hb3 := below_one w (.cells ([n_button, n_caption, n_table, n_td, n_template, n_th].map sc).toArray 9)
  have hs3 := sown_lit w [n_button, n_caption, n_table, n_td, n_template, n_th] (by decide)
  go_enter Tryz.func236, Tryz.ntmps236
  go_wp2
  go_ret
  exact ⟨_, rfl, hs3, hb3⟩

end Go.Proofs.YtgjlfcamgkeibaaGreatDoor.Na

namespace Go.Proofs.YtgjlfcamgkeibaaGreatDoor.Bu
set_option maxRecDepth 100000
set_option linter.unusedVariables false
set_option linter.unusedSimpArgs false
open Go.RowKit Ba Fm Fo Nm Bm Go.Shelf
attribute [local go_sem] Oper.semAt_some

set_option maxHeartbeats 400000 in
theorem among_any (A : Option Addr) (c N : Nat) (l : List ByteArray) (s : ByteArray) (w : World) (hr : Rd w N A l) (hl : l.length ≤ 8796093022208) :
    Calls Tryz.prog 235 #[.string s, .slice A l.length c] w fun e w' => e = .returned (.bool (isIn s l)) ∧ w = w' := by
  go_enter Tryz.func235, Tryz.ntmps235
  go_wp2
  go_loop [9] (fun i => ∃ k : Nat, i = .int .i64 k ∧ k ≤ l.length ∧ ¬ s ∈ l.take k) (fun i => l.length - (intOf i).toNat)
  case atStart => exact ⟨0, rfl, Nat.zero_le _, by simp⟩
  case round =>
    obtain ⟨k, rfl, hks, hn⟩ := hrel
    have HN := Lib.hid hn; clear hn
    by_cases hp : k < l.length
    · obtain ⟨b, off, rfl, _, hc⟩ := hr (by omega)
      have hcell := hc k hp
      clear hc hr
      have heq := eq_of_toList (a := l[k]) (b := s)
      by_cases he : l[k] = s
      · rw [decide_eq_true he] at heq
        have HE := Lib.hid he; clear he
        go_wp2
        go_ret
        exact ⟨ret_bool (isIn_yes (by have := HE.out; rw [← this]; exact List.getElem_mem _)).symm, rfl⟩
      · rw [decide_eq_false he] at heq
        have HE := Lib.hid he; clear he
        go_wp2
        go_round
        case rel => exact ⟨k + 1, by go_num, by omega, has_snoc l s k hp HN.out HE.out⟩
        case measure => simp [intOf]; omega
    · go_wp2
      go_ret
      refine ⟨ret_bool (isIn_no ?_).symm, rfl⟩
      have := HN.out
      rwa [List.take_of_length_le (by omega)] at this

def dn : List ByteArray → List (Nat × ByteArray)
  | [] => []
  | x :: r => (r.length, x) :: dn r
theorem dn_take {l : List ByteArray} {k : Nat} (h : k < l.length) : dn (l.take (k + 1)).reverse = (k, l[k]) :: dn (l.take k).reverse := by
  rw [rev_take (List.getElem?_eq_getElem h), dn, List.length_reverse, List.length_take, Nat.min_eq_left (Nat.le_of_lt h)]

def Kp (n₀ B1 : Nat) (W W' : World) : Prop := Below n₀ W W' ∧ W'.heap[B1]? = W.heap[B1]?
theorem Kp.t {n₀ B1 : Nat} {A B C : World} (h : Kp n₀ B1 A B) (k : Kp n₀ B1 B C) : Kp n₀ B1 A C := ⟨h.1.trans k.1, k.2.trans h.2⟩
theorem Kp.r {n₀ B1 : Nat} (A : World) : Kp n₀ B1 A A := ⟨Below.refl _ _, rfl⟩
theorem Kp.b {n₀ B1 : Nat} {w : World} (hn : n₀ ≤ w.heap.size) (h1 : B1 < w.heap.size) (W : World) (l : Nat) (o o' : Obj) (hl : w.heap.size ≤ l) (h : W.heap[l]? = some o) (hc : o.isCells = false) (hw : o.isWalk = false) : Kp n₀ B1 W (W.putObj l o') :=
  ⟨belowK_b hn W l o o' hl h hc hw, World.putObj_heap_other (by omega)⟩
theorem boxB {W : World} {B : Nat} {t : TypeId} {v : Value} {W' : World} (h : Boxed W B t v) (hk : W'.heap[B]? = W.heap[B]?) : Boxed W' B t v := hk.trans h

set_option maxRecDepth 100000 in
set_option maxHeartbeats 2000000 in
theorem from1_in (n : Nat) (hn : 1 ≤ n) (lp B1 n₀ : Nat) (A : Option Addr) (c : Nat) (l : List ByteArray) (J Jx : List (Nat × ByteArray) → World → Prop) (hm : l.length ≤ 1000000)
    (hY : ∀ pre (x : Nat × ByteArray) W, J pre W → pre.length < l.length → YieldAt Fence.wide (n - 1) Tryz.prog lp #[.int .i64 (x.1 : Nat), .string x.2] W fun e W' =>
      (e = .returned (.bool true) ∧ J (pre ++ [x]) W' ∧ Kp n₀ B1 W W') ∨ (e = .returned (.bool false) ∧ Jx (pre ++ [x]) W'))
    (W : World) (hn₀ : n₀ ≤ W.heap.size) (hb1 : Boxed W B1 23 (.slice A l.length c)) (hr : Rd W n₀ A l) (h0 : J [] W) :
    CallsIn Fence.wide n Tryz.prog 252 #[.func (.yield lp) #[] #[], .pointer (some ⟨B1, 0, none⟩)] W fun e W' => (∃ v, e = .returned v) ∧
      ((∃ ys, ys = dn l.reverse ∧ J ys W') ∨ (∃ pre, pre <+: dn l.reverse ∧ Jx pre W')) := by
  have c1 := hb1.cell
  obtain ⟨xs, hxs⟩ : ∃ xs, dn l.reverse = xs := ⟨_, rfl⟩
  have hx0 : dn (l.take l.length).reverse = xs := by rw [List.take_length]; exact hxs
  have hlen0 : xs.length = l.length := by
    have : ∀ s : List ByteArray, (dn s).length = s.length := fun s => by
      induction s with
      | nil => rfl
      | cons x r ih => rw [dn, List.length_cons, List.length_cons, ih]
    rw [← hxs, this, List.length_reverse]
  rw [hxs]
  obtain ⟨F, hF⟩ : ∃ F, Fence.wide = F := ⟨_, rfl⟩
  rw [hF] at hY ⊢
  have hfn : ∀ f, F.fn f := hF ▸ fun _ => trivial
  have hro : F.round = none := hF ▸ rfl
  have h52 := hfn 252
  clear hF hfn
  have HX0 := Lib.hid hx0; have HXS := Lib.hid hxs; have HY := Lib.hid hY; have HL := Lib.hid hlen0
  clear hx0 hxs hY hlen0
  refine callsIn_of_wp Tryz.func252 rfl h52 ?_ hro
  simp only [Tryz.ntmps252, List.size_toArray, List.length_cons, List.length_nil, Nat.reduceAdd, Nat.reduceSub, Array.replicate_succ, Array.replicate_zero, List.push_toArray, List.append_toArray, List.nil_append, List.cons_append]
  gi_wp2
  gi_loopw [3] (fun v wr => ∃ (k : Nat) (i : Int) (pre : List (Nat × ByteArray)), v = .int .i64 i ∧ i + 1 = k ∧ k ≤ l.length ∧ xs = pre ++ dn (l.take k).reverse ∧ J pre wr ∧ n₀ ≤ wr.heap.size ∧ Boxed wr B1 23 (.slice A l.length c) ∧ Rd wr n₀ A l) (fun v _ => (intOf v + 1).toNat)
  case atStart => exact ⟨l.length, _, [], rfl, by omega, Nat.le_refl _, HX0.out.symm, h0, hn₀, hb1, hr⟩
  case round =>
    clear HX0 c1 hb1 hr h0
    obtain ⟨k, i, pre, rfl, hi, hk, hxp, hJs, hnw, hb1, hr⟩ := hrel
    have c1 := hb1.cell
    by_cases hp : 0 < k
    · obtain ⟨m, rfl⟩ : ∃ m, k = m + 1 := ⟨k - 1, by omega⟩
      obtain rfl : i = (m : Int) := by omega
      obtain ⟨b, off, rfl, hb, hc⟩ := hr (by omega)
      have hcell := hc m (by omega)
      rw [dn_take (by omega)] at hxp
      have hlen : pre.length < l.length := by rw [← HL.out, hxp]; simp
      obtain ⟨fn, tmps, assign, body, hy, hR⟩ := HY.out pre (m, l[m]) wr hJs hlen
      have HXP := Lib.hid hxp
      have hge : decide ((0 : Int) ≤ (m : Int)) = true := decide_eq_true (by omega)
      clear hxp hlen
      gi_wp2
      refine hR.mono ?_
      rintro e W3 (⟨rfl, hJ3, hk3⟩ | ⟨rfl, hJx3⟩)
      · gi_wp2
        go_roundw
        case rel => exact ⟨m, _, pre ++ [(m, l[m])], rfl, by omega, by omega, by rw [HXP.out, List.append_assoc]; rfl, hJ3, Nat.le_trans hnw hk3.1.size, boxB hb1 hk3.2, hr.below hk3.1 (Nat.le_refl _)⟩
        case measure => simp [intOf]
      · gi_wp2
        refine bodyPost_ret (results_none rfl _ _ _) rfl ?_
        exact ⟨⟨_, rfl⟩, .inr ⟨pre ++ [(m, l[m])], ⟨dn (l.take m).reverse, by rw [HXP.out, List.append_assoc]; rfl⟩, hJx3⟩⟩
    · obtain rfl : k = 0 := by omega
      obtain rfl : i = -1 := by omega
      have HXP := Lib.hid hxp
      clear hxp
      gi_wp2
      go_end0
      exact ⟨⟨_, rfl⟩, .inl ⟨pre, by rw [HXP.out]; exact (List.append_nil _).symm, hJs⟩⟩

theorem fromEnd_any (A : Option Addr) (n c : Nat) (w : World) :
    Calls Tryz.prog 234 #[.slice A n c] w fun e w' => e = .returned (.func (.func 252) #[] #[.pointer (some ⟨w.heap.size, 0, none⟩)]) ∧ w' = w.alloc (.cells #[.slice A n c] 23) := by
  go_enter Tryz.func234, Tryz.ntmps234
  go_wp2
  go_ret
  exact ⟨rfl, rfl⟩

theorem from_stops (n : Nat) (hn : 1 ≤ n) (B1 n₀ : Nat) (A : Option Addr) (c : Nat) (l : List ByteArray) (hm : l.length ≤ 1000000) (w : World) (hn₀ : n₀ ≤ w.heap.size) (hb1 : Boxed w B1 23 (.slice A l.length c)) (hr : Rd w n₀ A l) :
    SeqStopsK Fence.wide n Tryz.prog 252 #[.pointer (some ⟨B1, 0, none⟩)] (fun x : Nat × ByteArray => #[.int .i64 (x.1 : Nat), .string x.2]) (Kp n₀ B1) (fun ys => ys = dn l.reverse) (fun pre => pre <+: dn l.reverse) l.length w := fun lp J Jx W hW hJ _ hY h0 =>
  from1_in n hn lp B1 n₀ A c l J Jx hm hY W (Nat.le_trans hn₀ hW.size) (boxB hb1 (hW.block B1 hb1.lt)) (hr.below hW hn₀) h0

def idx (ns ws o : List ByteArray) : Int := match findS ns ws o.reverse with | some r => (r.length : Nat) | none => -1
def past (ns ws : List ByteArray) (p : Nat × ByteArray) : Prop := isIn p.2 ns = false ∧ isIn p.2 ws = false
theorem dn_split {ns ws : List ByteArray} : ∀ {s : List ByteArray} {q t : List (Nat × ByteArray)}, dn s = q ++ t → (∀ p ∈ q, past ns ws p) → ∃ r, dn r = t ∧ findS ns ws s = findS ns ws r
  | s, [], t, h, _ => ⟨s, h, rfl⟩
  | [], p :: q, t, h, _ => by cases h
  | x :: s, p :: q, t, h, hp => by
    rw [dn, List.cons_append] at h
    injection h with h1 h2
    obtain ⟨r, e1, e2⟩ := dn_split h2 fun y hy => hp y (List.mem_cons_of_mem _ hy)
    have hx := hp p List.mem_cons_self
    rw [← h1] at hx
    exact ⟨r, e1, by rw [findS_past s hx.1 hx.2, e2]⟩
theorem idx_none {ns ws o : List ByteArray} (h : ∀ p ∈ dn o.reverse, past ns ws p) : idx ns ws o = -1 := by
  obtain ⟨r, e1, e2⟩ := dn_split (ns := ns) (ws := ws) (s := o.reverse) (q := dn o.reverse) (t := []) (by rw [List.append_nil]) h
  unfold idx
  rw [e2]
  cases r with
  | nil => rfl
  | cons x r => cases e1
theorem idx_stop {ns ws o : List ByteArray} {q t : List (Nat × ByteArray)} {x : Nat × ByteArray} (h : dn o.reverse = q ++ x :: t) (hq : ∀ p ∈ q, past ns ws p) (hx : isIn x.2 ns = false → isIn x.2 ws = true) :
    idx ns ws o = if isIn x.2 ns = true then (x.1 : Int) else -1 := by
  obtain ⟨r, e1, e2⟩ := dn_split h hq
  unfold idx
  rw [e2]
  cases r with
  | nil => cases e1
  | cons y r =>
    rw [dn] at e1
    injection e1 with e1 _
    subst e1
    cases hn : isIn y ns with
    | true => rw [findS_hit r hn]; rfl
    | false => rw [findS_wall r hn (hx hn)]; rfl

theorem box_own {W W' : World} {B n : Nat} {t : TypeId} {v : Value} {row : Option Nat} (h : Boxed W B t v) (hg : W.grownBy W' row) (hr : ∀ r, row = some r → n ≤ r ∧ ∃ o : Obj, W.heap[r]? = some o ∧ o.isCells = false) : Boxed W' B t v :=
  h.kept hg fun e => by
    obtain ⟨_, o, ho, hc⟩ := hr B e.symm
    rw [show W.heap[B]? = _ from h] at ho
    cases ho
    cases hc
def Fl (w : World) (ns ws : List ByteArray) (v1 v2 : Value) (pre : List (Nat × ByteArray)) (W : World) : Prop :=
  Boxed W w.heap.size 23 v1 ∧ Boxed W (w.heap.size + 1) 23 v2 ∧ Boxed W (w.heap.size + 1 + 1) 3 (.int .i64 0) ∧ Below w.heap.size w W ∧ w.heap.size + 1 + 1 + 1 + 1 ≤ W.heap.size ∧ ∀ p ∈ pre, past ns ws p
def Fx (w : World) (ns ws : List ByteArray) (c : Code) (pre : List (Nat × ByteArray)) (W : World) : Prop :=
  c = .ret ∧ ∃ q x, pre = q ++ [x] ∧ (∀ p ∈ q, past ns ws p) ∧ (isIn x.2 ns = false → isIn x.2 ws = true) ∧ Boxed W (w.heap.size + 1 + 1) 3 (.int .i64 (if isIn x.2 ns = true then (x.1 : Int) else -1)) ∧ Below w.heap.size w W
theorem Fl.own (w : World) (ns ws : List ByteArray) (v1 v2 : Value) (n : Nat) (hn : w.heap.size ≤ n) : OwnFrom n (Fl w ns ws v1 v2) := fun s W W' row hs hg hr =>
  ⟨box_own hs.1 hg hr, box_own hs.2.1 hg hr, box_own hs.2.2.1 hg hr, hs.2.2.2.1.grown hg hs.2.2.2.1.size (fun k hk => Nat.le_trans hn (hr k hk).1), Nat.le_trans hs.2.2.2.2.1 hg.size, hs.2.2.2.2.2⟩
theorem Fx.own (w : World) (ns ws : List ByteArray) (c : Code) (n : Nat) (hn : w.heap.size ≤ n) : OwnFrom n (Fx w ns ws c) := fun s W W' row hs hg hr => by
  obtain ⟨hc, q, x, e1, e2, e3, h2, h3⟩ := hs
  exact ⟨hc, q, x, e1, e2, e3, box_own h2 hg hr, h3.grown hg h3.size (fun k hk => Nat.le_trans hn (hr k hk).1)⟩

theorem among1 (A : Option Addr) (c N n : Nat) (l : List ByteArray) (s : ByteArray) (w : World) (hr : Rd w N A l) (hl : l.length ≤ 1000) (q : Bool) (hq : isIn s l = q) (hn : n = l.length) :
    Calls Tryz.prog 235 #[.string s, .slice A n c] w fun e w' => e = .returned (.bool q) ∧ w = w' := by
  subst hq; subst hn
  exact among_any A c N l s w hr (by omega)

set_option maxRecDepth 100000 in
set_option maxHeartbeats 4000000 in
theorem find_any (A A1 A2 : Option Addr) (c c1 c2 : Nat) (l ns ws : List ByteArray) (w : World) (hm : l.length ≤ 1000000) (hr : Rd w w.heap.size A l) (hr1 : Rd w w.heap.size A1 ns) (hr2 : Rd w w.heap.size A2 ws) (hn1 : ns.length ≤ 1000) (hn2 : ws.length ≤ 1000) :
    Calls Tryz.prog 208 #[.slice A l.length c, .slice A1 ns.length c1, .slice A2 ws.length c2] w fun e w' => e = .returned (.int .i64 (idx ns ws l)) ∧ Below w.heap.size w w' := by
  have x0 := Boxed.new w 23 (.slice A1 ns.length c1)
  replace x0 := Lib.hid (((x0.alloc (.cells #[.slice A2 ws.length c2] 23)).alloc (.cells #[.int .i64 0] 3)).alloc (.cells #[.slice A l.length c] 23))
  have x1 := Boxed.new (w.alloc (.cells #[.slice A1 ns.length c1] 23)) 23 (.slice A2 ws.length c2)
  rw [World.size_alloc] at x1
  replace x1 := Lib.hid ((x1.alloc (.cells #[.int .i64 0] 3)).alloc (.cells #[.slice A l.length c] 23))
  have x2 := Boxed.new ((w.alloc (.cells #[.slice A1 ns.length c1] 23)).alloc (.cells #[.slice A2 ws.length c2] 23)) 3 (.int .i64 0)
  rw [World.size_alloc, World.size_alloc] at x2
  replace x2 := Lib.hid (x2.alloc (.cells #[.slice A l.length c] 23))
  have x3 := Boxed.new (((w.alloc (.cells #[.slice A1 ns.length c1] 23)).alloc (.cells #[.slice A2 ws.length c2] 23)).alloc (.cells #[.int .i64 0] 3)) 23 (.slice A l.length c)
  rw [World.size_alloc, World.size_alloc, World.size_alloc] at x3
  replace x3 := Lib.hid x3
  have hB0 := ((((below_one w (.cells #[.slice A1 ns.length c1] 23)).alloc (by simp <;> omega) (.cells #[.slice A2 ws.length c2] 23)).alloc (by simp <;> omega) (.cells #[.int .i64 0] 3)).alloc (by simp <;> omega) (.cells #[.slice A l.length c] 23))
  have HR := Lib.hid (hr.below hB0 (Nat.le_refl _))
  have HR1 := Lib.hid hr1; have HR2 := Lib.hid hr2
  have HB0 := Lib.hid hB0
  clear hB0 hr hr1 hr2
  refine (callsIn_wide (n := 4)).1 ?_
  refine callsIn_of_wp_marks Tryz.func208 rfl trivial ?_ rfl
  simp only [Tryz.ntmps208, List.size_toArray, List.length_cons, List.length_nil, Nat.reduceAdd, Nat.reduceSub, Array.replicate_succ, Array.replicate_zero, List.push_toArray, List.append_toArray, List.nil_append, List.cons_append]
  gi_wp2_with (refine ⟨trivial, ?_⟩; gi_at_call 234; refine (callsIn_wide.2 (fromEnd_any A _ c _)).mono ?_; rintro e w' ⟨rfl, rfl⟩)
  refine wpIn_rangeFunc_ownG rfl (by omega) (gf := 252) (lb := #[.pointer (some ⟨w.heap.size + 1 + 1 + 1, 0, none⟩)]) rfl trivial (enters_of Tryz.func252 (by kernel_rfl) rfl)
    (from_stops (4 - 1) (by omega) (w.heap.size + 1 + 1 + 1) w.heap.size A c l hm _ (by simp <;> omega) x3.out HR.out) Kp.t (Kp.b (by simp <;> omega) (by simp <;> omega)) (Below.refl _ _) (fun _ => rfl)
    (Fl w ns ws (.slice A1 ns.length c1) (.slice A2 ws.length c2)) (Fx w ns ws) (Fl.own w ns ws _ _ _ (by simp <;> omega)) (fun c => Fx.own w ns ws c _ (by simp <;> omega))
    ⟨x0.out, x1.out, x2.out, HB0.out, by simp, fun p hp => by cases hp⟩
    (fun x => { tmps := #[.slice A l.length c, .slice A1 ns.length c1, .slice A2 ws.length c2, undef, .pointer (some ⟨w.heap.size, 0, none⟩), .pointer (some ⟨w.heap.size + 1, 0, none⟩), .pointer (some ⟨w.heap.size + 1 + 1, 0, none⟩), .int .i64 (x.1 : Nat), .string x.2, .slice A l.length c, .func (.func 252) #[] #[.pointer (some ⟨w.heap.size + 1 + 1 + 1, 0, none⟩)], .int .i64 (x.1 : Nat), .string x.2, undef, undef, undef, undef, undef, undef, undef, undef, undef], defers := [] }) ?assign ?body ?done ?stop
  case assign =>
    intro l x W K hK
    gi_wp2
    exact hK
  case body =>
    rintro lp pre x W ⟨b0, b1, b2, hB, hsz, hps⟩ hlt
    have k0 := b0.cell
    have k1 := b1.cell
    have k2 := b2.cell
    have f2 := b2.frozen
    have hw1 := HR1.out.below hB (Nat.le_refl _)
    have hw2 := HR2.out.below hB (Nat.le_refl _)
    have HW1 := Lib.hid hw1; have HW2 := Lib.hid hw2
    clear hw1 hw2
    cases hx : isIn x.2 ns with
    | true =>
      have HX := Lib.hid hx
      clear hx
      gi_wp2_with (refine ⟨trivial, ?_⟩; gi_at_call 235; refine (CallsIn.inRound lp (callsIn_wide.2 (among1 A1 c1 _ _ ns x.2 W HW1.out hn1 true HX.out rfl))).mono ?_; rintro e w' ⟨rfl, rfl⟩)
      exact ⟨(KeepsOthers.setCell _ _ _).from _, rfl, pre, x, rfl, hps, (fun e => by rw [HX.out] at e; cases e), by rw [HX.out, if_pos rfl]; exact b2.set _, hB.setCell (p := ⟨w.heap.size + 1 + 1, 0, none⟩) (by show w.heap.size ≤ w.heap.size + 1 + 1; omega) _⟩
    | false =>
    cases hy : isIn x.2 ws with
    | true =>
      have HX := Lib.hid hx; have HY := Lib.hid hy
      clear hx hy
      gi_wp2_with fail
      refine ⟨trivial, ?_⟩
      gi_at_call 235
      refine (CallsIn.inRound lp (callsIn_wide.2 (among1 A1 c1 _ _ ns x.2 W HW1.out hn1 false HX.out rfl))).mono ?_
      rintro e w' ⟨rfl, rfl⟩
      gi_wp2_with fail
      refine ⟨trivial, ?_⟩
      gi_at_call 235
      refine (CallsIn.inRound lp (callsIn_wide.2 (among1 A2 c2 _ _ ws x.2 W HW2.out hn2 true HY.out rfl))).mono ?_
      rintro e w' ⟨rfl, rfl⟩
      gi_wp2
      exact ⟨(KeepsOthers.setCell _ _ _).from _, rfl, pre, x, rfl, hps, (fun _ => HY.out), by rw [HX.out, if_neg (by simp)]; exact b2.set _, hB.setCell (p := ⟨w.heap.size + 1 + 1, 0, none⟩) (by show w.heap.size ≤ w.heap.size + 1 + 1; omega) _⟩
    | false =>
      have HX := Lib.hid hx; have HY := Lib.hid hy
      clear hx hy
      gi_wp2_with fail
      refine ⟨trivial, ?_⟩
      gi_at_call 235
      refine (CallsIn.inRound lp (callsIn_wide.2 (among1 A1 c1 _ _ ns x.2 W HW1.out hn1 false HX.out rfl))).mono ?_
      rintro e w' ⟨rfl, rfl⟩
      gi_wp2_with fail
      refine ⟨trivial, ?_⟩
      gi_at_call 235
      refine (CallsIn.inRound lp (callsIn_wide.2 (among1 A2 c2 _ _ ws x.2 W HW2.out hn2 false HY.out rfl))).mono ?_
      rintro e w' ⟨rfl, rfl⟩
      gi_wp2
      exact ⟨KeepsFrom.refl _ _, Kp.r _, b0, b1, b2, hB, hsz, fun p hp => by
        rcases List.mem_append.1 hp with e | e
        · exact hps p e
        · rw [List.mem_singleton.1 e]; exact ⟨HX.out, HY.out⟩⟩
  case done =>
    rintro D ys W hD rfl ⟨b0, b1, b2, hB, hsz, hps⟩ hK
    have k2 := b2.cell
    have f2 := b2.frozen
    have HI := Lib.hid (idx_none hps)
    gi_wp2
    refine ⟨by simp, .inl ⟨_, _, rfl, run_takeDeferred (show (W.setCell ⟨w.heap.size + 1 + 1, 0, none⟩ _).heap[D]? = _ from (Below.heap_setCell W ⟨w.heap.size + 1 + 1, 0, none⟩ _ D (by have := hD; simp at this; show D ≠ w.heap.size + 1 + 1; omega)).trans hK), ?_⟩⟩
    have hK' : (W.setCell ⟨w.heap.size + 1 + 1, 0, none⟩ (.int .i64 (-1))).heap[D]? = some (.deferred (some [])) := (Below.heap_setCell W ⟨w.heap.size + 1 + 1, 0, none⟩ _ D (by have := hD; simp at this; show D ≠ w.heap.size + 1 + 1; omega)).trans hK
    have q2 := cell_kept (b2.set (.int .i64 (-1))).cell (grownBy_putObj' _ D (.deferred none)) (fun r e => by cases e; exact ⟨_, hK', rfl⟩)
    refine ⟨.int .i64 (-1), ?_, by rw [HI.out], (hB.setCell (p := ⟨w.heap.size + 1 + 1, 0, none⟩) (by show w.heap.size ≤ w.heap.size + 1 + 1; omega) _).trans (belowK_b (w := w) (Nat.le_refl _) _ D _ _ (by have := hD; simp at this; omega) hK' rfl rfl)⟩
    simp [results, Tryz.f208, go_sem, q2]
  case stop =>
    rintro D c pre W hD hpre ⟨rfl, q, x, rfl, hq, hx, b2, hB⟩ hK
    obtain ⟨t, ht⟩ := hpre
    have HI := Lib.hid (idx_stop (o := l) (t := t) (by rw [← ht, List.append_assoc]; rfl) hq hx)
    gi_wp2
    refine ⟨by simp, .inl ⟨_, _, rfl, run_takeDeferred hK, ?_⟩⟩
    have q2 := cell_kept b2.cell (grownBy_putObj' _ D (.deferred none)) (fun r e => by cases e; exact ⟨_, hK, rfl⟩)
    refine ⟨.int .i64 (if isIn x.2 ns = true then (x.1 : Int) else -1), ?_, by rw [HI.out], hB.trans (belowK_b (w := w) (Nat.le_refl _) W D _ _ (by have := hD; simp at this; omega) hK rfl rfl)⟩
    simp [results, Tryz.f208, go_sem, q2]

end Go.Proofs.YtgjlfcamgkeibaaGreatDoor.Bu

namespace Go.Proofs.YtgjlfcamgkeibaaGreatDoor.Bu
set_option maxRecDepth 100000
set_option linter.unusedVariables false
set_option linter.unusedSimpArgs false
open Go.RowKit Ba Fm Fo Nm Bm
theorem closes_len (n : ByteArray) : (closesL n).length ≤ 1000 := by
  have : ∀ q : List ByteArray, closesL n = q → q.length ≤ 1000 := fun q h => by
    unfold closesL at h
    subst h
    repeat' split
    all_goals decide
  exact this _ rfl
theorem walls_len (n : ByteArray) : (wallsL n).length ≤ 1000 := by
  have : ∀ q : List ByteArray, wallsL n = q → q.length ≤ 1000 := fun q h => by
    unfold wallsL at h
    subst h
    repeat' split
    all_goals decide
  exact this _ rfl
theorem idx_take {ns ws o : List ByteArray} : (idx ns ws o = -1 ∧ findS ns ws o.reverse = none) ∨ (∃ k : Nat, idx ns ws o = k ∧ k < o.length ∧ findS ns ws o.reverse = some (o.take k).reverse) := by
  unfold idx
  cases h : findS ns ws o.reverse with
  | none => exact .inl ⟨rfl, rfl⟩
  | some r =>
    obtain ⟨e, hl⟩ := found_take h
    exact .inr ⟨r.length, rfl, hl, by rw [← e]⟩

theorem find1 (V V1 V2 : Value) (M : Nat) (l ns ws : List ByteArray) (w : World) (hm : l.length ≤ 1000000) (A : Option Addr) (c : Nat) (hV : V = .slice A l.length c) (hr : Rd w w.heap.size A l) (h1 : Sv w w.heap.size V1 ns) (h2 : Sv w w.heap.size V2 ws) (hn1 : ns.length ≤ 1000) (hn2 : ws.length ≤ 1000) (i : Int) (hi : idx ns ws l = i) :
    Calls Tryz.prog 208 #[V, V1, V2] w fun e w' => e = .returned (.int .i64 i) ∧ Below w.heap.size w w' := by
  obtain ⟨A1, c1, rfl, _, _, hr1⟩ := h1
  obtain ⟨A2, c2, rfl, _, _, hr2⟩ := h2
  subst hV; subst hi
  exact find_any A A1 A2 c c1 c2 l ns ws w hm hr hr1 hr2 hn1 hn2

set_option maxRecDepth 100000 in
set_option maxHeartbeats 1000000 in
theorem closed_any (A : Option Addr) (c : Nat) (l : List ByteArray) (n : ByteArray) (w : World) (hm : l.length ≤ 1000000) (hc : l.length ≤ c) (hr : Rd w w.heap.size A l) :
    Calls Tryz.prog 233 #[.slice A l.length c, .string n] w fun e w' => ∃ k : Nat, e = .returned (.slice A k c) ∧ k ≤ l.length ∧ (l.take k).reverse = closedS (closesL n) (wallsL n) l.reverse ∧ Below w.heap.size w w' := by
  have hL1 := closes_len n
  have hL2 := walls_len n
  go_enter Tryz.func233, Tryz.ntmps233
  go_wp2_with fail
  refine (Na.closes_any n w).mono ?_
  rintro e w1 ⟨V1, rfl, s1, b1⟩
  go_wp2_with fail
  refine (Na.walls_any n w1).mono ?_
  rintro e w2 ⟨V2, rfl, s2, b2⟩
  have v1 : Sv w2 w2.heap.size V1 (closesL n) := sv_own (s1.below b2 (Nat.le_refl _))
  have v2 : Sv w2 w2.heap.size V2 (wallsL n) := sv_own s2
  have B2 := bt b1 b2
  have hr2 : Rd w2 w2.heap.size A l := (hr.below B2 (Nat.le_refl _)).more B2.size
  have HV1 := Lib.hid v1; have HV2 := Lib.hid v2; have HB2 := Lib.hid B2; have HR2 := Lib.hid hr2
  clear v1 v2 s1 s2 b1 b2 B2 hr hr2
  obtain ⟨i, hi⟩ : ∃ i, idx (closesL n) (wallsL n) l = i := ⟨_, rfl⟩
  go_wp2_with fail
  refine (find1 _ V1 V2 0 l (closesL n) (wallsL n) w2 hm A c rfl HR2.out HV1.out HV2.out hL1 hL2 i hi).mono ?_
  rintro e w3 ⟨rfl, b3⟩
  have HI := Lib.hid hi
  have HB3 := Lib.hid b3
  clear hi b3
  go_wp2
  go_loopw [0, 7] (fun v x wr => ∃ (k : Nat) (j : Int), v = .slice A k c ∧ x = .int .i64 j ∧ k ≤ l.length ∧ idx (closesL n) (wallsL n) (l.take k) = j ∧ closedS (closesL n) (wallsL n) (l.take k).reverse = closedS (closesL n) (wallsL n) l.reverse ∧ Below w2.heap.size w2 wr) (fun v _ _ => lenOf v)
  case atStart => exact ⟨l.length, i, rfl, rfl, Nat.le_refl _, by rw [List.take_length]; exact HI.out, by rw [List.take_length], HB3.out⟩
  case round =>
    obtain ⟨k, j, rfl, rfl, hk, hj, hcl, hb⟩ := hrel
    rcases idx_take (ns := closesL n) (ws := wallsL n) (o := l.take k) with ⟨e1, e2⟩ | ⟨m, e1, hmk, e2⟩
    · rw [hj] at e1
      subst e1
      rw [closedS_no e2] at hcl
      have HC := Lib.hid hcl; have HB := Lib.hid hb
      clear hcl hb hj e2
      go_wp2
      go_ret
      exact ⟨k, rfl, hk, HC.out, bt HB2.out HB.out⟩
    · rw [hj] at e1
      subst e1
      have hlk : (l.take k).length = k := by rw [List.length_take]; omega
      rw [hlk] at hmk
      have et : (l.take k).take m = l.take m := by rw [List.take_take, Nat.min_eq_left (by omega)]
      rw [closedS_yes e2, et] at hcl
      have hge : decide ((0 : Int) ≤ (m : Int)) = true := decide_eq_true (by omega)
      have hr3 : Rd wr wr.heap.size A (l.take m) := ((HR2.out.below hb (Nat.le_refl _)).more hb.size).take m
      have v1 := (HV1.out.below hb (Nat.le_refl _)).more hb.size
      have v2 := (HV2.out.below hb (Nat.le_refl _)).more hb.size
      have hml : (l.take m).length = m := by rw [List.length_take]; omega
      obtain ⟨i2, hi2⟩ : ∃ i, idx (closesL n) (wallsL n) (l.take m) = i := ⟨_, rfl⟩
      have HC := Lib.hid hcl; have HB := Lib.hid hb; have HV1' := Lib.hid v1; have HV2' := Lib.hid v2; have HR3 := Lib.hid hr3; have HML := Lib.hid hml; have HI2 := Lib.hid hi2
      clear hcl hb hj e2 v1 v2 hr3 hml hi2 et hlk
      have hm0 : (0 : Int) ≤ (m : Int) := by omega
      have hmc : (m : Int) ≤ (c : Int) := by omega
      go_wp2_with fail
      refine (find1 _ V1 V2 0 (l.take m) (closesL n) (wallsL n) wr (by rw [HML.out]; omega) A c (by rw [HML.out]) HR3.out HV1'.out HV2'.out hL1 hL2 i2 HI2.out).mono ?_
      rintro e w4 ⟨rfl, b4⟩
      have HB4 := Lib.hid b4
      clear b4
      go_wp2
      go_roundw
      case rel => exact ⟨m, i2, rfl, rfl, by omega, HI2.out, HC.out, bt HB.out HB4.out⟩
      case measure => simp [lenOf]; omega

theorem closed1 (V : Value) (l : List ByteArray) (n : ByteArray) (w : World) (hm : l.length ≤ 1000000) (A : Option Addr) (c : Nat) (hV : V = .slice A l.length c) (hc : l.length ≤ c) (hr : Rd w w.heap.size A l) :
    Calls Tryz.prog 233 #[V, .string n] w fun e w' => ∃ k : Nat, e = .returned (.slice A k c) ∧ k ≤ l.length ∧ (l.take k).reverse = closedS (closesL n) (wallsL n) l.reverse ∧ Below w.heap.size w w' := by
  subst hV
  exact closed_any A c l n w hm hc hr

theorem para_true {n : ByteArray} (h : para n = true) : (n.toList == [108, 105]) = true ∨ ((n.toList == [108, 105]) = false ∧ (n.toList == [100, 100]) = true) ∨ ((n.toList == [108, 105]) = false ∧ (n.toList == [100, 100]) = false ∧ (n.toList == [100, 116]) = true) := by
  unfold para at h
  rw [Bool.or_eq_true, Bool.or_eq_true, decide_eq_true_iff, decide_eq_true_iff, decide_eq_true_iff] at h
  have e1 : n_li.toList = [108, 105] := by rw [toList_L]
  have e2 : n_dd.toList = [100, 100] := by rw [toList_L]
  have e3 : n_dt.toList = [100, 116] := by rw [toList_L]
  rcases h with (rfl | rfl) | rfl
  · exact .inl (by rw [e1]; rfl)
  · exact .inr (.inl ⟨by rw [e2]; rfl, by rw [e2]; rfl⟩)
  · exact .inr (.inr ⟨by rw [e3]; rfl, by rw [e3]; rfl, by rw [e3]; rfl⟩)
theorem para_false {n : ByteArray} (h : para n = false) : (n.toList == [108, 105]) = false ∧ (n.toList == [100, 100]) = false ∧ (n.toList == [100, 116]) = false := by
  unfold para at h
  rw [Bool.or_eq_false_iff, Bool.or_eq_false_iff, decide_eq_false_iff_not, decide_eq_false_iff_not, decide_eq_false_iff_not] at h
  have e1 : n_li.toList = [108, 105] := by rw [toList_L]
  have e2 : n_dd.toList = [100, 100] := by rw [toList_L]
  have e3 : n_dt.toList = [100, 116] := by rw [toList_L]
  rw [← e1, ← e2, ← e3, eq_of_toList, eq_of_toList, eq_of_toList]
  exact ⟨decide_eq_false h.1.1, decide_eq_false h.1.2, decide_eq_false h.2⟩
theorem opened_yes {n : ByteArray} (h : para n = true) (s : List ByteArray) : openedS n s = closedS (closesL n_p) (wallsL n_p) (closedS (closesL n) (wallsL n) s) := by
  unfold openedS
  rw [if_pos h]
  rfl
theorem opened_no {n : ByteArray} (h : para n = false) (s : List ByteArray) : openedS n s = closedS (closesL n) (wallsL n) s := by
  unfold openedS
  rw [if_neg (by rw [h]; simp)]

set_option maxRecDepth 100000 in
set_option maxHeartbeats 1000000 in
theorem leftOpen_yes (A : Option Addr) (c : Nat) (l : List ByteArray) (n : ByteArray) (w : World) (hm : l.length ≤ 1000000) (hc : l.length ≤ c) (hr : Rd w w.heap.size A l) (hp : para n = true) :
    Calls Tryz.prog 206 #[.slice A l.length c, .string n] w fun e w' => ∃ k : Nat, e = .returned (.slice A k c) ∧ k ≤ l.length ∧ (l.take k).reverse = openedS n l.reverse ∧ Below w.heap.size w w' := by
  have HR := Lib.hid hr; have HO := Lib.hid (opened_yes hp l.reverse)
  have hq := para_true hp
  clear hr hp
  rcases hq with q1 | ⟨q1, q2⟩ | ⟨q1, q2, q3⟩
  · have HH := HO
    clear HH
    go_enter Tryz.func206, Tryz.ntmps206
    go_wp2_with fail
    refine (closed_any A c l n w hm hc HR.out).mono ?_
    rintro e w1 ⟨k, rfl, hk, hcl, b1⟩
    have hkl : (l.take k).length = k := by rw [List.length_take]; omega
    have hr1 : Rd w1 w1.heap.size A (l.take k) := ((HR.out.below b1 (Nat.le_refl _)).more b1.size).take k
    have HC := Lib.hid hcl; have HB := Lib.hid b1; have HKL := Lib.hid hkl; have HR1 := Lib.hid hr1
    clear hcl b1 hkl hr1
    go_wp2_with fail
    refine (closed1 _ (l.take k) n_p w1 (by rw [HKL.out]; omega) A c (by rw [HKL.out]) (by rw [HKL.out]; omega) HR1.out).mono ?_
    rintro e w2 ⟨k2, rfl, hk2, hcl2, b2⟩
    rw [HKL.out] at hk2
    have et : (l.take k).take k2 = l.take k2 := by rw [List.take_take, Nat.min_eq_left hk2]
    rw [et, HC.out] at hcl2
    have HC2 := Lib.hid hcl2
    have HB2 := Lib.hid (bt HB.out b2)
    clear hcl2 et b2
    go_wp2
    go_ret
    exact ⟨k2, rfl, Nat.le_trans hk2 hk, by rw [HC2.out, HO.out], HB2.out⟩
  · have HH := HO
    clear HH
    go_enter Tryz.func206, Tryz.ntmps206
    go_wp2_with fail
    refine (closed_any A c l n w hm hc HR.out).mono ?_
    rintro e w1 ⟨k, rfl, hk, hcl, b1⟩
    have hkl : (l.take k).length = k := by rw [List.length_take]; omega
    have hr1 : Rd w1 w1.heap.size A (l.take k) := ((HR.out.below b1 (Nat.le_refl _)).more b1.size).take k
    have HC := Lib.hid hcl; have HB := Lib.hid b1; have HKL := Lib.hid hkl; have HR1 := Lib.hid hr1
    clear hcl b1 hkl hr1
    go_wp2_with fail
    refine (closed1 _ (l.take k) n_p w1 (by rw [HKL.out]; omega) A c (by rw [HKL.out]) (by rw [HKL.out]; omega) HR1.out).mono ?_
    rintro e w2 ⟨k2, rfl, hk2, hcl2, b2⟩
    rw [HKL.out] at hk2
    have et : (l.take k).take k2 = l.take k2 := by rw [List.take_take, Nat.min_eq_left hk2]
    rw [et, HC.out] at hcl2
    have HC2 := Lib.hid hcl2
    have HB2 := Lib.hid (bt HB.out b2)
    clear hcl2 et b2
    go_wp2
    go_ret
    exact ⟨k2, rfl, Nat.le_trans hk2 hk, by rw [HC2.out, HO.out], HB2.out⟩
  · have HH := HO
    clear HH
    go_enter Tryz.func206, Tryz.ntmps206
    go_wp2_with fail
    refine (closed_any A c l n w hm hc HR.out).mono ?_
    rintro e w1 ⟨k, rfl, hk, hcl, b1⟩
    have hkl : (l.take k).length = k := by rw [List.length_take]; omega
    have hr1 : Rd w1 w1.heap.size A (l.take k) := ((HR.out.below b1 (Nat.le_refl _)).more b1.size).take k
    have HC := Lib.hid hcl; have HB := Lib.hid b1; have HKL := Lib.hid hkl; have HR1 := Lib.hid hr1
    clear hcl b1 hkl hr1
    go_wp2_with fail
    refine (closed1 _ (l.take k) n_p w1 (by rw [HKL.out]; omega) A c (by rw [HKL.out]) (by rw [HKL.out]; omega) HR1.out).mono ?_
    rintro e w2 ⟨k2, rfl, hk2, hcl2, b2⟩
    rw [HKL.out] at hk2
    have et : (l.take k).take k2 = l.take k2 := by rw [List.take_take, Nat.min_eq_left hk2]
    rw [et, HC.out] at hcl2
    have HC2 := Lib.hid hcl2
    have HB2 := Lib.hid (bt HB.out b2)
    clear hcl2 et b2
    go_wp2
    go_ret
    exact ⟨k2, rfl, Nat.le_trans hk2 hk, by rw [HC2.out, HO.out], HB2.out⟩
set_option maxRecDepth 100000 in
set_option maxHeartbeats 1000000 in
theorem leftOpen_no (A : Option Addr) (c : Nat) (l : List ByteArray) (n : ByteArray) (w : World) (hm : l.length ≤ 1000000) (hc : l.length ≤ c) (hr : Rd w w.heap.size A l) (hp : para n = false) :
    Calls Tryz.prog 206 #[.slice A l.length c, .string n] w fun e w' => ∃ k : Nat, e = .returned (.slice A k c) ∧ k ≤ l.length ∧ (l.take k).reverse = openedS n l.reverse ∧ Below w.heap.size w w' := by
  have HO := Lib.hid (opened_no hp l.reverse)
  obtain ⟨q1, q2, q3⟩ := para_false hp
  clear hp
  go_enter Tryz.func206, Tryz.ntmps206
  go_wp2_with fail
  refine (closed_any A c l n w hm hc hr).mono ?_
  rintro e w1 ⟨k, rfl, hk, hcl, b1⟩
  have HC := Lib.hid hcl; have HB := Lib.hid b1
  clear hcl b1 hr
  go_wp2
  go_ret
  exact ⟨k, rfl, hk, by rw [HC.out, HO.out], HB.out⟩
theorem leftOpen_any (A : Option Addr) (c : Nat) (l : List ByteArray) (n : ByteArray) (w : World) (hm : l.length ≤ 1000000) (hc : l.length ≤ c) (hr : Rd w w.heap.size A l) :
    Calls Tryz.prog 206 #[.slice A l.length c, .string n] w fun e w' => ∃ k : Nat, e = .returned (.slice A k c) ∧ k ≤ l.length ∧ (l.take k).reverse = openedS n l.reverse ∧ Below w.heap.size w w' := by
  cases hp : para n with
  | true => exact leftOpen_yes A c l n w hm hc hr hp
  | false => exact leftOpen_no A c l n w hm hc hr hp

end Go.Proofs.YtgjlfcamgkeibaaGreatDoor.Bu

namespace Go.Proofs.YtgjlfcamgkeibaaGreatDoor.Bm
set_option linter.unusedVariables false
set_option linter.unusedSimpArgs false
open Ba Fm Nm
open Ro (At Ro)
open Tm (Tk put)
def full (l : List Ro) : Prop := ∀ x ∈ l, x.kind = 1 → x.data ≠ ⟨#[]⟩
theorem full_nil : full [] := fun x h => by cases h
theorem full_snoc {l : List Ro} {y : Ro} (h : full l) (hy : y.kind = 1 → y.data ≠ ⟨#[]⟩) : full (l ++ [y]) := fun x hx => by
  rcases List.mem_append.1 hx with e | e
  · exact h x e
  · rw [List.mem_singleton.1 e]; exact hy
theorem full_tail {x : Ro} {l : List Ro} (h : full (x :: l)) : full l := fun y hy => h y (List.mem_cons_of_mem _ hy)
theorem full_init {l m : List Ro} (h : full (l ++ m)) : full l := fun y hy => h y (List.mem_append_left _ hy)
def ending (l : List Ro) : Option (Bool × Int) := l.getLast?.map fun x => (decide (x.kind = 1), x.depth)
theorem ending_snoc (l : List Ro) (y : Ro) : ending (l ++ [y]) = some (decide (y.kind = 1), y.depth) := by
  unfold ending
  rw [List.getLast?_append]
  rfl

theorem normal_other {x : Ro} (hk : ¬ x.kind = 1) (r : List Ro) : Ro.normal (x :: r) = x :: Ro.normal r := by rw [Ro.normal, if_neg hk]
theorem normal_text {x : Ro} (hk : x.kind = 1) (hx : x.data ≠ ⟨#[]⟩) (r : List Ro) :
    Ro.normal (x :: r) = ⟨x.depth, 1, ⟨#[]⟩, B (Ro.txt (x :: r.take (Ro.nexts x.depth r))), []⟩ :: Ro.normal (r.drop (Ro.nexts x.depth r)) := by
  rw [Ro.normal, if_pos hk, if_neg]
  · rfl
  · rw [Ro.txt, if_pos hk]
    intro e
    refine hx (L_inj ?_)
    exact (List.append_eq_nil_iff.1 e).1
theorem normal_ne {l : List Ro} (h : full l) (hl : l ≠ []) : Ro.normal l ≠ [] := by
  cases l with
  | nil => exact absurd rfl hl
  | cons x r =>
    by_cases hk : x.kind = 1
    · rw [normal_text hk (h x List.mem_cons_self hk)]
      exact List.cons_ne_nil _ _
    · rw [normal_other hk]
      exact List.cons_ne_nil _ _
theorem nexts_more {d : Int} {r : List Ro} {y : Ro} (h : Ro.nexts d r < r.length) : Ro.nexts d (r ++ [y]) = Ro.nexts d r := by
  unfold Ro.nexts at h ⊢
  rw [List.takeWhile_append, if_neg (by omega)]
theorem nexts_all {d : Int} {r : List Ro} {y : Ro} (h : Ro.nexts d r = r.length) : Ro.nexts d (r ++ [y]) = r.length + (if y.kind = 1 ∧ y.depth = d then 1 else 0) := by
  unfold Ro.nexts at h ⊢
  rw [List.takeWhile_append, if_pos h, List.length_append]
  congr 1
  by_cases hy : y.kind = 1 ∧ y.depth = d
  · rw [if_pos hy, List.takeWhile_cons_of_pos (by rw [hy.1, hy.2]; simp)]
    rfl
  · rw [if_neg hy, List.takeWhile_cons_of_neg (by
      intro e
      rw [Bool.and_eq_true, beq_iff_eq, beq_iff_eq] at e
      exact hy e)]
    rfl
theorem snoc_cases {α : Type} (l : List α) : l = [] ∨ ∃ m y, l = m ++ [y] := by
  rcases List.eq_nil_or_concat l with h | ⟨m, y, h⟩
  · exact .inl h
  · exact .inr ⟨m, y, by rw [h, List.concat_eq_append]⟩
theorem add_ne {a b : List Ro} (hb : b ≠ []) (d : Int) (t : ByteArray) : addText (a ++ b) d t = a ++ addText b d t := by
  obtain ⟨c, z, rfl⟩ : ∃ c z, b = c ++ [z] := (snoc_cases b).resolve_left hb
  unfold addText
  rw [← List.append_assoc, List.getLast?_append, List.getLast?_append, List.getLast?_append]
  show (if z.kind = 1 ∧ z.depth = d then _ else _) = a ++ (if z.kind = 1 ∧ z.depth = d then _ else _)
  rw [List.dropLast_concat, List.dropLast_concat]
  split <;> simp only [List.append_assoc]
theorem add_one {J : Ro} {d : Int} {t : ByteArray} : addText [J] d t = if J.kind = 1 ∧ J.depth = d then [⟨J.depth, J.kind, J.name, J.data ++ t, J.attrs⟩] else [J, ⟨d, 1, ⟨#[]⟩, t, []⟩] := rfl
theorem normal_one {y : Ro} (hk : y.kind = 1) (hy : y.data ≠ ⟨#[]⟩) : Ro.normal [y] = [⟨y.depth, 1, ⟨#[]⟩, y.data, []⟩] := by
  rw [normal_text hk hy]
  show ⟨y.depth, 1, ⟨#[]⟩, B (Ro.txt [y]), []⟩ :: Ro.normal ([] : List Ro) = _
  rw [Ro.txt_text hk, B_L, Ro.normal]
theorem normal_snoc (l : List Ro) (y : Ro) : full (l ++ [y]) → Ro.normal (l ++ [y]) = if y.kind = 1 then addText (Ro.normal l) y.depth y.data else Ro.normal l ++ [y] := by
  induction hn : l.length using Nat.strongRecOn generalizing l with
  | ind n ih =>
    subst hn
    intro hf
    have hy := hf y (List.mem_append_right _ (List.mem_singleton.2 rfl))
    cases l with
    | nil =>
      by_cases hk : y.kind = 1
      · rw [if_pos hk]
        show Ro.normal [y] = addText (Ro.normal []) _ _
        rw [normal_one hk (hy hk), Ro.normal]
        rfl
      · rw [if_neg hk]
        show Ro.normal [y] = Ro.normal [] ++ [y]
        rw [normal_other hk, Ro.normal]
        rfl
    | cons x r =>
      have hx := hf x List.mem_cons_self
      have hfr : full (r ++ [y]) := full_tail (show full (x :: (r ++ [y])) from hf)
      show Ro.normal (x :: (r ++ [y])) = _
      by_cases hkx : x.kind = 1
      · rw [normal_text hkx (hx hkx), normal_text hkx (hx hkx)]
        obtain ⟨m, hm⟩ : ∃ m, Ro.nexts x.depth r = m := ⟨_, rfl⟩
        have hle : m ≤ r.length := by rw [← hm]; exact (List.takeWhile_sublist _).length_le
        rw [hm]
        by_cases hlt : m < r.length
        · rw [nexts_more (by rw [hm]; exact hlt), hm, List.take_append_of_le_length hle, List.drop_append_of_le_length hle]
          have hd : r.drop m ≠ [] := fun e => by have := congrArg List.length e; rw [List.length_drop, List.length_nil] at this; omega
          have hfd : full (r.drop m ++ [y]) := fun z hz => by
            rcases List.mem_append.1 hz with e | e
            · exact hfr z (List.mem_append_left _ (List.mem_of_mem_drop e))
            · exact hfr z (List.mem_append_right _ e)
          rw [ih _ (by rw [List.length_drop, List.length_cons]; omega) _ rfl hfd]
          have hne := normal_ne (full_init hfd) hd
          split
          · exact (add_ne (a := [_]) hne _ _).symm
          · rfl
        · have hm2 : m = r.length := by omega
          rw [nexts_all (by rw [hm]; exact hm2), hm2, List.take_length, List.drop_length]
          have e0 : Ro.normal ([] : List Ro) = [] := by rw [Ro.normal]
          by_cases hyy : y.kind = 1 ∧ y.depth = x.depth
          · rw [if_pos hyy, if_pos hyy.1, e0, add_one, if_pos ⟨rfl, hyy.2.symm⟩]
            have e1 : r.length + 1 = (r ++ [y]).length := by rw [List.length_append]; rfl
            rw [e1, List.take_length, List.drop_length, e0]
            have e2 : Ro.txt (x :: (r ++ [y])) = Ro.txt (x :: r) ++ L y.data := by
              rw [← List.cons_append, Ro.txt_append, Ro.txt_text hyy.1]
            rw [e2, ← B_append, B_L]
          · rw [if_neg hyy, Nat.add_zero, List.take_append_of_le_length (Nat.le_refl _), List.take_length, List.drop_append_of_le_length (Nat.le_refl _), List.drop_length, e0]
            by_cases hk : y.kind = 1
            · rw [if_pos hk, add_one, if_neg (fun e => hyy ⟨hk, e.2.symm⟩), List.nil_append, normal_one hk (hy hk)]
            · rw [if_neg hk, List.nil_append, normal_other hk, e0]
              rfl
      · rw [normal_other hkx, normal_other hkx, ih _ (Nat.lt_succ_self _) _ rfl hfr]
        split
        · exact (add_behind (o0 := [x]) (o := Ro.normal r) (fun z hz => by injection hz with hz; rw [← hz]; exact hkx)).symm
        · rfl
theorem ending_add (o : List Ro) (d : Int) (t : ByteArray) : ending (addText o d t) = some (true, d) := by
  unfold addText
  cases hy : o.getLast? with
  | none => rw [ending_snoc]; rfl
  | some z =>
    show ending (if z.kind = 1 ∧ z.depth = d then _ else _) = _
    split
    · rename_i h
      rw [ending_snoc]
      show some (decide (z.kind = 1), z.depth) = _
      rw [decide_eq_true h.1, h.2]
    · rw [ending_snoc]; rfl
theorem ending_normal {l : List Ro} (h : full l) : ending (Ro.normal l) = ending l := by
  rcases snoc_cases l with rfl | ⟨m, y, rfl⟩
  · rw [Ro.normal]
  · rw [normal_snoc m y h, ending_snoc]
    split
    · rename_i hk; rw [ending_add, decide_eq_true hk]
    · rw [ending_snoc]
theorem len_add (o : List Ro) (d : Int) (t : ByteArray) : (addText o d t).length = o.length + (if ending o = some (true, d) then 0 else 1) := by
  unfold addText ending
  cases hy : o.getLast? with
  | none => show (o ++ [_]).length = _; rw [List.length_append]; rfl
  | some z =>
    show (if z.kind = 1 ∧ z.depth = d then _ else _ : List Ro).length = o.length + (if some (decide (z.kind = 1), z.depth) = some (true, d) then 0 else 1)
    have ho : o ≠ [] := fun e => by rw [e] at hy; cases hy
    have hl : 0 < o.length := List.length_pos_iff.2 ho
    by_cases hc : z.kind = 1 ∧ z.depth = d
    · rw [if_pos hc, if_pos (by rw [decide_eq_true hc.1, hc.2]), List.length_append, List.length_dropLast]
      show o.length - 1 + 1 = _
      omega
    · rw [if_neg hc, if_neg (fun e => by
        injection e with e
        injection e with e1 e2
        exact hc ⟨of_decide_eq_true e1, e2⟩), List.length_append]
      rfl
def meets (l : List Ro) (y : Ro) : Bool := decide (y.kind = 1) && decide (ending l = some (true, y.depth))
theorem len_normal {l : List Ro} {y : Ro} (h : full (l ++ [y])) : (Ro.normal (l ++ [y])).length = (Ro.normal l).length + (if meets l y = true then 0 else 1) := by
  rw [normal_snoc l y h]
  unfold meets
  by_cases hk : y.kind = 1
  · rw [if_pos hk, len_add, ending_normal (full_init h), decide_eq_true hk, Bool.true_and]
    congr 1
    by_cases he : ending l = some (true, y.depth)
    · rw [if_pos he, if_pos (decide_eq_true he)]
    · rw [if_neg he, if_neg (by rw [decide_eq_false he]; simp)]
  · rw [if_neg hk, decide_eq_false hk, List.length_append]
    rfl
theorem big_normal {l : List Ro} {y : Ro} (h : full (l ++ [y])) : tooBig (Ro.normal (l ++ [y])) = (decide (4096 < (Ro.normal (l ++ [y])).length) || decide (60 ≤ y.depth)) := by
  have he := ending_normal h
  rw [ending_snoc] at he
  unfold ending at he
  unfold tooBig
  cases hz : (Ro.normal (l ++ [y])).getLast? with
  | none => rw [hz] at he; cases he
  | some z =>
    rw [hz] at he
    injection he with he
    injection he with _ he
    show (_ || decide (60 ≤ z.depth)) = _
    rw [show z.depth = y.depth from he]

end Go.Proofs.YtgjlfcamgkeibaaGreatDoor.Bm

namespace Go.Proofs.YtgjlfcamgkeibaaGreatDoor.Bu
set_option linter.unusedVariables false
set_option linter.unusedSimpArgs false
open Go.RowKit Ba Fm Fo Nm Bm
open Ro (At Ro Cw ros Fr Ow Att Ap Rr Sh acells len_acells cells len_cells rowV rowO info_row info_attr below_new acells_one flat_at flat_len row_cells_new cells_one range2 range5 len_ros ros_append)
abbrev bp (b : Nat) : Value := .pointer (some ⟨b, 0, none⟩)
def Bc (w : World) (b : Nat) (vo vr : Value) (n : Int) (big : Bool) : Prop := w.heap[b]? = some (.cells #[vo, vr, .int .i64 n, .bool big] 116)
section
variable {w w' : World} {b : Nat} {vo vr : Value} {n : Int} {big : Bool}
theorem Bc.c0 (h : Bc w b vo vr n big) : w.cell? ⟨b, 0, none⟩ = some vo := by rw [cell_of_row w b 0 _ _ _ h]; rfl
theorem Bc.c1 (h : Bc w b vo vr n big) : w.cell? ⟨b, 1, none⟩ = some vr := by rw [cell_of_row w b 1 _ _ _ h]; rfl
theorem Bc.c2 (h : Bc w b vo vr n big) : w.cell? ⟨b, 2, none⟩ = some (.int .i64 n) := by rw [cell_of_row w b 2 _ _ _ h]; rfl
theorem Bc.c3 (h : Bc w b vo vr n big) : w.cell? ⟨b, 3, none⟩ = some (.bool big) := by rw [cell_of_row w b 3 _ _ _ h]; rfl
theorem Bc.f (h : Bc w b vo vr n big) (j : Nat) : w.frozen? ⟨b, j, none⟩ = false := by
  unfold Bc at h
  simp [World.frozen?, h]
theorem Bc.lt (h : Bc w b vo vr n big) : b < w.heap.size := (Array.getElem?_eq_some_iff.1 h).1
theorem Bc.set0 (h : Bc w b vo vr n big) (u : Value) : Bc (w.setCell ⟨b, 0, none⟩ u) b u vr n big := by
  unfold Bc at h ⊢
  simp [World.setCell, Array.getElem?_modify, h]
theorem Bc.set1 (h : Bc w b vo vr n big) (u : Value) : Bc (w.setCell ⟨b, 1, none⟩ u) b vo u n big := by
  unfold Bc at h ⊢
  simp [World.setCell, Array.getElem?_modify, h]
theorem Bc.set2 (h : Bc w b vo vr n big) (m : Int) : Bc (w.setCell ⟨b, 2, none⟩ (.int .i64 m)) b vo vr m big := by
  unfold Bc at h ⊢
  simp [World.setCell, Array.getElem?_modify, h]
theorem Bc.set3 (h : Bc w b vo vr n big) (m : Bool) : Bc (w.setCell ⟨b, 3, none⟩ (.bool m)) b vo vr n m := by
  unfold Bc at h ⊢
  simp [World.setCell, Array.getElem?_modify, h]
theorem Bc.below (h : Bc w b vo vr n big) (hb : Below w.heap.size w w') : Bc w' b vo vr n big := (hb.block b h.lt).trans h
theorem Bc.drew (h : Bc w b vo vr n big) (k : Nat) : Bc (w.drewN k) b vo vr n big := h
end

theorem g_dN (w : World) (n : Nat) (row : Option Nat) : w.grownBy (w.drewN n) row := ⟨rfl, rfl, rfl, Nat.le_refl _, fun _ _ _ => rfl⟩
theorem g_set (w : World) (b j : Nat) (u : Value) : w.grownBy (w.setCell ⟨b, j, none⟩ u) (some b) :=
  ⟨rfl, rfl, rfl, by simp [World.setCell], fun k _ hk => Below.heap_setCell _ _ _ _ (fun e => hk (by simp [e]))⟩

theorem own_ne {N b n size : Nat} {e t : TypeId} {w : World} {v : Value} {xs : List Value} (h : w.ownsRow N e size v n xs) {cs : Array Value} {fr : Nat × Nat} (hb : w.heap[b]? = some (.cells cs t fr)) (ht : t ≠ e) : v.ownBlock ≠ some b := by
  rcases h.2 with ⟨rfl, _⟩ | ⟨g, cap, cur, rfl, _, hh, _⟩
  · simp [Value.ownBlock]
  · intro e
    have e : g = b := by simpa [Value.ownBlock] using e
    subst e
    rw [hb] at hh
    injection hh with hh
    injection hh with _ h2
    exact ht h2
theorem own_apart {N N' n n' size size' : Nat} {e e' : TypeId} {w : World} {v v' : Value} {xs xs' : List Value} (h : w.ownsRow N e size v n xs) (h' : w.ownsRow N' e' size' v' n' xs') (ht : e' ≠ e) : v.ownBlock = none ∨ v.ownBlock ≠ v'.ownBlock := by
  rcases h'.2 with ⟨rfl, _⟩ | ⟨g, cap, cur, rfl, _, hh, _⟩
  · cases hv : v.ownBlock with
    | none => exact .inl rfl
    | some k => right; simp [Value.ownBlock]
  · exact .inr (own_ne h hh ht)

def Kt (w w' : World) : Prop := ∀ (g : Nat) (cs : Array Value) (fr : Nat × Nat), w.heap[g]? = some (.cells cs 104 fr) → w'.heap[g]? = w.heap[g]?
theorem Kt.refl (w : World) : Kt w w := fun _ _ _ _ => rfl
theorem Kt.trans {w w1 w2 : World} (h : Kt w w1) (h' : Kt w1 w2) : Kt w w2 := fun g cs fr hg => (h' g cs fr ((h g cs fr hg).trans hg)).trans (h g cs fr hg)
theorem Kt.below {w w' : World} (h : Below w.heap.size w w') : Kt w w' := fun g cs fr hg => h.block g (Array.getElem?_eq_some_iff.1 hg).1
theorem Kt.grown {w w' : World} {b : Nat} {cs : Array Value} {t : TypeId} {fr : Nat × Nat} (h : w.grownBy w' (some b)) (hb : w.heap[b]? = some (.cells cs t fr)) (ht : t ≠ 104) : Kt w w' := fun g cs' fr' hg => h.block g (Array.getElem?_eq_some_iff.1 hg).1 fun e => by
  injection e with e
  subst e
  rw [hg] at hb
  injection hb with hb
  injection hb with _ h2
  exact ht h2.symm
theorem Kt.own {w w' : World} {N n size : Nat} {e : TypeId} {v : Value} {xs : List Value} (h : w.grownBy w' v.ownBlock) (ho : w.ownsRow N e size v n xs) (ht : e ≠ 104) : Kt w w' := fun g cs fr hg => h.block g (Array.getElem?_eq_some_iff.1 hg).1 fun e2 => own_ne ho hg ht.symm e2.symm

def Or (N : Nat) (w : World) (v : Value) (l : List Cw) : Prop := w.ownsRow N 47 5 v l.length (l.flatMap cells) ∧ ∀ x ∈ l, Fr N w x
theorem Or.ow {N : Nat} {w : World} {v : Value} {l : List Cw} (h : Or N w v l) : Ow N w v l := ⟨h.1, fun x hx => ⟨(h.2 x hx).att, (h.2 x hx).ap⟩⟩
theorem Or.nil (N : Nat) (w : World) : Or N w (.slice none 0 0) [] := ⟨World.ownsRow_nil w N _ 5, fun _ h => by simp at h⟩
theorem Or.kept {N b : Nat} {w w' : World} {v : Value} {l : List Cw} (h : Or N w v l) (hg : w.grownBy w' (some b)) {cs : Array Value} {t : TypeId} {fr : Nat × Nat} (hb : w.heap[b]? = some (.cells cs t fr)) (h1 : t ≠ 47) (h2 : t ≠ 51) : Or N w' v l :=
  ⟨World.ownsRow.kept h.1 hg (.inr (own_ne h.1 hb h1)), fun x hx => ⟨World.ownsRow.kept (h.2 x hx).1 hg (.inr (own_ne (h.2 x hx).1 hb h2)), (h.2 x hx).2⟩⟩
theorem Or.apart {N N' n size : Nat} {e : TypeId} {w w' : World} {v u : Value} {xs : List Value} {l : List Cw} (h : Or N w v l) (hu : w.ownsRow N' e size u n xs) (hg : w.grownBy w' u.ownBlock) (h1 : e ≠ 47) (h2 : e ≠ 51) : Or N w' v l :=
  ⟨World.ownsRow.kept h.1 hg (own_apart h.1 hu h1), fun x hx => ⟨World.ownsRow.kept (h.2 x hx).1 hg (own_apart (h.2 x hx).1 hu h2), (h.2 x hx).2⟩⟩
theorem Or.below {N : Nat} {w w' : World} {v : Value} {l : List Cw} (h : Or N w v l) (hb : Below w.heap.size w w') : Or N w' v l := ⟨(h.ow.below hb).1, fun x hx => (h.2 x hx).below hb⟩
theorem Or.form {N : Nat} {w : World} {v : Value} {l : List Cw} (h : Or N w v l) : ∃ A c, v = .slice A l.length c ∧ l.length ≤ c ∧ c ≤ maxLen ∧ (A = none → c = 0) ∧ Rr w w.heap.size A l := h.ow.form
theorem Sown.keptB {N b : Nat} {w w' : World} {v : Value} {l : List ByteArray} (h : Sown N w v l) (hg : w.grownBy w' (some b)) {cs : Array Value} {t : TypeId} {fr : Nat × Nat} (hb : w.heap[b]? = some (.cells cs t fr)) (h1 : t ≠ 9) : Sown N w' v l := World.ownsRow.kept h hg (.inr (own_ne h hb h1))
theorem Sown.cut {N : Nat} {w : World} {A : Option Addr} {k c : Nat} {l : List ByteArray} (h : Sown N w (.slice A l.length c) l) (hk : k ≤ l.length) : Sown N w (.slice A k c) (l.take k) := by
  have hl : (l.take k).length = k := by rw [List.length_take]; omega
  unfold Sown at h ⊢
  rw [hl]
  obtain ⟨h1, h2⟩ := h
  refine ⟨by rw [List.length_map, hl]; omega, ?_⟩
  rcases h2 with ⟨hv, h0⟩ | ⟨g, cap, cur, hv, hg, hh, hn, hm, hs, ht⟩
  · injection hv with e1 e2 e3
    subst e1; subst e3
    obtain rfl : k = 0 := by omega
    exact .inl ⟨rfl, rfl⟩
  · injection hv with e1 e2 e3
    subst e1; subst e3
    refine .inr ⟨g, c, cur, rfl, hg, hh, by omega, hm, hs, ?_⟩
    have := congrArg (List.take k) ht
    rw [List.take_take, ← List.map_take] at this
    rw [← this]
    congr 1
    omega

def Bg (N : Nat) (w : World) (b : Nat) (o : List ByteArray) (l : List Cw) (n : Int) (big : Bool) : Prop := ∃ vo vr, Bc w b vo vr n big ∧ Sown N w vo o ∧ Or N w vr l ∧ N ≤ b
theorem Bg.below {N : Nat} {w w' : World} {b : Nat} {o : List ByteArray} {l : List Cw} {n : Int} {big : Bool} (h : Bg N w b o l n big) (hb : Below w.heap.size w w') : Bg N w' b o l n big ∧ Below N w w' := by
  obtain ⟨vo, vr, hc, ho, hr, hN⟩ := h
  exact ⟨⟨vo, vr, hc.below hb, ho.below hb (Nat.le_refl _), hr.below hb, hN⟩, hb.mono (by have := hc.lt; omega)⟩
theorem Bg.lt {N : Nat} {w : World} {b : Nat} {o : List ByteArray} {l : List Cw} {n : Int} {big : Bool} (h : Bg N w b o l n big) : N ≤ b ∧ b < w.heap.size := by
  obtain ⟨vo, vr, hc, ho, hr, hN⟩ := h
  exact ⟨hN, hc.lt⟩

theorem last_row {N : Nat} {w : World} {v : Value} {l : List Cw} (h : Or N w v l) (hl : 0 < l.length) : ∃ b off c x, v = .slice (some ⟨b, off, none⟩) l.length c ∧ l.length ≤ c ∧ b < w.heap.size ∧ w.rangeAt b (off + (l.length - 1) * 5) (cells x) ∧ ending (ros l) = some (decide (x.ro.kind = 1), x.ro.depth) := by
  obtain ⟨A, c, e, hc, _, _, hr⟩ := h.form
  obtain ⟨b, off, x, e2, hb, hd, hx, _, _⟩ := hr.at_ (l.length - 1) (by omega)
  refine ⟨b, off, c, x, by rw [e, e2], hc, hb, hx, ?_⟩
  have hd2 : l.drop (l.length - 1) = [x] := by
    rw [hd, List.drop_eq_nil_of_le (by omega)]
  have hs : l = l.take (l.length - 1) ++ [x] := by rw [← hd2, List.take_append_drop]
  rw [hs]
  unfold ros
  rw [List.map_append]
  exact ending_snoc _ _

end Go.Proofs.YtgjlfcamgkeibaaGreatDoor.Bu
