/-
  Stage 11: the program's Copy.
  Stage 11: the program's Copy, walked.
  Stage 11: a call of a script in memory; the laws' tells, for one kind of call.
  Stage 11: the laws' tells: Make, Clone, Load, and what is no call.
  Stage 11: the laws' tells: Make, Clone, Load, and what is no call.
  Stage 11: the program's document alone, among the blocks that are new since a world.
  Stage 11: calls whose answers the document fixes.
  Stage 11: the laws' fixed, walked.
  Stage 11: a script in memory; a document on which it was played.
  Stage 11: the program's document with its blocks named; rows of one's own are kept.
  What a statement's row says of the sizes of strings that lie within slices of structs: each is no greater than the reach.
  An argument that is a slice of strings, as the row reads it: a list of strings, nil or not.
  Stage 11: attributes set and dropped, in plain words; attributes of one's own.
  Stage 11: the program's document and the reference's of the same nodes.
  Stage 11, in plain words: what a move leaves.
  Stage 11: ArenaMoves, walked.
  Stage 11, in plain words: what stands in the root is told by Rows once.
  Stage 11: ArenaWithin, walked.
  Stage 11: ArenaAttrs, walked.
  Stage 11: an argument []string, and the sizes of what it holds.
-/
import Derived.Test.YtmlchbohijolaaaCk04
import Derived.Test.YtmlchbohijolaaaCk02
import Derived.SizedLaws
import Derived.Test.YtmlchbohijolaaaCk01
import Derived.SliceStrings
import Derived.ProofKit
import Derived.Carry
import Derived.Deep.RegionLaw
import Derived.BigQuiet
import Derived.Deep.DeepCutAuto
import Derived.Deep.CutBlock
import Derived.Deep.RegionHeld3
namespace Go.Proofs.Ytmlchbohijolaaa.Ar
set_option linter.unusedSimpArgs false
set_option linter.unusedVariables false
open Go.RowKit Ba
open Ro (At Ro Cw ros Rr Ow Nw Fr Att Ap Sh Ra cells acells len_acells acells_one below_new infoI info_row info_attr len_cells rowV rowO Few)
open To (Aw)
/-- A copy under way: j entries have attributes and kids of their own. -/
structure Cp (w wr : World) (M : List Nd) (lE : List Ew) (gC cC p2 j : Nat) (l1 : List Ew) : Prop where
  box : wr.heap[p2]? = some (.cells #[.slice (some ⟨gC, 0, none⟩) M.length cC] 74)
  ents : wr.ownsRow w.heap.size 71 7 (.slice (some ⟨gC, 0, none⟩) M.length cC) M.length ((l1 ++ lE.drop j).flatMap ecells)
  len : l1.length = j
  own : ∀ e ∈ l1, OA wr w.heap.size e.x ∧ OK wr w.heap.size e.K e.kc e.kids
  apA : Apart bA l1
  apK : Apart bK l1
  same : l1.map nodeOf = (lE.take j).map nodeOf
  bel : Below w.heap.size w wr
  low : w.heap.size ≤ p2
section
variable {w wr : World} {M : List Nd} {lE : List Ew} {gC cC p2 j : Nat} {l1 : List Ew}
theorem Cp.obj (h : Cp w wr M lE gC cC p2 j l1) : w.heap.size ≤ gC ∧ gC < wr.heap.size ∧ M.length ≤ cC ∧ cC ≤ maxLen ∧ ∃ c f, wr.heap[gC]? = some (.cells c 71 f) := by
  rcases h.ents.2 with ⟨hv, _⟩ | ⟨g, cap, cur, hv, hg, hh, hn, hm, _⟩
  · cases hv
  · injection hv with h1 h2 h3
    injection h1 with h1
    injection h1 with h1
    subst h1 h3
    exact ⟨hg, (Array.getElem?_eq_some_iff.1 hh).1, hn, hm, _, _, hh⟩
theorem Cp.x (h : Cp w wr M lE gC cC p2 j l1) : wr.cell? ⟨p2, 0, none⟩ = some (.slice (some ⟨gC, 0, none⟩) M.length cC) := cell_of_row wr p2 0 _ _ _ h.box
theorem Cp.at_ (h : Cp w wr M lE gC cC p2 j l1) (hl : lE.length = M.length) {e0 : Ew} (he : lE[j]? = some e0) : ∀ i u, (ecells e0)[i]? = some u → wr.cell? ⟨gC, j * 7 + i, none⟩ = some u := fun i u hu => by
  have hi : i < 7 := (List.getElem?_eq_some_iff.1 hu).1
  have hj := (List.getElem?_eq_some_iff.1 he).1
  have h1 := h.len
  have hjl : j < (l1 ++ lE.drop j).length := by rw [List.length_append, List.length_drop]; omega
  have h2 : (l1 ++ lE.drop j)[j]'hjl = e0 := by
    rw [List.getElem_append_right (by omega), List.getElem_drop]
    rw [← (List.getElem?_eq_some_iff.1 he).2]
    congr 1
    omega
  have := World.ownsRow.cells h.ents (g := gC) rfl (j * 7 + i) u (by rw [Ro.flat_at ecells 7 len_ecells _ _ _ hjl hi, h2]; exact hu)
  rw [WideShapes.add_plain, Nat.zero_add] at this
  exact this
theorem apart_snoc {f : Ew → Option Nat} {l : List Ew} {L : Nat} (h : Apart f l) {e : Ew} (hl : ∀ a ∈ l, ∀ g, f a = some g → g < L) (he : ∀ g, f e = some g → L ≤ g) : Apart f (l ++ [e]) := by
  unfold Apart at h ⊢
  rw [List.pairwise_append]
  refine ⟨h, List.pairwise_singleton _ _, fun a ha b hb g hg hg2 => ?_⟩
  rw [List.mem_singleton] at hb
  subst hb
  have := hl a ha g hg
  have := he g hg2
  omega
theorem set_mid {l : List Ew} {e0 : Ew} (hlen : l1.length = j) (h0 : l[j]? = some e0) (e' : Ew) : (l1 ++ l.drop j).set j e' = l1 ++ e' :: l.drop (j + 1) := by
  have hj := (List.getElem?_eq_some_iff.1 h0).1
  rw [List.set_append_right _ _ (by omega), hlen, Nat.sub_self, List.drop_eq_getElem_cons hj, List.set_cons_zero]
/-- One entry more. -/
theorem Cp.step (h : Cp w wr M lE gC cC p2 j l1) (hl : lE.length = M.length) {e0 : Ew} (he : lE[j]? = some e0) {A4 K6 : Option Addr} {c4 c6 : Nat} {w1 w3 : World}
    (b1 : Below wr.heap.size wr w1) (ha : Aw wr.heap.size w1 (.slice A4 e0.x.ro.attrs.length c4) e0.x.ro.attrs)
    (b3 : Below (w1.setCell ⟨gC, j * 7 + 4, none⟩ (.slice A4 e0.x.ro.attrs.length c4)).heap.size (w1.setCell ⟨gC, j * 7 + 4, none⟩ (.slice A4 e0.x.ro.attrs.length c4)) w3)
    (hk : w3.ownsRow (w1.setCell ⟨gC, j * 7 + 4, none⟩ (.slice A4 e0.x.ro.attrs.length c4)).heap.size 3 1 (.slice K6 e0.kids.length c6) e0.kids.length (e0.kids.map nv)) :
    Cp w (w3.setCell ⟨gC, j * 7 + 6, none⟩ (.slice K6 e0.kids.length c6)) M lE gC cC p2 (j + 1) (l1 ++ [⟨⟨e0.x.ro, A4, c4⟩, e0.up, K6, c6, e0.kids⟩]) := by
  obtain ⟨hgw, hgl, _, _, cg, fg, hog⟩ := h.obj
  have hj := (List.getElem?_eq_some_iff.1 he).1
  have hp2l := (Array.getElem?_eq_some_iff.1 h.box).1
  have hpg : p2 ≠ gC := type_ne h.box hog (by decide)
  -- the first store
  have hs1 := b1.size
  have og1 := (b1.block gC hgl).trans hog
  have e1 := owns_block (w' := w1) h.ents fun g hg => by
    obtain rfl : gC = g := Option.some.inj hg
    exact b1.block gC hgl
  have e2 := (World.ownsRow.stored e1 (j * 7 + 4) (.slice A4 e0.x.ro.attrs.length c4)).1
  have hjl : j < (l1 ++ lE.drop j).length := by rw [List.length_append, List.length_drop, h.len]; omega
  have hat : (l1 ++ lE.drop j)[j]'hjl = e0 := by
    have h1 := h.len
    rw [List.getElem_append_right (by omega), List.getElem_drop, ← (List.getElem?_eq_some_iff.1 he).2]
    congr 1
    omega
  rw [flat_set7 (by decide) _ (l1 ++ lE.drop j) j ⟨⟨e0.x.ro, A4, c4⟩, e0.up, e0.K, e0.kc, e0.kids⟩ (fun _ => by rw [hat]; rfl) hjl, set_mid h.len he] at e2
  obtain ⟨w2, hw2⟩ : ∃ w2, w1.setCell ⟨gC, j * 7 + 4, none⟩ (.slice A4 e0.x.ro.attrs.length c4) = w2 := ⟨_, rfl⟩
  rw [hw2] at e2 b3 hk
  have hs2 : w2.heap.size = w1.heap.size := by rw [← hw2]; simp [World.setCell]
  have k2 : ∀ b, b ≠ gC → w2.heap[b]? = w1.heap[b]? := fun b hb => hw2 ▸ Below.heap_setCell _ _ _ _ hb
  have og2 : ∃ c f, w2.heap[gC]? = some (.cells c 71 f) := by
    rcases e2.2 with ⟨hv, _⟩ | ⟨g, cap, cur, hv, _, hh, _⟩
    · cases hv
    · injection hv with h1
      injection h1 with h1
      injection h1 with h1
      subst h1
      exact ⟨_, _, hh⟩
  obtain ⟨cg2, fg2, og2⟩ := og2
  -- the second store
  have hs3 := b3.size
  have hg2 : gC < w2.heap.size := by omega
  have e3 := owns_block (w' := w3) e2 fun g hg => by
    obtain rfl : gC = g := Option.some.inj hg
    exact b3.block gC hg2
  have og3 := (b3.block gC hg2).trans og2
  have e4 := (World.ownsRow.stored e3 (j * 7 + 6) (.slice K6 e0.kids.length c6)).1
  have hjl2 : j < (l1 ++ (⟨⟨e0.x.ro, A4, c4⟩, e0.up, e0.K, e0.kc, e0.kids⟩ : Ew) :: lE.drop (j + 1)).length := by rw [List.length_append, List.length_cons, h.len]; omega
  have hat2 : (l1 ++ (⟨⟨e0.x.ro, A4, c4⟩, e0.up, e0.K, e0.kc, e0.kids⟩ : Ew) :: lE.drop (j + 1))[j]'hjl2 = ⟨⟨e0.x.ro, A4, c4⟩, e0.up, e0.K, e0.kc, e0.kids⟩ := by
    have h1 := h.len
    subst h1
    simp
  rw [flat_set7 (by decide) _ _ j ⟨⟨e0.x.ro, A4, c4⟩, e0.up, K6, c6, e0.kids⟩ (fun _ => by rw [hat2]; rfl) hjl2] at e4
  have hset : (l1 ++ (⟨⟨e0.x.ro, A4, c4⟩, e0.up, e0.K, e0.kc, e0.kids⟩ : Ew) :: lE.drop (j + 1)).set j ⟨⟨e0.x.ro, A4, c4⟩, e0.up, K6, c6, e0.kids⟩ = (l1 ++ [⟨⟨e0.x.ro, A4, c4⟩, e0.up, K6, c6, e0.kids⟩]) ++ lE.drop (j + 1) := by
    have h1 := h.len
    rw [List.set_append_right _ _ (by omega), h1, Nat.sub_self, List.set_cons_zero]
    simp
  rw [hset] at e4
  obtain ⟨w4, hw4⟩ : ∃ w4, w3.setCell ⟨gC, j * 7 + 6, none⟩ (.slice K6 e0.kids.length c6) = w4 := ⟨_, rfl⟩
  rw [hw4] at e4 ⊢
  have k4 : ∀ b, b ≠ gC → w4.heap[b]? = w3.heap[b]? := fun b hb => hw4 ▸ Below.heap_setCell _ _ _ _ hb
  -- what is of another type, and was there, is as it was
  have keep : ∀ b, b < wr.heap.size → b ≠ gC → w4.heap[b]? = wr.heap[b]? := fun b hb hne =>
    (k4 b hne).trans ((b3.block b (by omega)).trans ((k2 b hne).trans (b1.block b hb)))
  have hoa : OA w4 w.heap.size ⟨e0.x.ro, A4, c4⟩ := by
    have h1 : OA w1 wr.heap.size ⟨e0.x.ro, A4, c4⟩ := ⟨.inl ha.1, ha.2⟩
    have h2 : OA w4 wr.heap.size ⟨e0.x.ro, A4, c4⟩ := h1.block fun g hg => by
      obtain ⟨_, hN, hlt, _, _, hh⟩ := oa_obj h1 hg
      have hne : g ≠ gC := type_ne hh og1 (by decide)
      exact (k4 g hne).trans ((b3.block g (by omega)).trans (k2 g hne))
    exact ⟨h2.1.mono h.bel.size, h2.2⟩
  have hok : OK w4 w.heap.size K6 c6 e0.kids := by
    have h1 : OK w3 w2.heap.size K6 c6 e0.kids := .inl hk
    have h2 : OK w4 w2.heap.size K6 c6 e0.kids := h1.block fun g hg => by
      obtain ⟨_, hN, hlt, _, _, hh⟩ := ok_obj h1 hg
      exact k4 g (type_ne hh og3 (by decide))
    exact Of.mono h2 (Nat.le_trans h.bel.size (by omega))
  have lowA : ∀ g, blkOf A4 = some g → wr.heap.size ≤ g := fun g hg => (oa_obj (w := w1) (N := wr.heap.size) (x := ⟨e0.x.ro, A4, c4⟩) ⟨.inl ha.1, ha.2⟩ hg).2.1
  have lowK : ∀ g, blkOf K6 = some g → wr.heap.size ≤ g := fun g hg => by
    have := (ok_obj (w := w3) (N := w2.heap.size) (A := K6) (c := c6) (l := e0.kids) (.inl hk) hg).2.1
    omega
  refine ⟨(keep p2 hp2l hpg).trans h.box, e4, by rw [List.length_append, h.len]; rfl, fun e he' => ?_, apart_snoc h.apA (fun a ha' g hg => (oa_obj (h.own a ha').1 hg).2.2.1) lowA, apart_snoc h.apK (fun a ha' g hg => (ok_obj (h.own a ha').2 hg).2.2.1) lowK, ?_, ?_, h.low⟩
  · rcases List.mem_append.1 he' with he' | he'
    · refine ⟨(h.own e he').1.block fun g hg => ?_, (h.own e he').2.block fun g hg => ?_⟩
      · obtain ⟨_, _, hlt, _, _, hh⟩ := oa_obj (h.own e he').1 hg
        exact keep g hlt (type_ne hh hog (by decide))
      · obtain ⟨_, _, hlt, _, _, hh⟩ := ok_obj (h.own e he').2 hg
        exact keep g hlt (type_ne hh hog (by decide))
    · rw [List.mem_singleton] at he'
      subst he'
      exact ⟨hoa, hok⟩
  · rw [List.map_append, h.same, List.take_add_one, he, List.map_append]
    rfl
  · have h1 : Below w.heap.size w w2 := by
      rw [← hw2]
      exact (bt h.bel b1).setCell (p := ⟨gC, j * 7 + 4, none⟩) hgw _
    rw [← hw4]
    exact (bt h1 b3).setCell (p := ⟨gC, j * 7 + 6, none⟩) hgw _
/-- The copy, done. -/
theorem Cp.done (h : Cp w wr M lE gC cC p2 M.length l1) (hs : lE.map nodeOf = M) : PD wr w.heap.size (fun b => w.heap.size ≤ b ∧ b < wr.heap.size) p2 M gC cC l1 := by
  have hl : lE.length = M.length := by rw [← hs, List.length_map]
  have he := h.ents
  rw [List.drop_eq_nil_of_le (by omega), List.append_nil] at he
  obtain ⟨hg1, hg2, _⟩ := h.obj
  refine ⟨h.box, he, fun e he' => ⟨(h.own e he').1, fun g hg => ?_⟩, fun e he' => ⟨(h.own e he').2, fun g hg => ?_⟩, h.apA, h.apK, by rw [h.same, List.take_of_length_le (by omega), hs], h.low, ⟨h.low, (Array.getElem?_eq_some_iff.1 h.box).1⟩, ⟨hg1, hg2⟩, fun b hb => hb.2⟩
  · obtain ⟨_, h1, h2, _⟩ := oa_obj (h.own e he').1 hg
    exact ⟨h1, h2⟩
  · obtain ⟨_, h1, h2, _⟩ := ok_obj (h.own e he').2 hg
    exact ⟨h1, h2⟩
end
end Go.Proofs.Ytmlchbohijolaaa.Ar

namespace Go.Proofs.Ytmlchbohijolaaa.Ar
set_option maxRecDepth 100000
set_option linter.unusedSimpArgs false
set_option linter.unusedVariables false
open Go.RowKit Ba
open Ro (At Ro Cw ros Rr Ow Nw Fr Att Ap Sh Ra cells acells len_acells acells_one below_new infoI info_row info_attr len_cells rowV rowO Few)
open To (Aw)
end Go.Proofs.Ytmlchbohijolaaa.Ar

namespace Go.Proofs.Ytmlchbohijolaaa.Ar
set_option maxRecDepth 100000
set_option linter.unusedSimpArgs false
set_option linter.unusedVariables false
open Go.RowKit Ba
open Ro (At Ro Cw ros Rr Ow Nw Fr Att Ap Sh Ra Rv Held cells acells below_new infoI info_row len_cells rowV rowO Few check right)
/-- A call that can be read, its rows below block K. -/
structure OpOk (w : World) (K : Nat) (o : Op11) : Prop where
  cap : o.x.length ≤ o.c ∧ o.c ≤ maxLen
  rows : Rr w K o.A o.x
  held : Held (ros o.x)
  name : o.name.size ≤ 140737488355328
  what : -9223372036854775808 ≤ o.what ∧ o.what ≤ 9223372036854775807
section
variable {w w0 w1 w2 : World} {N p1 p2 : Nat} {F1 F2 F1' F2' : Nat → Prop} {M M2 M' M2' : List Nd}
end
/-- Two documents, apart. -/
structure Two (w : World) (N K p1 p2 : Nat) (F1 F2 : Nat → Prop) (B : Nat) (M M2 : List Nd) : Prop where
  d1 : Doc12 w N F1 p1 M
  d2 : Doc11 w N F2 p2 M2
  apart : ∀ b, F1 b → ¬ F2 b
  low1 : ∀ b, F1 b → K ≤ b
  low2 : ∀ b, F2 b → K ≤ b
  i1 : Inv B M
  i2 : Inv B M2
  l1 : M.length ≤ 1000
  l2 : M2.length ≤ 1000
  few : B ≤ 1000000
  hK : K ≤ w.heap.size
section
variable {w : World} {N K p1 p2 B : Nat} {F1 F2 : Nat → Prop} {M M2 : List Nd} {o : Op11}
end
end Go.Proofs.Ytmlchbohijolaaa.Ar

namespace Go.Proofs.Ytmlchbohijolaaa.Ar
set_option maxRecDepth 100000
set_option linter.unusedSimpArgs false
set_option linter.unusedVariables false
open Go.RowKit Ba
open Ro (At Ro Cw ros Rr Ow Nw Fr Att Ap Sh Ra Rv Held cells acells below_new infoI info_row len_cells rowV rowO Few check right)
section
variable {w : World} {N K p1 p2 B : Nat} {F1 F2 : Nat → Prop} {M M2 : List Nd} {o : Op11}
end
end Go.Proofs.Ytmlchbohijolaaa.Ar

namespace Go.Proofs.Ytmlchbohijolaaa.Ar
set_option maxRecDepth 100000
set_option linter.unusedSimpArgs false
set_option linter.unusedVariables false
open Go.RowKit Ba
open Ro (At Ro Cw ros Rr Ow Nw Fr Att Ap Sh Ra Rv Held cells acells below_new infoI info_row len_cells rowV rowO Few check right)
section
variable {w : World} {N K p1 p2 B : Nat} {F1 F2 : Nat → Prop} {M M2 : List Nd} {o : Op11}
end
end Go.Proofs.Ytmlchbohijolaaa.Ar

namespace Go.Proofs.Ytmlchbohijolaaa.Ar
set_option maxRecDepth 100000
set_option linter.unusedSimpArgs false
set_option linter.unusedVariables false
open Go.RowKit Ba
open Ro (At Ro Cw ros Rr Ow Nw Fr Att Ap Sh Ra Rv Held cells acells below_new infoI info_row len_cells rowV rowO Few check right)
/-- The program's document, in blocks that are new since w0. -/
def One (w0 w : World) (p : Nat) (M : List Nd) : Prop := ∃ F, Doc12 w w0.heap.size F p M ∧ (∀ b, F b → w0.heap.size ≤ b) ∧ Below w0.heap.size w0 w
theorem one_next {w0 w w' : World} {F F' : Nat → Prop} {p : Nat} {M' : List Nd} (hl : ∀ b, F b → w0.heap.size ≤ b) (hb : Below w0.heap.size w0 w) (D : Doc12 w' w0.heap.size F' p M') (n : Next w w' F F') : One w0 w' p M' := by
  have hs := hb.size
  have hs' := n.1.size
  refine ⟨F', D, fun b h => ?_, ⟨n.1.os.trans hb.os, n.1.tape.trans hb.tape, n.1.output.trans hb.output, by omega, fun b h => (n.1.block b (by omega) fun hf => by have := hl b hf; omega).trans (hb.block b h)⟩⟩
  rcases n.2.2 b h with h | h
  · exact hl b h
  · omega
section
variable {w0 w w' : World} {p : Nat} {M : List Nd}
theorem One.bel (S : One w0 w p M) : Below w0.heap.size w0 w := by
  obtain ⟨_, _, _, h⟩ := S
  exact h
theorem One.below (S : One w0 w p M) (hb : Below w.heap.size w w') : One w0 w' p M := by
  obtain ⟨F, D, hl, hB⟩ := S
  exact ⟨F, D.below hb, hl, bt hB hb⟩
theorem One.drew (S : One w0 w p M) : One w0 w.drew p M := S.below ⟨rfl, rfl, rfl, Nat.le_refl _, fun _ _ => rfl⟩
theorem One.new (w0 w : World) (hb : Below w0.heap.size w0 w) : Calls Try.prog 10 #[] w fun e w' => ∃ p, e = .returned (.pointer (some ⟨p, 0, none⟩)) ∧ One w0 w' p M0 := by
  refine (newP1 w).mono ?_
  rintro e w' ⟨p, F, rfl, D, hb', hl⟩
  have hs := hb.size
  obtain ⟨gE, cE, lE, D⟩ := D
  refine ⟨p, rfl, F, ⟨gE, cE, lE, ⟨D.box, World.ownsRow.mono D.ents hs, fun e he => ⟨⟨(D.attrs e he).1.1.mono hs, (D.attrs e he).1.2⟩, (D.attrs e he).2⟩, fun e he => ⟨Of.mono (D.kids e he).1 hs, (D.kids e he).2⟩, D.apA, D.apK, D.same, Nat.le_trans hs D.low, D.fp, D.fe, D.bd⟩⟩, fun b h => Nat.le_trans hs (hl b h), bt hb hb'⟩
theorem One.make (S : One w0 w p M) (hm : M.length ≤ 5000) (k : Int) (n d : ByteArray) (hs : n.size ≤ 140737488355328) : Calls Try.prog 14 #[.pointer (some ⟨p, 0, none⟩), .int .i64 k, .string n, .string d] w fun e w' => e = .returned (.tuple #[.int .i64 (makeE M k n d).1, .int .i64 (makeE M k n d).2]) ∧ One w0 w' p (makeM M k n d) := by
  obtain ⟨F, D, hl, hB⟩ := S
  refine (makeP1 k n d w D hm hs).mono ?_
  rintro e w' ⟨rfl, F', D', N'⟩
  exact ⟨rfl, one_next hl hB D' N'⟩
theorem One.insert (S : One w0 w p M) (W : Wf M) (hm : M.length ≤ 5000) (P A n : Int) : Calls Try.prog 27 #[.pointer (some ⟨p, 0, none⟩), .int .i64 P, .int .i64 A, .int .i64 n] w fun e w' => e = .returned (.int .i64 (insE M P A n)) ∧ One w0 w' p (insM M P A n) := by
  obtain ⟨F, D, hl, hB⟩ := S
  refine (insertP1 P A n w D W hm).mono ?_
  rintro e w' ⟨rfl, F', D', N'⟩
  exact ⟨rfl, one_next hl hB D' N'⟩
theorem One.remove (S : One w0 w p M) (W : Wf M) (hm : M.length ≤ 5000) (n : Int) (q : Int) (hq : (if 1 ≤ n ∧ n < M.length then (0 : Int) else 110) = q) : Calls Try.prog 15 #[.pointer (some ⟨p, 0, none⟩), .int .i64 n] w fun e w' => e = .returned (.int .i64 q) ∧ One w0 w' p (remM M n) := by
  obtain ⟨F, D, hl, hB⟩ := S
  refine (removeP1 n w D W hm q hq).mono ?_
  rintro e w' ⟨rfl, F', D', N'⟩
  exact ⟨rfl, one_next hl hB D' N'⟩
theorem One.clone {B : Nat} (S : One w0 w p M) (I : Inv B M) (hB : B ≤ 1000000) (hm : M.length ≤ 1000) (n : Int) : Calls Try.prog 30 #[.pointer (some ⟨p, 0, none⟩), .int .i64 n] w fun e w' => e = .returned (.tuple #[.int .i64 (cloneE M n).1, .int .i64 (cloneE M n).2]) ∧ One w0 w' p (cloneM M n) := by
  obtain ⟨F, D, hl, hB'⟩ := S
  refine (cloneP1 n w D I.wf hm (I.few hB) (good_right I.wf I.good n)).mono ?_
  rintro e w' ⟨rfl, F', D', N'⟩
  exact ⟨rfl, one_next hl hB' D' N'⟩
theorem One.attr {B : Nat} (S : One w0 w p M) (I : Inv B M) (hB : B ≤ 1000000) (n : Int) (nm v : ByteArray) (hs : nm.size ≤ 140737488355328) : Calls Try.prog 16 #[.pointer (some ⟨p, 0, none⟩), .int .i64 n, .string nm, .string v] w fun e w' => e = .returned (.int .i64 (attrE11 M n nm)) ∧ One w0 w' p (attrM11 M n nm v) := by
  obtain ⟨F, D, hl, hB'⟩ := S
  refine (attrP1 n nm v w D I.good (I.few hB) hs).mono ?_
  rintro e w' ⟨rfl, F', D', N'⟩
  exact ⟨rfl, one_next hl hB' D' N'⟩
theorem One.drop {B : Nat} (S : One w0 w p M) (I : Inv B M) (hB : B ≤ 1000000) (n : Int) (nm : ByteArray) : Calls Try.prog 33 #[.pointer (some ⟨p, 0, none⟩), .int .i64 n, .string nm] w fun e w' => e = .returned (.int .i64 (dropE11 M n nm)) ∧ One w0 w' p (dropM11 M n nm) := by
  obtain ⟨F, D, hl, hB'⟩ := S
  refine (dropP1 n nm w D I.good (I.few hB)).mono ?_
  rintro e w' ⟨rfl, F', D', N'⟩
  exact ⟨rfl, one_next hl hB' D' N'⟩
theorem One.data (S : One w0 w p M) (n : Int) (d : ByteArray) : Calls Try.prog 32 #[.pointer (some ⟨p, 0, none⟩), .int .i64 n, .string d] w fun e w' => e = .returned (.int .i64 (dataE M n)) ∧ One w0 w' p (dataM M n d) := by
  obtain ⟨F, D, hl, hB⟩ := S
  refine (dataP1 n d w D).mono ?_
  rintro e w' ⟨rfl, F', D', N'⟩
  exact ⟨rfl, one_next hl hB D' N'⟩
theorem One.len (S : One w0 w p M) : Calls Try.prog 24 #[.pointer (some ⟨p, 0, none⟩)] w fun e w' => e = .returned (.int .i64 M.length) ∧ w' = w := by
  obtain ⟨F, ⟨gE, cE, lE, D⟩, hl, hB⟩ := S
  exact len1 w D
theorem One.parent (S : One w0 w p M) (n : Int) (q : Int) (hq : (if 0 ≤ n ∧ n < M.length then (nd M n.toNat).up else -1) = q) : Calls Try.prog 31 #[.pointer (some ⟨p, 0, none⟩), .int .i64 n] w fun e w' => e = .returned (.int .i64 q) ∧ w' = w := by
  obtain ⟨F, ⟨gE, cE, lE, D⟩, hl, hB⟩ := S
  exact parent1 n w D q hq
theorem One.within (S : One w0 w p M) (W : Wf M) (hm : M.length ≤ 5000) (n o : Int) (q : Bool) (hq : q = true ↔ Win M n o) : Calls Try.prog 19 #[.pointer (some ⟨p, 0, none⟩), .int .i64 n, .int .i64 o] w fun e w' => e = .returned (.bool q) ∧ w' = w := by
  obtain ⟨F, ⟨gE, cE, lE, D⟩, hl, hB⟩ := S
  exact withinP1 n o w D W hm q hq
theorem One.kids (S : One w0 w p M) (W : Wf M) (hm : M.length ≤ 5000) (n : Int) : Calls Try.prog 28 #[.pointer (some ⟨p, 0, none⟩), .int .i64 n] w fun e w' => ∃ v, e = .returned v ∧ Nw w.heap.size w' v (kidsI M n) ∧ Below w.heap.size w w' := by
  obtain ⟨F, ⟨gE, cE, lE, D⟩, hl, hB⟩ := S
  exact kidsP1 n w D W hm
theorem One.row {B : Nat} (S : One w0 w p M) (I : Inv B M) (hB : B ≤ 1000000) (n : Int) (q : Int) (hq : (if hasB M n then (0 : Int) else 110) = q) : Calls Try.prog 34 #[.pointer (some ⟨p, 0, none⟩), .int .i64 n] w fun e w' => ∃ y : Cw, e = .returned (.tuple #[rowV y, .int .i64 q]) ∧ y.ro = rowAns M n ∧ Fr w.heap.size w' y ∧ Below w.heap.size w w' := by
  obtain ⟨F, ⟨gE, cE, lE, D⟩, hl, hB'⟩ := S
  exact rowP1 n w D (I.few hB) q hq
theorem rows_held {B : Nat} (I : Inv B M) (hm : M.length ≤ 5000) (n : Int) : Held (rowsM M n) := fun x hx => by
  have h2 := rows_short I.wf n
  have := right_held _ 0 (good_right I.wf I.good n) x hx
  omega
theorem One.rows {B : Nat} (S : One w0 w p M) (I : Inv B M) (hB : B ≤ 1000000) (hm : M.length ≤ 5000) (n : Int) : Calls Try.prog 21 #[.pointer (some ⟨p, 0, none⟩), .int .i64 n] w fun e w' => ∃ v l, e = .returned v ∧ Rv w' v l ∧ ros l = rowsM M n ∧ l.length ≤ M.length ∧ Ow w.heap.size w' v l ∧ (∀ x ∈ l, Fr w.heap.size w' x) ∧ Below w.heap.size w w' := by
  obtain ⟨F, D, hl, hB'⟩ := S
  refine (rowsP1 n w D I.wf hm (I.few hB)).mono ?_
  rintro e w' ⟨v, l, rfl, ho, hf, hr, hb⟩
  refine ⟨v, l, rfl, ho.rv (by rw [hr]; exact rows_held I hm n), hr, ?_, ho, hf, hb⟩
  rw [← Ro.len_ros, hr]
  exact rows_short I.wf n
end
end Go.Proofs.Ytmlchbohijolaaa.Ar

namespace Go.Proofs.Ytmlchbohijolaaa.Ar
set_option maxRecDepth 100000
set_option linter.unusedSimpArgs false
set_option linter.unusedVariables false
open Go.RowKit Ba
open Ro (At Ro Cw ros Rr Ow Nw Fr Att Ap Sh Ra Rv Held cells acells below_new infoI info_row len_cells rowV rowO Few check right refSame1)
def bP : ByteArray := ⟨#[112]⟩
def bX : ByteArray := ⟨#[120]⟩
def bId : ByteArray := ⟨#[105, 100]⟩
def bV : ByteArray := ⟨#[118]⟩
def b0 : ByteArray := ⟨#[]⟩
def rP : Ro := ⟨0, 0, bP, b0, []⟩
def rPa : Ro := ⟨0, 0, bP, b0, [⟨bId, bV⟩]⟩
def rT : Ro := ⟨0, 1, b0, bX, []⟩
def F1 : List Nd := [⟨ro00, -1, []⟩, ⟨rP, -1, []⟩]
def F2 : List Nd := [⟨ro00, -1, [1]⟩, ⟨rP, 0, []⟩]
def F3 : List Nd := [⟨ro00, -1, [1]⟩, ⟨rP, 0, []⟩, ⟨rT, -1, []⟩]
def F4 : List Nd := [⟨ro00, -1, [1]⟩, ⟨rP, 0, [2]⟩, ⟨rT, 1, []⟩]
def F5 : List Nd := [⟨ro00, -1, [1]⟩, ⟨rPa, 0, [2]⟩, ⟨rT, 1, []⟩]
def F6 : List Nd := [⟨ro00, -1, [1]⟩, ⟨rPa, 0, [2]⟩, ⟨rT, 1, []⟩, ⟨rPa, -1, [4]⟩, ⟨rT, 3, []⟩]
theorem f1_ans : makeE M0 0 bP b0 = (1, 0) := by kernel_rfl
theorem f1_doc : makeM M0 0 bP b0 = F1 := by kernel_rfl
theorem f3_ans : makeE F2 1 b0 bX = (2, 0) := by kernel_rfl
theorem f3_doc : makeM F2 1 b0 bX = F3 := by kernel_rfl
theorem f5_ans : attrE11 F4 1 bId = 0 := by kernel_rfl
theorem f5_doc : attrM11 F4 1 bId bV = F5 := by kernel_rfl
theorem f5_drop : dropE11 F5 1 bX = 1 := by kernel_rfl
theorem f5_dropM : dropM11 F5 1 bX = F5 := by kernel_rfl
theorem f6_ans : cloneE F5 1 = (3, 0) := by kernel_rfl
theorem f6_doc : cloneM F5 1 = F6 := by kernel_rfl
theorem f6_make : makeE F6 0 b0 b0 = (0, 1) := by kernel_rfl
theorem f6_makeM : makeM F6 0 b0 b0 = F6 := by kernel_rfl
theorem f2_doc : setM F1 0 0 1 = F2 := by kernel_rfl
theorem f4_doc : setM F3 1 0 2 = F4 := by kernel_rfl
theorem f6_rows0 : rowsM F6 0 = [rPa, { rT with depth := 1 }] := by kernel_rfl
theorem f6_rows3 : rowsM F6 3 = [rPa, { rT with depth := 1 }] := by kernel_rfl
theorem not_up {M : List Nd} {a b : Nat} (h : a ≠ b) (hu : (nd M a).up = -1) : ¬ Win M a b := by
  rw [win_nat, up_iff]
  rintro ⟨_, h1 | ⟨p, h1, _⟩⟩
  · exact h h1
  · omega
theorem i_M0 : Inv 4 M0 := inv_M0.more (by decide)
theorem i_F1 : Inv 4 F1 := f1_doc ▸ i_M0.make 0 bP b0
theorem f2_ins : insE F1 0 0 1 = 0 ∧ insM F1 0 0 1 = F2 := by
  have h := ins_0 (M := F1) (P := 0) (A := 0) (n := 1) (by decide) (fun h => by
    rcases h with h | h
    · omega
    · exact not_up (M := F1) (a := 0) (b := 1) (by decide) rfl h) (by decide)
  exact ⟨h.1, h.2.trans f2_doc⟩
theorem i_F2 : Inv 4 F2 := f2_ins.2 ▸ i_F1.ins 0 0 1
theorem f2_self : insE F2 1 0 1 = 111 ∧ insM F2 1 0 1 = F2 := ins_111 (by decide) (.inr (win_nat (a := 1) (b := 1) |>.2 (.refl (by decide))))
theorem i_F3 : Inv 4 F3 := f3_doc ▸ i_F2.make 1 b0 bX
theorem f4_ins : insE F3 1 0 2 = 0 ∧ insM F3 1 0 2 = F4 := by
  have h := ins_0 (M := F3) (P := 1) (A := 0) (n := 2) (by decide) (fun h => by
    rcases h with h | h
    · exact h.2 rfl
    · have h := (win_nat (M := F3) (a := 1) (b := 2)).1 h
      rw [up_iff] at h
      rcases h with ⟨_, h1 | ⟨p, h1, h2⟩⟩
      · exact absurd h1 (by decide)
      · have h1 : (0 : Int) = p := h1
        obtain rfl : p = 0 := by omega
        exact not_up (M := F3) (a := 0) (b := 2) (by decide) rfl (win_nat.2 h2)) (by decide)
  exact ⟨h.1, h.2.trans f4_doc⟩
theorem i_F4 : Inv 4 F4 := f4_ins.2 ▸ i_F3.ins 1 0 2
theorem f4_text : insE F4 2 0 1 = 111 ∧ insM F4 2 0 1 = F4 := ins_111 (by decide) (.inl ⟨by decide, by decide⟩)
theorem i_F5 : Inv 5 F5 := f5_doc ▸ i_F4.attr 1 bId bV
theorem i_F6 : Inv 5 F6 := f6_doc ▸ i_F5.clone 1
theorem f6_in : Win F6 2 0 := (win_nat (a := 2) (b := 0)).2 (.step (p := 1) (by decide) rfl (.step (p := 0) (by decide) rfl (.refl (by decide))))
theorem f6_out : ¬ Win F6 3 0 := not_up (M := F6) (a := 3) (b := 0) (by decide) rfl
/-- Rows freshly written down. -/
theorem rows_litA (w : World) (l : List Cw) (cs : Array Value) (n : Nat) (hn : l.length = n) (hm : n ≤ maxLen) (hcs : cs.toList = l.flatMap cells) (hl : ∀ x ∈ l, Att (w.alloc (.cells cs 65)) (w.alloc (.cells cs 65)).heap.size x ∧ Ap (w.alloc (.cells cs 65)) w.heap.size x) :
    Ow w.heap.size (w.alloc (.cells cs 65)) (.slice (some ⟨w.heap.size, 0, none⟩) n n) l := by
  have hfl : (l.flatMap cells).length = n * 5 := by
    rw [← hn]
    exact Ro.flat_len cells 5 len_cells l
  have hsz : cs.size = n * 5 := by rw [← Array.length_toList, hcs, hfl]
  refine ⟨⟨by rw [hn, hfl], .inr ⟨w.heap.size, n, cs, by rw [hn], Nat.le_refl _, heap_alloc_new w _, by rw [hn]; exact Nat.le_refl _, hm, hsz, ?_⟩⟩, hl⟩
  rw [hn, hcs, ← hfl, List.take_length]
def litL (g : Nat) : List Cw := [⟨rPa, some ⟨g, 0, none⟩, 1⟩, ⟨{ rT with depth := 1 }, none, 0⟩]
theorem lit_new (w : World) (cs : Array Value) (hcs : cs.toList = (litL w.heap.size).flatMap cells) :
    Rv ((w.alloc (.cells #[.string bId, .string bV] 63)).alloc (.cells cs 65)) (.slice (some ⟨w.heap.size + 1, 0, none⟩) 2 2) (litL w.heap.size) := by
  obtain ⟨w1, hw1⟩ : ∃ w1, w.alloc (.cells #[.string bId, .string bV] 63) = w1 := ⟨_, rfl⟩
  have hs1 : w1.heap.size = w.heap.size + 1 := by rw [← hw1]; simp
  have hg1 : w1.heap[w.heap.size]? = some (.cells #[.string bId, .string bV] 63) := hw1 ▸ heap_alloc_new w _
  have hlt : w.heap.size < w1.heap.size := by omega
  have hg2 : (w1.alloc (.cells cs 65)).heap[w.heap.size]? = some (.cells #[.string bId, .string bV] 63) := ((below_new w1 _).block _ hlt).trans hg1
  rw [hw1, ← hs1]
  refine (rows_litA w1 (litL w.heap.size) cs 2 rfl (by decide) hcs (fun x hx => ?_)).rv (fun x hx => ?_)
  · rcases List.mem_cons.1 hx with rfl | hx
    · refine ⟨⟨Nat.le_refl _, (fun h => by cases h), (by decide : (1 : Nat) ≤ maxLen), fun _ => ⟨w.heap.size, 0, rfl, by have := (below_new w1 (.cells cs 65)).size; omega, fun j hj => ?_⟩, fun a ha => ?_⟩, fun _ => ⟨w.heap.size, 0, rfl, .inl hlt⟩⟩
      · have hj0 : j = 0 := by
          have : j < 1 := hj
          omega
        subst hj0
        intro i u hu
        rw [cell_of_row _ w.heap.size (0 + 0 * 2 + i) _ _ _ hg2]
        match i, hu with
        | 0, hu => exact hu
        | 1, hu => exact hu
      · have ha : a ∈ [(⟨bId, bV⟩ : At)] := ha
        rw [List.mem_singleton.1 ha]
        exact (by decide : (2 : Nat) ≤ maxLen)
    · rw [List.mem_singleton.1 hx]
      exact ⟨att_none _ _ rfl, fun h => absurd h (by decide)⟩
  · have hx : x = rPa ∨ x = { rT with depth := 1 } := by
      have : x ∈ [rPa, ({ rT with depth := 1 } : Ro)] := hx
      simpa using this
    rcases hx with rfl | rfl
    · exact ⟨(by decide : (-9223372036854775808 : Int) ≤ 0), (by decide : (0 : Int) ≤ 9223372036854775807)⟩
    · exact ⟨(by decide : (-9223372036854775808 : Int) ≤ 1), (by decide : (1 : Int) ≤ 9223372036854775807)⟩
end Go.Proofs.Ytmlchbohijolaaa.Ar

namespace Go.Proofs.Ytmlchbohijolaaa.Ar
set_option maxRecDepth 100000
set_option linter.unusedSimpArgs false
set_option linter.unusedVariables false
open Go.RowKit Ba
open Ro (At Ro Cw ros Rr Ow Nw Fr Att Ap Sh Ra Rv Held cells acells below_new infoI info_row len_cells rowV rowO Few check right refSame1)
section
variable {w0 w : World} {p : Nat}
abbrev ptr (p : Nat) : Value := .pointer (some ⟨p, 0, none⟩)
theorem s_make {M M' : List Nd} {k : Int} {n d : ByteArray} {a b : Int} (S : One w0 w p M) (hm : M.length ≤ 5000) (hs : n.size ≤ 140737488355328) (h1 : makeE M k n d = (a, b)) (h2 : makeM M k n d = M') : Calls Try.prog 14 #[ptr p, .int .i64 k, .string n, .string d] w fun e w' => e = .returned (.tuple #[.int .i64 a, .int .i64 b]) ∧ One w0 w' p M' := by
  have h := S.make hm k n d hs
  rw [h1, h2] at h
  exact h
theorem s_ins {M M' : List Nd} {P A n : Int} {a : Int} (S : One w0 w p M) (W : Wf M) (hm : M.length ≤ 5000) (h : insE M P A n = a ∧ insM M P A n = M') : Calls Try.prog 27 #[ptr p, .int .i64 P, .int .i64 A, .int .i64 n] w fun e w' => e = .returned (.int .i64 a) ∧ One w0 w' p M' := by
  have h3 := S.insert W hm P A n
  rw [h.1, h.2] at h3
  exact h3
end
set_option maxRecDepth 100000 in
set_option maxHeartbeats 8000000 in
theorem fixed11 (w : World) : Calls Try.prog 12 #[] w fun e w' => e = .returned (.bool true) ∧ Below w.heap.size w w' := by
  go_enter Try.func12, Try.ntmps12
  go_wp2_with fail
  refine (One.new w w (Below.refl _ _)).mono ?_
  rintro e w1 ⟨p, rfl, S1⟩
  have H1 := Lib.hid (show Calls Try.prog 24 #[ptr p] w1 fun e w' => e = .returned (.int .i64 1) ∧ w' = w1 from S1.len)
  have H2 := Lib.hid (s_make S1 (by decide) (by decide) f1_ans f1_doc)
  clear S1
  go_wp2_with fail
  refine H1.out.mono ?_
  rintro e w1' ⟨rfl, rfl⟩
  go_wp2_with fail
  refine H2.out.mono ?_
  rintro e w2 ⟨rfl, S2⟩
  have H3 := Lib.hid (s_ins S2 i_F1.wf (by decide) f2_ins)
  clear S2 H1 H2
  go_wp2_with fail
  refine H3.out.mono ?_
  rintro e w3 ⟨rfl, S3⟩
  have H4 := Lib.hid (s_ins S3 i_F2.wf (by decide) f2_self)
  clear S3 H3
  go_wp2_with fail
  refine H4.out.mono ?_
  rintro e w4 ⟨rfl, S4⟩
  have H5 := Lib.hid (s_make S4 (by decide) (by decide) f3_ans f3_doc)
  clear S4 H4
  go_wp2_with fail
  refine H5.out.mono ?_
  rintro e w5 ⟨rfl, S5⟩
  have H6 := Lib.hid (s_ins S5 i_F3.wf (by decide) f4_ins)
  clear S5 H5
  go_wp2_with fail
  refine H6.out.mono ?_
  rintro e w6 ⟨rfl, S6⟩
  have H7 := Lib.hid (s_ins S6 i_F4.wf (by decide) f4_text)
  clear S6 H6
  go_wp2_with fail
  refine H7.out.mono ?_
  rintro e w7 ⟨rfl, S7⟩
  have h8 := S7.attr i_F4 (by decide) 1 bId bV (by decide)
  rw [f5_ans, f5_doc] at h8
  have H8 := Lib.hid h8
  clear S7 H7 h8
  go_wp2_with fail
  refine H8.out.mono ?_
  rintro e w8 ⟨rfl, S8⟩
  have h9 := S8.drop i_F5 (by decide) 1 bX
  rw [f5_drop, f5_dropM] at h9
  have H9 := Lib.hid h9
  clear S8 H8 h9
  go_wp2_with fail
  refine H9.out.mono ?_
  rintro e w9 ⟨rfl, S9⟩
  have h10 := S9.clone i_F5 (by decide) (by decide) 1
  rw [f6_ans, f6_doc] at h10
  have H10 := Lib.hid h10
  clear S9 H9 h10
  go_wp2_with fail
  refine H10.out.mono ?_
  rintro e w10 ⟨rfl, S10⟩
  have H11 := Lib.hid (s_make S10 (by decide) (by decide) f6_make f6_makeM)
  clear S10 H10
  go_wp2_with fail
  refine H11.out.mono ?_
  rintro e w11 ⟨rfl, S11⟩
  obtain ⟨w12, hw12⟩ : ∃ w12, (w11.alloc (.cells #[.string ⟨#[105, 100]⟩, .string ⟨#[118]⟩] 63)).alloc (.cells #[.int .i64 0, .int .i64 0, .string ⟨#[112]⟩, .string ⟨#[]⟩, .slice (some ⟨w11.heap.size, 0, none⟩) 1 1, .int .i64 1, .int .i64 1, .string ⟨#[]⟩, .string ⟨#[120]⟩, .slice none 0 0] 65) = w12 := ⟨_, rfl⟩
  have hlit : Rv w12 (.slice (some ⟨w11.heap.size + 1, 0, none⟩) 2 2) (litL w11.heap.size) := by
    rw [← hw12]
    exact lit_new w11 _ rfl
  have hb12 : Below w11.heap.size w11 w12 := hw12 ▸ bt (below_new w11 _) (below_new _ _)
  have S12 := S11.below hb12
  have HR0 := Lib.hid (S12.rows i_F6 (by decide) (by decide) 0)
  have HL := Lib.hid hlit; have HS := Lib.hid S12
  have HW12 := Lib.hid hw12
  clear S11 H11 hlit hb12 S12 hw12
  go_wp2_with fail
  rw [HW12.out]
  refine HR0.out.mono ?_
  rintro e w13 ⟨v0, l0, rfl, hv0, hr0, hl0, _, _, hb13⟩
  have S13 := HS.out.below hb13
  have HL13 := Lib.hid (HL.out.below hb13)
  have hlit0 : decide (ros l0 = ros (litL w11.heap.size)) = true := decide_eq_true (by rw [hr0, f6_rows0]; rfl)
  have HSA := Lib.hid (refSame1 v0 _ l0 (litL w11.heap.size) w13 true hv0 HL13.out (Nat.le_trans hl0 (by decide)) (show (2 : Nat) ≤ 1000000 by decide) hlit0)
  have HS13 := Lib.hid S13
  clear S13 hv0 hr0 hl0 hb13 hlit0 HR0
  go_wp2_with fail
  refine HSA.out.mono ?_
  rintro e w14 ⟨rfl, hb14⟩
  have S14 := HS13.out.below hb14
  have HL14 := Lib.hid (HL13.out.below hb14)
  have HR3 := Lib.hid (S14.rows i_F6 (by decide) (by decide) 3)
  have HS14 := Lib.hid S14
  clear S14 hb14 HSA
  go_wp2_with fail
  refine HR3.out.mono ?_
  rintro e w15 ⟨v3, l3, rfl, hv3, hr3, hl3, _, _, hb15⟩
  have S15 := HS14.out.below hb15
  have HL15 := Lib.hid (HL14.out.below hb15)
  have hlit3 : decide (ros l3 = ros (litL w11.heap.size)) = true := decide_eq_true (by rw [hr3, f6_rows3]; rfl)
  have HSB := Lib.hid (refSame1 v3 _ l3 (litL w11.heap.size) w15 true hv3 HL15.out (Nat.le_trans hl3 (by decide)) (show (2 : Nat) ≤ 1000000 by decide) hlit3)
  have HS15 := Lib.hid S15
  clear S15 hv3 hr3 hl3 hb15 hlit3 HR3
  go_wp2_with fail
  refine HSB.out.mono ?_
  rintro e w16 ⟨rfl, hb16⟩
  have S16 := HS15.out.below hb16
  have HP2 := Lib.hid (S16.parent 2 1 rfl)
  have HP3 := Lib.hid (S16.parent 3 (-1) rfl)
  have HI := Lib.hid (S16.within i_F6.wf (by decide) 2 0 true ⟨fun _ => f6_in, fun _ => rfl⟩)
  have HO := Lib.hid (S16.within i_F6.wf (by decide) 3 0 false ⟨fun h => (by cases h), fun h => absurd h f6_out⟩)
  have HRM := Lib.hid (S16.remove i_F6.wf (by decide) 0 110 rfl)
  clear S16 hb16 HSB
  go_wp2_with fail
  refine HP2.out.mono ?_
  rintro e w17 ⟨rfl, rfl⟩
  go_wp2_with fail
  refine HP3.out.mono ?_
  rintro e w17 ⟨rfl, rfl⟩
  go_wp2_with fail
  refine HI.out.mono ?_
  rintro e w17 ⟨rfl, rfl⟩
  go_wp2_with fail
  refine HO.out.mono ?_
  rintro e w17 ⟨rfl, rfl⟩
  go_wp2_with fail
  refine HRM.out.mono ?_
  rintro e w18 ⟨rfl, S18⟩
  have HS18 := Lib.hid S18.bel
  clear S18
  go_wp2
  go_ret
  exact ⟨rfl, HS18.out⟩
end Go.Proofs.Ytmlchbohijolaaa.Ar

namespace Go.Proofs.Ytmlchbohijolaaa.Ar
set_option maxRecDepth 100000
set_option linter.unusedSimpArgs false
set_option linter.unusedVariables false
open Go.RowKit Ba
open Ro (At Ro Cw ros Rr Ow Nw Fr Att Ap Sh Ra Rv Held cells acells below_new infoI info_row len_cells rowV rowO Few check right refSame1)
def ocells (o : Op11) : List Value := [.int .i64 o.kind, .int .i64 o.node, .int .i64 o.other, .int .i64 o.at_, .int .i64 o.what, .string o.name, .string o.value, .slice o.A o.x.length o.c]
/-- A value reads as a script, below block K. -/
def Script (w : World) (K : Nat) (v : Value) (os : List Op11) : Prop := ∃ A c, v = .slice A os.length c ∧ os.length ≤ c ∧ c ≤ maxLen ∧ (0 < os.length → ∃ b off, A = some ⟨b, off, none⟩ ∧ b < K ∧ ∀ j (h : j < os.length), w.rangeAt b (off + j * 8) (ocells os[j])) ∧ ∀ o ∈ os, OpOk w K o
theorem OpOk.below {w w' : World} {K : Nat} {o : Op11} (h : OpOk w K o) (hb : Below K w w') : OpOk w' K o := ⟨h.cap, h.rows.below hb, h.held, h.name, h.what⟩
theorem Doc11.mono {w : World} {N N' : Nat} {F : Nat → Prop} {p : Nat} {M : List Nd} (h : Doc11 w N F p M) (hN : N' ≤ N) : Doc11 w N' F p M := by
  obtain ⟨rk, gX, cX, gU, cU, gR, cR, lX, D⟩ := h
  exact ⟨rk, gX, cX, gU, cU, gR, cR, lX, D.box, World.ownsRow.mono D.rows hN, fun x hx => ⟨(D.attrs x hx).1.mono hN, (D.attrs x hx).2⟩, D.same, World.ownsRow.mono D.ups hN, World.ownsRow.mono D.ranks hN, D.apart, Nat.le_trans hN D.low, D.fp, D.fx, D.fu, D.fr, D.rf, D.bd⟩
end Go.Proofs.Ytmlchbohijolaaa.Ar

namespace Go.Proofs.Ytmlchbohijolaaa.Ar
set_option maxRecDepth 100000
set_option linter.unusedSimpArgs false
set_option linter.unusedVariables false
open Go.RowKit Ba
open Ro (At Ro Cw ros Rr Ow Nw Fr Att Ap Sh Ra Rv Held cells acells below_new infoI info_row len_cells rowV rowO Few check right)
structure OneF (w0 w : World) (F : Nat → Prop) (p : Nat) (M : List Nd) : Prop where
  doc : Doc12 w w0.heap.size F p M
  low : ∀ b, F b → w0.heap.size ≤ b
  bel : Below w0.heap.size w0 w
def StepF (w0 w w' : World) (F : Nat → Prop) (p : Nat) (M' : List Nd) : Prop := ∃ F', OneF w0 w' F' p M' ∧ Next w w' F F'
section
variable {w0 w w' : World} {p : Nat} {M : List Nd} {F : Nat → Prop}
theorem One.of (S : One w0 w p M) : ∃ F, OneF w0 w F p M := by
  obtain ⟨F, D, hl, hB⟩ := S
  exact ⟨F, D, hl, hB⟩
theorem OneF.one (S : OneF w0 w F p M) : One w0 w p M := ⟨F, S.doc, S.low, S.bel⟩
theorem OneF.bd (S : OneF w0 w F p M) : ∀ b, F b → b < w.heap.size := S.doc.bd
theorem OneF.below (S : OneF w0 w F p M) (hb : Below w.heap.size w w') : OneF w0 w' F p M := ⟨S.doc.below hb, S.low, bt S.bel hb⟩
theorem step_of {M' : List Nd} {F' : Nat → Prop} (S : OneF w0 w F p M) (D : Doc12 w' w0.heap.size F' p M') (n : Next w w' F F') : StepF w0 w w' F p M' := by
  have hs := S.bel.size
  have hs' := n.1.size
  refine ⟨F', ⟨D, fun b h => ?_, ⟨n.1.os.trans S.bel.os, n.1.tape.trans S.bel.tape, n.1.output.trans S.bel.output, by omega, fun b h => (n.1.block b (by omega) fun hf => by have := S.low b hf; omega).trans (S.bel.block b h)⟩⟩, n⟩
  rcases n.2.2 b h with h | h
  · exact S.low b h
  · omega
theorem OneF.insert (S : OneF w0 w F p M) (W : Wf M) (hm : M.length ≤ 5000) (P A n a : Int) (M' : List Nd) (ha : insE M P A n = a) (hM : insM M P A n = M') : Calls Try.prog 27 #[ptr p, .int .i64 P, .int .i64 A, .int .i64 n] w fun e w' => e = .returned (.int .i64 a) ∧ StepF w0 w w' F p M' := by
  subst ha hM
  refine (insertP1 P A n w S.doc W hm).mono ?_
  rintro e w' ⟨rfl, F', D', N'⟩
  exact ⟨rfl, step_of S D' N'⟩
theorem OneF.remove (S : OneF w0 w F p M) (W : Wf M) (hm : M.length ≤ 5000) (n : Int) (q : Int) (M' : List Nd) (hq : (if 1 ≤ n ∧ n < M.length then (0 : Int) else 110) = q) (hM : remM M n = M') : Calls Try.prog 15 #[ptr p, .int .i64 n] w fun e w' => e = .returned (.int .i64 q) ∧ StepF w0 w w' F p M' := by
  subst hM
  refine (removeP1 n w S.doc W hm q hq).mono ?_
  rintro e w' ⟨rfl, F', D', N'⟩
  exact ⟨rfl, step_of S D' N'⟩
theorem OneF.clone {B : Nat} (S : OneF w0 w F p M) (I : Inv B M) (hB : B ≤ 1000000) (hm : M.length ≤ 1000) (n a b : Int) (M' : List Nd) (ha : cloneE M n = (a, b)) (hM : cloneM M n = M') : Calls Try.prog 30 #[ptr p, .int .i64 n] w fun e w' => e = .returned (.tuple #[.int .i64 a, .int .i64 b]) ∧ StepF w0 w w' F p M' := by
  subst hM
  have h := cloneP1 n w S.doc I.wf hm (I.few hB) (good_right I.wf I.good n)
  rw [ha] at h
  refine h.mono ?_
  rintro e w' ⟨rfl, F', D', N'⟩
  exact ⟨rfl, step_of S D' N'⟩
theorem OneF.attr {B : Nat} (S : OneF w0 w F p M) (I : Inv B M) (hB : B ≤ 1000000) (n : Int) (nm v : ByteArray) (hs : nm.size ≤ 140737488355328) (q : Int) (M' : List Nd) (hq : attrE11 M n nm = q) (hM : attrM11 M n nm v = M') : Calls Try.prog 16 #[ptr p, .int .i64 n, .string nm, .string v] w fun e w' => e = .returned (.int .i64 q) ∧ StepF w0 w w' F p M' := by
  subst hq hM
  refine (attrP1 n nm v w S.doc I.good (I.few hB) hs).mono ?_
  rintro e w' ⟨rfl, F', D', N'⟩
  exact ⟨rfl, step_of S D' N'⟩
theorem OneF.drop {B : Nat} (S : OneF w0 w F p M) (I : Inv B M) (hB : B ≤ 1000000) (n : Int) (nm : ByteArray) (q : Int) (M' : List Nd) (hq : dropE11 M n nm = q) (hM : dropM11 M n nm = M') : Calls Try.prog 33 #[ptr p, .int .i64 n, .string nm] w fun e w' => e = .returned (.int .i64 q) ∧ StepF w0 w w' F p M' := by
  subst hq hM
  refine (dropP1 n nm w S.doc I.good (I.few hB)).mono ?_
  rintro e w' ⟨rfl, F', D', N'⟩
  exact ⟨rfl, step_of S D' N'⟩
theorem OneF.data (S : OneF w0 w F p M) (n : Int) (d : ByteArray) (q : Int) (M' : List Nd) (hq : dataE M n = q) (hM : dataM M n d = M') : Calls Try.prog 32 #[ptr p, .int .i64 n, .string d] w fun e w' => e = .returned (.int .i64 q) ∧ StepF w0 w w' F p M' := by
  subst hq hM
  refine (dataP1 n d w S.doc).mono ?_
  rintro e w' ⟨rfl, F', D', N'⟩
  exact ⟨rfl, step_of S D' N'⟩
theorem OneF.make (S : OneF w0 w F p M) (hm : M.length ≤ 5000) (k : Int) (n d : ByteArray) (hs : n.size ≤ 140737488355328) (a b : Int) (M' : List Nd) (ha : makeE M k n d = (a, b)) (hM : makeM M k n d = M') : Calls Try.prog 14 #[ptr p, .int .i64 k, .string n, .string d] w fun e w' => e = .returned (.tuple #[.int .i64 a, .int .i64 b]) ∧ StepF w0 w w' F p M' := by
  subst hM
  have h := makeP1 k n d w S.doc hm hs
  rw [ha] at h
  refine h.mono ?_
  rintro e w' ⟨rfl, F', D', N'⟩
  exact ⟨rfl, step_of S D' N'⟩
/-- Rows that were made behind a document are kept while only that is touched. -/
theorem rows_kept {w1 w2 : World} {K : Nat} {v : Value} {l : List Cw} (h : Rv w1 v l) (ho : Ow K w1 v l) (hf : ∀ x ∈ l, Fr K w1 x) (hK : ∀ b, F b → b < K) (t : Touch F w1 w2) : Rv w2 v l := by
  obtain ⟨A, c, rfl, hc, hm, hr, hh⟩ := h
  refine rv_keep hr hc hm hh hf (fun b hb => ?_) hK t
  exact own_blk ho.1 hb
end
/-- The answer of Rows and Same. -/
theorem OneF.rows {w0 w : World} {p : Nat} {M : List Nd} {F : Nat → Prop} {B : Nat} (S : OneF w0 w F p M) (I : Inv B M) (hB : B ≤ 1000000) (hm : M.length ≤ 5000) (n : Int) : Calls Try.prog 21 #[ptr p, .int .i64 n] w fun e w' => ∃ v l, e = .returned v ∧ ros l = rowsM M n ∧ l.length ≤ 5000 ∧ OneF w0 w' F p M ∧ (∀ w2 F', Next w' w2 F F' → Rv w2 v l) ∧ Below w.heap.size w w' := by
  refine (S.one.rows I hB hm n).mono ?_
  rintro e w' ⟨v, l, rfl, hv, hr, hl, ho, hf, hb⟩
  exact ⟨v, l, rfl, hr, by omega, S.below hb, fun w2 F' n => rows_kept hv ho hf S.bd n.1, hb⟩
end Go.Proofs.Ytmlchbohijolaaa.Ar

namespace Go.Proofs.Ytmlchbohijolaaa.Rz
set_option maxRecDepth 100000
set_option linter.unusedVariables false
set_option linter.unusedSimpArgs false
open Go.RowKit Ba Go.ChangeShapes Go.WideShapes Go.Deep
open Ro (At Ro Cw ros Rv Rr Att Held cells acells Ra Sh)
/-- Each string that is read there, and each row of memory, is within the reach. -/
def Within {H : Type} (P : Program) (t : TypeId) (d : DataW H) : Prop := ∀ m ∈ d.weights P t, m ≤ reachBytes
theorem within_all {H : Type} {P : Program} {e : TypeId} {d : DataW H} {m : Nat} : ∀ {l : List (DataW H)}, d ∈ l → m ∈ d.weights P e → m ∈ DataW.weightsAll P e l
  | [], h, _ => by cases h
  | x :: r, h, hm => by
    rw [DataW.weightsAll, List.mem_append]
    rcases List.mem_cons.1 h with rfl | h
    · exact .inl hm
    · exact .inr (within_all h hm)
theorem Within.elem {H : Type} {P : Program} {t e : TypeId} {l sp : List (DataW H)} {d : DataW H} (h : Within P t (.slice l sp)) (ht : P.underlying t = some (.slice e)) (hd : d ∈ l) : Within P e d := fun m hm => h m (by
  simp only [DataW.weights, ht, List.mem_cons, List.mem_append]
  exact .inr (.inl (within_all hd hm)))
theorem Within.part {H : Type} {P : Program} {t : TypeId} {fs : Array Field} {l : List (DataW H)} {d : DataW H} {j : Nat} {f : Field} (h : Within P t (.agg l)) (ht : P.underlying t = some (.struct fs)) (hf : fs[j]? = some f) (hd : l[j]? = some d) : Within P f.type d := fun m hm => h m (by
  simp only [DataW.weights, ht]
  exact DataW.weights_mem_each (j := j) (by rw [List.getElem?_map, Array.getElem?_toList, hf]; rfl) hd m hm)
theorem Within.str {H : Type} {P : Program} {t : TypeId} {s : ByteArray} (h : Within P t (.lit (.string s.data.toList) : DataW H)) : s.size ≤ reachBytes := by
  have := h s.data.toList.length (by simp [DataW.weights])
  rw [Array.length_toList] at this
  exact this
theorem sized_all {H : Type} {P : Program} {ts : List TypeId} {ds : List (DataW H)} (h : (DataW.weightsEach P ts ds).all (· ≤ reachBytes) = true) {j : Nat} {t : TypeId} {d : DataW H} (ht : ts[j]? = some t) (hd : ds[j]? = some d) : Within P t d := fun m hm => by
  have := List.all_eq_true.1 h m (DataW.weights_mem_each ht hd m hm)
  simpa using this

theorem reach_le {n : Nat} (h : n ≤ reachBytes) : n ≤ 140737488355328 := Nat.le_trans h (by decide)
section
variable {H : Type} {enc : TypeId × Value → H} {w : World} {base : Nat}
end
end Go.Proofs.Ytmlchbohijolaaa.Rz

namespace Go.Proofs.Ytmlchbohijolaaa.Fo
set_option maxRecDepth 100000
set_option linter.unusedSimpArgs false
set_option linter.unusedVariables false
open Go.RowKit Ba Go.ChangeShapes Go.WideShapes Go.ChangeAt
theorem cells_str : Try.prog.cellsOf 9 = 1 := by kernel_rfl
theorem laidOut : laidOutB Try.prog = true := by kernel_rfl

end Go.Proofs.Ytmlchbohijolaaa.Fo

namespace Go.Proofs.Ytmlchbohijolaaa.Ar
set_option maxRecDepth 100000
set_option linter.unusedSimpArgs false
set_option linter.unusedVariables false
open Go.RowKit Ba
open Ro (At Ro Cw ros Rr Ow Nw Fr Att Ap Sh Ra Rv Held cells acells len_acells acells_one info_attr below_new infoI info_row len_cells rowV rowO Few check right)
open Na (mayB)
open To (Aw attr_cells_new)
def bB : ByteArray := ⟨#[98]⟩
def docA (W : List At) : List Nd := [⟨ro00, -1, []⟩, ⟨⟨0, 0, bB, ⟨#[]⟩, W⟩, -1, []⟩]
theorem a_make : makeE M0 0 bB ⟨#[]⟩ = (1, 0) := by kernel_rfl
theorem a_doc : makeM M0 0 bB ⟨#[]⟩ = docA [] := by kernel_rfl
theorem a_el (W : List At) : elB11 (docA W) 1 = true := rfl
theorem a_set {W : List At} {nm v : ByteArray} (h : mayB nm true = true) : attrM11 (docA W) 1 nm v = docA (atSet W nm v) := by
  unfold attrM11
  rw [a_el, h]
  rfl
theorem a_ok {W : List At} {nm : ByteArray} (h : mayB nm true = true) : attrE11 (docA W) 1 nm = 0 := by
  unfold attrE11
  rw [a_el, h]
  rfl
theorem a_not {W : List At} {nm v : ByteArray} (h : mayB nm true = false) : attrM11 (docA W) 1 nm v = docA W ∧ attrE11 (docA W) 1 nm = 1 := by
  unfold attrM11 attrE11
  rw [a_el, h]
  exact ⟨rfl, rfl⟩
theorem a_row (W : List At) : rowAns (docA W) 1 = ⟨0, 0, bB, ⟨#[]⟩, W⟩ := rfl
theorem map_id {f : At → At} : ∀ {l : List At}, (∀ a ∈ l, f a = a) → l.map f = l
  | [], _ => rfl
  | a :: r, h => by rw [List.map_cons, h a List.mem_cons_self, map_id fun x hx => h x (List.mem_cons_of_mem _ hx)]
theorem set_twice {W : List At} {nm f v : ByteArray} (hW : ∀ a ∈ W, a.value = v) : atSet (atSet W nm f) nm v = if putB W nm = true then W else W ++ [(⟨nm, v⟩ : At)] := by
  by_cases hp : putB W nm = true
  · have h1 : atSet W nm f = W.map (atF nm f) := by unfold atSet; rw [if_pos hp]
    have hp2 : putB (W.map (atF nm f)) nm = true := by
      obtain ⟨a, ha, hn⟩ := put_iff.1 hp
      exact put_iff.2 ⟨_, List.mem_map.2 ⟨a, ha, rfl⟩, by rw [atF_name]; exact hn⟩
    rw [h1, if_pos hp]
    unfold atSet
    rw [if_pos hp2, List.map_map]
    refine map_id fun a ha => ?_
    show atF nm v (atF nm f a) = a
    unfold atF
    by_cases e : a.name = nm
    · rw [if_pos e, if_pos e]
      show (⟨a.name, v⟩ : At) = a
      rw [← hW a ha]
    · rw [if_neg e, if_neg e]
  · have hno : ∀ (g : ByteArray), ∀ a ∈ W, atF nm g a = a := fun g a ha => by
      unfold atF
      rw [if_neg fun e => hp (put_iff.2 ⟨a, ha, e⟩)]
    have h1 : atSet W nm f = W ++ [(⟨nm, f⟩ : At)] := by
      unfold atSet
      rw [if_neg hp, map_id (hno f)]
    rw [h1, if_neg hp]
    unfold atSet
    rw [if_pos (put_iff.2 ⟨⟨nm, f⟩, List.mem_append_right _ (List.mem_singleton.2 rfl), rfl⟩), List.map_append, map_id (hno v)]
    congr 1
    show [atF nm v ⟨nm, f⟩] = _
    unfold atF
    rw [if_pos rfl]
/-- The law's list: each name once, with the value. -/
structure Want (W : List At) (v : ByteArray) : Prop where
  val : ∀ a ∈ W, a.value = v
  once : W.Pairwise fun a b => b.name ≠ a.name
theorem want_nil (v : ByteArray) : Want [] v := ⟨fun a ha => absurd ha (by simp), List.Pairwise.nil⟩
theorem Want.add {W : List At} {v nm : ByteArray} (h : Want W v) (hp : putB W nm = false) : Want (W ++ [⟨nm, v⟩]) v := by
  refine ⟨fun a ha => ?_, List.pairwise_append.2 ⟨h.once, List.pairwise_singleton _ _, fun a ha b hb e => ?_⟩⟩
  · rcases List.mem_append.1 ha with ha | ha
    · exact h.val a ha
    · rw [List.mem_singleton.1 ha]
  · rw [List.mem_singleton.1 hb] at e
    have := put_iff.2 ⟨a, ha, e.symm⟩
    rw [hp] at this
    cases this
theorem want_drop {W : List At} {v : ByteArray} (h : Want W v) {k : Nat} (hk : k < W.length) : dropL (W.drop k) W[k].name = W.drop (k + 1) := by
  have hd := List.drop_eq_getElem_cons hk
  have hp : (W.drop k).Pairwise fun a b => b.name ≠ a.name := h.once.sublist (List.drop_sublist k W)
  rw [hd] at hp ⊢
  unfold dropL
  rw [List.filter_cons, if_neg (by simp), List.filter_eq_self]
  intro b hb
  have := (List.pairwise_cons.1 hp).1 b hb
  simp [this]
theorem a_drop {W : List At} {v : ByteArray} (h : Want W v) {k : Nat} (hk : k < W.length) : dropE11 (docA (W.drop k)) 1 W[k].name = 0 ∧ dropM11 (docA (W.drop k)) 1 W[k].name = docA (W.drop (k + 1)) := by
  have h1 := want_drop h hk
  have hne : ¬ (dropL (nd (docA (W.drop k)) (1 : Int).toNat).ro.attrs W[k].name).length = (nd (docA (W.drop k)) (1 : Int).toNat).ro.attrs.length := by
    show ¬ (dropL (W.drop k) W[k].name).length = (W.drop k).length
    rw [h1, List.length_drop, List.length_drop]
    omega
  unfold dropE11 dropM11
  rw [a_el]
  refine ⟨by rw [if_pos rfl, if_neg hne], ?_⟩
  rw [decide_eq_false hne]
  show docA (dropL (W.drop k) W[k].name) = _
  rw [h1]
theorem put_take {W : List At} {nm : ByteArray} {k : Nat} (hk : k < W.length) : putB (W.take (k + 1)) nm = (putB (W.take k) nm || decide (W[k].name = nm)) := by
  unfold putB
  rw [List.take_add_one, List.getElem?_eq_getElem hk, List.any_append]
  simp
/-! ### In memory. -/
theorem aw_ra {N : Nat} {w : World} {v : Value} {l : List At} (h : Aw N w v l) : ∃ A c, v = .slice A l.length c ∧ l.length ≤ c ∧ c ≤ maxLen ∧ Ra w w.heap.size A l := by
  rcases h.1.2 with ⟨hv, hl⟩ | ⟨g, cap, cur, hv, hg, hh, hn, hm, hs, ht⟩
  · have : l = [] := List.eq_nil_of_length_eq_zero hl
    subst this
    exact ⟨none, 0, hv, Nat.le_refl _, Nat.zero_le _, Ra.nil _ _ _⟩
  · refine ⟨some ⟨g, 0, none⟩, cap, hv, hn, hm, fun _ => ⟨g, 0, rfl, (Array.getElem?_eq_some_iff.1 hh).1, fun j hj i u hu => ?_⟩⟩
    have hi : i < 2 := (List.getElem?_eq_some_iff.1 hu).1
    subst hv
    have := World.ownsRow.cells h.1 (g := g) rfl (j * 2 + i) u (by rw [Ro.flat_at acells 2 len_acells _ _ _ hj hi]; exact hu)
    rw [WideShapes.add_plain] at this
    rw [show 0 + j * 2 + i = 0 + (j * 2 + i) from by omega]
    exact this
theorem aw_touch {K : Nat} {F : Nat → Prop} {w w' : World} {u : Value} {l : List At} (h : Aw K w u l) (t : Touch F w w') (hn : ∀ b, u.ownBlock = some b → ¬ F b) : Aw K w' u l := ⟨owns_block h.1 fun g hg => t.block g (owns_lt h.1 hg).2.1 (hn g hg), h.2⟩
theorem aw_apart {K : Nat} {F F' : Nat → Prop} {w w' : World} {u : Value} {l : List At} (h : Aw K w u l) (n : Next w w' F F') (hn : ∀ b, u.ownBlock = some b → ¬ F b) : ∀ b, u.ownBlock = some b → ¬ F' b := fun b hb hf => by
  rcases n.2.2 b hf with h1 | h1
  · exact hn b hb h1
  · have := (owns_lt h.1 hb).2.1
    omega
theorem app_attrG {ops : Array Oper} {rest : List Oper} {o : Oper} {a : Act} {Q : Exit → Act → World → Prop} (w : World) (hgd : o.guard = none) (s x : Operand)
    (ho : o.op = .call { callee := .builtin .append, args := #[s, x], argTypes := #[61, 61] })
    (N : Nat) (v : Value) (l : List At) (y : At) (hs : a.eval s = v) (hown : Aw N w v l) (hy : y.name.size ≤ maxLen) (g : Nat) (hgz : g = w.heap.size) (hx : a.eval x = .slice (some ⟨g, 0, none⟩) 1 1)
    (hl : l.length ≤ 4000000000) (hN : N ≤ w.heap.size)
    (h : ∀ v' w', Aw N w' v' (l ++ [y]) → w.grownBy w' v.ownBlock → (∀ b, v'.ownBlock = some b → v.ownBlock = some b ∨ w.heap.size ≤ b) → wpList Try.prog ops Q rest (a.put o.dst v') w') :
    wpList Try.prog ops Q (o :: rest) a (w.alloc (.cells #[.string y.name, .string y.value] 63)) := by
  subst hgz
  obtain ⟨i0, hi, hz0, hz1, hz2⟩ := info_parts info_attr
  have hown' : Aw N (w.alloc (.cells #[.string y.name, .string y.value] 63)) v l := hown.alloc _
  have hsz : (w.alloc (.cells #[.string y.name, .string y.value] 63)).heap.size = w.heap.size + 1 := by simp
  refine wpList_append_lies _ hgd s x 61 ho N 63 i0 _ 2 32 Try.underlying61 hi hz0 hz1 hz2 rfl (by decide) v l.length (l.flatMap acells) hs hown'.1 ⟨w.heap.size, 0, none⟩ 1 1 (acells y) hx rfl (attr_cells_new w y) (by intro u hu; simp [acells] at hu; rcases hu with rfl | rfl <;> rfl) (by simp) (by unfold maxLen; omega) (by omega) (by omega) _ rfl ?_
  intro g' c' w' ho2 hg2 hl2 _
  refine h _ w' ⟨?_, fun z hz => ?_⟩ ((World.grownBy_alloc w _ _).trans hg2) fun b hb => ?_
  · rw [List.length_append, List.flatMap_append]
    simp only [List.flatMap_cons, List.flatMap_nil, List.append_nil, List.length_singleton]
    exact ho2
  · rcases List.mem_append.1 hz with hz | hz
    · exact hown.2 z hz
    · rw [List.mem_singleton.1 hz]
      exact hy
  · obtain rfl : g' = b := Option.some.inj hb
    rcases hl2 with h | h
    · exact .inl h
    · exact .inr (by rw [h, hsz]; omega)
end Go.Proofs.Ytmlchbohijolaaa.Ar

namespace Go.Proofs.Ytmlchbohijolaaa.Ar
set_option maxRecDepth 100000
set_option linter.unusedSimpArgs false
set_option linter.unusedVariables false
open Go.RowKit Ba
open Ro (At Ro Cw ros Rr Ow Nw Fr Att Ap Sh Ra Rv Held cells acells below_new infoI info_row len_cells rowV rowO Few check right)
def Pair (w0 w : World) (p1 p2 B : Nat) (M : List Nd) : Prop := ∃ F1 F2, Two w w0.heap.size w0.heap.size p1 p2 F1 F2 B M M ∧ Below w0.heap.size w0 w
section
variable {w0 w w' : World} {p1 p2 B : Nat} {M : List Nd}
theorem Pair.bel (S : Pair w0 w p1 p2 B M) : Below w0.heap.size w0 w := by
  obtain ⟨_, _, _, h⟩ := S
  exact h
theorem Pair.inv (S : Pair w0 w p1 p2 B M) : Inv B M := by
  obtain ⟨_, _, h, _⟩ := S
  exact h.i1
theorem Two.below {N K : Nat} {F1 F2 : Nat → Prop} {M2 : List Nd} (T : Two w N K p1 p2 F1 F2 B M M2) (hb : Below w.heap.size w w') : Two w' N K p1 p2 F1 F2 B M M2 := ⟨T.d1.below hb, T.d2.below hb, T.apart, T.low1, T.low2, T.i1, T.i2, T.l1, T.l2, T.few, Nat.le_trans T.hK hb.size⟩
theorem Pair.below (S : Pair w0 w p1 p2 B M) (hb : Below w.heap.size w w') : Pair w0 w' p1 p2 B M := by
  obtain ⟨F1, F2, T, h⟩ := S
  exact ⟨F1, F2, T.below hb, bt h hb⟩
theorem Pair.one (S : Pair w0 w p1 p2 B M) : One w0 w p1 M := by
  obtain ⟨F1, F2, T, h⟩ := S
  exact ⟨F1, T.d1, T.low1, h⟩
theorem Pair.x (S : Pair w0 w p1 p2 B M) : ∃ g c, w.cell? ⟨p2, 0, none⟩ = some (.slice (some ⟨g, 0, none⟩) M.length c) ∧ p2 < w.heap.size := by
  obtain ⟨F1, F2, T, h⟩ := S
  obtain ⟨rk, gX, cX, gU, cU, gR, cR, lX, D⟩ := T.d2
  exact ⟨gX, cX, D.rd.x, D.rd.lt⟩
theorem Pair.new {w1 w2 : World} {F1 F2 : Nat → Prop} (D1 : Doc12 w1 w0.heap.size F1 p1 M0) (h1 : Below w0.heap.size w0 w1) (l1 : ∀ b, F1 b → w0.heap.size ≤ b) (D2 : Doc11 w2 w1.heap.size F2 p2 M0) (h2 : Below w1.heap.size w1 w2) (l2 : ∀ b, F2 b → w1.heap.size ≤ b) : Pair w0 w2 p1 p2 4 M0 := by
  have hs := h1.size
  have hs2 := h2.size
  exact ⟨F1, F2, ⟨D1.below h2, D2.mono hs, fun b ha hb => by have := D1.bd b ha; have := l2 b hb; omega, l1, fun b h => Nat.le_trans hs (l2 b h), i_M0, i_M0, by decide, by decide, by decide, by omega⟩, bt h1 h2⟩
end
end Go.Proofs.Ytmlchbohijolaaa.Ar

namespace Go.Proofs.Ytmlchbohijolaaa.Ar
set_option linter.unusedSimpArgs false
set_option linter.unusedVariables false
end Go.Proofs.Ytmlchbohijolaaa.Ar

namespace Go.Proofs.Ytmlchbohijolaaa.Ar
set_option maxRecDepth 100000
set_option linter.unusedSimpArgs false
set_option linter.unusedVariables false
open Go.RowKit Ba
open Ro (At Ro Cw ros Rr Ow Nw Fr Att Ap Sh Ra Rv Held cells acells below_new infoI info_row len_cells rowV rowO Few check right refSame1)
theorem Script.to {w w' : World} {v : Value} {os : List Op11} (h : Script w w.heap.size v os) (hb : Below w.heap.size w w') : Script w' w'.heap.size v os := by
  obtain ⟨A, c, rfl, hc, hm, hat, hok⟩ := h
  have hs := hb.size
  refine ⟨A, c, rfl, hc, hm, fun h0 => ?_, fun o ho => ?_⟩
  · obtain ⟨b, off, hA, hbl, hcell⟩ := hat h0
    exact ⟨b, off, hA, by omega, fun j hj i u hu => (hb.cell (p := ⟨b, _, none⟩) hbl).trans (hcell j hj i u hu)⟩
  · have h1 := (hok o ho).below hb
    exact ⟨h1.cap, h1.rows.more hs, h1.held, h1.name, h1.what⟩
theorem bel_eq {w w1 w2 : World} {n : Nat} (h : Below n w w1) (he : w2.heap = w1.heap) (ho : w2.os = w1.os) (ht : w2.tape = w1.tape) (hp : w2.output = w1.output) : Below n w w2 := ⟨ho.trans h.os, ht.trans h.tape, hp.trans h.output, by rw [he]; exact h.size, fun b hb => by rw [he]; exact h.block b hb⟩
end Go.Proofs.Ytmlchbohijolaaa.Ar

namespace Go.Proofs.Ytmlchbohijolaaa.Ar
set_option linter.unusedVariables false
end Go.Proofs.Ytmlchbohijolaaa.Ar

namespace Go.Proofs.Ytmlchbohijolaaa.Ar
set_option maxRecDepth 100000
set_option linter.unusedSimpArgs false
set_option linter.unusedVariables false
open Go.RowKit Ba
open Ro (At Ro Cw ros Rr Ow Nw Fr Att Ap Sh Ra Rv Held cells acells below_new infoI info_row len_cells rowV rowO Few check right refSame1)
/-- A call's eight cells, in a later world. -/
theorem Script.cells {w wr : World} {os : List Op11} {A : Option Addr} {c : Nat} (S : Script w w.heap.size (.slice A os.length c) os) (hb : Below w.heap.size w wr) {j : Nat} (hj : j < os.length) : ∃ b off, A = some ⟨b, off, none⟩ ∧ b < w.heap.size ∧ ∀ i u, (ocells os[j])[i]? = some u → wr.cell? ⟨b, off + j * 8 + i, none⟩ = some u := by
  obtain ⟨A', c', he, hc, hm, hat, hok⟩ := S
  injection he with h1 h2 h3
  subst h1 h3
  obtain ⟨b, off, hA, hbl, hcell⟩ := hat (by omega)
  exact ⟨b, off, hA, hbl, fun i u hu => (hb.cell (p := ⟨b, off + j * 8 + i, none⟩) hbl).trans (hcell j hj i u hu)⟩
theorem Script.form {w : World} {K : Nat} {v : Value} {os : List Op11} (S : Script w K v os) : ∃ A c, v = .slice A os.length c ∧ os.length ≤ c ∧ c ≤ maxLen ∧ ∀ o ∈ os, OpOk w K o := by
  obtain ⟨A, c, rfl, hc, hm, hat, hok⟩ := S
  exact ⟨A, c, rfl, hc, hm, hok⟩
end Go.Proofs.Ytmlchbohijolaaa.Ar

namespace Go.Proofs.Ytmlchbohijolaaa.Ar
set_option maxRecDepth 100000
set_option linter.unusedSimpArgs false
set_option linter.unusedVariables false
open Go.RowKit Ba
open Ro (At Ro Cw ros Rr Ow Nw Fr Att Ap Sh Ra Rv Held cells acells below_new infoI info_row len_cells rowV rowO Few check right refSame1 refAttrs_any)
open Na (mayB)
open To (Aw)
open Fo (Sv)
theorem aw_below11 {K : Nat} {w w' : World} {u : Value} {l : List At} (h : Aw K w u l) (hb : Below w.heap.size w w') : Aw K w' u l := aw_touch (F := fun _ => False) h (Touch.of_below hb) fun _ _ h => h
/-- The law's loop: the document and the list. -/
structure Atw (w0 w : World) (F : Nat → Prop) (p B : Nat) (W W' : List At) (v : Value) (value : ByteArray) : Prop where
  one : OneF w0 w F p (docA W')
  inv : Inv B (docA W')
  want : Want W value
  own : Aw w0.heap.size w v W
  apart : ∀ b, v.ownBlock = some b → ¬ F b
section
variable {w0 w w' : World} {F F' : Nat → Prop} {p B : Nat} {W W' W2 : List At} {v : Value} {value : ByteArray}
theorem Atw.below (T : Atw w0 w F p B W W' v value) (hb : Below w.heap.size w w') : Atw w0 w' F p B W W' v value := ⟨T.one.below hb, T.inv, T.want, aw_below11 T.own hb, T.apart⟩
theorem Atw.drewN (T : Atw w0 w F p B W W' v value) (n : Nat) : Atw w0 (w.drewN n) F p B W W' v value := T.below (below_dN11 (Below.refl _ _) n)
theorem Atw.step (T : Atw w0 w F p B W W' v value) {B2 : Nat} (S : OneF w0 w' F' p (docA W2)) (n : Next w w' F F') (I : Inv B2 (docA W2)) : Atw w0 w' F' p B2 W W2 v value := ⟨S, I, T.want, aw_touch T.own n.1 T.apart, aw_apart T.own n T.apart⟩
theorem Atw.append {v' : Value} {nm : ByteArray} (T : Atw w0 w F p B W (W ++ [⟨nm, value⟩]) v value) (hp : putB W nm = false) (ho : Aw w0.heap.size w' v' (W ++ [⟨nm, value⟩])) (hg : w.grownBy w' v.ownBlock) (hk : ∀ b, v'.ownBlock = some b → v.ownBlock = some b ∨ w.heap.size ≤ b) : Atw w0 w' F p B (W ++ [⟨nm, value⟩]) (W ++ [⟨nm, value⟩]) v' value := by
  have hs := T.one.bel.size
  refine ⟨⟨T.one.doc.grown hg T.apart, T.one.low, ⟨hg.os.trans T.one.bel.os, hg.tape.trans T.one.bel.tape, hg.output.trans T.one.bel.output, Nat.le_trans hs hg.size, fun b hb => (hg.block b (by omega) fun e => ?_).trans (T.one.bel.block b hb)⟩⟩, T.inv, T.want.add hp, ho, fun b hb hf => ?_⟩
  · have := (owns_lt T.own.1 e.symm).1
    omega
  · rcases hk b hb with h | h
    · exact T.apart b h hf
    · have := T.one.bd b hf
      omega
end
theorem wrap_small {n : Int} (h1 : 0 ≤ n) (h2 : n ≤ 1000000) : IntKind.i64.wrap n = n := by
  rw [IntKind.wrap_i64]
  omega
theorem attrs_rest {b8 o8 c8 k yc2 : Nat} {yA2 : Option Addr} {W : List At} {wx : World} (hW : Ra wx wx.heap.size (some ⟨b8, o8, none⟩) W) (hc8 : W.length ≤ c8) (hm8 : c8 ≤ maxLen) (hk : k < W.length) (hy : Ra wx wx.heap.size yA2 (W.drop (k + 1))) (hyc : (W.drop (k + 1)).length ≤ yc2) (hym : yc2 ≤ maxLen) :
    Calls Try.prog 35 #[.slice yA2 (W.length - (k + 1)) yc2, .slice (if c8 = k + 1 then some ⟨b8, o8, none⟩ else some ⟨b8, o8 + (k + 1) * 2, none⟩) (W.length - (k + 1)) (c8 - (k + 1))] wx fun e w' => e = .returned (.bool true) ∧ ∃ n, w' = wx.drewN n := by
  have hB : Ra wx wx.heap.size (if c8 = k + 1 then some ⟨b8, o8, none⟩ else some ⟨b8, o8 + (k + 1) * 2, none⟩) (W.drop (k + 1)) := fun h0 => by
    rw [List.length_drop] at h0
    obtain ⟨b, off, he, hb, hc⟩ := hW (by omega)
    injection he with he
    injection he with he1 he2
    subst he1 he2
    refine ⟨b8, o8 + (k + 1) * 2, by rw [if_neg (by omega)], hb, fun j hj => ?_⟩
    rw [List.length_drop] at hj
    have := hc (k + 1 + j) (by omega)
    rw [show o8 + (k + 1) * 2 + j * 2 = o8 + (k + 1 + j) * 2 from by omega]
    simpa using this
  have h := refAttrs_any yA2 (if c8 = k + 1 then some ⟨b8, o8, none⟩ else some ⟨b8, o8 + (k + 1) * 2, none⟩) yc2 (c8 - (k + 1)) (W.drop (k + 1)) (W.drop (k + 1)) wx hy hB hyc (by rw [List.length_drop]; omega) hym (by omega)
  rw [List.length_drop, decide_eq_true rfl] at h
  exact h
def bFirst : ByteArray := ⟨#[102, 105, 114, 115, 116]⟩
set_option maxRecDepth 100000 in
set_option maxHeartbeats 8000000 in
theorem law_attrs (v : Value) (value : ByteArray) (l : List ByteArray) (w : World) (hs : Sv w w.heap.size v l) (hz : ∀ s ∈ l, s.size ≤ 140737488355328) : Calls Try.prog 9 #[v, .string value] w fun e w' => e = .returned (.bool true) ∧ Below w.heap.size w w' := by
  obtain ⟨A, c, rfl, hc, hA, hrd⟩ := hs
  have HRD := Lib.hid hrd; have HZ := Lib.hid hz
  clear hrd hz
  go_enter Try.func9, Try.ntmps9
  go_wp2_with fail
  refine (One.new w w (Below.refl _ _)).mono ?_
  rintro e w1 ⟨p, rfl, S1⟩
  obtain ⟨F1, SF1⟩ := S1.of
  have HM1 := Lib.hid (SF1.make (by decide) 0 bB ⟨#[]⟩ (by decide) 1 0 _ a_make a_doc)
  have I0 : Inv 4 (docA []) := a_doc ▸ i_M0.make 0 bB ⟨#[]⟩
  have HI0 := Lib.hid I0
  clear S1 SF1 I0
  go_wp2_with fail
  refine HM1.out.mono ?_
  rintro e w2 ⟨rfl, F2, S2, N2⟩
  obtain ⟨w3, hw3⟩ : ∃ w3, w2.alloc (.cells #[] 63) = w3 := ⟨_, rfl⟩
  have hb3 : Below w2.heap.size w2 w3 := hw3 ▸ below_new w2 _
  have hown : Aw w.heap.size w3 (.slice (some ⟨w2.heap.size, 0, none⟩) 0 0) [] := hw3 ▸ ⟨World.ownsRow.mono (World.ownsRow_made w2 #[] 0 (Nat.le_refl _) (Nat.zero_le _) rfl) S2.bel.size, fun _ h => by cases h⟩
  have HT0 := Lib.hid (show Atw w w3 F2 p 4 [] [] (.slice (some ⟨w2.heap.size, 0, none⟩) 0 0) value from ⟨S2.below hb3, HI0.out, want_nil value, hown, fun b hb hf => by have := S2.bd b hf; have : w2.heap.size = b := Option.some.inj hb; omega⟩)
  have HW3 := Lib.hid hw3
  clear S2 N2 HM1 HI0 hb3 hown hw3
  go_upto_block 0 with (fail)
  rw [HW3.out]
  go_cut [8, 9] from 26 to 81 (fun s8 s9 wx => ∃ (W : List At) (F : Nat → Prop), Atw w wx F p 60 W W s8 value ∧ W.length ≤ 20)
  case first =>
    go_wp2_with fail
    go_loopw [8, 9] (fun s8 i wx => ∃ (j : Nat) (W : List At) (F : Nat → Prop), i = .int .i64 j ∧ j ≤ 20 ∧ W.length ≤ j ∧ Atw w wx F p (4 + 2 * j) W W s8 value) (fun _ i _ => 20 - (intOf i).toNat)
    case atStart => exact ⟨0, [], F2, rfl, by omega, by simp, HT0.out⟩
    case round =>
      clear HT0 HW3
      obtain ⟨j, W, F, rfl, hj, hWl, T⟩ := hrel
      have HT := Lib.hid T
      clear T
      by_cases h1 : j < l.length
      · have hj1 : (j : Int) < l.length := by omega
        by_cases h2 : j < 20
        · have hj2 : (j : Int) < 20 := by omega
          obtain ⟨bl, ol, hAl, hbl, hcl⟩ := HRD.out (by omega)
          obtain ⟨nm, hnm⟩ : ∃ nm, l[j] = nm := ⟨_, rfl⟩
          have hzn := HZ.out nm (hnm ▸ List.getElem_mem h1)
          have hc0 := (HT.out.one.bel.cell (p := ⟨bl, ol + j, none⟩) hbl).trans (hcl j h1)
          rw [hnm] at hc0
          have HCL := Lib.hid (fun (wx : World) (hb : Below w.heap.size w wx) => ((hb.cell (p := ⟨bl, ol + j, none⟩) hbl).trans ((hcl j h1).trans (by rw [hnm])) : wx.cell? ⟨bl, ol + j, none⟩ = some (.string nm)))
          subst hAl
          have HZN := Lib.hid hzn
          clear hnm hcl hzn
          by_cases hmay : mayB nm true = true
          · have HA1 := Lib.hid (HT.out.one.attr HT.out.inv (by omega) 1 nm bFirst HZN.out 0 _ (a_ok hmay) (a_set hmay))
            have HI1 := Lib.hid (show Inv (4 + 2 * j + 1) (docA (atSet W nm bFirst)) from a_set (v := bFirst) hmay ▸ HT.out.inv.attr 1 nm bFirst)
            have HMY := Lib.hid hmay
            clear hmay
            go_wp2_with fail
            refine HA1.out.mono ?_
            rintro e wa ⟨rfl, Fa, Sa, Na⟩
            have HTa := Lib.hid (HT.out.step Sa Na HI1.out)
            have hca := HCL.out wa Sa.bel
            have HA2 := Lib.hid (Sa.attr HI1.out (by omega) 1 nm value HZN.out 0 _ (a_ok HMY.out) (a_set HMY.out))
            have HI2 := Lib.hid (show Inv (4 + 2 * j + 1 + 1) (docA (atSet (atSet W nm bFirst) nm value)) from a_set (v := value) HMY.out ▸ HI1.out.attr 1 nm value)
            clear Sa Na hc0
            go_wp2_with fail
            refine HA2.out.mono ?_
            rintro e wb ⟨rfl, Fb, Sb, Nb⟩
            have HTb := Lib.hid (HTa.out.step Sb Nb HI2.out)
            clear Sb Nb hca
            go_wp2_with fail
            go_loopw [10, 11] (fun h i wx => ∃ (k : Nat), h = .bool (putB (W.take k) nm) ∧ i = .int .i64 k ∧ k ≤ W.length ∧ Atw w wx Fb p (4 + 2 * j + 1 + 1) W (atSet (atSet W nm bFirst) nm value) u8 value) (fun _ i _ => W.length - (intOf i).toNat)
            case atStart => exact ⟨0, rfl, rfl, Nat.zero_le _, HTb.out⟩
            case round =>
              clear HTb
              obtain ⟨k, rfl, rfl, hk, T2⟩ := hrel
              have HT2 := Lib.hid T2
              obtain ⟨A8, c8, rfl, hc8, hm8, hra⟩ := aw_ra T2.own
              have hcl := HCL.out _ T2.one.bel
              clear T2
              obtain ⟨hd, hhd⟩ : ∃ hd, putB (W.take k) nm = hd := ⟨_, rfl⟩
              rw [hhd]
              by_cases hkW : k < W.length
              · have hki : (k : Int) < W.length := by omega
                obtain ⟨b8, o8, hA8, hb8, hc⟩ := hra (by omega)
                have hx := hc k hkW 0 (.string W[k].name) rfl
                rw [Nat.add_zero] at hx
                have hpt := put_take (nm := nm) hkW
                rw [hhd] at hpt
                subst hA8
                have HPT := Lib.hid hpt
                clear hc hra hpt hhd
                cases hd with
                | true =>
                  go_wp2
                  go_quiet (fail)
                  go_wp2
                  go_roundw
                  case rel => exact ⟨k + 1, by rw [HPT.out]; rfl, by go_num, by omega, HT2.out.drewN _⟩
                  case measure => simp [intOf]; omega
                | false =>
                  by_cases e : W[k].name = nm
                  · rw [e] at hx
                    have HE := Lib.hid e
                    clear e
                    go_wp2
                    go_quiet (fail)
                    go_wp2
                    go_roundw
                    case rel => exact ⟨k + 1, by rw [HPT.out, decide_eq_true HE.out]; rfl, by go_num, by omega, HT2.out.drewN _⟩
                    case measure => simp [intOf]; omega
                  · have hne : ¬ W[k].name.toList = nm.toList := Ro.neq_L e
                    have HE := Lib.hid e
                    go_wp2
                    go_quiet (fail)
                    go_wp2
                    go_roundw
                    case rel => exact ⟨k + 1, by rw [HPT.out, decide_eq_false HE.out]; exact congrArg Value.bool (beq_eq_false_iff_ne.2 (Ro.neq_L HE.out)), by go_num, by omega, HT2.out.drewN _⟩
                    case measure => simp [intOf]; omega
              · have hki : ¬ (k : Int) < W.length := by omega
                have hke : W.take k = W := List.take_of_length_le (by omega)
                rw [hke] at hhd
                have hst := set_twice (nm := nm) (f := bFirst) HT2.out.want.val
                rw [hhd] at hst
                have HT3 := HT2.out
                rw [hst] at HT3
                have HHD := Lib.hid hhd
                clear hra hhd hst HT2 hke
                cases hd with
                | true =>
                  rw [if_pos rfl] at HT3
                  have HT4 := Lib.hid HT3
                  clear HT3
                  go_wp2_with fail
                  go_roundw
                  case rel => exact ⟨j + 1, W, Fb, by go_num, by omega, by omega, by rw [show 4 + 2 * (j + 1) = 4 + 2 * j + 1 + 1 from by omega]; exact HT4.out⟩
                  case measure => simp [intOf]; omega
                | false =>
                  rw [if_neg (by decide)] at HT3
                  have HT4 := Lib.hid HT3
                  have HBS := Lib.hid HT3.one.bel.size
                  have hl9 : W.length ≤ 4000000000 := by omega
                  have hz9 : nm.size ≤ maxLen := Nat.le_trans HZN.out (by decide)
                  have HZ9 := Lib.hid hz9
                  clear HT3 hz9
                  go_wp2_with (at_builtin; refine app_attrG _ rfl (.tmp 73) (.tmp 80) rfl w.heap.size _ W ⟨nm, value⟩ rfl HT4.out.own HZ9.out _ rfl rfl hl9 HBS.out ?_; intro v9 w9 ho9 hg9 hk9; have HT9 := Lib.hid (HT4.out.append HHD.out ho9 hg9 hk9); clear ho9 hg9 hk9)
                  go_roundw
                  case rel => exact ⟨j + 1, W ++ [⟨nm, value⟩], Fb, by go_num, by omega, by simp; omega, by rw [show 4 + 2 * (j + 1) = 4 + 2 * j + 1 + 1 from by omega]; exact HT9.out⟩
                  case measure => simp [intOf]; omega
          · have hm0 : mayB nm true = false := by simpa using hmay
            have HA1 := Lib.hid (HT.out.one.attr HT.out.inv (by omega) 1 nm bFirst HZN.out 1 _ (a_not (v := bFirst) hm0).2 (a_not hm0).1)
            clear hmay hm0
            go_wp2_with fail
            refine HA1.out.mono ?_
            rintro e wa ⟨rfl, Fa, Sa, Na⟩
            have HTa := Lib.hid (HT.out.step Sa Na HT.out.inv)
            clear Sa Na hc0
            go_wp2_with fail
            go_roundw
            case rel => exact ⟨j + 1, W, Fa, by go_num, by omega, by omega, ⟨HTa.out.one, HTa.out.inv.more (by omega), HTa.out.want, HTa.out.own, HTa.out.apart⟩⟩
            case measure => simp [intOf]; omega
        · have hj2 : ¬ (j : Int) < 20 := by omega
          go_wp2_with fail
          go_meet
          exact ⟨W, F, ⟨HT.out.one, HT.out.inv.more (by omega), HT.out.want, HT.out.own, HT.out.apart⟩, by omega⟩
      · have hj1 : ¬ (j : Int) < l.length := by omega
        go_wp2_with fail
        go_meet
        exact ⟨W, F, ⟨HT.out.one, HT.out.inv.more (by omega), HT.out.want, HT.out.own, HT.out.apart⟩, by omega⟩
  case rest =>
    obtain ⟨W, F, T, hWl⟩ := hcut
    have HT := Lib.hid T; have HWL := Lib.hid hWl
    have HR := Lib.hid (T.one.one.row T.inv (by omega) 1 0 rfl)
    clear T HT0 HW3 hWl
    go_wp2_with fail
    refine HR.out.mono ?_
    rintro e wa ⟨y, rfl, hy, hfr, hba⟩
    obtain ⟨yr, yA, yc⟩ := y
    have hy2 : yr = ⟨0, 0, bB, ⟨#[]⟩, W⟩ := hy.trans (a_row W)
    clear hy
    subst hy2
    have HTa := Lib.hid (HT.out.below hba)
    obtain ⟨hy1, _, hy3, hy4, _⟩ := Ro.Fr.att hfr
    have HFR := Lib.hid hfr; have HY4 := Lib.hid hy4
    clear hfr hba hy4
    obtain ⟨wb, hwb⟩ : ∃ wb, wa.alloc (rowO ⟨⟨0, 0, bB, ⟨#[]⟩, W⟩, yA, yc⟩) = wb := ⟨_, rfl⟩
    have hbb : Below wa.heap.size wa wb := hwb ▸ below_new wa _
    have hbx : wb.heap[wa.heap.size]? = some (rowO ⟨⟨0, 0, bB, ⟨#[]⟩, W⟩, yA, yc⟩) := hwb ▸ heap_alloc_new wa _
    have x4 := cell_of_row wb wa.heap.size 4 _ _ _ hbx
    have HTb := Lib.hid (HTa.out.below hbb)
    have hra : Ra wb wb.heap.size yA W := (HY4.out.below hbb).more hbb.size
    obtain ⟨A8, c8, rfl, hc8, hm8, hrb⟩ := aw_ra HTb.out.own
    have HAT := Lib.hid (refAttrs_any yA A8 yc c8 W W wb hra hrb hy1 hc8 hy3 hm8)
    have HWB := Lib.hid hwb
    clear hwb hbx hra hrb hbb
    go_upto_region 19 with (fail)
    rw [HWB.out]
    go_wp2_with fail
    refine HAT.out.mono ?_
    rintro e wc ⟨rfl, nq, rfl⟩
    have HTc := Lib.hid (HTb.out.drewN nq)
    have hc2 : (W.length : Int) ≤ c8 := by omega
    clear x4 HR HAT
    go_wp2_with fail
    go_loopw [14] (fun i wx => ∃ (k : Nat) (Fk : Nat → Prop), i = .int .i64 k ∧ k ≤ W.length ∧ Atw w wx Fk p 60 W (W.drop k) (.slice A8 W.length c8) value) (fun i _ => W.length - (intOf i).toNat)
    case atStart => exact ⟨0, F, rfl, Nat.zero_le _, HTc.out⟩
    case round =>
      clear HTa HTb HTc HWB
      obtain ⟨k, Fk, rfl, hk, T⟩ := hrel
      have HTk := Lib.hid T
      by_cases hkW : k < W.length
      · have hki : (k : Int) < W.length := by omega
        obtain ⟨A9, c9, he9, hc9, hm9, hra9⟩ := aw_ra T.own
        injection he9 with he1 he2 he3
        subst he1 he3
        obtain ⟨b8, o8, hA8, hb8, hc⟩ := hra9 (by omega)
        have hx := hc k hkW 0 (.string W[k].name) rfl
        rw [Nat.add_zero] at hx
        obtain ⟨hd1, hd2⟩ := a_drop T.want hkW
        have HDR := Lib.hid (T.one.drop T.inv (by omega) 1 W[k].name 0 _ hd1 hd2)
        have HID := Lib.hid (show Inv 60 (docA (W.drop (k + 1))) from hd2 ▸ T.inv.drop 1 W[k].name)
        subst hA8
        clear T hra9 hc hd1 hd2
        go_wp2_with fail
        refine HDR.out.mono ?_
        rintro e wd ⟨rfl, Fd, Sd, Nd⟩
        have Td := HTk.out.step Sd Nd HID.out
        have HTd := Lib.hid Td
        have HRd := Lib.hid (Sd.one.row HID.out (by omega) 1 0 rfl)
        clear Sd Nd Td hx HDR
        go_wp2_with fail
        refine HRd.out.mono ?_
        rintro e we ⟨y2, rfl, hy, hfr, hbe⟩
        obtain ⟨yr2, yA2, yc2⟩ := y2
        have hy2 : yr2 = ⟨0, 0, bB, ⟨#[]⟩, W.drop (k + 1)⟩ := hy.trans (a_row _)
        clear hy
        subst hy2
        have HTe := Lib.hid (HTd.out.below hbe)
        obtain ⟨hy1, _, hy3, hy4, _⟩ := Ro.Fr.att hfr
        have HY4 := Lib.hid hy4
        clear hfr hbe hy4
        obtain ⟨wf, hwf⟩ : ∃ wf, we.alloc (.cells #[.int .i64 0, .int .i64 0, .string bB, .string ⟨#[]⟩, .slice yA2 (W.length - (k + 1)) yc2] 65) = wf := ⟨_, rfl⟩
        have hbf : Below we.heap.size we wf := hwf ▸ below_new we _
        have hbx : wf.heap[we.heap.size]? = some (.cells #[.int .i64 0, .int .i64 0, .string bB, .string ⟨#[]⟩, .slice yA2 (W.length - (k + 1)) yc2] 65) := hwf ▸ heap_alloc_new we _
        have x4 := cell_of_row wf we.heap.size 4 _ _ _ hbx
        have HTf := Lib.hid (HTe.out.below hbf)
        have HWF := Lib.hid hwf; have HY5 := Lib.hid ((HY4.out.below hbf).more hbf.size)
        have hk1 : (k : Int) + 1 ≤ W.length := by omega
        have hk0 : (0 : Int) ≤ (k : Int) + 1 := by omega
        have hkc : (k : Int) + 1 ≤ c8 := by omega
        have hkw : IntKind.i64.wrap ((k : Int) + 1) = (k : Int) + 1 := wrap_small (by omega) (by have := HWL.out; omega)
        have HAR := Lib.hid (fun (wx : World) (hb : Below wf.heap.size wf wx) => attrs_rest (k := k) (yc2 := yc2) (yA2 := yA2) (wx := wx) (show Ra wx wx.heap.size (some ⟨b8, o8, none⟩) W from by
            obtain ⟨A', c', he, _, _, hr⟩ := aw_ra (HTf.out.below hb).own
            injection he with he1 he2 he3
            rw [he1]
            exact hr) hc8 hm8 hkW (((HY5.out).below hb).more hb.size) hy1 hy3)
        obtain ⟨A10, hA10⟩ : ∃ A10, (if c8 = k + 1 then (some ⟨b8, o8, none⟩ : Option Addr) else some ⟨b8, o8 + (k + 1) * 2, none⟩) = A10 := ⟨_, rfl⟩
        rw [hA10] at HAR
        have HLT := Lib.hid (show we.heap.size < wf.heap.size from by rw [← hwf]; simp)
        clear hwf hbx hbf HRd
        go_upto_region 27 with (fail)
        rw [HWF.out]
        go_region_held3 (fun w' => w'.cell? ⟨we.heap.size, 4, none⟩ = some (.slice yA2 (W.length - (k + 1)) yc2)) (first | exact x4 | exact z4 | go_keep) (first
          | (go_at_call 35; refine (HAR.out _ (by exact below_dN11 (Below.refl _ _) 1)).mono ?_; rintro e6 w6 ⟨rfl, nq, hw6⟩; have hb6 : Below wf.heap.size wf w6 := hw6 ▸ below_dN11 (below_dN11 (Below.refl _ _) 1) nq; have HB6 := Lib.hid hb6; have z4 := (hb6.cell (p := ⟨we.heap.size, 4, none⟩) HLT.out).trans x4; clear hb6 hw6))
        go_simp
        go_wp2_with fail
        go_roundw
        case rel => exact ⟨k + 1, Fd, by go_num, by omega, HTf.out.below (bel_eq HB6.out rfl rfl rfl rfl)⟩
        case measure => simp [intOf]; omega
      · have hki : ¬ (k : Int) < W.length := by omega
        have HBB := Lib.hid HTk.out.one.bel
        clear T
        go_wp2_with fail
        refine (fixed11 _).mono ?_
        rintro e wd ⟨rfl, hbd⟩
        have HBD := Lib.hid (bt HBB.out hbd)
        clear hbd
        go_wp2
        go_ret
        exact ⟨rfl, HBD.out⟩
end Go.Proofs.Ytmlchbohijolaaa.Ar

namespace Go.Proofs.Ytmlchbohijolaaa.Ar
set_option maxRecDepth 100000
set_option linter.unusedSimpArgs false
set_option linter.unusedVariables false
open Go.RowKit Ba Go.ChangeShapes Go.WideShapes Go.ChangeAt
open Rz (Within reach_le)
open Fo (Sv cells_str)
theorem open_svs {H : Type} {enc : TypeId × Value → H} {W : World} {base : Nat} {v : Value} {d : DataW H} {p : List MemPlace} (hzd : Within Try.prog 60 d) (hv : Value.okWide Try.prog W .any base 60 v)
    (h : ∃ fuel, DataW.trod enc Try.prog W 0 (fun _ => true) true fuel 60 v.cells.toList = some (d, p)) (hlt : ∀ x ∈ p, x.block < W.heap.size) : ∃ l, Sv W W.heap.size v l ∧ ∀ s ∈ l, s.size ≤ 140737488355328 := by
  obtain ⟨a0, len, cap, rfl⟩ := okWide_slice Try.underlying60 hv
  obtain ⟨fuel, hf⟩ := h
  rcases open_strings Try.underlying60 Try.underlying9 cells_str hf with ⟨hcs, hx⟩ | ⟨a, len', cap', ss, hcs, _, hl, hm, hz, hx, hcell, hws⟩
  · simp [Value.cells] at hcs
    obtain ⟨rfl, rfl, rfl⟩ := hcs
    exact ⟨[], ⟨none, 0, rfl, Nat.le_refl _, fun _ => rfl, Rd.nil _ _ _⟩, fun s hs => by cases hs⟩
  · simp [Value.cells] at hcs
    obtain ⟨rfl, rfl, rfl⟩ := hcs
    simp only [Prod.mk.injEq] at hx
    obtain ⟨rfl, rfl⟩ := hx
    simp only [if_true] at hz
    have hlen : (ss.take len).length = len := by rw [List.length_take]; omega
    refine ⟨ss.take len, ⟨some a, cap, by rw [hlen], by rw [hlen]; exact hl, (fun e => by cases e), fun h0 => ?_⟩, fun s hs => reach_le (hzd.elem (d := .lit (.string s.data.toList)) Try.underlying60 (List.mem_map.2 ⟨s, hs, rfl⟩)).str⟩
    rw [hlen] at h0
    obtain ⟨b, off, spot⟩ := a
    have hspot : spot = none := by simpa [Addr.add] using World.cell?_spot (hcell 0 (by omega))
    subst hspot
    have hbW : b < W.heap.size := hlt (.cell b off) (MemPlace.mem_row.2 ⟨0, by omega, by simp⟩)
    refine ⟨b, off, rfl, hbW, fun j hj => ?_⟩
    rw [hlen] at hj
    have := hcell j (by omega)
    rw [add_plain] at this
    rw [this, List.getElem_take]
    congr 2
    rw [List.getD_eq_getElem?_getD, List.getElem?_eq_getElem (by omega)]
    rfl
end Go.Proofs.Ytmlchbohijolaaa.Ar
