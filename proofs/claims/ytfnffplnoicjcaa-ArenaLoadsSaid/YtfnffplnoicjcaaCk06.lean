/-
  Stage 11: the program's document in memory.
  Stage 11: what the program asks of its document: is there such a node, is it an element, how many others.
  Stage 11: lists copied; what is ahead of a place; lists with one more, without one.
  Stage 11: append onto slices of one's own, as a step.
  Stage 11: a list with one more, a list without one.
  Stage 11: a list without one.
  Stage 11: the program's New, add.
  Stage 11: the program's add.
  Stage 11: the program's adopt.
  Stage 11: the program's Make.
-/
import Derived.Test.YtfnffplnoicjcaaCk05
import Derived.Test.YtfnffplnoicjcaaCk03
import Derived.Test.YtfnffplnoicjcaaCk04
import Derived.Laws.AppendOwnNone
import Derived.Maps.AppendAt
import Derived.Deep.RegionLaw
namespace Go.Proofs.Ytfnffplnoicjcaa.Ar
set_option linter.unusedSimpArgs false
set_option linter.unusedVariables false
open Go.RowKit Ba
open Ro (At Ro Cw ros Rr Ow Nw Fr Att Ap Sh Ra cells acells app_num below_new infoI info_row len_cells)
/-- An entry as it lies: its row (with whatever depth), its parent, its kids. -/
structure Ew where
  x : Cw
  up : Int
  K : Option Addr
  kc : Nat
  kids : List Nat
def nv (k : Nat) : Value := .int .i64 (k : Int)
def ecells (e : Ew) : List Value := [.int .i64 e.x.ro.depth, .int .i64 e.x.ro.kind, .string e.x.ro.name, .string e.x.ro.data, .slice e.x.A e.x.ro.attrs.length e.x.c, .int .i64 e.up, .slice e.K e.kids.length e.kc]
theorem len_ecells (e : Ew) : (ecells e).length = 7 := rfl
def nodeOf (e : Ew) : Nd := ⟨{ e.x.ro with depth := 0 }, e.up, e.kids⟩
def OA (w : World) (N : Nat) (x : Cw) : Prop := Of w N 62 2 x.A x.ro.attrs.length x.c (x.ro.attrs.flatMap acells) ∧ Sh x.ro.attrs
def OK (w : World) (N : Nat) (A : Option Addr) (c : Nat) (l : List Nat) : Prop := Of w N 3 1 A l.length c (l.map nv)
def blkOf (A : Option Addr) : Option Nat := A.map Addr.block
theorem Fr.oa {N : Nat} {w : World} {x : Cw} (h : Fr N w x) : OA w N x := ⟨.inl h.1, h.2⟩
/-- No block is that of two of them. -/
def Apart (f : Ew → Option Nat) (l : List Ew) : Prop := l.Pairwise fun a b => ∀ g, f a = some g → f b ≠ some g
def bA (e : Ew) : Option Nat := blkOf e.x.A
def bK (e : Ew) : Option Nat := blkOf e.K

/-- The program's document: all of its blocks are in F, and the call's own from N on. -/
structure PD (w : World) (N : Nat) (F : Nat → Prop) (p : Nat) (M : List Nd) (gE cE : Nat) (lE : List Ew) : Prop where
  box : w.heap[p]? = some (.cells #[.slice (some ⟨gE, 0, none⟩) M.length cE] 52)
  ents : w.ownsRow N 70 7 (.slice (some ⟨gE, 0, none⟩) M.length cE) M.length (lE.flatMap ecells)
  attrs : ∀ e ∈ lE, OA w N e.x ∧ ∀ g, bA e = some g → F g
  kids : ∀ e ∈ lE, OK w N e.K e.kc e.kids ∧ ∀ g, bK e = some g → F g
  apA : Apart bA lE
  apK : Apart bK lE
  same : lE.map nodeOf = M
  low : N ≤ p
  fp : F p
  fe : F gE
  bd : ∀ b, F b → b < w.heap.size
def Doc12 (w : World) (N : Nat) (F : Nat → Prop) (p : Nat) (M : List Nd) : Prop := ∃ gE cE lE, PD w N F p M gE cE lE

theorem ext_nd {M M' : List Nd} (hl : M.length = M'.length) (h : ∀ n, n < M.length → nd M n = nd M' n) : M = M' := by
  apply List.ext_getElem hl
  intro n h1 h2
  have := h n h1
  rwa [nd_at h1, nd_at h2] at this
theorem nd_setL {M : List Nd} {k : Nat} (hk : k < M.length) (y : Nd) (n : Nat) : nd (M.set k y) n = if n = k then y else nd M n := by
  unfold nd
  rw [List.getElem?_set]
  by_cases h : k = n
  · subst h
    rw [if_pos rfl, if_pos hk, if_pos rfl]
    rfl
  · rw [if_neg h, if_neg (fun e => h e.symm)]

section
variable {w w' : World} {N : Nat} {F : Nat → Prop} {p gE cE : Nat} {M : List Nd} {lE : List Ew}
theorem PD.len (h : PD w N F p M gE cE lE) : lE.length = M.length := by rw [← h.same, List.length_map]
theorem PD.p_lt (h : PD w N F p M gE cE lE) : p < w.heap.size := (Array.getElem?_eq_some_iff.1 h.box).1
theorem PD.hN (h : PD w N F p M gE cE lE) : N ≤ w.heap.size := Nat.le_of_lt (Nat.lt_of_le_of_lt h.low h.p_lt)
theorem PD.x (h : PD w N F p M gE cE lE) : w.cell? ⟨p, 0, none⟩ = some (.slice (some ⟨gE, 0, none⟩) M.length cE) := cell_of_row w p 0 _ _ _ h.box
theorem PD.obj (h : PD w N F p M gE cE lE) : N ≤ gE ∧ gE < w.heap.size ∧ M.length ≤ cE ∧ cE ≤ maxLen ∧ ∃ c f, w.heap[gE]? = some (.cells c 70 f) := by
  rcases h.ents.2 with ⟨hv, _⟩ | ⟨g, cap, cur, hv, hg, hh, hn, hm, _⟩
  · cases hv
  · injection hv with h1 h2 h3
    injection h1 with h1
    injection h1 with h1
    subst h1 h3
    exact ⟨hg, (Array.getElem?_eq_some_iff.1 hh).1, hn, hm, _, _, hh⟩
theorem PD.at_ (h : PD w N F p M gE cE lE) {k : Nat} (hk : k < M.length) : ∃ e, lE[k]? = some e ∧ e ∈ lE ∧ nodeOf e = nd M k ∧ ∀ j u, (ecells e)[j]? = some u → w.cell? ⟨gE, k * 7 + j, none⟩ = some u := by
  have hl : k < lE.length := by rw [h.len]; exact hk
  refine ⟨lE[k], List.getElem?_eq_getElem hl, List.getElem_mem hl, ?_, fun j u hu => ?_⟩
  · have h1 : (lE.map nodeOf)[k]? = M[k]? := by rw [h.same]
    rw [List.getElem?_map, List.getElem?_eq_getElem hl, List.getElem?_eq_getElem hk] at h1
    rw [nd_at hk]
    exact Option.some.inj h1
  · have hj : j < 7 := (List.getElem?_eq_some_iff.1 hu).1
    have := World.ownsRow.cells h.ents (g := gE) rfl (k * 7 + j) u (by rw [Ro.flat_at ecells 7 len_ecells _ _ _ hl hj]; exact hu)
    rw [WideShapes.add_plain, Nat.zero_add] at this
    exact this
theorem PD.frz (h : PD w N F p M gE cE lE) (j : Nat) : w.frozen? ⟨gE, j, none⟩ = false := World.ownsRow.frozenAt h.ents j
theorem oa_obj {x : Cw} (h : OA w N x) {g : Nat} (hg : blkOf x.A = some g) : x.A = some ⟨g, 0, none⟩ ∧ N ≤ g ∧ g < w.heap.size ∧ ∃ c f, w.heap[g]? = some (.cells c 62 f) := by
  rcases h.1.obj with ⟨hA, _⟩ | ⟨g', cur, hA, hN, hl, hh, _⟩
  · rw [hA] at hg
    cases hg
  · rw [hA] at hg
    obtain rfl : g' = g := Option.some.inj hg
    exact ⟨hA, hN, hl, _, _, hh⟩
theorem ok_obj {A : Option Addr} {c : Nat} {l : List Nat} (h : OK w N A c l) {g : Nat} (hg : blkOf A = some g) : A = some ⟨g, 0, none⟩ ∧ N ≤ g ∧ g < w.heap.size ∧ ∃ c f, w.heap[g]? = some (.cells c 3 f) := by
  rcases h.obj with ⟨hA, _⟩ | ⟨g', cur, hA, hN, hl, hh, _⟩
  · rw [hA] at hg
    cases hg
  · rw [hA] at hg
    obtain rfl : g' = g := Option.some.inj hg
    exact ⟨hA, hN, hl, _, _, hh⟩
theorem OA.block {x : Cw} (h : OA w N x) (hb : ∀ g, blkOf x.A = some g → w'.heap[g]? = w.heap[g]?) : OA w' N x := ⟨h.1.block fun g hA => hb g (by rw [hA]; rfl), h.2⟩
theorem OK.block {A : Option Addr} {c : Nat} {l : List Nat} (h : OK w N A c l) (hb : ∀ g, blkOf A = some g → w'.heap[g]? = w.heap[g]?) : OK w' N A c l := Of.block h fun g hA => hb g (by rw [hA]; rfl)
theorem PD.touch {G : Nat → Prop} (h : PD w N F p M gE cE lE) (t : Touch G w w') (hd : ∀ b, F b → ¬ G b) : PD w' N F p M gE cE lE := by
  have hk : ∀ b, F b → b < w.heap.size → w'.heap[b]? = w.heap[b]? := fun b hf hb => t.block b hb (hd b hf)
  refine ⟨(hk p h.fp h.p_lt).trans h.box, owns_block h.ents fun g hg => ?_, fun e he => ⟨(h.attrs e he).1.block fun g hg => hk g ((h.attrs e he).2 g hg) (oa_obj (h.attrs e he).1 hg).2.2.1, (h.attrs e he).2⟩, fun e he => ⟨(h.kids e he).1.block fun g hg => hk g ((h.kids e he).2 g hg) (ok_obj (h.kids e he).1 hg).2.2.1, (h.kids e he).2⟩, h.apA, h.apK, h.same, h.low, h.fp, h.fe, fun b hb => Nat.lt_of_lt_of_le (h.bd b hb) t.size⟩
  obtain rfl : gE = g := Option.some.inj hg
  exact hk _ h.fe h.obj.2.1
theorem PD.below (h : PD w N F p M gE cE lE) (hb : Below w.heap.size w w') : PD w' N F p M gE cE lE := h.touch (G := fun _ => False) (Touch.of_below hb) fun _ _ h => h
theorem Doc12.below (h : Doc12 w N F p M) (hb : Below w.heap.size w w') : Doc12 w' N F p M := by
  obtain ⟨gE, cE, lE, h⟩ := h
  exact ⟨gE, cE, lE, h.below hb⟩
theorem Doc12.touch {G : Nat → Prop} (h : Doc12 w N F p M) (t : Touch G w w') (hd : ∀ b, F b → ¬ G b) : Doc12 w' N F p M := by
  obtain ⟨gE, cE, lE, h⟩ := h
  exact ⟨gE, cE, lE, h.touch t hd⟩
theorem apart_set {f : Ew → Option Nat} {F : Nat → Prop} {L : Nat} (hF : ∀ e ∈ lE, ∀ g, f e = some g → g < L) (h : Apart f lE) {k : Nat} {e e' : Ew} (he : lE[k]? = some e) (hn : ∀ g, f e' = some g → f e = some g ∨ L ≤ g) : Apart f (lE.set k e') := by
  unfold Apart at h ⊢
  rw [List.pairwise_iff_getElem] at h ⊢
  intro i j hi hj hij
  rw [List.length_set] at hi hj
  have hkl := (List.getElem?_eq_some_iff.1 he).1
  have hek : lE[k] = e := (List.getElem?_eq_some_iff.1 he).2
  rw [List.getElem_set, List.getElem_set]
  by_cases h1 : k = i
  · subst h1
    rw [if_pos rfl, if_neg (by omega)]
    intro g hg hg2
    rcases hn g hg with hn | hn
    · exact h k j hi hj hij g (by rw [hek]; exact hn) hg2
    · have := hF _ (List.getElem_mem hj) g hg2
      omega
  · by_cases h2 : k = j
    · subst h2
      rw [if_neg h1, if_pos rfl]
      intro g hg hg2
      rcases hn g hg2 with hn | hn
      · exact h i k hi hj hij g hg (by rw [hek]; exact hn)
      · have := hF _ (List.getElem_mem hi) g hg
        omega
    · rw [if_neg h1, if_neg h2]
      exact h i j hi hj hij
theorem apart_at {f : Ew → Option Nat} (h : Apart f lE) {i j : Nat} {a b : Ew} (ha : lE[i]? = some a) (hb : lE[j]? = some b) (hij : i ≠ j) {g : Nat} (hg : f a = some g) : f b ≠ some g := by
  unfold Apart at h
  rw [List.pairwise_iff_getElem] at h
  obtain ⟨hi, rfl⟩ := List.getElem?_eq_some_iff.1 ha
  obtain ⟨hj, rfl⟩ := List.getElem?_eq_some_iff.1 hb
  rcases Nat.lt_or_gt_of_ne hij with h1 | h1
  · exact h i j hi hj h1 g hg
  · exact fun hg2 => h j i hj hi h1 g hg2 hg
/-- One entry changed: in its cells, or in the blocks of its attributes and kids. -/
theorem PD.change (h : PD w N F p M gE cE lE) {k : Nat} {e e' : Ew} (he : lE[k]? = some e) (t : Touch (fun b => b = gE ∨ bA e = some b ∨ bK e = some b) w w')
    (ho : w'.ownsRow N 70 7 (.slice (some ⟨gE, 0, none⟩) M.length cE) M.length ((lE.set k e').flatMap ecells)) (ha : OA w' N e'.x) (hk : OK w' N e'.K e'.kc e'.kids)
    (hA : ∀ g, bA e' = some g → bA e = some g ∨ w.heap.size ≤ g) (hK : ∀ g, bK e' = some g → bK e = some g ∨ w.heap.size ≤ g) :
    PD w' N (Wide w w' F) p (M.set k (nodeOf e')) gE cE (lE.set k e') ∧ Next w w' F (Wide w w' F) := by
  have hem : e ∈ lE := List.mem_of_getElem? he
  obtain ⟨_, hgl, _, _, ce, fe, hoE⟩ := h.obj
  have aA : ∀ b ∈ lE, ∀ g, bA b = some g → g < w.heap.size := fun b hb g hg => (oa_obj (h.attrs b hb).1 hg).2.2.1
  have aK : ∀ b ∈ lE, ∀ g, bK b = some g → g < w.heap.size := fun b hb g hg => (ok_obj (h.kids b hb).1 hg).2.2.1
  have inF : ∀ b, b = gE ∨ bA e = some b ∨ bK e = some b → F b := fun b hb => by
    rcases hb with rfl | hb | hb
    · exact h.fe
    · exact (h.attrs e hem).2 b hb
    · exact (h.kids e hem).2 b hb
  have hpb : w'.heap[p]? = w.heap[p]? := t.block p h.p_lt fun hb => by
    rcases hb with hb | hb | hb
    · rw [← hb] at hoE
      exact type_ne h.box hoE (by decide) rfl
    · obtain ⟨_, _, _, _, _, hh⟩ := oa_obj (h.attrs e hem).1 hb
      exact type_ne h.box hh (by decide) rfl
    · obtain ⟨_, _, _, _, _, hh⟩ := ok_obj (h.kids e hem).1 hb
      exact type_ne h.box hh (by decide) rfl
  have other : ∀ b ∈ lE.set k e', b = e' ∨ ∃ j, j ≠ k ∧ lE[j]? = some b := fun b hb => by
    obtain ⟨j, hj, rfl⟩ := List.getElem_of_mem hb
    rw [List.length_set] at hj
    by_cases hjk : j = k
    · subst hjk
      left
      rw [List.getElem_set, if_pos rfl]
    · right
      refine ⟨j, hjk, ?_⟩
      rw [List.getElem_set, if_neg (fun e => hjk e.symm), List.getElem?_eq_getElem hj]
  refine ⟨⟨?_, ?_, fun b hb => ?_, fun b hb => ?_, ?_, ?_, ?_, h.low, .inl h.fp, .inl h.fe, fun b hb => ?_⟩, ⟨?_, fun b hb => .inl hb, fun b hb => hb⟩⟩
  · rw [List.length_set]
    exact hpb.trans h.box
  · rw [List.length_set]
    exact ho
  · rcases other b hb with rfl | ⟨j, hjk, hj⟩
    · refine ⟨ha, fun g hg => ?_⟩
      rcases hA g hg with h1 | h1
      · exact .inl ((h.attrs e hem).2 g h1)
      · exact .inr ⟨h1, (oa_obj ha hg).2.2.1⟩
    · have hm := List.mem_of_getElem? hj
      refine ⟨(h.attrs b hm).1.block fun g hg => t.block g (aA b hm g hg) fun hb2 => ?_, fun g hg => .inl ((h.attrs b hm).2 g hg)⟩
      obtain ⟨_, _, _, _, _, hh⟩ := oa_obj (h.attrs b hm).1 hg
      rcases hb2 with hb2 | hb2 | hb2
      · rw [← hb2] at hoE
        exact type_ne hh hoE (by decide) rfl
      · exact apart_at h.apA he hj (fun e => hjk e.symm) hb2 hg
      · obtain ⟨_, _, _, _, _, hh2⟩ := ok_obj (h.kids e hem).1 hb2
        exact type_ne hh hh2 (by decide) rfl
  · rcases other b hb with rfl | ⟨j, hjk, hj⟩
    · refine ⟨hk, fun g hg => ?_⟩
      rcases hK g hg with h1 | h1
      · exact .inl ((h.kids e hem).2 g h1)
      · exact .inr ⟨h1, (ok_obj hk hg).2.2.1⟩
    · have hm := List.mem_of_getElem? hj
      refine ⟨(h.kids b hm).1.block fun g hg => t.block g (aK b hm g hg) fun hb2 => ?_, fun g hg => .inl ((h.kids b hm).2 g hg)⟩
      obtain ⟨_, _, _, _, _, hh⟩ := ok_obj (h.kids b hm).1 hg
      rcases hb2 with hb2 | hb2 | hb2
      · rw [← hb2] at hoE
        exact type_ne hh hoE (by decide) rfl
      · obtain ⟨_, _, _, _, _, hh2⟩ := oa_obj (h.attrs e hem).1 hb2
        exact type_ne hh hh2 (by decide) rfl
      · exact apart_at h.apK he hj (fun e => hjk e.symm) hb2 hg
  · exact apart_set (F := F) aA h.apA he hA
  · exact apart_set (F := F) aK h.apK he hK
  · rw [← h.same, List.map_set]
  · rcases hb with hb | hb
    · exact Nat.lt_of_lt_of_le (h.bd b hb) t.size
    · exact hb.2
  · exact t.mono fun b _ hb => inF b hb
theorem flat_set7 {j : Nat} (hj : j < 7) (u : Value) : ∀ (l : List Ew) (k : Nat) (y : Ew), (∀ h : k < l.length, ecells y = (ecells l[k]).set j u) → k < l.length → (l.flatMap ecells).set (k * 7 + j) u = (l.set k y).flatMap ecells
  | [], k, _, _, h => absurd h (by simp)
  | a :: r, 0, y, hy, h => by
    have hc := hy h
    rw [List.getElem_cons_zero] at hc
    rw [List.flatMap_cons, List.set_cons_zero, List.flatMap_cons, hc, Nat.zero_mul, Nat.zero_add, List.set_append_left _ _ (by rw [len_ecells]; exact hj)]
  | a :: r, k + 1, y, hy, h => by
    have hk : k < r.length := by simpa using h
    rw [List.flatMap_cons, List.set_cons_succ, List.flatMap_cons, List.set_append_right _ _ (by rw [len_ecells]; omega), len_ecells, show (k + 1) * 7 + j - 7 = k * 7 + j from by omega, flat_set7 hj u r k y (fun h' => hy h) hk]
/-- One cell of an entry stored, behind what happened to its own blocks. -/
theorem PD.put (h : PD w N F p M gE cE lE) {k : Nat} {e e' : Ew} (he : lE[k]? = some e) (t : Touch (fun b => bA e = some b ∨ bK e = some b) w w') {j : Nat} (hj : j < 7) (u : Value) (hc : ecells e' = (ecells e).set j u) (ha : OA w' N e'.x) (hk : OK w' N e'.K e'.kc e'.kids)
    (hA : ∀ g, bA e' = some g → bA e = some g ∨ w.heap.size ≤ g) (hK : ∀ g, bK e' = some g → bK e = some g ∨ w.heap.size ≤ g) :
    PD (w'.setCell ⟨gE, k * 7 + j, none⟩ u) N (Wide w (w'.setCell ⟨gE, k * 7 + j, none⟩ u) F) p (M.set k (nodeOf e')) gE cE (lE.set k e') ∧ Next w (w'.setCell ⟨gE, k * 7 + j, none⟩ u) F (Wide w (w'.setCell ⟨gE, k * 7 + j, none⟩ u) F) := by
  have hem : e ∈ lE := List.mem_of_getElem? he
  obtain ⟨hkl, hke⟩ := List.getElem?_eq_some_iff.1 he
  obtain ⟨_, hgl, _, _, ce, fe, hoE⟩ := h.obj
  have hgE : w'.heap[gE]? = w.heap[gE]? := t.block gE hgl fun hb => by
    rcases hb with hb | hb
    · obtain ⟨_, _, _, _, _, hh⟩ := oa_obj (h.attrs e hem).1 hb
      exact type_ne hoE hh (by decide) rfl
    · obtain ⟨_, _, _, _, _, hh⟩ := ok_obj (h.kids e hem).1 hb
      exact type_ne hoE hh (by decide) rfl
  have ho : w'.ownsRow N 70 7 (.slice (some ⟨gE, 0, none⟩) M.length cE) M.length (lE.flatMap ecells) := owns_block h.ents fun g hg => by
    obtain rfl : gE = g := Option.some.inj hg
    exact hgE
  have hoE' := hgE.trans hoE
  have h1 := (World.ownsRow.stored ho (k * 7 + j) u).1
  rw [flat_set7 hj u lE k e' (fun _ => by rw [hke]; exact hc) hkl] at h1
  refine h.change he (w' := w'.setCell ⟨gE, k * 7 + j, none⟩ u) ?_ h1 (ha.block fun g hg => Below.heap_setCell _ _ _ _ fun e2 => ?_) (hk.block fun g hg => Below.heap_setCell _ _ _ _ fun e2 => ?_) hA hK
  · exact (t.mono (G := fun b => b = gE ∨ bA e = some b ∨ bK e = some b) fun b _ hb => .inr hb).trans (Touch.set (F := fun b => b = gE ∨ bA e = some b ∨ bK e = some b) w' ⟨gE, k * 7 + j, none⟩ u (.inl rfl)) fun _ _ h => h
  · obtain ⟨_, _, _, _, _, hh⟩ := oa_obj ha hg
    have e2 : g = gE := e2
    rw [← e2] at hoE'
    exact type_ne hh hoE' (by decide) rfl
  · obtain ⟨_, _, _, _, _, hh⟩ := ok_obj hk hg
    have e2 : g = gE := e2
    rw [← e2] at hoE'
    exact type_ne hh hoE' (by decide) rfl
end
end Go.Proofs.Ytfnffplnoicjcaa.Ar

namespace Go.Proofs.Ytfnffplnoicjcaa.Ar
set_option maxRecDepth 100000
set_option linter.unusedSimpArgs false
set_option linter.unusedVariables false
open Go.RowKit Ba
open Ro (At Ro Cw ros Rr Ow Nw Fr Att Ap Sh Ra cells acells app_num below_new infoI info_row len_cells)
open Na (mayB)
def hasB (M : List Nd) (n : Int) : Bool := decide (0 ≤ n) && decide (n < M.length)
def movB (M : List Nd) (n : Int) : Bool := decide (n ≠ 0) && hasB M n
def holdB (M : List Nd) (n : Int) : Bool := movB M n && decide ((nd M n.toNat).ro.kind ≠ 0)
theorem hasB_iff {M : List Nd} {n : Int} : hasB M n = true ↔ 0 ≤ n ∧ n < M.length := by
  unfold hasB
  rw [Bool.and_eq_true, decide_eq_true_iff, decide_eq_true_iff]
theorem movB_iff {M : List Nd} {n : Int} : movB M n = true ↔ 0 < n ∧ n < M.length := by
  unfold movB
  rw [Bool.and_eq_true, decide_eq_true_iff, hasB_iff]
  omega
theorem elB_mov {M : List Nd} {n : Int} : elB11 M n = (movB M n && decide ((nd M n.toNat).ro.kind = 0)) := by
  unfold elB11
  congr 1
  rw [Bool.eq_iff_iff, movB_iff, Bool.and_eq_true, decide_eq_true_iff, decide_eq_true_iff]
section
variable {w : World} {N : Nat} {F : Nat → Prop} {p gE cE : Nat} {M : List Nd} {lE : List Ew}
theorem len1 (w : World) (D : PD w N F p M gE cE lE) : Calls Try.prog 7 #[.pointer (some ⟨p, 0, none⟩)] w fun e w' => e = .returned (.int .i64 M.length) ∧ w' = w := by
  have hx := D.x
  clear D
  go_enter Try.func7, Try.ntmps7
  go_wp2
  go_ret
  exact ⟨rfl, rfl⟩
theorem exceeds1 (more : Nat) (w : World) (D : PD w N F p M gE cE lE) (hm : M.length ≤ 10000) (hk : more ≤ 1000000) (q : Bool) (hq : decide (4096 < M.length + more) = q) : Calls Try.prog 21 #[.pointer (some ⟨p, 0, none⟩), .int .i64 more] w fun e w' => e = .returned (.bool q) ∧ w' = w := by
  have hx := D.x
  clear D
  by_cases hb : 4096 < M.length + more
  · rw [decide_eq_true hb] at hq
    subst hq
    go_enter Try.func21, Try.ntmps21
    go_wp2
    go_ret
    exact ⟨ret_bool (by first | rfl | (simp; omega)), rfl⟩
  · rw [decide_eq_false hb] at hq
    subst hq
    go_enter Try.func21, Try.ntmps21
    go_wp2
    go_ret
    exact ⟨ret_bool (by first | rfl | (simp; omega)), rfl⟩
theorem has1 (n : Int) (w : World) (D : PD w N F p M gE cE lE) (q : Bool) (hq : hasB M n = q) : Calls Try.prog 17 #[.pointer (some ⟨p, 0, none⟩), .int .i64 n] w fun e w' => e = .returned (.bool q) ∧ w' = w := by
  have hx := D.x
  clear D
  subst hq
  by_cases h0 : 0 ≤ n
  · by_cases h1 : n < M.length
    · rw [hasB_iff.2 ⟨h0, h1⟩]
      go_enter Try.func17, Try.ntmps17
      go_wp2
      go_ret
      exact ⟨rfl, rfl⟩
    · have e : hasB M n = false := by rw [← Bool.not_eq_true, hasB_iff]; omega
      rw [e]
      go_enter Try.func17, Try.ntmps17
      go_wp2
      go_ret
      exact ⟨rfl, rfl⟩
  · have e : hasB M n = false := by rw [← Bool.not_eq_true, hasB_iff]; omega
    rw [e]
    go_enter Try.func17, Try.ntmps17
    go_wp2
    go_ret
    exact ⟨rfl, rfl⟩
theorem movable1 (n : Int) (w : World) (D : PD w N F p M gE cE lE) (q : Bool) (hq : movB M n = q) : Calls Try.prog 31 #[.pointer (some ⟨p, 0, none⟩), .int .i64 n] w fun e w' => e = .returned (.bool q) ∧ w' = w := by
  subst hq
  have HH := Lib.hid (has1 n w D _ rfl)
  clear D
  by_cases h0 : n = 0
  · subst h0
    have e : movB M 0 = false := by rw [← Bool.not_eq_true, movB_iff]; omega
    rw [e]
    clear HH
    go_enter Try.func31, Try.ntmps31
    go_wp2
    go_ret
    exact ⟨rfl, rfl⟩
  · have e : movB M n = hasB M n := by unfold movB; rw [decide_eq_true h0]; rfl
    rw [e]
    clear e
    obtain ⟨q, hq⟩ : ∃ q, hasB M n = q := ⟨_, rfl⟩
    rw [hq] at HH ⊢
    clear hq
    go_enter Try.func31, Try.ntmps31
    go_wp2_with fail
    refine HH.out.mono ?_
    rintro e w1 ⟨rfl, rfl⟩
    go_wp2
    go_ret
    exact ⟨ret_bool (by simp [h0]), rfl⟩
theorem PD.kindAt (D : PD w N F p M gE cE lE) {k : Nat} (hk : k < M.length) : w.cell? ⟨gE, k * 7 + 1, none⟩ = some (.int .i64 (nd M k).ro.kind) := by
  obtain ⟨e, _, _, hn, hc⟩ := D.at_ hk
  rw [← hn]
  exact hc 1 _ rfl
theorem PD.upAt (D : PD w N F p M gE cE lE) {k : Nat} (hk : k < M.length) : w.cell? ⟨gE, k * 7 + 5, none⟩ = some (.int .i64 (nd M k).up) := by
  obtain ⟨e, _, _, hn, hc⟩ := D.at_ hk
  rw [← hn]
  exact hc 5 _ rfl
theorem element1 (n : Int) (w : World) (D : PD w N F p M gE cE lE) (q : Bool) (hq : elB11 M n = q) : Calls Try.prog 54 #[.pointer (some ⟨p, 0, none⟩), .int .i64 n] w fun e w' => e = .returned (.bool q) ∧ w' = w := by
  subst hq
  have HH := Lib.hid (movable1 n w D _ rfl)
  have hx := D.x
  rw [elB_mov]
  cases hmv : movB M n with
  | false =>
    rw [hmv] at HH
    clear D hmv hx
    go_enter Try.func54, Try.ntmps54
    go_wp2_with fail
    refine HH.out.mono ?_
    rintro e w1 ⟨rfl, rfl⟩
    go_wp2
    go_ret
    exact ⟨rfl, rfl⟩
  | true =>
    rw [hmv] at HH
    obtain ⟨h0, h1⟩ := movB_iff.1 hmv
    obtain ⟨k, rfl⟩ : ∃ k : Nat, n = k := ⟨n.toNat, by omega⟩
    have hkd := D.kindAt (k := k) (by omega)
    have hcap := D.obj.2.2.1
    obtain ⟨kd, hkk⟩ : ∃ kd, (nd M k).ro.kind = kd := ⟨_, rfl⟩
    rw [show (nd M ((k : Int).toNat)).ro.kind = kd from hkk]
    rw [hkk] at hkd
    clear D hmv hkk
    by_cases hz : kd = 0
    · have ez : (kd == 0) = true := by simpa using hz
      subst hz
      go_enter Try.func54, Try.ntmps54
      go_wp2_with fail
      refine HH.out.mono ?_
      rintro e w1 ⟨rfl, rfl⟩
      go_wp2
      go_ret
      exact ⟨rfl, rfl⟩
    · have ez : (kd == 0) = false := by simpa using hz
      have e : (true && decide (kd = 0)) = false := by rw [decide_eq_false hz]; rfl
      rw [e]
      clear e
      go_enter Try.func54, Try.ntmps54
      go_wp2_with fail
      refine HH.out.mono ?_
      rintro e w1 ⟨rfl, rfl⟩
      go_wp2
      go_ret
      exact ⟨ret_bool (by first | rfl | simpa using hz), rfl⟩
theorem holdsData1 (n : Int) (w : World) (D : PD w N F p M gE cE lE) (q : Bool) (hq : holdB M n = q) : Calls Try.prog 32 #[.pointer (some ⟨p, 0, none⟩), .int .i64 n] w fun e w' => e = .returned (.bool q) ∧ w' = w := by
  subst hq
  have HH := Lib.hid (movable1 n w D _ rfl)
  have hx := D.x
  unfold holdB
  cases hmv : movB M n with
  | false =>
    rw [hmv] at HH
    clear D hmv hx
    go_enter Try.func32, Try.ntmps32
    go_wp2_with fail
    refine HH.out.mono ?_
    rintro e w1 ⟨rfl, rfl⟩
    go_wp2
    go_ret
    exact ⟨rfl, rfl⟩
  | true =>
    rw [hmv] at HH
    obtain ⟨h0, h1⟩ := movB_iff.1 hmv
    obtain ⟨k, rfl⟩ : ∃ k : Nat, n = k := ⟨n.toNat, by omega⟩
    have hkd := D.kindAt (k := k) (by omega)
    have hcap := D.obj.2.2.1
    obtain ⟨kd, hkk⟩ : ∃ kd, (nd M k).ro.kind = kd := ⟨_, rfl⟩
    rw [show (nd M ((k : Int).toNat)).ro.kind = kd from hkk]
    rw [hkk] at hkd
    clear D hmv hkk
    by_cases hz : kd = 0
    · have ez : (kd == 0) = true := by simpa using hz
      subst hz
      go_enter Try.func32, Try.ntmps32
      go_wp2_with fail
      refine HH.out.mono ?_
      rintro e w1 ⟨rfl, rfl⟩
      go_wp2
      go_ret
      exact ⟨rfl, rfl⟩
    · have ez : (kd == 0) = false := by simpa using hz
      have e : (true && decide (kd ≠ 0)) = true := by rw [decide_eq_true hz]; rfl
      rw [e]
      clear e
      go_enter Try.func32, Try.ntmps32
      go_wp2_with fail
      refine HH.out.mono ?_
      rintro e w1 ⟨rfl, rfl⟩
      go_wp2
      go_ret
      exact ⟨ret_bool (by first | rfl | simpa using hz), rfl⟩
theorem parent1 (n : Int) (w : World) (D : PD w N F p M gE cE lE) (q : Int) (hq : (if 0 ≤ n ∧ n < M.length then (nd M n.toNat).up else -1) = q) : Calls Try.prog 28 #[.pointer (some ⟨p, 0, none⟩), .int .i64 n] w fun e w' => e = .returned (.int .i64 q) ∧ w' = w := by
  have HH := Lib.hid (has1 n w D _ rfl)
  have hx := D.x
  by_cases h : 0 ≤ n ∧ n < M.length
  · rw [if_pos h] at hq
    have e : hasB M n = true := hasB_iff.2 h
    rw [e] at HH
    obtain ⟨h0, h1⟩ := h
    obtain ⟨k, rfl⟩ : ∃ k : Nat, n = k := ⟨n.toNat, by omega⟩
    have hkd := D.upAt (k := k) (by omega)
    have hcap := D.obj.2.2.1
    rw [show (nd M k).up = q from hq] at hkd
    clear D hq e
    go_enter Try.func28, Try.ntmps28
    go_wp2_with fail
    refine HH.out.mono ?_
    rintro e w1 ⟨rfl, rfl⟩
    go_wp2
    go_ret
    exact ⟨rfl, rfl⟩
  · rw [if_neg h] at hq
    subst hq
    have e : hasB M n = false := by rw [← Bool.not_eq_true, hasB_iff]; exact h
    rw [e] at HH
    clear D e hx
    go_enter Try.func28, Try.ntmps28
    go_wp2_with fail
    refine HH.out.mono ?_
    rintro e w1 ⟨rfl, rfl⟩
    go_wp2
    go_ret
    exact ⟨rfl, rfl⟩
theorem others1 (P n : Nat) (w : World) (D : PD w N F p M gE cE lE) (hP : P < M.length) (hn : n < M.length) (W : Wf M) (hm : M.length ≤ 10000) : Calls Try.prog 33 #[.pointer (some ⟨p, 0, none⟩), .int .i64 P, .int .i64 n] w fun e w' => e = .returned (.int .i64 ((nd M P).kids.filter (· != n)).length) ∧ w' = w := by
  have hx := D.x
  have hup := D.upAt hn
  have hcap := D.obj.2.2.1
  obtain ⟨e, _, _, hne, hc⟩ := D.at_ hP
  have hkc := hc 6 _ rfl
  have hke : e.kids = (nd M P).kids := by rw [← hne]; rfl
  rw [hke] at hkc
  rw [kids_less W hn]
  have hkl : (nd M P).kids.length ≤ M.length := nodup_bound (W.nodup P) fun x hx => ((W.kid P x).1 hx).1
  obtain ⟨ks, hks⟩ : ∃ ks, (nd M P).kids = ks := ⟨_, rfl⟩
  obtain ⟨u, hu⟩ : ∃ u, (nd M n).up = u := ⟨_, rfl⟩
  have hpos : (nd M n).up = (P : Int) → 0 < (nd M P).kids.length := fun h => List.length_pos_of_mem ((W.kid P n).2 ⟨hn, h⟩)
  rw [hks] at hkc hkl hpos ⊢
  rw [hu] at hup hpos ⊢
  clear D hc hne hke hks hu
  by_cases h : u = P
  · rw [if_pos h]
    have hp := hpos h
    subst h
    clear hpos
    go_enter Try.func33, Try.ntmps33
    go_wp2
    go_ret
    exact ⟨rfl, rfl⟩
  · rw [if_neg h]
    have hb : (u == (P : Int)) = false := by simpa using h
    clear hpos
    go_enter Try.func33, Try.ntmps33
    go_wp2
    go_ret
    exact ⟨rfl, rfl⟩
end
end Go.Proofs.Ytfnffplnoicjcaa.Ar

namespace Go.Proofs.Ytfnffplnoicjcaa.Ar
set_option maxRecDepth 100000
set_option linter.unusedSimpArgs false
set_option linter.unusedVariables false
open Go.RowKit Ba
open Ro (At Ro Cw ros Rr Ow Nw Fr Att Ap Sh Ra cells acells len_acells acells_one app_num below_new infoI info_row info_attr len_cells)
open To (Aw)
/-- append of a list onto nothing. -/
theorem app_nil {ops : Array Oper} {rest : List Oper} {o : Oper} {a : Act} {Q : Exit → Act → World → Prop} (w : World) (hgd : o.guard = none) (sa x : Operand) (T : TypeId)
    (ho : o.op = .call { callee := .builtin .append, args := #[sa, x], argTypes := #[T, T] })
    (t : TypeId) (i : TypeInfo) (z : Value) (s bytes : Nat) (h1 : Try.prog.underlying T = some (.slice t)) (h2 : Try.prog.info? t = some i) (h3 : i.zero = some z) (h4 : i.size = s) (h5 : i.bytes = bytes) (h6 : z.cells.size = s) (h7 : 0 < s)
    (hs : a.eval sa = .slice none 0 0) (A : Option Addr) (n c : Nat) (ys : List Value) (hx : a.eval x = .slice A n c) (hn : ys.length = n * s) (hA : A = none → n = 0 ∧ c = 0) (hc : ∀ ad, A = some ad → ∀ j u, ys[j]? = some u → w.cell? (ad.add j) = some u) (h1c : ∀ u ∈ ys, u.oneCell' = true)
    (b1 : n ≤ maxLen) (b2 : n * bytes ≤ 140737488355328)
    (h : ∀ v' w', w'.ownsRow w.heap.size t s v' n ys → Below w.heap.size w w' → wpList Try.prog ops Q rest (a.put o.dst v') w') :
    wpList Try.prog ops Q (o :: rest) a w := by
  cases A with
  | none =>
    obtain ⟨rfl, rfl⟩ := hA rfl
    have hy : ys = [] := List.eq_nil_of_length_eq_zero (by simpa using hn)
    subst hy
    exact wpList_append_own_none hgd sa x T ho w.heap.size t i s h1 h2 (.slice none 0 0) 0 [] hs (World.ownsRow_nil w _ t s) hx (h _ w (World.ownsRow_nil w _ t s) (Below.refl _ _))
  | some ad =>
    refine wpList_append_own w hgd sa x T ho w.heap.size t i z s bytes h1 h2 h3 h4 h5 h6 h7 (.slice none 0 0) 0 [] hs (World.ownsRow_nil w _ t s) ad n c ys hx hn (hc ad rfl) h1c (by omega) (by rw [Nat.zero_add]; exact b2) (Nat.le_refl _) ?_
    intro v' w' h8 h9 _
    rw [Nat.zero_add, List.nil_append] at h8
    exact h v' w' h8 ((Below.refl _ _).grown h9 (Nat.le_refl _) (by simp [Value.ownBlock]))
theorem nv_one (l : List Nat) : ∀ u ∈ l.map nv, u.oneCell' = true := fun u hu => by
  obtain ⟨y, _, rfl⟩ := List.mem_map.1 hu
  rfl
theorem ecells_one (l : List Ew) : ∀ u ∈ l.flatMap ecells, u.oneCell' = true := fun u hu => by
  obtain ⟨x, _, hu⟩ := List.mem_flatMap.1 hu
  simp only [ecells, List.mem_cons, List.not_mem_nil, or_false] at hu
  rcases hu with rfl | rfl | rfl | rfl | rfl | rfl | rfl <;> rfl
theorem info_ent : (Try.prog.info? 70).map (fun i => (i.zero, i.size, i.bytes)) = some (some (.agg #[.int .i64 0, .int .i64 0, .string .empty, .string .empty, .slice none 0 0, .int .i64 0, .slice none 0 0]), 7, 104) := by kernel_rfl
section
variable {w w' : World} {N s n c : Nat} {t : TypeId} {A : Option Addr} {xs : List Value}
theorem Of.read (h : Of w N t s A n c xs) : (A = none → n = 0 ∧ c = 0) ∧ ∀ ad, A = some ad → ∀ j u, xs[j]? = some u → w.cell? (ad.add j) = some u := by
  constructor
  · intro hA
    rcases h.obj with ⟨_, h8, h9⟩ | ⟨g, cur, hA', _⟩
    · exact ⟨h8, h9⟩
    · rw [hA'] at hA
      cases hA
  · intro ad hA j u hu
    rcases h.obj with ⟨hA', _⟩ | ⟨g, cur, hA', _⟩
    · rw [hA'] at hA
      cases hA
    · rw [hA'] at hA
      cases hA
      rw [WideShapes.add_plain, Nat.zero_add]
      exact (h.cells hA' j u hu).1
end
theorem oa_att {w : World} {N : Nat} {x : Cw} (h : OA w N x) : Att w w.heap.size x := by
  have hc := h.1.cap
  refine ⟨hc.1, fun hA => (h.1.read.1 hA).2, hc.2, fun h0 => ?_, h.2⟩
  rcases h.1.obj with ⟨_, h8, _⟩ | ⟨g, cur, hA, _, hl, _⟩
  · omega
  · refine ⟨g, 0, hA, hl, fun j hj i u hu => ?_⟩
    have hi : i < 2 := (List.getElem?_eq_some_iff.1 hu).1
    have := (h.1.cells hA (j * 2 + i) u (by rw [Ro.flat_at acells 2 len_acells _ _ _ hj hi]; exact hu)).1
    rwa [show 0 + j * 2 + i = j * 2 + i from by omega]
/-- Attributes copied. -/
theorem copiedA1 (x : Cw) (w : World) (h : Att w w.heap.size x) (hl : x.ro.attrs.length ≤ 2000000) :
    Calls Try.prog 69 #[.slice x.A x.ro.attrs.length x.c] w fun e w' => ∃ v, e = .returned v ∧ Aw w.heap.size w' v x.ro.attrs ∧ Below w.heap.size w w' := by
  obtain ⟨i0, hi, hz0, hz1, hz2⟩ := info_parts info_attr
  obtain ⟨l, hll⟩ : ∃ l, x.ro.attrs = l := ⟨_, rfl⟩
  obtain ⟨h1, h2, h3, h4, h5⟩ := h
  rw [hll] at h1 h4 h5 hl ⊢
  have hlen : (l.flatMap acells).length = l.length * 2 := Ro.flat_len acells 2 len_acells l
  have hA : x.A = none → l.length = 0 ∧ x.c = 0 := fun h => by
    have := h2 h
    omega
  have hc : ∀ ad, x.A = some ad → ∀ j u, (l.flatMap acells)[j]? = some u → w.cell? (ad.add j) = some u := fun ad hA j u hu => by
    have hj : j < (l.flatMap acells).length := (List.getElem?_eq_some_iff.1 hu).1
    rw [hlen] at hj
    obtain ⟨b, off, hA', _, hr⟩ := h4 (by omega)
    rw [hA'] at hA
    cases hA
    rw [WideShapes.add_plain]
    have := hr (j / 2) (by omega) (j % 2) u (by rw [← Ro.flat_at acells 2 len_acells _ _ _ (by omega) (Nat.mod_lt _ (by decide)), show j / 2 * 2 + j % 2 = j from by omega]; exact hu)
    rwa [show off + j / 2 * 2 + j % 2 = off + j from by omega] at this
  have HA := Lib.hid hA; have HC := Lib.hid hc; have HL := Lib.hid hlen; have HS := Lib.hid h5
  have b1 : l.length ≤ maxLen := by unfold maxLen; omega
  have b2 : l.length * 32 ≤ 140737488355328 := by omega
  have HO := Lib.hid (acells_one l)
  clear hA hc hlen h5 h4 h2 hll h1 h3
  go_enter Try.func69, Try.ntmps69
  go_wp2_with (at_builtin; refine app_nil w rfl (.const (.slice none 0 0)) (.tmp 3) 45 rfl 62 i0 _ 2 32 Try.underlying45 hi hz0 hz1 hz2 rfl (by decide) rfl x.A l.length x.c (l.flatMap acells) rfl HL.out HA.out HC.out HO.out b1 b2 ?_; intro v' w' h8 h9; have H8 := Lib.hid h8; have H9 := Lib.hid h9; clear h8 h9)
  go_ret
  exact ⟨_, rfl, ⟨H8.out, HS.out⟩, H9.out⟩
/-- Numbers copied. -/
theorem copiedI1 (N : Nat) (A : Option Addr) (c : Nat) (l : List Nat) (w : World) (h : OK w N A c l) (hl : l.length ≤ 2000000) :
    Calls Try.prog 36 #[.slice A l.length c] w fun e w' => ∃ v, e = .returned v ∧ w'.ownsRow w.heap.size 3 1 v l.length (l.map nv) ∧ Below w.heap.size w w' := by
  obtain ⟨i0, hi, hz0, hz1, hz2⟩ := info_parts infoI
  obtain ⟨hA, hc⟩ := Of.read h
  have HA := Lib.hid hA; have HC := Lib.hid hc; have HL := Lib.hid (Of.len h); have HO := Lib.hid (nv_one l)
  have b1 : l.length ≤ maxLen := by unfold maxLen; omega
  have b2 : l.length * 8 ≤ 140737488355328 := by omega
  clear hA hc h
  go_enter Try.func36, Try.ntmps36
  go_wp2_with (at_builtin; refine app_nil w rfl (.const (.slice none 0 0)) (.tmp 3) 29 rfl 3 i0 _ 1 8 Try.underlying29 hi hz0 hz1 hz2 rfl (by decide) rfl A l.length c (l.map nv) rfl HL.out HA.out HC.out HO.out b1 b2 ?_; intro v' w' h8 h9; have H8 := Lib.hid h8; have H9 := Lib.hid h9; clear h8 h9)
  go_ret
  exact ⟨_, rfl, H8.out, H9.out⟩
theorem aheadI1 (A : Option Addr) (n c k : Nat) (w : World) (hk : k ≤ n) (hn : n ≤ c) (hc : c ≤ maxLen) :
    Calls Try.prog 59 #[.slice A n c, .int .i64 k] w fun e w' => e = .returned (.slice A k k) ∧ w' = w := by
  have h1 : (k : Int) ≤ c := by omega
  have h2 : (0 : Int) ≤ k := by omega
  go_enter Try.func59, Try.ntmps59
  go_wp2
  go_ret
  exact ⟨rfl, rfl⟩
theorem aheadA1 (A : Option Addr) (n c k : Nat) (w : World) (hk : k ≤ n) (hn : n ≤ c) (hc : c ≤ maxLen) :
    Calls Try.prog 74 #[.slice A n c, .int .i64 k] w fun e w' => e = .returned (.slice A k k) ∧ w' = w := by
  have h1 : (k : Int) ≤ c := by omega
  have h2 : (0 : Int) ≤ k := by omega
  go_enter Try.func74, Try.ntmps74
  go_wp2
  go_ret
  exact ⟨rfl, rfl⟩
end Go.Proofs.Ytfnffplnoicjcaa.Ar

namespace Go.Proofs.Ytfnffplnoicjcaa.Ar
set_option maxRecDepth 100000
set_option linter.unusedSimpArgs false
set_option linter.unusedVariables false
open Go.RowKit Ba
open Ro (At Ro Cw ros Rr Ow Nw Fr Att Ap Sh Ra cells acells len_acells acells_one app_num below_new infoI info_row info_attr len_cells)
open To (Aw)
theorem run_app_any (w : World) (T ty t : TypeId) (i : TypeInfo) (z : Value) (s bytes : Nat) (h1 : Try.prog.underlying T = some (.slice t)) (h2 : Try.prog.info? t = some i) (h3 : i.zero = some z) (h4 : i.size = s) (h5 : i.bytes = bytes) (h6 : z.cells.size = s) (h7 : 0 < s)
    (N : Nat) (A : Option Addr) (n c : Nat) (xs : List Value) (hown : Of w N t s A n c xs) (B : Option Addr) (m cc : Nat) (ys : List Value) (hn : ys.length = m * s) (hB : B = none → m = 0 ∧ cc = 0 ∧ w.ownsRow N t s (.slice A n c) n xs) (hc : ∀ ad, B = some ad → ∀ j u, ys[j]? = some u → w.cell? (ad.add j) = some u) (h1c : ∀ u ∈ ys, u.oneCell' = true)
    (b1 : n + m ≤ maxLen) (b2 : (n + m) * bytes ≤ 140737488355328) (hN : N ≤ w.heap.size) :
    ∃ A' c' w', (Builtin.append_ #[T, T] ty #[.slice A n c, .slice B m cc]).run Try.prog w = .ok (.slice A' (n + m) c') w' ∧ Of w' N t s A' (n + m) c' (xs ++ ys) ∧ (0 < m → w'.ownsRow N t s (.slice A' (n + m) c') (n + m) (xs ++ ys)) ∧ w.grownBy w' (A.map Addr.block) ∧ (∀ b, A'.map Addr.block = some b → A.map Addr.block = some b ∨ w.heap.size ≤ b) ∧ (c < n + m → w.grownBy w' none ∧ ∀ b, A'.map Addr.block = some b → w.heap.size ≤ b) := by
  have hcap := hown.cap
  cases B with
  | none =>
    obtain ⟨rfl, rfl, ho⟩ := hB rfl
    have hy : ys = [] := List.eq_nil_of_length_eq_zero (by simpa using hn)
    subst hy
    have hr := run_append_owned_none (P := Try.prog) (w := w) N T ty t i s h1 h2 (.slice A n c) n xs ho
    refine ⟨A, c, w, hr, by rw [List.append_nil]; exact hown, fun h => absurd h (Nat.lt_irrefl _), ⟨rfl, rfl, rfl, Nat.le_refl _, fun _ _ _ => rfl⟩, fun b hb => .inl hb, fun h => by omega⟩
  | some ad =>
    have hc := hc ad rfl
    have form : ∀ {v' : Value} {w' : World} {K k : Nat} {zs : List Value}, w'.ownsRow K t s v' k zs → ∃ A' c', v' = .slice A' k c' := fun {v' w' K k zs} ho => by
      rcases ho.2 with ⟨hv, h0⟩ | ⟨g', c', cur, hv, _⟩
      · exact ⟨none, 0, by rw [hv, h0]⟩
      · exact ⟨_, _, hv⟩
    have blk : ∀ (A : Option Addr) (n c : Nat), (Value.slice A n c).ownBlock = A.map Addr.block := fun A n c => by cases A <;> rfl
    have grows : ∀ ga, A = some ga → c < n + m → ∃ A' c' w', (Builtin.append_ #[T, T] ty #[.slice A n c, .slice (some ad) m cc]).run Try.prog w = .ok (.slice A' (n + m) c') w' ∧ Of w' N t s A' (n + m) c' (xs ++ ys) ∧ (0 < m → w'.ownsRow N t s (.slice A' (n + m) c') (n + m) (xs ++ ys)) ∧ w.grownBy w' (A.map Addr.block) ∧ (∀ b, A'.map Addr.block = some b → A.map Addr.block = some b ∨ w.heap.size ≤ b) ∧ (c < n + m → w.grownBy w' none ∧ ∀ b, A'.map Addr.block = some b → w.heap.size ≤ b) := by
      intro ga hga hlt
      obtain ⟨v', w', hr, h8, h9⟩ := run_append_arg_grows (P := Try.prog) w T ty t i z s bytes h1 h2 h3 h4 h5 h6 h7 ga n c xs hown.len (hown.read.2 ga hga) ad m cc ys hn hc hlt b1 b2
      obtain ⟨A', c', rfl⟩ := form h8
      have h8' := World.ownsRow.mono h8 hN
      have hnew : ∀ b, A'.map Addr.block = some b → w.heap.size ≤ b := fun b hb => (World.ownsRow.lt h8 b (by rw [blk]; exact hb)).1
      subst hga
      exact ⟨A', c', w', hr, .inl h8', fun _ => h8', ⟨h9.os, h9.tape, h9.output, h9.size, fun k hk _ => h9.block k hk (by simp)⟩, fun b hb => .inr (hnew b hb), fun _ => ⟨h9, hnew⟩⟩
    by_cases hlt : c < n + m ∧ ∃ ga, A = some ga
    · obtain ⟨hlt, ga, hga⟩ := hlt
      exact grows ga hga hlt
    · rcases hown with hown | ⟨rfl, hl, hm, g, cur, rfl, hg, hh, hs, ht⟩
      · obtain ⟨v', w', hr, h8, h9, _, h10⟩ := run_append_own_at (P := Try.prog) w N T ty t i z s bytes h1 h2 h3 h4 h5 h6 h7 (.slice A n c) n xs hown ad m cc ys hn hc h1c b1 b2 hN
        obtain ⟨A', c', rfl⟩ := form h8
        rw [blk] at h9 h10
        rw [blk] at h10
        have hnew : ∀ b, A'.map Addr.block = some b → A.map Addr.block = some b ∨ w.heap.size ≤ b := fun b hb => by
          rcases h10 with h10 | h10
          · exact .inl (by rw [← h10]; exact hb)
          · rw [h10] at hb
            right
            have := Option.some.inj hb
            omega
        refine ⟨A', c', w', hr, .inl h8, fun _ => h8, h9, hnew, fun hlt2 => ?_⟩
        cases A with
        | none => exact ⟨h9, fun b hb => (hnew b hb).elim (fun h => by cases h) id⟩
        | some ga => exact absurd ⟨hlt2, ga, rfl⟩ hlt
      · have h0 : m = 0 := by
          apply Decidable.byContradiction
          intro h0
          exact hlt ⟨by omega, _, rfl⟩
        subst h0
        have hy : ys = [] := List.eq_nil_of_length_eq_zero (by simpa using hn)
        subst hy
        have hr := run_append_room_cells (P := Try.prog) w T ty t i h1 h2 g 0 c c ad 0 cc [] (by simp) (fun j u hu => by simp at hu) (by simp) (by omega) (fun j hj => by simp at hj) (fun j hj => by simp at hj)
        refine ⟨some ⟨g, 0, none⟩, c, _, hr, ?_, fun h => absurd h (Nat.lt_irrefl _), ?_, fun b hb => .inl hb, fun h => by omega⟩
        · rw [List.append_nil]
          exact .inr ⟨rfl, hl, hm, g, cur, rfl, hg, hh, hs, ht⟩
        · exact ⟨rfl, rfl, rfl, Nat.le_refl _, fun _ _ _ => rfl⟩
theorem wp_app_any {o : Oper} {a : Act} {K : Act → World → Prop} {Q : Exit → Act → World → Prop} (w : World) (sa x : Operand) (T : TypeId)
    (ho : o.op = .call { callee := .builtin .append, args := #[sa, x], argTypes := #[T, T] })
    (t : TypeId) (i : TypeInfo) (z : Value) (s bytes : Nat) (h1 : Try.prog.underlying T = some (.slice t)) (h2 : Try.prog.info? t = some i) (h3 : i.zero = some z) (h4 : i.size = s) (h5 : i.bytes = bytes) (h6 : z.cells.size = s) (h7 : 0 < s)
    (N : Nat) (A : Option Addr) (n c : Nat) (xs : List Value) (hs : a.eval sa = .slice A n c) (hown : Of w N t s A n c xs) (B : Option Addr) (m cc : Nat) (ys : List Value) (hx : a.eval x = .slice B m cc) (hn : ys.length = m * s) (hB : B = none → m = 0 ∧ cc = 0 ∧ w.ownsRow N t s (.slice A n c) n xs) (hc : ∀ ad, B = some ad → ∀ j u, ys[j]? = some u → w.cell? (ad.add j) = some u) (h1c : ∀ u ∈ ys, u.oneCell' = true)
    (b1 : n + m ≤ maxLen) (b2 : (n + m) * bytes ≤ 140737488355328) (hN : N ≤ w.heap.size)
    (h : ∀ A' c' w', Of w' N t s A' (n + m) c' (xs ++ ys) → (0 < m → w'.ownsRow N t s (.slice A' (n + m) c') (n + m) (xs ++ ys)) → w.grownBy w' (A.map Addr.block) → (∀ b, A'.map Addr.block = some b → A.map Addr.block = some b ∨ w.heap.size ≤ b) → (c < n + m → w.grownBy w' none ∧ ∀ b, A'.map Addr.block = some b → w.heap.size ≤ b) → K (a.put o.dst (.slice A' (n + m) c')) w') : o.wp Try.prog a w K Q := by
  obtain ⟨A', c', w', hr, h8, h9, h10, h11, h12⟩ := run_app_any w T o.type t i z s bytes h1 h2 h3 h4 h5 h6 h7 N A n c xs hown B m cc ys hn hB hc h1c b1 b2 hN
  unfold Oper.wp execOp
  simp only [ho, resolve, invoke, builtin, Sem.run_bind, Sem.run_pure, Result.andThen_ok, List.map_toArray, List.map_cons, List.map_nil, hs, hx, hr]
  exact h A' c' w' h8 h9 h10 h11 h12
/-- At the list of a plain region's operations. -/
theorem app_any {ops : Array Oper} {rest : List Oper} {o : Oper} {a : Act} {Q : Exit → Act → World → Prop} (w : World) (hgd : o.guard = none) (sa x : Operand) (T : TypeId)
    (ho : o.op = .call { callee := .builtin .append, args := #[sa, x], argTypes := #[T, T] })
    (t : TypeId) (i : TypeInfo) (z : Value) (s bytes : Nat) (h1 : Try.prog.underlying T = some (.slice t)) (h2 : Try.prog.info? t = some i) (h3 : i.zero = some z) (h4 : i.size = s) (h5 : i.bytes = bytes) (h6 : z.cells.size = s) (h7 : 0 < s)
    (N : Nat) (A : Option Addr) (n c : Nat) (xs : List Value) (hs : a.eval sa = .slice A n c) (hown : Of w N t s A n c xs) (B : Option Addr) (m cc : Nat) (ys : List Value) (hx : a.eval x = .slice B m cc) (hn : ys.length = m * s) (hB : B = none → m = 0 ∧ cc = 0 ∧ w.ownsRow N t s (.slice A n c) n xs) (hc : ∀ ad, B = some ad → ∀ j u, ys[j]? = some u → w.cell? (ad.add j) = some u) (h1c : ∀ u ∈ ys, u.oneCell' = true)
    (b1 : n + m ≤ maxLen) (b2 : (n + m) * bytes ≤ 140737488355328) (hN : N ≤ w.heap.size)
    (h : ∀ A' c' w', Of w' N t s A' (n + m) c' (xs ++ ys) → (0 < m → w'.ownsRow N t s (.slice A' (n + m) c') (n + m) (xs ++ ys)) → w.grownBy w' (A.map Addr.block) → (∀ b, A'.map Addr.block = some b → A.map Addr.block = some b ∨ w.heap.size ≤ b) → (c < n + m → w.grownBy w' none ∧ ∀ b, A'.map Addr.block = some b → w.heap.size ≤ b) → wpList Try.prog ops Q rest (a.put o.dst (.slice A' (n + m) c')) w') :
    wpList Try.prog ops Q (o :: rest) a w :=
  wpList_plain hgd fun _ hK => wp_app_any w sa x T ho t i z s bytes h1 h2 h3 h4 h5 h6 h7 N A n c xs hs hown B m cc ys hx hn hB hc h1c b1 b2 hN fun A' c' w' h8 h9 h10 h11 h12 => hK _ _ (h A' c' w' h8 h9 h10 h11 h12)
/-- At a step of a region that draws. -/
theorem step_app_any {ops : Array Oper} {o : Oper} {a : Act} {K : Act → World → Prop} {Q : Exit → Act → World → Prop} {E : Prop} (W : World) (hgd : o.guard = none) (sa x : Operand) (T : TypeId)
    (ho : o.op = .call { callee := .builtin .append, args := #[sa, x], argTypes := #[T, T] })
    (t : TypeId) (i : TypeInfo) (z : Value) (s bytes : Nat) (h1 : Try.prog.underlying T = some (.slice t)) (h2 : Try.prog.info? t = some i) (h3 : i.zero = some z) (h4 : i.size = s) (h5 : i.bytes = bytes) (h6 : z.cells.size = s) (h7 : 0 < s)
    (W0 : World) (hg : W0.grownBy W none) (N : Nat) (A : Option Addr) (n c : Nat) (xs : List Value) (hs : a.eval sa = .slice A n c) (hown : Of W0 N t s A n c xs) (B : Option Addr) (m cc : Nat) (ys : List Value) (hx : a.eval x = .slice B m cc) (hn : ys.length = m * s) (hB : B = none → m = 0 ∧ cc = 0 ∧ W.ownsRow N t s (.slice A n c) n xs) (hc : ∀ ad, B = some ad → ∀ j u, ys[j]? = some u → W.cell? (ad.add j) = some u) (h1c : ∀ u ∈ ys, u.oneCell' = true)
    (b1 : n + m ≤ maxLen) (b2 : (n + m) * bytes ≤ 140737488355328) (hN : N ≤ W0.heap.size)
    (h : ∀ A' c' w', Of w' N t s A' (n + m) c' (xs ++ ys) → (0 < m → w'.ownsRow N t s (.slice A' (n + m) c') (n + m) (xs ++ ys)) → Touch (fun b => A.map Addr.block = some b) W0 w' → (∀ b, A'.map Addr.block = some b → A.map Addr.block = some b ∨ W0.heap.size ≤ b) → (c < n + m → Below W0.heap.size W0 w' ∧ ∀ b, A'.map Addr.block = some b → W0.heap.size ≤ b) → K (a.put o.dst (.slice A' (n + m) c')) w') :
    if Region.wanted o (yielded ops a.tmps) = true then Oper.wp Try.prog o a W K Q else E := by
  have hw : Region.wanted o (yielded ops a.tmps) = true := by simp [Region.wanted, hgd]
  rw [if_pos hw]
  have hof : Of W N t s A n c xs := hown.block fun g hA => hg.block g (by
    rcases hown.obj with ⟨hA', _⟩ | ⟨g', cur, hA', _, hl, _⟩
    · rw [hA'] at hA
      cases hA
    · rw [hA'] at hA
      cases hA
      exact hl) (by simp)
  refine wp_app_any W sa x T ho t i z s bytes h1 h2 h3 h4 h5 h6 h7 N A n c xs hs hof B m cc ys hx hn hB hc h1c b1 b2 (Nat.le_trans hN hg.size) fun A' c' w' h8 h9 h10 h11 h12 => h A' c' w' h8 h9 ?_ (fun b hb => ?_) fun hlt => ?_
  · refine ⟨h10.os.trans hg.os, h10.tape.trans hg.tape, h10.output.trans hg.output, Nat.le_trans hg.size h10.size, fun b hb hn => ?_⟩
    exact (h10.block b (Nat.lt_of_lt_of_le hb hg.size) fun e => hn e.symm).trans (hg.block b hb (by simp))
  · rcases h11 b hb with h | h
    · exact .inl h
    · exact .inr (Nat.le_trans hg.size h)
  · obtain ⟨h13, h14⟩ := h12 hlt
    exact ⟨⟨h13.os.trans hg.os, h13.tape.trans hg.tape, h13.output.trans hg.output, Nat.le_trans hg.size h13.size, fun b hb => (h13.block b (Nat.lt_of_lt_of_le hb hg.size) (by simp)).trans (hg.block b hb (by simp))⟩, fun b hb => Nat.le_trans hg.size (h14 b hb)⟩
end Go.Proofs.Ytfnffplnoicjcaa.Ar

namespace Go.Proofs.Ytfnffplnoicjcaa.Ar
set_option maxRecDepth 100000
set_option linter.unusedSimpArgs false
set_option linter.unusedVariables false
open Go.RowKit Ba
open Ro (At Ro Cw ros Rr Ow Nw Fr Att Ap Sh Ra cells acells len_acells acells_one app_num below_new infoI info_row info_attr len_cells)
open To (Aw)
theorem one_cells {W : World} {g0 : Nat} {v : Value} {t : TypeId} (h : W.heap[g0]? = some (.cells #[v] t)) : ∀ ad, some (⟨g0, 0, none⟩ : Addr) = some ad → ∀ j u, [v][j]? = some u → W.cell? (ad.add j) = some u := fun ad ha j u hu => by
  cases ha
  exact World.news_of_block (cs := #[v]) h j u hu
theorem grown_dN11 {w w' : World} {r : Option Nat} (h : w.grownBy w' r) (n : Nat) : w.grownBy (w'.drewN n) r := ⟨h.1, h.2, h.3, h.4, h.5⟩
theorem grown_refl (w : World) (r : Option Nat) : w.grownBy w r := ⟨rfl, rfl, rfl, Nat.le_refl _, fun _ _ _ => rfl⟩
theorem tail_cells {N : Nat} {A : Option Addr} {c s : Nat} {t : TypeId} {n : Nat} {xs : List Value} {w : World} (h : Of w N t s A n c xs) (k : Nat) {w' : World} (hb : Below w.heap.size w w') (ad : Addr) (hA : Option.map (fun x : Addr => x.add k) A = some ad) (j : Nat) (u : Value) (hu : (xs.drop k)[j]? = some u) : w'.cell? (ad.add j) = some u := by
  rcases h.obj with ⟨hA', _⟩ | ⟨g, cur, hA', _, hl, _⟩
  · rw [hA'] at hA
    cases hA
  · rw [hA'] at hA
    cases hA
    rw [List.getElem?_drop] at hu
    have := (h.cells hA' (k + j) u hu).1
    have e : ((⟨g, 0, none⟩ : Addr).add k).add j = ⟨g, k + j, none⟩ := by rw [WideShapes.add_plain, WideShapes.add_plain, Nat.zero_add]
    rw [e]
    exact (hb.cell (p := ⟨g, k + j, none⟩) hl).trans this
theorem below_t11 {N : Nat} {w w3 w4 : World} {G : Nat → Prop} (h : Below N w w3) (t : Touch G w3 w4) (hG : ∀ b, G b → N ≤ b) (hN : N ≤ w3.heap.size) : Below N w w4 :=
  ⟨t.os.trans h.os, t.tape.trans h.tape, t.output.trans h.output, Nat.le_trans h.size t.size, fun b hb => (t.block b (by omega) fun hg => by have := hG b hg; omega).trans (h.block b hb)⟩
theorem put_nv (l : List Nat) (k one : Nat) : (l.map nv).take k ++ [nv one] ++ (l.map nv).drop k = (putAt10 l k one).map nv := by
  unfold putAt10
  simp [List.map_take, List.map_drop]
theorem put_len (l : List Nat) (k one : Nat) : (putAt10 l k one).length = l.length + 1 := by
  unfold putAt10
  simp
  omega
set_option maxRecDepth 100000 in
set_option maxHeartbeats 2000000 in
theorem withI1 {N : Nat} {A : Option Addr} {c : Nat} {l : List Nat} (k one : Nat) (w : World) (h : OK w N A c l) (hk : k ≤ l.length) (hl : l.length ≤ 2000000) (hN : N ≤ w.heap.size) :
    Calls Try.prog 35 #[.slice A l.length c, .int .i64 k, .int .i64 one] w fun e w' => ∃ A' c', e = .returned (.slice A' (l.length + 1) c') ∧ OK w' N A' c' (putAt10 l k one) ∧ Below w.heap.size w w' ∧ ∀ b, blkOf A' = some b → w.heap.size ≤ b := by
  obtain ⟨i0, hi, hz0, hz1, hz2⟩ := info_parts infoI
  obtain ⟨hn, hc⟩ := Of.cap h
  have hcut : Of w N 3 1 A k k ((l.map nv).take (k * 1)) := Of.cut h hk
  have HCUT := Lib.hid hcut
  have h1 : (k : Int) ≤ c := by omega
  have h2 : (0 : Int) ≤ k := by omega
  have h3 : (k : Int) ≤ l.length := by omega
  have HH := Lib.hid h
  have HOF := Lib.hid (show Of w N 3 1 A l.length c (l.map nv) from h)
  have HAN := Lib.hid (Of.read h).1
  clear h hcut
  by_cases hck : c = k
  · have hkl : k = l.length := by omega
    subst hkl
    subst hck
    have HH3 := Lib.hid (show ([] : List Value).length = 0 * 1 from rfl)
    go_enter Try.func35, Try.ntmps35
    go_wp2
    go_region_held3 (fun _ => True) (first | trivial | go_keep) (first
      | (go_at_call 59; refine (aheadI1 A l.length l.length l.length _ hk hn hc).mono ?_; rintro e w1 ⟨rfl, rfl⟩)
      | (refine step_app_any _ (by rfl) (.tmp 9) (.tmp 11) 29 (by rfl) 3 i0 _ 1 8 Try.underlying29 hi hz0 hz1 hz2 rfl (by decide) w (by first | exact World.grownBy_alloc _ _ _ | exact grown_dN11 (World.grownBy_alloc _ _ _) 1 | exact (grown_dN11 (grown_refl w none) 1).trans (World.grownBy_alloc _ _ _)) N A l.length l.length ((l.map nv).take (l.length * 1)) (by simp [Act.eval, Act.put]) HCUT.out (some ⟨w.heap.size, 0, none⟩) 1 1 [nv one] (by simp [Act.eval, Act.put]) rfl (by simp) (one_cells (World.alloc_heap_new _ _)) (nv_one [one]) (by unfold maxLen; omega) (by omega) hN ?_; intro A3 c3 w3 ho3 hr3 ht3 hb3 hg3; have HO3 := Lib.hid ho3; have HR3 := Lib.hid (hr3 (by decide)); have HG3 := Lib.hid (hg3 (by omega)); clear ho3 hr3 ht3 hb3 hg3)
      | (refine step_app_any _ (by rfl) (.tmp 12) (.tmp 15) 29 (by rfl) 3 i0 _ 1 8 Try.underlying29 hi hz0 hz1 hz2 rfl (by decide) w3 (by first | exact grown_refl _ _ | exact grown_dN11 (grown_refl _ _) 1) N A3 (l.length + 1) c3 ((l.map nv).take (l.length * 1) ++ [nv one]) (by simp [Act.eval, Act.put]) HO3.out A 0 0 [] (by simp [Act.eval, Act.put]) rfl (fun e => ⟨rfl, rfl, by first | exact HR3.out | exact World.ownsRow.drew HR3.out⟩) (fun ad hA j u hu => by simp at hu) (fun u hu => by simp at hu) (by unfold maxLen; omega) (by omega) (by have := HG3.out.1.size; omega) ?_; intro A4 c4 w4 ho4 hr4 ht4 hb4 hg4)
      | fail)
    all_goals go_wp2_with fail
    all_goals go_ret
    all_goals
      have hof4 : OK w4 N A4 c4 (putAt10 l l.length one) := by
        unfold OK
        rw [put_len, ← put_nv, List.drop_eq_nil_of_le (by simp)]
        simpa using ho4
      have hb := below_t11 HG3.out.1 ht4 (fun b hb => HG3.out.2 b hb) HG3.out.1.size
      exact ⟨A4, c4, rfl, hof4, hb, fun b hb' => (hb4 b hb').elim (HG3.out.2 b) (fun h => Nat.le_trans HG3.out.1.size h)⟩
  · have hck1 : ¬ k = c := fun e => hck e.symm
    have hck2 : ¬ c - k = 0 := by omega
    have hck3 : ¬ (c : Int) = k := by omega
    have hck4 : ¬ (k : Int) = c := by omega
    have HBN := Lib.hid (show Option.map (fun x : Addr => x.add k) A ≠ none from fun e => by
      cases A with
      | none => have := (HAN.out rfl).2; omega
      | some a => cases e)
    go_enter Try.func35, Try.ntmps35
    go_wp2
    go_region_held3 (fun _ => True) (first | trivial | go_keep) (first
      | (go_at_call 59; refine (aheadI1 A l.length c k _ hk hn hc).mono ?_; rintro e w1 ⟨rfl, rfl⟩)
      | (refine step_app_any _ (by rfl) (.tmp 9) (.tmp 11) 29 (by rfl) 3 i0 _ 1 8 Try.underlying29 hi hz0 hz1 hz2 rfl (by decide) w (by first | exact World.grownBy_alloc _ _ _ | exact grown_dN11 (World.grownBy_alloc _ _ _) 1 | exact (grown_dN11 (grown_refl w none) 1).trans (World.grownBy_alloc _ _ _)) N A k k ((l.map nv).take (k * 1)) (by simp [Act.eval, Act.put]) HCUT.out (some ⟨w.heap.size, 0, none⟩) 1 1 [nv one] (by simp [Act.eval, Act.put]) rfl (by simp) (one_cells (World.alloc_heap_new _ _)) (nv_one [one]) (by unfold maxLen; omega) (by omega) hN ?_; intro A3 c3 w3 ho3 hr3 ht3 hb3 hg3; have HO3 := Lib.hid ho3; have HG3 := Lib.hid (hg3 (by omega)); clear ho3 hr3 ht3 hb3 hg3)
      | (refine step_app_any _ (by rfl) (.tmp 12) (.tmp 15) 29 (by rfl) 3 i0 _ 1 8 Try.underlying29 hi hz0 hz1 hz2 rfl (by decide) w3 (by first | exact grown_refl _ _ | exact grown_dN11 (grown_refl _ _) 1) N A3 (k + 1) c3 ((l.map nv).take (k * 1) ++ [nv one]) (by simp [Act.eval, Act.put]) HO3.out (Option.map (fun x : Addr => x.add k) A) (l.length - k) (c - k) ((l.map nv).drop k) (by simp [Act.eval, Act.put]) (by simp) (fun e => absurd e HBN.out) (fun ad hA j u hu => tail_cells HOF.out k (by first | exact HG3.out.1 | exact below_dN11 HG3.out.1 1) ad hA j u hu) (fun u hu => nv_one l u (List.mem_of_mem_drop hu)) (by unfold maxLen; omega) (by omega) (by have := HG3.out.1.size; omega) ?_; intro A4 c4 w4 ho4 hr4 ht4 hb4 hg4)
      | fail)
    all_goals go_wp2_with fail
    all_goals go_ret
    all_goals
      have hle : k + 1 + (l.length - k) = l.length + 1 := by omega
      have hof4 : OK w4 N A4 c4 (putAt10 l k one) := by
        unfold OK
        rw [put_len, ← put_nv, ← hle, ← Nat.mul_one k]
        simpa using ho4
      have hb := below_t11 HG3.out.1 ht4 (fun b hb => HG3.out.2 b hb) HG3.out.1.size
      exact ⟨A4, c4, by rw [← hle]; rfl, hof4, hb, fun b hb' => (hb4 b hb').elim (HG3.out.2 b) (fun h => Nat.le_trans HG3.out.1.size h)⟩
end Go.Proofs.Ytfnffplnoicjcaa.Ar

namespace Go.Proofs.Ytfnffplnoicjcaa.Ar
set_option maxRecDepth 100000
set_option linter.unusedSimpArgs false
set_option linter.unusedVariables false
open Go.RowKit Ba
open Ro (At Ro Cw ros Rr Ow Nw Fr Att Ap Sh Ra cells acells len_acells acells_one app_num below_new infoI info_row info_attr len_cells)
open To (Aw)
theorem flat_take {α : Type} (f : α → List Value) (m : Nat) (hm : ∀ x, (f x).length = m) : ∀ (l : List α) (k : Nat), (l.flatMap f).take (k * m) = (l.take k).flatMap f
  | [], k => by simp
  | x :: r, 0 => by simp
  | x :: r, k + 1 => by
    rw [List.flatMap_cons, List.take_succ_cons, List.flatMap_cons, List.take_append, hm, show (k + 1) * m - m = k * m from by rw [Nat.add_mul]; omega, flat_take f m hm r k, List.take_of_length_le (by rw [hm, Nat.add_mul]; omega)]
theorem flat_drop {α : Type} (f : α → List Value) (m : Nat) (hm : ∀ x, (f x).length = m) : ∀ (l : List α) (k : Nat), (l.flatMap f).drop (k * m) = (l.drop k).flatMap f
  | [], k => by simp
  | x :: r, 0 => by simp
  | x :: r, k + 1 => by
    rw [List.flatMap_cons, List.drop_succ_cons, List.drop_append, hm, show (k + 1) * m - m = k * m from by rw [Nat.add_mul]; omega, flat_drop f m hm r k, List.drop_eq_nil_of_le (by rw [hm, Nat.add_mul]; omega), List.nil_append]
set_option maxRecDepth 100000 in
set_option maxHeartbeats 2000000 in
theorem withoutI1 {N : Nat} {A : Option Addr} {c : Nat} {l : List Nat} (k : Nat) (w : World) (h : Of w N 3 1 A l.length c (l.map nv)) (hk : k < l.length) (hl : l.length ≤ 2000000) (hN : N ≤ w.heap.size) :
    Calls Try.prog 58 #[.slice A l.length c, .int .i64 k] w fun e w' => ∃ A' c', e = .returned (.slice A' (l.length - 1) c') ∧ Of w' N 3 1 A' (l.length - 1) c' ((l.eraseIdx k).map nv) ∧ Touch (fun b => blkOf A = some b) w w' ∧ ∀ b, blkOf A' = some b → blkOf A = some b ∨ w.heap.size ≤ b := by
  obtain ⟨i0, hi, hz0, hz1, hz2⟩ := info_parts infoI
  obtain ⟨hn, hc⟩ := Of.cap h
  have hcut : Of w N 3 1 A k k ((l.map nv).take (k * 1)) := Of.cut h (by omega)
  have HCUT := Lib.hid hcut
  have h1 : (k : Int) ≤ c := by omega
  have h2 : (0 : Int) ≤ k := by omega
  have h3 : (k : Int) ≤ l.length := by omega
  obtain ⟨k1, hk1⟩ : ∃ k1, k + 1 = k1 := ⟨_, rfl⟩
  have h1' : (k1 : Int) ≤ c := by omega
  have h2' : (0 : Int) ≤ (k1 : Int) := by omega
  have h3' : (k1 : Int) ≤ l.length := by omega
  have hwr : IntKind.i64.wrap ((k : Int) + 1) = (k1 : Int) := by
    rw [IntWalk.i64_in _ (by unfold maxLen at hc; omega)]
    omega
  have hkk : k ≤ l.length := by omega
  have hkk1 : k ≤ k1 := by omega
  have HOF := Lib.hid (show Of w N 3 1 A l.length c (l.map nv) from h)
  have HAN := Lib.hid (show A ≠ none from fun e => by have := (Of.read h).1 e; omega)
  have HLEN := Lib.hid (show ((l.map nv).drop (k1 * 1)).length = (l.length - k1) * 1 from by
    rw [List.length_drop, Of.len h, Nat.sub_mul])
  have hres : (l.map nv).take (k * 1) ++ (l.map nv).drop (k1 * 1) = (l.eraseIdx k).map nv := by
    rw [List.eraseIdx_eq_take_drop_succ, hk1]
    rw [List.map_append, List.map_take, List.map_drop, Nat.mul_one, Nat.mul_one]
  have HRES := Lib.hid hres
  have HK1 := Lib.hid hk1
  clear h hcut hres
  by_cases hck : c = k1
  · have hkl : l.length = k1 := by omega
    have hln : (l.length - k1) = 0 := by omega
    have hl1 : l.length - 1 = k := by omega
    rw [hln] at HLEN
    rw [hl1]
    have HLN0 := Lib.hid (List.eq_nil_of_length_eq_zero (HLEN.out.trans (Nat.zero_mul _)))
    rw [HLN0.out, List.append_nil] at HRES
    subst hck
    rw [hkl]
    clear HLEN HLN0 hln hl1 h3 h3'
    go_enter Try.func58, Try.ntmps58
    go_wp2
    go_region_held3 (fun _ => True) (first | trivial | go_keep) (first
      | (go_at_call 59; refine (aheadI1 A c c k _ hkk1 (Nat.le_refl _) hc).mono ?_; rintro e w1 ⟨rfl, rfl⟩)
      | (refine step_app_any _ (by rfl) (.tmp 7) (.tmp 11) 29 (by rfl) 3 i0 _ 1 8 Try.underlying29 hi hz0 hz1 hz2 rfl (by decide) w (by first | exact grown_refl _ _ | exact grown_dN11 (grown_refl _ _) 1) N A k k ((l.map nv).take (k * 1)) (by simp [Act.eval, Act.put]) HCUT.out A 0 0 [] (by simp [Act.eval, Act.put]) rfl (fun e => absurd e HAN.out) (fun ad hA j u hu => by simp at hu) (fun u hu => by simp at hu) (by unfold maxLen; omega) (by omega) hN ?_; intro A4 c4 w4 ho4 hr4 ht4 hb4 hg4)
      | fail)
    all_goals go_wp2_with fail
    all_goals go_ret
    all_goals
      refine ⟨A4, c4, rfl, ?_, ht4, hb4⟩
      rw [← HRES.out]
      simpa using ho4
  · have hck1 : ¬ k1 = c := fun e => hck e.symm
    have hck2 : ¬ c - k1 = 0 := by omega
    have hck3 : ¬ (c : Int) = (k1 : Int) := by omega
    have hck4 : ¬ (k1 : Int) = c := by omega
    have HBN := Lib.hid (show Option.map (fun x : Addr => x.add k1) A ≠ none from fun e => by
      cases A with
      | none => exact HAN.out rfl
      | some a => cases e)
    go_enter Try.func58, Try.ntmps58
    go_wp2
    go_region_held3 (fun _ => True) (first | trivial | go_keep) (first
      | (go_at_call 59; refine (aheadI1 A l.length c k _ hkk hn hc).mono ?_; rintro e w1 ⟨rfl, rfl⟩)
      | (refine step_app_any _ (by rfl) (.tmp 7) (.tmp 11) 29 (by rfl) 3 i0 _ 1 8 Try.underlying29 hi hz0 hz1 hz2 rfl (by decide) w (by first | exact grown_refl _ _ | exact grown_dN11 (grown_refl _ _) 1) N A k k ((l.map nv).take (k * 1)) (by simp [Act.eval, Act.put]) HCUT.out (Option.map (fun x : Addr => x.add k1) A) (l.length - k1) (c - k1) ((l.map nv).drop (k1 * 1)) (by simp [Act.eval, Act.put]) HLEN.out (fun e => absurd e HBN.out) (fun ad hA j u hu => tail_cells HOF.out (k1 * 1) (by first | exact Below.refl _ _ | exact below_dN11 (Below.refl _ _) 1) ad (by rw [Nat.mul_one]; exact hA) j u hu) (fun u hu => nv_one l u (List.mem_of_mem_drop hu)) (by unfold maxLen; omega) (by omega) hN ?_; intro A4 c4 w4 ho4 hr4 ht4 hb4 hg4)
      | fail)
    all_goals go_wp2_with fail
    all_goals go_ret
    all_goals
      have hle : k + (l.length - k1) = l.length - 1 := by omega
      refine ⟨A4, c4, by rw [← hle]; rfl, ?_, ht4, hb4⟩
      rw [← HRES.out, ← hle]
      exact ho4
set_option maxRecDepth 100000 in
set_option maxHeartbeats 2000000 in
theorem withoutA1 {N : Nat} {A : Option Addr} {c : Nat} {l : List At} (k : Nat) (w : World) (h : Of w N 62 2 A l.length c (l.flatMap acells)) (hk : k < l.length) (hl : l.length ≤ 2000000) (hN : N ≤ w.heap.size) :
    Calls Try.prog 57 #[.slice A l.length c, .int .i64 k] w fun e w' => ∃ A' c', e = .returned (.slice A' (l.length - 1) c') ∧ Of w' N 62 2 A' (l.length - 1) c' ((l.eraseIdx k).flatMap acells) ∧ Touch (fun b => blkOf A = some b) w w' ∧ ∀ b, blkOf A' = some b → blkOf A = some b ∨ w.heap.size ≤ b := by
  obtain ⟨i0, hi, hz0, hz1, hz2⟩ := info_parts info_attr
  obtain ⟨hn, hc⟩ := Of.cap h
  have hcut : Of w N 62 2 A k k ((l.flatMap acells).take (k * 2)) := Of.cut h (by omega)
  have HCUT := Lib.hid hcut
  have h1 : (k : Int) ≤ c := by omega
  have h2 : (0 : Int) ≤ k := by omega
  have h3 : (k : Int) ≤ l.length := by omega
  obtain ⟨k1, hk1⟩ : ∃ k1, k + 1 = k1 := ⟨_, rfl⟩
  have h1' : (k1 : Int) ≤ c := by omega
  have h2' : (0 : Int) ≤ (k1 : Int) := by omega
  have h3' : (k1 : Int) ≤ l.length := by omega
  have hwr : IntKind.i64.wrap ((k : Int) + 1) = (k1 : Int) := by
    rw [IntWalk.i64_in _ (by unfold maxLen at hc; omega)]
    omega
  have hkk : k ≤ l.length := by omega
  have hkk1 : k ≤ k1 := by omega
  have HOF := Lib.hid (show Of w N 62 2 A l.length c (l.flatMap acells) from h)
  have HAN := Lib.hid (show A ≠ none from fun e => by have := (Of.read h).1 e; omega)
  have HLEN := Lib.hid (show ((l.flatMap acells).drop (k1 * 2)).length = (l.length - k1) * 2 from by
    rw [List.length_drop, Of.len h, Nat.sub_mul])
  have hres : (l.flatMap acells).take (k * 2) ++ (l.flatMap acells).drop (k1 * 2) = (l.eraseIdx k).flatMap acells := by
    rw [List.eraseIdx_eq_take_drop_succ, hk1]
    rw [List.flatMap_append, flat_take acells 2 len_acells, flat_drop acells 2 len_acells]
  have HRES := Lib.hid hres
  have HK1 := Lib.hid hk1
  clear h hcut hres
  by_cases hck : c = k1
  · have hkl : l.length = k1 := by omega
    have hln : (l.length - k1) = 0 := by omega
    have hl1 : l.length - 1 = k := by omega
    rw [hln] at HLEN
    rw [hl1]
    have HLN0 := Lib.hid (List.eq_nil_of_length_eq_zero (HLEN.out.trans (Nat.zero_mul _)))
    rw [HLN0.out, List.append_nil] at HRES
    subst hck
    rw [hkl]
    clear HLEN HLN0 hln hl1 h3 h3'
    go_enter Try.func57, Try.ntmps57
    go_wp2
    go_region_held3 (fun _ => True) (first | trivial | go_keep) (first
      | (go_at_call 74; refine (aheadA1 A c c k _ hkk1 (Nat.le_refl _) hc).mono ?_; rintro e w1 ⟨rfl, rfl⟩)
      | (refine step_app_any _ (by rfl) (.tmp 7) (.tmp 11) 45 (by rfl) 62 i0 _ 2 32 Try.underlying45 hi hz0 hz1 hz2 rfl (by decide) w (by first | exact grown_refl _ _ | exact grown_dN11 (grown_refl _ _) 1) N A k k ((l.flatMap acells).take (k * 2)) (by simp [Act.eval, Act.put]) HCUT.out A 0 0 [] (by simp [Act.eval, Act.put]) rfl (fun e => absurd e HAN.out) (fun ad hA j u hu => by simp at hu) (fun u hu => by simp at hu) (by unfold maxLen; omega) (by omega) hN ?_; intro A4 c4 w4 ho4 hr4 ht4 hb4 hg4)
      | fail)
    all_goals go_wp2_with fail
    all_goals go_ret
    all_goals
      refine ⟨A4, c4, rfl, ?_, ht4, hb4⟩
      rw [← HRES.out]
      simpa using ho4
  · have hck1 : ¬ k1 = c := fun e => hck e.symm
    have hck2 : ¬ c - k1 = 0 := by omega
    have hck3 : ¬ (c : Int) = (k1 : Int) := by omega
    have hck4 : ¬ (k1 : Int) = c := by omega
    have HBN := Lib.hid (show Option.map (fun x : Addr => x.add (k1 * 2)) A ≠ none from fun e => by
      cases A with
      | none => exact HAN.out rfl
      | some a => cases e)
    go_enter Try.func57, Try.ntmps57
    go_wp2
    go_region_held3 (fun _ => True) (first | trivial | go_keep) (first
      | (go_at_call 74; refine (aheadA1 A l.length c k _ hkk hn hc).mono ?_; rintro e w1 ⟨rfl, rfl⟩)
      | (refine step_app_any _ (by rfl) (.tmp 7) (.tmp 11) 45 (by rfl) 62 i0 _ 2 32 Try.underlying45 hi hz0 hz1 hz2 rfl (by decide) w (by first | exact grown_refl _ _ | exact grown_dN11 (grown_refl _ _) 1) N A k k ((l.flatMap acells).take (k * 2)) (by simp [Act.eval, Act.put]) HCUT.out (Option.map (fun x : Addr => x.add (k1 * 2)) A) (l.length - k1) (c - k1) ((l.flatMap acells).drop (k1 * 2)) (by simp [Act.eval, Act.put]) HLEN.out (fun e => absurd e HBN.out) (fun ad hA j u hu => tail_cells HOF.out (k1 * 2) (by first | exact Below.refl _ _ | exact below_dN11 (Below.refl _ _) 1) ad hA j u hu) (fun u hu => acells_one l u (List.mem_of_mem_drop hu)) (by unfold maxLen; omega) (by omega) hN ?_; intro A4 c4 w4 ho4 hr4 ht4 hb4 hg4)
      | fail)
    all_goals go_wp2_with fail
    all_goals go_ret
    all_goals
      have hle : k + (l.length - k1) = l.length - 1 := by omega
      refine ⟨A4, c4, by rw [← hle]; rfl, ?_, ht4, hb4⟩
      rw [← HRES.out, ← hle]
      exact ho4
end Go.Proofs.Ytfnffplnoicjcaa.Ar

namespace Go.Proofs.Ytfnffplnoicjcaa.Ar
set_option maxRecDepth 100000
set_option linter.unusedSimpArgs false
set_option linter.unusedVariables false
open Go.RowKit Ba
open Ro (At Ro Cw ros Rr Ow Nw Fr Att Ap Sh Ra cells acells len_acells acells_one app_num below_new infoI info_row info_attr len_cells rowV rowO)
open To (Aw)
theorem own_one {e : TypeId} {size base : Nat} (w : World) (cur : Array Value) (hb : base ≤ w.heap.size) (hs : cur.size = size) :
    (w.alloc (.cells cur e)).ownsRow base e size (.slice (some ⟨w.heap.size, 0, none⟩) 1 1) 1 cur.toList :=
  own_full w cur cur.toList hb (by decide) (by rw [hs, Nat.one_mul]) rfl
def e00 : Ew := ⟨⟨ro00, none, 0⟩, -1, none, 0, []⟩
set_option maxRecDepth 100000 in
theorem newP1 (w : World) : Calls Try.prog 14 #[] w fun e w' => ∃ p F, e = .returned (.pointer (some ⟨p, 0, none⟩)) ∧ Doc12 w' w.heap.size F p M0 ∧ Below w.heap.size w w' ∧ ∀ b, F b → w.heap.size ≤ b := by
  have hx0 := own_one (e := 70) (size := 7) (base := w.heap.size) w #[.int .i64 0, .int .i64 0, .string ⟨#[]⟩, .string ⟨#[]⟩, .slice none 0 0, .int .i64 (-1), .slice none 0 0] (Nat.le_refl _) rfl
  obtain ⟨w1, hw1⟩ : ∃ w1, w.alloc (.cells #[.int .i64 0, .int .i64 0, .string ⟨#[]⟩, .string ⟨#[]⟩, .slice none 0 0, .int .i64 (-1), .slice none 0 0] 70) = w1 := ⟨_, rfl⟩
  have hs1 : w1.heap.size = w.heap.size + 1 := by rw [← hw1]; simp
  have hb1 : Below w.heap.size w w1 := hw1 ▸ below_new w _
  rw [hw1] at hx0
  obtain ⟨o4, ho4⟩ : ∃ o4 : Obj, o4 = .cells #[.slice (some ⟨w.heap.size, 0, none⟩) 1 1] 52 := ⟨_, rfl⟩
  obtain ⟨w4, hw4⟩ : ∃ w4, w1.alloc o4 = w4 := ⟨_, rfl⟩
  have hs4 : w4.heap.size = w.heap.size + 1 + 1 := by rw [← hw4]; simp [hs1]
  have hb4 : Below w1.heap.size w1 w4 := hw4 ▸ below_new w1 _
  have hbox : w4.heap[w.heap.size + 1]? = some o4 := by rw [← hw4, ← hs1]; exact heap_alloc_new w1 _
  have hB := bt hb1 hb4
  have HW := Lib.hid (show (w.alloc (.cells #[.int .i64 0, .int .i64 0, .string ⟨#[]⟩, .string ⟨#[]⟩, .slice none 0 0, .int .i64 (-1), .slice none 0 0] 70)).alloc (.cells #[.slice (some ⟨w.heap.size, 0, none⟩) 1 1] 52) = w4 from by rw [hw1, ← ho4, hw4])
  have hX : w4.ownsRow w.heap.size 70 7 (.slice (some ⟨w.heap.size, 0, none⟩) 1 1) 1 (([e00] : List Ew).flatMap ecells) := owns_block hx0 fun g hg => by
    obtain rfl : w.heap.size = g := Option.some.inj hg
    rw [hb4.block _ (by omega)]
  have hRP : PD w4 w.heap.size (fun b => w.heap.size ≤ b ∧ b < w4.heap.size) (w.heap.size + 1) M0 w.heap.size 1 [e00] := by
    refine ⟨ho4 ▸ hbox, hX, fun x hx => ?_, fun x hx => ?_, List.pairwise_singleton _ _, List.pairwise_singleton _ _, rfl, by omega, ⟨by omega, by omega⟩, ⟨by omega, by omega⟩, fun b hb => hb.2⟩
    · rw [List.mem_singleton] at hx
      subst hx
      exact ⟨⟨.inl (World.ownsRow_nil _ _ _ _), fun x hx => by cases hx⟩, fun g hg => by cases hg⟩
    · rw [List.mem_singleton] at hx
      subst hx
      exact ⟨.inl (World.ownsRow_nil _ _ _ _), fun g hg => by cases hg⟩
  have HB := Lib.hid hB; have HRP := Lib.hid hRP
  clear hX hRP hB hbox hs4 hb4 hw4 ho4 hx0 hb1 hs1 hw1
  go_enter Try.func14, Try.ntmps14
  go_wp2
  go_ret
  rw [HW.out]
  exact ⟨w.heap.size + 1, _, rfl, ⟨_, _, _, HRP.out⟩, HB.out, fun b hb => hb.1⟩

section
variable {w w' : World} {N : Nat} {F : Nat → Prop} {p gE cE : Nat} {M : List Nd} {lE : List Ew}
/-- A new entry behind the others. -/
theorem PD.grow (h : PD w N F p M gE cE lE) {e' : Ew} (t : Touch (fun b => b = gE) w w') {g' c' : Nat} {M' : List Nd} (hM : M' = M ++ [nodeOf e'])
    (ho : w'.ownsRow N 70 7 (.slice (some ⟨g', 0, none⟩) (M.length + 1) c') (M.length + 1) ((lE ++ [e']).flatMap ecells)) (hg : g' = gE ∨ w.heap.size ≤ g')
    (ha : OA w' N e'.x) (hA : ∀ g, bA e' = some g → w.heap.size ≤ g) (hk : e'.K = none ∧ e'.kc = 0 ∧ e'.kids = []) :
    PD (w'.setCell ⟨p, 0, none⟩ (.slice (some ⟨g', 0, none⟩) (M.length + 1) c')) N (Wide w w' F) p M' g' c' (lE ++ [e']) ∧ Next w (w'.setCell ⟨p, 0, none⟩ (.slice (some ⟨g', 0, none⟩) (M.length + 1) c')) F (Wide w w' F) := by
  obtain ⟨_, hgl, _, _, ce, fe, hoE⟩ := h.obj
  have hpE := type_ne h.box hoE (by decide)
  have hbox := (t.block p h.p_lt hpE).trans h.box
  obtain ⟨w2, hw2⟩ : ∃ w2, w'.setCell ⟨p, 0, none⟩ (.slice (some ⟨g', 0, none⟩) (M.length + 1) c') = w2 := ⟨_, rfl⟩
  have hb2 : ∀ b, b ≠ p → w2.heap[b]? = w'.heap[b]? := fun b hb => hw2 ▸ Below.heap_setCell _ _ _ _ hb
  have hs2 : w2.heap.size = w'.heap.size := by rw [← hw2]; simp [World.setCell]
  have hne : ∀ {g : Nat} {c f} {tt : TypeId}, w'.heap[g]? = some (.cells c tt f) → tt ≠ 52 → g ≠ p := fun hh ht => type_ne hh hbox ht
  have hgo : g' < w'.heap.size ∧ ∃ c f, w'.heap[g']? = some (.cells c 70 f) := by
    obtain ⟨_, h2, c, f, h3⟩ := owns_lt ho (g := g') rfl
    refine ⟨h2, ?_⟩
    rcases ho.2 with ⟨hv, _⟩ | ⟨g'', cap, cur, hv, _, hh, _⟩
    · cases hv
    · injection hv with hv
      injection hv with hv
      injection hv with hv
      rw [← hv] at hh
      exact ⟨_, _, hh⟩
  obtain ⟨hgl', _, _, hgo⟩ := hgo
  have aA : ∀ b ∈ lE, ∀ g, bA b = some g → g < w.heap.size ∧ g ≠ gE := fun b hb g hg => by
    obtain ⟨_, _, h3, _, _, hh⟩ := oa_obj (h.attrs b hb).1 hg
    exact ⟨h3, type_ne hh hoE (by decide)⟩
  have aK : ∀ b ∈ lE, ∀ g, bK b = some g → g < w.heap.size ∧ g ≠ gE := fun b hb g hg => by
    obtain ⟨_, _, h3, _, _, hh⟩ := ok_obj (h.kids b hb).1 hg
    exact ⟨h3, type_ne hh hoE (by decide)⟩
  have oA : ∀ b ∈ lE, OA w' N b.x := fun b hb => (h.attrs b hb).1.block fun g hg => t.block g (aA b hb g hg).1 (aA b hb g hg).2
  have oK : ∀ b ∈ lE, OK w' N b.K b.kc b.kids := fun b hb => (h.kids b hb).1.block fun g hg => t.block g (aK b hb g hg).1 (aK b hb g hg).2
  have hl' : M'.length = M.length + 1 := by rw [hM, List.length_append]; rfl
  rw [hw2]
  refine ⟨⟨?_, ?_, fun b hb => ?_, fun b hb => ?_, ?_, ?_, ?_, h.low, .inl h.fp, ?_, fun b hb => ?_⟩, ⟨?_, fun b hb => .inl hb, fun b hb => ?_⟩⟩
  · rw [hl', ← hw2]
    simp [World.setCell, Array.getElem?_modify, hbox]
  · rw [hl']
    exact owns_block ho fun g hg => by
      obtain rfl : g' = g := Option.some.inj hg
      exact hb2 g' (hne hgo (by decide))
  · rcases List.mem_append.1 hb with hb | hb
    · refine ⟨(oA b hb).block fun g hg => ?_, fun g hg => .inl ((h.attrs b hb).2 g hg)⟩
      obtain ⟨_, _, _, _, _, hh⟩ := oa_obj (oA b hb) hg
      exact hb2 g (hne hh (by decide))
    · rw [List.mem_singleton] at hb
      subst hb
      refine ⟨ha.block fun g hg => ?_, fun g hg => .inr ⟨hA g hg, ?_⟩⟩
      · obtain ⟨_, _, _, _, _, hh⟩ := oa_obj ha hg
        exact hb2 g (hne hh (by decide))
      · exact (oa_obj ha hg).2.2.1
  · rcases List.mem_append.1 hb with hb | hb
    · refine ⟨(oK b hb).block fun g hg => ?_, fun g hg => .inl ((h.kids b hb).2 g hg)⟩
      obtain ⟨_, _, _, _, _, hh⟩ := ok_obj (oK b hb) hg
      exact hb2 g (hne hh (by decide))
    · rw [List.mem_singleton] at hb
      subst hb
      obtain ⟨k1, k2, k3⟩ := hk
      rw [k1, k2, k3]
      exact ⟨.inl (World.ownsRow_nil _ _ _ _), fun g hg => by unfold bK at hg; rw [k1] at hg; cases hg⟩
  · unfold Apart
    rw [List.pairwise_append]
    refine ⟨h.apA, List.pairwise_singleton _ _, fun a ha' b hb g hg hg2 => ?_⟩
    rw [List.mem_singleton] at hb
    subst hb
    have h5 := hA g hg2
    have h6 := (aA a ha' g hg).1
    omega
  · unfold Apart
    rw [List.pairwise_append]
    refine ⟨h.apK, List.pairwise_singleton _ _, fun a ha' b hb g hg hg2 => ?_⟩
    rw [List.mem_singleton] at hb
    subst hb
    unfold bK at hg2
    rw [hk.1] at hg2
    cases hg2
  · rw [hM, List.map_append, h.same]
    rfl
  · rcases hg with hg | hg
    · rw [hg]
      exact .inl h.fe
    · exact .inr ⟨hg, hgl'⟩
  · rw [hs2]
    rcases hb with hb | hb
    · exact Nat.lt_of_lt_of_le (h.bd b hb) t.size
    · exact hb.2
  · have t1 : Touch F w w' := t.mono fun b _ e => e ▸ h.fe
    exact t1.trans (hw2 ▸ Touch.set (F := F) w' ⟨p, 0, none⟩ _ h.fp) fun _ _ h => h
  · rw [hs2]
    exact hb
end
end Go.Proofs.Ytfnffplnoicjcaa.Ar

namespace Go.Proofs.Ytfnffplnoicjcaa.Ar
set_option maxRecDepth 100000
set_option linter.unusedSimpArgs false
set_option linter.unusedVariables false
open Go.RowKit Ba
open Ro (At Ro Cw ros Rr Ow Nw Fr Att Ap Sh Ra cells acells len_acells acells_one app_num below_new infoI info_row info_attr len_cells rowV rowO)
open To (Aw)
theorem block_cells {W : World} {g0 : Nat} {cs : Array Value} {t : TypeId} (h : W.heap[g0]? = some (.cells cs t)) : ∀ ad, some (⟨g0, 0, none⟩ : Addr) = some ad → ∀ j u, cs.toList[j]? = some u → W.cell? (ad.add j) = some u := fun ad ha j u hu => by
  cases ha
  exact World.news_of_block (cs := cs) h j u hu
theorem own_head {w : World} {N s n c : Nat} {t : TypeId} {A : Option Addr} {xs : List Value} (h : w.ownsRow N t s (.slice A n c) n xs) (hn : 0 < n) : ∃ g, A = some ⟨g, 0, none⟩ := by
  rcases h.2 with ⟨_, h0⟩ | ⟨g, cap, cur, hv, _⟩
  · omega
  · injection hv with h1
    exact ⟨g, h1⟩
theorem touch_cell {G : Nat → Prop} {w w' : World} (t : Touch G w w') {b : Nat} (hb : b < w.heap.size) (hn : ¬ G b) (j : Nat) : w'.cell? ⟨b, j, none⟩ = w.cell? ⟨b, j, none⟩ ∧ w'.frozen? ⟨b, j, none⟩ = w.frozen? ⟨b, j, none⟩ :=
  ⟨World.cell?_of_block (a := ⟨b, j, none⟩) (t.block b hb hn), World.frozen?_of_block (a := ⟨b, j, none⟩) (t.block b hb hn)⟩
set_option maxRecDepth 100000 in
set_option maxHeartbeats 4000000 in
theorem addP1 {p N : Nat} {F : Nat → Prop} {M : List Nd} (y : Cw) (w : World) (D : Doc12 w N F p M) (hm : M.length ≤ 5000) (hy : Att w w.heap.size y) (hl : y.ro.attrs.length ≤ 2000000) :
    Calls Try.prog 51 #[.pointer (some ⟨p, 0, none⟩), rowV y] w fun e w' => e = .returned (.int .i64 M.length) ∧ ∃ F', Doc12 w' N F' p (addM M y.ro) ∧ Next w w' F F' := by
  obtain ⟨gE, cE, lE, D⟩ := D
  obtain ⟨i0, hi, hz0, hz1, hz2⟩ := info_parts info_ent
  have hb1 := below_new w (rowO y)
  have HCP := Lib.hid (copiedA1 y (w.alloc (rowO y)) (hy.boxed (Below.refl _ _) (rowO y)) hl)
  have HD := Lib.hid D
  have hb0 := Ro.box_at w y
  have HBX := Lib.hid (heap_alloc_new w (rowO y))
  have HB1 := Lib.hid hb1
  have hpl := D.p_lt
  clear D hb1 hy
  have hc4 : (w.alloc (rowO y)).cell? ⟨w.heap.size, 4, none⟩ = some (.slice y.A y.ro.attrs.length y.c) := hb0 4
  clear hb0
  go_enter Try.func51, Try.ntmps51
  go_wp2_with fail
  refine HCP.out.mono ?_
  rintro e w1 ⟨v, rfl, haw, hb2⟩
  obtain ⟨A1, c1, rfl⟩ := haw.form
  have hbk := fun j => Ro.box_kept hb2 j
  have hob1 : w1.heap[w.heap.size]? = some (rowO y) := (hb2.block _ (by simp)).trans HBX.out
  have hf4 := box_frozen hob1 4
  have hk4 : w1.cell? ⟨w.heap.size, 4, none⟩ = some (.slice y.A y.ro.attrs.length y.c) := hbk 4
  have hb3 := bt HB1.out hb2
  obtain ⟨z, hz⟩ : ∃ z : Cw, z = ⟨y.ro, A1, c1⟩ := ⟨_, rfl⟩
  have hob2 : (w1.setCell ⟨w.heap.size, 4, none⟩ (.slice A1 y.ro.attrs.length c1)).heap[w.heap.size]? = some (rowO z) := by
    rw [hz]
    simp [World.setCell, Array.getElem?_modify, hob1]
  have hb4 := hb3.setCell (p := ⟨w.heap.size, 4, none⟩) (Nat.le_refl _) (.slice A1 y.ro.attrs.length c1)
  have haw4 : Aw w.heap.size (w1.setCell ⟨w.heap.size, 4, none⟩ (.slice A1 y.ro.attrs.length c1)) (.slice A1 y.ro.attrs.length c1) y.ro.attrs := by
    refine ⟨owns_block (World.ownsRow.mono haw.1 (by simp)) fun g hg => Below.heap_setCell _ _ _ _ fun e => ?_, haw.2⟩
    have := (owns_lt haw.1 hg).1
    have e : g = w.heap.size := e
    simp at this
    omega
  obtain ⟨w2, hw2⟩ : ∃ w2, w1.setCell ⟨w.heap.size, 4, none⟩ (.slice A1 y.ro.attrs.length c1) = w2 := ⟨_, rfl⟩
  rw [hw2] at hob2 hb4 haw4
  have hzc := fun j => cell_of_row w2 w.heap.size j _ _ _ hob2
  have D2 := HD.out.below hb4
  have x2 := D2.x
  have q0 : w2.cell? ⟨w.heap.size, 0, none⟩ = some (.int .i64 y.ro.depth) := by rw [hzc 0, hz]; rfl
  have q1 : w2.cell? ⟨w.heap.size, 1, none⟩ = some (.int .i64 y.ro.kind) := by rw [hzc 1, hz]; rfl
  have q2 : w2.cell? ⟨w.heap.size, 2, none⟩ = some (.string y.ro.name) := by rw [hzc 2, hz]; rfl
  have q3 : w2.cell? ⟨w.heap.size, 3, none⟩ = some (.string y.ro.data) := by rw [hzc 3, hz]; rfl
  have q4 : w2.cell? ⟨w.heap.size, 4, none⟩ = some (.slice A1 y.ro.attrs.length c1) := by rw [hzc 4, hz]; rfl
  have HW2 := Lib.hid hw2; have HB4 := Lib.hid hb4; have HAW := Lib.hid haw4; have HD2 := Lib.hid D2; have HOB := Lib.hid hob2
  clear hzc hw2 hob1 hbk hb3 hb4 haw4 haw hb2 D2 hob2 HCP HB1 HBX
  go_upto_region 1 with (fail)
  rw [HW2.out]
  clear hc4 hk4 hf4
  have HEO := Lib.hid (ecells_one [⟨z, -1, none, 0, []⟩])
  have HN := Lib.hid HD2.out.hN
  have HZ := Lib.hid hz
  have HOFE := Lib.hid (show Of w2 N 70 7 (some ⟨gE, 0, none⟩) M.length cE (lE.flatMap ecells) from .inl HD2.out.ents)
  have hkeep : ∀ w', Touch (fun b => (some ⟨gE, 0, none⟩ : Option Addr).map Addr.block = some b) w2 w' → ∀ j, w'.cell? ⟨p, j, none⟩ = w2.cell? ⟨p, j, none⟩ ∧ w'.cell? ⟨w.heap.size, j, none⟩ = w2.cell? ⟨w.heap.size, j, none⟩ ∧ w'.frozen? ⟨p, j, none⟩ = false := fun w' t j => by
    obtain ⟨_, _, _, _, cc, ff, hoE⟩ := HD2.out.obj
    have h1 : ¬ (some ⟨gE, 0, none⟩ : Option Addr).map Addr.block = some p := fun e => type_ne hoE HD2.out.box (by decide) (Option.some.inj e)
    have h2 : ¬ (some ⟨gE, 0, none⟩ : Option Addr).map Addr.block = some w.heap.size := fun e => type_ne hoE HOB.out (by decide) (Option.some.inj e)
    have hlt := (Array.getElem?_eq_some_iff.1 HOB.out).1
    obtain ⟨h3, h4⟩ := touch_cell t HD2.out.p_lt h1 j
    exact ⟨h3, (touch_cell t hlt h2 j).1, h4.trans (box_frozen HD2.out.box j)⟩
  have HK := Lib.hid hkeep
  clear hz hkeep
  go_cut [] from 9 to 19 (fun wx => ∃ g5 c5 w5, wx = w5.setCell ⟨p, 0, none⟩ (.slice (some ⟨g5, 0, none⟩) (M.length + 1) c5) ∧ w5.ownsRow N 70 7 (.slice (some ⟨g5, 0, none⟩) (M.length + 1) c5) (M.length + 1) (lE.flatMap ecells ++ [.int .i64 y.ro.depth, .int .i64 y.ro.kind, .string y.ro.name, .string y.ro.data, .slice A1 y.ro.attrs.length c1, .int .i64 (-1), .slice none 0 0]) ∧ Touch (fun b => b = gE) w2 w5 ∧ (g5 = gE ∨ w2.heap.size ≤ g5))
  case first =>
    have xA := ((below_new w2 (.cells #[.int .i64 y.ro.depth, .int .i64 y.ro.kind, .string y.ro.name, .string y.ro.data, .slice A1 y.ro.attrs.length c1, .int .i64 (-1), .slice none 0 0] 70)).cell (p := ⟨p, 0, none⟩) HD2.out.p_lt).trans x2
    go_region_law (refine step_app_any _ (by rfl) (.tmp 13) (.tmp 16) 50 (by rfl) 70 i0 _ 7 104 Try.underlying50 hi hz0 hz1 hz2 rfl (by decide) w2 (by first | exact World.grownBy_alloc w2 _ _ | exact (World.grownBy_alloc w2 _ _).trans (grown_dN11 (grown_refl _ none) 1) | exact (grown_dN11 (grown_refl w2 none) 1).trans (World.grownBy_alloc _ _ _)) N (some ⟨gE, 0, none⟩) M.length cE (lE.flatMap ecells) (by simp [Act.eval, Act.put]) HOFE.out (some ⟨w2.heap.size, 0, none⟩) 1 1 [.int .i64 y.ro.depth, .int .i64 y.ro.kind, .string y.ro.name, .string y.ro.data, .slice A1 y.ro.attrs.length c1, .int .i64 (-1), .slice none 0 0] (by simp [Act.eval, Act.put]) rfl (by simp) (block_cells (World.alloc_heap_new _ _)) (by simp [Value.oneCell']) (by unfold maxLen; omega) (by omega) HN.out ?_; intro A5 c5 w5 ho5 hr5 ht5 hb5 hg5; obtain ⟨g5, rfl⟩ := own_head (hr5 (by decide)) (by omega); have HR5 := Lib.hid (hr5 (by decide)); have HT5 := Lib.hid ht5; have HB5 := Lib.hid hb5; have d0 := ((HK.out w5 ht5) 0).1.trans x2; have dF := ((HK.out w5 ht5) 0).2.2; clear ho5 hr5 ht5 hb5 hg5)
    all_goals go_simp
    all_goals go_wp2_with fail
    all_goals go_meet
    all_goals exact ⟨g5, c5, w5, rfl, HR5.out, HT5.out.mono fun b _ e => (Option.some.inj e).symm, (HB5.out g5 rfl).imp (fun e => (Option.some.inj e).symm) id⟩
  case rest =>
  obtain ⟨g5, c5, w5, rfl, ho5, ht5, hg5⟩ := hcut
  have hT : Touch (fun b => b = gE) w w5 := (Touch.of_below HB4.out).trans ht5 fun _ _ h => h
  have hsz4 := HB4.out.size
  have hfz : OA w5 N z := by
    have h1 : Fr w.heap.size w2 z := by
      rw [HZ.out]
      exact HAW.out
    have h2 : OA w2 N z := ⟨(Fr.oa h1).1.mono HD.out.hN, h1.2⟩
    refine h2.block fun g hg => ?_
    obtain ⟨_, _, h3, _, _, hh⟩ := oa_obj h2 hg
    obtain ⟨_, _, _, _, _, _, hoE⟩ := HD2.out.obj
    exact ht5.block g h3 (type_ne hh hoE (by decide))
  have hzA : ∀ g, bA ⟨z, -1, none, 0, []⟩ = some g → w.heap.size ≤ g := fun g hg => by
    have h1 : Fr w.heap.size w2 z := by
      rw [HZ.out]
      exact HAW.out
    exact (oa_obj (Fr.oa h1) hg).2.1
  obtain ⟨P6, N6⟩ := HD.out.grow (e' := ⟨z, -1, none, 0, []⟩) (w' := w5) hT (M' := addM M y.ro) (g' := g5) (c' := c5) (by unfold addM nodeOf; rw [HZ.out]) (by
    rw [List.flatMap_append]
    have : ([⟨z, -1, none, 0, []⟩] : List Ew).flatMap ecells = [.int .i64 y.ro.depth, .int .i64 y.ro.kind, .string y.ro.name, .string y.ro.data, .slice A1 y.ro.attrs.length c1, .int .i64 (-1), .slice none 0 0] := by
      rw [HZ.out]
      rfl
    rw [this]
    exact ho5) (hg5.imp id fun h => by omega) hfz hzA ⟨rfl, rfl, rfl⟩
  obtain ⟨w6, hw6⟩ : ∃ w6, w5.setCell ⟨p, 0, none⟩ (.slice (some ⟨g5, 0, none⟩) (M.length + 1) c5) = w6 := ⟨_, rfl⟩
  rw [hw6] at P6 N6
  rw [hw6]
  have x6 := P6.x
  rw [len_add] at x6
  have HP6 := Lib.hid P6; have HN6 := Lib.hid N6
  clear P6 N6 hw6 hT hfz hzA ho5 ht5 hg5 x2 q0 q1 q2 q3 q4
  go_wp2
  go_ret
  exact ⟨ret_int (by omega), _, ⟨_, _, _, HP6.out⟩, HN6.out⟩
end Go.Proofs.Ytfnffplnoicjcaa.Ar

namespace Go.Proofs.Ytfnffplnoicjcaa.Ar
set_option maxRecDepth 100000
set_option linter.unusedSimpArgs false
set_option linter.unusedVariables false
open Go.RowKit Ba
open Ro (At Ro Cw ros Rr Ow Nw Fr Att Ap Sh Ra cells acells len_acells acells_one app_num below_new infoI info_row info_attr len_cells rowV rowO)
open To (Aw)
theorem filter_none {M : List Nd} (W : Wf M) {n : Nat} (hup : (nd M n).up = -1) (p : Nat) : (nd M p).kids.filter (· != n) = (nd M p).kids := by
  rw [List.filter_eq_self]
  intro c hc
  rw [bne_iff_ne]
  intro e
  subst e
  have := ((W.kid p c).1 hc).2
  omega
section
variable {w w' : World} {N : Nat} {F : Nat → Prop} {p gE cE : Nat} {M : List Nd} {lE : List Ew}
theorem PD.kidsOf (D : PD w N F p M gE cE lE) {k : Nat} (hk : k < M.length) : ∃ e, lE[k]? = some e ∧ nodeOf e = nd M k ∧ e.kids = (nd M k).kids ∧ OK w N e.K e.kc e.kids ∧ OA w N e.x ∧ w.cell? ⟨gE, k * 7 + 6, none⟩ = some (.slice e.K e.kids.length e.kc) ∧ w.cell? ⟨gE, k * 7 + 5, none⟩ = some (.int .i64 (nd M k).up) ∧ w.cell? ⟨gE, k * 7 + 4, none⟩ = some (.slice e.x.A e.x.ro.attrs.length e.x.c) := by
  obtain ⟨e, h1, h2, h3, h4⟩ := D.at_ hk
  refine ⟨e, h1, h3, by rw [← h3]; rfl, (D.kids e h2).1, (D.attrs e h2).1, h4 6 _ rfl, ?_, h4 4 _ rfl⟩
  rw [← h3]
  exact h4 5 _ rfl
end
set_option maxRecDepth 100000 in
set_option maxHeartbeats 4000000 in
theorem adoptP1 {p N : Nat} {F : Nat → Prop} {M : List Nd} (P n : Nat) (w : World) (D : Doc12 w N F p M) (W : Wf M) (hm : M.length ≤ 5000) (hP : P < M.length) (hn : n < M.length) (hne : P ≠ n) (hup : (nd M n).up = -1) :
    Calls Try.prog 52 #[.pointer (some ⟨p, 0, none⟩), .int .i64 P, .int .i64 n] w fun e w' => e = .returned (.tuple #[]) ∧ ∃ F', Doc12 w' N F' p (setM M P (nd M P).kids.length n) ∧ Next w w' F F' := by
  obtain ⟨gE, cE, lE, D⟩ := D
  obtain ⟨i0, hi, hz0, hz1, hz2⟩ := info_parts infoI
  obtain ⟨e, he, hen, hek, hok, hoa, c6, c5, c4⟩ := D.kidsOf hP
  have hx := D.x
  have hcap := D.obj.2.2.1
  have hkl : e.kids.length ≤ 5000 := by
    rw [hek]
    exact Nat.le_trans (nodup_bound (W.nodup P) fun x hx => ((W.kid P x).1 hx).1) hm
  have HD := Lib.hid D
  have HOK := Lib.hid (show Of w N 3 1 e.K e.kids.length e.kc (e.kids.map nv) from hok)
  have HE := Lib.hid he; have HEN := Lib.hid hen; have HEK := Lib.hid hek; have HOA := Lib.hid hoa
  have hgl := D.obj.2.1
  have xA := ((below_new w (.cells #[.int .i64 n] 3)).cell (p := ⟨p, 0, none⟩) D.p_lt).trans hx
  have cA := ((below_new w (.cells #[.int .i64 n] 3)).cell (p := ⟨gE, P * 7 + 6, none⟩) hgl).trans c6
  have hPi : (P : Int) < M.length := by omega
  have hkeep : ∀ w', Touch (fun b => e.K.map Addr.block = some b) w w' → ∀ j, w'.cell? ⟨p, j, none⟩ = w.cell? ⟨p, j, none⟩ ∧ w'.cell? ⟨gE, j, none⟩ = w.cell? ⟨gE, j, none⟩ ∧ w'.frozen? ⟨gE, j, none⟩ = false := fun w' t j => by
    obtain ⟨_, _, _, _, cc, ff, hoE⟩ := D.obj
    have h1 : ¬ e.K.map Addr.block = some p := fun hb => by
      obtain ⟨_, _, _, _, _, hh⟩ := ok_obj hok hb
      exact type_ne hh D.box (by decide) rfl
    have h2 : ¬ e.K.map Addr.block = some gE := fun hb => by
      obtain ⟨_, _, _, _, _, hh⟩ := ok_obj hok hb
      exact type_ne hh hoE (by decide) rfl
    obtain ⟨h3, h4⟩ := touch_cell t hgl h2 j
    exact ⟨(touch_cell t D.p_lt h1 j).1, h3, h4.trans (D.frz j)⟩
  have HK := Lib.hid hkeep; have HN := Lib.hid D.hN
  clear D hok hoa he hen hek hkeep c5 c4
  go_enter Try.func52, Try.ntmps52
  go_wp2
  go_cut [] from 6 to 23 (fun wx => ∃ g5 c5 w5, wx = w5.setCell ⟨gE, P * 7 + 6, none⟩ (.slice (some ⟨g5, 0, none⟩) (e.kids.length + 1) c5) ∧ Of w5 N 3 1 (some ⟨g5, 0, none⟩) (e.kids.length + 1) c5 (e.kids.map nv ++ [nv n]) ∧ Touch (fun b => e.K.map Addr.block = some b) w w5 ∧ (e.K.map Addr.block = some g5 ∨ w.heap.size ≤ g5))
  case first =>
    go_region_law (refine step_app_any _ (by rfl) (.tmp 18) (.tmp 20) 29 (by rfl) 3 i0 _ 1 8 Try.underlying29 hi hz0 hz1 hz2 rfl (by decide) w (by first | exact World.grownBy_alloc w _ _ | exact (World.grownBy_alloc w _ _).trans (grown_dN11 (grown_refl _ none) 1) | exact (grown_dN11 (grown_refl w none) 1).trans (World.grownBy_alloc _ _ _)) N e.K e.kids.length e.kc (e.kids.map nv) (by simp [Act.eval, Act.put]) HOK.out (some ⟨w.heap.size, 0, none⟩) 1 1 [nv n] (by simp [Act.eval, Act.put]) rfl (by simp) (one_cells (World.alloc_heap_new _ _)) (nv_one [n]) (by unfold maxLen; omega) (by omega) HN.out ?_; intro A5 c5 w5 ho5 hr5 ht5 hb5 hg5; obtain ⟨g5, rfl⟩ := own_head (hr5 (by decide)) (by omega); have HO5 := Lib.hid ho5; have HT5 := Lib.hid ht5; have HB5 := Lib.hid hb5; have d0 := ((HK.out w5 ht5) 0).1.trans hx; have d6 := ((HK.out w5 ht5) (P * 7 + 6)).2.1.trans c6; have dF := ((HK.out w5 ht5) (P * 7 + 6)).2.2; clear ho5 hr5 ht5 hb5 hg5)
    all_goals go_simp
    all_goals go_wp2_with fail
    all_goals go_meet
    all_goals exact ⟨g5, c5, w5, rfl, HO5.out, HT5.out, HB5.out g5 rfl⟩
  case rest =>
  obtain ⟨g5, c5, w5, rfl, ho5, ht5, hb5⟩ := hcut
  have HO5 := Lib.hid ho5; have HT5 := Lib.hid ht5; have HB5 := Lib.hid hb5
  clear ho5 ht5 hb5
  obtain ⟨w6, hw6⟩ : ∃ w6, w5.setCell ⟨gE, P * 7 + 6, none⟩ (.slice (some ⟨g5, 0, none⟩) (e.kids.length + 1) c5) = w6 := ⟨_, rfl⟩
  rw [hw6]
  have hl1 : (e.kids ++ [n]).length = e.kids.length + 1 := by simp
  have hoaw : OA w5 N e.x := HOA.out.block fun g hg => by
    obtain ⟨_, _, h3, _, _, hh⟩ := oa_obj HOA.out hg
    exact HT5.out.block g h3 fun hb => by
      obtain ⟨_, _, _, _, _, hh2⟩ := ok_obj HOK.out hb
      exact type_ne hh hh2 (by decide) rfl
  have hokw : OK w5 N (some ⟨g5, 0, none⟩) c5 (e.kids ++ [n]) := by
    unfold OK
    rw [hl1, List.map_append]
    exact HO5.out
  obtain ⟨P6, N6⟩ := HD.out.put (e' := ⟨e.x, e.up, some ⟨g5, 0, none⟩, c5, e.kids ++ [n]⟩) HE.out (w' := w5) (HT5.out.mono fun b _ hb => .inr hb) (j := 6) (by decide) (.slice (some ⟨g5, 0, none⟩) (e.kids.length + 1) c5) (by rw [← hl1]; rfl) hoaw hokw (fun g hg => .inl hg) (fun g hg => by
    cases hg
    exact HB5.out)
  rw [hw6] at P6 N6
  have hl6 : (M.set P (nodeOf ⟨e.x, e.up, some ⟨g5, 0, none⟩, c5, e.kids ++ [n]⟩)).length = M.length := List.length_set
  obtain ⟨e2, he2, hen2, _, hok2, hoa2, _, c5', _⟩ := P6.kidsOf (k := n) (by rw [hl6]; exact hn)
  have x6 := P6.x
  rw [hl6] at x6
  have f6 := P6.frz (n * 7 + 5)
  obtain ⟨P7, N7⟩ := P6.put (e' := ⟨e2.x, P, e2.K, e2.kc, e2.kids⟩) he2 (w' := w6) (Touch.refl _ _) (j := 5) (by decide) (.int .i64 P) rfl hoa2 hok2 (fun g hg => .inl hg) (fun g hg => .inl hg)
  have HP7 := Lib.hid P7; have HN7 := Lib.hid (N6.trans N7); have HEN2 := Lib.hid hen2
  have hni : (n : Int) < M.length := by omega
  clear P6 N6 P7 N7 hw6 hoaw hokw hl6 he2 hok2 hoa2 hen2 hx c6 xA cA
  go_wp2
  first | go_end0 | refine bodyPost_ret (results_none rfl _ _ _) rfl ?_
  have hM : setM M P (nd M P).kids.length n = (M.set P (nodeOf ⟨e.x, e.up, some ⟨g5, 0, none⟩, c5, e.kids ++ [n]⟩)).set n (nodeOf ⟨e2.x, P, e2.K, e2.kc, e2.kids⟩) := by
    refine ext_nd (by rw [len_set, List.length_set, List.length_set]) fun m hmm => ?_
    have hn2 := HEN2.out
    rw [nd_setL hP, if_neg (fun e => hne e.symm)] at hn2
    have r2 : ({ e2.x.ro with depth := 0 } : Ro) = (nd M n).ro := by rw [← hn2]; rfl
    have k2 : e2.kids = (nd M n).kids := by rw [← hn2]; rfl
    have r1 : ({ e.x.ro with depth := 0 } : Ro) = (nd M P).ro := by rw [← HEN.out]; rfl
    have u1 : e.up = (nd M P).up := by rw [← HEN.out]; rfl
    rw [nd_set hP hn, nd_setL (by rw [List.length_set]; exact hn), nd_setL hP, filter_none W hup]
    by_cases e1 : m = n
    · subst e1
      rw [if_pos rfl, if_neg (fun e => hne e.symm), if_pos rfl]
      unfold nodeOf
      simp only
      rw [r2, k2]
    · rw [if_neg e1, if_neg e1]
      by_cases e3 : m = P
      · subst e3
        rw [if_pos rfl, if_pos rfl]
        unfold nodeOf putAt10
        simp only
        rw [r1, u1, HEK.out, List.take_length, List.drop_length]
      · rw [if_neg e3, if_neg e3]
  rw [hM]
  exact ⟨rfl, _, ⟨_, _, _, HP7.out⟩, HN7.out⟩
end Go.Proofs.Ytfnffplnoicjcaa.Ar

namespace Go.Proofs.Ytfnffplnoicjcaa.Ar
set_option maxRecDepth 100000
set_option linter.unusedSimpArgs false
set_option linter.unusedVariables false
open Go.RowKit Ba
open Ro (At Ro Cw ros Rr Ow Nw Fr Att Ap Sh Ra cells acells app_num below_new infoI info_row len_cells rowV rowO)
open Na (mayB)
theorem makeable1 (k : Int) (n d : ByteArray) (w : World) (hs : n.size ≤ 140737488355328) (q : Bool) (hq : makeB k n d = q) :
    Calls Try.prog 53 #[.int .i64 k, .string n, .string d] w fun e w' => e = .returned (.bool q) ∧ w' = w := by
  have hR := Na.right_any n w hs
  obtain ⟨r, hr⟩ : ∃ r, Nm.rightB n = r := ⟨_, rfl⟩
  have hmr : mayB n false = r := hr
  rw [hr] at hR
  have HR := Lib.hid hR
  clear hR
  unfold makeB at hq
  rw [hmr] at hq
  subst hq
  clear hr hmr
  by_cases k0 : k = 0
  · subst k0
    cases r with
    | true =>
      have e : ((0 : Int) == 0 && true && d.toList.isEmpty || ((0 : Int) == 1 || (0 : Int) == 2) && n.toList.isEmpty) = d.toList.isEmpty := by simp
      rw [e]
      clear e
      cases hd : d.toList.isEmpty with
      | true =>
        go_enter Try.func53, Try.ntmps53
        go_wp2_with fail
        refine HR.out.mono ?_
        rintro e w1 ⟨rfl, rfl⟩
        go_wp2
        go_ret
        exact ⟨rfl, rfl⟩
      | false =>
        go_enter Try.func53, Try.ntmps53
        go_wp2_with fail
        refine HR.out.mono ?_
        rintro e w1 ⟨rfl, rfl⟩
        go_wp2
        go_ret
        exact ⟨rfl, rfl⟩
    | false =>
      have e : ((0 : Int) == 0 && false && d.toList.isEmpty || ((0 : Int) == 1 || (0 : Int) == 2) && n.toList.isEmpty) = false := by simp
      rw [e]
      clear e
      go_enter Try.func53, Try.ntmps53
      go_wp2_with fail
      refine HR.out.mono ?_
      rintro e w1 ⟨rfl, rfl⟩
      go_wp2
      go_ret
      exact ⟨rfl, rfl⟩
  · have a0 : (k == 0) = false := by simpa using k0
    rw [a0, Bool.false_and, Bool.false_and, Bool.false_or]
    by_cases k1 : k = 1
    · subst k1
      have e : (((1 : Int) == 1 || (1 : Int) == 2) && n.toList.isEmpty) = n.toList.isEmpty := by simp
      rw [e]
      clear e
      cases hn : n.toList.isEmpty with
      | true =>
        go_enter Try.func53, Try.ntmps53
        go_wp2
        go_ret
        exact ⟨rfl, rfl⟩
      | false =>
        go_enter Try.func53, Try.ntmps53
        go_wp2
        go_ret
        exact ⟨rfl, rfl⟩
    · by_cases k2 : k = 2
      · subst k2
        have e : (((2 : Int) == 1 || (2 : Int) == 2) && n.toList.isEmpty) = n.toList.isEmpty := by simp
        rw [e]
        clear e
        cases hn : n.toList.isEmpty with
        | true =>
          go_enter Try.func53, Try.ntmps53
          go_wp2
          go_ret
          exact ⟨rfl, rfl⟩
        | false =>
          go_enter Try.func53, Try.ntmps53
          go_wp2
          go_ret
          exact ⟨rfl, rfl⟩
      · have a1 : (k == 1) = false := by simpa using k1
        have a2 : (k == 2) = false := by simpa using k2
        rw [a1, a2, Bool.or_false, Bool.false_and]
        go_enter Try.func53, Try.ntmps53
        go_wp2
        go_ret
        exact ⟨rfl, rfl⟩
set_option maxRecDepth 100000 in
set_option maxHeartbeats 4000000 in
theorem makeP1 {p N : Nat} {F : Nat → Prop} {M : List Nd} (k : Int) (n d : ByteArray) (w : World) (D : Doc12 w N F p M) (hm : M.length ≤ 5000) (hs : n.size ≤ 140737488355328) :
    Calls Try.prog 24 #[.pointer (some ⟨p, 0, none⟩), .int .i64 k, .string n, .string d] w fun e w' => e = .returned (.tuple #[.int .i64 (makeE M k n d).1, .int .i64 (makeE M k n d).2]) ∧ ∃ F', Doc12 w' N F' p (makeM M k n d) ∧ Next w w' F F' := by
  have D0 := Lib.hid D
  obtain ⟨q, hq⟩ : ∃ q, makeB k n d = q := ⟨_, rfl⟩
  have HM := Lib.hid (makeable1 k n d w hs q hq)
  obtain ⟨gE, cE, lE, D⟩ := D
  obtain ⟨q2, hq2⟩ : ∃ q2, decide (4096 < M.length + 1) = q2 := ⟨_, rfl⟩
  have hx := exceeds1 1 w D (by omega) (by decide) q2 hq2
  have HX := Lib.hid (show Calls Try.prog 21 #[.pointer (some ⟨p, 0, none⟩), .int .i64 1] w fun e w' => e = .returned (.bool q2) ∧ w' = w from hx)
  clear D hx
  cases q with
  | false =>
    have e2 : makeE M k n d = (0, 1) := by unfold makeE; rw [hq]; rfl
    have e3 : makeM M k n d = M := by unfold makeM; rw [hq]; rfl
    rw [e2, e3]
    clear hq HX hq2 e2 e3
    go_enter Try.func24, Try.ntmps24
    go_wp2_with fail
    refine HM.out.mono ?_
    rintro e w1 ⟨rfl, rfl⟩
    go_wp2
    go_ret2
    exact ⟨rfl, F, D0.out, Next.refl w1 F⟩
  | true =>
    cases q2 with
    | true =>
      have hb := of_decide_eq_true hq2
      have e2 : makeE M k n d = (0, 2) := by unfold makeE; rw [hq, if_pos rfl, if_pos (by omega)]
      have e3 : makeM M k n d = M := by unfold makeM; rw [hq, decide_eq_false (by omega)]; rfl
      rw [e2, e3]
      clear hq hq2 e2 e3
      go_enter Try.func24, Try.ntmps24
      go_wp2_with fail
      refine HM.out.mono ?_
      rintro e w1 ⟨rfl, rfl⟩
      go_wp2_with fail
      refine HX.out.mono ?_
      rintro e w1 ⟨rfl, rfl⟩
      go_wp2
      go_ret2
      exact ⟨rfl, F, D0.out, Next.refl w1 F⟩
    | false =>
      have hb := of_decide_eq_false hq2
      have e2 : makeE M k n d = ((M.length : Int), 0) := by unfold makeE; rw [hq, if_pos rfl, if_neg (by omega)]
      have e3 : makeM M k n d = addM M (makeR k n d) := by unfold makeM; rw [hq, decide_eq_true (by omega)]; rfl
      rw [e2, e3]
      have HA := Lib.hid (addP1 ⟨makeR k n d, none, 0⟩ w D0.out hm (att_none w _ rfl) (Nat.zero_le _))
      clear hq hq2 e2 e3
      go_enter Try.func24, Try.ntmps24
      go_wp2_with fail
      refine HM.out.mono ?_
      rintro e w1 ⟨rfl, rfl⟩
      go_wp2_with fail
      refine HX.out.mono ?_
      rintro e w1 ⟨rfl, rfl⟩
      go_wp2_with fail
      refine HA.out.mono ?_
      rintro e w2 ⟨rfl, F2, D2, N2⟩
      have HD2 := Lib.hid D2; have HN2 := Lib.hid N2
      clear D2 N2
      go_wp2
      go_ret2
      exact ⟨rfl, F2, HD2.out, HN2.out⟩
end Go.Proofs.Ytfnffplnoicjcaa.Ar
