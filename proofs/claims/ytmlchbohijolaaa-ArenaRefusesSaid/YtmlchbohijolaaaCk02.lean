/-
  Stage 11: what a call may touch; the reference's document as one's own.
  Stage 11: the reference's Remove and set.
  Stage 11: ranks given anew; the reference's document with ranks of its own.
  Stage 11: the reference's set.
  Stage 11: the reference's document with other rows, parents, ranks in its box.
  Stage 11: the reference's add.
  Stage 11: the reference's Insert.
  Slices of strings in memory: what a slice reads as, and a slice of the call's own. For every stage.
  Plain mathematics for stage 2: lists that rise in a strict order, merging, inserting, counting; spaces, words and small letters of bytes. Nothing of the program stands here.
  Slices of strings as values: reading (Sv), of the call's own (Sown), literals, stores; the order of strings. For every stage from 5 on.
  fold.Space.
  Plain mathematics for stage 5: the lists of elements, what each closes and what ends the search, texts that may be names. Nothing of the program stands here.
  Walks of stage 5: names.inElement, inAttr, every, Attr, Right.
  boltingref02.Space.
  Walks of stage 5: names.inElement, inAttr, every, Right, Attr, and the document's bad, May.
  Stage 11: the reference's New, Make.
  Stage 11: the reference's Make.
-/
import Derived.Test.YtmlchbohijolaaaCk01
import Derived.Deep.AppendLies
import Derived.Deep.RegionHeld3
import Derived.Deep.DeepCutAuto
import Derived.Deep.QuietTactic
import Derived.BigQuiet
namespace Go.Proofs.Ytmlchbohijolaaa.Ar
set_option linter.unusedSimpArgs false
set_option linter.unusedVariables false
open Go.RowKit Ba
open Ro (At Ro Cw ros Rr Ow Nw Fr Att Ap Sh cells acells app_num below_new)
/-- Of the old blocks only those of F may have changed. -/
structure Touch (F : Nat → Prop) (w w' : World) : Prop where
  os : w'.os = w.os
  tape : w'.tape = w.tape
  output : w'.output = w.output
  size : w.heap.size ≤ w'.heap.size
  block : ∀ b, b < w.heap.size → ¬ F b → w'.heap[b]? = w.heap[b]?
theorem Touch.refl (F : Nat → Prop) (w : World) : Touch F w w := ⟨rfl, rfl, rfl, Nat.le_refl _, fun _ _ _ => rfl⟩
theorem Touch.trans {F G : Nat → Prop} {a b c : World} (h : Touch F a b) (k : Touch G b c) (hG : ∀ x, x < a.heap.size → G x → F x) : Touch F a c :=
  ⟨k.os.trans h.os, k.tape.trans h.tape, k.output.trans h.output, Nat.le_trans h.size k.size, fun x hx hn => (k.block x (Nat.lt_of_lt_of_le hx h.size) fun hg => hn (hG x hx hg)).trans (h.block x hx hn)⟩
theorem Touch.of_below {F : Nat → Prop} {w w' : World} (h : Below w.heap.size w w') : Touch F w w' := ⟨h.os, h.tape, h.output, h.size, fun b hb _ => h.block b hb⟩
theorem Touch.below {F : Nat → Prop} {N : Nat} {w w' : World} (h : Touch F w w') (hF : ∀ b, F b → N ≤ b) (hN : N ≤ w.heap.size) : Below N w w' :=
  ⟨h.os, h.tape, h.output, h.size, fun b hb => h.block b (by omega) fun hf => by have := hF b hf; omega⟩
theorem Touch.grown {F : Nat → Prop} {w w' : World} {row : Option Nat} (h : w.grownBy w' row) (hF : ∀ b, row = some b → F b) : Touch F w w' :=
  ⟨h.os, h.tape, h.output, h.size, fun b hb hn => h.block b hb fun e => hn (hF b e.symm)⟩
theorem Touch.set {F : Nat → Prop} (w : World) (a : Addr) (v : Value) (hF : F a.block) : Touch F w (w.setCell a v) :=
  ⟨rfl, rfl, rfl, by simp [World.setCell], fun b hb hn => Below.heap_setCell w a v b fun e => hn (e ▸ hF)⟩
theorem Touch.mono {F G : Nat → Prop} {w w' : World} (h : Touch F w w') (hG : ∀ b, b < w.heap.size → F b → G b) : Touch G w w' := ⟨h.os, h.tape, h.output, h.size, fun b hb hn => h.block b hb fun hf => hn (hG b hb hf)⟩

theorem owns_block {w w' : World} {N n size : Nat} {t : TypeId} {v : Value} {xs : List Value} (h : w.ownsRow N t size v n xs) (hb : ∀ g, v.ownBlock = some g → w'.heap[g]? = w.heap[g]?) : w'.ownsRow N t size v n xs := by
  refine ⟨h.1, ?_⟩
  rcases h.2 with hn | ⟨g, cap, cur, hv, hg, hh, rest⟩
  · exact .inl hn
  · exact .inr ⟨g, cap, cur, hv, hg, (hb g (by rw [hv]; rfl)).trans hh, rest⟩
theorem owns_lt {w : World} {N n size : Nat} {t : TypeId} {v : Value} {xs : List Value} (h : w.ownsRow N t size v n xs) {g : Nat} (hg : v.ownBlock = some g) : N ≤ g ∧ g < w.heap.size ∧ ∃ cs fr, w.heap[g]? = some (.cells cs t fr) := by
  rcases h.2 with ⟨hv, _⟩ | ⟨g', cap, cur, hv, hg', hh, rest⟩
  · rw [hv] at hg
    cases hg
  · rw [hv] at hg
    obtain rfl : g' = g := Option.some.inj hg
    exact ⟨hg', (Array.getElem?_eq_some_iff.1 hh).1, _, _, hh⟩
/-- Where a row's attributes lie. -/
def atBlock (x : Cw) : Option Nat := (Value.slice x.A x.ro.attrs.length x.c).ownBlock
theorem Fr.block {N : Nat} {w w' : World} {x : Cw} (h : Fr N w x) (hb : ∀ g, atBlock x = some g → w'.heap[g]? = w.heap[g]?) : Fr N w' x := ⟨owns_block h.1 hb, h.2⟩

def iv (i : Int) : Value := .int .i64 i
/-- The reference's document: all of its blocks are in F, and the call's own from N on. -/
structure RD (w : World) (N : Nat) (F : Nat → Prop) (p : Nat) (M : List Nd) (rk : List Int) (gX cX gU cU gR cR : Nat) (lX : List Cw) : Prop where
  box : w.heap[p]? = some (.cells #[.slice (some ⟨gX, 0, none⟩) M.length cX, .slice (some ⟨gU, 0, none⟩) M.length cU, .slice (some ⟨gR, 0, none⟩) M.length cR] 30)
  rows : w.ownsRow N 65 5 (.slice (some ⟨gX, 0, none⟩) M.length cX) M.length (lX.flatMap cells)
  attrs : ∀ x ∈ lX, Fr N w x ∧ ∀ g, atBlock x = some g → F g
  same : ros lX = M.map Nd.ro
  ups : w.ownsRow N 3 1 (.slice (some ⟨gU, 0, none⟩) M.length cU) M.length ((M.map Nd.up).map iv)
  ranks : w.ownsRow N 3 1 (.slice (some ⟨gR, 0, none⟩) M.length cR) M.length (rk.map iv)
  apart : gU ≠ gR
  low : N ≤ p
  fp : F p
  fx : F gX
  fu : F gU
  fr : F gR
  rf : Rf M rk
  bd : ∀ b, F b → b < w.heap.size
theorem RD.len {w : World} {N : Nat} {F : Nat → Prop} {p : Nat} {M : List Nd} {rk : List Int} {gX cX gU cU gR cR : Nat} {lX : List Cw} (h : RD w N F p M rk gX cX gU cU gR cR lX) : lX.length = M.length := by
  have := congrArg List.length h.same
  rw [Ro.len_ros, List.length_map] at this
  exact this
theorem RD.touch {w w' : World} {N : Nat} {F G : Nat → Prop} {p : Nat} {M : List Nd} {rk : List Int} {gX cX gU cU gR cR : Nat} {lX : List Cw} (h : RD w N F p M rk gX cX gU cU gR cR lX) (t : Touch G w w') (hd : ∀ b, F b → ¬ G b) : RD w' N F p M rk gX cX gU cU gR cR lX := by
  have hk : ∀ b, F b → b < w.heap.size → w'.heap[b]? = w.heap[b]? := fun b hf hb => t.block b hb (hd b hf)
  refine ⟨(hk p h.fp (Array.getElem?_eq_some_iff.1 h.box).1).trans h.box, owns_block h.rows fun g hg => ?_, fun x hx => ⟨Fr.block (h.attrs x hx).1 fun g hg => ?_, (h.attrs x hx).2⟩, h.same, owns_block h.ups fun g hg => ?_, owns_block h.ranks fun g hg => ?_, h.apart, h.low, h.fp, h.fx, h.fu, h.fr, h.rf, fun b hb => Nat.lt_of_lt_of_le (h.bd b hb) t.size⟩
  · obtain ⟨_, h2, _⟩ := owns_lt h.rows hg
    obtain rfl : gX = g := Option.some.inj hg
    exact hk _ h.fx h2
  · obtain ⟨_, h2, _⟩ := owns_lt (h.attrs x hx).1.1 hg
    exact hk g ((h.attrs x hx).2 g hg) h2
  · obtain ⟨_, h2, _⟩ := owns_lt h.ups hg
    obtain rfl : gU = g := Option.some.inj hg
    exact hk _ h.fu h2
  · obtain ⟨_, h2, _⟩ := owns_lt h.ranks hg
    obtain rfl : gR = g := Option.some.inj hg
    exact hk _ h.fr h2
theorem RD.below {w w' : World} {N : Nat} {F : Nat → Prop} {p : Nat} {M : List Nd} {rk : List Int} {gX cX gU cU gR cR : Nat} {lX : List Cw} (h : RD w N F p M rk gX cX gU cU gR cR lX) (hb : Below w.heap.size w w') : RD w' N F p M rk gX cX gU cU gR cR lX :=
  h.touch (G := fun _ => False) (Touch.of_below hb) fun _ _ h => h
theorem li_of {w : World} {N g c : Nat} {l : List Int} {n : Nat} (hn : l.length = n) (h : w.ownsRow N 3 1 (.slice (some ⟨g, 0, none⟩) n c) n (l.map iv)) : Li w g l := by
  obtain ⟨_, h2, _⟩ := owns_lt h (g := g) rfl
  refine ⟨h2, fun j hj => ?_⟩
  have := World.ownsRow.cells h (g := g) rfl j (iv l[j]) (by simp [hj])
  rw [WideShapes.add_plain, Nat.zero_add] at this
  exact this
theorem RD.rd {w : World} {N : Nat} {F : Nat → Prop} {p : Nat} {M : List Nd} {rk : List Int} {gX cX gU cU gR cR : Nat} {lX : List Cw} (h : RD w N F p M rk gX cX gU cU gR cR lX) : Rd11 w p M rk gX cX gU cU gR cR lX := by
  have hl := h.len
  have hlt := (Array.getElem?_eq_some_iff.1 h.box).1
  have hc := fun j => cell_of_row w p j _ _ _ h.box
  obtain ⟨_, hx, _⟩ := owns_lt h.rows (g := gX) rfl
  refine ⟨hlt, hc 0, hc 1, hc 2, ⟨fun h0 => ⟨gX, 0, rfl, hx, fun j hj i u hu => ?_⟩, fun x hx => (h.attrs x hx).1.att⟩, h.same, li_of (by simp) h.ups, li_of h.rf.len h.ranks⟩
  have hi : i < 5 := (List.getElem?_eq_some_iff.1 hu).1
  have := World.ownsRow.cells h.rows (g := gX) rfl (j * 5 + i) u (by rw [Ro.flat_at cells 5 Ro.len_cells _ _ _ hj hi]; exact hu)
  rw [WideShapes.add_plain] at this
  rw [show 0 + j * 5 + i = 0 + (j * 5 + i) from by omega]
  exact this
end Go.Proofs.Ytmlchbohijolaaa.Ar

namespace Go.Proofs.Ytmlchbohijolaaa.Ar
set_option maxRecDepth 100000
set_option linter.unusedSimpArgs false
set_option linter.unusedVariables false
open Go.RowKit Ba
open Ro (At Ro Cw ros Rr Ow Nw Fr Att Ap Sh cells acells app_num below_new infoI)
/-- A slice of numbers of one's own. -/
def Iw (N : Nat) (w : World) (g c : Nat) (n : Nat) (l : List Int) : Prop := w.ownsRow N 3 1 (.slice (some ⟨g, 0, none⟩) n c) n (l.map iv)
theorem Iw.len {N : Nat} {w : World} {g c n : Nat} {l : List Int} (h : Iw N w g c n l) : l.length = n := by
  have := h.1
  rw [List.length_map, Nat.mul_one] at this
  exact this
theorem Iw.made (w : World) : Iw w.heap.size (w.alloc (.cells #[] 3)) w.heap.size 0 0 [] := World.ownsRow_made w #[] 0 (Nat.le_refl _) (Nat.zero_le _) rfl
theorem Iw.block {N : Nat} {w w' : World} {g c n : Nat} {l : List Int} (h : Iw N w g c n l) (hb : w'.heap[g]? = w.heap[g]?) : Iw N w' g c n l := owns_block h fun g' hg' => by
  obtain rfl : g = g' := Option.some.inj hg'
  exact hb
theorem Iw.lt {N : Nat} {w : World} {g c n : Nat} {l : List Int} (h : Iw N w g c n l) : N ≤ g ∧ g < w.heap.size := by
  obtain ⟨h1, h2, _⟩ := owns_lt h (g := g) rfl
  exact ⟨h1, h2⟩
theorem Iw.mono {N N' : Nat} {w : World} {g c n : Nat} {l : List Int} (h : Iw N w g c n l) (hN : N' ≤ N) : Iw N' w g c n l := World.ownsRow.mono h hN
theorem Iw.store {N : Nat} {w : World} {g c n : Nat} {l : List Int} (h : Iw N w g c n l) (j : Nat) (y : Int) : Iw N (w.setCell ⟨g, j, none⟩ (.int .i64 y)) g c n (l.set j y) := by
  have h1 := (World.ownsRow.stored h j (.int .i64 y)).1
  unfold Iw
  rw [List.map_set]
  exact h1
theorem Iw.cell {N : Nat} {w : World} {g c n : Nat} {l : List Int} (h : Iw N w g c n l) {j : Nat} (hj : j < n) : w.cell? ⟨g, j, none⟩ = some (.int .i64 (l[j]'(by rw [h.len]; exact hj))) ∧ w.frozen? ⟨g, j, none⟩ = false := by
  refine ⟨?_, World.ownsRow.frozenAt h j⟩
  rw [World.ownsRow.cellAt h j (by rw [Nat.mul_one]; exact hj)]
  simp [iv, h.len, hj]
theorem Iw.some {N : Nat} {w : World} {g c n : Nat} {l : List Int} (h : Iw N w g c n l) {j : Nat} (hj : j < n) : ∃ y : Int, w.cell? ⟨g, j, none⟩ = .some (.int .i64 y) ∧ w.frozen? ⟨g, j, none⟩ = false := ⟨_, h.cell hj⟩
/-- append of numbers onto numbers of one's own. -/
theorem app_ints {ops : Array Oper} {rest : List Oper} {o : Oper} {a : Act} {Q : Exit → Act → World → Prop} (w : World) (hgd : o.guard = none) (s x : Operand)
    (ho : o.op = .call { callee := .builtin .append, args := #[s, x], argTypes := #[28, 28] })
    (N g0 c0 n0 : Nat) (l : List Int) (hs : a.eval s = .slice (some ⟨g0, 0, none⟩) n0 c0) (hown : Iw N w g0 c0 n0 l) (g c n : Nat) (ys : List Int) (hx : a.eval x = .slice (some ⟨g, 0, none⟩) n c) (hn : ys.length = n) (hr : Li w g ys) (h0 : 0 < n)
    (hl : n0 + n ≤ 2000000) (hN : N ≤ w.heap.size) (H : Nat) (hH : w.heap.size = H)
    (h : ∀ g' c' w', Iw N w' g' c' (n0 + n) (l ++ ys) → w.grownBy w' (some g0) → (g' = g0 ∨ g' = H) → wpList Try.prog ops Q rest (a.put o.dst (.slice (some ⟨g', 0, none⟩) (n0 + n) c')) w') :
    wpList Try.prog ops Q (o :: rest) a w := by
  obtain ⟨i0, hi, hz0, hz1, hz2⟩ := info_parts infoI
  refine wpList_append_lies w hgd s x 28 ho N 3 i0 (.int .i64 0) 1 8 Try.underlying28 hi hz0 hz1 hz2 rfl (by decide) _ n0 (l.map iv) hs hown ⟨g, 0, none⟩ n c (ys.map iv) hx (by rw [List.length_map, hn, Nat.mul_one]) (fun j u hu => ?_) (fun u hu => ?_) h0 (by unfold maxLen; omega) (by omega) hN H hH ?_
  · have hj : j < ys.length := by
      have := (List.getElem?_eq_some_iff.1 hu).1
      simpa using this
    rw [WideShapes.add_plain, Nat.zero_add, hr.2 j hj]
    rw [List.getElem?_map, List.getElem?_eq_getElem hj] at hu
    exact hu
  · obtain ⟨y, _, rfl⟩ := List.mem_map.1 hu
    rfl
  · intro g' c' w' h1 h2 h3 _
    refine h g' c' w' (by unfold Iw; rw [List.map_append]; exact h1) h2 ?_
    rcases h3 with h3 | h3
    · exact .inl (Option.some.inj h3).symm
    · exact .inr h3

/-! ### What a call leaves of a document. -/
def Doc11 (w : World) (N : Nat) (F : Nat → Prop) (p : Nat) (M : List Nd) : Prop := ∃ rk gX cX gU cU gR cR lX, RD w N F p M rk gX cX gU cU gR cR lX
def Next (w w' : World) (F F' : Nat → Prop) : Prop := Touch F w w' ∧ (∀ b, F b → F' b) ∧ ∀ b, F' b → F b ∨ (w.heap.size ≤ b ∧ b < w'.heap.size)
theorem Next.refl (w : World) (F : Nat → Prop) : Next w w F F := ⟨Touch.refl F w, fun _ h => h, fun _ h => .inl h⟩
theorem Next.trans {a b c : World} {F G H : Nat → Prop} (h : Next a b F G) (k : Next b c G H) : Next a c F H := by
  have h1 := h.1.size
  have h2 := k.1.size
  refine ⟨h.1.trans k.1 fun x hx hg => ?_, fun x hx => k.2.1 x (h.2.1 x hx), fun x hx => ?_⟩
  · rcases h.2.2 x hg with h | h
    · exact h
    · omega
  · rcases k.2.2 x hx with h3 | h3
    · rcases h.2.2 x h3 with h4 | h4
      · exact .inl h4
      · exact .inr ⟨h4.1, by omega⟩
    · exact .inr ⟨by omega, h3.2⟩
/-- The blocks that were made meanwhile are the document's, too. -/
def Wide (w w' : World) (F : Nat → Prop) (b : Nat) : Prop := F b ∨ (w.heap.size ≤ b ∧ b < w'.heap.size)
theorem rf_take {M : List Nd} {rk : List Int} (R : Rf M rk) (n : Nat) : Rf (takeOut M n) rk := ⟨by rw [len_take]; exact R.len, R.low, fun p => by
  rw [nd_take]
  exact (R.rise p).sublist ((List.filter_sublist).map _)⟩
theorem up_take (M : List Nd) (n : Nat) : (takeOut M n).map Nd.up = (M.map Nd.up).set n (-1) := by
  apply List.ext_getElem?
  intro j
  unfold takeOut
  rw [List.getElem?_map, List.getElem?_mapIdx, List.getElem?_set, List.getElem?_map, List.length_map]
  by_cases hj : j < M.length
  · rw [List.getElem?_eq_getElem hj]
    by_cases e : n = j
    · subst e
      simp [hj]
    · have e' : ¬ j = n := fun h => e h.symm
      simp [e, e']
  · rw [List.getElem?_eq_none (by omega : M.length ≤ j)]
    by_cases e : n = j
    · subst e
      simp [hj]
    · simp [e]
theorem ro_take (M : List Nd) (n : Nat) : (takeOut M n).map Nd.ro = M.map Nd.ro := by
  apply List.ext_getElem?
  intro j
  unfold takeOut
  rw [List.getElem?_map, List.getElem?_mapIdx, List.getElem?_map]
  cases M[j]? <;> rfl
/-- A box of three cells, one of them changed. -/
theorem box_set {w : World} {p : Nat} {a b c : Value} {t : TypeId} (h : w.heap[p]? = some (.cells #[a, b, c] t)) (u : Value) :
    (w.setCell ⟨p, 0, none⟩ u).heap[p]? = some (.cells #[u, b, c] t) ∧ (w.setCell ⟨p, 1, none⟩ u).heap[p]? = some (.cells #[a, u, c] t) ∧ (w.setCell ⟨p, 2, none⟩ u).heap[p]? = some (.cells #[a, b, u] t) := by
  refine ⟨?_, ?_, ?_⟩ <;> simp [World.setCell, Array.getElem?_modify, h]
theorem box_frozen {w : World} {p : Nat} {cs : Array Value} {t : TypeId} (h : w.heap[p]? = some (.cells cs t)) (j : Nat) : w.frozen? ⟨p, j, none⟩ = false := by
  unfold World.frozen?
  rw [h]
  rfl
theorem RD.p_lt {w : World} {N : Nat} {F : Nat → Prop} {p : Nat} {M : List Nd} {rk : List Int} {gX cX gU cU gR cR : Nat} {lX : List Cw} (h : RD w N F p M rk gX cX gU cU gR cR lX) : p < w.heap.size := (Array.getElem?_eq_some_iff.1 h.box).1
/-- Other numbers of parents, in a block that was made meanwhile. -/
theorem RD.newUps {w w3 : World} {N : Nat} {F : Nat → Prop} {p : Nat} {M M' : List Nd} {rk : List Int} {gX cX gU cU gR cR : Nat} {lX : List Cw} (h : RD w N F p M rk gX cX gU cU gR cR lX) (hN : N ≤ w.heap.size) (hb : Below w.heap.size w w3) {g c : Nat} (ho : Iw w.heap.size w3 g c M.length (M'.map Nd.up)) (hro : M'.map Nd.ro = M.map Nd.ro) (hrf : Rf M' rk) :
    RD (w3.setCell ⟨p, 1, none⟩ (.slice (some ⟨g, 0, none⟩) M.length c)) N (fun b => F b ∨ b = g) p M' rk gX cX g c gR cR lX ∧ Next w (w3.setCell ⟨p, 1, none⟩ (.slice (some ⟨g, 0, none⟩) M.length c)) F (fun b => F b ∨ b = g) := by
  have D := h.below hb
  have hp := h.p_lt
  have hml : M'.length = M.length := by
    have := ho.len
    rwa [List.length_map] at this
  have hg := ho.lt
  have hne : p ≠ g := by omega
  have hblk : ∀ b, b ≠ p → (w3.setCell ⟨p, 1, none⟩ (.slice (some ⟨g, 0, none⟩) M.length c)).heap[b]? = w3.heap[b]? := fun b hb => Below.heap_setCell _ _ _ _ hb
  have hsize : (w3.setCell ⟨p, 1, none⟩ (.slice (some ⟨g, 0, none⟩) M.length c)).heap.size = w3.heap.size := by simp [World.setCell]
  have ht := fun {t : TypeId} {v : Value} {n s : Nat} {xs : List Value} (ho : w3.ownsRow N t s v n xs) (htt : t ≠ 30) => owns_block (w' := w3.setCell ⟨p, 1, none⟩ (.slice (some ⟨g, 0, none⟩) M.length c)) ho fun g' hg' => hblk g' fun e => by
    obtain ⟨_, _, cs, fr, hh⟩ := owns_lt ho hg'
    rw [e, D.box] at hh
    injection hh with hh
    injection hh with _ h2
    exact htt h2.symm
  refine ⟨⟨?_, ?_, fun x hx => ⟨⟨ht (D.attrs x hx).1.1 (by decide), (D.attrs x hx).1.2⟩, fun g' hg' => .inl ((D.attrs x hx).2 g' hg')⟩, by rw [D.same, hro], ?_, ?_, ?_, D.low, .inl D.fp, .inl D.fx, .inr rfl, .inl D.fr, hrf, fun b hb => ?_⟩, ⟨?_, fun b hb => .inl hb, fun b hb => ?_⟩⟩
  · rw [hml]
    exact (box_set D.box _).2.1
  · rw [hml]
    exact ht D.rows (by decide)
  · rw [hml]
    exact Iw.block (Iw.mono ho hN) (hblk g fun e => hne e.symm)
  · rw [hml]
    exact ht D.ranks (by decide)
  · have := (owns_lt h.ranks (g := gR) rfl).2.1
    omega
  · rw [hsize]
    rcases hb with hb | hb
    · exact D.bd b hb
    · rw [hb]
      exact hg.2
  · exact (Touch.of_below hb).trans (Touch.set w3 ⟨p, 1, none⟩ _ (F := F) h.fp) fun _ _ h => h
  · rcases hb with h | h
    · exact .inl h
    · rw [hsize]
      exact .inr (by omega)
set_option maxRecDepth 100000 in
set_option maxHeartbeats 2000000 in
theorem refRemove1 {p N : Nat} {F : Nat → Prop} {M : List Nd} (n : Int) (w : World) (D : Doc11 w N F p M) (W : Wf M) (hm : M.length ≤ 5000) (q : Int) (hq : (if 1 ≤ n ∧ n < M.length then (0 : Int) else 110) = q) :
    Calls Try.prog 51 #[.pointer (some ⟨p, 0, none⟩), .int .i64 n] w fun e w' => e = .returned (.int .i64 q) ∧ ∃ F', Doc11 w' N F' p (if 1 ≤ n ∧ n < M.length then takeOut M n.toNat else M) ∧ Next w w' F F' := by
  by_cases hn : 1 ≤ n ∧ n < M.length
  · rw [if_pos hn] at hq ⊢
    subst hq
    obtain ⟨k, rfl⟩ : ∃ k : Nat, n = k := ⟨n.toNat, by omega⟩
    obtain ⟨rk, gX, cX, gU, cU, gR, cR, lX, D⟩ := D
    have R := D.rd
    have hx := R.x
    have hu := R.u
    have HB0 := Lib.hid (below_new w (.cells #[] 3))
    have D1 := D.below (below_new w (.cells #[] 3))
    have hx1 := D1.rd.x
    have hu1 := D1.rd.u
    have HLI := Lib.hid (D1.rd.ups)
    have HIW := Lib.hid (Iw.made w)
    have HD := Lib.hid D; have HD1 := Lib.hid D1
    have hl0 : 0 < M.length := by omega
    have hl1 : 0 + M.length ≤ 2000000 := by omega
    have hul : (M.map Nd.up).length = M.length := by rw [List.length_map]
    have HUL := Lib.hid hul
    clear D R D1 hul
    obtain ⟨n1, n2⟩ := hn
    go_enter Try.func51, Try.ntmps51
    go_wp2_with (at_builtin; refine app_ints (w.alloc (.cells #[] 3)) rfl (.tmp 17) (.tmp 21) rfl w.heap.size w.heap.size 0 0 [] rfl HIW.out gU cU M.length (M.map Nd.up) rfl HUL.out HLI.out hl0 hl1 (by simp) (w.heap.size + 1) (by simp) ?_; intro g2 c2 w2 ho2 hg2 hw2; rw [Nat.zero_add, List.nil_append] at ho2; obtain ⟨y2, hkc, hkf⟩ := ho2.some (j := k) (by omega); have hb2 := HB0.out.grown hg2 (by simp) (fun x hx => by cases hx; exact Nat.le_refl _); have D2 := HD.out.below hb2; have hg2l := ho2.lt; have hst := ho2.store k (-1); have hb3 := hb2.setCell (p := ⟨g2, k, none⟩) hg2l.1 (.int .i64 (-1)); have D3 := HD.out.below hb3; have hp3 := D3.rd.u; have hf3 := box_frozen D3.box 1; have HST := Lib.hid hst; have HB3 := Lib.hid hb3; rw [Nat.zero_add]; clear ho2 hb2 D2 hst hb3 D3 hg2 hw2)
    go_ret
    have hN : N ≤ w.heap.size := Nat.le_of_lt (Nat.lt_of_le_of_lt HD.out.low HD.out.p_lt)
    have key := HD.out.newUps (M' := takeOut M k) hN HB3.out (by rw [up_take]; exact HST.out) (ro_take M k) (rf_take HD.out.rf k)
    exact ⟨rfl, _, ⟨rk, gX, cX, g2, c2, gR, cR, lX, key.1⟩, key.2⟩
  · rw [if_neg hn] at hq ⊢
    subst hq
    have D0 := D
    obtain ⟨rk, gX, cX, gU, cU, gR, cR, lX, D⟩ := D
    have hx := D.rd.x
    have HD0 := Lib.hid D0
    clear D D0
    by_cases h1 : n < 1
    · go_enter Try.func51, Try.ntmps51
      go_wp2
      go_ret
      exact ⟨rfl, F, HD0.out, Next.refl w F⟩
    · have h2 : (M.length : Int) ≤ n := by omega
      go_enter Try.func51, Try.ntmps51
      go_wp2
      go_ret
      exact ⟨rfl, F, HD0.out, Next.refl w F⟩
end Go.Proofs.Ytmlchbohijolaaa.Ar

namespace Go.Proofs.Ytmlchbohijolaaa.Ar
set_option linter.unusedSimpArgs false
set_option linter.unusedVariables false
open Go.RowKit Ba
open Ro (At Ro Cw ros Rr Ow Nw Fr Att Ap Sh cells acells app_num below_new infoI)
/-! ### Ranks given anew. -/
def ranked (rk : List Int) (ks : List Nat) : Nat → List Int
  | 0 => rk
  | t + 1 => (ranked rk ks t).set ((ks[t]?).getD 0) (2 * t + 1)
theorem ranked_len (rk : List Int) (ks : List Nat) : ∀ t, (ranked rk ks t).length = rk.length
  | 0 => rfl
  | t + 1 => by rw [ranked, List.length_set, ranked_len rk ks t]
theorem rk_set (rk : List Int) (c d : Nat) (y : Int) : rkAt (rk.set c y) d = if c = d ∧ c < rk.length then y else rkAt rk d := by
  unfold rkAt
  rw [List.getElem?_set]
  by_cases e : c = d
  · subst e
    by_cases h : c < rk.length
    · simp [h]
    · simp [h]
  · simp [e]
theorem ranked_at {rk : List Int} {ks : List Nat} (hn : ks.Nodup) (hk : ∀ c ∈ ks, c < rk.length) : ∀ t, t ≤ ks.length → (∀ j (h : j < ks.length), j < t → rkAt (ranked rk ks t) ks[j] = 2 * j + 1) ∧ (∀ c, c ∉ ks → rkAt (ranked rk ks t) c = rkAt rk c)
  | 0, _ => ⟨fun j h h0 => absurd h0 (by omega), fun c _ => rfl⟩
  | t + 1, ht => by
    obtain ⟨h1, h2⟩ := ranked_at hn hk t (by omega)
    have hg : (ks[t]?).getD 0 = ks[t]'(by omega) := by rw [List.getElem?_eq_getElem (by omega)]; rfl
    refine ⟨fun j h hj => ?_, fun c hc => ?_⟩
    · rw [ranked, hg, rk_set, ranked_len]
      by_cases e : t = j
      · subst e
        rw [if_pos ⟨rfl, hk _ (List.getElem_mem _)⟩]
      · rw [if_neg (fun h' => List.pairwise_iff_getElem.1 hn j t h (by omega) (by omega) h'.1.symm)]
        exact h1 j h (by omega)
    · rw [ranked, hg, rk_set]
      have hne : ¬ (ks[t]'(by omega) = c ∧ ks[t]'(by omega) < (ranked rk ks t).length) := fun h' => hc (h'.1 ▸ List.getElem_mem _)
      rw [if_neg hne]
      exact h2 c hc
theorem ranked_low {rk : List Int} (ks : List Nat) (h : ∀ c, 0 ≤ rkAt rk c) : ∀ t c, 0 ≤ rkAt (ranked rk ks t) c
  | 0, c => h c
  | t + 1, c => by
    rw [ranked, rk_set]
    split
    · omega
    · exact ranked_low ks h t c
theorem map_congr_rk {ks : List Nat} {a b : List Int} (h : ∀ c ∈ ks, rkAt a c = rkAt b c) : ks.map (rkAt a) = ks.map (rkAt b) := List.map_congr_left h
/-- What set gives: the ranks of a node's kids, with another one put between them. -/
theorem rf_set {M : List Nd} {rk : List Int} (W : Wf M) (R : Rf M rk) {P A n : Nat} (hP : P < M.length) (hn : n < M.length) (hA : A ≤ ((nd M P).kids.filter (· != n)).length) :
    Rf (setM M P A n) ((ranked rk ((nd M P).kids.filter (· != n)) ((nd M P).kids.filter (· != n)).length).set n (2 * A)) := by
  obtain ⟨ks, hks⟩ : ∃ ks, (nd M P).kids.filter (· != n) = ks := ⟨_, rfl⟩
  rw [hks] at hA ⊢
  have hnd : ks.Nodup := hks ▸ (W.nodup P).sublist List.filter_sublist
  have hlt : ∀ c ∈ ks, c < rk.length := fun c hc => by
    rw [← hks, List.mem_filter] at hc
    rw [R.len]
    exact ((W.kid P c).1 hc.1).1
  have hnn : n ∉ ks := fun h => by
    rw [← hks, List.mem_filter] at h
    simp at h
  obtain ⟨h1, h2⟩ := ranked_at hnd hlt ks.length (Nat.le_refl _)
  have hrl : (ranked rk ks ks.length).length = M.length := by rw [ranked_len, R.len]
  have hat : ∀ c, c ≠ n → rkAt ((ranked rk ks ks.length).set n (2 * A)) c = rkAt (ranked rk ks ks.length) c := fun c hc => by
    rw [rk_set, if_neg (fun h => hc h.1.symm)]
  have hatn : rkAt ((ranked rk ks ks.length).set n (2 * A)) n = 2 * A := by rw [rk_set, if_pos ⟨rfl, by omega⟩]
  refine ⟨by rw [List.length_set, hrl, len_set], fun c => ?_, fun q => ?_⟩
  · by_cases e : c = n
    · rw [e, hatn]
      omega
    · rw [hat c e]
      exact ranked_low ks R.low _ c
  · rw [nd_set hP hn]
    show List.Pairwise _ (List.map _ (if q = P then putAt10 ((nd M q).kids.filter (· != n)) A n else (nd M q).kids.filter (· != n)))
    by_cases e : q = P
    · subst e
      rw [if_pos rfl, hks]
      have hv : ∀ j (h : j < ks.length), rkAt ((ranked rk ks ks.length).set n (2 * A)) ks[j] = 2 * j + 1 := fun j h => by
        rw [hat _ (fun e => hnn (e ▸ List.getElem_mem _))]
        exact h1 j h h
      have hp : (ks.map (rkAt ((ranked rk ks ks.length).set n (2 * A)))).Pairwise (· < ·) := by
        rw [List.pairwise_iff_getElem]
        intro i j hi hj hij
        rw [List.length_map] at hi hj
        rw [List.getElem_map, List.getElem_map, hv i hi, hv j hj]
        omega
      unfold putAt10
      rw [List.map_append, List.map_cons, List.map_take, List.map_drop, List.pairwise_append, List.pairwise_cons, hatn]
      refine ⟨hp.sublist (List.take_sublist _ _), ⟨fun y hy => ?_, hp.sublist (List.drop_sublist _ _)⟩, fun x hx y hy => ?_⟩
      · obtain ⟨j, hj, rfl⟩ := List.getElem_of_mem hy
        rw [List.length_drop, List.length_map] at hj
        rw [List.getElem_drop, List.getElem_map, hv _ (by omega)]
        omega
      · obtain ⟨i, hi, rfl⟩ := List.getElem_of_mem hx
        rw [List.length_take, List.length_map] at hi
        rw [List.getElem_take, List.getElem_map, hv _ (by omega)]
        rw [List.mem_cons] at hy
        rcases hy with rfl | hy
        · omega
        · obtain ⟨j, hj, rfl⟩ := List.getElem_of_mem hy
          rw [List.length_drop, List.length_map] at hj
          rw [List.getElem_drop, List.getElem_map, hv _ (by omega)]
          omega
    · rw [if_neg e]
      rw [map_congr_rk (b := rk) fun c hc => ?_]
      · exact (R.rise q).sublist ((List.filter_sublist).map _)
      · rw [List.mem_filter] at hc
        have hcn : c ≠ n := by simpa using hc.2
        rw [hat c hcn]
        refine h2 c fun hk => e ?_
        rw [← hks, List.mem_filter] at hk
        have a := ((W.kid q c).1 hc.1).2
        have b := ((W.kid P c).1 hk.1).2
        rw [a] at b
        omega
theorem up_set (M : List Nd) (P A n : Nat) : (setM M P A n).map Nd.up = ((M.map Nd.up).set n (-1)).set n (P : Int) := by
  rw [List.set_set]
  apply List.ext_getElem?
  intro j
  unfold setM
  rw [List.getElem?_map, List.getElem?_mapIdx, List.getElem?_set, List.getElem?_map, List.length_map]
  by_cases hj : j < M.length
  · rw [List.getElem?_eq_getElem hj]
    by_cases e : n = j
    · subst e
      simp [hj]
    · have e' : ¬ j = n := fun h => e h.symm
      simp [e, e']
  · rw [List.getElem?_eq_none (by omega : M.length ≤ j)]
    by_cases e : n = j
    · subst e
      simp [hj]
    · simp [e]
theorem ro_set (M : List Nd) (P A n : Nat) : (setM M P A n).map Nd.ro = M.map Nd.ro := by
  apply List.ext_getElem?
  intro j
  unfold setM
  rw [List.getElem?_map, List.getElem?_mapIdx, List.getElem?_map]
  cases M[j]? <;> rfl

/-- A slice of numbers of one's own: where it lies. -/
theorem nw_at {N : Nat} {w : World} {v : Value} {l : List Nat} (h : Nw N w v l) : ∃ A c, v = .slice A l.length c ∧ (0 < l.length → ∃ b, A = some ⟨b, 0, none⟩ ∧ N ≤ b ∧ b < w.heap.size ∧ ∀ j (h : j < l.length), w.cell? ⟨b, j, none⟩ = some (.int .i64 (l[j] : Nat))) := by
  obtain ⟨A, c, hv, _, _, hr⟩ := h.form
  refine ⟨A, c, hv, fun h0 => ?_⟩
  rcases h.2 with ⟨hn, hl⟩ | ⟨g, cap, cur, hv', hg, hh, _⟩
  · omega
  · rw [hv] at hv'
    injection hv' with h1 h2 h3
    subst h1
    obtain ⟨b, off, hb, hlt, hc⟩ := hr h0
    injection hb with hb
    injection hb with hb1 hb2 _
    subst hb1 hb2
    refine ⟨g, rfl, hg, hlt, fun j hj => ?_⟩
    have := hc j hj
    rwa [Nat.zero_add] at this
/-- Other ranks, in a block apart; and one more parent. -/
theorem RD.newRanks {w : World} {N : Nat} {F : Nat → Prop} {p : Nat} {M M' : List Nd} {rk rk' : List Int} {gX cX gU cU gR cR : Nat} {lX : List Cw} (h : RD w N F p M rk gX cX gU cU gR cR lX) {K g c n : Nat} {y : Int} (hNK : N ≤ K) (ho : Iw K w g c M.length rk') (hg : ¬ F g) (hup : M'.map Nd.up = (M.map Nd.up).set n y) (hro : M'.map Nd.ro = M.map Nd.ro) (hrf : Rf M' rk') :
    RD ((w.setCell ⟨gU, n, none⟩ (.int .i64 y)).setCell ⟨p, 2, none⟩ (.slice (some ⟨g, 0, none⟩) M.length c)) N (fun b => F b ∨ b = g) p M' rk' gX cX gU cU g c lX ∧
      Touch (fun b => F b ∨ b = g) w ((w.setCell ⟨gU, n, none⟩ (.int .i64 y)).setCell ⟨p, 2, none⟩ (.slice (some ⟨g, 0, none⟩) M.length c)) := by
  have hml : M'.length = M.length := by
    have := congrArg List.length hup
    simpa using this
  have hgl := ho.lt
  have hpu : p ≠ gU := fun e => by
    obtain ⟨_, _, cs, fr, hh⟩ := owns_lt h.ups (g := gU) rfl
    rw [← e, h.box] at hh
    injection hh with hh
    injection hh with _ h2
    revert h2
    decide
  have hpg : p ≠ g := fun e => hg (e ▸ h.fp)
  have hug : gU ≠ g := fun e => hg (e ▸ h.fu)
  obtain ⟨w1, hw1⟩ : ∃ w1, w.setCell ⟨gU, n, none⟩ (.int .i64 y) = w1 := ⟨_, rfl⟩
  have hb1 : ∀ b, b ≠ gU → w1.heap[b]? = w.heap[b]? := fun b hb => hw1 ▸ Below.heap_setCell _ _ _ _ hb
  have hs1 : w1.heap.size = w.heap.size := by rw [← hw1]; simp [World.setCell]
  have hu1 : Iw N w1 gU cU M.length ((M.map Nd.up).set n y) := hw1 ▸ Iw.store h.ups n y
  have hbox1 := (hb1 p hpu).trans h.box
  have t1 : Touch (fun b => F b ∨ b = g) w w1 := hw1 ▸ Touch.set w ⟨gU, n, none⟩ _ (.inl h.fu)
  rw [hw1]
  obtain ⟨w2, hw2⟩ : ∃ w2, w1.setCell ⟨p, 2, none⟩ (.slice (some ⟨g, 0, none⟩) M.length c) = w2 := ⟨_, rfl⟩
  have hb2 : ∀ b, b ≠ p → w2.heap[b]? = w1.heap[b]? := fun b hb => hw2 ▸ Below.heap_setCell _ _ _ _ hb
  have hs2 : w2.heap.size = w1.heap.size := by rw [← hw2]; simp [World.setCell]
  have hbox2 := hw2 ▸ (box_set hbox1 (.slice (some ⟨g, 0, none⟩) M.length c)).2.2
  have t2 : Touch (fun b => F b ∨ b = g) w1 w2 := hw2 ▸ Touch.set w1 ⟨p, 2, none⟩ _ (.inl h.fp)
  have hne : ∀ {t : TypeId} {v : Value} {k s : Nat} {xs : List Value}, w.ownsRow N t s v k xs → t ≠ 30 → ∀ g', v.ownBlock = some g' → g' ≠ p := fun ho ht g' hg' e => by
    obtain ⟨_, _, cs, fr, hh⟩ := owns_lt ho hg'
    rw [e, h.box] at hh
    injection hh with hh
    injection hh with _ h2
    exact ht h2.symm
  have hneu : ∀ {t : TypeId} {v : Value} {k s : Nat} {xs : List Value}, w.ownsRow N t s v k xs → t ≠ 3 → ∀ g', v.ownBlock = some g' → g' ≠ gU := fun ho ht g' hg' e => by
    obtain ⟨_, _, cs, fr, hh⟩ := owns_lt ho hg'
    obtain ⟨_, _, cs', fr', hh'⟩ := owns_lt h.ups (g := gU) rfl
    rw [e, hh'] at hh
    injection hh with hh
    injection hh with _ h2
    exact ht h2.symm
  rw [hw2]
  refine ⟨⟨?_, ?_, fun x hx => ⟨⟨owns_block (h.attrs x hx).1.1 fun g' hg' => ?_, (h.attrs x hx).1.2⟩, fun g' hg' => .inl ((h.attrs x hx).2 g' hg')⟩, by rw [h.same, hro], ?_, ?_, hug, h.low, .inl h.fp, .inl h.fx, .inl h.fu, .inr rfl, hrf, fun b hb => ?_⟩, t1.trans t2 fun _ _ h => h⟩
  · rw [hml]
    exact hbox2
  · rw [hml]
    exact owns_block h.rows fun g' hg' => (hb2 g' (hne h.rows (by decide) g' hg')).trans (hb1 g' (hneu h.rows (by decide) g' hg'))
  · exact (hb2 g' (hne (h.attrs x hx).1.1 (by decide) g' hg')).trans (hb1 g' (hneu (h.attrs x hx).1.1 (by decide) g' hg'))
  · rw [hml, hup]
    exact Iw.block hu1 (hb2 gU fun e => hpu e.symm)
  · rw [hml]
    exact Iw.mono (Iw.block ho ((hb2 g fun e => hpg e.symm).trans (hb1 g fun e => hug e.symm))) hNK
  · rw [hs2, hs1]
    rcases hb with hb | hb
    · exact h.bd b hb
    · rw [hb]
      exact hgl.2
end Go.Proofs.Ytmlchbohijolaaa.Ar

namespace Go.Proofs.Ytmlchbohijolaaa.Ar
set_option maxRecDepth 100000
set_option linter.unusedSimpArgs false
set_option linter.unusedVariables false
open Go.RowKit Ba
open Ro (At Ro Cw ros Rr Ow Nw Fr Att Ap Sh cells acells app_num below_new infoI)
theorem Iw.drew {N : Nat} {w : World} {g c n : Nat} {l : List Int} (h : Iw N w g c n l) (k : Nat) : Iw N (w.drewN k) g c n l := owns_block h fun _ _ => rfl
/-- append of numbers onto an empty slice, at a step of a region that draws. -/
theorem step_ints {ops : Array Oper} {o : Oper} {a : Act} {K : Act → World → Prop} {Q : Exit → Act → World → Prop} {E : Prop} (W : World) {wc : World} (hgd : o.guard = none) (s x : Operand)
    (ho : o.op = .call { callee := .builtin .append, args := #[s, x], argTypes := #[28, 28] })
    (g0 c0 : Nat) (hs : a.eval s = .slice (some ⟨g0, 0, none⟩) 0 c0) (hown : Iw W.heap.size wc g0 c0 0 []) (hb : Below W.heap.size W wc) (g c n : Nat) (ys : List Int) (hx : a.eval x = .slice (some ⟨g, 0, none⟩) n c) (hn : ys.length = n) (hr : Li W g ys) (h0 : 0 < n)
    (hl : n ≤ 2000000)
    (h : ∀ g' c' w', Iw W.heap.size w' g' c' n ys → Below W.heap.size W w' → wc.heap.size ≤ w'.heap.size → (∀ gB cB nB lB, gB ≠ g0 → Iw W.heap.size wc gB cB nB lB → Iw W.heap.size w' gB cB nB lB) → (g' = g0 ∨ g' = wc.heap.size) → K (a.put o.dst (.slice (some ⟨g', 0, none⟩) n c')) w') :
    if Region.wanted o (yielded ops a.tmps) = true then Oper.wp Try.prog o a wc K Q else E := by
  obtain ⟨i0, hi, hz0, hz1, hz2⟩ := info_parts infoI
  have hr' := Li.below hr hb
  have hw0 := hown.lt
  refine step_append_lies _ hgd s x 28 ho W.heap.size 3 i0 (.int .i64 0) 1 8 Try.underlying28 hi hz0 hz1 hz2 rfl (by decide) _ 0 [] hs hown ⟨g, 0, none⟩ n c (ys.map iv) hx (by rw [List.length_map, hn, Nat.mul_one]) (fun j u hu => ?_) (fun u hu => ?_) h0 (by unfold maxLen; omega) (by omega) hb.size wc.heap.size rfl ?_
  · have hj : j < ys.length := by
      have := (List.getElem?_eq_some_iff.1 hu).1
      simpa using this
    rw [WideShapes.add_plain, Nat.zero_add, hr'.2 j hj]
    rw [List.getElem?_map, List.getElem?_eq_getElem hj] at hu
    exact hu
  · obtain ⟨y, _, rfl⟩ := List.mem_map.1 hu
    rfl
  · intro g' c' w' h1 h2 h3 _
    rw [Nat.zero_add] at h1 ⊢
    rw [List.nil_append] at h1
    refine h g' c' w' h1 (hb.grown h2 hb.size fun k hk => ?_) h2.size (fun gB cB nB lB hne hB => ?_) ?_
    · obtain rfl : g0 = k := Option.some.inj hk
      exact hw0.1
    · exact Iw.block hB (h2.block gB hB.lt.2 fun e => hne (Option.some.inj e))
    · rcases h3 with h3 | h3
      · exact .inl (Option.some.inj h3).symm
      · exact .inr h3
theorem below_dN11 {B : Nat} {w w' : World} (h : Below B w w') (n : Nat) : Below B w (w'.drewN n) := ⟨h.1, h.2, h.3, h.4, h.5⟩
theorem Iw.made2 (w : World) : Iw w.heap.size ((w.alloc (.cells #[] 3)).alloc (.cells #[] 3)) w.heap.size 0 0 [] ∧ Iw w.heap.size ((w.alloc (.cells #[] 3)).alloc (.cells #[] 3)) (w.heap.size + 1) 0 0 [] := by
  have e : (w.alloc (.cells #[] 3)).heap.size = w.heap.size + 1 := by simp
  rw [← e]
  refine ⟨(Iw.made w).block ?_, (Iw.made (w.alloc (.cells #[] 3))).mono (by simp)⟩
  exact (below_new (w.alloc (.cells #[] 3)) (.cells #[] 3)).block _ (by simp)
set_option maxRecDepth 100000 in
set_option maxHeartbeats 2000000 in
theorem refSet1 {p N : Nat} {F : Nat → Prop} {M : List Nd} (P A n : Nat) (w : World) (D : Doc11 w N F p M) (W : Wf M) (hm : M.length ≤ 5000) (hP : P < M.length) (hn : n < M.length) (hA : A ≤ ((nd M P).kids.filter (· != n)).length) :
    Calls Try.prog 77 #[.pointer (some ⟨p, 0, none⟩), .int .i64 P, .int .i64 A, .int .i64 n] w fun e w' => e = .returned (.tuple #[]) ∧ ∃ F', Doc11 w' N F' p (setM M P A n) ∧ Next w w' F F' := by
  obtain ⟨rk, gX, cX, gU, cU, gR, cR, lX, D⟩ := D
  have R := D.rd
  have hxu := R.u; have hxr := R.r
  have HLU := Lib.hid R.ups; have HLR := Lib.hid R.ranks
  have hl0 : 0 < M.length := by omega
  have hl1 : M.length ≤ 2000000 := by omega
  have HUL := Lib.hid (show (M.map Nd.up).length = M.length by rw [List.length_map])
  have HRL := Lib.hid D.rf.len
  have HD := Lib.hid D
  have hb1 := below_new w (.cells #[] 3)
  have HB1 := Lib.hid hb1
  have HB2 := Lib.hid (bt hb1 (below_new (w.alloc (.cells #[] 3)) (.cells #[] 3)))
  have hpl := D.p_lt
  clear hb1
  clear D R
  go_enter Try.func77, Try.ntmps77
  go_upto_region 0 with (fail)
  go_cut [8, 9] from 12 to 23 (fun s8 s9 wx => ∃ g1 c1 g2 c2, s8 = .slice (some ⟨g1, 0, none⟩) M.length c1 ∧ s9 = .slice (some ⟨g2, 0, none⟩) M.length c2 ∧ Iw w.heap.size wx g1 c1 M.length (M.map Nd.up) ∧ Iw w.heap.size wx g2 c2 M.length rk ∧ g1 ≠ g2 ∧ Below w.heap.size w wx)
  case first =>
    go_region_held3 (fun w' => w'.cell? ⟨p, 1, none⟩ = some (.slice (some ⟨gU, 0, none⟩) M.length cU) ∧ w'.cell? ⟨p, 2, none⟩ = some (.slice (some ⟨gR, 0, none⟩) M.length cR)) (first | exact ⟨e1, e2⟩ | exact ⟨d1, d2⟩ | exact ⟨hxu, hxr⟩ | go_keep) (first
      | (refine step_ints w (by rfl) (.tmp 12) (.tmp 16) (by rfl) _ _ (by simp [Act.eval, Act.put]; exact ⟨rfl, rfl⟩) (by first | exact Iw.made w | exact (Iw.made2 w).1 | exact (Iw.made2 w).2) (by first | exact HB1.out | exact below_dN11 HB1.out 1 | exact below_dN11 HB1.out 2 | exact HB2.out | exact below_dN11 HB2.out 1 | exact below_dN11 HB2.out 2 | exact below_dN11 HB2.out 3) gU cU _ (M.map Nd.up) (by simp [Act.eval, Act.put]) HUL.out HLU.out hl0 hl1 ?_; intro g1 c1 w1 ho1 hb1 hz1 hk1 hg1; have d1 := (hb1.cell (p := ⟨p, 1, none⟩) hpl).trans hxu; have d2 := (hb1.cell (p := ⟨p, 2, none⟩) hpl).trans hxr; have HO1 := Lib.hid ho1; have HBB1 := Lib.hid hb1; have HZ1 := Lib.hid hz1; have HK1 := Lib.hid hk1; have HG1 := Lib.hid hg1; clear ho1 hb1 hz1 hk1 hg1)
      | (refine step_ints w (by rfl) (.tmp 18) (.tmp 22) (by rfl) _ _ (by simp [Act.eval, Act.put]; exact ⟨rfl, rfl⟩) (by first | exact HK1.out _ _ _ _ (by simp) (Iw.made2 w).2 | exact HK1.out _ _ _ _ (by simp) (Iw.made2 w).1 | exact (Iw.made w1).mono HBB1.out.size) (by first | exact HBB1.out | exact below_dN11 HBB1.out 1 | exact bt HBB1.out (below_new w1 _) | exact below_dN11 (bt HBB1.out (below_new w1 _)) 1) gR cR _ rk (by simp [Act.eval, Act.put]) HRL.out HLR.out hl0 hl1 ?_; intro g2 c2 w2 ho2 hb2 hz2 hk2 hg2; have e1 := (hb2.cell (p := ⟨p, 1, none⟩) hpl).trans hxu; have e2 := (hb2.cell (p := ⟨p, 2, none⟩) hpl).trans hxr)
      | fail)
    all_goals go_wp2
    all_goals go_meet
    all_goals
      have hlt1 := HO1.out.lt
      have hgg1 := HG1.out
      simp [World.drew, World.drewN] at hgg1 hg2
      refine ⟨g1, c1, g2, c2, rfl, rfl, ?_, ho2, by omega, hb2⟩
      first
        | exact hk2 _ _ _ _ (by omega) HO1.out
        | exact hk2 _ _ _ _ (by omega) (HO1.out.block ((below_new w1 (.cells #[] 3)).block _ HO1.out.lt.2))
  case rest =>
  obtain ⟨g1, c1, g2, c2, rfl, rfl, ho1, ho2, hg12, hbc⟩ := hcut
  rename World => wc
  have hN : N ≤ w.heap.size := Nat.le_of_lt (Nat.lt_of_le_of_lt HD.out.low hpl)
  have hl1' := ho1.lt
  have hl2' := ho2.lt
  obtain ⟨y1, hy1, hf1⟩ := ho1.some (j := n) hn
  have hst1 := ho1.store n (-1)
  have hb3 := hbc.setCell (p := ⟨g1, n, none⟩) hl1'.1 (.int .i64 (-1))
  have D3 := HD.out.below hb3
  have hp1 := D3.rd.u; have hpf1 := box_frozen D3.box 1
  have key := HD.out.newUps (M' := takeOut M n) hN hb3 (by rw [up_take]; exact hst1) (ro_take M n) (rf_take HD.out.rf n)
  have ho23 : Iw w.heap.size (wc.setCell ⟨g1, n, none⟩ (.int .i64 (-1))) g2 c2 M.length rk := ho2.block (Below.heap_setCell _ _ _ _ fun e => hg12 e.symm)
  have hdep : (wc.setCell ⟨g1, n, none⟩ (.int .i64 (-1))).cell? ⟨p, 1, none⟩ = some (.slice (some ⟨gU, 0, none⟩) M.length cU) := hp1
  obtain ⟨w4, hw4⟩ : ∃ w4, (wc.setCell ⟨g1, n, none⟩ (.int .i64 (-1))).setCell ⟨p, 1, none⟩ (.slice (some ⟨g1, 0, none⟩) M.length c1) = w4 := ⟨_, rfl⟩
  have HW4 := Lib.hid hw4
  rw [hw4] at key
  have ho24 : Iw w.heap.size w4 g2 c2 M.length rk := ho23.block (hw4 ▸ Below.heap_setCell _ _ _ _ (by show g2 ≠ p; omega))
  obtain ⟨ks, hks⟩ : ∃ ks, (nd M P).kids.filter (· != n) = ks := ⟨_, rfl⟩
  have hkk : kidsI (takeOut M n) P = ks := by rw [kidsI_nat, nd_take]; exact hks
  have hka : ∀ c ∈ ks, c < M.length := fun c hc => by
    rw [← hks, List.mem_filter] at hc
    exact ((W.kid P c).1 hc.1).1
  have hkl : ks.length ≤ 5000 := Nat.le_trans (nodup_bound (hks ▸ (W.nodup P).sublist List.filter_sublist) hka) hm
  have HRF := Lib.hid (rf_set W HD.out.rf hP hn hA)
  rw [hks] at HRF hA
  have hcall := refKids1 (P : Int) w4 key.1.rd (W.take n) key.1.rf (by rw [len_take]; exact hm)
  rw [hkk] at hcall
  have HCALL := Lib.hid hcall
  have HK := Lib.hid key; have HO2 := Lib.hid ho24; have HKA := Lib.hid hka; have HKS := Lib.hid hks
  have H12 := Lib.hid hg12; have HN := Lib.hid hN; have HL2 := Lib.hid hl2'.1; have HL1 := Lib.hid hl1'.1
  have HRL2 := Lib.hid HD.out.rf.len
  clear hst1 hb3 D3 key ho23 ho24 ho1 ho2 hbc hg12 hN HB1 HB2 HUL HRL HLU HLR hxu hxr hcall hka hkk hks hw4 hdep
  go_wp2_with fail
  rw [HW4.out]
  refine HCALL.out.mono ?_
  rintro e w5 ⟨v5, rfl, hnw, hb5⟩
  obtain ⟨A5, c5, rfl, hat⟩ := nw_at hnw
  have HAT := Lib.hid hat; have HB5 := Lib.hid hb5
  have HO5 := Lib.hid (show Iw w.heap.size w5 g2 c2 M.length rk from HO2.out.block (hb5.block g2 HO2.out.lt.2))
  clear hnw hb5 hat hy1 hf1 hp1 hpf1 HW4 HCALL
  go_wp2
  go_loopw [11] (fun i wr => ∃ t : Nat, i = .int .i64 t ∧ t ≤ ks.length ∧ Iw w.heap.size wr g2 c2 M.length (ranked rk ks t) ∧ Hid (Touch (fun b => b = g2) w5 wr)) (fun i _ => ks.length - (intOf i).toNat)
  case atStart => exact ⟨0, rfl, Nat.zero_le _, HO5.out, Lib.hid (Touch.refl _ _)⟩
  case round =>
    obtain ⟨t, rfl, ht, ho, hto⟩ := hrel
    by_cases hlt : t < ks.length
    · obtain ⟨b, rfl, hb0, hb1, hbc⟩ := HAT.out (by omega)
      have hbg : b ≠ g2 := by have := HO2.out.lt; omega
      have hkc : wr.cell? ⟨b, t, none⟩ = some (.int .i64 (ks[t] : Nat)) := (World.cell?_of_block (a := ⟨b, t, none⟩) (hto.out.block b hb1 hbg)).trans (hbc t hlt)
      have hka := HKA.out _ (List.getElem_mem hlt)
      obtain ⟨c, hc⟩ : ∃ c, ks[t] = c := ⟨_, rfl⟩
      rw [hc] at hkc hka
      obtain ⟨y, hy, hyf⟩ := ho.some (j := c) hka
      have hst := ho.store c (2 * t + 1)
      have hnew : ranked rk ks (t + 1) = (ranked rk ks t).set c (2 * t + 1) := by rw [ranked, List.getElem?_eq_getElem hlt, hc]; rfl
      rw [← hnew] at hst
      have hto2 := Lib.hid (hto.out.trans (Touch.set (F := fun b => b = g2) wr ⟨g2, c, none⟩ (.int .i64 (2 * t + 1)) rfl) fun _ _ h => h)
      have HST := Lib.hid hst
      have hci : (c : Int) < M.length := by omega
      have hti : (t : Int) < ks.length := by omega
      clear hst hnew hc hto hbc ho
      go_wp2
      go_roundw
      case rel => exact ⟨t + 1, by go_num, by omega, HST.out, hto2⟩
      case measure => (simp [intOf]; try omega)
    · obtain rfl : t = ks.length := by omega
      have D5 := HK.out.1.below HB5.out
      have hnf : ∀ b, (F b ∨ b = g1) → ¬ b = g2 := fun b hb e => by
        have h2 := HL2.out
        rcases hb with hb | hb
        · have h1 := HD.out.bd b hb
          omega
        · exact H12.out (hb.symm.trans e)
      have D6 := D5.touch hto.out hnf
      have D7 := D6.touch (Touch.set (F := fun b => b = g2) wr ⟨g2, n, none⟩ (.int .i64 (2 * A)) rfl) hnf
      obtain ⟨y2, hy2, hf2⟩ := ho.some (j := n) hn
      have ho7 := ho.store n (2 * A)
      obtain ⟨y7, hy7, hf7⟩ := Iw.some (show Iw N (wr.setCell ⟨g2, n, none⟩ (.int .i64 (2 * A))) g1 c1 M.length _ from by have h := D7.ups; rw [len_take] at h; exact h) (j := n) hn
      have hfb := box_frozen D7.box 2
      have hpb := D7.rd.r
      have key := D7.newRanks (M' := setM M P A n) (K := w.heap.size) HN.out (by rw [len_take]; exact ho7) (fun h => hnf g2 h rfl) (by rw [up_set, up_take]) (by rw [ro_set, ro_take]) HRF.out
      have htt : Touch F w (wr.setCell ⟨g2, n, none⟩ (.int .i64 (2 * A))) := by
        refine (HK.out.2.1.trans (G := fun b => b = g2) ?_ fun x hx e => ?_)
        · exact ((Touch.of_below (F := fun b => b = g2) HB5.out).trans hto.out fun _ _ h => h).trans (Touch.set (F := fun b => b = g2) wr ⟨g2, n, none⟩ (.int .i64 (2 * A)) rfl) fun _ _ h => h
        · have h2 := HL2.out
          omega
      rw [len_take] at key hpb
      have KEY := Lib.hid key; have HTT := Lib.hid htt
      have hni : (n : Int) < M.length := by omega
      clear D5 D6 D7 ho7 hnf key htt hto ho
      go_wp2
      go_end0
      refine ⟨rfl, _, ⟨_, gX, cX, g1, c1, g2, c2, lX, KEY.out.1⟩, ?_, fun b hb => .inl (.inl hb), fun b hb => ?_⟩
      · refine HTT.out.trans KEY.out.2 fun x hx h => ?_
        have h1 := HL1.out
        have h2 := HL2.out
        rcases h with (h | h) | h
        · exact h
        · omega
        · omega
      · have hb9 := KEY.out.1.bd b hb
        have h1 := HL1.out
        have h2 := HL2.out
        rcases hb with (h | h) | h
        · exact .inl h
        · exact .inr ⟨by omega, hb9⟩
        · exact .inr ⟨by omega, hb9⟩
end Go.Proofs.Ytmlchbohijolaaa.Ar

namespace Go.Proofs.Ytmlchbohijolaaa.Ar
set_option linter.unusedSimpArgs false
set_option linter.unusedVariables false
open Go.RowKit Ba
open Ro (At Ro Cw ros Rr Ow Nw Fr Att Ap Sh cells acells app_num below_new infoI info_row len_cells)
/-- The document's box and its three slices, each as long as it is. -/
structure RP (w : World) (N : Nat) (F : Nat → Prop) (p : Nat) (nX nU nR : Nat) (gX cX gU cU gR cR : Nat) (lX : List Cw) (lU lR : List Int) : Prop where
  box : w.heap[p]? = some (.cells #[.slice (some ⟨gX, 0, none⟩) nX cX, .slice (some ⟨gU, 0, none⟩) nU cU, .slice (some ⟨gR, 0, none⟩) nR cR] 30)
  rows : w.ownsRow N 65 5 (.slice (some ⟨gX, 0, none⟩) nX cX) nX (lX.flatMap cells)
  attrs : ∀ x ∈ lX, Fr N w x ∧ ∀ g, atBlock x = some g → F g
  ups : Iw N w gU cU nU lU
  ranks : Iw N w gR cR nR lR
  apart : gU ≠ gR
  low : N ≤ p
  fp : F p
  fx : F gX
  fu : F gU
  fr : F gR
  bd : ∀ b, F b → b < w.heap.size
theorem RD.rp {w : World} {N : Nat} {F : Nat → Prop} {p : Nat} {M : List Nd} {rk : List Int} {gX cX gU cU gR cR : Nat} {lX : List Cw} (h : RD w N F p M rk gX cX gU cU gR cR lX) :
    RP w N F p M.length M.length M.length gX cX gU cU gR cR lX (M.map Nd.up) rk := ⟨h.box, h.rows, h.attrs, h.ups, h.ranks, h.apart, h.low, h.fp, h.fx, h.fu, h.fr, h.bd⟩
section
variable {w : World} {N : Nat} {F : Nat → Prop} {p nX nU nR gX cX gU cU gR cR : Nat} {lX : List Cw} {lU lR : List Int}
theorem RP.doc {M : List Nd} (h : RP w N F p M.length M.length M.length gX cX gU cU gR cR lX lU lR) (hX : ros lX = M.map Nd.ro) (hU : lU = M.map Nd.up) (hR : Rf M lR) : RD w N F p M lR gX cX gU cU gR cR lX :=
  ⟨h.box, h.rows, h.attrs, hX, hU ▸ h.ups, h.ranks, h.apart, h.low, h.fp, h.fx, h.fu, h.fr, hR, h.bd⟩
theorem RP.p_lt (h : RP w N F p nX nU nR gX cX gU cU gR cR lX lU lR) : p < w.heap.size := (Array.getElem?_eq_some_iff.1 h.box).1
theorem RP.hN (h : RP w N F p nX nU nR gX cX gU cU gR cR lX lU lR) : N ≤ w.heap.size := Nat.le_of_lt (Nat.lt_of_le_of_lt h.low h.p_lt)
theorem RP.cell (h : RP w N F p nX nU nR gX cX gU cU gR cR lX lU lR) : w.cell? ⟨p, 0, none⟩ = some (.slice (some ⟨gX, 0, none⟩) nX cX) ∧ w.cell? ⟨p, 1, none⟩ = some (.slice (some ⟨gU, 0, none⟩) nU cU) ∧ w.cell? ⟨p, 2, none⟩ = some (.slice (some ⟨gR, 0, none⟩) nR cR) :=
  ⟨cell_of_row w p 0 _ _ _ h.box, cell_of_row w p 1 _ _ _ h.box, cell_of_row w p 2 _ _ _ h.box⟩
theorem RP.below {w' : World} (h : RP w N F p nX nU nR gX cX gU cU gR cR lX lU lR) (hb : Below w.heap.size w w') : RP w' N F p nX nU nR gX cX gU cU gR cR lX lU lR := by
  have hk : ∀ b, b < w.heap.size → w'.heap[b]? = w.heap[b]? := fun b hb' => hb.block b hb'
  refine ⟨(hk p h.p_lt).trans h.box, owns_block h.rows fun g hg => hk g (owns_lt h.rows hg).2.1, fun x hx => ⟨Fr.block (h.attrs x hx).1 fun g hg => hk g (owns_lt (h.attrs x hx).1.1 hg).2.1, (h.attrs x hx).2⟩, h.ups.block (hk _ h.ups.lt.2), h.ranks.block (hk _ h.ranks.lt.2), h.apart, h.low, h.fp, h.fx, h.fu, h.fr, fun b hb' => Nat.lt_of_lt_of_le (h.bd b hb') hb.size⟩
/-- Blocks of other types are others. -/
theorem type_ne {b1 b2 : Nat} {c1 c2 : Array Value} {f1 f2 : Nat × Nat} {t1 t2 : TypeId} (h1 : w.heap[b1]? = some (.cells c1 t1 f1)) (h2 : w.heap[b2]? = some (.cells c2 t2 f2)) (h : t1 ≠ t2) : b1 ≠ b2 := fun e => by
  rw [e, h2] at h1
  injection h1 with h1
  injection h1 with _ h3
  exact h h3.symm
theorem RP.obj (h : RP w N F p nX nU nR gX cX gU cU gR cR lX lU lR) : (∃ c f, w.heap[gX]? = some (.cells c 65 f)) ∧ (∃ c f, w.heap[gU]? = some (.cells c 3 f)) ∧ ∃ c f, w.heap[gR]? = some (.cells c 3 f) := by
  have key : ∀ {t : TypeId} {v : Value} {n s : Nat} {xs : List Value} {g : Nat}, w.ownsRow N t s v n xs → v.ownBlock = some g → ∃ c f, w.heap[g]? = some (.cells c t f) := fun {t v n s xs g} ho hg => by
    rcases ho.2 with ⟨hv, _⟩ | ⟨g', cap, cur, hv, hg', hh, rest⟩
    · rw [hv] at hg
      cases hg
    · rw [hv] at hg
      obtain rfl : g' = g := Option.some.inj hg
      exact ⟨_, _, hh⟩
  exact ⟨key h.rows rfl, key h.ups rfl, key h.ranks rfl⟩
theorem at_obj {N : Nat} {w : World} {x : Cw} (h : Fr N w x) {g : Nat} (hg : atBlock x = some g) : ∃ c f, w.heap[g]? = some (.cells c 63 f) := by
  rcases h.1.2 with ⟨hv, _⟩ | ⟨g', cap, cur, hv, hg', hh, rest⟩
  · unfold atBlock at hg
    rw [hv] at hg
    cases hg
  · unfold atBlock at hg
    rw [hv] at hg
    obtain rfl : g' = g := Option.some.inj hg
    exact ⟨_, _, hh⟩
/-- Other rows. -/
theorem RP.putX {w' : World} (h : RP w N F p nX nU nR gX cX gU cU gR cR lX lU lR) (t : Touch (fun b => b = gX) w w') {g' n' c' : Nat} {lX' : List Cw} (ho : w'.ownsRow N 65 5 (.slice (some ⟨g', 0, none⟩) n' c') n' (lX'.flatMap cells)) (hg : g' = gX ∨ w.heap.size ≤ g') (ha : ∀ x ∈ lX', Fr N w' x ∧ ∀ b, atBlock x = some b → F b ∨ w.heap.size ≤ b) :
    RP (w'.setCell ⟨p, 0, none⟩ (.slice (some ⟨g', 0, none⟩) n' c')) N (Wide w w' F) p n' nU nR g' c' gU cU gR cR lX' lU lR ∧ Next w (w'.setCell ⟨p, 0, none⟩ (.slice (some ⟨g', 0, none⟩) n' c')) F (Wide w w' F) := by
  obtain ⟨⟨_, _, oX⟩, ⟨_, _, oU⟩, ⟨_, _, oR⟩⟩ := h.obj
  have hpX := type_ne h.box oX (by decide)
  have hpU := type_ne h.box oU (by decide)
  have hpR := type_ne h.box oR (by decide)
  have hXU := type_ne oX oU (by decide)
  have hXR := type_ne oX oR (by decide)
  have hbox := (t.block p h.p_lt hpX).trans h.box
  have hU : Iw N w' gU cU nU lU := h.ups.block (t.block gU h.ups.lt.2 hXU.symm)
  have hR : Iw N w' gR cR nR lR := h.ranks.block (t.block gR h.ranks.lt.2 hXR.symm)
  have hgl := (owns_lt ho (g := g') rfl)
  obtain ⟨w2, hw2⟩ : ∃ w2, w'.setCell ⟨p, 0, none⟩ (.slice (some ⟨g', 0, none⟩) n' c') = w2 := ⟨_, rfl⟩
  have hb2 : ∀ b, b ≠ p → w2.heap[b]? = w'.heap[b]? := fun b hb => hw2 ▸ Below.heap_setCell _ _ _ _ hb
  have hs2 : w2.heap.size = w'.heap.size := by rw [← hw2]; simp [World.setCell]
  have hne : ∀ {g : Nat} {c f} {tt : TypeId}, w'.heap[g]? = some (.cells c tt f) → tt ≠ 30 → g ≠ p := fun hh ht => type_ne hh hbox ht
  rw [hw2]
  refine ⟨⟨hw2 ▸ (box_set hbox _).1, owns_block ho fun g hg' => ?_, fun x hx => ⟨Fr.block (ha x hx).1 fun g hg' => ?_, fun g hg' => ?_⟩, hU.block (hb2 _ hpU.symm), hR.block (hb2 _ hpR.symm), h.apart, h.low, .inl h.fp, ?_, .inl h.fu, .inl h.fr, fun b hb => ?_⟩, ⟨?_, fun b hb => .inl hb, fun b hb => ?_⟩⟩
  · refine hb2 g ?_
    rcases ho.2 with ⟨hv, _⟩ | ⟨g'', cap, cur, hv, _, hh, _⟩
    · cases hv
    · obtain rfl : g' = g := Option.some.inj hg'
      injection hv with hv
      injection hv with hv
      injection hv with hv
      rw [← hv] at hh
      exact hne hh (by decide)
  · obtain ⟨_, _, hh⟩ := at_obj (ha x hx).1 hg'
    exact hb2 g (hne hh (by decide))
  · rcases (ha x hx).2 g hg' with hf | hf
    · exact .inl hf
    · exact .inr ⟨hf, (owns_lt (ha x hx).1.1 hg').2.1⟩
  · rcases hg with hg | hg
    · rw [hg]
      exact .inl h.fx
    · exact .inr ⟨hg, hgl.2.1⟩
  · rw [hs2]
    rcases hb with hb | hb
    · exact Nat.lt_of_lt_of_le (h.bd b hb) t.size
    · exact hb.2
  · have t1 : Touch F w w' := t.mono fun b _ e => e ▸ h.fx
    exact t1.trans (hw2 ▸ Touch.set (F := F) w' ⟨p, 0, none⟩ _ h.fp) fun _ _ h => h
  · rw [hs2]
    exact hb
/-- Other parents. -/
theorem RP.putU {w' : World} (h : RP w N F p nX nU nR gX cX gU cU gR cR lX lU lR) (t : Touch (fun b => b = gU) w w') {g' n' c' : Nat} {lU' : List Int} (ho : Iw N w' g' c' n' lU') (hg : g' = gU ∨ w.heap.size ≤ g') :
    RP (w'.setCell ⟨p, 1, none⟩ (.slice (some ⟨g', 0, none⟩) n' c')) N (Wide w w' F) p nX n' nR gX cX g' c' gR cR lX lU' lR ∧ Next w (w'.setCell ⟨p, 1, none⟩ (.slice (some ⟨g', 0, none⟩) n' c')) F (Wide w w' F) := by
  obtain ⟨⟨_, _, oX⟩, ⟨_, _, oU⟩, ⟨_, _, oR⟩⟩ := h.obj
  have hpX := type_ne h.box oX (by decide)
  have hpU := type_ne h.box oU (by decide)
  have hpR := type_ne h.box oR (by decide)
  have hXU := type_ne oX oU (by decide)
  have hbox := (t.block p h.p_lt hpU).trans h.box
  have hlX := (owns_lt h.rows (g := gX) rfl).2.1
  have hX := owns_block (w' := w') h.rows fun g hg' => by
    obtain rfl : gX = g := Option.some.inj hg'
    exact t.block gX hlX hXU
  have hR : Iw N w' gR cR nR lR := h.ranks.block (t.block gR h.ranks.lt.2 h.apart.symm)
  have hA : ∀ x ∈ lX, Fr N w' x := fun x hx => Fr.block (h.attrs x hx).1 fun g hg' => by
    obtain ⟨_, _, hh⟩ := at_obj (h.attrs x hx).1 hg'
    exact t.block g (owns_lt (h.attrs x hx).1.1 hg').2.1 (type_ne hh oU (by decide))
  obtain ⟨w2, hw2⟩ : ∃ w2, w'.setCell ⟨p, 1, none⟩ (.slice (some ⟨g', 0, none⟩) n' c') = w2 := ⟨_, rfl⟩
  have hb2 : ∀ b, b ≠ p → w2.heap[b]? = w'.heap[b]? := fun b hb => hw2 ▸ Below.heap_setCell _ _ _ _ hb
  have hs2 : w2.heap.size = w'.heap.size := by rw [← hw2]; simp [World.setCell]
  have hgp : g' ≠ p := by
    rcases hg with hg | hg
    · rw [hg]
      exact hpU.symm
    · have := h.p_lt
      omega
  have hgR : g' ≠ gR := by
    rcases hg with hg | hg
    · rw [hg]
      exact h.apart
    · have := h.ranks.lt
      omega
  rw [hw2]
  refine ⟨⟨hw2 ▸ (box_set hbox _).2.1, owns_block hX fun g hg' => ?_, fun x hx => ⟨Fr.block (hA x hx) fun g hg' => ?_, fun g hg' => .inl ((h.attrs x hx).2 g hg')⟩, ho.block (hb2 _ hgp), hR.block (hb2 _ hpR.symm), hgR, h.low, .inl h.fp, .inl h.fx, ?_, .inl h.fr, fun b hb => ?_⟩, ⟨?_, fun b hb => .inl hb, fun b hb => ?_⟩⟩
  · obtain rfl : gX = g := Option.some.inj hg'
    exact hb2 gX hpX.symm
  · obtain ⟨_, _, hh⟩ := at_obj (hA x hx) hg'
    exact hb2 g (type_ne hh hbox (by decide))
  · rcases hg with hg | hg
    · rw [hg]
      exact .inl h.fu
    · exact .inr ⟨hg, ho.lt.2⟩
  · rw [hs2]
    rcases hb with hb | hb
    · exact Nat.lt_of_lt_of_le (h.bd b hb) t.size
    · exact hb.2
  · have t1 : Touch F w w' := t.mono fun b _ e => e ▸ h.fu
    exact t1.trans (hw2 ▸ Touch.set (F := F) w' ⟨p, 1, none⟩ _ h.fp) fun _ _ h => h
  · rw [hs2]
    exact hb
/-- Other ranks. -/
theorem RP.putR {w' : World} (h : RP w N F p nX nU nR gX cX gU cU gR cR lX lU lR) (t : Touch (fun b => b = gR) w w') {g' n' c' : Nat} {lR' : List Int} (ho : Iw N w' g' c' n' lR') (hg : g' = gR ∨ w.heap.size ≤ g') :
    RP (w'.setCell ⟨p, 2, none⟩ (.slice (some ⟨g', 0, none⟩) n' c')) N (Wide w w' F) p nX nU n' gX cX gU cU g' c' lX lU lR' ∧ Next w (w'.setCell ⟨p, 2, none⟩ (.slice (some ⟨g', 0, none⟩) n' c')) F (Wide w w' F) := by
  obtain ⟨⟨_, _, oX⟩, ⟨_, _, oU⟩, ⟨_, _, oR⟩⟩ := h.obj
  have hpX := type_ne h.box oX (by decide)
  have hpU := type_ne h.box oU (by decide)
  have hpR := type_ne h.box oR (by decide)
  have hXR := type_ne oX oR (by decide)
  have hbox := (t.block p h.p_lt hpR).trans h.box
  have hlX := (owns_lt h.rows (g := gX) rfl).2.1
  have hX := owns_block (w' := w') h.rows fun g hg' => by
    obtain rfl : gX = g := Option.some.inj hg'
    exact t.block gX hlX hXR
  have hU : Iw N w' gU cU nU lU := h.ups.block (t.block gU h.ups.lt.2 h.apart)
  have hA : ∀ x ∈ lX, Fr N w' x := fun x hx => Fr.block (h.attrs x hx).1 fun g hg' => by
    obtain ⟨_, _, hh⟩ := at_obj (h.attrs x hx).1 hg'
    exact t.block g (owns_lt (h.attrs x hx).1.1 hg').2.1 (type_ne hh oR (by decide))
  obtain ⟨w2, hw2⟩ : ∃ w2, w'.setCell ⟨p, 2, none⟩ (.slice (some ⟨g', 0, none⟩) n' c') = w2 := ⟨_, rfl⟩
  have hb2 : ∀ b, b ≠ p → w2.heap[b]? = w'.heap[b]? := fun b hb => hw2 ▸ Below.heap_setCell _ _ _ _ hb
  have hs2 : w2.heap.size = w'.heap.size := by rw [← hw2]; simp [World.setCell]
  have hgp : g' ≠ p := by
    rcases hg with hg | hg
    · rw [hg]
      exact hpR.symm
    · have := h.p_lt
      omega
  have hgU : gU ≠ g' := by
    rcases hg with hg | hg
    · rw [hg]
      exact h.apart
    · have := h.ups.lt
      omega
  rw [hw2]
  refine ⟨⟨hw2 ▸ (box_set hbox _).2.2, owns_block hX fun g hg' => ?_, fun x hx => ⟨Fr.block (hA x hx) fun g hg' => ?_, fun g hg' => .inl ((h.attrs x hx).2 g hg')⟩, hU.block (hb2 _ hpU.symm), ho.block (hb2 _ hgp), hgU, h.low, .inl h.fp, .inl h.fx, .inl h.fu, ?_, fun b hb => ?_⟩, ⟨?_, fun b hb => .inl hb, fun b hb => ?_⟩⟩
  · obtain rfl : gX = g := Option.some.inj hg'
    exact hb2 gX hpX.symm
  · obtain ⟨_, _, hh⟩ := at_obj (hA x hx) hg'
    exact hb2 g (type_ne hh hbox (by decide))
  · rcases hg with hg | hg
    · rw [hg]
      exact .inl h.fr
    · exact .inr ⟨hg, ho.lt.2⟩
  · rw [hs2]
    rcases hb with hb | hb
    · exact Nat.lt_of_lt_of_le (h.bd b hb) t.size
    · exact hb.2
  · have t1 : Touch F w w' := t.mono fun b _ e => e ▸ h.fr
    exact t1.trans (hw2 ▸ Touch.set (F := F) w' ⟨p, 2, none⟩ _ h.fp) fun _ _ h => h
  · rw [hs2]
    exact hb
end
end Go.Proofs.Ytmlchbohijolaaa.Ar

namespace Go.Proofs.Ytmlchbohijolaaa.Ar
set_option maxRecDepth 100000
set_option linter.unusedSimpArgs false
set_option linter.unusedVariables false
open Go.RowKit Ba
open Ro (At Ro Cw ros Rr Ow Nw Fr Att Ap Sh cells acells app_num below_new infoI info_row len_cells rowV rowO cells_one Few Fits deeper deeper_zero Moved_any)
/-- append of one row. -/
theorem app_rowL {ops : Array Oper} {rest : List Oper} {o : Oper} {a : Act} {Q : Exit → Act → World → Prop} (w : World) (hgd : o.guard = none) (s x : Operand)
    (ho : o.op = .call { callee := .builtin .append, args := #[s, x], argTypes := #[27, 27] })
    (N gX cX nX : Nat) (lX : List Cw) (hs : a.eval s = .slice (some ⟨gX, 0, none⟩) nX cX) (hown : w.ownsRow N 65 5 (.slice (some ⟨gX, 0, none⟩) nX cX) nX (lX.flatMap cells)) (y : Cw) (gy cy : Nat) (hx : a.eval x = .slice (some ⟨gy, 0, none⟩) 1 cy) (hy : ∀ j u, (cells y)[j]? = some u → w.cell? ⟨gy, j, none⟩ = some u)
    (hl : nX ≤ 2000000) (hN : N ≤ w.heap.size) (H : Nat) (hH : w.heap.size = H)
    (h : ∀ g' c' w', w'.ownsRow N 65 5 (.slice (some ⟨g', 0, none⟩) (nX + 1) c') (nX + 1) ((lX ++ [y]).flatMap cells) → w.grownBy w' (some gX) → (g' = gX ∨ g' = H) → wpList Try.prog ops Q rest (a.put o.dst (.slice (some ⟨g', 0, none⟩) (nX + 1) c')) w') :
    wpList Try.prog ops Q (o :: rest) a w := by
  obtain ⟨i0, hi, hz0, hz1, hz2⟩ := info_parts info_row
  refine wpList_append_lies w hgd s x 27 ho N 65 i0 _ 5 72 Try.underlying27 hi hz0 hz1 hz2 rfl (by decide) _ nX (lX.flatMap cells) hs hown ⟨gy, 0, none⟩ 1 cy (cells y) hx rfl (fun j u hu => ?_) (cells_one y) (by decide) (by unfold maxLen; omega) (by omega) hN H hH ?_
  · rw [WideShapes.add_plain, Nat.zero_add]
    exact hy j u hu
  · intro g' c' w' h1 h2 h3 _
    refine h g' c' w' (by rw [List.flatMap_append]; simpa using h1) h2 ?_
    rcases h3 with h3 | h3
    · exact .inl (Option.some.inj h3).symm
    · exact .inr h3
/-- One row of one's own: where it lies. -/
theorem row_one {K : Nat} {w : World} {v : Value} {y : Cw} (h : Ow K w v [y]) : ∃ g c, v = .slice (some ⟨g, 0, none⟩) 1 c ∧ K ≤ g ∧ g < w.heap.size ∧ w.ownsRow K 65 5 (.slice (some ⟨g, 0, none⟩) 1 c) 1 (cells y) := by
  have h1 := h.1
  rcases h.1.2 with ⟨hv, hl⟩ | ⟨g, cap, cur, hv, hg, hh, _⟩
  · simp at hl
  · refine ⟨g, cap, hv, hg, (Array.getElem?_eq_some_iff.1 hh).1, ?_⟩
    rw [hv] at h1
    simpa using h1
section
variable {w : World} {N : Nat} {F : Nat → Prop} {p nX nU nR gX cX gU cU gR cR : Nat} {lX : List Cw} {lU lR : List Int}
theorem RP.boxX {w' : World} (h : RP w N F p nX nU nR gX cX gU cU gR cR lX lU lR) (t : Touch (fun b => b = gX) w w') : w'.cell? ⟨p, 0, none⟩ = some (.slice (some ⟨gX, 0, none⟩) nX cX) ∧ w'.frozen? ⟨p, 0, none⟩ = false := by
  obtain ⟨⟨_, _, oX⟩, _, _⟩ := h.obj
  have hb := (t.block p h.p_lt (type_ne h.box oX (by decide))).trans h.box
  exact ⟨cell_of_row w' p 0 _ _ _ hb, box_frozen hb 0⟩
theorem RP.boxU {w' : World} (h : RP w N F p nX nU nR gX cX gU cU gR cR lX lU lR) (t : Touch (fun b => b = gU) w w') : w'.cell? ⟨p, 1, none⟩ = some (.slice (some ⟨gU, 0, none⟩) nU cU) ∧ w'.frozen? ⟨p, 1, none⟩ = false := by
  obtain ⟨_, ⟨_, _, oX⟩, _⟩ := h.obj
  have hb := (t.block p h.p_lt (type_ne h.box oX (by decide))).trans h.box
  exact ⟨cell_of_row w' p 1 _ _ _ hb, box_frozen hb 1⟩
theorem RP.boxR {w' : World} (h : RP w N F p nX nU nR gX cX gU cU gR cR lX lU lR) (t : Touch (fun b => b = gR) w w') : w'.cell? ⟨p, 2, none⟩ = some (.slice (some ⟨gR, 0, none⟩) nR cR) ∧ w'.frozen? ⟨p, 2, none⟩ = false := by
  obtain ⟨_, _, ⟨_, _, oX⟩⟩ := h.obj
  have hb := (t.block p h.p_lt (type_ne h.box oX (by decide))).trans h.box
  exact ⟨cell_of_row w' p 2 _ _ _ hb, box_frozen hb 2⟩
end
theorem rf_add {M : List Nd} {rk : List Int} (W : Wf M) (R : Rf M rk) (x : Ro) : Rf (addM M x) (rk ++ [0]) := by
  have hat : ∀ c, c < M.length → rkAt (rk ++ [0]) c = rkAt rk c := fun c hc => by
    unfold rkAt
    rw [List.getElem?_append_left (by rw [R.len]; exact hc)]
  refine ⟨by rw [len_add, List.length_append, R.len]; rfl, fun c => ?_, fun q => ?_⟩
  · by_cases h : c < M.length
    · rw [hat c h]
      exact R.low c
    · unfold rkAt
      rw [List.getElem?_append_right (by rw [R.len]; omega)]
      cases hk : ([0] : List Int)[c - rk.length]? with
      | none => exact Int.le_refl _
      | some y =>
        have := List.mem_of_getElem? hk
        simp at this
        subst this
        exact Int.le_refl _
  · rw [nd_add]
    by_cases e : q = M.length
    · rw [if_pos e]
      exact List.Pairwise.nil
    · rw [if_neg e, map_congr_rk (b := rk) fun c hc => hat c ((W.kid q c).1 hc).1]
      exact R.rise q
theorem fr_touch {N g : Nat} {w w' : World} {x : Cw} (h : Fr N w x) (t : Touch (fun b => b = g) w w') {c : Array Value} {f : Nat × Nat} {tt : TypeId} (ho : w.heap[g]? = some (.cells c tt f)) (ht : tt ≠ 63) : Fr N w' x := Fr.block h fun g' hg' => by
  obtain ⟨_, _, hh⟩ := at_obj h hg'
  exact t.block g' (owns_lt h.1 hg').2.1 (type_ne hh ho ht.symm)
theorem Li.of_new (w : World) (y : Int) : Li (w.alloc (.cells #[.int .i64 y] 3)) w.heap.size [y] := by
  refine ⟨by simp, fun j hj => ?_⟩
  have hj0 : j = 0 := by simpa using hj
  subst hj0
  rw [World.cell?_alloc_mark]
  rfl
set_option maxRecDepth 100000 in
set_option maxHeartbeats 4000000 in
theorem refAdd1 {p N : Nat} {F : Nat → Prop} {M : List Nd} (y : Cw) (w : World) (D : Doc11 w N F p M) (W : Wf M) (hm : M.length ≤ 5000) (hy : Att w w.heap.size y) (hfw : Few [y.ro]) (hft : Fits 0 [y.ro]) :
    Calls Try.prog 74 #[.pointer (some ⟨p, 0, none⟩), rowV y] w fun e w' => e = .returned (.int .i64 M.length) ∧ ∃ F', Doc11 w' N F' p (addM M y.ro) ∧ Next w w' F F' := by
  obtain ⟨rk, gX, cX, gU, cU, gR, cR, lX, D⟩ := D
  have P := D.rp
  have hb1 := below_new w (rowO y)
  have hb2 := bt hb1 (below_new (w.alloc (rowO y)) (rowO y))
  have hsz : (w.alloc (rowO y)).heap.size = w.heap.size + 1 := by simp
  have hrr : Rr ((w.alloc (rowO y)).alloc (rowO y)) ((w.alloc (rowO y)).alloc (rowO y)).heap.size (some ⟨w.heap.size + 1, 0, none⟩) [y] := by
    refine ⟨fun _ => ⟨w.heap.size + 1, 0, rfl, by simp, fun j hj i u hu => ?_⟩, fun x hx => ?_⟩
    · have hj0 : j = 0 := by simpa using hj
      subst hj0
      have := Ro.box_at (w.alloc (rowO y)) y i
      rw [hsz] at this
      rw [show 0 + 0 * 5 + i = i from by omega, this]
      exact hu
    · rw [List.mem_singleton] at hx
      subst hx
      exact (hy.boxed (Below.refl _ _) (rowO x)).boxed (Below.refl _ _) (rowO x)
  obtain ⟨w2, hw2⟩ : ∃ w2, (w.alloc (rowO y)).alloc (rowO y) = w2 := ⟨_, rfl⟩
  rw [hw2] at hrr hb2
  have HRR := Lib.hid hrr; have HB2 := Lib.hid hb2; have HW2 := Lib.hid hw2; have HD := Lib.hid D; have HP := Lib.hid P; have HFW := Lib.hid hfw; have HFT := Lib.hid hft; have HSZ := Lib.hid hsz
  have hml := hm
  clear hrr hb1 hb2 hw2 D P hy hfw hft hsz
  go_enter Try.func74, Try.ntmps74
  go_wp2_with fail
  rw [HW2.out]
  refine (Moved_any (some ⟨w.heap.size + 1, 0, none⟩) 1 [y] 0 w2 HRR.out (by simp) (by simp) HFW.out HFT.out).mono ?_
  rintro e w3 ⟨v3, l3, rfl, ho3, hf3, hr3, hb3⟩
  rw [deeper_zero] at hr3
  obtain ⟨y', rfl, hy'⟩ : ∃ y' : Cw, l3 = [y'] ∧ y'.ro = y.ro := by
    match l3, hr3 with
    | [z], h => exact ⟨z, rfl, by simpa [ros] using h⟩
    | [], h => simp [ros] at h
    | a :: b :: l, h => simp [ros] at h
  obtain ⟨gy, cy, rfl, hgy, hgy2, hoy⟩ := row_one ho3
  have hyc : w3.cell? ⟨gy, 0, none⟩ = some (.int .i64 y'.ro.depth) ∧ w3.frozen? ⟨gy, 0, none⟩ = false := by
    refine ⟨?_, World.ownsRow.frozenAt hoy 0⟩
    rw [World.ownsRow.cellAt hoy 0 (by decide)]
    rfl
  obtain ⟨hyc, hyf⟩ := hyc
  have hst := (World.ownsRow.stored hoy 0 (.int .i64 0)).1
  have hsz2 := HB2.out.size
  have hb4 := (bt HB2.out hb3).setCell (p := ⟨gy, 0, none⟩) (by show w.heap.size ≤ gy; omega) (.int .i64 0)
  obtain ⟨w4, hw4⟩ : ∃ w4, w3.setCell ⟨gy, 0, none⟩ (.int .i64 0) = w4 := ⟨_, rfl⟩
  rw [hw4] at hst hb4
  obtain ⟨z, hz⟩ : ∃ z : Cw, z = ⟨{ y'.ro with depth := 0 }, y'.A, y'.c⟩ := ⟨_, rfl⟩
  have hzc : (cells y').set 0 (.int .i64 0) = cells z := by rw [hz]; rfl
  rw [hzc] at hst
  have hzr : z.ro = { y.ro with depth := 0 } := by rw [hz, ← hy']
  have hfz3 := hf3 y' (by simp)
  have hfz : Fr w2.heap.size w4 z := by
    have h4 : Fr w2.heap.size w4 y' := Fr.block hfz3 fun g hg => by
      obtain ⟨_, _, hh⟩ := at_obj hfz3 hg
      rcases hoy.2 with ⟨hv, _⟩ | ⟨g'', cap, cur, hv, _, hh2, _⟩
      · cases hv
      · injection hv with hv
        injection hv with hv
        injection hv with hv
        rw [← hv] at hh2
        exact hw4 ▸ Below.heap_setCell _ _ _ _ (type_ne hh hh2 (by decide))
    rw [hz]
    exact h4
  have hzcell : ∀ j u, (cells z)[j]? = some u → w4.cell? ⟨gy, j, none⟩ = some u := fun j u hu => by
    have := World.ownsRow.cells hst (g := gy) rfl j u hu
    rwa [WideShapes.add_plain, Nat.zero_add] at this
  have P4 := HP.out.below hb4
  have hx4 := P4.cell.1
  have HW4 := Lib.hid hw4; have HB4 := Lib.hid hb4; have HFZ := Lib.hid hfz; have HZC := Lib.hid hzcell; have HZR := Lib.hid hzr; have HP4 := Lib.hid P4
  have HN := Lib.hid P4.hN
  clear hst hzc hfz3 hf3 ho3 hoy hb3 hr3 hw4 hb4 hfz hzcell hzr P4 hz
  go_upto_region 3 with (fail)
  rw [HW4.out]
  clear HW4
  go_upto_region 4 with (at_builtin; refine app_rowL w4 rfl (.tmp 16) (.tmp 17) rfl N gX cX M.length lX rfl HP4.out.rows z gy cy rfl HZC.out (by omega) HN.out w4.heap.size rfl ?_; intro g5 c5 w5 ho5 hg5 hl5; have t5 : Touch (fun b => b = gX) w4 w5 := (Touch.grown hg5 (fun b e => (Option.some.inj e).symm)); obtain ⟨hx5, hf5⟩ := HP4.out.boxX t5; have T5 := Lib.hid t5; have HO5 := Lib.hid ho5; have HL5 := Lib.hid hl5; clear t5 ho5 hg5 hl5)
  have hT : Touch (fun b => b = gX) w w5 := (Touch.of_below HB4.out).trans T5.out fun _ _ h => h
  have hgX4 := HP.out.obj.1
  obtain ⟨_, _, oX4⟩ := HP4.out.obj.1
  have hgX := HP.out.bd gX HP.out.fx
  have hsz4 := HB4.out.size
  obtain ⟨P6, N6⟩ := HP.out.putX (w' := w5) hT HO5.out (by
    rcases HL5.out with h | h
    · exact .inl h
    · exact .inr (by omega)) (fun x hx => by
    rcases List.mem_append.1 hx with hx | hx
    · exact ⟨fr_touch (HP4.out.attrs x hx).1 T5.out oX4 (by decide), fun b hb => .inl ((HP4.out.attrs x hx).2 b hb)⟩
    · obtain rfl := List.mem_singleton.1 hx
      have hfx := (HFZ.out.mono (N' := N) (by have := HP.out.hN; omega))
      exact ⟨fr_touch hfx T5.out oX4 (by decide), fun b hb => .inr (by have := (owns_lt HFZ.out.1 hb).1; omega)⟩)
  obtain ⟨w6, hw6⟩ : ∃ w6, w5.setCell ⟨p, 0, none⟩ (.slice (some ⟨g5, 0, none⟩) (M.length + 1) c5) = w6 := ⟨_, rfl⟩
  rw [hw6] at P6 N6
  rw [hw6]
  have P7 := P6.below (below_new w6 (.cells #[.int .i64 (-1)] 3))
  have hu6 := P6.cell.2.1
  have hu7 := P7.cell.2.1
  have HP6 := Lib.hid P6; have HN6 := Lib.hid N6; have HP7 := Lib.hid P7
  have HUL := Lib.hid (show (M.map Nd.up).length = M.length by rw [List.length_map])
  have HNN7 := Lib.hid P7.hN
  have hli7 := Li.of_new w6 (-1)
  have HLI7 := Lib.hid hli7
  clear P6 N6 P7 hw6 hT hx5 hf5 hx4 hyc hyf oX4 hgX4 hli7
  go_upto_region 5 with (at_builtin; refine app_ints (w6.alloc (.cells #[.int .i64 (-1)] 3)) rfl (.tmp 25) (.tmp 26) rfl N gU cU M.length (M.map Nd.up) rfl HP7.out.ups w6.heap.size 1 1 [-1] rfl rfl HLI7.out (by decide) (by omega) HNN7.out (w6.heap.size + 1) (by simp) ?_; intro g8 c8 w8 ho8 hg8 hl8; have t8 : Touch (fun b => b = gU) (w6.alloc (.cells #[.int .i64 (-1)] 3)) w8 := (Touch.grown hg8 (fun b e => (Option.some.inj e).symm)); obtain ⟨hx8, hf8⟩ := HP7.out.boxU t8; have T8 := Lib.hid t8; have HO8 := Lib.hid ho8; have HL8 := Lib.hid hl8; clear t8 ho8 hg8 hl8)
  obtain ⟨P9, N9⟩ := HP6.out.putU (w' := w8) ((Touch.of_below (F := fun b => b = gU) (below_new w6 (.cells #[.int .i64 (-1)] 3))).trans T8.out fun _ _ h => h) HO8.out (by
    rcases HL8.out with h | h
    · exact .inl h
    · exact .inr (by omega))
  obtain ⟨w9, hw9⟩ : ∃ w9, w8.setCell ⟨p, 1, none⟩ (.slice (some ⟨g8, 0, none⟩) (M.length + 1) c8) = w9 := ⟨_, rfl⟩
  rw [hw9] at P9 N9
  rw [hw9]
  have P10 := P9.below (below_new w9 (.cells #[.int .i64 0] 3))
  have hr9 := P9.cell.2.2
  have hr10 := P10.cell.2.2
  have HP9 := Lib.hid P9; have HN9 := Lib.hid (HN6.out.trans N9); have HP10 := Lib.hid P10
  have HRL := Lib.hid HD.out.rf.len
  have HNN10 := Lib.hid P10.hN
  have HLI10 := Lib.hid (Li.of_new w9 0)
  clear P9 N9 P10 hw9 hu6 hu7 hx8 hf8
  go_upto_region 6 with (at_builtin; refine app_ints (w9.alloc (.cells #[.int .i64 0] 3)) rfl (.tmp 34) (.tmp 35) rfl N gR cR M.length rk rfl HP10.out.ranks w9.heap.size 1 1 [0] rfl rfl HLI10.out (by decide) (by omega) HNN10.out (w9.heap.size + 1) (by simp) ?_; intro g11 c11 w11 ho11 hg11 hl11; have t11 : Touch (fun b => b = gR) (w9.alloc (.cells #[.int .i64 0] 3)) w11 := (Touch.grown hg11 (fun b e => (Option.some.inj e).symm)); obtain ⟨hx11, hf11⟩ := HP10.out.boxR t11; have T11 := Lib.hid t11; have HO11 := Lib.hid ho11; have HL11 := Lib.hid hl11; clear t11 ho11 hg11 hl11)
  obtain ⟨P12, N12⟩ := HP9.out.putR (w' := w11) ((Touch.of_below (F := fun b => b = gR) (below_new w9 (.cells #[.int .i64 0] 3))).trans T11.out fun _ _ h => h) HO11.out (by
    rcases HL11.out with h | h
    · exact .inl h
    · exact .inr (by omega))
  obtain ⟨w12, hw12⟩ : ∃ w12, w11.setCell ⟨p, 2, none⟩ (.slice (some ⟨g11, 0, none⟩) (M.length + 1) c11) = w12 := ⟨_, rfl⟩
  rw [hw12] at P12 N12
  rw [hw12]
  have hx12 := P12.cell.1
  have HP12 := Lib.hid P12; have HN12 := Lib.hid (HN9.out.trans N12)
  clear P12 N12 hw12 hr9 hr10 hx11 hf11
  go_wp2
  go_ret
  refine ⟨ret_int (by omega), _, ⟨rk ++ [0], g5, c5, g8, c8, g11, c11, lX ++ [z], RP.doc (M := addM M y.ro) (by rw [len_add]; exact HP12.out) ?_ ?_ (rf_add W HD.out.rf y.ro)⟩, HN12.out⟩
  · unfold addM
    rw [List.map_append, ← HD.out.same]
    simp [ros, HZR.out]
  · unfold addM
    simp
end Go.Proofs.Ytmlchbohijolaaa.Ar

namespace Go.Proofs.Ytmlchbohijolaaa.Ar
set_option maxRecDepth 100000
set_option linter.unusedSimpArgs false
set_option linter.unusedVariables false
open Go.RowKit Ba
open Ro (At Ro Cw ros Rr Ow Nw Fr Att Ap Sh cells acells app_num below_new infoI info_row len_cells)
/-! ### What Insert answers. -/
open Classical in
noncomputable def insE (M : List Nd) (P A n : Int) : Int :=
  if P < 0 ∨ (M.length : Int) ≤ P ∨ n < 1 ∨ (M.length : Int) ≤ n then 110
  else if (0 < P ∧ (nd M P.toNat).ro.kind ≠ 0) ∨ Win M P n then 111
  else if A < 0 ∨ (((nd M P.toNat).kids.filter (· != n.toNat)).length : Int) < A then 1 else 0
noncomputable def insM (M : List Nd) (P A n : Int) : List Nd := if insE M P A n = 0 then setM M P.toNat A.toNat n.toNat else M
theorem ins_110 {M : List Nd} {P A n : Int} (h : P < 0 ∨ (M.length : Int) ≤ P ∨ n < 1 ∨ (M.length : Int) ≤ n) : insE M P A n = 110 ∧ insM M P A n = M := by
  have e : insE M P A n = 110 := by unfold insE; rw [if_pos h]
  refine ⟨e, ?_⟩
  unfold insM
  rw [e, if_neg (by decide)]
theorem ins_111 {M : List Nd} {P A n : Int} (h : ¬ (P < 0 ∨ (M.length : Int) ≤ P ∨ n < 1 ∨ (M.length : Int) ≤ n)) (h2 : (0 < P ∧ (nd M P.toNat).ro.kind ≠ 0) ∨ Win M P n) : insE M P A n = 111 ∧ insM M P A n = M := by
  have e : insE M P A n = 111 := by unfold insE; rw [if_neg h, if_pos h2]
  refine ⟨e, ?_⟩
  unfold insM
  rw [e, if_neg (by decide)]
theorem ins_1 {M : List Nd} {P A n : Int} (h : ¬ (P < 0 ∨ (M.length : Int) ≤ P ∨ n < 1 ∨ (M.length : Int) ≤ n)) (h2 : ¬ ((0 < P ∧ (nd M P.toNat).ro.kind ≠ 0) ∨ Win M P n)) (h3 : A < 0 ∨ (((nd M P.toNat).kids.filter (· != n.toNat)).length : Int) < A) : insE M P A n = 1 ∧ insM M P A n = M := by
  have e : insE M P A n = 1 := by unfold insE; rw [if_neg h, if_neg h2, if_pos h3]
  refine ⟨e, ?_⟩
  unfold insM
  rw [e, if_neg (by decide)]
theorem ins_0 {M : List Nd} {P A n : Int} (h : ¬ (P < 0 ∨ (M.length : Int) ≤ P ∨ n < 1 ∨ (M.length : Int) ≤ n)) (h2 : ¬ ((0 < P ∧ (nd M P.toNat).ro.kind ≠ 0) ∨ Win M P n)) (h3 : ¬ (A < 0 ∨ (((nd M P.toNat).kids.filter (· != n.toNat)).length : Int) < A)) : insE M P A n = 0 ∧ insM M P A n = setM M P.toNat A.toNat n.toNat := by
  have e : insE M P A n = 0 := by unfold insE; rw [if_neg h, if_neg h2, if_neg h3]
  refine ⟨e, ?_⟩
  unfold insM
  rw [e, if_pos rfl]
theorem filter_len {l : List Nat} (hn : l.Nodup) (n : Nat) : (l.filter (· != n)).length = if n ∈ l then l.length - 1 else l.length := by
  induction l with
  | nil => simp
  | cons a r ih =>
    have hr := (List.nodup_cons.1 hn)
    rw [List.filter_cons]
    by_cases e : a = n
    · subst e
      have h0 : ((a != a) : Bool) = false := by simp
      rw [h0]
      have := ih hr.2
      rw [if_neg hr.1] at this
      simp [this]
    · have h0 : ((a != n) : Bool) = true := by simpa using e
      rw [h0]
      have := ih hr.2
      rw [if_pos rfl, List.length_cons, this]
      by_cases hm : n ∈ r
      · rw [if_pos hm, if_pos (by simp [hm])]
        have := List.length_pos_of_mem hm
        rw [List.length_cons]
        omega
      · rw [if_neg hm, if_neg (by simp [hm]; exact fun h => e h.symm)]
        simp
theorem kids_less {M : List Nd} (W : Wf M) {P n : Nat} (hn : n < M.length) : (((nd M P).kids.filter (· != n)).length : Int) = if (nd M n).up = (P : Int) then ((nd M P).kids.length : Int) - 1 else (nd M P).kids.length := by
  rw [filter_len (W.nodup P)]
  by_cases h : (nd M n).up = (P : Int)
  · have hm := (W.kid P n).2 ⟨hn, h⟩
    have := List.length_pos_of_mem hm
    rw [if_pos h, if_pos hm]
    omega
  · rw [if_neg h, if_neg fun hm => h ((W.kid P n).1 hm).2]
theorem RD.cellX {w : World} {N : Nat} {F : Nat → Prop} {p : Nat} {M : List Nd} {rk : List Int} {gX cX gU cU gR cR : Nat} {lX : List Cw} (h : RD w N F p M rk gX cX gU cU gR cR lX) {k : Nat} (hk : k < M.length) : ∃ x : Cw, lX[k]? = some x ∧ x.ro = (nd M k).ro ∧ Att w w.heap.size x ∧ ∀ j u, (cells x)[j]? = some u → w.cell? ⟨gX, k * 5 + j, none⟩ = some u := by
  have hl := h.len
  have hkl : k < lX.length := by omega
  have hs : (ros lX)[k]? = (M.map Nd.ro)[k]? := by rw [h.same]
  refine ⟨lX[k], List.getElem?_eq_getElem hkl, ?_, (h.attrs _ (List.getElem_mem hkl)).1.att, fun j u hu => ?_⟩
  · unfold ros at hs
    rw [List.getElem?_map, List.getElem?_map, List.getElem?_eq_getElem hkl, List.getElem?_eq_getElem hk] at hs
    have hs := Option.some.inj hs
    rw [hs]
    unfold nd
    rw [List.getElem?_eq_getElem hk]
    rfl
  · have hj : j < 5 := (List.getElem?_eq_some_iff.1 hu).1
    have := World.ownsRow.cells h.rows (g := gX) rfl (k * 5 + j) u (by rw [Ro.flat_at cells 5 Ro.len_cells _ _ _ hkl hj]; exact hu)
    rwa [WideShapes.add_plain, Nat.zero_add] at this
theorem Doc11.below {w w' : World} {N : Nat} {F : Nat → Prop} {p : Nat} {M : List Nd} (h : Doc11 w N F p M) (hb : Below w.heap.size w w') : Doc11 w' N F p M := by
  obtain ⟨rk, gX, cX, gU, cU, gR, cR, lX, D⟩ := h
  exact ⟨rk, gX, cX, gU, cU, gR, cR, lX, D.below hb⟩
theorem Next.of_below {w w' : World} {F : Nat → Prop} (hb : Below w.heap.size w w') : Next w w' F F := ⟨Touch.of_below hb, fun _ h => h, fun _ h => .inl h⟩
set_option maxRecDepth 100000 in
set_option maxHeartbeats 4000000 in
theorem refInsert1 {p N : Nat} {F : Nat → Prop} {M : List Nd} (P A n : Int) (w : World) (D : Doc11 w N F p M) (W : Wf M) (hm : M.length ≤ 5000) :
    Calls Try.prog 50 #[.pointer (some ⟨p, 0, none⟩), .int .i64 P, .int .i64 A, .int .i64 n] w fun e w' => e = .returned (.int .i64 (insE M P A n)) ∧ ∃ F', Doc11 w' N F' p (insM M P A n) ∧ Next w w' F F' := by
  have D0 := Lib.hid D
  obtain ⟨rk, gX, cX, gU, cU, gR, cR, lX, D⟩ := D
  have HD := Lib.hid D
  have hx := D.rd.x
  by_cases h1 : P < 0 ∨ (M.length : Int) ≤ P ∨ n < 1 ∨ (M.length : Int) ≤ n
  · obtain ⟨e1, e2⟩ := ins_110 (A := A) h1
    rw [e1, e2]
    clear D e1 e2
    by_cases c1 : P < 0
    · go_enter Try.func50, Try.ntmps50
      go_wp2
      go_ret
      exact ⟨rfl, F, D0.out, Next.refl w F⟩
    by_cases c2 : (M.length : Int) ≤ P
    · go_enter Try.func50, Try.ntmps50
      go_wp2
      go_ret
      exact ⟨rfl, F, D0.out, Next.refl w F⟩
    by_cases c3 : n < 1
    · go_enter Try.func50, Try.ntmps50
      go_wp2
      go_ret
      exact ⟨rfl, F, D0.out, Next.refl w F⟩
    have c4 : (M.length : Int) ≤ n := by omega
    go_enter Try.func50, Try.ntmps50
    go_wp2
    go_ret
    exact ⟨rfl, F, D0.out, Next.refl w F⟩
  · obtain ⟨k, rfl⟩ : ∃ k : Nat, P = k := ⟨P.toNat, by omega⟩
    obtain ⟨m, rfl⟩ : ∃ m : Nat, n = m := ⟨n.toNat, by omega⟩
    have hk : k < M.length := by omega
    have hmm : m < M.length := by omega
    obtain ⟨x, hxk, hxr, _, hxc⟩ := D.cellX hk
    have hck := hxc 1 _ rfl
    rw [hxr] at hck
    have H1 := Lib.hid h1
    have hki : (k : Int) < M.length := by omega
    have hmi : (m : Int) < M.length := by omega
    have hm1 : ¬ (m : Int) < 1 := by omega
    have hkb : (nd M k).kids.length ≤ 5000 := Nat.le_trans (nodup_bound (W.nodup k) fun x hx => ((W.kid k x).1 hx).1) hm
    have HKL := Lib.hid (kids_less W (P := k) hmm)
    clear h1 hxk hxr hxc D
    by_cases c0 : k = 0
    · subst c0
      have hne : M ≠ [] := fun e => by rw [e] at hk; exact absurd hk (by simp)
      obtain ⟨q, hq⟩ : ∃ q : Bool, q = true ↔ Win M (0 : Nat) m := by
        by_cases hw : Win M (0 : Nat) m
        · exact ⟨true, fun _ => hw, fun _ => rfl⟩
        · exact ⟨false, fun h => (by cases h), fun h => absurd h hw⟩
      have HQ := Lib.hid hq
      clear hq
      cases q with
      | true =>
        have HW := Lib.hid (HQ.out.1 rfl)
        obtain ⟨e1, e2⟩ := ins_111 (A := A) H1.out (.inr HW.out)
        clear HQ
        rw [e1, e2]
        clear e1 e2
        go_enter Try.func50, Try.ntmps50
        go_wp2_with fail
        refine (refWithin1 ((0 : Nat) : Int) (m : Int) w HD.out.rd W hm true ⟨fun _ => HW.out, fun _ => rfl⟩).mono ?_
        rintro e w1 ⟨rfl, rfl⟩
        go_wp2
        go_ret
        exact ⟨rfl, F, D0.out, Next.refl w F⟩
      | false =>
        have hn2 : ¬ ((0 < ((0 : Nat) : Int) ∧ (nd M ((0 : Nat) : Int).toNat).ro.kind ≠ 0) ∨ Win M 0 m) := by
          rintro (h | h)
          · exact absurd h.1 (by simp)
          · exact absurd (HQ.out.2 h) (by decide)
        have HN2 := Lib.hid hn2
        clear hn2
        obtain ⟨y, hy⟩ : ∃ y, (nd M m).up = y := ⟨_, rfl⟩
        have HY := Lib.hid hy
        clear hy
        have HK2 := refKids1 ((0 : Nat) : Int) w HD.out.rd W HD.out.rf hm
        rw [kidsI_nat] at HK2
        have HK2 := Lib.hid HK2
        have hkl := HKL.out
        rw [HY.out] at hkl
        by_cases hyk : y = ((0 : Nat) : Int)
        · rw [if_pos hyk] at hkl
          obtain ⟨L, hL⟩ : ∃ L, ((nd M 0).kids.filter (· != m)).length = L := ⟨_, rfl⟩
          have HL := Lib.hid hL
          have hLk : (nd M 0).kids.length = L + 1 := by rw [hL] at hkl; have hLL := hkl; omega
          have HLK := Lib.hid hLk
          have hLb : L ≤ 5000 := by omega
          clear hkl hL hLk
          subst hyk
          by_cases a1 : A < 0
          · obtain ⟨e1, e2⟩ := ins_1 H1.out HN2.out (.inl a1)
            rw [e1, e2]
            clear e1 e2
            go_enter Try.func50, Try.ntmps50
            go_wp2_with fail
            refine (refWithin1 ((0 : Nat) : Int) (m : Int) w HD.out.rd W hm false HQ.out).mono ?_
            rintro e w1 ⟨rfl, rfl⟩
            go_wp2_with fail
            refine HK2.out.mono ?_
            rintro e w2 ⟨v2, rfl, hnw, hb2⟩
            obtain ⟨A2, c2, rfl, _⟩ := nw_at hnw
            rw [HLK.out]
            have D2 := Lib.hid (D0.out.below hb2)
            have hu2 := (HD.out.below hb2).rd.u
            have hcu2 := ups_at (HD.out.below hb2).rd.ups hmm
            rw [HY.out] at hcu2
            have N2 := Lib.hid (Next.of_below (F := F) hb2)
            clear hnw hb2
            go_wp2
            go_ret
            exact ⟨rfl, F, D2.out, N2.out⟩
          by_cases a2 : (L : Int) < A
          · obtain ⟨e1, e2⟩ := ins_1 H1.out HN2.out (.inr (by show (((nd M 0).kids.filter (· != m)).length : Int) < A; rw [HL.out]; exact a2))
            rw [e1, e2]
            clear e1 e2
            go_enter Try.func50, Try.ntmps50
            go_wp2_with fail
            refine (refWithin1 ((0 : Nat) : Int) (m : Int) w HD.out.rd W hm false HQ.out).mono ?_
            rintro e w1 ⟨rfl, rfl⟩
            go_wp2_with fail
            refine HK2.out.mono ?_
            rintro e w2 ⟨v2, rfl, hnw, hb2⟩
            obtain ⟨A2, c2, rfl, _⟩ := nw_at hnw
            rw [HLK.out]
            have D2 := Lib.hid (D0.out.below hb2)
            have hu2 := (HD.out.below hb2).rd.u
            have hcu2 := ups_at (HD.out.below hb2).rd.ups hmm
            rw [HY.out] at hcu2
            have N2 := Lib.hid (Next.of_below (F := F) hb2)
            clear hnw hb2
            go_wp2
            go_ret
            exact ⟨rfl, F, D2.out, N2.out⟩
          · obtain ⟨e1, e2⟩ := ins_0 H1.out HN2.out (fun h => h.elim a1 (by show ¬ (((nd M 0).kids.filter (· != m)).length : Int) < A; rw [HL.out]; exact a2))
            rw [e1, e2]
            clear e1 e2
            obtain ⟨a, rfl⟩ : ∃ a : Nat, A = a := ⟨A.toNat, by omega⟩
            go_enter Try.func50, Try.ntmps50
            go_wp2_with fail
            refine (refWithin1 ((0 : Nat) : Int) (m : Int) w HD.out.rd W hm false HQ.out).mono ?_
            rintro e w1 ⟨rfl, rfl⟩
            go_wp2_with fail
            refine HK2.out.mono ?_
            rintro e w2 ⟨v2, rfl, hnw, hb2⟩
            obtain ⟨A2, c2, rfl, _⟩ := nw_at hnw
            rw [HLK.out]
            have D2 := Lib.hid (D0.out.below hb2)
            have hu2 := (HD.out.below hb2).rd.u
            have hcu2 := ups_at (HD.out.below hb2).rd.ups hmm
            rw [HY.out] at hcu2
            have N2 := Lib.hid (Next.of_below (F := F) hb2)
            clear hnw hb2
            go_wp2_with fail
            refine (refSet1 0 a m w2 D2.out W hm hk hmm (by rw [HL.out]; omega)).mono ?_
            rintro e w3 ⟨rfl, F3, D3, N3⟩
            have HD3 := Lib.hid D3; have HN3 := Lib.hid (N2.out.trans N3)
            clear D3 N3
            go_wp2
            go_ret
            exact ⟨rfl, F3, HD3.out, HN3.out⟩
        · rw [if_neg hyk] at hkl
          obtain ⟨L, hL⟩ : ∃ L, ((nd M 0).kids.filter (· != m)).length = L := ⟨_, rfl⟩
          have HL := Lib.hid hL
          have hLk : (nd M 0).kids.length = L := by rw [hL] at hkl; have hLL := hkl; omega
          have HLK := Lib.hid hLk
          have hLb : L ≤ 5000 := by omega
          clear hkl hL hLk
          by_cases a1 : A < 0
          · obtain ⟨e1, e2⟩ := ins_1 H1.out HN2.out (.inl a1)
            rw [e1, e2]
            clear e1 e2
            go_enter Try.func50, Try.ntmps50
            go_wp2_with fail
            refine (refWithin1 ((0 : Nat) : Int) (m : Int) w HD.out.rd W hm false HQ.out).mono ?_
            rintro e w1 ⟨rfl, rfl⟩
            go_wp2_with fail
            refine HK2.out.mono ?_
            rintro e w2 ⟨v2, rfl, hnw, hb2⟩
            obtain ⟨A2, c2, rfl, _⟩ := nw_at hnw
            rw [HLK.out]
            have D2 := Lib.hid (D0.out.below hb2)
            have hu2 := (HD.out.below hb2).rd.u
            have hcu2 := ups_at (HD.out.below hb2).rd.ups hmm
            rw [HY.out] at hcu2
            have N2 := Lib.hid (Next.of_below (F := F) hb2)
            clear hnw hb2
            go_wp2
            go_ret
            exact ⟨rfl, F, D2.out, N2.out⟩
          by_cases a2 : (L : Int) < A
          · obtain ⟨e1, e2⟩ := ins_1 H1.out HN2.out (.inr (by show (((nd M 0).kids.filter (· != m)).length : Int) < A; rw [HL.out]; exact a2))
            rw [e1, e2]
            clear e1 e2
            go_enter Try.func50, Try.ntmps50
            go_wp2_with fail
            refine (refWithin1 ((0 : Nat) : Int) (m : Int) w HD.out.rd W hm false HQ.out).mono ?_
            rintro e w1 ⟨rfl, rfl⟩
            go_wp2_with fail
            refine HK2.out.mono ?_
            rintro e w2 ⟨v2, rfl, hnw, hb2⟩
            obtain ⟨A2, c2, rfl, _⟩ := nw_at hnw
            rw [HLK.out]
            have D2 := Lib.hid (D0.out.below hb2)
            have hu2 := (HD.out.below hb2).rd.u
            have hcu2 := ups_at (HD.out.below hb2).rd.ups hmm
            rw [HY.out] at hcu2
            have N2 := Lib.hid (Next.of_below (F := F) hb2)
            clear hnw hb2
            go_wp2
            go_ret
            exact ⟨rfl, F, D2.out, N2.out⟩
          · obtain ⟨e1, e2⟩ := ins_0 H1.out HN2.out (fun h => h.elim a1 (by show ¬ (((nd M 0).kids.filter (· != m)).length : Int) < A; rw [HL.out]; exact a2))
            rw [e1, e2]
            clear e1 e2
            obtain ⟨a, rfl⟩ : ∃ a : Nat, A = a := ⟨A.toNat, by omega⟩
            go_enter Try.func50, Try.ntmps50
            go_wp2_with fail
            refine (refWithin1 ((0 : Nat) : Int) (m : Int) w HD.out.rd W hm false HQ.out).mono ?_
            rintro e w1 ⟨rfl, rfl⟩
            go_wp2_with fail
            refine HK2.out.mono ?_
            rintro e w2 ⟨v2, rfl, hnw, hb2⟩
            obtain ⟨A2, c2, rfl, _⟩ := nw_at hnw
            rw [HLK.out]
            have D2 := Lib.hid (D0.out.below hb2)
            have hu2 := (HD.out.below hb2).rd.u
            have hcu2 := ups_at (HD.out.below hb2).rd.ups hmm
            rw [HY.out] at hcu2
            have N2 := Lib.hid (Next.of_below (F := F) hb2)
            clear hnw hb2
            go_wp2_with fail
            refine (refSet1 0 a m w2 D2.out W hm hk hmm (by rw [HL.out]; omega)).mono ?_
            rintro e w3 ⟨rfl, F3, D3, N3⟩
            have HD3 := Lib.hid D3; have HN3 := Lib.hid (N2.out.trans N3)
            clear D3 N3
            go_wp2
            go_ret
            exact ⟨rfl, F3, HD3.out, HN3.out⟩
    · have hk0 : (0 : Int) < k := by omega
      by_cases c1 : (nd M k).ro.kind = 0
      · obtain ⟨q, hq⟩ : ∃ q : Bool, q = true ↔ Win M k m := by
          by_cases hw : Win M k m
          · exact ⟨true, fun _ => hw, fun _ => rfl⟩
          · exact ⟨false, fun h => (by cases h), fun h => absurd h hw⟩
        have HQ := Lib.hid hq
        clear hq
        cases q with
        | true =>
          have HW := Lib.hid (HQ.out.1 rfl)
          obtain ⟨e1, e2⟩ := ins_111 (A := A) H1.out (.inr HW.out)
          clear HQ
          rw [e1, e2]
          clear e1 e2
          go_enter Try.func50, Try.ntmps50
          go_wp2_with fail
          refine (refWithin1 (k : Int) (m : Int) w HD.out.rd W hm true ⟨fun _ => HW.out, fun _ => rfl⟩).mono ?_
          rintro e w1 ⟨rfl, rfl⟩
          go_wp2
          go_ret
          exact ⟨rfl, F, D0.out, Next.refl w F⟩
        | false =>
          have hn2 : ¬ ((0 < (k : Int) ∧ (nd M (k : Int).toNat).ro.kind ≠ 0) ∨ Win M k m) := by
            rintro (h | h)
            · exact h.2 c1
            · exact absurd (HQ.out.2 h) (by decide)
          have HN2 := Lib.hid hn2
          clear hn2
          obtain ⟨y, hy⟩ : ∃ y, (nd M m).up = y := ⟨_, rfl⟩
          have HY := Lib.hid hy
          clear hy
          have HK2 := refKids1 (k : Int) w HD.out.rd W HD.out.rf hm
          rw [kidsI_nat] at HK2
          have HK2 := Lib.hid HK2
          have hkl := HKL.out
          rw [HY.out] at hkl
          by_cases hyk : y = (k : Int)
          · rw [if_pos hyk] at hkl
            obtain ⟨L, hL⟩ : ∃ L, ((nd M k).kids.filter (· != m)).length = L := ⟨_, rfl⟩
            have HL := Lib.hid hL
            have hLk : (nd M k).kids.length = L + 1 := by rw [hL] at hkl; have hLL := hkl; omega
            have HLK := Lib.hid hLk
            have hLb : L ≤ 5000 := by omega
            clear hkl hL hLk
            subst hyk
            by_cases a1 : A < 0
            · obtain ⟨e1, e2⟩ := ins_1 H1.out HN2.out (.inl a1)
              rw [e1, e2]
              clear e1 e2
              go_enter Try.func50, Try.ntmps50
              go_wp2_with fail
              refine (refWithin1 (k : Int) (m : Int) w HD.out.rd W hm false HQ.out).mono ?_
              rintro e w1 ⟨rfl, rfl⟩
              go_wp2_with fail
              refine HK2.out.mono ?_
              rintro e w2 ⟨v2, rfl, hnw, hb2⟩
              obtain ⟨A2, c2, rfl, _⟩ := nw_at hnw
              rw [HLK.out]
              have D2 := Lib.hid (D0.out.below hb2)
              have hu2 := (HD.out.below hb2).rd.u
              have hcu2 := ups_at (HD.out.below hb2).rd.ups hmm
              rw [HY.out] at hcu2
              have N2 := Lib.hid (Next.of_below (F := F) hb2)
              clear hnw hb2
              go_wp2
              go_ret
              exact ⟨rfl, F, D2.out, N2.out⟩
            by_cases a2 : (L : Int) < A
            · obtain ⟨e1, e2⟩ := ins_1 H1.out HN2.out (.inr (by show (((nd M k).kids.filter (· != m)).length : Int) < A; rw [HL.out]; exact a2))
              rw [e1, e2]
              clear e1 e2
              go_enter Try.func50, Try.ntmps50
              go_wp2_with fail
              refine (refWithin1 (k : Int) (m : Int) w HD.out.rd W hm false HQ.out).mono ?_
              rintro e w1 ⟨rfl, rfl⟩
              go_wp2_with fail
              refine HK2.out.mono ?_
              rintro e w2 ⟨v2, rfl, hnw, hb2⟩
              obtain ⟨A2, c2, rfl, _⟩ := nw_at hnw
              rw [HLK.out]
              have D2 := Lib.hid (D0.out.below hb2)
              have hu2 := (HD.out.below hb2).rd.u
              have hcu2 := ups_at (HD.out.below hb2).rd.ups hmm
              rw [HY.out] at hcu2
              have N2 := Lib.hid (Next.of_below (F := F) hb2)
              clear hnw hb2
              go_wp2
              go_ret
              exact ⟨rfl, F, D2.out, N2.out⟩
            · obtain ⟨e1, e2⟩ := ins_0 H1.out HN2.out (fun h => h.elim a1 (by show ¬ (((nd M k).kids.filter (· != m)).length : Int) < A; rw [HL.out]; exact a2))
              rw [e1, e2]
              clear e1 e2
              obtain ⟨a, rfl⟩ : ∃ a : Nat, A = a := ⟨A.toNat, by omega⟩
              go_enter Try.func50, Try.ntmps50
              go_wp2_with fail
              refine (refWithin1 (k : Int) (m : Int) w HD.out.rd W hm false HQ.out).mono ?_
              rintro e w1 ⟨rfl, rfl⟩
              go_wp2_with fail
              refine HK2.out.mono ?_
              rintro e w2 ⟨v2, rfl, hnw, hb2⟩
              obtain ⟨A2, c2, rfl, _⟩ := nw_at hnw
              rw [HLK.out]
              have D2 := Lib.hid (D0.out.below hb2)
              have hu2 := (HD.out.below hb2).rd.u
              have hcu2 := ups_at (HD.out.below hb2).rd.ups hmm
              rw [HY.out] at hcu2
              have N2 := Lib.hid (Next.of_below (F := F) hb2)
              clear hnw hb2
              go_wp2_with fail
              refine (refSet1 k a m w2 D2.out W hm hk hmm (by rw [HL.out]; omega)).mono ?_
              rintro e w3 ⟨rfl, F3, D3, N3⟩
              have HD3 := Lib.hid D3; have HN3 := Lib.hid (N2.out.trans N3)
              clear D3 N3
              go_wp2
              go_ret
              exact ⟨rfl, F3, HD3.out, HN3.out⟩
          · rw [if_neg hyk] at hkl
            obtain ⟨L, hL⟩ : ∃ L, ((nd M k).kids.filter (· != m)).length = L := ⟨_, rfl⟩
            have HL := Lib.hid hL
            have hLk : (nd M k).kids.length = L := by rw [hL] at hkl; have hLL := hkl; omega
            have HLK := Lib.hid hLk
            have hLb : L ≤ 5000 := by omega
            clear hkl hL hLk
            by_cases a1 : A < 0
            · obtain ⟨e1, e2⟩ := ins_1 H1.out HN2.out (.inl a1)
              rw [e1, e2]
              clear e1 e2
              go_enter Try.func50, Try.ntmps50
              go_wp2_with fail
              refine (refWithin1 (k : Int) (m : Int) w HD.out.rd W hm false HQ.out).mono ?_
              rintro e w1 ⟨rfl, rfl⟩
              go_wp2_with fail
              refine HK2.out.mono ?_
              rintro e w2 ⟨v2, rfl, hnw, hb2⟩
              obtain ⟨A2, c2, rfl, _⟩ := nw_at hnw
              rw [HLK.out]
              have D2 := Lib.hid (D0.out.below hb2)
              have hu2 := (HD.out.below hb2).rd.u
              have hcu2 := ups_at (HD.out.below hb2).rd.ups hmm
              rw [HY.out] at hcu2
              have N2 := Lib.hid (Next.of_below (F := F) hb2)
              clear hnw hb2
              go_wp2
              go_ret
              exact ⟨rfl, F, D2.out, N2.out⟩
            by_cases a2 : (L : Int) < A
            · obtain ⟨e1, e2⟩ := ins_1 H1.out HN2.out (.inr (by show (((nd M k).kids.filter (· != m)).length : Int) < A; rw [HL.out]; exact a2))
              rw [e1, e2]
              clear e1 e2
              go_enter Try.func50, Try.ntmps50
              go_wp2_with fail
              refine (refWithin1 (k : Int) (m : Int) w HD.out.rd W hm false HQ.out).mono ?_
              rintro e w1 ⟨rfl, rfl⟩
              go_wp2_with fail
              refine HK2.out.mono ?_
              rintro e w2 ⟨v2, rfl, hnw, hb2⟩
              obtain ⟨A2, c2, rfl, _⟩ := nw_at hnw
              rw [HLK.out]
              have D2 := Lib.hid (D0.out.below hb2)
              have hu2 := (HD.out.below hb2).rd.u
              have hcu2 := ups_at (HD.out.below hb2).rd.ups hmm
              rw [HY.out] at hcu2
              have N2 := Lib.hid (Next.of_below (F := F) hb2)
              clear hnw hb2
              go_wp2
              go_ret
              exact ⟨rfl, F, D2.out, N2.out⟩
            · obtain ⟨e1, e2⟩ := ins_0 H1.out HN2.out (fun h => h.elim a1 (by show ¬ (((nd M k).kids.filter (· != m)).length : Int) < A; rw [HL.out]; exact a2))
              rw [e1, e2]
              clear e1 e2
              obtain ⟨a, rfl⟩ : ∃ a : Nat, A = a := ⟨A.toNat, by omega⟩
              go_enter Try.func50, Try.ntmps50
              go_wp2_with fail
              refine (refWithin1 (k : Int) (m : Int) w HD.out.rd W hm false HQ.out).mono ?_
              rintro e w1 ⟨rfl, rfl⟩
              go_wp2_with fail
              refine HK2.out.mono ?_
              rintro e w2 ⟨v2, rfl, hnw, hb2⟩
              obtain ⟨A2, c2, rfl, _⟩ := nw_at hnw
              rw [HLK.out]
              have D2 := Lib.hid (D0.out.below hb2)
              have hu2 := (HD.out.below hb2).rd.u
              have hcu2 := ups_at (HD.out.below hb2).rd.ups hmm
              rw [HY.out] at hcu2
              have N2 := Lib.hid (Next.of_below (F := F) hb2)
              clear hnw hb2
              go_wp2_with fail
              refine (refSet1 k a m w2 D2.out W hm hk hmm (by rw [HL.out]; omega)).mono ?_
              rintro e w3 ⟨rfl, F3, D3, N3⟩
              have HD3 := Lib.hid D3; have HN3 := Lib.hid (N2.out.trans N3)
              clear D3 N3
              go_wp2
              go_ret
              exact ⟨rfl, F3, HD3.out, HN3.out⟩
      · obtain ⟨e1, e2⟩ := ins_111 (A := A) H1.out (.inl ⟨hk0, by simpa using c1⟩)
        rw [e1, e2]
        clear e1 e2
        go_enter Try.func50, Try.ntmps50
        go_wp2
        go_ret
        exact ⟨rfl, F, D0.out, Next.refl w F⟩
end Go.Proofs.Ytmlchbohijolaaa.Ar

namespace Go.Proofs.Ytmlchbohijolaaa.Ba
set_option maxRecDepth 100000
set_option linter.unusedSimpArgs false
set_option linter.unusedVariables false
open Go.RowKit
/-- A slice at A reads as these strings, below block B. -/
def Rd (w : World) (N : Nat) (A : Option Addr) (l : List ByteArray) : Prop :=
  0 < l.length → ∃ b off, A = some ⟨b, off, none⟩ ∧ b < N ∧ ∀ j (h : j < l.length), w.cell? ⟨b, off + j, none⟩ = some (.string l[j])

theorem Rd.nil (w : World) (N : Nat) (A : Option Addr) : Rd w N A [] := fun h => absurd h (by simp)
theorem Rd.keep {w w' : World} {N : Nat} {A : Option Addr} {l : List ByteArray} (h : Rd w N A l) (hk : ∀ p : Addr, p.block < N → w'.cell? p = w.cell? p) : Rd w' N A l := fun h0 => by
  obtain ⟨b, off, e, hb, hc⟩ := h h0
  exact ⟨b, off, e, hb, fun j hj => (hk _ hb).trans (hc j hj)⟩
theorem Rd.more {w : World} {N N' : Nat} {A : Option Addr} {l : List ByteArray} (h : Rd w N A l) (hN : N ≤ N') : Rd w N' A l := fun h0 => by
  obtain ⟨b, off, e, hb, hc⟩ := h h0
  exact ⟨b, off, e, by omega, hc⟩
theorem Rd.below {w w' : World} {N M : Nat} {A : Option Addr} {l : List ByteArray} (h : Rd w N A l) (hb : Below M w w') (hN : N ≤ M) : Rd w' N A l := h.keep fun p hp => hb.cell (p := p) (by omega)
theorem Rd.alloc {w : World} {N : Nat} {A : Option Addr} {l : List ByteArray} (h : Rd w N A l) (hN : N ≤ w.heap.size) (o : Obj) : Rd (w.alloc o) N A l := h.keep fun p hp => World.cell?_alloc_lt w o p (by omega)
theorem Rd.take {w : World} {N : Nat} {A : Option Addr} {l : List ByteArray} (h : Rd w N A l) (m : Nat) : Rd w N A (l.take m) := fun h0 => by
  rw [List.length_take] at h0
  obtain ⟨b, off, e, hb, hc⟩ := h (by omega)
  refine ⟨b, off, e, hb, fun j hj => ?_⟩
  rw [List.length_take] at hj
  rw [List.getElem_take]
  exact hc j (by omega)
/-- Cut: what the model makes of s[m:]. -/
theorem Rd.drop {w : World} {N : Nat} {A : Option Addr} {l : List ByteArray} (h : Rd w N A l) (m cap : Nat) (hc : l.length ≤ cap) : Rd w N (if cap = m then A else A.map (·.add m)) (l.drop m) := fun h0 => by
  rw [List.length_drop] at h0
  obtain ⟨b, off, e, hb, hcc⟩ := h (by omega)
  rw [if_neg (by omega), e]
  refine ⟨b, off + m, by simp [WideShapes.add_plain], hb, fun j hj => ?_⟩
  rw [List.length_drop] at hj
  rw [List.getElem_drop, Nat.add_assoc]
  exact hcc (m + j) (by omega)

def sc (s : ByteArray) : Value := .string s
/-- v is a slice of strings of the call's own that holds l. -/
def Sown (N : Nat) (w : World) (v : Value) (l : List ByteArray) : Prop := w.ownsRow N 9 1 v l.length (l.map sc)

theorem Sown.nil (N : Nat) (w : World) : Sown N w (.slice none 0 0) [] := World.ownsRow_nil w N _ 1
theorem Sown.made (w : World) : Sown w.heap.size (w.alloc (.cells #[] 9)) (.slice (some ⟨w.heap.size, 0, none⟩) 0 0) [] :=
  World.ownsRow_made w #[] 0 (Nat.le_refl _) (Nat.zero_le _) rfl
theorem Sown.alloc {N : Nat} {w : World} {v : Value} {l : List ByteArray} (h : Sown N w v l) (o : Obj) : Sown N (w.alloc o) v l := World.ownsRow.alloc h o
theorem Sown.mono {N N' : Nat} {w : World} {v : Value} {l : List ByteArray} (h : Sown N w v l) (hN : N' ≤ N) : Sown N' w v l := World.ownsRow.mono h hN
theorem Sown.below {N M : Nat} {w w' : World} {v : Value} {l : List ByteArray} (h : Sown N w v l) (hb : Below M w w') (hM : w.heap.size ≤ M) : Sown N w' v l := by
  refine ⟨h.1, ?_⟩
  rcases h.2 with hn | ⟨g, cap, cur, hv, hg, hh, rest⟩
  · exact .inl hn
  · refine .inr ⟨g, cap, cur, hv, hg, ?_, rest⟩
    have hlt : g < w.heap.size := (Array.getElem?_eq_some_iff.1 hh).1
    rw [hb.block g (by omega)]
    exact hh
theorem Sown.kept {N : Nat} {w0 w w' : World} {v : Value} {l : List ByteArray} (h : Sown N w v l) (hg : w.grownBy w' v.ownBlock) (hb : Below N w0 w) (hN : N ≤ w.heap.size) : Below N w0 w' :=
  hb.grown hg hN fun k hk => (h.lt k hk).1
/-- Its form, and what it reads as. -/
theorem Sown.form {N : Nat} {w : World} {v : Value} {l : List ByteArray} (h : Sown N w v l) : ∃ A c, v = .slice A l.length c ∧ l.length ≤ c ∧ c ≤ maxLen ∧ Rd w w.heap.size A l := by
  rcases h.2 with ⟨hv, hl⟩ | ⟨g, cap, cur, hv, hg, hh, hn, hm, hs, ht⟩
  · have : l = [] := List.eq_nil_of_length_eq_zero hl
    subst this
    exact ⟨none, 0, hv, Nat.le_refl _, Nat.zero_le _, Rd.nil _ _ _⟩
  · refine ⟨some ⟨g, 0, none⟩, cap, hv, hn, hm, fun _ => ⟨g, 0, rfl, (Array.getElem?_eq_some_iff.1 hh).1, fun j hj => ?_⟩⟩
    subst hv
    have := World.ownsRow.cells h rfl j (sc l[j]) (by simp [hj])
    rw [WideShapes.add_plain] at this
    exact this
end Go.Proofs.Ytmlchbohijolaaa.Ba

namespace Go.Proofs.Ytmlchbohijolaaa.Fm
set_option linter.unusedSimpArgs false
set_option linter.unusedVariables false

section order
variable {α : Type}

/-- A name put at its place; 'put': it is there already. -/
def insL (lt : α → α → Bool) (x : α) : Bool → List α → List α
  | true, l => l
  | false, [] => [x]
  | false, y :: l => if lt x y = true then x :: y :: l else y :: insL lt x false l

/-- How many names are smaller. -/
def below (lt : α → α → Bool) (l : List α) (s : α) : Nat := l.countP (lt · s)

variable [DecidableEq α]

/-- Does it stand there? -/
def isIn (x : α) (l : List α) : Bool := decide (x ∈ l)
def ins (lt : α → α → Bool) (x : α) (l : List α) : List α := insL lt x (isIn x l) l
end order

section bytes

/-- A space. -/
def sp (c : UInt8) : Bool := c == 32 || c == 9 || c == 10 || c == 12 || c == 13
/-- A small letter. -/
def low (c : UInt8) : UInt8 := if 65 ≤ c ∧ c ≤ 90 then c + 32 else c
end bytes
end Go.Proofs.Ytmlchbohijolaaa.Fm

namespace Go.Proofs.Ytmlchbohijolaaa.Fo
set_option linter.unusedSimpArgs false
set_option linter.unusedVariables false
open Go.RowKit Ba Fm
/-- Less, byte by byte. -/
def lt (a b : ByteArray) : Bool := Op.bytesLess a.toList b.toList

theorem below_dN {N : Nat} {a w : World} (h : Below N a w) (n : Nat) : Below N a (w.drewN n) := ⟨h.os, h.tape, h.output, h.size, h.block⟩

/-- v reads as l, below block N. -/
def Sv (w : World) (N : Nat) (v : Value) (l : List ByteArray) : Prop := ∃ A c, v = .slice A l.length c ∧ l.length ≤ c ∧ (A = none → c = 0) ∧ Rd w N A l
theorem Sv.below {w w' : World} {N M : Nat} {v : Value} {l : List ByteArray} (h : Sv w N v l) (hb : Below M w w') (hN : N ≤ M) : Sv w' N v l := by
  obtain ⟨A, c, h1, h2, h3, h4⟩ := h
  exact ⟨A, c, h1, h2, h3, h4.below hb hN⟩
theorem Sv.more {w : World} {N M : Nat} {v : Value} {l : List ByteArray} (h : Sv w N v l) (hN : N ≤ M) : Sv w M v l := by
  obtain ⟨A, c, h1, h2, h3, h4⟩ := h
  exact ⟨A, c, h1, h2, h3, h4.more hN⟩

theorem Sv.rd {w : World} {N n c : Nat} {A : Option Addr} {l : List ByteArray} (h : Sv w N (.slice A n c) l) : Rd w N A l := by
  obtain ⟨A', c', e, _, _, hr⟩ := h
  injection e with e
  rw [e]
  exact hr
end Go.Proofs.Ytmlchbohijolaaa.Fo

namespace Go.Proofs.Ytmlchbohijolaaa.Fo
set_option maxRecDepth 100000
set_option linter.unusedSimpArgs false
set_option linter.unusedVariables false
open Go.RowKit Ba Fm
theorem space_any (c : UInt8) (w : World) :
    Calls Try.prog 90 #[.int .u8 c.toNat] w fun e w' => e = .returned (.bool (sp c)) ∧ w = w' := by
  have e9 : ((c.toNat : Int) == 9) = (c == 9) := u8_eq (b := 9)
  have e10 : ((c.toNat : Int) == 10) = (c == 10) := u8_eq (b := 10)
  have e12 : ((c.toNat : Int) == 12) = (c == 12) := u8_eq (b := 12)
  have e13 : ((c.toNat : Int) == 13) = (c == 13) := u8_eq (b := 13)
  have e32 : ((c.toNat : Int) == 32) = (c == 32) := u8_eq (b := 32)
  cases h9 : (c == 9) <;> cases h10 : (c == 10) <;> cases h12 : (c == 12) <;> cases h13 : (c == 13) <;> cases h32 : (c == 32)
  all_goals
    rw [h9] at e9
    rw [h10] at e10
    rw [h12] at e12
    rw [h13] at e13
    rw [h32] at e32
    have H9 := Lib.hid h9; have H10 := Lib.hid h10; have H12 := Lib.hid h12; have H13 := Lib.hid h13; have H32 := Lib.hid h32
    clear h9 h10 h12 h13 h32
    go_enter Try.func90, Try.ntmps90
    go_wp2
    go_ret
    exact ⟨ret_bool (by unfold sp; rw [H9.out, H10.out, H12.out, H13.out, H32.out]; rfl), rfl⟩

end Go.Proofs.Ytmlchbohijolaaa.Fo

namespace Go.Proofs.Ytmlchbohijolaaa.Nm
set_option linter.unusedSimpArgs false
set_option linter.unusedVariables false
open Ba Fm
/-- May a byte stand in an element's name; in an attribute's. -/
def elB (c : UInt8) : Bool := !(sp c || (65 ≤ c && c ≤ 90) || c == 0 || c == 47 || c == 62)
def atB (c : UInt8) : Bool := elB c && !(c == 34 || c == 39 || c == 60 || c == 61)
def small (c : UInt8) : Bool := 97 ≤ c && c ≤ 122
def rightL : List UInt8 → Bool
  | [] => false
  | c :: r => small c && (c :: r).all elB
def attrL : List UInt8 → Bool
  | [] => false
  | c :: r => (c :: r).all atB
def rightB (s : ByteArray) : Bool := rightL (L s)
def attrB (s : ByteArray) : Bool := attrL (L s)

end Go.Proofs.Ytmlchbohijolaaa.Nm

namespace Go.Proofs.Ytmlchbohijolaaa.Na
set_option maxRecDepth 100000
set_option linter.unusedSimpArgs false
set_option linter.unusedVariables false
open Go.RowKit Ba Fm Fo Nm
theorem u8_range {c : UInt8} : (decide ((65 : UInt8) ≤ c) && decide (c ≤ 90)) = (decide ((65 : Int) ≤ c.toNat) && decide ((c.toNat : Int) ≤ 90)) := by
  rw [Bool.eq_iff_iff]
  simp only [Bool.and_eq_true, decide_eq_true_eq, UInt8.le_iff_toNat_le]
  have e65 : (65 : UInt8).toNat = 65 := rfl
  have e90 : (90 : UInt8).toNat = 90 := rfl
  rw [e65, e90]
  omega
theorem u8_small {c : UInt8} : small c = (decide ((97 : Int) ≤ c.toNat) && decide ((c.toNat : Int) ≤ 122)) := by
  unfold small
  rw [Bool.eq_iff_iff]
  simp only [Bool.and_eq_true, decide_eq_true_eq, UInt8.le_iff_toNat_le]
  have e65 : (97 : UInt8).toNat = 97 := rfl
  have e90 : (122 : UInt8).toNat = 122 := rfl
  rw [e65, e90]
  omega

def elBAll (s : ByteArray) : Bool := (L s).all elB
def atBAll (s : ByteArray) : Bool := (L s).all atB
theorem all_snoc (p : UInt8 → Bool) (s : ByteArray) (k : Nat) (h : k < s.size) : ((L s).take (k + 1)).all p = (((L s).take k).all p && p s[k]) := by
  rw [take_snoc s k h, List.all_append]; simp
theorem all_no (p : UInt8 → Bool) (s : ByteArray) (k : Nat) (h : k < s.size) (hb : p s[k] = false) : (L s).all p = false := by
  rw [List.all_eq_false]
  exact ⟨s[k], List.getElem_mem (by rw [size_L]; exact h), by simp [hb]⟩

set_option maxHeartbeats 1000000 in
theorem inElement_any (c : UInt8) (w : World) :
    Calls Try.prog 85 #[.int .u8 c.toNat] w fun e w' => e = .returned (.bool (elB c)) ∧ w = w' := by
  have e0 : ((c.toNat : Int) == 0) = (c == 0) := u8_eq (b := 0)
  have e47 : ((c.toNat : Int) == 47) = (c == 47) := u8_eq (b := 47)
  have e62 : ((c.toNat : Int) == 62) = (c == 62) := u8_eq (b := 62)
  have hr := u8_range (c := c)
  have he : elB c = !(sp c || (decide ((65 : UInt8) ≤ c) && decide (c ≤ 90)) || c == 0 || c == 47 || c == 62) := rfl
  rw [hr] at he
  obtain ⟨q, hq⟩ : ∃ q, elB c = q := ⟨_, rfl⟩
  rw [hq] at he ⊢
  clear hr hq
  cases h0 : (c == 0) <;> cases h47 : (c == 47) <;> cases h62 : (c == 62)
  all_goals
    rw [h0] at e0
    rw [h47] at e47
    rw [h62] at e62
    rw [h0, h47, h62] at he
    clear h0 h47 h62
  case false.false.false =>
    cases hs : sp c <;> by_cases h1 : (65 : Int) ≤ c.toNat <;> by_cases h2 : (c.toNat : Int) ≤ 90
    all_goals
      have HE := Lib.hid he; have HS := Lib.hid hs
      clear he hs
      first
      | omega
      | (go_enter Try.func85, Try.ntmps85
         go_wp2_with (go_at_call 90; refine (space_any c _).mono ?_; rw [HS.out]; rintro e w' ⟨rfl, rfl⟩)
         go_ret
         exact ⟨ret_bool (by rw [HE.out, HS.out]; simp [h1, h2]), rfl⟩)
  all_goals
    have HE := Lib.hid he
    clear he
    go_enter Try.func85, Try.ntmps85
    go_wp2
    go_ret
    exact ⟨ret_bool (by rw [HE.out]; simp), rfl⟩

set_option maxHeartbeats 1000000 in
theorem inAttr_any (c : UInt8) (w : World) :
    Calls Try.prog 72 #[.int .u8 c.toNat] w fun e w' => e = .returned (.bool (atB c)) ∧ w = w' := by
  have e34 : ((c.toNat : Int) == 34) = (c == 34) := u8_eq (b := 34)
  have e39 : ((c.toNat : Int) == 39) = (c == 39) := u8_eq (b := 39)
  have e60 : ((c.toNat : Int) == 60) = (c == 60) := u8_eq (b := 60)
  have e61 : ((c.toNat : Int) == 61) = (c == 61) := u8_eq (b := 61)
  have he : atB c = (elB c && !(c == 34 || c == 39 || c == 60 || c == 61)) := rfl
  obtain ⟨q, hq⟩ : ∃ q, atB c = q := ⟨_, rfl⟩
  rw [hq] at he ⊢
  clear hq
  cases h34 : (c == 34) <;> cases h39 : (c == 39) <;> cases h60 : (c == 60) <;> cases h61 : (c == 61)
  all_goals
    rw [h34] at e34
    rw [h39] at e39
    rw [h60] at e60
    rw [h61] at e61
    rw [h34, h39, h60, h61] at he
    clear h34 h39 h60 h61
    have HE := Lib.hid he
    clear he
    go_enter Try.func72, Try.ntmps72
    go_wp2_with (go_at_call 85; refine (inElement_any c _).mono ?_; rintro e w' ⟨rfl, rfl⟩)
    go_ret
    exact ⟨ret_bool (by rw [HE.out]; simp), rfl⟩

set_option maxHeartbeats 1000000 in
theorem every_el (s : ByteArray) (w : World) (hs : s.size ≤ 140737488355328) :
    Calls Try.prog 71 #[.string s, .func (.func 85) #[] #[]] w fun e w' => e = .returned (.bool (elBAll s)) ∧ w = w' := by
  go_enter Try.func71, Try.ntmps71
  go_wp2
  go_loop [8] (fun i => ∃ k : Nat, i = .int .i64 k ∧ k ≤ s.size ∧ ((L s).take k).all elB = true) (fun i => s.size - (intOf i).toNat)
  case atStart => exact ⟨0, rfl, Nat.zero_le _, by simp⟩
  case round =>
    obtain ⟨k, rfl, hks, hn⟩ := hrel
    by_cases hp : k < s.size
    · have hsn := all_snoc elB s k hp
      rw [hn] at hsn
      cases hb : elB s[k] with
      | true =>
        rw [hb] at hsn
        have HB := Lib.hid hb; have HS := Lib.hid hsn; clear hb hsn hn
        go_wp2_with (go_at_call 85; refine (inElement_any s[k] _).mono ?_; rw [HB.out]; rintro e w' ⟨rfl, rfl⟩)
        go_round
        case rel => exact ⟨k + 1, by go_num, by omega, HS.out⟩
        case measure => simp [intOf]; omega
      | false =>
        have hno : elBAll s = false := all_no elB s k hp hb
        have HB := Lib.hid hb; have HN := Lib.hid hno; clear hb hsn hn hno
        go_wp2_with (go_at_call 85; refine (inElement_any s[k] _).mono ?_; rw [HB.out]; rintro e w' ⟨rfl, rfl⟩)
        go_ret
        exact ⟨ret_bool HN.out.symm, rfl⟩
    · rw [List.take_of_length_le (by rw [size_L]; omega)] at hn
      have hn : elBAll s = true := hn
      have HN := Lib.hid hn; clear hn
      go_wp2
      go_ret
      exact ⟨ret_bool HN.out.symm, rfl⟩
set_option maxHeartbeats 1000000 in
theorem every_at (s : ByteArray) (w : World) (hs : s.size ≤ 140737488355328) :
    Calls Try.prog 71 #[.string s, .func (.func 72) #[] #[]] w fun e w' => e = .returned (.bool (atBAll s)) ∧ w = w' := by
  go_enter Try.func71, Try.ntmps71
  go_wp2
  go_loop [8] (fun i => ∃ k : Nat, i = .int .i64 k ∧ k ≤ s.size ∧ ((L s).take k).all atB = true) (fun i => s.size - (intOf i).toNat)
  case atStart => exact ⟨0, rfl, Nat.zero_le _, by simp⟩
  case round =>
    obtain ⟨k, rfl, hks, hn⟩ := hrel
    by_cases hp : k < s.size
    · have hsn := all_snoc atB s k hp
      rw [hn] at hsn
      cases hb : atB s[k] with
      | true =>
        rw [hb] at hsn
        have HB := Lib.hid hb; have HS := Lib.hid hsn; clear hb hsn hn
        go_wp2_with (go_at_call 72; refine (inAttr_any s[k] _).mono ?_; rw [HB.out]; rintro e w' ⟨rfl, rfl⟩)
        go_round
        case rel => exact ⟨k + 1, by go_num, by omega, HS.out⟩
        case measure => simp [intOf]; omega
      | false =>
        have hno : atBAll s = false := all_no atB s k hp hb
        have HB := Lib.hid hb; have HN := Lib.hid hno; clear hb hsn hn hno
        go_wp2_with (go_at_call 72; refine (inAttr_any s[k] _).mono ?_; rw [HB.out]; rintro e w' ⟨rfl, rfl⟩)
        go_ret
        exact ⟨ret_bool HN.out.symm, rfl⟩
    · rw [List.take_of_length_le (by rw [size_L]; omega)] at hn
      have hn : atBAll s = true := hn
      have HN := Lib.hid hn; clear hn
      go_wp2
      go_ret
      exact ⟨ret_bool HN.out.symm, rfl⟩

theorem nil_size {s : ByteArray} (h : s.toList = []) : s.size = 0 := by
  rw [toList_L] at h
  rw [← size_L, h]; rfl
theorem not_nil {s : ByteArray} (h : ¬ s.size = 0) : ¬ s.toList = [] := fun e => h (nil_size e)
theorem nil_of {s : ByteArray} (h : s.size = 0) : s.toList = [] := by
  rw [toList_L]
  exact List.eq_nil_of_length_eq_zero (by rw [size_L]; exact h)
theorem attrB_nil {s : ByteArray} (h : s.size = 0) : attrB s = false := by
  unfold attrB
  rw [← toList_L, nil_of h]; rfl
theorem rightB_nil {s : ByteArray} (h : s.size = 0) : rightB s = false := by
  unfold rightB
  rw [← toList_L, nil_of h]; rfl
theorem attrB_cons {s : ByteArray} (h : ¬ s.size = 0) : attrB s = atBAll s := by
  unfold attrB atBAll
  have := drop_cons s 0 (by omega)
  rw [List.drop_zero] at this
  rw [this]; rfl
theorem rightB_cons {s : ByteArray} (h : 0 < s.size) : rightB s = (small s[0] && elBAll s) := by
  unfold rightB elBAll
  have := drop_cons s 0 h
  rw [List.drop_zero] at this
  rw [this]; rfl

set_option maxHeartbeats 1000000 in
theorem attr_any (s : ByteArray) (w : World) (hs : s.size ≤ 140737488355328) :
    Calls Try.prog 45 #[.string s] w fun e w' => e = .returned (.bool (attrB s)) ∧ w = w' := by
  by_cases h0 : s.size = 0
  · rw [attrB_nil h0]
    have hn := nil_of h0
    clear h0
    go_enter Try.func45, Try.ntmps45
    go_wp2
    go_ret
    exact ⟨rfl, rfl⟩
  · rw [attrB_cons h0]
    have hn := not_nil h0
    clear h0
    go_enter Try.func45, Try.ntmps45
    go_wp2_with fail
    refine (every_at s w hs).mono ?_
    rintro e w' ⟨rfl, rfl⟩
    go_wp2
    go_ret
    exact ⟨ret_bool (by simp [hn]), rfl⟩
set_option maxHeartbeats 1000000 in
theorem right_any (s : ByteArray) (w : World) (hs : s.size ≤ 140737488355328) :
    Calls Try.prog 69 #[.string s] w fun e w' => e = .returned (.bool (rightB s)) ∧ w = w' := by
  by_cases h0 : s.size = 0
  · rw [rightB_nil h0]
    have hn := nil_of h0
    clear h0
    go_enter Try.func69, Try.ntmps69
    go_wp2
    go_ret
    exact ⟨rfl, rfl⟩
  · have hp : 0 < s.size := by omega
    have he := rightB_cons hp
    rw [u8_small] at he
    obtain ⟨q, hq⟩ : ∃ q, rightB s = q := ⟨_, rfl⟩
    rw [hq] at he ⊢
    have hn := not_nil h0
    clear h0 hq
    have HE := Lib.hid he
    clear he
    by_cases h1 : (97 : Int) ≤ s[0].toNat <;> by_cases h2 : (s[0].toNat : Int) ≤ 122
    all_goals
      go_enter Try.func69, Try.ntmps69
      go_wp2_with (go_at_call 71; refine (every_el s _ hs).mono ?_; rintro e w' ⟨rfl, rfl⟩)
      go_ret
      refine ⟨ret_bool ?_, rfl⟩
      rw [HE.out]
      by_cases g1 : (97 : Int) ≤ s[0].toNat
      · by_cases g2 : (s[0].toNat : Int) ≤ 122
        · rw [decide_eq_true g1, decide_eq_true g2]
          first | rfl | (simp [hn]; done) | (exfalso; omega)
        · rw [decide_eq_false g2, decide_eq_true g1]
          first | rfl | (exfalso; omega)
      · rw [decide_eq_false g1]
        first | rfl | (exfalso; omega)

end Go.Proofs.Ytmlchbohijolaaa.Na

namespace Go.Proofs.Ytmlchbohijolaaa.Fo
set_option maxRecDepth 100000
set_option linter.unusedSimpArgs false
set_option linter.unusedVariables false
open Go.RowKit Ba Fm
theorem refSpace_any (c : UInt8) (w : World) :
    Calls Try.prog 91 #[.int .u8 c.toNat] w fun e w' => e = .returned (.bool (sp c)) ∧ w = w' := by
  have e9 : ((c.toNat : Int) == 9) = (c == 9) := u8_eq (b := 9)
  have e10 : ((c.toNat : Int) == 10) = (c == 10) := u8_eq (b := 10)
  have e12 : ((c.toNat : Int) == 12) = (c == 12) := u8_eq (b := 12)
  have e13 : ((c.toNat : Int) == 13) = (c == 13) := u8_eq (b := 13)
  have e32 : ((c.toNat : Int) == 32) = (c == 32) := u8_eq (b := 32)
  cases h9 : (c == 9) <;> cases h10 : (c == 10) <;> cases h12 : (c == 12) <;> cases h13 : (c == 13) <;> cases h32 : (c == 32)
  all_goals
    rw [h9] at e9
    rw [h10] at e10
    rw [h12] at e12
    rw [h13] at e13
    rw [h32] at e32
    have H9 := Lib.hid h9; have H10 := Lib.hid h10; have H12 := Lib.hid h12; have H13 := Lib.hid h13; have H32 := Lib.hid h32
    clear h9 h10 h12 h13 h32
    go_enter Try.func91, Try.ntmps91
    go_wp2
    go_ret
    exact ⟨ret_bool (by unfold sp; rw [H9.out, H10.out, H12.out, H13.out, H32.out]; rfl), rfl⟩

end Go.Proofs.Ytmlchbohijolaaa.Fo

namespace Go.Proofs.Ytmlchbohijolaaa.Na
set_option maxRecDepth 100000
set_option linter.unusedSimpArgs false
set_option linter.unusedVariables false
open Go.RowKit Ba Fm Fo Nm
theorem bad_eq (c : UInt8) (at_ : Bool) : (if at_ = true then atB c else elB c) = !(sp c || (decide ((65 : Int) ≤ c.toNat) && decide ((c.toNat : Int) ≤ 90)) || c == 0 || c == 47 || c == 62 || (at_ && (c == 34 || c == 39 || c == 60 || c == 61))) := by
  unfold atB elB
  rw [← u8_range]
  cases at_ <;> cases sp c <;> cases (decide ((65 : UInt8) ≤ c) && decide (c ≤ 90)) <;> cases (c == 0) <;> cases (c == 47) <;> cases (c == 62) <;> cases (c == 34) <;> cases (c == 39) <;> cases (c == 60) <;> cases (c == 61) <;> rfl

/-- One byte that no name has. -/
def badB (c : UInt8) (a : Bool) : Bool := !(if a = true then atB c else elB c)

set_option maxHeartbeats 4000000 in
theorem bad_any (c : UInt8) (a : Bool) (w : World) :
    Calls Try.prog 86 #[.int .u8 c.toNat, .bool a] w fun e w' => e = .returned (.bool (badB c a)) ∧ w = w' := by
  have e0 : ((c.toNat : Int) == 0) = (c == 0) := u8_eq (b := 0)
  have e47 : ((c.toNat : Int) == 47) = (c == 47) := u8_eq (b := 47)
  have e62 : ((c.toNat : Int) == 62) = (c == 62) := u8_eq (b := 62)
  have e34 : ((c.toNat : Int) == 34) = (c == 34) := u8_eq (b := 34)
  have e39 : ((c.toNat : Int) == 39) = (c == 39) := u8_eq (b := 39)
  have e60 : ((c.toNat : Int) == 60) = (c == 60) := u8_eq (b := 60)
  have e61 : ((c.toNat : Int) == 61) = (c == 61) := u8_eq (b := 61)
  have he : badB c a = (sp c || (decide ((65 : Int) ≤ c.toNat) && decide ((c.toNat : Int) ≤ 90)) || c == 0 || c == 47 || c == 62 || (a && (c == 34 || c == 39 || c == 60 || c == 61))) := by unfold badB; rw [bad_eq, Bool.not_not]
  obtain ⟨q, hq⟩ : ∃ q, badB c a = q := ⟨_, rfl⟩
  rw [hq] at he ⊢
  clear hq
  obtain ⟨b0, h0⟩ : ∃ b, (c == 0) = b := ⟨_, rfl⟩
  obtain ⟨b47, h47⟩ : ∃ b, (c == 47) = b := ⟨_, rfl⟩
  obtain ⟨b62, h62⟩ : ∃ b, (c == 62) = b := ⟨_, rfl⟩
  obtain ⟨b34, h34⟩ : ∃ b, (c == 34) = b := ⟨_, rfl⟩
  obtain ⟨b39, h39⟩ : ∃ b, (c == 39) = b := ⟨_, rfl⟩
  obtain ⟨b60, h60⟩ : ∃ b, (c == 60) = b := ⟨_, rfl⟩
  obtain ⟨b61, h61⟩ : ∃ b, (c == 61) = b := ⟨_, rfl⟩
  rw [h0] at e0
  rw [h47] at e47
  rw [h62] at e62
  rw [h34] at e34
  rw [h39] at e39
  rw [h60] at e60
  rw [h61] at e61
  rw [h0, h47, h62, h34, h39, h60, h61] at he
  clear h0 h47 h62 h34 h39 h60 h61
  obtain ⟨g, hg⟩ : ∃ g, sp c = g := ⟨_, rfl⟩
  obtain ⟨r1, hr1⟩ : ∃ r, decide ((65 : Int) ≤ c.toNat) = r := ⟨_, rfl⟩
  obtain ⟨r2, hr2⟩ : ∃ r, decide ((c.toNat : Int) ≤ 90) = r := ⟨_, rfl⟩
  rw [hg, hr1, hr2] at he
  have HG := Lib.hid hg; have HE := Lib.hid he
  clear hg he
  cases g with
  | true =>
    go_enter Try.func86, Try.ntmps86
    go_wp2_with (go_at_call 91; refine (refSpace_any c _).mono ?_; rw [HG.out]; rintro e w' ⟨rfl, rfl⟩)
    go_ret
    exact ⟨ret_bool (by rw [HE.out]; simp), rfl⟩
  | false =>
    go_enter Try.func86, Try.ntmps86
    go_wp2_with (go_at_call 91; refine (refSpace_any c _).mono ?_; rw [HG.out]; rintro e w' ⟨rfl, rfl⟩)
    all_goals
      go_ret
      exact ⟨ret_bool (by rw [HE.out]; simp [*]), rfl⟩

/-- No byte is bad. -/
def noBad (s : ByteArray) (a : Bool) : Bool := (L s).all fun c => !badB c a
def mayB (s : ByteArray) (a : Bool) : Bool := if a = true then attrB s else rightB s
theorem noBad_eq (s : ByteArray) (a : Bool) : noBad s a = if a = true then atBAll s else elBAll s := by
  unfold noBad badB atBAll elBAll
  cases a <;> simp
theorem may_nil {s : ByteArray} (a : Bool) (h : s.size = 0) : mayB s a = false := by
  unfold mayB
  rw [attrB_nil h, rightB_nil h]
  cases a <;> rfl
theorem may_cons {s : ByteArray} (a : Bool) (h : 0 < s.size) : mayB s a = (noBad s a && (a || (decide ((97 : Int) ≤ s[0].toNat) && decide ((s[0].toNat : Int) ≤ 122)))) := by
  rw [noBad_eq, ← u8_small]
  unfold mayB
  rw [attrB_cons (by omega), rightB_cons h]
  cases a
  · simp [Bool.and_comm]
  · simp

set_option maxHeartbeats 2000000 in
theorem may_any (s : ByteArray) (a : Bool) (w : World) (hs : s.size ≤ 140737488355328) :
    Calls Try.prog 73 #[.string s, .bool a] w fun e w' => e = .returned (.bool (mayB s a)) ∧ w = w' := by
  go_enter Try.func73, Try.ntmps73
  go_wp2
  go_loop [5] (fun i => ∃ k : Nat, i = .int .i64 k ∧ k ≤ s.size ∧ ((L s).take k).all (fun c => !badB c a) = true) (fun i => s.size - (intOf i).toNat)
  case atStart => exact ⟨0, rfl, Nat.zero_le _, by simp⟩
  case round =>
    obtain ⟨k, rfl, hks, hn⟩ := hrel
    by_cases hp : k < s.size
    · have hsn := all_snoc (fun c => !badB c a) s k hp
      rw [hn] at hsn
      cases hb : badB s[k] a with
      | false =>
        rw [hb] at hsn
        have HB := Lib.hid hb; have HS := Lib.hid hsn; clear hb hsn hn
        go_wp2_with (go_at_call 86; refine (bad_any s[k] a _).mono ?_; rw [HB.out]; rintro e w' ⟨rfl, rfl⟩)
        go_round
        case rel => exact ⟨k + 1, by go_num, by omega, HS.out⟩
        case measure => simp [intOf]; omega
      | true =>
        have hno : noBad s a = false := all_no (fun c => !badB c a) s k hp (by rw [hb]; rfl)
        have hm : mayB s a = false := by rw [may_cons a (by omega), hno]; rfl
        have HB := Lib.hid hb; have HN := Lib.hid hm; clear hb hsn hn hno hm
        go_wp2_with (go_at_call 86; refine (bad_any s[k] a _).mono ?_; rw [HB.out]; rintro e w' ⟨rfl, rfl⟩)
        go_ret
        exact ⟨ret_bool HN.out.symm, rfl⟩
    · rw [List.take_of_length_le (by rw [size_L]; omega)] at hn
      by_cases h0 : s.size = 0
      · have hm := may_nil a h0
        have HN := Lib.hid hm; clear hn hm
        have hd : decide ((0 : Int) < (s.size : Int)) = false := decide_eq_false (by omega)
        go_wp2
        go_ret
        exact ⟨ret_bool HN.out.symm, rfl⟩
      · have h1 : 0 < s.size := by omega
        have hm := may_cons a h1
        rw [show noBad s a = true from hn, Bool.true_and] at hm
        obtain ⟨r1, hr1⟩ : ∃ r, decide ((97 : Int) ≤ s[0].toNat) = r := ⟨_, rfl⟩
        obtain ⟨r2, hr2⟩ : ∃ r, decide ((s[0].toNat : Int) ≤ 122) = r := ⟨_, rfl⟩
        rw [hr1, hr2] at hm
        have HM := Lib.hid hm
        clear hm hn h0
        go_wp2
        all_goals
          go_ret
          exact ⟨ret_bool (by have hm := HM.out; clear hr1 hr2; simp_all), rfl⟩

end Go.Proofs.Ytmlchbohijolaaa.Na

namespace Go.Proofs.Ytmlchbohijolaaa.Ar
set_option maxRecDepth 100000
set_option linter.unusedSimpArgs false
set_option linter.unusedVariables false
open Go.RowKit Ba
open Ro (At Ro Cw ros Rr Ow Nw Fr Att Ap Sh cells acells app_num below_new infoI info_row len_cells rowV rowO Few Fits)
def ro00 : Ro := ⟨0, 0, ⟨#[]⟩, ⟨#[]⟩, []⟩
def M0 : List Nd := [⟨ro00, -1, []⟩]
theorem nd_M0 (n : Nat) : nd M0 n = if n = 0 then ⟨ro00, -1, []⟩ else nd0 := by
  unfold nd M0
  match n with
  | 0 => rfl
  | n + 1 => rfl
theorem wf_M0 : Wf M0 := by
  have h0 : ∀ n, (nd M0 n).up = -1 := fun n => by rw [nd_M0]; split <;> rfl
  have h1 : ∀ n, (nd M0 n).kids = [] := fun n => by rw [nd_M0]; split <;> rfl
  refine ⟨by decide, h0 0, fun n => by rw [h0]; decide, fun p c => ?_, fun p => by rw [h1]; exact List.nodup_nil, fun n => by rw [nd_M0]; split <;> rfl, ⟨fun _ => 0, fun c p _ h => ?_⟩⟩
  · rw [h1, h0]
    constructor
    · intro h
      cases h
    · rintro ⟨_, h⟩
      omega
  · rw [h0] at h
    omega
theorem rf_M0 : Rf M0 [0] := ⟨rfl, fun c => by
  unfold rkAt
  match c with
  | 0 => exact Int.le_refl _
  | c + 1 => exact Int.le_refl _, fun p => by
  have h1 : (nd M0 p).kids = [] := by rw [nd_M0]; split <;> rfl
  rw [h1]
  exact List.Pairwise.nil⟩
theorem own_full {e : TypeId} {size n base : Nat} (w : World) (cur : Array Value) (xs : List Value) (hb : base ≤ w.heap.size) (hm : n ≤ maxLen) (hs : cur.size = n * size) (hx : xs = cur.toList) :
    (w.alloc (.cells cur e)).ownsRow base e size (.slice (some ⟨w.heap.size, 0, none⟩) n n) n xs := by
  subst hx
  exact ⟨by simp [hs], .inr ⟨w.heap.size, n, cur, rfl, hb, heap_alloc_new w _, Nat.le_refl _, hm, hs, (List.take_of_length_le (by simp [hs]))⟩⟩
set_option maxRecDepth 100000 in
theorem refNew1 (w : World) : Calls Try.prog 11 #[] w fun e w' => ∃ p F, e = .returned (.pointer (some ⟨p, 0, none⟩)) ∧ Doc11 w' w.heap.size F p M0 ∧ Below w.heap.size w w' ∧ ∀ b, F b → w.heap.size ≤ b := by
  have hx0 := own_full (e := 65) (size := 5) (n := 1) (base := w.heap.size) w #[.int .i64 0, .int .i64 0, .string ⟨#[]⟩, .string ⟨#[]⟩, .slice none 0 0] (([⟨ro00, none, 0⟩] : List Cw).flatMap cells) (Nat.le_refl _) (by decide) rfl rfl
  obtain ⟨w1, hw1⟩ : ∃ w1, w.alloc (.cells #[.int .i64 0, .int .i64 0, .string ⟨#[]⟩, .string ⟨#[]⟩, .slice none 0 0] 65) = w1 := ⟨_, rfl⟩
  have hs1 : w1.heap.size = w.heap.size + 1 := by rw [← hw1]; simp
  have hb1 : Below w.heap.size w w1 := hw1 ▸ below_new w _
  rw [hw1] at hx0
  have hu0 := own_full (e := 3) (size := 1) (n := 1) (base := w.heap.size) w1 #[.int .i64 (-1)] (([-1] : List Int).map iv) (by omega) (by decide) rfl rfl
  obtain ⟨w2, hw2⟩ : ∃ w2, w1.alloc (.cells #[.int .i64 (-1)] 3) = w2 := ⟨_, rfl⟩
  have hs2 : w2.heap.size = w.heap.size + 1 + 1 := by rw [← hw2]; simp [hs1]
  have hb2 : Below w1.heap.size w1 w2 := hw2 ▸ below_new w1 _
  rw [hw2, hs1] at hu0
  have hr0 := own_full (e := 3) (size := 1) (n := 1) (base := w.heap.size) w2 #[.int .i64 0] (([0] : List Int).map iv) (by omega) (by decide) rfl rfl
  obtain ⟨w3, hw3⟩ : ∃ w3, w2.alloc (.cells #[.int .i64 0] 3) = w3 := ⟨_, rfl⟩
  have hs3 : w3.heap.size = w.heap.size + 1 + 1 + 1 := by rw [← hw3]; simp [hs2]
  have hb3 : Below w2.heap.size w2 w3 := hw3 ▸ below_new w2 _
  rw [hw3, hs2] at hr0
  obtain ⟨o4, ho4⟩ : ∃ o4 : Obj, o4 = .cells #[.slice (some ⟨w.heap.size, 0, none⟩) 1 1, .slice (some ⟨w.heap.size + 1, 0, none⟩) 1 1, .slice (some ⟨w.heap.size + 1 + 1, 0, none⟩) 1 1] 30 := ⟨_, rfl⟩
  obtain ⟨w4, hw4⟩ : ∃ w4, w3.alloc o4 = w4 := ⟨_, rfl⟩
  have hs4 : w4.heap.size = w.heap.size + 1 + 1 + 1 + 1 := by rw [← hw4]; simp [hs3]
  have hb4 : Below w3.heap.size w3 w4 := hw4 ▸ below_new w3 _
  have hbox : w4.heap[w.heap.size + 1 + 1 + 1]? = some o4 := by rw [← hw4, ← hs3]; exact heap_alloc_new w3 _
  have hB := bt (bt (bt hb1 hb2) hb3) hb4
  have HW := Lib.hid (show (((w.alloc (.cells #[.int .i64 0, .int .i64 0, .string ⟨#[]⟩, .string ⟨#[]⟩, .slice none 0 0] 65)).alloc (.cells #[.int .i64 (-1)] 3)).alloc (.cells #[.int .i64 0] 3)).alloc (.cells #[.slice (some ⟨w.heap.size, 0, none⟩) 1 1, .slice (some ⟨w.heap.size + 1, 0, none⟩) 1 1, .slice (some ⟨w.heap.size + 1 + 1, 0, none⟩) 1 1] 30) = w4 from by rw [hw1, hw2, hw3, ← ho4, hw4])
  have hX : w4.ownsRow w.heap.size 65 5 (.slice (some ⟨w.heap.size, 0, none⟩) 1 1) 1 (([⟨ro00, none, 0⟩] : List Cw).flatMap cells) := owns_block hx0 fun g hg => by
    obtain rfl : w.heap.size = g := Option.some.inj hg
    rw [hb4.block _ (by omega), hb3.block _ (by omega), hb2.block _ (by omega)]
  have hU : Iw w.heap.size w4 (w.heap.size + 1) 1 1 [-1] := owns_block hu0 fun g hg => by
    obtain rfl : w.heap.size + 1 = g := Option.some.inj hg
    rw [hb4.block _ (by omega), hb3.block _ (by omega)]
  have hR : Iw w.heap.size w4 (w.heap.size + 1 + 1) 1 1 [0] := owns_block hr0 fun g hg => by
    obtain rfl : w.heap.size + 1 + 1 = g := Option.some.inj hg
    rw [hb4.block _ (by omega)]
  have hRP : RP w4 w.heap.size (fun b => w.heap.size ≤ b ∧ b < w4.heap.size) (w.heap.size + 1 + 1 + 1) 1 1 1 w.heap.size 1 (w.heap.size + 1) 1 (w.heap.size + 1 + 1) 1 [⟨ro00, none, 0⟩] [-1] [0] := by
    refine ⟨ho4 ▸ hbox, hX, fun x hx => ?_, hU, hR, by omega, by omega, ⟨by omega, by omega⟩, ⟨by omega, by omega⟩, ⟨by omega, by omega⟩, ⟨by omega, by omega⟩, fun b hb => hb.2⟩
    rw [List.mem_singleton] at hx
    subst hx
    exact ⟨⟨World.ownsRow_nil _ _ _ _, fun x hx => by cases hx⟩, fun g hg => by cases hg⟩
  have HB := Lib.hid hB; have HRP := Lib.hid hRP
  clear hX hU hR hRP hB hbox hs4 hb4 hw4 ho4 hr0 hb3 hs3 hw3 hu0 hb2 hs2 hw2 hx0 hb1 hs1 hw1
  go_enter Try.func11, Try.ntmps11
  go_wp2
  go_ret
  rw [HW.out]
  exact ⟨w.heap.size + 1 + 1 + 1, _, rfl, ⟨_, _, _, _, _, _, _, _, RP.doc (M := M0) HRP.out rfl rfl rf_M0⟩, HB.out, fun b hb => hb.1⟩
end Go.Proofs.Ytmlchbohijolaaa.Ar

namespace Go.Proofs.Ytmlchbohijolaaa.Ar
set_option maxRecDepth 100000
set_option linter.unusedSimpArgs false
set_option linter.unusedVariables false
open Go.RowKit Ba
open Ro (At Ro Cw ros Rr Ow Nw Fr Att Ap Sh cells acells app_num below_new infoI info_row len_cells rowV rowO Few Fits)
open Na (mayB)
/-! ### What Make answers. -/
def makeB (k : Int) (n d : ByteArray) : Bool := (k == 0 && mayB n false && d.toList.isEmpty) || ((k == 1 || k == 2) && n.toList.isEmpty)
def makeR (k : Int) (n d : ByteArray) : Ro := ⟨0, k, n, d, []⟩
def makeE (M : List Nd) (k : Int) (n d : ByteArray) : Int × Int := if makeB k n d then (if 4096 ≤ M.length then (0, 2) else ((M.length : Int), 0)) else (0, 1)
def makeM (M : List Nd) (k : Int) (n d : ByteArray) : List Nd := if makeB k n d && decide (M.length < 4096) then addM M (makeR k n d) else M
theorem att_none (w : World) (r : Ro) (h : r.attrs = []) : Att w w.heap.size ⟨r, none, 0⟩ := by
  refine ⟨by rw [h]; exact Nat.le_refl _, fun _ => rfl, Nat.zero_le _, fun h0 => ?_, ?_⟩
  · rw [h] at h0
    exact absurd h0 (by simp)
  · show Sh r.attrs
    rw [h]
    intro x hx
    cases hx
set_option maxRecDepth 100000 in
set_option maxHeartbeats 4000000 in
theorem refMake1 {p N : Nat} {F : Nat → Prop} {M : List Nd} (k : Int) (n d : ByteArray) (w : World) (D : Doc11 w N F p M) (W : Wf M) (hm : M.length ≤ 5000) (hs : n.size ≤ 140737488355328) (hk : -9223372036854775808 ≤ k ∧ k ≤ 9223372036854775807) :
    Calls Try.prog 47 #[.pointer (some ⟨p, 0, none⟩), .int .i64 k, .string n, .string d] w fun e w' => e = .returned (.tuple #[.int .i64 (makeE M k n d).1, .int .i64 (makeE M k n d).2]) ∧ ∃ F', Doc11 w' N F' p (makeM M k n d) ∧ Next w w' F F' := by
  have D0 := Lib.hid D
  obtain ⟨rk, gX, cX, gU, cU, gR, cR, lX, D⟩ := D
  have hx := D.rd.x
  clear D
  have hmay := Na.may_any n false w hs
  obtain ⟨q, hq⟩ : ∃ q, mayB n false = q := ⟨_, rfl⟩
  rw [hq] at hmay
  have HM := Lib.hid hmay; have HQ := Lib.hid hq
  clear hmay
  by_cases k0 : k = 0
  · subst k0
    cases q with
    | false =>
      have e1 : makeB 0 n d = false := by unfold makeB; rw [hq]; rfl
      have e2 : makeE M 0 n d = (0, 1) := by unfold makeE; rw [e1]; rfl
      have e3 : makeM M 0 n d = M := by unfold makeM; rw [e1]; rfl
      rw [e2, e3]
      clear e1 e2 e3 hq
      go_enter Try.func47, Try.ntmps47
      go_wp2_with fail
      refine HM.out.mono ?_
      rintro e w1 ⟨rfl, rfl⟩
      go_wp2
      go_ret2
      exact ⟨rfl, F, D0.out, Next.refl w F⟩
    | true =>
      cases hd : d.toList.isEmpty with
      | true =>
        have e1 : makeB 0 n d = true := by unfold makeB; rw [hq, hd]; rfl
        by_cases hb : 4096 ≤ M.length
        · have e2 : makeE M 0 n d = (0, 2) := by unfold makeE; rw [e1, if_pos rfl, if_pos hb]
          have e3 : makeM M 0 n d = M := by unfold makeM; rw [e1, decide_eq_false (by omega)]; rfl
          rw [e2, e3]
          clear e1 e2 e3 hq
          go_enter Try.func47, Try.ntmps47
          go_wp2_with fail
          refine HM.out.mono ?_
          rintro e w1 ⟨rfl, rfl⟩
          go_wp2
          go_ret2
          exact ⟨rfl, F, D0.out, Next.refl w F⟩
        · have e2 : makeE M 0 n d = ((M.length : Int), 0) := by unfold makeE; rw [e1, if_pos rfl, if_neg hb]
          have e3 : makeM M 0 n d = addM M (makeR 0 n d) := by unfold makeM; rw [e1, decide_eq_true (by omega)]; rfl
          rw [e2, e3]
          have HA := Lib.hid (refAdd1 ⟨makeR 0 n d, none, 0⟩ w D0.out W hm (att_none w _ rfl) (fun x hx => by rw [List.mem_singleton] at hx; subst hx; exact Nat.zero_le _) (fun x hx => by rw [List.mem_singleton] at hx; subst hx; exact ⟨by show (-9223372036854775808 : Int) ≤ 0 + 0; decide, by show (0 : Int) + 0 ≤ 9223372036854775807; decide⟩))
          clear e1 e2 e3 hq
          go_enter Try.func47, Try.ntmps47
          go_wp2_with fail
          refine HM.out.mono ?_
          rintro e w1 ⟨rfl, rfl⟩
          go_wp2_with fail
          refine HA.out.mono ?_
          rintro e w2 ⟨rfl, F2, D2, N2⟩
          have HD2 := Lib.hid D2; have HN2 := Lib.hid N2
          clear D2 N2
          go_wp2
          go_ret2
          exact ⟨rfl, F2, HD2.out, HN2.out⟩
      | false =>
        have e1 : makeB 0 n d = false := by unfold makeB; rw [hq, hd]; rfl
        have e2 : makeE M 0 n d = (0, 1) := by unfold makeE; rw [e1]; rfl
        have e3 : makeM M 0 n d = M := by unfold makeM; rw [e1]; rfl
        rw [e2, e3]
        clear e1 e2 e3 hq
        go_enter Try.func47, Try.ntmps47
        go_wp2_with fail
        refine HM.out.mono ?_
        rintro e w1 ⟨rfl, rfl⟩
        go_wp2
        go_ret2
        exact ⟨rfl, F, D0.out, Next.refl w F⟩
  · by_cases k12 : k = 1 ∨ k = 2
    · cases hn : n.toList.isEmpty with
      | true =>
        rcases k12 with rfl | rfl
        · have e1 : makeB 1 n d = true := by unfold makeB; rw [hn]; rfl
          by_cases hb : 4096 ≤ M.length
          · have e2 : makeE M 1 n d = (0, 2) := by unfold makeE; rw [e1, if_pos rfl, if_pos hb]
            have e3 : makeM M 1 n d = M := by unfold makeM; rw [e1, decide_eq_false (by omega)]; rfl
            rw [e2, e3]
            clear e1 e2 e3 hq
            go_enter Try.func47, Try.ntmps47
            go_wp2
            go_ret2
            exact ⟨rfl, F, D0.out, Next.refl w F⟩
          · have e2 : makeE M 1 n d = ((M.length : Int), 0) := by unfold makeE; rw [e1, if_pos rfl, if_neg hb]
            have e3 : makeM M 1 n d = addM M (makeR 1 n d) := by unfold makeM; rw [e1, decide_eq_true (by omega)]; rfl
            rw [e2, e3]
            have HA := Lib.hid (refAdd1 ⟨makeR 1 n d, none, 0⟩ w D0.out W hm (att_none w _ rfl) (fun x hx => by rw [List.mem_singleton] at hx; subst hx; exact Nat.zero_le _) (fun x hx => by rw [List.mem_singleton] at hx; subst hx; exact ⟨by show (-9223372036854775808 : Int) ≤ 0 + 0; decide, by show (0 : Int) + 0 ≤ 9223372036854775807; decide⟩))
            clear e1 e2 e3 hq
            go_enter Try.func47, Try.ntmps47
            go_wp2_with fail
            refine HA.out.mono ?_
            rintro e w2 ⟨rfl, F2, D2, N2⟩
            have HD2 := Lib.hid D2; have HN2 := Lib.hid N2
            clear D2 N2
            go_wp2
            go_ret2
            exact ⟨rfl, F2, HD2.out, HN2.out⟩
        · have e1 : makeB 2 n d = true := by unfold makeB; rw [hn]; rfl
          by_cases hb : 4096 ≤ M.length
          · have e2 : makeE M 2 n d = (0, 2) := by unfold makeE; rw [e1, if_pos rfl, if_pos hb]
            have e3 : makeM M 2 n d = M := by unfold makeM; rw [e1, decide_eq_false (by omega)]; rfl
            rw [e2, e3]
            clear e1 e2 e3 hq
            go_enter Try.func47, Try.ntmps47
            go_wp2
            go_ret2
            exact ⟨rfl, F, D0.out, Next.refl w F⟩
          · have e2 : makeE M 2 n d = ((M.length : Int), 0) := by unfold makeE; rw [e1, if_pos rfl, if_neg hb]
            have e3 : makeM M 2 n d = addM M (makeR 2 n d) := by unfold makeM; rw [e1, decide_eq_true (by omega)]; rfl
            rw [e2, e3]
            have HA := Lib.hid (refAdd1 ⟨makeR 2 n d, none, 0⟩ w D0.out W hm (att_none w _ rfl) (fun x hx => by rw [List.mem_singleton] at hx; subst hx; exact Nat.zero_le _) (fun x hx => by rw [List.mem_singleton] at hx; subst hx; exact ⟨by show (-9223372036854775808 : Int) ≤ 0 + 0; decide, by show (0 : Int) + 0 ≤ 9223372036854775807; decide⟩))
            clear e1 e2 e3 hq
            go_enter Try.func47, Try.ntmps47
            go_wp2_with fail
            refine HA.out.mono ?_
            rintro e w2 ⟨rfl, F2, D2, N2⟩
            have HD2 := Lib.hid D2; have HN2 := Lib.hid N2
            clear D2 N2
            go_wp2
            go_ret2
            exact ⟨rfl, F2, HD2.out, HN2.out⟩
      | false =>
        rcases k12 with rfl | rfl
        · have e1 : makeB 1 n d = false := by unfold makeB; rw [hn]; rfl
          have e2 : makeE M 1 n d = (0, 1) := by unfold makeE; rw [e1]; rfl
          have e3 : makeM M 1 n d = M := by unfold makeM; rw [e1]; rfl
          rw [e2, e3]
          clear e1 e2 e3 hq
          go_enter Try.func47, Try.ntmps47
          go_wp2
          go_ret2
          exact ⟨rfl, F, D0.out, Next.refl w F⟩
        · have e1 : makeB 2 n d = false := by unfold makeB; rw [hn]; rfl
          have e2 : makeE M 2 n d = (0, 1) := by unfold makeE; rw [e1]; rfl
          have e3 : makeM M 2 n d = M := by unfold makeM; rw [e1]; rfl
          rw [e2, e3]
          clear e1 e2 e3 hq
          go_enter Try.func47, Try.ntmps47
          go_wp2
          go_ret2
          exact ⟨rfl, F, D0.out, Next.refl w F⟩
    · have k1 : ¬ k = 1 := fun h => k12 (.inl h)
      have k2 : ¬ k = 2 := fun h => k12 (.inr h)
      have e1 : makeB k n d = false := by
        unfold makeB
        have a0 : (k == 0) = false := by simpa using k0
        have a1 : (k == 1) = false := by simpa using k1
        have a2 : (k == 2) = false := by simpa using k2
        rw [a0, a1, a2]
        rfl
      have e2 : makeE M k n d = (0, 1) := by unfold makeE; rw [e1]; rfl
      have e3 : makeM M k n d = M := by unfold makeM; rw [e1]; rfl
      rw [e2, e3]
      clear e1 e2 e3 hq
      go_enter Try.func47, Try.ntmps47
      go_wp2
      go_ret2
      exact ⟨rfl, F, D0.out, Next.refl w F⟩
end Go.Proofs.Ytmlchbohijolaaa.Ar
