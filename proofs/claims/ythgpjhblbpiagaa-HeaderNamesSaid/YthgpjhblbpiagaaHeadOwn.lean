/-
  Slices of slices of strings: of the call's own, no two in one block (So); as they read (Sg). A set of names in a map that a closure holds (Fi).
-/
import Derived.Test.YthgpjhblbpiagaaHeadMath
import Derived.Maps.OwnSet
import Derived.Deep.AppendLies
namespace Go.Proofs.Ythgpjhblbpiagaa.He
set_option maxRecDepth 100000
set_option linter.unusedSimpArgs false
set_option linter.unusedVariables false
open Go.RowKit Ba Fm Fo Go.Maps

theorem grown_two {w0 w w1 : World} {row : Option Nat} (hg : w0.grownBy w none) (h2 : w.grownBy w1 row) : w0.grownBy w1 row :=
  ⟨h2.os.trans hg.os, h2.tape.trans hg.tape, h2.output.trans hg.output, Nat.le_trans hg.size h2.size, fun i hi hne => (h2.block i (Nat.lt_of_lt_of_le hi hg.size) hne).trans (hg.block i hi (by simp))⟩
theorem grown_more {w0 w w1 : World} {row : Option Nat} (hg : w0.grownBy w row) (h2 : w.grownBy w1 none) : w0.grownBy w1 row :=
  ⟨h2.os.trans hg.os, h2.tape.trans hg.tape, h2.output.trans hg.output, Nat.le_trans hg.size h2.size, fun i hi hne => (h2.block i (Nat.lt_of_lt_of_le hi hg.size) (by simp)).trans (hg.block i hi hne)⟩
theorem grown_below {w0 w : World} (h : Below w0.heap.size w0 w) : w0.grownBy w none := ⟨h.os, h.tape, h.output, h.size, fun i hi _ => h.block i hi⟩
theorem below_grown {w0 w : World} (h : w0.grownBy w none) : Below w0.heap.size w0 w := ⟨h.os, h.tape, h.output, h.size, fun i hi => h.block i hi (by simp)⟩

/-- What is the call's own stays where one block is written that is not its. -/
theorem sown_grown {N : Nat} {w w' : World} {v : Value} {l : List ByteArray} {row : Option Nat} (h : Sown N w v l) (hg : w.grownBy w' row) (hne : v.ownBlock = none ∨ v.ownBlock ≠ row) : Sown N w' v l := World.ownsRow.kept h hg hne
theorem sown_other {N m : Nat} {w : World} {v : Value} {l : List ByteArray} (h : Sown N w v l) (hm : ∀ cs fr, w.heap[m]? ≠ some (.cells cs 9 fr)) : v.ownBlock = none ∨ v.ownBlock ≠ some m := by
  rcases h.2 with ⟨hv, _⟩ | ⟨g, cap, cur, hv, hg, hh, _⟩
  · left; rw [hv]; rfl
  · right
    subst hv
    intro e
    have e : g = m := by simpa [Value.ownBlock] using e
    subst e
    exact hm _ _ hh
theorem sown_lt {N : Nat} {w : World} {v : Value} {l : List ByteArray} (h : Sown N w v l) {b : Nat} (hb : v.ownBlock = some b) : b < w.heap.size ∧ N ≤ b := (World.ownsRow.lt h b hb).symm

/-- Slices of strings in a slice, all of the call's own, no two in one block, the inner ones below M. -/
structure Sl (N M : Nat) (w : World) (gs : List Value) (ls : List (List ByteArray)) : Prop where
  size : gs.length = ls.length
  own : ∀ (i : Nat) v p, gs[i]? = some v → ls[i]? = some p → Sown N w v p
  top : ∀ (i : Nat) v b, gs[i]? = some v → v.ownBlock = some b → b < M
  apart : ∀ (i j : Nat) v u b, gs[i]? = some v → gs[j]? = some u → i ≠ j → v.ownBlock = some b → u.ownBlock ≠ some b
def So (N M : Nat) (w : World) (v : Value) (ls : List (List ByteArray)) : Prop := (∀ b, v.ownBlock = some b → b < M) ∧ ∃ gs : List Value, w.ownsRow N 24 1 v ls.length gs ∧ Sl N M w gs ls

theorem info_sl : (Try.prog.info? 24).map (fun i => (i.zero, i.size, i.bytes)) = some (some (.slice none 0 0), 1, 24) := by kernel_rfl

theorem Sl.nil (N M : Nat) (w : World) : Sl N M w [] [] := ⟨rfl, fun i v p h => by simp at h, fun i v b h => by simp at h, fun i j v u b h => by simp at h⟩
theorem So.nil (N M : Nat) (w : World) : So N M w (.slice none 0 0) [] := ⟨fun b h => by simp [Value.ownBlock] at h, [], World.ownsRow_nil w N _ 1, Sl.nil _ _ _⟩
theorem So.made (M : Nat) (w : World) (hM : w.heap.size < M) : So w.heap.size M (w.alloc (.cells #[] 24)) (.slice (some ⟨w.heap.size, 0, none⟩) 0 0) [] := ⟨fun b h => (show w.heap.size = b by simpa [Value.ownBlock] using h) ▸ hM, [], World.ownsRow_made w #[] 0 (Nat.le_refl _) (Nat.zero_le _) rfl, Sl.nil _ _ _⟩
theorem So.more {N M M' : Nat} {w : World} {v : Value} {ls : List (List ByteArray)} (h : So N M w v ls) (hM : M ≤ M') : So N M' w v ls := by
  obtain ⟨h0, gs, h1, h2⟩ := h
  exact ⟨fun b hb => Nat.lt_of_lt_of_le (h0 b hb) hM, gs, h1, h2.size, h2.own, fun i v b h3 h4 => Nat.lt_of_lt_of_le (h2.top i v b h3 h4) hM, h2.apart⟩
/-- It stays where a block is written that holds neither slices nor strings. -/
theorem So.grown {N M m : Nat} {w w' : World} {v : Value} {ls : List (List ByteArray)} (h : So N M w v ls) (hg : w.grownBy w' (some m)) (h1 : ∀ cs fr, w.heap[m]? ≠ some (.cells cs 9 fr)) (h2 : ∀ cs fr, w.heap[m]? ≠ some (.cells cs 24 fr)) : So N M w' v ls := by
  obtain ⟨h0, gs, h3, h4⟩ := h
  refine ⟨h0, gs, h3.kept hg ?_, h4.size, fun i v p hv hp => sown_grown (h4.own i v p hv hp) hg (sown_other (h4.own i v p hv hp) h1), h4.top, h4.apart⟩
  rcases h3.2 with ⟨hv, _⟩ | ⟨g, cap, cur, hv, hgl, hh, _⟩
  · left; rw [hv]; rfl
  · right
    subst hv
    intro e
    have e : g = m := by simpa [Value.ownBlock] using e
    subst e
    exact h2 _ _ hh
theorem So.grown0 {N M : Nat} {w w' : World} {v : Value} {ls : List (List ByteArray)} (h : So N M w v ls) (hg : w.grownBy w' none) : So N M w' v ls := by
  obtain ⟨h0, gs, h3, h4⟩ := h
  have hn : ∀ u : Value, u.ownBlock = none ∨ u.ownBlock ≠ none := fun u => by cases u.ownBlock <;> simp
  exact ⟨h0, gs, h3.kept hg (hn _), h4.size, fun i v p hv hp => sown_grown (h4.own i v p hv hp) hg (hn _), h4.top, h4.apart⟩
theorem So.below {N M K : Nat} {w w' : World} {v : Value} {ls : List (List ByteArray)} (h : So N M w v ls) (hb : Below K w w') (hK : w.heap.size ≤ K) : So N M w' v ls := h.grown0 ⟨hb.os, hb.tape, hb.output, hb.size, fun i hi _ => hb.block i (by omega)⟩
theorem So.mono {N N' M : Nat} {w : World} {v : Value} {ls : List (List ByteArray)} (h : So N M w v ls) (hN : N' ≤ N) : So N' M w v ls := by
  obtain ⟨h0, gs, h3, h4⟩ := h
  exact ⟨h0, gs, h3.mono hN, h4.size, fun i v p hv hp => (h4.own i v p hv hp).mono hN, h4.top, h4.apart⟩
theorem sown_low {N K : Nat} {w w' : World} {v : Value} {l : List ByteArray} (h : Sown N w v l) (hv : ∀ b, v.ownBlock = some b → b < K) (hb : Below K w w') : Sown N w' v l := by
  refine ⟨h.1, ?_⟩
  rcases h.2 with hn | ⟨g, cap, cur, e, hg, hh, rest⟩
  · exact .inl hn
  · refine .inr ⟨g, cap, cur, e, hg, ?_, rest⟩
    rw [hb.block g (hv g (by rw [e]; rfl))]
    exact hh
/-- It stays where blocks from M on are written. -/
theorem So.low {N M K : Nat} {w w' : World} {v : Value} {ls : List (List ByteArray)} (h : So N M w v ls) (hb : Below K w w') (hK : M ≤ K) : So N M w' v ls := by
  obtain ⟨h0, gs, h3, h4⟩ := h
  refine ⟨h0, gs, ⟨h3.1, ?_⟩, h4.size, fun i v p hv hp => sown_low (h4.own i v p hv hp) (fun b e => Nat.lt_of_lt_of_le (h4.top i v b hv e) hK) hb, h4.top, h4.apart⟩
  rcases h3.2 with hn | ⟨g, cap, cur, e, hg, hh, rest⟩
  · exact .inl hn
  · refine .inr ⟨g, cap, cur, e, hg, ?_, rest⟩
    rw [hb.block g (Nat.lt_of_lt_of_le (h0 g (by rw [e]; rfl)) hK)]
    exact hh
theorem So.tops {N M : Nat} {w : World} {v : Value} {ls : List (List ByteArray)} (h : So N M w v ls) : So N w.heap.size w v ls := by
  obtain ⟨h0, gs, h1, h2⟩ := h
  refine ⟨fun b hb => (World.ownsRow.lt h1 b hb).2, gs, h1, h2.size, h2.own, fun i v b hv hb => ?_, h2.apart⟩
  have hlt : i < ls.length := by rw [← h2.size]; exact (List.getElem?_eq_some_iff.1 hv).1
  exact (sown_lt (h2.own i v _ hv (List.getElem?_eq_getElem hlt)) hb).1

set_option maxRecDepth 100000 in
/-- append of one slice of the call's own, whose block is from M on. -/
theorem app_group {ops : Array Oper} {rest : List Oper} {o : Oper} {a : Act} {Q : Exit → Act → World → Prop} (w : World) (hgd : o.guard = none) (s x : Operand)
    (ho : o.op = .call { callee := .builtin .append, args := #[s, x], argTypes := #[22, 22] })
    (N M : Nat) (v : Value) (ls : List (List ByteArray)) (z : Value) (d : List ByteArray) (hs : a.eval s = v) (hown : So N M w v ls) (hz : Sown M w z d) (hNM : N ≤ M) (hx : a.eval x = .slice (some ⟨w.heap.size, 0, none⟩) 1 1) (hoc : z.oneCell' = true)
    (hl : (ls.length + 1) * 24 ≤ 140737488355328) (hN : N ≤ w.heap.size)
    (h : ∀ v' w', So N w'.heap.size w' v' (ls ++ [d]) → w.grownBy w' v.ownBlock → wpList Try.prog ops Q rest (a.put o.dst v') w') :
    wpList Try.prog ops Q (o :: rest) a (w.alloc (.cells #[z] 24)) := by
  obtain ⟨i0, hi, hz0, hz1, hz2⟩ := info_parts info_sl
  obtain ⟨hv0, gs, h3, h4⟩ := hown
  have h3' := h3.alloc (.cells #[z] 24)
  have hsz : (w.alloc (.cells #[z] 24)).heap.size = w.heap.size + 1 := by simp
  refine wpList_append_lies _ hgd s x 22 ho N 24 i0 (.slice none 0 0) 1 24 Try.underlying22 hi hz0 hz1 hz2 rfl (by decide) v ls.length gs hs h3' ⟨w.heap.size, 0, none⟩ 1 1 [z] hx rfl (cell_one_new _ _ _) (by intro u hu; simp at hu; subst hu; exact hoc) (by decide) (by unfold maxLen; omega) hl (by omega) _ rfl ?_
  intro g cap w' r1 r2 r3 r4
  have hg0 : w.grownBy w' v.ownBlock := grown_two (World.grownBy_alloc _ _ _) r2
  have hvo : ∀ cs fr, v.ownBlock = some cs → w.heap[cs]? ≠ some (.cells fr 9) := fun b cs hb e => by
    rcases h3.2 with ⟨hv, _⟩ | ⟨g', cap', cur, hv, _, hh, _⟩
    · rw [hv] at hb; cases hb
    · subst hv
      have hb : g' = b := by simpa [Value.ownBlock] using hb
      subst hb
      rw [e] at hh
      injection hh with hh
      injection hh with _ ht
      exact absurd ht (by decide)
  have hin : ∀ {K : Nat} {u : Value} {p : List ByteArray}, Sown K w u p → Sown K w' u p := fun {K u p} hu => sown_grown hu hg0 (by
    rcases hu.2 with ⟨hv, _⟩ | ⟨g', cap', cur, hv, _, hh, _⟩
    · left; rw [hv]; rfl
    · right
      subst hv
      intro e
      exact hvo g' _ e.symm hh)
  refine h _ w' ⟨fun b e => (show g = b by simpa [Value.ownBlock] using e) ▸ r4, gs ++ [z], by rw [List.length_append]; exact r1, by rw [List.length_append, List.length_append, h4.size]; rfl, fun i u p hu hp => ?_, fun i u b hu hb => ?_, fun i j u u2 b hu hu2 hij hb => ?_⟩ hg0
  · by_cases hi2 : i < gs.length
    · rw [List.getElem?_append_left hi2] at hu
      rw [List.getElem?_append_left (by rw [← h4.size]; exact hi2)] at hp
      exact hin (h4.own i u p hu hp)
    · rw [List.getElem?_append_right (by omega)] at hu
      rw [List.getElem?_append_right (by rw [← h4.size]; omega), ← h4.size] at hp
      have hi3 : i - gs.length = 0 := by
        have := (List.getElem?_eq_some_iff.1 hu).1
        simp at this
        omega
      rw [hi3] at hu hp
      simp at hu hp
      subst hu hp
      exact (hin hz).mono hNM
  · by_cases hi2 : i < gs.length
    · rw [List.getElem?_append_left hi2] at hu
      have hlt : i < ls.length := by rw [← h4.size]; exact hi2
      exact (sown_lt (hin (h4.own i u _ hu (List.getElem?_eq_getElem hlt))) hb).1
    · rw [List.getElem?_append_right (by omega)] at hu
      have hi3 : i - gs.length = 0 := by
        have := (List.getElem?_eq_some_iff.1 hu).1
        simp at this
        omega
      rw [hi3] at hu
      simp at hu
      subst hu
      exact (sown_lt (hin hz) hb).1
  · have key : ∀ {i : Nat} {u : Value}, (gs ++ [z])[i]? = some u → (i < gs.length ∧ gs[i]? = some u) ∨ (i = gs.length ∧ u = z) := fun {i u} h => by
      by_cases hi2 : i < gs.length
      · rw [List.getElem?_append_left hi2] at h
        exact .inl ⟨hi2, h⟩
      · rw [List.getElem?_append_right (by omega)] at h
        have hi3 : i - gs.length = 0 := by
          have := (List.getElem?_eq_some_iff.1 h).1
          simp at this
          omega
        rw [hi3] at h
        simp at h
        exact .inr ⟨by omega, h.symm⟩
    rcases key hu with ⟨_, k1⟩ | ⟨e1, rfl⟩ <;> rcases key hu2 with ⟨_, k2⟩ | ⟨e2, rfl⟩
    · exact h4.apart i j u u2 b k1 k2 hij hb
    · intro e
      have := (sown_lt hz e).2
      have := h4.top i u b k1 hb
      omega
    · intro e
      have := (sown_lt hz hb).2
      have := h4.top j u2 b k2 e
      omega
    · omega

/-- v reads as these lists, below block N. -/
def Sg (w : World) (N : Nat) (v : Value) (ls : List (List ByteArray)) : Prop :=
  ∃ A c, v = .slice A ls.length c ∧ ls.length ≤ c ∧ (0 < ls.length → ∃ b off, A = some ⟨b, off, none⟩ ∧ b < N ∧ ∀ j (h : j < ls.length), ∃ x, w.cell? ⟨b, off + j, none⟩ = some x ∧ Sv w N x ls[j])
theorem Sv.step {w w' : World} {N : Nat} {v : Value} {l : List ByteArray} (h : Sv w N v l) (hb : Below N w w') : Sv w' N v l := h.below hb (Nat.le_refl _)
theorem Sg.below {w w' : World} {N M : Nat} {v : Value} {ls : List (List ByteArray)} (h : Sg w N v ls) (hb : Below M w w') (hN : N ≤ M) : Sg w' N v ls := by
  obtain ⟨A, c, h1, h2, h3⟩ := h
  refine ⟨A, c, h1, h2, fun h0 => ?_⟩
  obtain ⟨b, off, e, hbN, hc⟩ := h3 h0
  refine ⟨b, off, e, hbN, fun j hj => ?_⟩
  obtain ⟨x, hx, hs⟩ := hc j hj
  exact ⟨x, (hb.cell (p := ⟨b, off + j, none⟩) (by show b < M; omega)).trans hx, hs.below hb hN⟩
theorem So.form {N M : Nat} {w : World} {v : Value} {ls : List (List ByteArray)} (h : So N M w v ls) : Sg w w.heap.size v ls := by
  obtain ⟨_, gs, h3, h4⟩ := h
  rcases h3.2 with ⟨hv, hl⟩ | ⟨g, cap, cur, hv, hg, hh, hn, hm, hs, ht⟩
  · exact ⟨none, 0, by rw [hl]; exact hv, by omega, fun h0 => by omega⟩
  · subst hv
    refine ⟨some ⟨g, 0, none⟩, cap, rfl, hn, fun _ => ⟨g, 0, rfl, (Array.getElem?_eq_some_iff.1 hh).1, fun j hj => ?_⟩⟩
    have hjl : j < gs.length := by rw [h4.size]; exact hj
    have := World.ownsRow.cells h3 rfl j gs[j] (List.getElem?_eq_getElem hjl)
    rw [WideShapes.add_plain] at this
    exact ⟨gs[j], this, sv_own (h4.own j gs[j] ls[j] (List.getElem?_eq_getElem hjl) (List.getElem?_eq_getElem hj))⟩
/-- The same, below M. -/
theorem So.formM {N M : Nat} {w : World} {v : Value} {ls : List (List ByteArray)} (h : So N M w v ls) : Sg w M v ls := by
  obtain ⟨h0, gs, h3, h4⟩ := h
  rcases h3.2 with ⟨hv, hl⟩ | ⟨g, cap, cur, hv, hg, hh, hn, hm, hs, ht⟩
  · exact ⟨none, 0, by rw [hl]; exact hv, by omega, fun h0 => by omega⟩
  · subst hv
    refine ⟨some ⟨g, 0, none⟩, cap, rfl, hn, fun _ => ⟨g, 0, rfl, h0 g rfl, fun j hj => ?_⟩⟩
    have hjl : j < gs.length := by rw [h4.size]; exact hj
    have := World.ownsRow.cells h3 rfl j gs[j] (List.getElem?_eq_getElem hjl)
    rw [WideShapes.add_plain] at this
    have hso := h4.own j gs[j] ls[j] (List.getElem?_eq_getElem hjl) (List.getElem?_eq_getElem hj)
    have htop := h4.top j gs[j]
    refine ⟨gs[j], this, ?_⟩
    obtain ⟨A, c, e, e2, e3, hr⟩ := sv_own hso
    refine ⟨A, c, e, e2, e3, fun hp => ?_⟩
    obtain ⟨b, off, eA, hb, hc⟩ := hr hp
    refine ⟨b, off, eA, ?_, hc⟩
    rcases hso.2 with ⟨e4, e5⟩ | ⟨g', cap', cur', e4, _⟩
    · rw [e] at e4
      injection e4 with e4 _ _
      rw [eA] at e4
      cases e4
    · rw [e] at e4
      injection e4 with e4 _ _
      rw [eA] at e4
      injection e4 with e4
      injection e4 with e4 _
      subst e4
      exact htop _ (List.getElem?_eq_getElem hjl) (by rw [e, eA]; rename_i e5 _; simp [Value.ownBlock]) 
/-- Its items at a place. -/
theorem Sg.at_ {w : World} {N n c : Nat} {A : Option Addr} {ls : List (List ByteArray)} (h : Sg w N (.slice A n c) ls) {j : Nat} (hj : j < ls.length) : ∃ b off B' c', A = some ⟨b, off, none⟩ ∧ b < N ∧ w.cell? ⟨b, off + j, none⟩ = some (.slice B' ls[j].length c') ∧ ls[j].length ≤ c' ∧ Rd w N B' ls[j] := by
  obtain ⟨A', c0, e, _, h3⟩ := h
  injection e with e1 e2 e3
  subst e1
  obtain ⟨b, off, e, hb, hc⟩ := h3 (by omega)
  obtain ⟨x, hx, B', c', hv, h4, _, h5⟩ := hc j hj
  exact ⟨b, off, B', c', e, hb, by rw [hx, hv], h4, h5⟩

theorem So.lt {N M : Nat} {w : World} {v : Value} {ls : List (List ByteArray)} (h : So N M w v ls) {b : Nat} (hb : v.ownBlock = some b) : N ≤ b ∧ b < M := by
  obtain ⟨h0, gs, h3, _⟩ := h
  exact ⟨(World.ownsRow.lt h3 b hb).1, h0 b hb⟩
theorem rd_grown {w w' : World} {N m : Nat} {A : Option Addr} {l : List ByteArray} (h : Rd w N A l) (hg : w.grownBy w' (some m)) (hm : ∀ cs t fr, w.heap[m]? ≠ some (.cells cs t fr)) : Rd w' N A l := fun h0 => by
  obtain ⟨b, off, e, hb, hc⟩ := h h0
  refine ⟨b, off, e, hb, fun j hj => hg.cell (hc j hj) fun e2 => ?_⟩
  have e2 : b = m := by injection e2
  subst e2
  have h1 := hc 0 h0
  unfold World.cell? at h1
  cases hh : w.heap[b]? with
  | none => simp [hh] at h1
  | some o =>
    cases o with
    | cells cs t fr => exact hm cs t fr hh
    | _ => simp [hh] at h1

/-! A set of names. -/
def ks (s : ByteArray) : Lit := .string s.data.toList
theorem ks_inj {a b : ByteArray} (h : ks a = ks b) : a = b := by
  unfold ks at h
  injection h with h
  exact L_inj h
def setD (l : List ByteArray) : DataW Unit := setOf (.agg []) (l.map ks)
theorem has_setD (l : List ByteArray) (s : ByteArray) : Go.Maps.has (setD l) (ks s) = isIn s l := by
  unfold setD
  rw [has_setOf _ _ _ (by intro x hx; obtain ⟨y, _, rfl⟩ := List.mem_map.1 hx; exact trivial)]
  rw [Bool.eq_iff_iff, List.any_eq_true]
  constructor
  · rintro ⟨x, hx, h⟩
    obtain ⟨y, hy, rfl⟩ := List.mem_map.1 hx
    have := WideAt.sameKey_eq h
    rw [← ks_inj this]
    exact isIn_yes hy
  · intro h
    exact ⟨ks s, List.mem_map.2 ⟨s, isIn_of h, rfl⟩, WideAt.sameKey_self (by exact trivial)⟩
theorem setD_snoc (l : List ByteArray) (s : ByteArray) : setD (l ++ [s]) = (setD l).put (ks s) (.agg []) := by
  unfold setD
  rw [List.map_append, List.map_cons, List.map_nil, setOf_snoc]
theorem law_str : Keyed Try.prog 9 := string_keyed Try.underlying9
theorem zero_unit (w : World) : (zeroValue 44).run Try.prog w = .ok (.agg #[]) w := by kernel_rfl
theorem key_str (s : ByteArray) (hs : s.size ≤ 140737488355328) : keyOf Try.prog 9 (.string s) = some (ks s) := WideMaps.keyOf_string_mk Try.underlying9 (by unfold maxLen; omega)

/-- The box at p holds the map at m, a set of these names. -/
structure Fi (w : World) (p m : Nat) (l : List ByteArray) : Prop where
  box : w.cell? ⟨p, 0, none⟩ = some (.map (some m))
  set : w.ownsMap Try.prog 9 (unitElem (H := Unit)) m l.length (setD l)
theorem Fi.lt {w : World} {p m : Nat} {l : List ByteArray} (h : Fi w p m l) : m < w.heap.size ∧ p < w.heap.size := ⟨h.set.lt, World.block_lt_of_cell? w _ h.box⟩
theorem Fi.isMap {w : World} {p m : Nat} {l : List ByteArray} (h : Fi w p m l) : (∀ cs t fr, w.heap[m]? ≠ some (.cells cs t fr)) := by
  obtain ⟨es, clock, hb, _⟩ := h.set
  intro cs t fr e
  rw [hb] at e
  cases e
theorem Fi.ne {w : World} {p m : Nat} {l : List ByteArray} (h : Fi w p m l) : p ≠ m := by
  rintro rfl
  obtain ⟨es, clock, hb, _⟩ := h.set
  have := h.box
  simp [World.cell?, hb] at this
theorem Fi.kept {w w' : World} {p m : Nat} {l : List ByteArray} {row : Option Nat} (h : Fi w p m l) (hg : w.grownBy w' row) (h1 : some m ≠ row) (h2 : some p ≠ row) : Fi w' p m l := ⟨hg.cell h.box h2, h.set.kept hg h1⟩
theorem Fi.low {w w' : World} {p m K : Nat} {l : List ByteArray} (h : Fi w p m l) (hb : Below K w w') (hm : m < K) (hp : p < K) : Fi w' p m l := by
  obtain ⟨h1, es, clock, h2, h3⟩ := h
  exact ⟨(hb.cell (p := ⟨p, 0, none⟩) hp).trans h1, es, clock, (hb.block m hm).trans h2, h3⟩
theorem grown_low {w0 w w' : World} {row : Option Nat} (h : w0.grownBy w row) (hb : Below w0.heap.size w w') : w0.grownBy w' row :=
  ⟨hb.os.trans h.os, hb.tape.trans h.tape, hb.output.trans h.output, Nat.le_trans h.size hb.size, fun i hi hne => (hb.block i hi).trans (h.block i hi hne)⟩

end Go.Proofs.Ythgpjhblbpiagaa.He
