/-
  Slices of strings in memory: what a slice reads as, and a slice of the call's own. For every stage.
-/
import Derived.Test.YthgpjhblbpiagaaStr
namespace Go.Proofs.Ythgpjhblbpiagaa.Ba
set_option maxRecDepth 100000
set_option linter.unusedSimpArgs false
set_option linter.unusedVariables false
open Go.RowKit

/-- A slice at A reads as these strings, below block B. -/
def Rd (w : World) (N : Nat) (A : Option Addr) (l : List ByteArray) : Prop :=
  0 < l.length → ∃ b off, A = some ⟨b, off, none⟩ ∧ b < N ∧ ∀ j (h : j < l.length), w.cell? ⟨b, off + j, none⟩ = some (.string l[j])

theorem Rd.nil (w : World) (N : Nat) (A : Option Addr) : Rd w N A [] := fun h => absurd h (by simp)
theorem Rd.keep {w w' : World} {N : Nat} {A : Option Addr} {l : List ByteArray} (h : Rd w N A l) (hk : ∀ p : Addr, p.block < N → w'.cell? p = w.cell? p) : Rd w' N A l := fun h0 => by
  obtain ⟨b, off, e, hb, hc⟩ := h h0
  exact ⟨b, off, e, hb, fun j hj => (hk _ hb).trans (hc j hj)⟩
theorem Rd.more {w : World} {N N' : Nat} {A : Option Addr} {l : List ByteArray} (h : Rd w N A l) (hN : N ≤ N') : Rd w N' A l := fun h0 => by
  obtain ⟨b, off, e, hb, hc⟩ := h h0
  exact ⟨b, off, e, by omega, hc⟩
theorem Rd.below {w w' : World} {N M : Nat} {A : Option Addr} {l : List ByteArray} (h : Rd w N A l) (hb : Below M w w') (hN : N ≤ M) : Rd w' N A l := h.keep fun p hp => hb.cell (p := p) (by omega)
theorem Rd.alloc {w : World} {N : Nat} {A : Option Addr} {l : List ByteArray} (h : Rd w N A l) (hN : N ≤ w.heap.size) (o : Obj) : Rd (w.alloc o) N A l := h.keep fun p hp => World.cell?_alloc_lt w o p (by omega)
theorem Rd.take {w : World} {N : Nat} {A : Option Addr} {l : List ByteArray} (h : Rd w N A l) (m : Nat) : Rd w N A (l.take m) := fun h0 => by
  rw [List.length_take] at h0
  obtain ⟨b, off, e, hb, hc⟩ := h (by omega)
  refine ⟨b, off, e, hb, fun j hj => ?_⟩
  rw [List.length_take] at hj
  rw [List.getElem_take]
  exact hc j (by omega)
/-- Cut: what the model makes of s[m:]. -/
theorem Rd.drop {w : World} {N : Nat} {A : Option Addr} {l : List ByteArray} (h : Rd w N A l) (m cap : Nat) (hc : l.length ≤ cap) : Rd w N (if cap = m then A else A.map (·.add m)) (l.drop m) := fun h0 => by
  rw [List.length_drop] at h0
  obtain ⟨b, off, e, hb, hcc⟩ := h (by omega)
  rw [if_neg (by omega), e]
  refine ⟨b, off + m, by simp [WideShapes.add_plain], hb, fun j hj => ?_⟩
  rw [List.length_drop] at hj
  rw [List.getElem_drop, Nat.add_assoc]
  exact hcc (m + j) (by omega)

def sc (s : ByteArray) : Value := .string s
/-- v is a slice of strings of the call's own that holds l. -/
def Sown (N : Nat) (w : World) (v : Value) (l : List ByteArray) : Prop := w.ownsRow N 9 1 v l.length (l.map sc)

theorem info_str : (Try.prog.info? 9).map (fun i => (i.zero, i.size, i.bytes)) = some (some (.string .empty), 1, 16) := by kernel_rfl

theorem Sown.nil (N : Nat) (w : World) : Sown N w (.slice none 0 0) [] := World.ownsRow_nil w N _ 1
theorem Sown.made (w : World) : Sown w.heap.size (w.alloc (.cells #[] 9)) (.slice (some ⟨w.heap.size, 0, none⟩) 0 0) [] :=
  World.ownsRow_made w #[] 0 (Nat.le_refl _) (Nat.zero_le _) rfl
theorem Sown.alloc {N : Nat} {w : World} {v : Value} {l : List ByteArray} (h : Sown N w v l) (o : Obj) : Sown N (w.alloc o) v l := World.ownsRow.alloc h o
theorem Sown.mono {N N' : Nat} {w : World} {v : Value} {l : List ByteArray} (h : Sown N w v l) (hN : N' ≤ N) : Sown N' w v l := World.ownsRow.mono h hN
theorem Sown.below {N M : Nat} {w w' : World} {v : Value} {l : List ByteArray} (h : Sown N w v l) (hb : Below M w w') (hM : w.heap.size ≤ M) : Sown N w' v l := by
  refine ⟨h.1, ?_⟩
  rcases h.2 with hn | ⟨g, cap, cur, hv, hg, hh, rest⟩
  · exact .inl hn
  · refine .inr ⟨g, cap, cur, hv, hg, ?_, rest⟩
    have hlt : g < w.heap.size := (Array.getElem?_eq_some_iff.1 hh).1
    rw [hb.block g (by omega)]
    exact hh
theorem Sown.kept {N : Nat} {w0 w w' : World} {v : Value} {l : List ByteArray} (h : Sown N w v l) (hg : w.grownBy w' v.ownBlock) (hb : Below N w0 w) (hN : N ≤ w.heap.size) : Below N w0 w' :=
  hb.grown hg hN fun k hk => (h.lt k hk).1
/-- Its form, and what it reads as. -/
theorem Sown.form {N : Nat} {w : World} {v : Value} {l : List ByteArray} (h : Sown N w v l) : ∃ A c, v = .slice A l.length c ∧ l.length ≤ c ∧ c ≤ maxLen ∧ Rd w w.heap.size A l := by
  rcases h.2 with ⟨hv, hl⟩ | ⟨g, cap, cur, hv, hg, hh, hn, hm, hs, ht⟩
  · have : l = [] := List.eq_nil_of_length_eq_zero hl
    subst this
    exact ⟨none, 0, hv, Nat.le_refl _, Nat.zero_le _, Rd.nil _ _ _⟩
  · refine ⟨some ⟨g, 0, none⟩, cap, hv, hn, hm, fun _ => ⟨g, 0, rfl, (Array.getElem?_eq_some_iff.1 hh).1, fun j hj => ?_⟩⟩
    subst hv
    have := World.ownsRow.cells h rfl j (sc l[j]) (by simp [hj])
    rw [WideShapes.add_plain] at this
    exact this
theorem Sown.appended {N : Nat} {w : World} {v : Value} {l m : List ByteArray} {n : Nat} (h : w.ownsRow N 9 1 v n (l.map sc ++ m.map sc)) (hn : n = l.length + m.length) : Sown N w v (l ++ m) := by
  unfold Sown
  rw [List.map_append, List.length_append, ← hn]
  exact h

set_option maxRecDepth 100000 in
/-- append of one string, in a block of its own, onto a slice of the call's own. -/
theorem app_one {ops : Array Oper} {rest : List Oper} {o : Oper} {a : Act} {Q : Exit → Act → World → Prop} (w : World) (hgd : o.guard = none) (s x : Operand)
    (ho : o.op = .call { callee := .builtin .append, args := #[s, x], argTypes := #[24, 24] })
    (N : Nat) (v : Value) (l : List ByteArray) (y : ByteArray) (hs : a.eval s = v) (hown : Sown N w v l) (hx : a.eval x = .slice (some ⟨w.heap.size, 0, none⟩) 1 1)
    (hl : (l.length + 1) * 16 ≤ 140737488355328) (hN : N ≤ w.heap.size)
    (h : ∀ v' w', Sown N w' v' (l ++ [y]) → (∀ w0, Below N w0 w → Below N w0 w') → (∀ A m, Rd w N A m → Rd w' N A m) → wpList Try.prog ops Q rest (a.put o.dst v') w') :
    wpList Try.prog ops Q (o :: rest) a (w.alloc (.cells #[.string y] 9)) := by
  obtain ⟨i0, hi, hz0, hz1, hz2⟩ := info_parts info_str
  have hown' : Sown N (w.alloc (.cells #[.string y] 9)) v l := hown.alloc _
  have hsz : (w.alloc (.cells #[.string y] 9)).heap.size = w.heap.size + 1 := by simp
  refine wpList_append_own _ hgd s x 24 ho N 9 i0 (.string .empty) 1 16 Try.underlying24 hi hz0 hz1 hz2 rfl (by decide) v l.length (l.map sc) hs hown' ⟨w.heap.size, 0, none⟩ 1 1 [.string y] hx rfl (cell_one_new _ _ _) (by intro u hu; simp at hu; subst hu; rfl) (by unfold maxLen; omega) hl (by omega) ?_
  intro v' w' ho2 hg2 _
  have hk : ∀ w0, Below N w0 w → Below N w0 w' := fun w0 hb => hown'.kept hg2 (hb.alloc hN _) (by omega)
  exact h v' w' (Sown.appended (m := [y]) ho2 rfl) hk fun A m hr => hr.below (hk w (Below.refl _ _)) (Nat.le_refl _)

set_option maxRecDepth 100000 in
/-- append of another slice's strings, nil or not. -/
theorem app_all {ops : Array Oper} {rest : List Oper} {o : Oper} {a : Act} {Q : Exit → Act → World → Prop} (w : World) (hgd : o.guard = none) (s x : Operand)
    (ho : o.op = .call { callee := .builtin .append, args := #[s, x], argTypes := #[24, 24] })
    (N : Nat) (v : Value) (l m : List ByteArray) (A : Option Addr) (c M : Nat) (hs : a.eval s = v) (hown : Sown N w v l) (hx : a.eval x = .slice A m.length c) (hc : A = none → c = 0) (hr : Rd w M A m)
    (hl : (l.length + m.length) * 16 ≤ 140737488355328) (hN : N ≤ w.heap.size)
    (h : ∀ v' w', Sown N w' v' (l ++ m) → (∀ w0, Below N w0 w → Below N w0 w') → (∀ A m, Rd w N A m → Rd w' N A m) → wpList Try.prog ops Q rest (a.put o.dst v') w') :
    wpList Try.prog ops Q (o :: rest) a w := by
  obtain ⟨i0, hi, hz0, hz1, hz2⟩ := info_parts info_str
  cases A with
  | none =>
    have hm : m = [] := by
      rcases Nat.eq_zero_or_pos m.length with h0 | h0
      · exact List.eq_nil_of_length_eq_zero h0
      · obtain ⟨b, off, e, _⟩ := hr h0
        cases e
    subst hm
    have hc0 := hc rfl
    subst hc0
    refine wpList_append_own_none hgd s x 24 ho N 9 i0 1 Try.underlying24 hi v l.length (l.map sc) hs hown hx ?_
    exact h v w (by rw [List.append_nil]; exact hown) (fun _ hb => hb) (fun _ _ hr => hr)
  | some ad =>
    have hcells : ∀ j u, (m.map sc)[j]? = some u → w.cell? (ad.add j) = some u := by
      intro j u hu
      have hj : j < m.length := by
        have := (List.getElem?_eq_some_iff.1 hu).1
        rw [List.length_map] at this
        exact this
      obtain ⟨b, off, e, _, hcc⟩ := hr (by omega)
      injection e with e
      subst e
      rw [WideShapes.add_plain, hcc j hj]
      rw [List.getElem?_map, List.getElem?_eq_getElem hj] at hu
      exact hu
    refine wpList_append_own _ hgd s x 24 ho N 9 i0 (.string .empty) 1 16 Try.underlying24 hi hz0 hz1 hz2 rfl (by decide) v l.length (l.map sc) hs hown ad m.length c (m.map sc) hx (by simp) hcells (by intro u hu; obtain ⟨y, _, rfl⟩ := List.mem_map.1 hu; rfl) (by unfold maxLen; omega) hl hN ?_
    intro v' w' ho2 hg2 _
    have hk : ∀ w0, Below N w0 w → Below N w0 w' := fun w0 hb => hown.kept hg2 hb hN
    exact h v' w' (Sown.appended ho2 rfl) hk fun A m hr => hr.below (hk w (Below.refl _ _)) (Nat.le_refl _)

end Go.Proofs.Ythgpjhblbpiagaa.Ba
