/-
  Slices of api.Per of the call's own: what they hold, what is kept where another one grows, append.
  Walks of stage 12: among, equal, isData, Element, named, Attr.
  Walks of stage 12: Attr; the document's Element and Attr.
  The region of a map's literal: its entries may be put in whatever order; in each the map is made of the same pairs. It speaks of no program.
  Walks of stage 10: Handler, Nav.
  Walks of stage 9: link.Strip.
  Walks of stage 9: link.digit, marked; boltingref09.digit.
  Walks of stage 9: link.Percent, boltingref09.Percent.
  Walks of stage 9: link.divided (with its closure), Scheme, Script.
  Walk of stage 9: boltinglaw09.fixed returns true; the contracts of link in the form that the laws use, each answer named.
  Walks of stage 10: Handler, Sink, Element, Attr.
  risk.Element.
  Walks of stage 10: Element, Attr, safeElement, Safe.
  Walks of stage 9's reference: Strip, colon, Scheme, Source.
  Walks of stage 10: the reference's Handler, plain, pair, Nav, Sink, Attr.
-/
import Derived.Test.YtgjlfcamgkeibaaGreatDoorCk10
import Derived.Test.YtgjlfcamgkeibaaGreatDoorCk05
import Derived.Deep.Cut
import Derived.Orders
import Derived.Tactics
import Derived.Maps.Keyed
import Derived.Maps.Own
import Derived.RegionTactic
import Derived.Below
import Derived.Test.YtgjlfcamgkeibaaGreatDoorCk02
import Derived.DeepKeys5
import Derived.Deep.QuietTactic
import Derived.BigQuiet
import Derived.Test.YtgjlfcamgkeibaaGreatDoorCk04
import Derived.Deep.CutBlock
import Derived.Deep.DeepCutAuto
import Derived.Deep.RegionLaw
import Derived.Laws.BitsAllLaws
import Derived.Deep.AppendLies
import Derived.IntWalk
import Derived.RangeFuncRecord
import Derived.Deep.RegionHeld3
namespace Go.Proofs.YtgjlfcamgkeibaaGreatDoor.Co
set_option maxRecDepth 100000
set_option linter.unusedVariables false
set_option linter.unusedSimpArgs false
open Go.RowKit Ba Fm Fo
theorem flat_at12 {α : Type} (f : α → List Value) (m : Nat) (hm : ∀ x, (f x).length = m) : ∀ (l : List α) (j i : Nat) (h : j < l.length), i < m → (l.flatMap f)[j * m + i]? = (f l[j])[i]?
  | [], j, _, h, _ => absurd h (by simp)
  | x :: r, 0, i, _, hi => by
    rw [List.flatMap_cons, List.getElem?_append_left (by rw [hm]; omega)]
    simp
  | x :: r, j + 1, i, h, hi => by
    rw [List.flatMap_cons, List.getElem?_append_right (by rw [hm, Nat.add_mul]; omega), hm, show (j + 1) * m + i - m = j * m + i from by rw [Nat.add_mul]; omega]
    rw [flat_at12 f m hm r j i (by simpa using h) hi]
    rfl
def Ap (w : World) (N : Nat) (x : Pw) : Prop := 0 < x.pe.at_.length → ∃ b off, x.A = some ⟨b, off, none⟩ ∧ (b < N ∨ ∃ cs fr, w.heap[b]? = some (.cells cs 9 fr))
def Fp (N : Nat) (w : World) (x : Pw) : Prop := Sown N w (.slice x.A x.pe.at_.length x.c) x.pe.at_
def Po (N : Nat) (w : World) (v : Value) (l : List Pw) : Prop := w.ownsRow N 57 2 v l.length (l.flatMap pcells) ∧ ∀ x ∈ l, Sx w w.heap.size x ∧ Ap w N x

theorem Fp.sx {N : Nat} {w : World} {x : Pw} (h : Fp N w x) : Sx w w.heap.size x := sv_own h
theorem Fp.ap {N M : Nat} {w : World} {x : Pw} (h : Fp N w x) : Ap w M x := fun h0 => by
  rcases h.2 with ⟨hv, hn⟩ | ⟨g, cap, cur, hv, hg, hh, _⟩
  · omega
  · injection hv with e1
    exact ⟨g, 0, e1, .inr ⟨_, _, hh⟩⟩
theorem Fp.below {N M : Nat} {w w' : World} {x : Pw} (h : Fp N w x) (hb : Below M w w') (hM : w.heap.size ≤ M := by exact Nat.le_refl _) : Fp N w' x := Sown.below h hb hM
theorem Fp.mono {N N' : Nat} {w : World} {x : Pw} (h : Fp N w x) (hN : N' ≤ N) : Fp N' w x := Sown.mono h hN
theorem Ap.below {N M : Nat} {w w' : World} {x : Pw} (h : Ap w N x) (hb : Below M w w') (hM : w.heap.size ≤ M := by exact Nat.le_refl _) : Ap w' N x := fun h0 => by
  obtain ⟨b, off, e, h⟩ := h h0
  refine ⟨b, off, e, ?_⟩
  rcases h with h | ⟨cs, fr, h⟩
  · exact .inl h
  · refine .inr ⟨cs, fr, ?_⟩
    have hlt : b < w.heap.size := (Array.getElem?_eq_some_iff.1 h).1
    rw [hb.block b (by omega)]
    exact h
theorem Ap.more {N M : Nat} {w : World} {x : Pw} (h : Ap w N x) (hN : N ≤ M) : Ap w M x := fun h0 => by
  obtain ⟨b, off, e, h⟩ := h h0
  exact ⟨b, off, e, h.imp (fun h => by omega) id⟩
theorem Sx.apart {N : Nat} {w : World} {x : Pw} (h : Sx w N x) : Ap w N x := fun h0 => by
  obtain ⟨b, off, e, hb, _⟩ := Sv.rd h h0
  exact ⟨b, off, e, .inl hb⟩
theorem Po.nil (N : Nat) (w : World) : Po N w (.slice none 0 0) [] := ⟨World.ownsRow_nil w N _ 2, fun _ h => by simp at h⟩
theorem Po.made (w : World) : Po w.heap.size (w.alloc (.cells #[] 57)) (.slice (some ⟨w.heap.size, 0, none⟩) 0 0) [] :=
  ⟨World.ownsRow_made w #[] 0 (Nat.le_refl _) (Nat.zero_le _) rfl, fun _ h => by simp at h⟩
theorem Po.below {N M : Nat} {w w' : World} {v : Value} {l : List Pw} (h : Po N w v l) (hb : Below M w w') (hM : w.heap.size ≤ M := by exact Nat.le_refl _) : Po N w' v l := by
  refine ⟨⟨h.1.1, ?_⟩, fun x hx => ⟨((h.2 x hx).1.below hb hM).more hb.size, (h.2 x hx).2.below hb hM⟩⟩
  rcases h.1.2 with hn | ⟨g, cap, cur, hv, hg, hh, rest⟩
  · exact .inl hn
  · refine .inr ⟨g, cap, cur, hv, hg, ?_, rest⟩
    have hlt : g < w.heap.size := (Array.getElem?_eq_some_iff.1 hh).1
    rw [hb.block g (by omega)]
    exact hh
theorem Po.alloc {N : Nat} {w : World} {v : Value} {l : List Pw} (h : Po N w v l) (o : Obj) : Po N (w.alloc o) v l := h.below (below_new12 w o)
theorem Po.form {N : Nat} {w : World} {v : Value} {l : List Pw} (h : Po N w v l) : ∃ A c, v = .slice A l.length c ∧ l.length ≤ c ∧ c ≤ maxLen ∧ (A = none → c = 0) ∧ Pr w w.heap.size A l := by
  rcases h.1.2 with ⟨hv, hl⟩ | ⟨g, cap, cur, hv, hg, hh, hn, hm, hs, ht⟩
  · have : l = [] := List.eq_nil_of_length_eq_zero hl
    subst this
    exact ⟨none, 0, hv, Nat.le_refl _, Nat.zero_le _, fun _ => rfl, Pr.nil _ _ _⟩
  · refine ⟨some ⟨g, 0, none⟩, cap, hv, hn, hm, (fun e => by cases e), fun _ => ⟨g, 0, rfl, (Array.getElem?_eq_some_iff.1 hh).1, fun j hj i u hu => ?_⟩, fun x hx => (h.2 x hx).1⟩
    have hi : i < 2 := (List.getElem?_eq_some_iff.1 hu).1
    subst hv
    have := World.ownsRow.cells h.1 (g := g) rfl (j * 2 + i) u (by rw [flat_at12 pcells 2 len_pcells _ _ _ hj hi]; exact hu)
    rw [WideShapes.add_plain] at this
    rw [show 0 + j * 2 + i = 0 + (j * 2 + i) from by omega]
    exact this
theorem Po.pv {N : Nat} {w : World} {v : Value} {l : List Pw} (h : Po N w v l) : Pv w w.heap.size v l := by
  obtain ⟨A, c, e, h1, _, h2, h3⟩ := h.form
  exact ⟨A, c, e, h1, h2, h3⟩

theorem pblock_ne {N n : Nat} {w : World} {v : Value} {xs : List Value} {b : Nat} {cs : Array Value} {fr : Nat × Nat} (h : w.ownsRow N 57 2 v n xs) (hb : w.heap[b]? = some (.cells cs 9 fr)) : some b ≠ v.ownBlock := by
  rcases h.2 with ⟨rfl, _⟩ | ⟨g, cap, cur, rfl, _, hh, _⟩
  · simp [Value.ownBlock]
  · intro e
    have e : b = g := by simpa [Value.ownBlock] using e
    subst e
    rw [hb] at hh
    injection hh with hh
    injection hh with _ ht
    exact absurd ht (by decide)
theorem plow_ne {N n : Nat} {w : World} {v : Value} {xs : List Value} {b : Nat} (h : w.ownsRow N 57 2 v n xs) (hb : b < N) : some b ≠ v.ownBlock := fun e => by
  have := (World.ownsRow.lt h b e.symm).1
  omega
theorem Sx.grown {N n : Nat} {w w' : World} {v : Value} {xs : List Value} {y : Pw} (h : w.ownsRow N 57 2 v n xs) (hg : w.grownBy w' v.ownBlock) (hy : Sx w w.heap.size y) (ha : Ap w N y) : Sx w' w'.heap.size y := by
  obtain ⟨A, c, e, h1, h2, h3⟩ := hy
  injection e with e1 e2 e3
  refine ⟨A, c, by rw [e1, e3], h1, h2, fun h0 => ?_⟩
  obtain ⟨b, off, e, hb, hc⟩ := h3 h0
  obtain ⟨b', off', e', ha⟩ := ha h0
  rw [e1, e] at e'
  injection e' with e'
  injection e' with e4 e5
  subst e4 e5
  have hne : some b ≠ v.ownBlock := by
    rcases ha with ha | ⟨cs, fr, ha⟩
    · exact plow_ne h ha
    · exact pblock_ne h ha
  exact ⟨b, off, e, Nat.lt_of_lt_of_le hb hg.size, fun j hj => (World.cell?_of_block (a := ⟨b, off + j, none⟩) (hg.block b hb hne)).trans (hc j hj)⟩
theorem Ap.grown {N n : Nat} {w w' : World} {v : Value} {xs : List Value} {y : Pw} (h : w.ownsRow N 57 2 v n xs) (hg : w.grownBy w' v.ownBlock) (ha : Ap w N y) : Ap w' N y := fun h0 => by
  obtain ⟨b, off, e, ha⟩ := ha h0
  refine ⟨b, off, e, ?_⟩
  rcases ha with ha | ⟨cs, fr, ha⟩
  · exact .inl ha
  · exact .inr ⟨cs, fr, (hg.block b (Array.getElem?_eq_some_iff.1 ha).1 (pblock_ne h ha)).trans ha⟩
abbrev perO (x : Pw) : Obj := .cells #[.string x.pe.el, .slice x.A x.pe.at_.length x.c] 57
theorem pbox_at (w : World) (x : Pw) (j : Nat) : (w.alloc (perO x)).cell? ⟨w.heap.size, j, none⟩ = (pcells x)[j]? := by
  rw [World.cell?_alloc_mark]
  match j with
  | 0 | 1 => rfl
  | j + 2 => simp [pcells]
theorem pbox_kept {w w3 : World} {x : Pw} (hb : Below (w.alloc (perO x)).heap.size (w.alloc (perO x)) w3) (j : Nat) : w3.cell? ⟨w.heap.size, j, none⟩ = (pcells x)[j]? :=
  (hb.cell (p := ⟨w.heap.size, j, none⟩) (by simp)).trans (pbox_at w x j)
theorem Sx.boxed {w w0 : World} {x : Pw} (h : Sx w w0.heap.size x) (hb : Below w0.heap.size w0 w) (o : Obj) : Sx (w.alloc o) (w.alloc o).heap.size x :=
  ((h.more hb.size).below (below_new12 w o)).more (by simp)
theorem row_boxed {w w' : World} {N size n g : Nat} {e : TypeId} {v : Value} {xs : List Value} {cs : Array Value} (h : w.ownsRow N e size v n xs) (he : e ≠ 26) (hb : Hb w g cs) (hg : w.grownBy w' (some g)) : w'.ownsRow N e size v n xs := by
  refine ⟨h.1, ?_⟩
  rcases h.2 with hn | ⟨b, cap, cur, hv, hN, hh, rest⟩
  · exact .inl hn
  · refine .inr ⟨b, cap, cur, hv, hN, ?_, rest⟩
    have hne : b ≠ g := fun e' => by
      subst e'
      unfold Hb at hb
      rw [hb] at hh
      injection hh with hh
      injection hh with _ ht
      exact he ht.symm
    rw [hg.block b (Array.getElem?_eq_some_iff.1 hh).1 (by simpa using hne)]
    exact hh
theorem own_boxed {w w' : World} {N g : Nat} {v : Value} {l : List ByteArray} {cs : Array Value} (h : Sown N w v l) (hb : Hb w g cs) (hg : w.grownBy w' (some g)) : Sown N w' v l := row_boxed h (by decide) hb hg
theorem po_of {N : Nat} {w : World} {v : Value} {l : List Pw} (h : w.ownsRow N 57 2 v l.length (l.flatMap pcells)) (hf : ∀ x ∈ l, Fp N w x) : Po N w v l := ⟨h, fun x hx => ⟨(hf x hx).sx, (hf x hx).ap⟩⟩

theorem row_elder {w w' : World} {N size n : Nat} {e : TypeId} {v : Value} {xs : List Value} {row : Option Nat} (h : w.ownsRow N e size v n xs) (hg : w.grownBy w' row) (hr : ∀ b, row = some b → b < N) : w'.ownsRow N e size v n xs := by
  refine ⟨h.1, ?_⟩
  rcases h.2 with hn | ⟨b, cap, cur, hv, hN, hh, rest⟩
  · exact .inl hn
  · refine .inr ⟨b, cap, cur, hv, hN, ?_, rest⟩
    rw [hg.block b (Array.getElem?_eq_some_iff.1 hh).1 (fun e => by have := hr b e.symm; omega)]
    exact hh
structure Own12 (N : Nat) (w : World) (c : Cf) (vE vR vA vP : Value) (l : List Pw) : Prop where
  e : Sown N w vE c.els
  r : Sown N w vR c.reps
  a : Sown N w vA c.ats
  p : Po N w vP l
  f : ∀ x ∈ l, Fp N w x
  m : pes l = c.per
def Cow (N : Nat) (w : World) (v : Value) (c : Cf) : Prop := ∃ vE vR vA vP l, v = confV c vE vR vA vP ∧ Own12 N w c vE vR vA vP l
theorem Own12.cp {N : Nat} {w : World} {c : Cf} {vE vR vA vP : Value} {l : List Pw} (h : Own12 N w c vE vR vA vP l) : Cp w w.heap.size c vE vR vA vP l := ⟨sv_own h.e, sv_own h.r, sv_own h.a, h.p.pv, h.m⟩
theorem Own12.below {N : Nat} {w w' : World} {c : Cf} {vE vR vA vP : Value} {l : List Pw} (h : Own12 N w c vE vR vA vP l) (hb : Below w.heap.size w w') : Own12 N w' c vE vR vA vP l :=
  ⟨h.e.below hb (Nat.le_refl _), h.r.below hb (Nat.le_refl _), h.a.below hb (Nat.le_refl _), h.p.below hb, fun x hx => (h.f x hx).below hb, h.m⟩
theorem Own12.mono {N M : Nat} {w : World} {c : Cf} {vE vR vA vP : Value} {l : List Pw} (h : Own12 N w c vE vR vA vP l) (hN : M ≤ N) : Own12 M w c vE vR vA vP l :=
  ⟨h.e.mono hN, h.r.mono hN, h.a.mono hN, ⟨World.ownsRow.mono h.p.1 hN, fun x hx => ⟨(h.p.2 x hx).1, (h.f x hx).ap⟩⟩, fun x hx => (h.f x hx).mono hN, h.m⟩
theorem Own12.boxed {N g : Nat} {w w' : World} {c : Cf} {vE vR vA vP : Value} {l : List Pw} {cs : Array Value} (h : Own12 N w c vE vR vA vP l) (hb : Hb w g cs) (hg : w.grownBy w' (some g)) : Own12 N w' c vE vR vA vP l :=
  have hf : ∀ x ∈ l, Fp N w' x := fun x hx => own_boxed (h.f x hx) hb hg
  ⟨own_boxed h.e hb hg, own_boxed h.r hb hg, own_boxed h.a hb hg, po_of (row_boxed h.p.1 (by decide) hb hg) hf, hf, h.m⟩
theorem Cow.cv {N : Nat} {w : World} {v : Value} {c : Cf} (h : Cow N w v c) : Cv w w.heap.size v c := by
  obtain ⟨vE, vR, vA, vP, l, e, h⟩ := h
  exact ⟨vE, vR, vA, vP, l, e, h.cp⟩
theorem Cow.below {N : Nat} {w w' : World} {v : Value} {c : Cf} (h : Cow N w v c) (hb : Below w.heap.size w w') : Cow N w' v c := by
  obtain ⟨vE, vR, vA, vP, l, e, h⟩ := h
  exact ⟨vE, vR, vA, vP, l, e, h.below hb⟩
theorem Cow.mono {N M : Nat} {w : World} {v : Value} {c : Cf} (h : Cow N w v c) (hN : M ≤ N) : Cow M w v c := by
  obtain ⟨vE, vR, vA, vP, l, e, h⟩ := h
  exact ⟨vE, vR, vA, vP, l, e, h.mono hN⟩
end Go.Proofs.YtgjlfcamgkeibaaGreatDoor.Co

namespace Go.Proofs.YtgjlfcamgkeibaaGreatDoor.Co
set_option maxRecDepth 100000
set_option linter.unusedVariables false
set_option linter.unusedSimpArgs false
open Go.RowKit Ba Fm Fo Nm Rk
theorem in_snoc (l : List ByteArray) (s : ByteArray) (k : Nat) (h : k < l.length) (hn : ¬ s ∈ l.take k) (he : l[k] ≠ s) : ¬ s ∈ l.take (k + 1) := by
  rw [List.take_succ_eq_append_getElem h, List.mem_append]
  rintro (h' | h')
  · exact hn h'
  · exact he (List.mem_singleton.1 h').symm
set_option maxHeartbeats 400000 in
theorem among_any (A : Option Addr) (c N : Nat) (l : List ByteArray) (s : ByteArray) (w : World) (hr : Rd w N A l) (hl : l.length ≤ 8796093022208) :
    Calls Tryz.prog 149 #[.slice A l.length c, .string s] w fun e w' => e = .returned (.bool (isIn s l)) ∧ w = w' := by
  go_enter Tryz.func149, Tryz.ntmps149
  go_wp2
  go_loop [6, 9] (fun _ i => ∃ k : Nat, i = .int .i64 k ∧ k ≤ l.length ∧ ¬ s ∈ l.take k) (fun _ i => l.length - (intOf i).toNat)
  case atStart => exact ⟨0, rfl, Nat.zero_le _, by simp⟩
  case round =>
    obtain ⟨k, rfl, hks, hn⟩ := hrel
    have HN := Lib.hid hn; clear hn
    by_cases hp : k < l.length
    · obtain ⟨b, off, rfl, _, hc⟩ := hr (by omega)
      have hcell := hc k hp
      clear hc hr
      have heq := eq_of_toList (a := l[k]) (b := s)
      by_cases he : l[k] = s
      · rw [decide_eq_true he] at heq
        have HE := Lib.hid he; clear he
        go_wp2
        go_ret
        exact ⟨ret_bool (isIn_yes (by have := HE.out; rw [← this]; exact List.getElem_mem _)).symm, rfl⟩
      · rw [decide_eq_false he] at heq
        have HE := Lib.hid he; clear he
        go_wp2
        go_round
        case rel => exact ⟨k + 1, by go_num, by omega, in_snoc l s k hp HN.out HE.out⟩
        case measure => simp [intOf]; omega
    · go_wp2
      go_ret
      refine ⟨ret_bool (isIn_no ?_).symm, rfl⟩
      have := HN.out
      rwa [List.take_of_length_le (by omega)] at this
theorem among1 (v : Value) (N : Nat) (l : List ByteArray) (s : ByteArray) (w : World) (q : Bool) (h : Sv w N v l) (hl : l.length ≤ 1000000) (hq : isIn s l = q) :
    Calls Tryz.prog 149 #[v, .string s] w fun e w' => e = .returned (.bool q) ∧ w = w' := by
  obtain ⟨A, c, rfl, _, _, hr⟩ := h
  subst hq
  exact among_any A c N l s w hr (by omega)
theorem among_q (v : Value) (N : Nat) (l : List ByteArray) (s : ByteArray) (w : World) (q : Bool) (h : Sv w N v l) (hl : l.length ≤ 1000000) (hq : isIn s l = q) (n : Nat) :
    Calls Tryz.prog 149 #[v, .string s] (w.drewN n) fun e w'' => e = .returned (.bool q) ∧ ∃ m, w'' = w.drewN m :=
  (among1 v N l s (w.drewN n) q h hl hq).mono fun e w' ⟨he, hw⟩ => ⟨he, n, hw.symm⟩
theorem equal1 (a b : ByteArray) (w : World) (q : Bool) (hq : decide (a = b) = q) :
    Calls Tryz.prog 146 #[.string a, .string b] w fun e w' => e = .returned (.bool q) ∧ w = w' := by
  have h := (eq_of_toList (a := a) (b := b)).trans hq
  clear hq
  go_enter Tryz.func146, Tryz.ntmps146
  go_wp2
  go_ret
  exact ⟨rfl, rfl⟩
theorem data_short {a : ByteArray} (h : ¬ 5 < a.size) : dataB a = false := by
  unfold dataB
  rw [decide_eq_false h]; rfl
theorem data_long {a : ByteArray} (h : 5 < a.size) : dataB a = ((a.extract 0 5).toList == dataL) := by
  unfold dataB
  rw [decide_eq_true h, Bool.true_and, toList_L, L_extract, List.drop_zero]
  rw [Bool.eq_iff_iff, decide_eq_true_iff, beq_iff_eq]
theorem isData1 (a : ByteArray) (w : World) (q : Bool) (ha : a.size ≤ 140737488355328) (hq : dataB a = q) :
    Calls Tryz.prog 196 #[.string a] w fun e w' => e = .returned (.bool q) ∧ w = w' := by
  by_cases h : 5 < a.size
  · rw [data_long h] at hq
    unfold dataL at hq
    have h1 : (5 : Int) < (a.size : Int) := by omega
    have h2 : decide (5 < a.size) = true := decide_eq_true h
    go_enter Tryz.func196, Tryz.ntmps196
    cases q with
    | true =>
      go_wp2
      go_ret
      exact ⟨rfl, rfl⟩
    | false =>
      go_wp2
      go_ret
      exact ⟨rfl, rfl⟩
  · rw [data_short h] at hq
    subst hq
    have h1 : ¬ (5 : Int) < (a.size : Int) := by omega
    have h2 : decide (5 < a.size) = false := decide_eq_false h
    go_enter Tryz.func196, Tryz.ntmps196
    go_wp2
    go_ret
    exact ⟨rfl, rfl⟩

theorem element1 (v : Value) (c : Cf) (s : ByteArray) (w : World) (q : Nat) (h : Cv w w.heap.size v c) (hs : Sm c) (hq : elementN c s = q) :
    Calls Tryz.prog 153 #[v, .string s] w fun e w' => e = .returned (.int .i64 q) ∧ Below w.heap.size w w' := by
  obtain ⟨vE, vR, vA, vP, l, rfl, h⟩ := h
  unfold elementN at hq
  have hb1 := below_new12 w (confO c vE vR vA vP)
  have hbx := (Bx.new w c vE vR vA vP).at_
  obtain ⟨_, _, _, _, _, _, _, _⟩ := hbx
  have hr := sv_on h.r hb1
  have he := sv_on h.e hb1
  go_enter Tryz.func153, Tryz.ntmps153
  cases hR : isIn s c.reps with
  | true =>
    rw [hR, if_pos rfl] at hq
    subst hq
    go_wp2_with fail
    refine (among1 vR _ c.reps s _ true hr (by have := hs.r; omega) hR).mono ?_
    rintro e w1 ⟨rfl, rfl⟩
    go_wp2
    go_ret
    exact ⟨rfl, hb1⟩
  | false =>
    rw [hR, if_neg (by simp)] at hq
    go_wp2_with fail
    refine (among1 vR _ c.reps s _ false hr (by have := hs.r; omega) hR).mono ?_
    rintro e w1 ⟨rfl, rfl⟩
    obtain ⟨b, hE⟩ : ∃ b, isIn s c.els = b := ⟨_, rfl⟩
    rw [hE] at hq
    have HQ := Lib.hid (among_q vE _ c.els s _ b he (by have := hs.e; omega) hE)
    clear he hE
    cases hbc : (b == c.allow) with
    | true =>
      rw [if_pos (eq_of_beq hbc)] at hq
      subst hq
      go_wp2
      go_quiet ((go_at_call 149; exact HQ.out _))
      go_wp2
      go_ret
      exact ⟨rfl, below_dN hb1 _⟩
    | false =>
      rw [if_neg (fun e => by rw [e] at hbc; simp at hbc)] at hq
      subst hq
      go_wp2
      go_quiet ((go_at_call 149; exact HQ.out _))
      go_wp2
      go_ret
      exact ⟨rfl, below_dN hb1 _⟩

theorem any_snoc {α : Type} (p : α → Bool) (l : List α) (k : Nat) (x : α) (h : l[k]? = some x) : (l.take (k + 1)).any p = ((l.take k).any p || p x) := by
  have hk : k < l.length := (List.getElem?_eq_some_iff.1 h).1
  have hx : l[k] = x := (List.getElem?_eq_some_iff.1 h).2
  rw [List.take_succ_eq_append_getElem hk, List.any_append, hx]
  simp
theorem any_yes {α : Type} (p : α → Bool) (l : List α) (x : α) (h : x ∈ l) (hp : p x = true) : l.any p = true := List.any_eq_true.2 ⟨x, h, hp⟩
set_option maxRecDepth 100000 in
set_option maxHeartbeats 2000000 in
theorem named1 (v : Value) (c : Cf) (e a : ByteArray) (w : World) (q : Bool) (h : Cv w w.heap.size v c) (hs : Sm c) (hq : namedB c e a = q) :
    Calls Tryz.prog 195 #[v, .string e, .string a] w fun r w' => r = .returned (.bool q) ∧ Below w.heap.size w w' := by
  obtain ⟨vE, vR, vA, vP, l, rfl, h⟩ := h
  obtain ⟨w0, hw0⟩ : ∃ w0, w.alloc (confO c vE vR vA vP) = w0 := ⟨_, rfl⟩
  have hb1 : Below w.heap.size w w0 := hw0 ▸ below_new12 w (confO c vE vR vA vP)
  have hbx : Bx w0 w.heap.size c vE vR vA vP := hw0 ▸ Bx.new w c vE vR vA vP
  have hz : w.heap.size < w0.heap.size := by rw [← hw0]; simp
  have HW := Lib.hid hw0; clear hw0
  obtain ⟨A, cp, rfl, hcp, hna, hr⟩ := h.p
  have hl : l.length ≤ 1000 := by have := hs.p; rw [← h.m, len_pes] at this; exact this
  have hmap : namedB c e a = (l.any (fun x => decide (x.pe.el = e) && isIn a x.pe.at_) || isIn a c.ats) := by
    unfold namedB
    rw [← h.m]
    unfold pes
    rw [List.any_map]
    rfl
  rw [hmap] at hq
  obtain ⟨p, hp⟩ : ∃ p : Pw → Bool, p = fun x => decide (x.pe.el = e) && isIn a x.pe.at_ := ⟨_, rfl⟩
  rw [← hp] at hq
  have HP := Lib.hid hp; clear hp hmap
  have hva := h.a
  have hlen : ∀ x ∈ l, x.pe.at_.length ≤ 1000 := fun x hx => hs.pa _ (by rw [← h.m]; exact List.mem_map.2 ⟨x, hx, rfl⟩)
  have HLEN := Lib.hid hlen; clear hlen
  have HQ := Lib.hid hq; clear hq
  go_enter Tryz.func195, Tryz.ntmps195
  go_wp2
  rw [HW.out]
  go_loopw [8, 12] (fun _ i wr => ∃ k : Nat, i = .int .i64 k ∧ k ≤ l.length ∧ (l.take k).any p = false ∧ Below w0.heap.size w0 wr) (fun _ i _ => l.length - (intOf i).toNat)
  case atStart => exact ⟨0, rfl, Nat.zero_le _, rfl, Below.refl _ _⟩
  case round =>
    obtain ⟨k, rfl, hks, hn, hbel⟩ := hrel
    by_cases hk : k < l.length
    · have hr1 := hr.below (hb1.trans (hbel.mono (Nat.le_of_lt hz)))
      obtain ⟨b, off, x, rfl, hb, hx, hcs, hsx, hxm⟩ := hr1.at_ k hk
      obtain ⟨g0, g1⟩ := range2p hcs
      have hxl := HLEN.out x hxm
      have hsn := any_snoc p l k x hx
      rw [hn, Bool.false_or] at hsn
      have hpx : p x = (decide (x.pe.el = e) && isIn a x.pe.at_) := by rw [HP.out]
      have hsx1 : Sx (wr.alloc (perO x)) w.heap.size x := hsx.below (below_new12 wr (perO x)) (Nat.le_trans (Nat.le_of_lt hz) hbel.size)
      have hbel1 := hbel.trans ((below_new12 wr (perO x)).mono hbel.size)
      clear hcs hsx hr1
      by_cases he : x.pe.el.toList = e.toList
      · have he' : x.pe.el = e := L_inj (by rw [← toList_L, ← toList_L]; exact he)
        rw [decide_eq_true he', Bool.true_and] at hpx
        obtain ⟨b1, hb1'⟩ : ∃ b1, isIn a x.pe.at_ = b1 := ⟨_, rfl⟩
        rw [hb1'] at hpx
        rw [hpx] at hsn
        have HB := Lib.hid hb1'; have HPX := Lib.hid hpx; have HSN := Lib.hid hsn; have HSX := Lib.hid hsx1; have HBL := Lib.hid hbel1
        clear hb1' hpx hsn hsx1 hbel1 he'
        cases b1 with
        | true =>
          go_wp2_with (go_at_call 149; refine (among1 _ _ x.pe.at_ a _ true HSX.out (by omega) HB.out).mono ?_; rintro r w3 ⟨rfl, rfl⟩)
          go_ret
          exact ⟨ret_bool (by rw [← HQ.out, any_yes p l x hxm HPX.out]; rfl), hb1.trans (HBL.out.mono (Nat.le_of_lt hz))⟩
        | false =>
          go_wp2_with (go_at_call 149; refine (among1 _ _ x.pe.at_ a _ false HSX.out (by omega) HB.out).mono ?_; rintro r w3 ⟨rfl, rfl⟩)
          go_roundw
          case rel => exact ⟨k + 1, by go_num, by omega, HSN.out, HBL.out⟩
          case measure => simp [intOf]; omega
      · have he' : ¬ x.pe.el = e := fun h => he (by rw [h])
        rw [decide_eq_false he', Bool.false_and] at hpx
        rw [hpx] at hsn
        have HSN := Lib.hid hsn; have HBL := Lib.hid hbel1
        clear hpx hsn hsx1 hbel1 he'
        go_wp2
        go_roundw
        case rel => exact ⟨k + 1, by go_num, by omega, HSN.out, HBL.out⟩
        case measure => simp [intOf]; omega
    · rw [List.take_of_length_le (by omega)] at hn
      have hc4 := (hbx.below hbel hz).at_.2.2.2.2.1
      have hva' := sv_on hva (hb1.trans (hbel.mono (Nat.le_of_lt hz)))
      obtain ⟨b1, hb1'⟩ : ∃ b1, isIn a c.ats = b1 := ⟨_, rfl⟩
      have hq' := HQ.out
      rw [hn, Bool.false_or, hb1'] at hq'
      subst hq'
      have HB := Lib.hid hb1'; clear hb1'
      have HBL := Lib.hid hbel
      clear hbel hn HQ
      go_wp2_with (go_at_call 149; refine (among1 _ _ c.ats a _ _ hva' (by have := hs.a; omega) HB.out).mono ?_; rintro r w3 ⟨rfl, rfl⟩)
      go_ret
      exact ⟨rfl, hb1.trans (HBL.out.mono (Nat.le_of_lt hz))⟩

end Go.Proofs.YtgjlfcamgkeibaaGreatDoor.Co

namespace Go.Proofs.YtgjlfcamgkeibaaGreatDoor.Co
set_option maxRecDepth 100000
set_option linter.unusedVariables false
set_option linter.unusedSimpArgs false
open Go.RowKit Ba Fm Fo Nm Rk
set_option maxRecDepth 100000 in
set_option maxHeartbeats 2000000 in
theorem attr1 (v : Value) (c : Cf) (e a : ByteArray) (w : World) (q : Bool) (h : Cv w w.heap.size v c) (hs : Sm c) (ha : a.size ≤ 140737488355328) (hq : attrB12 c e a = q) :
    Calls Tryz.prog 154 #[v, .string e, .string a] w fun r w' => r = .returned (.bool q) ∧ Below w.heap.size w w' := by
  obtain ⟨vE, vR, vA, vP, l, rfl, h⟩ := h
  obtain ⟨al, aa, els, reps, ats, per, cm, da⟩ := c
  obtain ⟨O, hO⟩ : ∃ O : Obj, O = .cells #[.bool al, .bool aa, vE, vR, vA, vP, .bool cm, .bool da] 26 := ⟨_, rfl⟩
  have hb1 : Below w.heap.size w (w.alloc O) := below_new12 w O
  have hz : w.heap.size < (w.alloc O).heap.size := by simp
  have hbx : Bx (w.alloc O) w.heap.size ⟨al, aa, els, reps, ats, per, cm, da⟩ vE vR vA vP := by rw [hO]; exact Bx.new w ⟨al, aa, els, reps, ats, per, cm, da⟩ vE vR vA vP
  have hcv : Cv (w.alloc O) (w.alloc O).heap.size (.agg #[.bool al, .bool aa, vE, vR, vA, vP, .bool cm, .bool da]) ⟨al, aa, els, reps, ats, per, cm, da⟩ := ⟨vE, vR, vA, vP, l, rfl, h.on hb1⟩
  obtain ⟨n, hn⟩ : ∃ n, namedB ⟨al, aa, els, reps, ats, per, cm, da⟩ e a = n := ⟨_, rfl⟩
  have HN := Lib.hid (fun wx hb => named1 (.agg #[.bool al, .bool aa, vE, vR, vA, vP, .bool cm, .bool da]) ⟨al, aa, els, reps, ats, per, cm, da⟩ e a wx n (hcv.on hb) hs hn)
  have H7 := Lib.hid (fun (wx : World) (hb : Below (w.alloc O).heap.size (w.alloc O) wx) => show wx.cell? ⟨w.heap.size, 7, none⟩ = some (.bool da) from (hbx.below hb hz).at_.2.2.2.2.2.2.2)
  unfold attrB12 at hq
  rw [hn] at hq
  have HB1 := Lib.hid hb1
  clear hn hcv h hbx hb1 hs
  subst hO
  cases aa with
  | false =>
    rw [if_neg (by simp)] at hq
    subst hq
    go_enter Tryz.func154, Tryz.ntmps154
    go_wp2_with (go_at_call 195; refine (HN.out _ (Below.refl _ _)).mono ?_; rintro r w3 ⟨rfl, hb3⟩)
    go_ret
    exact ⟨rfl, bt HB1.out hb3⟩
  | true =>
    rw [if_pos rfl] at hq
    cases n with
    | true =>
      rw [Bool.true_or] at hq
      subst hq
      go_enter Tryz.func154, Tryz.ntmps154
      go_wp2_with (go_at_call 195; refine (HN.out _ (Below.refl _ _)).mono ?_; rintro r w3 ⟨rfl, hb3⟩)
      go_ret
      exact ⟨rfl, bt HB1.out hb3⟩
    | false =>
      rw [Bool.false_or] at hq
      obtain ⟨d, hd⟩ : ∃ d, dataB a = d := ⟨_, rfl⟩
      rw [hd] at hq
      have HD := Lib.hid hd; clear hd
      cases da with
      | false =>
        have hq : false = q := by rw [← hq]; rfl
        subst hq
        go_enter Tryz.func154, Tryz.ntmps154
        go_wp2_with (go_at_call 195; refine (HN.out _ (Below.refl _ _)).mono ?_; rintro r w3 ⟨rfl, hb3⟩; have g7 := H7.out _ hb3)
        go_ret
        exact ⟨rfl, bt HB1.out hb3⟩
      | true =>
        have hq : d = q := by rw [← hq]; rfl
        subst hq
        go_enter Tryz.func154, Tryz.ntmps154
        go_wp2_with (first
          | (go_at_call 195; refine (HN.out _ (Below.refl _ _)).mono ?_; rintro r w3 ⟨rfl, hb3⟩; have g7 := H7.out _ hb3)
          | (go_at_call 196; refine (isData1 a _ _ ha HD.out).mono ?_; rintro r w4 ⟨rfl, rfl⟩))
        go_ret
        exact ⟨rfl, bt HB1.out hb3⟩

end Go.Proofs.YtgjlfcamgkeibaaGreatDoor.Co

namespace Go.Proofs.YtgjlfcamgkeibaaGreatDoor.Ml
open Go.RowKit Go.MapKept
open Go.Maps (Keyed)
open Go.ChangeMaps (setBlock heap_setBlock_same heap_setBlock_other)
set_option linter.unusedVariables false
set_option linter.unusedSimpArgs false

def Tab (P : Program) (k : TypeId) (w : World) (b : Nat) (S : Value → Value → Prop) : Prop :=
  ∃ es clock, w.heap[b]? = some (.map es clock) ∧ (∀ e ∈ es.toList, ∃ l, keyOf P k e.key = some l) ∧ ∀ x v, (∃ e ∈ es.toList, e.key = x ∧ e.val = v) ↔ S x v

theorem Tab.made (P : Program) (k : TypeId) (w : World) : Tab P k (w.alloc (.map #[] 0)) w.heap.size fun _ _ => False :=
  ⟨#[], 0, (MapKept.heap_alloc w _).1, by simp, by simp⟩
theorem Tab.congr {P : Program} {k : TypeId} {w : World} {b : Nat} {S S' : Value → Value → Prop} (h : Tab P k w b S) (e : ∀ x v, S x v ↔ S' x v) : Tab P k w b S' := by
  obtain ⟨es, c, h1, h2, h3⟩ := h
  exact ⟨es, c, h1, h2, fun x v => (h3 x v).trans (e x v)⟩
theorem Tab.kept {P : Program} {k : TypeId} {w w' : World} {b : Nat} {S : Value → Value → Prop} (h : Tab P k w b S) (e : w'.heap[b]? = w.heap[b]?) : Tab P k w' b S := by
  obtain ⟨es, c, h1, h2, h3⟩ := h
  exact ⟨es, c, e.trans h1, h2, h3⟩
theorem Tab.lt {P : Program} {k : TypeId} {w : World} {b : Nat} {S : Value → Value → Prop} (h : Tab P k w b S) : b < w.heap.size := by
  obtain ⟨es, c, h1, _⟩ := h
  exact (Array.getElem?_eq_some_iff.1 h1).1
theorem Tab.put {P : Program} {k t e : TypeId} {w : World} {b : Nat} {S : Value → Value → Prop} (h : Tab P k w b S) (K : Keyed P k) (ht : P.underlying t = some (.map k e)) {key val : Value} {l : Lit} (hk : keyOf P k key = some l) (hne : ∀ v, ¬ S key v) :
    ∃ w', (Instr.mapUpdate t (.map (some b)) key val).run P w = .ok () w' ∧ Tab P k w' b (fun x v => S x v ∨ x = key ∧ v = val) ∧ w.grownBy w' (some b) := by
  obtain ⟨es, clock, hb, hks, hS⟩ := h
  rcases K.find w hk es.toList hks with ⟨h1, h2⟩ | ⟨j, e0, h1, h2, h3⟩
  · refine ⟨setBlock w b (.map (es.push ⟨key, val, clock⟩) (clock + 1)), ?_, ⟨_, _, heap_setBlock_same hb _, ?_, ?_⟩, ⟨rfl, rfl, rfl, by simp [setBlock], fun i _ hi => heap_setBlock_other hb _ (fun e => hi (by rw [e]))⟩⟩
    · simp [Instr.mapUpdate, run_underlying ht, MapKept.run_getObj_map hb, K.check w false hk, h1, MapKept.run_setObj_map _ hb, Result.andThen, setBlock]
    · intro x hx
      simp only [Array.toList_push, List.mem_append, List.mem_singleton] at hx
      rcases hx with hx | rfl
      · exact hks x hx
      · exact ⟨_, hk⟩
    · intro x v
      simp only [Array.toList_push, List.mem_append, List.mem_singleton]
      rw [← hS x v]
      constructor
      · rintro ⟨y, hy | rfl, rfl, rfl⟩
        · exact .inl ⟨y, hy, rfl, rfl⟩
        · exact .inr ⟨rfl, rfl⟩
      · rintro (⟨y, hy, h1, h2⟩ | ⟨rfl, rfl⟩)
        · exact ⟨y, .inl hy, h1, h2⟩
        · exact ⟨_, .inr rfl, rfl, rfl⟩
  · exact absurd ((hS key e0.val).1 ⟨e0, List.mem_of_getElem? h2, h3, rfl⟩) (hne _)
theorem Tab.look {P : Program} {k t e : TypeId} {w : World} {b : Nat} {S : Value → Value → Prop} (h : Tab P k w b S) (K : Keyed P k) (ht : P.underlying t = some (.map k e)) {z : Value} (hz : (zeroValue e).run P w = .ok z w) {key : Value} {l : Lit} (hk : keyOf P k key = some l) :
    ((Instr.lookup t (.map (some b)) key true).run P w = .ok (.tuple #[z, .bool false]) w ∧ ∀ v, ¬ S key v) ∨ ∃ v, S key v ∧ (Instr.lookup t (.map (some b)) key true).run P w = .ok (.tuple #[v, .bool true]) w := by
  obtain ⟨es, clock, hb, hks, hS⟩ := h
  rcases K.find w hk es.toList hks with ⟨h1, h2⟩ | ⟨j, e0, h1, h2, h3⟩
  · refine .inl ⟨by simp [Instr.lookup, run_underlying ht, MapKept.run_getObj_map hb, K.check w _ hk, h1, hz, Result.andThen], fun v hv => ?_⟩
    obtain ⟨y, hy, e1, _⟩ := (hS key v).2 hv
    exact h2 y hy e1
  · exact .inr ⟨e0.val, (hS key e0.val).1 ⟨e0, List.mem_of_getElem? h2, h3, rfl⟩, by simp [Instr.lookup, run_underlying ht, MapKept.run_getObj_map hb, K.check w _ hk, h1, Result.andThen]⟩

inductive Job where
  | mk
  | val (v : Value)
  | ins (k v : Value)
def Job.out (b : Nat) : Job → Option Value
  | .mk => some (.map (some b))
  | .val v => some v
  | .ins _ _ => none

section
variable (P : Program) (k t : TypeId) (ops : Array Oper) (D : Nat → Job) (b : Nat)
def sets : Nat → Array Value → Array Value
  | 0, x => x
  | n + 1, x => match (ops[n]?).bind (·.dst), (D n).out b with
    | some d, some v => (sets n x).setIfInBounds d v
    | _, _ => sets n x
def Knows (a : Act) (o : Oper) : Prop := ∀ e ∈ o.after.toList, e.ground = .data → ∀ q d v, ops[e.on]? = some q → q.dst = some d → (D e.on).out b = some v → a.eval (.tmp d) = v
def Does (o : Oper) : Job → Prop
  | .mk => o.op = .makeMap t none
  | .val v => ∀ a w, Knows ops D b a o → (execOp a.eval o).run P w = .ok (.value v) w
  | .ins x v => o.dst = none ∧ (∃ e ∈ o.after.toList, e.ground = .data ∧ e.on = 0) ∧ ∃ m y z, o.op = .insert t m y z ∧ ∀ a, Knows ops D b a o → a.eval m = .map (some b) ∧ a.eval y = x ∧ a.eval z = v
structure Inv (a0 : Act) (w0 : World) (listed : Array Bool) (a : Act) (w : World) : Prop where
  size : listed.size = ops.size
  defers : a.defers = a0.defers
  room : a.tmps.size = a0.tmps.size
  holds : ∀ (i : Nat) (o : Oper) (d : Nat) (v : Value), listed[i]? = some true → ops[i]? = some o → o.dst = some d → (D i).out b = some v → a.tmps[d]? = some v
  stays : ∀ j : Nat, (∀ (i : Nat) (o : Oper), listed[i]? = some true → ops[i]? = some o → o.dst ≠ some j) → a.tmps[j]? = a0.tmps[j]?
  below : Below b w0 w
  world : (listed[0]? = some false ∧ w = w0 ∧ ∀ i x v, listed[i]? = some true → D i ≠ .ins x v) ∨ (listed[0]? = some true ∧ Tab P k w b fun x v => ∃ i, listed[i]? = some true ∧ D i = .ins x v)
end

section
variable {P : Program} {k t e : TypeId} {ops : Array Oper} {D : Nat → Job} {b : Nat} {Q : Exit → Act → World → Prop}

theorem get_set (l : Array Bool) (i j : Nat) (h : i < l.size) : (l.setIfInBounds i true)[j]? = some true ↔ j = i ∨ l[j]? = some true := by
  rw [Array.getElem?_setIfInBounds]
  by_cases e : i = j
  · subst e
    simp [h]
  · rw [if_neg e]
    exact ⟨.inr, fun h => h.resolve_left fun e' => e e'.symm⟩

theorem mem_ready {listed : Array Bool} {i : Nat} (h : i ∈ Region.ready .any ops listed) : ∃ o, ops[i]? = some o ∧ listed[i]? = some false ∧ ∀ x ∈ o.after.toList, x.ground = .data → listed[x.on]? = some true := by
  unfold Region.ready at h
  rw [List.mem_filter, Bool.and_eq_true] at h
  obtain ⟨hi, h1, h2⟩ := h
  rw [List.mem_range] at hi
  refine ⟨ops[i], Array.getElem?_eq_getElem hi, ?_, fun x hx hg => ?_⟩
  · rw [Array.getD_eq_getD_getElem?] at h1
    cases hl : listed[i]? with
    | none => rw [hl] at h1; cases h1
    | some v => rw [hl] at h1; cases v with
      | true => cases h1
      | false => rfl
  · rw [Array.getElem?_eq_getElem hi, Option.map_some, Option.getD_some, ← Array.all_toList, List.all_eq_true] at h2
    have := h2 x hx
    rw [Region.binds, hg] at this
    rw [Array.getD_eq_getD_getElem?] at this
    cases hl : listed[x.on]? with
    | none => rw [hl] at this; simp at this
    | some v => rw [hl] at this; simp at this; rw [this]

theorem ready_some {listed : Array Bool} (hord : ∀ (i : Nat) (o : Oper), ops[i]? = some o → ∀ x ∈ o.after.toList, x.on < i) (hs : listed.size = ops.size) (hr : Region.ready .any ops listed = []) : ∀ i < ops.size, listed[i]? = some true := by
  intro i
  induction i using Nat.strongRecOn with
  | ind i ih =>
    intro hi
    cases hl : listed[i]? with
    | none => rw [Array.getElem?_eq_none_iff] at hl; omega
    | some v =>
      cases v with
      | true => rfl
      | false =>
        exfalso
        have : i ∈ Region.ready .any ops listed := by
          unfold Region.ready
          rw [List.mem_filter, List.mem_range, Bool.and_eq_true]
          refine ⟨hi, by rw [Array.getD_eq_getD_getElem?, hl]; rfl, ?_⟩
          rw [Array.getElem?_eq_getElem hi, Option.map_some, Option.getD_some, ← Array.all_toList, List.all_eq_true]
          intro x hx
          have hlt := hord i _ (Array.getElem?_eq_getElem hi) x hx
          rw [Array.getD_eq_getD_getElem?, ih _ hlt (by omega)]
          simp
        rw [hr] at this
        cases this

theorem step {a0 : Act} {w0 : World} {listed : Array Bool} {a : Act} {w : World} {i : Nat} {o : Oper} (K : Keyed P k) (ht : P.underlying t = some (.map k e)) (hb : b = w0.heap.size)
    (hguard : o.guard = none) (hslot : ∀ d, o.dst = some d → d < a0.tmps.size) (hone : ∀ j q d, ops[j]? = some q → q.dst = some d → o.dst = some d → j = i)
    (hdoes : Does P t ops D b o (D i)) (hmk0 : D 0 = .mk) (hmk : D i = .mk → i = 0) (hout : ∀ d, o.dst = some d → ∃ v, (D i).out b = some v)
    (hkeys : ∀ j x v, D j = .ins x v → ∃ l, keyOf P k x = some l) (hdist : ∀ j x v v', D i = .ins x v → D j = .ins x v' → j = i)
    (h : Inv P k ops D b a0 w0 listed a w) (ho : ops[i]? = some o) (hl : listed[i]? = some false) (hafter : ∀ x ∈ o.after.toList, x.ground = .data → listed[x.on]? = some true) :
    o.wp P a w (fun a' w' => Inv P k ops D b a0 w0 (listed.setIfInBounds i true) a' w') Q := by
  have hlt : i < listed.size := (Array.getElem?_eq_some_iff.1 hl).1
  have hkn : Knows ops D b a o := by
    intro x hx hg q d v hq hd hv
    have := h.holds x.on q d v (hafter x hx hg) hq hd hv
    show a.tmps.getD d undef = v
    rw [Array.getD_eq_getD_getElem?, this]
    rfl
  -- the slots behind it
  have hput : ∀ (v : Value) (w' : World), (∀ d, o.dst = some d → (D i).out b = some v) → Below b w0 w' →
      ((listed.setIfInBounds i true)[0]? = some false ∧ w' = w0 ∧ (∀ j x v, (listed.setIfInBounds i true)[j]? = some true → D j ≠ .ins x v) ∨ (listed.setIfInBounds i true)[0]? = some true ∧ Tab P k w' b fun x v => ∃ j, (listed.setIfInBounds i true)[j]? = some true ∧ D j = .ins x v) →
      Inv P k ops D b a0 w0 (listed.setIfInBounds i true) (a.put o.dst v) w' := by
    intro v w' hv hbel hw
    cases hd : o.dst with
    | none =>
      refine ⟨by rw [Array.size_setIfInBounds, h.size], h.defers, h.room, ?_, ?_, hbel, hw⟩
      · intro j q d u hj hq hqd hu
        rcases (get_set listed i j hlt).1 hj with rfl | hj
        · rw [ho] at hq
          cases hq
          rw [hd] at hqd
          cases hqd
        · exact h.holds j q d u hj hq hqd hu
      · intro j hj
        exact h.stays j fun i' o' h1 h2 => hj i' o' ((get_set listed i i' hlt).2 (.inr h1)) h2
    | some d =>
      have hds : d < a.tmps.size := by rw [h.room]; exact hslot d hd
      refine ⟨by rw [Array.size_setIfInBounds, h.size], h.defers, ?_, ?_, ?_, hbel, hw⟩
      · show (a.tmps.setIfInBounds d v).size = _
        rw [Array.size_setIfInBounds, h.room]
      · intro j q d' u hj hq hqd hu
        show (a.tmps.setIfInBounds d v)[d']? = _
        rw [Array.getElem?_setIfInBounds]
        rcases (get_set listed i j hlt).1 hj with rfl | hj1
        · rw [ho] at hq
          cases hq
          rw [hd] at hqd
          cases hqd
          rw [if_pos rfl, if_pos hds, ← hu, hv d hd]
        · by_cases e : d = d'
          · subst e
            have := hone j q d hq hqd hd
            subst this
            rw [hl] at hj1
            cases hj1
          · rw [if_neg e]
            exact h.holds j q d' u hj1 hq hqd hu
      · intro j hj
        show (a.tmps.setIfInBounds d v)[j]? = _
        have hne : d ≠ j := fun e => hj i o ((get_set listed i i hlt).2 (.inl rfl)) ho (by rw [hd, e])
        rw [Array.getElem?_setIfInBounds, if_neg hne]
        exact h.stays j fun i' o' h1 h2 => hj i' o' ((get_set listed i i' hlt).2 (.inr h1)) h2
  unfold Oper.wp
  cases hD : D i with
  | mk =>
    rw [hD] at hdoes
    have e0 := hmk hD
    subst e0
    have hop : o.op = .makeMap t none := hdoes
    have hw0 : w = w0 := by
      rcases h.world with ⟨_, h2, _⟩ | ⟨h1, _⟩
      · exact h2
      · rw [hl] at h1
        cases h1
    subst hw0
    have hrun : (execOp a.eval o).run P w = .ok (.value (.map (some b))) (w.alloc (.map #[] 0)) := by
      unfold execOp
      rw [hop]
      simp [Instr.makeMap, run_underlying ht, Result.andThen, hb]
    rw [hrun]
    refine hput _ _ (fun d hd => by rw [hD]; rfl) ((Below.refl _ _).alloc (by omega) _) (.inr ⟨(get_set listed 0 0 hlt).2 (.inl rfl), ?_⟩)
    rw [hb]
    refine (Tab.made P k w).congr fun x v => ⟨fun h => h.elim, fun ⟨j, hj, hDj⟩ => ?_⟩
    rcases (get_set listed 0 j hlt).1 hj with rfl | hj
    · rw [hD] at hDj
      cases hDj
    · rcases h.world with ⟨_, _, h3⟩ | ⟨h1, _⟩
      · exact h3 j x v hj hDj
      · rw [hl] at h1
        cases h1
  | val v =>
    rw [hD] at hdoes
    rw [hdoes a w hkn]
    refine hput _ _ (fun d hd => by rw [hD]; rfl) h.below ?_
    have hno : ∀ j x u, (listed.setIfInBounds i true)[j]? = some true → D j = .ins x u → listed[j]? = some true := by
      intro j x u hj hDj
      rcases (get_set listed i j hlt).1 hj with rfl | hj
      · rw [hD] at hDj
        cases hDj
      · exact hj
    rcases h.world with ⟨h1, h2, h3⟩ | ⟨h1, h2⟩
    · by_cases e0 : i = 0
      · subst e0
        rw [hmk0] at hD
        cases hD
      · refine .inl ⟨by rw [Array.getElem?_setIfInBounds, if_neg e0]; exact h1, h2, fun j x u hj hDj => h3 j x u (hno j x u hj hDj) hDj⟩
    · exact .inr ⟨(get_set listed i 0 hlt).2 (.inr h1), h2.congr fun x u => ⟨fun ⟨j, hj, hDj⟩ => ⟨j, (get_set listed i j hlt).2 (.inr hj), hDj⟩, fun ⟨j, hj, hDj⟩ => ⟨j, hno j x u hj hDj, hDj⟩⟩⟩
  | ins x v =>
    rw [hD] at hdoes
    obtain ⟨hdst, ⟨x0, hx0, hg0, hx0'⟩, m, y, z, hop, hev⟩ := hdoes
    obtain ⟨em, ey, ez⟩ := hev a hkn
    have h0 := hafter x0 hx0 hg0
    rw [hx0'] at h0
    rcases h.world with ⟨h1, _⟩ | ⟨_, hT⟩
    · rw [h0] at h1
      cases h1
    · obtain ⟨l, hkl⟩ := hkeys i x v hD
      obtain ⟨w', hrun, hT', hg⟩ := hT.put K ht (val := v) hkl (fun u ⟨j, hj, hDj⟩ => by
        have := hdist j x v u hD hDj
        subst this
        rw [hl] at hj
        cases hj)
      have hrun2 : (execOp a.eval o).run P w = .ok .skip w' := by
        unfold execOp
        rw [hop]
        simp [em, ey, ez, hrun, Result.andThen]
      rw [hrun2]
      have hlt' := hT.lt
      refine hput _ _ (fun d hd => by rw [hdst] at hd; cases hd) (h.below.grown hg (by omega) (fun k hk => by cases hk; exact Nat.le_refl _)) (.inr ⟨(get_set listed i 0 hlt).2 (.inr h0), hT'.congr fun x' v' => ?_⟩)
      constructor
      · rintro (⟨j, hj, hDj⟩ | ⟨rfl, rfl⟩)
        · exact ⟨j, (get_set listed i j hlt).2 (.inr hj), hDj⟩
        · exact ⟨i, (get_set listed i i hlt).2 (.inl rfl), hD⟩
      · rintro ⟨j, hj, hDj⟩
        rcases (get_set listed i j hlt).1 hj with rfl | hj
        · rw [hD] at hDj
          cases hDj
          exact .inr ⟨rfl, rfl⟩
        · exact .inl ⟨j, hj, hDj⟩

theorem run_inv {a0 : Act} {w0 : World} (K : Keyed P k) (ht : P.underlying t = some (.map k e)) (hb : b = w0.heap.size)
    (hguard : ∀ (i : Nat) (o : Oper), ops[i]? = some o → o.guard = none) (hslot : ∀ (i : Nat) (o : Oper) (d : Nat), ops[i]? = some o → o.dst = some d → d < a0.tmps.size)
    (hone : ∀ (i j : Nat) (o q : Oper) (d : Nat), ops[i]? = some o → ops[j]? = some q → o.dst = some d → q.dst = some d → j = i)
    (hdoes : ∀ (i : Nat) (o : Oper), ops[i]? = some o → Does P t ops D b o (D i)) (hmk0 : D 0 = .mk) (hmk : ∀ i, D i = .mk → i = 0)
    (hout : ∀ (i : Nat) (o : Oper) (d : Nat), ops[i]? = some o → o.dst = some d → ∃ v, (D i).out b = some v)
    (hkeys : ∀ j x v, D j = .ins x v → ∃ l, keyOf P k x = some l) (hdist : ∀ i j x v v', D i = .ins x v → D j = .ins x v' → j = i)
    (hQ : ∀ listed a w, Inv P k ops D b a0 w0 listed a w → Region.ready .any ops listed = [] → Q .normal a w) :
    ∀ (fuel : Nat) (listed : Array Bool) (a : Act) (w : World), listed.toList.count false ≤ fuel → Inv P k ops D b a0 w0 listed a w → wpAny P .any ops Q fuel listed a w
  | 0, listed, a, w, hc, h => by
    have : Region.ready .any ops listed = [] := by
      cases hr : Region.ready .any ops listed with
      | nil => rfl
      | cons i r =>
        exfalso
        obtain ⟨o, ho, hl, _⟩ := mem_ready (ops := ops) (listed := listed) (i := i) (by rw [hr]; exact List.mem_cons_self)
        have := List.count_pos_iff.2 (List.mem_of_getElem? (l := listed.toList) (by simpa using hl))
        omega
    exact ⟨this, hQ listed a w h this⟩
  | fuel + 1, listed, a, w, hc, h => by
    refine ⟨hQ listed a w h, fun i hi => ?_⟩
    obtain ⟨o, ho, hl, hafter⟩ := mem_ready hi
    unfold wpOp
    rw [ho]
    have hw : Region.wanted o (yielded ops a.tmps) = true := by
      unfold Region.wanted
      rw [hguard i o ho]
    simp only [hw, if_true]
    refine .inl (Oper.wp_mono (fun a' w' h' => run_inv K ht hb hguard hslot hone hdoes hmk0 hmk hout hkeys hdist hQ fuel _ a' w' ?_ h') (step K ht hb (hguard i o ho) (fun d hd => hslot i o d ho hd) (fun j q d hq hqd hd => hone i j o q d ho hq hd hqd) (hdoes i o ho) hmk0 (hmk i) (fun d hd => hout i o d ho hd) hkeys (fun j x v v' h1 h2 => hdist i j x v v' h1 h2) h ho hl hafter))
    have hlt : i < listed.toList.length := by simpa using (Array.getElem?_eq_some_iff.1 hl).1
    have hli : listed.toList[i] = false := by
      have := (Array.getElem?_eq_some_iff.1 hl).2
      simpa using this
    have hpos := List.count_pos_iff.2 (List.mem_of_getElem? (l := listed.toList) (by simpa using hl))
    rw [Array.toList_setIfInBounds, List.count_set hlt, hli, if_pos (show (false == false) = true from rfl), if_neg (show ¬ (true == false) = true by decide)]
    omega

theorem get_sets {x : Array Value} (hone : ∀ (i j : Nat) (o q : Oper) (d : Nat), ops[i]? = some o → ops[j]? = some q → o.dst = some d → q.dst = some d → j = i)
    (hslot : ∀ (i : Nat) (o : Oper) (d : Nat), ops[i]? = some o → o.dst = some d → d < x.size) (hout : ∀ (i : Nat) (o : Oper) (d : Nat), ops[i]? = some o → o.dst = some d → ∃ v, (D i).out b = some v) :
    ∀ n, (sets ops D b n x).size = x.size ∧ (∀ (i : Nat) (o : Oper) (d : Nat) (v : Value), i < n → ops[i]? = some o → o.dst = some d → (D i).out b = some v → (sets ops D b n x)[d]? = some v) ∧ ∀ j : Nat, (∀ (i : Nat) (o : Oper), i < n → ops[i]? = some o → o.dst ≠ some j) → (sets ops D b n x)[j]? = x[j]?
  | 0 => ⟨rfl, fun i o d v h => by omega, fun j _ => rfl⟩
  | n + 1 => by
    obtain ⟨h1, h2, h3⟩ := get_sets hone hslot hout n
    cases hn : ops[n]? with
    | none =>
      have e : sets ops D b (n + 1) x = sets ops D b n x := by rw [sets, hn]; rfl
      rw [e]
      refine ⟨h1, fun i o d v hi ho hd hv => ?_, fun j hj => h3 j fun i o hi => hj i o (by omega)⟩
      rcases Nat.lt_succ_iff_lt_or_eq.1 hi with hi | rfl
      · exact h2 i o d v hi ho hd hv
      · rw [hn] at ho
        cases ho
    | some q =>
      cases hd : q.dst with
      | none =>
        have e : sets ops D b (n + 1) x = sets ops D b n x := by rw [sets, hn, Option.bind_some, hd]
        rw [e]
        refine ⟨h1, fun i o d v hi ho hd' hv => ?_, fun j hj => h3 j fun i o hi => hj i o (by omega)⟩
        rcases Nat.lt_succ_iff_lt_or_eq.1 hi with hi | rfl
        · exact h2 i o d v hi ho hd' hv
        · rw [hn] at ho
          cases ho
          rw [hd] at hd'
          cases hd'
      | some d =>
        obtain ⟨v, hv⟩ := hout n q d hn hd
        have e : sets ops D b (n + 1) x = (sets ops D b n x).setIfInBounds d v := by rw [sets, hn, Option.bind_some, hd, hv]
        rw [e]
        have hlt : d < (sets ops D b n x).size := by rw [h1]; exact hslot n q d hn hd
        refine ⟨by rw [Array.size_setIfInBounds, h1], fun i o d' v' hi ho hd' hv' => ?_, fun j hj => ?_⟩
        · rw [Array.getElem?_setIfInBounds]
          rcases Nat.lt_succ_iff_lt_or_eq.1 hi with hi | rfl
          · have hne : d ≠ d' := fun e => by
              subst e
              have := hone i n o q d ho hn hd' hd
              omega
            rw [if_neg hne]
            exact h2 i o d' v' hi ho hd' hv'
          · rw [hn] at ho
            cases ho
            rw [hd] at hd'
            cases hd'
            rw [if_pos rfl, if_pos hlt, ← hv', hv]
        · have hne : d ≠ j := fun e => hj n q (by omega) hn (by rw [hd, e])
          rw [Array.getElem?_setIfInBounds, if_neg hne]
          exact h3 j fun i o hi => hj i o (by omega)

theorem region_lit {a0 : Act} {w : World} {id : Nat} (hm : P.follows .mixedOrders = true) (K : Keyed P k) (ht : P.underlying t = some (.map k e)) (hb : b = w.heap.size) (hn : 0 < ops.size)
    (hguard : ∀ (i : Nat) (o : Oper), ops[i]? = some o → o.guard = none) (hslot : ∀ (i : Nat) (o : Oper) (d : Nat), ops[i]? = some o → o.dst = some d → d < a0.tmps.size)
    (hone : ∀ (i j : Nat) (o q : Oper) (d : Nat), ops[i]? = some o → ops[j]? = some q → o.dst = some d → q.dst = some d → j = i)
    (hord : ∀ (i : Nat) (o : Oper), ops[i]? = some o → ∀ x ∈ o.after.toList, x.on < i)
    (hdoes : ∀ (i : Nat) (o : Oper), ops[i]? = some o → Does P t ops D b o (D i)) (hmk0 : D 0 = .mk) (hmk : ∀ i, D i = .mk → i = 0)
    (hout : ∀ (i : Nat) (o : Oper) (d : Nat), ops[i]? = some o → o.dst = some d → ∃ v, (D i).out b = some v)
    (hkeys : ∀ j x v, D j = .ins x v → ∃ l, keyOf P k x = some l) (hdist : ∀ i j x v v', D i = .ins x v → D j = .ins x v' → j = i)
    (hQ : ∀ w', Below b w.drew w' → Tab P k w' b (fun x v => ∃ i < ops.size, D i = .ins x v) → Q .normal ⟨sets ops D b ops.size a0.tmps, a0.defers⟩ w') :
    (Code.region id ops true).wp P Q a0 w := by
  refine wp_region_any hm (run_inv (w0 := w.drew) K ht hb hguard hslot hone hdoes hmk0 hmk hout hkeys hdist ?_ _ _ _ _ ?_ ?_)
  · intro listed a w' h hr
    have hall := ready_some hord h.size hr
    have hT : Tab P k w' b fun x v => ∃ i < ops.size, D i = .ins x v := by
      rcases h.world with ⟨h1, _⟩ | ⟨_, h2⟩
      · rw [hall 0 hn] at h1
        cases h1
      · refine h2.congr fun x v => ⟨fun ⟨i, hi, hD⟩ => ⟨i, ?_, hD⟩, fun ⟨i, hi, hD⟩ => ⟨i, hall i hi, hD⟩⟩
        have := (Array.getElem?_eq_some_iff.1 hi).1
        rw [h.size] at this
        exact this
    obtain ⟨s1, s2, s3⟩ := get_sets (ops := ops) (D := D) (b := b) (x := a0.tmps) hone hslot hout ops.size
    have htm : a.tmps = sets ops D b ops.size a0.tmps := by
      apply Array.ext_getElem?
      intro j
      by_cases hj : ∃ (i : Nat) (o : Oper), ops[i]? = some o ∧ o.dst = some j
      · obtain ⟨i, o, ho, hd⟩ := hj
        obtain ⟨v, hv⟩ := hout i o j ho hd
        have hi : i < ops.size := (Array.getElem?_eq_some_iff.1 ho).1
        rw [h.holds i o j v (hall i hi) ho hd hv, s2 i o j v hi ho hd hv]
      · rw [h.stays j fun i o _ ho hd => hj ⟨i, o, ho, hd⟩, s3 j fun i o _ ho hd => hj ⟨i, o, ho, hd⟩]
    have ha : a = ⟨sets ops D b ops.size a0.tmps, a0.defers⟩ := by
      obtain ⟨x, y⟩ := a
      have h2 := h.defers
      simp only at htm h2
      rw [htm, h2]
    rw [ha]
    exact hQ w' h.below hT
  · rw [Array.toList_replicate, List.count_replicate_self]
    exact Nat.le_refl _
  · have hf : ∀ i : Nat, (Array.replicate ops.size false)[i]? ≠ some true := by
      intro i hi
      rw [Array.getElem?_replicate] at hi
      split at hi <;> cases hi
    refine ⟨by rw [Array.size_replicate], rfl, rfl, fun i o d v hi => absurd hi (hf i), fun j _ => rfl, Below.refl _ _, .inl ⟨?_, rfl, fun i x v hi => absurd hi (hf i)⟩⟩
    rw [Array.getElem?_replicate, if_pos hn]

/-! ### Keys that are pairs of strings, and all that is asked as tests. -/
def pairV (e a : ByteArray) : Value := .agg #[.string e, .string a]
theorem pairV_inj {e a e' a' : ByteArray} (h : pairV e a = pairV e' a') : e = e' ∧ a = a' := by
  unfold pairV at h
  simp only [Value.agg.injEq, Array.mk.injEq, List.cons.injEq, Value.string.injEq, and_true] at h
  exact h
def ent : Job → Option (ByteArray × ByteArray × Value)
  | .ins (.agg cs) v => match cs.toList with
    | [.string e, .string a] => some (e, a, v)
    | _ => none
  | _ => none
theorem ent_some {j : Job} {e a : ByteArray} {v : Value} (h : ent j = some (e, a, v)) : j = .ins (pairV e a) v := by
  unfold ent at h
  split at h
  · rename_i cs u
    split at h
    · rename_i e' a' hc
      cases h
      have : cs = #[.string e, .string a] := Array.toList_inj.1 hc
      rw [this]
      rfl
    · cases h
  · cases h
def isIns : Job → Bool
  | .ins _ _ => true
  | _ => false
def isMk : Job → Bool
  | .mk => true
  | _ => false
def at_ (l : List Job) (i : Nat) : Job := (l[i]?).getD (.val undef)
theorem at_mem {l : List Job} {i : Nat} (h : i < l.length) : at_ l i ∈ l := by
  unfold at_
  rw [List.getElem?_eq_getElem h]
  exact List.getElem_mem h
theorem at_out {l : List Job} {i : Nat} (h : ¬ i < l.length) : at_ l i = .val undef := by
  unfold at_
  rw [List.getElem?_eq_none (by omega)]
  rfl
def AllDo (P : Program) (t : TypeId) (ops : Array Oper) (D : Nat → Job) (b : Nat) : List Oper → List Job → Prop
  | o :: r, j :: s => Does P t ops D b o j ∧ AllDo P t ops D b r s
  | [], [] => True
  | _, _ => False
theorem allDo_at {D : Nat → Job} : ∀ {r : List Oper} {s : List Job}, AllDo P t ops D b r s → ∀ (i : Nat) (o : Oper), r[i]? = some o → Does P t ops D b o (at_ s i)
  | o :: r, j :: s, h, 0, q, hq => by
    cases hq
    exact h.1
  | o :: r, j :: s, h, i + 1, q, hq => allDo_at h.2 i q hq
  | [], [], _, i, q, hq => by cases hq
  | [], _ :: _, h, _, _, _ => h.elim
  | _ :: _, [], h, _, _, _ => h.elim

def outs (l : List Job) (i : Nat) : Bool := !isIns (at_ l i)
def fine (ops : Array Oper) (room : Nat) (l : List Job) : Bool :=
  decide (0 < ops.size) && decide (l.length = ops.size) && (ops.toList.all fun o => o.guard.isNone) && (ops.toList.all fun o => match o.dst with | some d => decide (d < room) | none => true) &&
  ((List.range ops.size).all fun i => (ops[i]?).all fun o => o.after.toList.all fun x => decide (x.on < i)) &&
  ((List.range ops.size).all fun i => (List.range ops.size).all fun j => decide (i = j) || !((ops[i]?).bind (·.dst)).isSome || !decide ((ops[i]?).bind (·.dst) = (ops[j]?).bind (·.dst))) &&
  isMk (at_ l 0) && ((List.range ops.size).all fun i => !isMk (at_ l i) || decide (i = 0)) &&
  ((List.range ops.size).all fun i => !((ops[i]?).bind (·.dst)).isSome || outs l i) &&
  (l.all fun j => !isIns j || (ent j).isSome) &&
  ((List.range ops.size).all fun i => (List.range ops.size).all fun j => decide (i = j) || !(ent (at_ l i)).isSome || !decide ((ent (at_ l i)).map (fun x => (x.1, x.2.1)) = (ent (at_ l j)).map (fun x => (x.1, x.2.1))))

theorem knows_at {D : Nat → Job} {a : Act} {o : Oper} (h : Knows ops D b a o) (i : Nat) {d : Nat} {v : Value} (he : (⟨i, .data⟩ : Edge) ∈ o.after.toList) (hq : (ops[i]?).bind (·.dst) = some d) (hv : (D i).out b = some v) : a.eval (.tmp d) = v := by
  cases hi : ops[i]? with
  | none => rw [hi] at hq; cases hq
  | some q =>
    rw [hi, Option.bind_some] at hq
    exact h _ he rfl q d v hi hq hv
theorem does_ins {D : Nat → Job} {o : Oper} {m y z : Nat} {x v : Value} (i0 i1 i2 : Nat) (hd : o.dst = none) (ho : o.op = .insert t (.tmp m) (.tmp y) (.tmp z)) (hi0 : i0 = 0) (h0 : (⟨i0, .data⟩ : Edge) ∈ o.after.toList) (h1 : (⟨i1, .data⟩ : Edge) ∈ o.after.toList) (h2 : (⟨i2, .data⟩ : Edge) ∈ o.after.toList)
    (q0 : (ops[i0]?).bind (·.dst) = some m) (q1 : (ops[i1]?).bind (·.dst) = some y) (q2 : (ops[i2]?).bind (·.dst) = some z) (v0 : (D i0).out b = some (.map (some b))) (v1 : (D i1).out b = some x) (v2 : (D i2).out b = some v) : Does P t ops D b o (.ins x v) := by
  subst hi0
  exact ⟨hd, ⟨_, h0, rfl, rfl⟩, _, _, _, ho, fun a h => ⟨knows_at h 0 h0 q0 v0, knows_at h i1 h1 q1 v1, knows_at h i2 h2 q2 v2⟩⟩
theorem does_insC {D : Nat → Job} {o : Oper} {m y : Nat} {x v : Value} (i0 i1 : Nat) (hd : o.dst = none) (ho : o.op = .insert t (.tmp m) (.tmp y) (.const v)) (hi0 : i0 = 0) (h0 : (⟨i0, .data⟩ : Edge) ∈ o.after.toList) (h1 : (⟨i1, .data⟩ : Edge) ∈ o.after.toList)
    (q0 : (ops[i0]?).bind (·.dst) = some m) (q1 : (ops[i1]?).bind (·.dst) = some y) (v0 : (D i0).out b = some (.map (some b))) (v1 : (D i1).out b = some x) : Does P t ops D b o (.ins x v) := by
  subst hi0
  exact ⟨hd, ⟨_, h0, rfl, rfl⟩, _, _, _, ho, fun a h => ⟨knows_at h 0 h0 q0 v0, knows_at h i1 h1 q1 v1, rfl⟩⟩
theorem does_move {D : Nat → Job} {o : Oper} {m : Nat} {v : Value} (i : Nat) (ho : o.op = .move (.tmp m) ∨ o.op = .assign (.tmp m)) (h0 : (⟨i, .data⟩ : Edge) ∈ o.after.toList) (q0 : (ops[i]?).bind (·.dst) = some m) (v0 : (D i).out b = some v) : Does P t ops D b o (.val v) := by
  intro a w h
  have := knows_at h i h0 q0 v0
  rcases ho with ho | ho
  · unfold execOp; rw [ho]; show Sem.run P (pure (Next.value (a.eval (.tmp m)))) w = _; rw [this]; rfl
  · unfold execOp; rw [ho]; show Sem.run P (pure (Next.value (a.eval (.tmp m)))) w = _; rw [this]; rfl

theorem region_pairs {a0 : Act} {w : World} {id : Nat} {l : List Job} (x : Array Value) (hm : P.follows .mixedOrders = true) (K : Keyed P k) (ht : P.underlying t = some (.map k e)) (hb : b = w.heap.size)
    (hf : fine ops a0.tmps.size l = true) (hdo : AllDo P t ops (at_ l) b ops.toList l)
    (hkeys : ∀ e a v, (e, a, v) ∈ l.filterMap ent → ∃ x, keyOf P k (pairV e a) = some x)
    (hx : sets ops (at_ l) b ops.size a0.tmps = x) (hQ : ∀ w', Below b w.drew w' → Tab P k w' b (fun x v => ∃ e a, x = pairV e a ∧ (e, a, v) ∈ l.filterMap ent) → Q .normal ⟨x, a0.defers⟩ w') :
    (Code.region id ops true).wp P Q a0 w := by
  subst hx
  unfold fine at hf
  simp only [Bool.and_eq_true] at hf
  obtain ⟨⟨⟨⟨⟨⟨⟨⟨⟨⟨f1, f2⟩, f3⟩, f4⟩, f5⟩, f6⟩, f7⟩, f8⟩, f9⟩, f10⟩, f11⟩ := hf
  have f1 := of_decide_eq_true f1
  have f2 := of_decide_eq_true f2
  have mem {i : Nat} {o : Oper} (h : ops[i]? = some o) : i < ops.size ∧ o ∈ ops.toList := ⟨(Array.getElem?_eq_some_iff.1 h).1, Array.mem_toList_iff.2 (Array.mem_of_getElem? h)⟩
  have hpairs : ∀ i x v, at_ l i = .ins x v → i < ops.size ∧ ∃ e a, x = pairV e a ∧ ent (at_ l i) = some (e, a, v) := by
    intro i x v h
    have hi : i < l.length := by
      by_cases hi : i < l.length
      · exact hi
      · rw [at_out hi] at h
        cases h
    have := List.all_eq_true.1 f10 _ (at_mem hi)
    rw [h] at this
    rw [f2] at hi
    refine ⟨hi, ?_⟩
    cases he : ent (.ins x v) with
    | none => rw [he] at this; cases this
    | some z =>
      obtain ⟨e, a, u⟩ := z
      have h2 := ent_some he
      injection h2 with h3 h4
      exact ⟨e, a, h3, by rw [h, he, h4]⟩
  refine region_lit (b := b) (D := at_ l) hm K ht hb f1 ?_ ?_ ?_ ?_ (fun i o ho => allDo_at hdo i o (by simpa using ho)) ?_ ?_ ?_ ?_ ?_ ?_
  · intro i o ho
    have := List.all_eq_true.1 f3 o (mem ho).2
    cases hg : o.guard with
    | none => rfl
    | some x => rw [hg] at this; cases this
  · intro i o d ho hd
    have := List.all_eq_true.1 f4 o (mem ho).2
    rw [hd] at this
    exact of_decide_eq_true this
  · intro i j o q d ho hq hd hqd
    have := List.all_eq_true.1 (List.all_eq_true.1 f6 i (List.mem_range.2 (mem ho).1)) j (List.mem_range.2 (mem hq).1)
    rw [ho, hq, Option.bind_some, Option.bind_some, hd, hqd] at this
    simp at this
    exact this.symm
  · intro i o ho x hx
    have := List.all_eq_true.1 f5 i (List.mem_range.2 (mem ho).1)
    rw [ho] at this
    exact of_decide_eq_true (List.all_eq_true.1 this x hx)
  · cases h : at_ l 0 with
    | mk => rfl
    | val v => rw [h] at f7; cases f7
    | ins x v => rw [h] at f7; cases f7
  · intro i h
    by_cases hi : i < ops.size
    · have := List.all_eq_true.1 f8 i (List.mem_range.2 hi)
      rw [h] at this
      simpa [isMk] using this
    · rw [at_out (by omega)] at h
      cases h
  · intro i o d ho hd
    have := List.all_eq_true.1 f9 i (List.mem_range.2 (mem ho).1)
    rw [ho, Option.bind_some, hd, outs] at this
    cases h : at_ l i with
    | mk => exact ⟨_, rfl⟩
    | val v => exact ⟨_, rfl⟩
    | ins x v => rw [h] at this; cases this
  · intro j x v h
    obtain ⟨hj, e, a, rfl, he⟩ := hpairs j x v h
    exact hkeys e a v (List.mem_filterMap.2 ⟨_, at_mem (by omega), he⟩)
  · intro i j x v v' h h'
    obtain ⟨hi, e, a, rfl, he⟩ := hpairs i x v h
    obtain ⟨hj, e', a', hx, he'⟩ := hpairs j _ v' h'
    obtain ⟨rfl, rfl⟩ := pairV_inj hx
    have := List.all_eq_true.1 (List.all_eq_true.1 f11 i (List.mem_range.2 hi)) j (List.mem_range.2 hj)
    rw [he, he'] at this
    simp at this
    exact this.symm
  · intro w' hw hT
    refine hQ w' hw (hT.congr fun x v => ⟨fun ⟨i, hi, hD⟩ => ?_, fun ⟨e, a, hx, hmem⟩ => ?_⟩)
    · obtain ⟨_, e, a, hx, he⟩ := hpairs i x v hD
      exact ⟨e, a, hx, List.mem_filterMap.2 ⟨_, at_mem (by omega), he⟩⟩
    · obtain ⟨j, hj, he⟩ := List.mem_filterMap.1 hmem
      obtain ⟨i, hi⟩ := List.getElem?_of_mem hj
      have hil : i < l.length := (List.getElem?_eq_some_iff.1 hi).1
      refine ⟨i, by omega, ?_⟩
      rw [at_, hi, Option.getD_some, ent_some he, hx]
end
end Go.Proofs.YtgjlfcamgkeibaaGreatDoor.Ml

namespace Go.Proofs.YtgjlfcamgkeibaaGreatDoor.Rk
set_option maxRecDepth 100000
set_option linter.unusedVariables false
set_option linter.unusedSimpArgs false
open Go.RowKit Go.Maps Ba Fm Lk Ml
theorem lawPair : Keyed Tryz.prog 152 := Keyed.of_law (deep_law_gate Ro.laidOut (of_decide_eq_true (by kernel_rfl)) (of_decide_eq_true (by kernel_rfl)) (by kernel_rfl) (by kernel_rfl))
theorem key_pair {e a : ByteArray} (he : e.size ≤ maxLen) (ha : a.size ≤ maxLen) : ∃ x, keyOf Tryz.prog 152 (pairV e a) = some x := by
  have h1 : Tryz.prog.keyType 152 = true := by kernel_rfl
  have h2 : (pairV e a).formed Tryz.prog 152 = true := by kernel_rfl
  have h4 : ∃ n, Tryz.prog.types.size + 1 = n + 2 := ⟨_, rfl⟩
  obtain ⟨n, hn⟩ := h4
  have h3 : Tryz.prog.keyLits (Tryz.prog.types.size + 1) 152 (pairV e a).cells.toList = some [.string e.data.toList, .string a.data.toList] := by
    rw [hn]
    have e0 : (pairV e a).cells.toList = [.string e, .string a] := rfl
    have e1 : Tryz.prog.cellsOf 152 = 2 := by kernel_rfl
    have e2 : Tryz.prog.cellsOf 9 = 1 := by kernel_rfl
    rw [e0]
    simp [Program.keyLits, Tryz.underlying152, Tryz.underlying9, e1, e2, he, ha]
  unfold keyOf
  simp only [Tryz.underlying152, h1, h2, h3, Bool.and_self, if_true, Option.map_some]
  exact ⟨_, rfl⟩

theorem leads_small : ∀ p ∈ leadsL, p.1.size ≤ maxLen ∧ p.2.size ≤ maxLen := by
  have h : (leadsL.all fun p => decide (p.1.size ≤ 20) && decide (p.2.size ≤ 20)) = true := by decide +kernel
  intro p hp
  have := List.all_eq_true.1 h p hp
  rw [Bool.and_eq_true, decide_eq_true_iff, decide_eq_true_iff] at this
  unfold maxLen
  omega
def unitV : Value := .agg #[]
def navJobs (b : Nat) : List Job := .mk :: (leadsL.flatMap fun p => [.val (pairV p.1 p.2), .val unitV, .ins (pairV p.1 p.2) unitV]) ++ [.val (.map (some b)), .val (.map (some b))]
theorem ent_nav (b : Nat) : (navJobs b).filterMap ent = leadsL.map fun p => (p.1, p.2, unitV) := rfl

set_option maxRecDepth 100000 in
theorem nav_any (e a : ByteArray) (he : e.size ≤ maxLen) (ha : a.size ≤ maxLen) (w : World) :
    Calls Tryz.prog 133 #[.string e, .string a] w fun r w' => r = .returned (.bool (navB e a)) ∧ Below w.heap.size w w' := by
  go_enter Tryz.func133, Tryz.ntmps133
  go_wp2
  refine region_pairs (l := navJobs w.heap.size) (List.toArray (.string e :: .string a :: undef :: undef :: .bool false :: .map (some w.heap.size) :: undef :: undef :: .map (some w.heap.size) :: .agg #[.string ⟨#[97]⟩, .string ⟨#[104, 114, 101, 102]⟩] :: .agg #[] :: .agg #[.string ⟨#[97, 114, 101, 97]⟩, .string ⟨#[104, 114, 101, 102]⟩] :: .agg #[] :: .agg #[.string ⟨#[98, 117, 116, 116, 111, 110]⟩, .string ⟨#[102, 111, 114, 109, 97, 99, 116, 105, 111, 110]⟩] :: .agg #[] :: .agg #[.string ⟨#[101, 109, 98, 101, 100]⟩, .string ⟨#[115, 114, 99]⟩] :: .agg #[] :: .agg #[.string ⟨#[102, 111, 114, 109]⟩, .string ⟨#[97, 99, 116, 105, 111, 110]⟩] :: .agg #[] :: .agg #[.string ⟨#[102, 114, 97, 109, 101]⟩, .string ⟨#[115, 114, 99]⟩] :: .agg #[] :: .agg #[.string ⟨#[105, 102, 114, 97, 109, 101]⟩, .string ⟨#[115, 114, 99]⟩] :: .agg #[] :: .agg #[.string ⟨#[105, 110, 112, 117, 116]⟩, .string ⟨#[102, 111, 114, 109, 97, 99, 116, 105, 111, 110]⟩] :: .agg #[] :: .agg #[.string ⟨#[111, 98, 106, 101, 99, 116]⟩, .string ⟨#[100, 97, 116, 97]⟩] :: .agg #[] :: .map (some w.heap.size) :: undef :: undef :: undef :: undef :: undef :: undef :: undef :: undef :: undef :: [])) (by kernel_rfl) lawPair Tryz.underlying156 rfl (by kernel_rfl) ?_ ?_ (by kernel_rfl) ?_
  · refine ⟨rfl, fun a w _ => ?_, fun a w _ => ?_, does_ins 0 1 2 rfl rfl rfl (by simp) (by simp) (by simp) rfl rfl rfl rfl rfl rfl, fun a w _ => ?_, fun a w _ => ?_, does_ins 0 4 5 rfl rfl rfl (by simp) (by simp) (by simp) rfl rfl rfl rfl rfl rfl, fun a w _ => ?_, fun a w _ => ?_, does_ins 0 7 8 rfl rfl rfl (by simp) (by simp) (by simp) rfl rfl rfl rfl rfl rfl, fun a w _ => ?_, fun a w _ => ?_, does_ins 0 10 11 rfl rfl rfl (by simp) (by simp) (by simp) rfl rfl rfl rfl rfl rfl, fun a w _ => ?_, fun a w _ => ?_, does_ins 0 13 14 rfl rfl rfl (by simp) (by simp) (by simp) rfl rfl rfl rfl rfl rfl, fun a w _ => ?_, fun a w _ => ?_, does_ins 0 16 17 rfl rfl rfl (by simp) (by simp) (by simp) rfl rfl rfl rfl rfl rfl, fun a w _ => ?_, fun a w _ => ?_, does_ins 0 19 20 rfl rfl rfl (by simp) (by simp) (by simp) rfl rfl rfl rfl rfl rfl, fun a w _ => ?_, fun a w _ => ?_, does_ins 0 22 23 rfl rfl rfl (by simp) (by simp) (by simp) rfl rfl rfl rfl rfl rfl, fun a w _ => ?_, fun a w _ => ?_, does_ins 0 25 26 rfl rfl rfl (by simp) (by simp) (by simp) rfl rfl rfl rfl rfl rfl, does_move 0 (.inl rfl) (by simp) rfl rfl, does_move 28 (.inr rfl) (by simp) rfl rfl, trivial⟩
    all_goals (go_simp; try rfl)
  · intro e' a' v hm
    rw [ent_nav] at hm
    obtain ⟨p, hp, h⟩ := List.mem_map.1 hm
    injection h with h1 h2
    injection h2 with h2 _
    subst h1 h2
    have := leads_small p hp
    exact key_pair this.1 this.2
  · intro w1 hb1 hT
    rw [ent_nav] at hT
    obtain ⟨x, hx⟩ := key_pair he ha
    have hz : (zeroValue 155).run Tryz.prog w1 = .ok (.agg #[]) w1 := by kernel_rfl
    have hl : (Instr.lookup 156 (.map (some w.heap.size)) (.agg #[.string e, .string a]) true).run Tryz.prog w1 = .ok (.tuple #[.agg #[], .bool (navB e a)]) w1 := by
      rcases hT.look lawPair Tryz.underlying156 hz hx with ⟨h1, h2⟩ | ⟨v, ⟨e', a', h2, h3⟩, h1⟩
      · have : navB e a = false := by
          rw [← Bool.not_eq_true]
          intro h
          exact h2 unitV ⟨e, a, rfl, List.mem_map.2 ⟨_, pair_mem.1 h, rfl⟩⟩
        rw [this]
        exact h1
      · obtain ⟨rfl, rfl⟩ := pairV_inj h2
        obtain ⟨p, hp, h4⟩ := List.mem_map.1 h3
        injection h4 with h5 h6
        injection h6 with h6 h7
        have : navB e a = true := pair_mem.2 (by rw [← h5, ← h6]; exact hp)
        rw [this]
        rw [← h7] at h1
        exact h1
    clear hT hx hz
    go_wp2
    go_ret
    exact ⟨rfl, ((Below.refl _ _).drew.trans hb1).alloc hb1.size _⟩
end Go.Proofs.YtgjlfcamgkeibaaGreatDoor.Rk

namespace Go.Proofs.YtgjlfcamgkeibaaGreatDoor.Lk
set_option maxRecDepth 100000
set_option linter.unusedSimpArgs false
set_option linter.unusedVariables false
open Go.RowKit Ba Fm Fo
theorem edge_of (c : UInt8) : edge c = decide ((c.toNat : Int) ≤ 32) := by
  unfold edge
  rw [Bool.eq_iff_iff, decide_eq_true_eq, decide_eq_true_eq, UInt8.le_iff_toNat_le]
  have e : (32 : UInt8).toNat = 32 := rfl
  rw [e]
  omega
theorem piece_cut (s : ByteArray) (k m : Nat) (hk : k < m) (hm : m ≤ s.size) : ((L s).drop k).take (m - k) = ((L s).drop k).take (m - 1 - k) ++ [s[m - 1]'(by omega)] := by
  have e : m - k = (m - 1 - k) + 1 := by omega
  rw [e, List.take_succ_eq_append_getElem (by rw [List.length_drop, size_L]; omega)]
  congr 2
  rw [List.getElem_drop]
  have : k + (m - 1 - k) = m - 1 := by omega
  simp only [this]
  rfl
theorem piece_next (s : ByteArray) (k j : Nat) (hk : k ≤ j) (hj : j < s.size) : ((L s).drop k).take (j + 1 - k) = ((L s).drop k).take (j - k) ++ [s[j]] := by
  have h := piece_cut s k (j + 1) (by omega) (by omega)
  have e : j + 1 - 1 = j := by omega
  simp only [e] at h
  exact h

set_option maxHeartbeats 4000000 in
theorem strip_any (s : ByteArray) (w : World) (hs : s.size ≤ 140737488355328) :
    Calls Tryz.prog 222 #[.string s] w fun e w' => e = .returned (.string (B (stripL (L s)))) ∧ Below w.heap.size w w' := by
  obtain ⟨i0, hi, hz0, hz1, hz2⟩ := info_parts info_u8
  go_enter Tryz.func222, Tryz.ntmps222
  go_upto_block 0 with fail
  go_cut [3] from 9 to 19 (fun sl wx => ∃ k : Nat, sl = .int .i64 k ∧ k ≤ s.size ∧ frontL (L s) = (L s).drop k ∧ wx = w)
  case first =>
    go_wp2
    go_loop [3] (fun i => ∃ k : Nat, i = .int .i64 k ∧ k ≤ s.size ∧ frontL ((L s).drop k) = frontL (L s)) (fun i => s.size - (intOf i).toNat)
    case atStart => exact ⟨0, rfl, Nat.zero_le _, by rw [List.drop_zero]⟩
    case round =>
      obtain ⟨k, rfl, hks, hc⟩ := hrel
      by_cases hp : k < s.size
      · have he := edge_of s[k]
        rw [drop_cons s k hp] at hc
        cases hed : edge s[k] with
        | true =>
          rw [front_yes _ hed] at hc
          rw [hed] at he
          have h32 : (s[k].toNat : Int) ≤ 32 := of_decide_eq_true he.symm
          have HC := Lib.hid hc; clear hc hed he
          go_wp2
          go_round
          case rel => exact ⟨k + 1, by go_num, by omega, HC.out⟩
          case measure => simp [intOf]; omega
        | false =>
          rw [front_no _ hed, ← drop_cons s k hp] at hc
          rw [hed] at he
          have h32 : ¬ (s[k].toNat : Int) ≤ 32 := of_decide_eq_false he.symm
          have h33 : 32 < (s[k].toNat : Int) := by omega
          have HC := Lib.hid hc; clear hc hed he h32
          go_wp2
          go_meet
          exact ⟨k, rfl, hks, HC.out.symm, rfl⟩
      · rw [drop_nil s k hp] at hc
        have hk : frontL (L s) = (L s).drop k := by rw [← hc, drop_nil s k hp]; rfl
        have HC := Lib.hid hk; clear hc hk
        go_wp2
        go_meet
        exact ⟨k, rfl, hks, HC.out, rfl⟩
  case rest =>
  obtain ⟨k, rfl, hk, hf, hwx⟩ := hcut
  have hwx := hwx.symm
  subst hwx
  have HF := Lib.hid hf; clear hf
  go_upto_block 2 with fail
  go_cut [4] from 20 to 31 (fun sl wx => ∃ m : Nat, sl = .int .i64 m ∧ k ≤ m ∧ m ≤ s.size ∧ backL (frontL (L s)) = ((L s).drop k).take (m - k) ∧ wx = w)
  case first =>
    go_wp2
    go_loop [4] (fun i => ∃ m : Nat, i = .int .i64 m ∧ k ≤ m ∧ m ≤ s.size ∧ backL (((L s).drop k).take (m - k)) = backL (frontL (L s))) (fun i => (intOf i).toNat)
    case atStart => exact ⟨s.size, rfl, hk, Nat.le_refl _, by rw [List.take_of_length_le (by rw [List.length_drop, size_L]; omega), HF.out]⟩
    case round =>
      obtain ⟨m, rfl, hkm, hms, hd⟩ := hrel
      by_cases hq : k < m
      · have hm1 : 1 ≤ m := by omega
        obtain ⟨j, rfl⟩ : ∃ j, m = j + 1 := ⟨m - 1, by omega⟩
        have hjs : j < s.size := by omega
        have hcut : ((L s).drop k).take (j + 1 - k) = ((L s).drop k).take (j - k) ++ [s[j]] := piece_cut s k (j + 1) hq hms
        have he := edge_of s[j]
        cases hed : edge s[j] with
        | true =>
          rw [hcut, back_yes _ hed] at hd
          rw [hed] at he
          have h32 : (s[j].toNat : Int) ≤ 32 := of_decide_eq_true he.symm
          have HD := Lib.hid hd; clear hd hed he hcut
          go_wp2
          go_round
          case rel => exact ⟨j, by go_num, by omega, by omega, HD.out⟩
          case measure => simp [intOf]
        | false =>
          rw [hcut, back_no _ hed, ← hcut] at hd
          rw [hed] at he
          have h32 : ¬ (s[j].toNat : Int) ≤ 32 := of_decide_eq_false he.symm
          have h33 : 32 < (s[j].toNat : Int) := by omega
          have HD := Lib.hid hd; clear hd hed he hcut h32
          go_wp2
          go_meet
          exact ⟨j + 1, rfl, hkm, hms, HD.out.symm, rfl⟩
      · obtain rfl : m = k := by omega
        rw [Nat.sub_self, List.take_zero] at hd
        have HD := Lib.hid hd; clear hd
        go_wp2
        go_meet
        exact ⟨m, rfl, Nat.le_refl _, hms, by rw [Nat.sub_self, List.take_zero]; exact HD.out.symm, rfl⟩
  case rest =>
  obtain ⟨m, rfl, hkm, hms, hb, hwx⟩ := hcut
  have hwx := hwx.symm
  subst hwx
  obtain ⟨c, hc⟩ : ∃ c, m - k = c := ⟨_, rfl⟩
  have hsub : (m : Int) - k = (c : Int) := by omega
  have hcs : c ≤ s.size := by omega
  have hfin : stripL (L s) = kept (((L s).drop k).take (m - k)) := by unfold stripL; rw [hb]
  have HFIN := Lib.hid hfin; clear hb hfin hc
  go_wp2_with (at_make; refine wpList_make_own _ rfl (.const (.int .i64 0)) (.tmp 34) 88 rfl w.heap.size 5 i0 (.int .u8 0) 1 Tryz.underlying88 hi hz0 hz1 .i64 .i64 _ c rfl rfl rfl (by rw [hz2]; omega) (by unfold maxLen; omega) (Nat.le_refl _) ?_; intro w1 hown hgrow)
  have hb0 : Below w.heap.size w w1 := (Below.refl w.heap.size w).grown hgrow (Nat.le_refl _) (by simp)
  have ho0 : OwnB w.heap.size w1 (.slice (some ⟨w.heap.size, 0, none⟩) 0 c) [] := hown
  clear hown hgrow hsub
  go_loopw [5, 6] (fun v i wr => ∃ (j : Nat), i = .int .i64 j ∧ k ≤ j ∧ j ≤ m ∧ OwnB w.heap.size wr v (kept (((L s).drop k).take (j - k))) ∧ Below w.heap.size w wr) (fun _ i _ => m - (intOf i).toNat)
  case atStart => exact ⟨k, rfl, Nat.le_refl _, hkm, by rw [Nat.sub_self, List.take_zero]; exact ho0, hb0⟩
  case round =>
    clear ho0 hb0
    obtain ⟨j, rfl, hkj, hjm, hown, hbel⟩ := hrel
    have hN := hbel.size
    by_cases hp : j < m
    · have hnext := piece_next s k j hkj (by omega)
      have hlen : (kept (((L s).drop k).take (j - k))).length + 1 ≤ 140737488355328 := by
        have := kept_len (((L s).drop k).take (j - k))
        rw [List.length_take] at this
        omega
      have hjs : j < s.size := by omega
      have e9 : ((s[j].toNat : Int) == 9) = (s[j] == 9) := u8_eq (b := 9)
      have e10 : ((s[j].toNat : Int) == 10) = (s[j] == 10) := u8_eq (b := 10)
      have e13 : ((s[j].toNat : Int) == 13) = (s[j] == 13) := u8_eq (b := 13)
      have hkn : kept (((L s).drop k).take (j + 1 - k)) = kept (((L s).drop k).take (j - k)) ++ kept [s[j]] := by rw [hnext, kept_append]
      have HO := Lib.hid hown; have HB := Lib.hid hbel
      clear hown hbel hnext
      cases hin : inn s[j] with
      | true =>
        rw [kept_yes hin, List.append_nil] at hkn
        have HK := Lib.hid hkn; clear hkn
        unfold inn at hin
        cases h9 : s[j] == 9 with
        | true =>
          rw [h9] at e9
          clear h9 hin e10 e13
          go_wp2
          go_roundw
          case rel => exact ⟨j + 1, by go_num, by omega, by omega, by rw [HK.out]; exact HO.out, HB.out⟩
          case measure => simp [intOf]; omega
        | false =>
        cases h10 : s[j] == 10 with
        | true =>
          rw [h9] at e9
          rw [h10] at e10
          clear h9 h10 hin e13
          go_wp2
          go_roundw
          case rel => exact ⟨j + 1, by go_num, by omega, by omega, by rw [HK.out]; exact HO.out, HB.out⟩
          case measure => simp [intOf]; omega
        | false =>
          have h13 : s[j] == 13 := by rw [h9, h10] at hin; simpa using hin
          rw [h9] at e9
          rw [h10] at e10
          rw [h13] at e13
          clear h9 h10 hin h13
          go_wp2
          go_roundw
          case rel => exact ⟨j + 1, by go_num, by omega, by omega, by rw [HK.out]; exact HO.out, HB.out⟩
          case measure => simp [intOf]; omega
      | false =>
        rw [kept_no hin] at hkn
        have HK := Lib.hid hkn; clear hkn
        unfold inn at hin
        simp only [Bool.or_eq_false_iff] at hin
        rw [hin.1.1] at e9
        rw [hin.1.2] at e10
        rw [hin.2] at e13
        clear hin
        go_wp2_with (at_builtin; refine app_byte wr rfl (.tmp 49) (.tmp 53) rfl w.heap.size _ (kept (((L s).drop k).take (j - k))) s[j] rfl HO.out rfl hlen hN ?_; intro v2 w2 hown2 hk2)
        go_roundw
        case rel => exact ⟨j + 1, by go_num, by omega, by omega, by rw [HK.out]; exact hown2, hk2 _ HB.out⟩
        case measure => simp [intOf]; omega
    · obtain rfl : j = m := by omega
      have hcv := hown.string
      have HB := Lib.hid hbel
      clear hown hbel
      go_wp2
      go_ret
      exact ⟨ret_str (by rw [HFIN.out]), HB.out⟩

end Go.Proofs.YtgjlfcamgkeibaaGreatDoor.Lk

namespace Go.Proofs.YtgjlfcamgkeibaaGreatDoor.Lk
set_option maxRecDepth 100000
set_option linter.unusedSimpArgs false
set_option linter.unusedVariables false
open Go.RowKit Ba Fm Fo
end Go.Proofs.YtgjlfcamgkeibaaGreatDoor.Lk

namespace Go.Proofs.YtgjlfcamgkeibaaGreatDoor.Lk
set_option maxRecDepth 100000
set_option linter.unusedSimpArgs false
set_option linter.unusedVariables false
open Go.RowKit Ba Fm Fo
end Go.Proofs.YtgjlfcamgkeibaaGreatDoor.Lk

namespace Go.Proofs.YtgjlfcamgkeibaaGreatDoor.Lk
set_option maxRecDepth 100000
set_option linter.unusedSimpArgs false
set_option linter.unusedVariables false
open Go.RowKit Ba Fm Fo
theorem oth_of (c : UInt8) : oth c = ((decide ((48 : Int) ≤ c.toNat) && decide ((c.toNat : Int) ≤ 57)) || (c == 43) || (c == 45) || (c == 46)) := by
  unfold oth
  congr 3
  rw [Bool.eq_iff_iff]
  simp only [Bool.and_eq_true, decide_eq_true_eq, UInt8.le_iff_toNat_le]
  have e48 : (48 : UInt8).toNat = 48 := rfl
  have e57 : (57 : UInt8).toNat = 57 := rfl
  rw [e48, e57]
  omega
theorem letter1 (c : UInt8) (w : World) (q : Bool) (h : lr c = q) : Calls Tryz.prog 213 #[.int .u8 c.toNat] w fun e w' => e = .returned (.bool q) ∧ w = w' := by
  have k := letter_any c w
  rw [h] at k
  exact k

set_option maxHeartbeats 2000000 in
theorem stands_any (p k : Nat) (s : ByteArray) (w : World) (hk : k < s.size) (hs : s.size ≤ 140737488355328) (hc : w.cell? ⟨p, 0, none⟩ = some (.string s)) (q : Bool) (hq : sch (decide (0 < k)) s[k] = q) :
    Calls Tryz.prog 245 #[.int .i64 k, .pointer (some ⟨p, 0, none⟩)] w fun e w' => e = .returned (.bool q) ∧ w = w' := by
  have e43 : ((s[k].toNat : Int) == 43) = (s[k] == 43) := u8_eq (b := 43)
  have e45 : ((s[k].toNat : Int) == 45) = (s[k] == 45) := u8_eq (b := 45)
  have e46 : ((s[k].toNat : Int) == 46) = (s[k] == 46) := u8_eq (b := 46)
  unfold sch at hq
  rw [oth_of] at hq
  obtain ⟨l0, hl0⟩ : ∃ l0, lr s[k] = l0 := ⟨_, rfl⟩
  obtain ⟨p0, hp0⟩ : ∃ p0, decide (0 < k) = p0 := ⟨_, rfl⟩
  rw [hl0, hp0] at hq
  have HL := Lib.hid hl0; clear hl0
  cases l0 with
  | true =>
    have HQ := Lib.hid hq; clear hq hp0 e43 e45 e46
    go_enter Tryz.func245, Tryz.ntmps245
    go_wp2_with fail
    refine (letter1 s[k] _ _ HL.out).mono ?_
    rintro e w' ⟨rfl, rfl⟩
    go_wp2
    go_ret
    exact ⟨ret_bool (by rw [← HQ.out]; rfl), rfl⟩
  | false =>
    by_cases h48 : (48 : Int) ≤ s[k].toNat <;> by_cases h57 : (s[k].toNat : Int) ≤ 57 <;> cases h43 : (s[k] == 43) <;> cases h45 : (s[k] == 45) <;> cases h46 : (s[k] == 46)
    all_goals
      rw [h43] at e43 hq
      rw [h45] at e45 hq
      rw [h46] at e46 hq
      have hq' : (false || (p0 && ((decide ((48 : Int) ≤ s[k].toNat) && decide ((s[k].toNat : Int) ≤ 57)) || _ || _ || _))) = q := hq
      have HQ := Lib.hid hq'; have H48 := Lib.hid h48; have H57 := Lib.hid h57; have HP0 := Lib.hid hp0
      clear hq hq' h43 h45 h46 hp0
      go_enter Tryz.func245, Tryz.ntmps245
      go_wp2_with fail
      refine (letter1 s[k] _ _ HL.out).mono ?_
      rintro e w' ⟨rfl, rfl⟩
      go_wp2
      all_goals go_ret
      all_goals exact ⟨ret_bool (by rw [← HQ.out]; simp [H48.out, H57.out, HP0.out]), rfl⟩

def divV (s : ByteArray) : Option Nat → Value
  | none => .tuple #[.string ⟨#[]⟩, .string ⟨#[]⟩, .bool false]
  | some k => .tuple #[.string (B (lowL ((L s).take k))), .string (s.extract (k + 1) s.size), .bool true]

set_option maxHeartbeats 4000000 in
theorem divided1 (s : ByteArray) (w : World) (hs : s.size ≤ 140737488355328) (o : Option Nat) (ho : colonL (L s) = o) :
    Calls Tryz.prog 221 #[.string s] w fun e w' => e = .returned (divV s o) ∧ Below w.heap.size w w' := by
  have hmf : ∀ (fn : Fn) (first cap : Array Value) (w : World), (Instr.makeFunc fn first cap).run Tryz.prog w = .ok (.func fn first cap) w := fun _ _ _ _ => rfl
  obtain ⟨w0, hw0⟩ : ∃ w0, w.alloc (.cells #[.string s] 9) = w0 := ⟨_, rfl⟩
  have hb0 : Below w.heap.size w w0 := by rw [← hw0]; exact (Below.refl _ _).alloc (Nat.le_refl _) _
  have hc0 : w0.cell? ⟨w.heap.size, 0, none⟩ = some (.string s) := by
    rw [← hw0, World.cell?_alloc_at _ _ _ _ (by simp)]; rfl
  have HW := Lib.hid hw0; clear hw0
  have HO := Lib.hid ho; clear ho
  go_enter Tryz.func221, Tryz.ntmps221
  go_upto_block 0 with fail
  rw [HW.out]
  go_cut [6] from 8 to 18 (fun sl wx => ∃ k : Nat, sl = .int .i64 k ∧ k ≤ s.size ∧ (st false (L s)).length = k ∧ wx = w0)
  case first =>
    go_wp2
    go_loop [6] (fun i => ∃ k : Nat, i = .int .i64 k ∧ k ≤ s.size ∧ Lk.upTo (L s) k) (fun i => s.size - (intOf i).toNat)
    case atStart => exact ⟨0, rfl, Nat.zero_le _, upTo_zero _⟩
    case round =>
      obtain ⟨k, rfl, hks, hu⟩ := hrel
      by_cases hp : k < s.size
      · have hpl : k < (L s).length := by rw [size_L]; exact hp
        have hg : (L s)[k] = s[k] := rfl
        cases hq : sch (decide (0 < k)) s[k] with
        | true =>
          have HN := Lib.hid (upTo_next hu hpl (by rw [hg]; exact hq)); have HQ := Lib.hid hq; clear hu hq hg
          go_wp2_with fail
          refine (stands_any w.heap.size k s w0 hp hs hc0 true HQ.out).mono ?_
          rintro e w' ⟨rfl, rfl⟩
          go_wp2
          go_round
          case rel => exact ⟨k + 1, by go_num, by omega, HN.out⟩
          case measure => simp [intOf]; omega
        | false =>
          have HN := Lib.hid (upTo_stop hu hpl (by rw [hg]; exact hq)); have HQ := Lib.hid hq; clear hu hq hg
          go_wp2_with fail
          refine (stands_any w.heap.size k s w0 hp hs hc0 false HQ.out).mono ?_
          rintro e w' ⟨rfl, rfl⟩
          go_wp2
          go_meet
          exact ⟨k, rfl, hks, HN.out, rfl⟩
      · have HN := Lib.hid (upTo_end hu (by rw [size_L]; omega)); clear hu
        go_wp2
        go_meet
        exact ⟨k, rfl, hks, HN.out, rfl⟩
  case rest =>
  obtain ⟨k, rfl, hk, hf, hwx⟩ := hcut
  have hwx := hwx.symm
  subst hwx
  have HF := Lib.hid hf; clear hf hmf
  have hno : ∀ d : Bool, ((k : Int) == 0) = d → d = decide (k = 0) := fun d h => by rw [← h, Bool.eq_iff_iff]; simp
  have hne : ∀ d : Bool, ((k : Int) == (s.size : Int)) = d → d = decide (k = s.size) := fun d h => by rw [← h, Bool.eq_iff_iff]; simp; omega
  by_cases h0 : k = 0
  · have ho := colon_not HF.out (.inl h0)
    rw [HO.out] at ho
    subst ho
    subst h0
    clear hno hne
    go_wp2
    go_ret3
    exact ⟨rfl, hb0⟩
  · have e0 : ((k : Int) == 0) = false := by rw [hno _ rfl]; exact decide_eq_false h0
    by_cases hks : k = s.size
    · have e1 : ((k : Int) == (s.size : Int)) = true := by rw [hne _ rfl]; exact decide_eq_true hks
      have ho := colon_not HF.out (.inr (.inl (by rw [size_L]; exact hks)))
      rw [HO.out] at ho
      subst ho
      clear hno hne hks h0
      go_wp2
      go_ret3
      exact ⟨rfl, hb0⟩
    · have e1 : ((k : Int) == (s.size : Int)) = false := by rw [hne _ rfl]; exact decide_eq_false hks
      have hp : k < s.size := by omega
      have e58 : ((s[k].toNat : Int) != 58) = !(s[k] == 58) := by rw [← u8_eq]; rfl
      cases h58 : s[k] == 58 with
      | false =>
        rw [h58] at e58
        have ho := colon_not HF.out (.inr (.inr ⟨by rw [size_L]; exact hp, by show s[k] ≠ 58; simpa using h58⟩))
        rw [HO.out] at ho
        subst ho
        clear h58 hno hne hks h0
        go_wp2
        go_ret3
        exact ⟨rfl, hb0⟩
      | true =>
        rw [h58] at e58
        have ho := colon_stop HF.out (by omega) (by rw [size_L]; exact hp) (by show s[k] = 58; simpa using h58)
        rw [HO.out] at ho
        subst ho
        have y1 : IntKind.i64.wrap ((k : Int) + 1) = (k : Int) + 1 := IntWalk.i64_in _ (by omega)
        have z1 : ((k : Int) + 1).toNat = k + 1 := by omega
        have m1 : (0 : Int) ≤ (k : Int) + 1 := by omega
        have m2 : (k : Int) + 1 ≤ s.size := by omega
        have m3 : (0 : Int) ≤ (k : Int) := by omega
        have m4 : (k : Int) ≤ s.size := by omega
        have hxs : (s.extract 0 k).size ≤ 140737488355328 := Nat.le_trans (size_extract _ _ _) hs
        have hLx : lowL (L (s.extract 0 k)) = lowL ((L s).take k) := by rw [L_extract, List.drop_zero, Nat.sub_zero]
        have HX := Lib.hid hLx
        have hlt : w.heap.size < w0.heap.size := by rw [← HW.out]; simp
        have HC0 := Lib.hid hc0; have HB0 := Lib.hid hb0
        clear h58 hno hne hks h0 hLx hb0
        go_wp2
        go_region_held3 (fun w' => w'.cell? ⟨w.heap.size, 0, none⟩ = some (.string s)) (first | exact c2 | exact HC0.out | go_keep) (first
          | (go_at_call 216; refine (lower_any (s.extract 0 k) _ hxs).mono ?_; rintro e w2 ⟨rfl, b2⟩; have c2 := (b2.cell (p := ⟨w.heap.size, 0, none⟩) hlt).trans HC0.out; have HB2 := Lib.hid b2; clear b2))
        all_goals go_wp2
        all_goals go_ret3
        all_goals exact ⟨by rw [HX.out]; rfl, bt HB0.out (by first | exact HB2.out | exact ⟨HB2.out.os, HB2.out.tape, HB2.out.output, HB2.out.size, HB2.out.block⟩)⟩

def schemeV (o : Option (List UInt8)) : Value := .tuple #[.string (B (o.getD [])), .bool o.isSome]
set_option maxHeartbeats 2000000 in
theorem scheme_any (s : ByteArray) (w : World) (hs : s.size ≤ 140737488355328) :
    Calls Tryz.prog 187 #[.string s] w fun e w' => e = .returned (schemeV (schemeO (L s))) ∧ Below w.heap.size w w' := by
  obtain ⟨t, ht⟩ : ∃ t, B (stripL (L s)) = t := ⟨_, rfl⟩
  have hL : L t = stripL (L s) := by rw [← ht, L_B]
  have hts : t.size ≤ 140737488355328 := by rw [← size_L, hL]; exact Nat.le_trans (strip_len _) (by rw [size_L]; exact hs)
  obtain ⟨o, ho⟩ : ∃ o, colonL (L t) = o := ⟨_, rfl⟩
  have hans : schemeO (L s) = o.map fun k => lowL ((L t).take k) := by unfold schemeO; rw [← hL, ho]
  have HA := Lib.hid hans; have HO := Lib.hid ho; have HT := Lib.hid ht
  clear hans ho hL ht
  go_enter Tryz.func187, Tryz.ntmps187
  go_wp2_with fail
  refine (strip_any s w hs).mono ?_
  rw [HT.out]
  rintro e w1 ⟨rfl, hb1⟩
  have HB1 := Lib.hid hb1; clear hb1
  go_wp2_with fail
  refine (divided1 t w1 hts o HO.out).mono ?_
  rintro e w2 ⟨rfl, hb2⟩
  have HB2 := Lib.hid hb2; clear hb2
  cases o with
  | none =>
    unfold divV
    go_wp2
    go_ret2
    exact ⟨by rw [HA.out]; rfl, bt HB1.out HB2.out⟩
  | some k =>
    unfold divV
    go_wp2
    go_ret2
    exact ⟨by rw [HA.out]; rfl, bt HB1.out HB2.out⟩

theorem js_list (l : List UInt8) : ((B (schemeL l)).toList == [106, 97, 118, 97, 115, 99, 114, 105, 112, 116]) = scriptL l := by
  rw [toList_B]
  unfold scriptL
  rw [Bool.eq_iff_iff, beq_iff_eq, decide_eq_true_eq]
  rfl
set_option maxHeartbeats 2000000 in
theorem script_any (s : ByteArray) (w : World) (hs : s.size ≤ 140737488355328) :
    Calls Tryz.prog 134 #[.string s] w fun e w' => e = .returned (.bool (scriptL (L s))) ∧ Below w.heap.size w w' := by
  obtain ⟨x, hx⟩ : ∃ x, B (schemeL (L s)) = x := ⟨_, rfl⟩
  have hv : schemeV (schemeO (L s)) = .tuple #[.string x, .bool (hasL (L s))] := by rw [← hx]; rfl
  have hj := js_list (L s)
  rw [hx] at hj
  have HJ := Lib.hid hj; have HV := Lib.hid hv
  clear hj hx hv
  go_enter Tryz.func134, Tryz.ntmps134
  go_wp2_with fail
  refine (scheme_any s w hs).mono ?_
  rw [HV.out]
  rintro e w1 ⟨rfl, hb1⟩
  go_wp2
  go_ret
  exact ⟨ret_bool (by rw [← HJ.out]), hb1⟩
end Go.Proofs.YtgjlfcamgkeibaaGreatDoor.Lk

namespace Go.Proofs.YtgjlfcamgkeibaaGreatDoor.Lk
set_option maxRecDepth 100000
set_option linter.unusedSimpArgs false
set_option linter.unusedVariables false
open Go.RowKit Ba Fm Fo
theorem script1 (s : ByteArray) (w : World) (hs : s.size ≤ 140737488355328) (q : Bool) (hq : scriptL (L s) = q) :
    Calls Tryz.prog 134 #[.string s] w fun e w' => e = .returned (.bool q) ∧ Below w.heap.size w w' := by
  have k := script_any s w hs
  rw [hq] at k
  exact k
end Go.Proofs.YtgjlfcamgkeibaaGreatDoor.Lk

namespace Go.Proofs.YtgjlfcamgkeibaaGreatDoor.Rk
set_option maxRecDepth 100000
set_option linter.unusedVariables false
set_option linter.unusedSimpArgs false
open Go.RowKit Go.Maps Ba Fm Lk Ml
theorem hand_cut (a : ByteArray) (h : 2 < a.size) : ((a.extract 0 2).toList == [111, 110]) = hand (L a) := by
  have e : (a.extract 0 2).toList = (L a).take 2 := by
    rw [toList_L, L_extract]
    rfl
  rw [e]
  rw [← size_L] at h
  match L a, h with
  | x :: y :: z :: r, _ =>
    show ([x, y] == [111, 110]) = (x == 111 && y == 110)
    simp

set_option maxRecDepth 100000 in
theorem handler1 (a : ByteArray) (w : World) (q : Bool) (hq : hand (L a) = q) :
    Calls Tryz.prog 186 #[.string a] w fun r w' => r = .returned (.bool q) ∧ w = w' := by
  by_cases h : 2 < a.size
  · have hc := hand_cut a h
    rw [hq] at hc
    have h' : (2 : Int) < a.size := by omega
    clear hq
    go_enter Tryz.func186, Tryz.ntmps186
    go_wp2
    go_ret
    exact ⟨rfl, rfl⟩
  · have h' : decide ((2 : Int) < a.size) = false := decide_eq_false (by omega)
    have : q = false := by
      rw [← hq]
      rw [← size_L] at h
      match L a, h with
      | [], _ | [_], _ | [_, _], _ => rfl
      | x :: y :: z :: r, e => exact absurd (by simp) e
    subst this
    clear hq
    go_enter Tryz.func186, Tryz.ntmps186
    go_wp2
    go_ret
    exact ⟨rfl, rfl⟩

def sinkJobs (b : Nat) : List Job := .mk :: (takesL.flatMap fun p => [.val (pairV p.1 p.2), .ins (pairV p.1 p.2) (.int .i64 3)]) ++ [.val (pairV ⟨#[105, 102, 114, 97, 109, 101]⟩ ⟨#[115, 114, 99, 100, 111, 99]⟩), .ins (pairV ⟨#[105, 102, 114, 97, 109, 101]⟩ ⟨#[115, 114, 99, 100, 111, 99]⟩) (.int .i64 1), .val (.map (some b)), .val (.map (some b))]
def sinkPairs : List (ByteArray × ByteArray × Value) := (takesL.map fun p => (p.1, p.2, Value.int .i64 3)) ++ [(⟨#[105, 102, 114, 97, 109, 101]⟩, ⟨#[115, 114, 99, 100, 111, 99]⟩, .int .i64 1)]
theorem ent_sink (b : Nat) : (sinkJobs b).filterMap ent = sinkPairs := rfl
theorem sink_small : ∀ p ∈ sinkPairs, p.1.size ≤ maxLen ∧ p.2.1.size ≤ maxLen := by
  have h : (sinkPairs.all fun p => decide (p.1.size ≤ 20) && decide (p.2.1.size ≤ 20)) = true := by decide +kernel
  intro p hp
  have := List.all_eq_true.1 h p hp
  rw [Bool.and_eq_true, decide_eq_true_iff, decide_eq_true_iff] at this
  unfold maxLen
  omega
theorem sink_mem {e a : ByteArray} {v : Value} (h : (e, a, v) ∈ sinkPairs) (hh : hand (L a) = false) : v = .int .i64 (sinkN e a) ∧ sinkN e a ≠ 0 := by
  unfold sinkPairs at h
  rcases List.mem_append.1 h with h | h
  · obtain ⟨p, hp, hx⟩ := List.mem_map.1 h
    injection hx with h1 h2
    injection h2 with h2 h3
    have : pairB takesL e a = true := pair_mem.2 (by rw [← h1, ← h2]; exact hp)
    have hs : sinkN e a = 3 := by
      unfold sinkN
      rw [if_neg (by rw [hh]; decide), if_pos this]
    rw [hs]
    exact ⟨h3.symm, by decide⟩
  · have := List.mem_singleton.1 h
    injection this with h1 h2
    injection h2 with h2 h3
    subst h1 h2
    have hs : sinkN ⟨#[105, 102, 114, 97, 109, 101]⟩ ⟨#[115, 114, 99, 100, 111, 99]⟩ = 1 := by decide +kernel
    rw [hs]
    exact ⟨h3, by decide⟩
theorem sink_none {e a : ByteArray} (h : ∀ v, (e, a, v) ∉ sinkPairs) (hh : hand (L a) = false) : sinkN e a = 0 := by
  unfold sinkN
  rw [if_neg (by rw [hh]; decide)]
  rw [if_neg, if_neg]
  · intro hd
    unfold docB at hd
    rw [Bool.and_eq_true, decide_eq_true_iff, decide_eq_true_iff] at hd
    exact h (.int .i64 1) (List.mem_append_right _ (by rw [hd.1, hd.2]; exact List.mem_singleton.2 rfl))
  · intro hd
    exact h (.int .i64 3) (List.mem_append_left _ (List.mem_map.2 ⟨_, pair_mem.1 hd, rfl⟩))

set_option maxRecDepth 100000 in
theorem sink_any (e a : ByteArray) (he : e.size ≤ maxLen) (ha : a.size ≤ maxLen) (w : World) :
    Calls Tryz.prog 132 #[.string e, .string a] w fun r w' => r = .returned (.int .i64 (sinkN e a)) ∧ Below w.heap.size w w' := by
  cases hh : hand (L a) with
  | true =>
    have hs : sinkN e a = 2 := by
      unfold sinkN
      rw [if_pos hh]
    rw [hs]
    clear hs
    go_enter Tryz.func132, Tryz.ntmps132
    go_wp2_with fail
    refine (handler1 a w true hh).mono ?_
    rintro r w1 ⟨rfl, rfl⟩
    clear hh
    go_wp2
    go_ret
    exact ⟨rfl, Below.refl _ _⟩
  | false =>
  go_enter Tryz.func132, Tryz.ntmps132
  go_wp2_with fail
  refine (handler1 a w false hh).mono ?_
  rintro r w1 ⟨rfl, rfl⟩
  have HH := Lib.hid hh
  clear hh
  go_wp2
  refine region_pairs (l := sinkJobs w.heap.size) (List.toArray (.string e :: .string a :: undef :: undef :: .int .i64 0 :: .map (some w.heap.size) :: undef :: undef :: .string a :: .bool false :: .map (some w.heap.size) :: .agg #[.string ⟨#[115, 99, 114, 105, 112, 116]⟩, .string ⟨#[115, 114, 99]⟩] :: .agg #[.string ⟨#[101, 109, 98, 101, 100]⟩, .string ⟨#[115, 114, 99]⟩] :: .agg #[.string ⟨#[111, 98, 106, 101, 99, 116]⟩, .string ⟨#[100, 97, 116, 97]⟩] :: .agg #[.string ⟨#[105, 102, 114, 97, 109, 101]⟩, .string ⟨#[115, 114, 99, 100, 111, 99]⟩] :: .map (some w.heap.size) :: undef :: undef :: undef :: undef :: undef :: undef :: undef :: undef :: undef :: undef :: [])) (by kernel_rfl) lawPair Tryz.underlying153 rfl (by kernel_rfl) ?_ ?_ (by kernel_rfl) ?_
  · refine ⟨rfl, fun a w _ => ?_, does_insC 0 1 rfl rfl rfl (by simp) (by simp) rfl rfl rfl rfl, fun a w _ => ?_, does_insC 0 3 rfl rfl rfl (by simp) (by simp) rfl rfl rfl rfl, fun a w _ => ?_, does_insC 0 5 rfl rfl rfl (by simp) (by simp) rfl rfl rfl rfl, fun a w _ => ?_, does_insC 0 7 rfl rfl rfl (by simp) (by simp) rfl rfl rfl rfl, does_move 0 (.inl rfl) (by simp) rfl rfl, does_move 9 (.inr rfl) (by simp) rfl rfl, trivial⟩
    all_goals (go_simp; try rfl)
  · intro e' a' v hm
    rw [ent_sink] at hm
    have := sink_small _ hm
    exact key_pair this.1 this.2
  · intro w1 hb1 hT
    rw [ent_sink] at hT
    obtain ⟨x, hx⟩ := key_pair he ha
    have hz : (zeroValue 3).run Tryz.prog w1 = .ok (.int .i64 0) w1 := by kernel_rfl
    have hl : ∃ k : Nat, k = sinkN e a ∧ (Instr.lookup 153 (.map (some w.heap.size)) (.agg #[.string e, .string a]) true).run Tryz.prog w1 = .ok (.tuple #[.int .i64 k, .bool (decide (k ≠ 0))]) w1 := by
      rcases hT.look lawPair Tryz.underlying153 hz hx with ⟨h1, h2⟩ | ⟨v, ⟨e', a', h2, h3⟩, h1⟩
      · have : sinkN e a = 0 := sink_none (fun v hv => h2 v ⟨e, a, rfl, hv⟩) HH.out
        exact ⟨0, this.symm, h1⟩
      · obtain ⟨rfl, rfl⟩ := pairV_inj h2
        obtain ⟨h4, h5⟩ := sink_mem h3 HH.out
        refine ⟨_, rfl, ?_⟩
        rw [decide_eq_true h5, ← h4]
        exact h1
    clear hT hx hz
    obtain ⟨k, hk, hl⟩ := hl
    have HK := Lib.hid hk
    clear hk
    by_cases h0 : k = 0
    · subst h0
      go_wp2
      go_ret
      exact ⟨congrArg (fun n : Nat => Ending.returned (.int .i64 n)) HK.out, (Below.refl _ _).drew.trans hb1⟩
    · have h0' : decide (k ≠ 0) = true := decide_eq_true h0
      rw [h0'] at hl
      clear h0 h0'
      go_wp2
      go_ret
      exact ⟨congrArg (fun n : Nat => Ending.returned (.int .i64 n)) HK.out, (Below.refl _ _).drew.trans hb1⟩
end Go.Proofs.YtgjlfcamgkeibaaGreatDoor.Rk

namespace Go.Proofs.YtgjlfcamgkeibaaGreatDoor.Rk
set_option maxRecDepth 100000
set_option linter.unusedVariables false
set_option linter.unusedSimpArgs false
open Go.RowKit Ba Fm
theorem eqlit (s : ByteArray) (l : List UInt8) : (s.toList == l) = decide (s = ⟨l.toArray⟩) := by
  rw [← ByteArray.toList_mk l, eq_of_toList, ByteArray.toList_mk]
theorem never_or (e : ByteArray) (b0 b1 b2 b3 b4 b5 b6 b7 : Bool) (h0 : (e.toList == [98, 97, 115, 101]) = b0) (h1 : (e.toList == [101, 109, 98, 101, 100]) = b1) (h2 : (e.toList == [102, 114, 97, 109, 101]) = b2) (h3 : (e.toList == [105, 102, 114, 97, 109, 101]) = b3) (h4 : (e.toList == [108, 105, 110, 107]) = b4) (h5 : (e.toList == [109, 101, 116, 97]) = b5) (h6 : (e.toList == [111, 98, 106, 101, 99, 116]) = b6) (h7 : (e.toList == [115, 99, 114, 105, 112, 116]) = b7) : (b0 || b1 || b2 || b3 || b4 || b5 || b6 || b7) = neverB e := by
  rw [eqlit] at h0 h1 h2 h3 h4 h5 h6 h7
  subst h0 h1 h2 h3 h4 h5 h6 h7
  unfold neverB isIn unsafeL
  rw [Bool.eq_iff_iff]
  simp [or_assoc]
set_option maxRecDepth 100000 in
theorem element1 (e : ByteArray) (w : World) (q : Bool) (hq : neverB e = q) :
    Calls Tryz.prog 83 #[.string e] w fun r w' => r = .returned (.bool q) ∧ w = w' := by
  obtain ⟨b0, h0⟩ : ∃ b, (e.toList == [98, 97, 115, 101]) = b := ⟨_, rfl⟩
  obtain ⟨b1, h1⟩ : ∃ b, (e.toList == [101, 109, 98, 101, 100]) = b := ⟨_, rfl⟩
  obtain ⟨b2, h2⟩ : ∃ b, (e.toList == [102, 114, 97, 109, 101]) = b := ⟨_, rfl⟩
  obtain ⟨b3, h3⟩ : ∃ b, (e.toList == [105, 102, 114, 97, 109, 101]) = b := ⟨_, rfl⟩
  obtain ⟨b4, h4⟩ : ∃ b, (e.toList == [108, 105, 110, 107]) = b := ⟨_, rfl⟩
  obtain ⟨b5, h5⟩ : ∃ b, (e.toList == [109, 101, 116, 97]) = b := ⟨_, rfl⟩
  obtain ⟨b6, h6⟩ : ∃ b, (e.toList == [111, 98, 106, 101, 99, 116]) = b := ⟨_, rfl⟩
  obtain ⟨b7, h7⟩ : ∃ b, (e.toList == [115, 99, 114, 105, 112, 116]) = b := ⟨_, rfl⟩
  have HQ := Lib.hid ((never_or e b0 b1 b2 b3 b4 b5 b6 b7 h0 h1 h2 h3 h4 h5 h6 h7).trans hq)
  clear hq
  go_enter Tryz.func83, Tryz.ntmps83
  cases b0 with
  | true =>
    go_wp2
    go_ret
    exact ⟨ret_bool (by rw [← HQ.out]; simp), rfl⟩
  | false =>
  cases b1 with
  | true =>
    go_wp2
    go_ret
    exact ⟨ret_bool (by rw [← HQ.out]; simp), rfl⟩
  | false =>
  cases b2 with
  | true =>
    go_wp2
    go_ret
    exact ⟨ret_bool (by rw [← HQ.out]; simp), rfl⟩
  | false =>
  cases b3 with
  | true =>
    go_wp2
    go_ret
    exact ⟨ret_bool (by rw [← HQ.out]; simp), rfl⟩
  | false =>
  cases b4 with
  | true =>
    go_wp2
    go_ret
    exact ⟨ret_bool (by rw [← HQ.out]; simp), rfl⟩
  | false =>
  cases b5 with
  | true =>
    go_wp2
    go_ret
    exact ⟨ret_bool (by rw [← HQ.out]; simp), rfl⟩
  | false =>
  cases b6 with
  | true =>
    go_wp2
    go_ret
    exact ⟨ret_bool (by rw [← HQ.out]; simp), rfl⟩
  | false =>
  cases b7 with
  | true =>
    go_wp2
    go_ret
    exact ⟨ret_bool (by rw [← HQ.out]; simp), rfl⟩
  | false =>
  go_wp2
  go_ret
  exact ⟨ret_bool (by rw [← HQ.out]; rfl), rfl⟩

end Go.Proofs.YtgjlfcamgkeibaaGreatDoor.Rk

namespace Go.Proofs.YtgjlfcamgkeibaaGreatDoor.Rk
set_option maxRecDepth 100000
set_option linter.unusedVariables false
set_option linter.unusedSimpArgs false
open Go.RowKit Go.Maps Ba Fm Lk Ml
open Ro (At Ro Cw ros Rv Rr Att Ra rowO box_at box_kept getElem_of_drop below_new size_row size_attr range5 range2 cells)
theorem nav1 (e a : ByteArray) (he : e.size ≤ 140737488355328) (ha : a.size ≤ 140737488355328) (w : World) (q : Bool) (hq : navB e a = q) :
    Calls Tryz.prog 133 #[.string e, .string a] w fun r w' => r = .returned (.bool q) ∧ Below w.heap.size w w' := by
  have := nav_any e a (by unfold maxLen; omega) (by unfold maxLen; omega) w
  rw [hq] at this
  exact this
theorem sink1 (e a : ByteArray) (he : e.size ≤ 140737488355328) (ha : a.size ≤ 140737488355328) (w : World) (n : Nat) (hq : sinkN e a = n) :
    Calls Tryz.prog 132 #[.string e, .string a] w fun r w' => r = .returned (.int .i64 n) ∧ Below w.heap.size w w' := by
  have := sink_any e a (by unfold maxLen; omega) (by unfold maxLen; omega) w
  rw [hq] at this
  exact this
theorem script10 (s : ByteArray) (w : World) (hs : s.size ≤ 140737488355328) (q : Bool) (hq : scriptL (L s) = q) :
    Calls Tryz.prog 134 #[.string s] w fun e w' => e = .returned (.bool q) ∧ Below w.heap.size w w' := script1 s w hs q hq

theorem abox_kept {w w3 : World} {n v : ByteArray} (hb : Below (w.alloc (.cells #[.string n, .string v] 51)).heap.size (w.alloc (.cells #[.string n, .string v] 51)) w3) (j : Nat) : w3.cell? ⟨w.heap.size, j, none⟩ = (Ro.acells ⟨n, v⟩)[j]? :=
  (hb.cell (p := ⟨w.heap.size, j, none⟩) (by simp)).trans (by
    rw [World.cell?_alloc_mark]
    match j with
    | 0 | 1 => rfl
    | j + 2 => simp [Ro.acells])
set_option maxRecDepth 100000 in
theorem attr1 (e : ByteArray) (a : At) (he : e.size ≤ 140737488355328) (ha : a.name.size ≤ 140737488355328) (hv : a.value.size ≤ 140737488355328) (w : World) (q : Bool) (hq : attrB e a = q) :
    Calls Tryz.prog 84 #[.string e, .agg #[.string a.name, .string a.value]] w fun r w' => r = .returned (.bool q) ∧ Below w.heap.size w w' := by
  obtain ⟨n, v⟩ := a
  simp only at ha hv ⊢
  obtain ⟨k, hk⟩ : ∃ k, sinkN e n = k := ⟨_, rfl⟩
  obtain ⟨b, hb⟩ : ∃ b, navB e n = b := ⟨_, rfl⟩
  obtain ⟨s, hs⟩ : ∃ s, scriptL (L v) = s := ⟨_, rfl⟩
  have hq' : (decide (k ≠ 0) || (b && s)) = q := by
    rw [← hq, ← hk, ← hb, ← hs]
    rfl
  have HK := Lib.hid hk; have HB := Lib.hid hb; have HS := Lib.hid hs; have HQ := Lib.hid hq'
  clear hk hb hs hq hq'
  go_enter Tryz.func84, Tryz.ntmps84
  go_wp2_with fail
  refine (sink1 e n he ha _ k HK.out).mono ?_
  rintro r w1 ⟨rfl, b1⟩
  have c0 := abox_kept b1 0
  have c1 := abox_kept b1 1
  simp only [Ro.acells, List.getElem?_cons_zero, List.getElem?_cons_succ] at c0 c1
  have hlt : w.heap.size < w1.heap.size := Nat.lt_of_lt_of_le (by simp) b1.size
  have B1 := Lib.hid ((below_new w _).trans (b1.mono (by simp)))
  clear b1
  by_cases h0 : k = 0
  · subst h0
    go_wp2_with fail
    refine (nav1 e n he ha _ b HB.out).mono ?_
    rintro r w2 ⟨rfl, b2⟩
    have d1 := (b2.cell (p := ⟨w.heap.size, 1, none⟩) hlt).trans c1
    have B2 := Lib.hid (B1.out.trans (b2.mono B1.out.size))
    clear b2 c0 c1
    cases b with
    | true =>
      go_wp2_with fail
      refine (script10 v _ hv s HS.out).mono ?_
      rintro r w3 ⟨rfl, b3⟩
      have B3 := Lib.hid (B2.out.trans (b3.mono B2.out.size))
      clear b3
      go_wp2
      go_ret
      exact ⟨ret_bool (by rw [← HQ.out]; simp), B3.out⟩
    | false =>
      go_wp2
      go_ret
      exact ⟨ret_bool (by rw [← HQ.out]; rfl), B2.out⟩
  · have h0n : ¬ (k : Int) = 0 := by omega
    have hq1 : true = q := by rw [← HQ.out, decide_eq_true h0]; rfl
    clear c0 c1
    subst hq1
    go_wp2
    go_ret
    exact ⟨rfl, B1.out⟩

end Go.Proofs.YtgjlfcamgkeibaaGreatDoor.Rk

namespace Go.Proofs.YtgjlfcamgkeibaaGreatDoor.Lk
set_option maxRecDepth 100000
set_option linter.unusedSimpArgs false
set_option linter.unusedVariables false
open Go.RowKit Ba Fm Fo
end Go.Proofs.YtgjlfcamgkeibaaGreatDoor.Lk

namespace Go.Proofs.YtgjlfcamgkeibaaGreatDoor.Rk
set_option maxRecDepth 100000
set_option linter.unusedVariables false
set_option linter.unusedSimpArgs false
open Go.RowKit Go.Maps Ba Fm Lk Ml Fo
open Ro (At Ro)
theorem plain1 (s : ByteArray) (w : World) (hs : s.size ≤ 140737488355328) (q : Bool) (hq : decide ((32 : UInt8) ∉ L s) = q) :
    Calls Tryz.prog 246 #[.string s] w fun r w' => r = .returned (.bool q) ∧ w = w' := by
  have HQ := Lib.hid hq
  clear hq
  go_enter Tryz.func246, Tryz.ntmps246
  go_wp2
  go_loop [3] (fun i => ∃ k : Nat, i = .int .i64 k ∧ k ≤ s.size ∧ Hid ((32 : UInt8) ∉ (L s).take k)) (fun i => s.size - (intOf i).toNat)
  case atStart => exact ⟨0, rfl, Nat.zero_le _, Lib.hid (by simp)⟩
  case round =>
    obtain ⟨k, rfl, hk, hn⟩ := hrel
    by_cases hp : k < s.size
    · have ht := take_snoc s k hp
      have HT := Lib.hid ht
      clear ht
      have u32 : ((s[k].toNat : Int) == 32) = (s[k] == 32) := u8_eq (b := 32)
      obtain ⟨b, hb⟩ : ∃ b, (s[k] == 32) = b := ⟨_, rfl⟩
      rw [hb] at u32
      have HB := Lib.hid hb
      cases b with
      | true =>
        have he : q = false := by
          rw [← HQ.out]
          refine decide_eq_false fun h => h ?_
          have := HT.out ▸ List.mem_append_right ((L s).take k) (List.mem_singleton.2 (eq_of_beq hb).symm)
          exact List.mem_of_mem_take this
        subst he
        clear HQ hb
        go_wp2
        go_ret
        exact ⟨rfl, rfl⟩
      | false =>
        have hn' : (32 : UInt8) ∉ (L s).take (k + 1) := by
          rw [HT.out, List.mem_append]
          rintro (h | h)
          · exact hn.out h
          · rw [← List.mem_singleton.1 h] at hb
            cases hb
        have HN := Lib.hid hn'
        clear hn' hb
        go_wp2
        go_round
        case rel => exact ⟨k + 1, by go_num, by omega, HN⟩
        case measure => simp [intOf]; omega
    · have he : q = true := by
        rw [← HQ.out]
        have := hn.out
        rw [List.take_of_length_le (by rw [size_L]; omega)] at this
        exact decide_eq_true this
      subst he
      clear HQ
      go_wp2
      go_ret
      exact ⟨rfl, rfl⟩

/-! ### Pairs, joined by a blank. -/
end Go.Proofs.YtgjlfcamgkeibaaGreatDoor.Rk
