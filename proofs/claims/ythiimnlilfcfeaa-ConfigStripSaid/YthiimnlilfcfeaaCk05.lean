/-
  Walks of stage 12: exceeds, misnames and its closure.
  Walks of stage 12: misnames, repeats, contradicts, Check.
  Walks of stage 12: contradicts, Check.
  Walk of stage 12: the calls whose answers the document fixes.
  Stage 12: what the laws have in common: a configuration bounded, in a box of the law's own.
  Stage 12: ConfigStrip.
  boltingref02.Is, of a list that rises.
-/
import Derived.Test.YthiimnlilfcfeaaCk01
import Derived.Test.YthiimnlilfcfeaaCk02
import Derived.Deep.Cut
import Derived.Test.YthiimnlilfcfeaaCk04
import Derived.Test.YthiimnlilfcfeaaCk03
import Derived.Deep.CutRange
namespace Go.Proofs.Ythiimnlilfcfeaa.Co
set_option maxRecDepth 100000
set_option linter.unusedVariables false
set_option linter.unusedSimpArgs false
open Go.RowKit Ba Fm Fo Nm Rk
theorem max_any (x y : Nat) : ∃ m : Nat, (∀ n : Nat, n < m ↔ n < x ∨ n < y) ∧ ∀ ts t (w : World), (Builtin.max_ ts t #[.int .i64 x, .int .i64 y]).run Try.prog w = .ok (.int .i64 m) w := by
  refine ⟨max x y, fun n => by omega, fun ts t w => ?_⟩
  rw [run_max_int2]
  congr 2
  split <;> omega
theorem max_any4 (x y z u : Nat) : ∃ m : Nat, (∀ n : Nat, n < m ↔ ((n < x ∨ n < y) ∨ n < z) ∨ n < u) ∧ ∀ ts t (w : World), (Builtin.max_ ts t #[.int .i64 x, .int .i64 y, .int .i64 z, .int .i64 u]).run Try.prog w = .ok (.int .i64 m) w := by
  refine ⟨max (max (max x y) z) u, fun n => by omega, fun ts t w => ?_⟩
  simp only [Builtin.max_, Builtin.max2, List.foldlM, List.toList_toArray, pure_bind]
  show Result.ok _ _ = _
  congr 2
  split <;> split <;> split <;> omega
set_option maxRecDepth 100000 in
set_option maxHeartbeats 2000000 in
theorem exceeds1 (v : Value) (c : Cf) (w : World) (q : Bool) (h : Cv w w.heap.size v c) (hs : Sm c) (hq : bigB c = q) :
    Calls Try.prog 41 #[v] w fun r w' => r = .returned (.bool q) ∧ Below w.heap.size w w' := by
  obtain ⟨vE, vR, vA, vP, l, rfl, h⟩ := h
  obtain ⟨w0, hw0⟩ : ∃ w0, w.alloc (confO c vE vR vA vP) = w0 := ⟨_, rfl⟩
  have hb1 : Below w.heap.size w w0 := hw0 ▸ below_new12 w (confO c vE vR vA vP)
  obtain ⟨E, ce, rfl, _, _, _⟩ := h.e
  obtain ⟨R, cr, rfl, _, _, _⟩ := h.r
  obtain ⟨T, ct, rfl, _, _, _⟩ := h.a
  obtain ⟨A, cp, rfl, hcp, hna, hr⟩ := h.p
  have hpl : c.per.length = l.length := by rw [← h.m, len_pes]
  have hl : l.length ≤ 1000 := by have := hs.p; omega
  have hlen : ∀ x ∈ l, x.pe.at_.length ≤ 1000 := fun x hx => hs.pa _ (by rw [← h.m]; exact List.mem_map.2 ⟨x, hx, rfl⟩)
  have hel := hs.e; have hrl := hs.r; have hal := hs.a
  obtain ⟨m0, hm0, hmax⟩ := max_any4 c.els.length c.reps.length c.ats.length l.length
  have hbig : (decide (64 < m0) || l.any fun x => decide (64 < x.pe.at_.length)) = q := by
    rw [← hq]
    unfold bigB
    rw [hpl, ← h.m]
    unfold pes
    rw [List.any_map]
    congr 1
    rw [Bool.eq_iff_iff]
    simp only [decide_eq_true_eq, Bool.or_eq_true]
    exact hm0 64
  have hm00 : m0 ≤ 1000 := by have := (hm0 1000); omega
  have HQ := Lib.hid hbig; have HLEN := Lib.hid hlen; have HW := Lib.hid hw0; have HB1 := Lib.hid hb1; have HR := Lib.hid hr
  have hz : w.heap.size < w0.heap.size := by rw [← hw0]; simp
  have hcp0 : c.per.length = l.length := hpl
  clear hq hbig hlen hw0 hs h hm0 hpl hr hb1
  obtain ⟨n1, hn1⟩ : ∃ n, c.els.length = n := ⟨_, rfl⟩
  obtain ⟨n2, hn2⟩ : ∃ n, c.reps.length = n := ⟨_, rfl⟩
  obtain ⟨n3, hn3⟩ : ∃ n, c.ats.length = n := ⟨_, rfl⟩
  rw [hn1] at hmax hel HW
  rw [hn2] at hmax hrl HW
  rw [hn3] at hmax hal HW
  simp only [hn1, hn2, hn3]
  clear hn1 hn2 hn3 hcp0
  go_enter Try.func41, Try.ntmps41
  go_wp2
  rw [HW.out]
  clear hmax
  go_loopw [3, 5, 22] (fun n _ i wr => ∃ k m : Nat, i = .int .i64 k ∧ k ≤ l.length ∧ n = .int .i64 m ∧ m ≤ 1000 ∧ decide (64 < m) = (decide (64 < m0) || (l.take k).any fun x => decide (64 < x.pe.at_.length)) ∧ Below w0.heap.size w0 wr) (fun _ _ i _ => l.length - (intOf i).toNat)
  case atStart => exact ⟨0, m0, rfl, Nat.zero_le _, rfl, hm00, by simp, Below.refl _ _⟩
  case round =>
    obtain ⟨k, m, rfl, hks, rfl, hm1, hn, hbel⟩ := hrel
    by_cases hk : k < l.length
    · obtain ⟨b, off, x, rfl, hb, hx, hcs, hsx, hxm⟩ := (HR.out.below (HB1.out.trans (hbel.mono (Nat.le_of_lt hz)))).at_ k hk
      obtain ⟨g0, g1⟩ := range2p hcs
      have hxl := HLEN.out x hxm
      have hsn := any_snoc (fun x : Pw => decide (64 < x.pe.at_.length)) l k x hx
      obtain ⟨m2, hm2, hmax⟩ := max_any m x.pe.at_.length
      have hm3 : m2 ≤ 1000 := by have := hm2 1000; omega
      have hn2 : decide (64 < m2) = (decide (64 < m0) || (l.take (k + 1)).any fun x => decide (64 < x.pe.at_.length)) := by
        rw [hsn, ← Bool.or_assoc, ← hn, Bool.eq_iff_iff]
        simp only [decide_eq_true_eq, Bool.or_eq_true]
        exact hm2 64
      have HN := Lib.hid hn2; have HBL := Lib.hid (hbel.trans ((below_new12 wr (perO x)).mono hbel.size))
      clear hn hn2 hsn hm2 hcs hsx
      go_wp2
      go_roundw
      case rel => exact ⟨k + 1, m2, by go_num, by omega, rfl, hm3, HN.out, HBL.out⟩
      case measure => simp [intOf]; omega
    · rw [List.take_of_length_le (by omega), HQ.out] at hn
      have HN := Lib.hid hn
      have HBL := Lib.hid (HB1.out.trans (hbel.mono (Nat.le_of_lt hz)))
      clear hn hbel
      go_wp2
      go_ret
      exact ⟨ret_bool (by rw [← HN.out, Bool.eq_iff_iff]; simp only [decide_eq_true_eq]; omega), HBL.out⟩

/-- A block that holds one truth. -/
def Bb (w : World) (g : Nat) (b : Bool) : Prop := w.heap[g]? = some (.cells #[.bool b] 4)
section
variable {w w' : World} {g : Nat} {b : Bool}
theorem Bb.cell (h : Bb w g b) : w.cell? ⟨g, 0, none⟩ = some (.bool b) := by rw [cell_of_row w g 0 _ _ _ h]; rfl
theorem Bb.f (h : Bb w g b) : w.frozen? ⟨g, 0, none⟩ = false := by
  unfold Bb at h
  simp [World.frozen?, h]
theorem Bb.lt (h : Bb w g b) : g < w.heap.size := (Array.getElem?_eq_some_iff.1 h).1
theorem Bb.set (h : Bb w g b) (u : Bool) : Bb (w.setCell ⟨g, 0, none⟩ (.bool u)) g u := by
  unfold Bb at h ⊢
  simp [World.setCell, Array.getElem?_modify, h]
theorem Bb.below (h : Bb w g b) (hb : Below w.heap.size w w') : Bb w' g b := (hb.block g h.lt).trans h
end
theorem gset12 (w : World) (b j : Nat) (u : Value) : w.grownBy (w.setCell ⟨b, j, none⟩ u) (some b) :=
  ⟨rfl, rfl, rfl, by simp [World.setCell], fun k _ hk => Below.heap_setCell _ _ _ _ (fun e => hk (by simp [e]))⟩
theorem all_snoc12 (p : ByteArray → Bool) (l : List ByteArray) (k : Nat) (h : k < l.length) : (l.take (k + 1)).all p = ((l.take k).all p && p l[k]) := by
  rw [List.take_succ_eq_append_getElem h, List.all_append]
  simp
set_option maxRecDepth 100000 in
set_option maxHeartbeats 2000000 in
theorem mis_R (A : Option Addr) (c : Nat) (l : List ByteArray) (w : World) (g : Nat) (b : Bool) (hr : 0 < l.length → ∃ b0 off, A = some ⟨b0, off, none⟩ ∧ b0 < w.heap.size ∧ b0 ≠ g ∧ ∀ j (h : j < l.length), w.cell? ⟨b0, off + j, none⟩ = some (.string l[j])) (hl : l.length ≤ 1000000)
    (hsz : ∀ s ∈ l, s.size ≤ 140737488355328) (hg : Bb w g b) :
    Calls Try.prog 55 #[.func (.func 56) #[] #[], .slice A l.length c, .pointer (some ⟨g, 0, none⟩)] w fun r w' => r = .returned (.tuple #[]) ∧ Bb w' g (b || !l.all rightB) ∧ w.grownBy w' (some g) := by
  have HSZ := Lib.hid hsz; clear hsz
  go_enter Try.func55, Try.ntmps55
  go_wp2
  go_loopw [6, 9] (fun _ i wr => ∃ k : Nat, i = .int .i64 k ∧ k ≤ l.length ∧ Bb wr g (b || !(l.take k).all rightB) ∧ w.grownBy wr (some g)) (fun _ i _ => l.length - (intOf i).toNat)
  case atStart => exact ⟨0, rfl, Nat.zero_le _, by simpa using hg, World.grownBy.refl _ _⟩
  case round =>
    clear hg
    obtain ⟨k, rfl, hks, hg, hgr⟩ := hrel
    by_cases hk : k < l.length
    · obtain ⟨b0, off, rfl, hb0, hne, hc⟩ := hr (by omega)
      have hcell := (World.cell?_of_block (a := ⟨b0, off + k, none⟩) (hgr.block b0 hb0 (by simpa using hne))).trans (hc k hk)
      have hsn := all_snoc12 rightB l k hk
      have hxs := HSZ.out _ (List.getElem_mem hk)
      obtain ⟨t, ht⟩ : ∃ t, (b || !(l.take k).all rightB) = t := ⟨_, rfl⟩
      have hsn2 : (b || !(l.take (k + 1)).all rightB) = (t || !rightB l[k]) := by
        rw [hsn, ← ht]
        cases b <;> cases (l.take k).all rightB <;> cases rightB l[k] <;> rfl
      rw [ht] at hg
      have g0 := hg.cell; have f0 := hg.f
      have HSN := Lib.hid hsn2; have HG := Lib.hid hg; have HGR := Lib.hid hgr
      clear hc hr hsn hsn2 hg hgr ht
      cases t with
      | true =>
        go_wp2
        go_roundw
        case rel => exact ⟨k + 1, by go_num, by omega, by rw [HSN.out]; exact HG.out.set true, HGR.out.trans (gset12 wr g 0 _)⟩
        case measure => simp [intOf]; omega
      | false =>
        obtain ⟨u, hu⟩ : ∃ u, rightB l[k] = u := ⟨_, rfl⟩
        have HU := Lib.hid hu; clear hu
        go_wp2_with (go_at_call 56; refine (Na.right_any l[k] _ hxs).mono ?_; rw [HU.out]; rintro r w3 ⟨rfl, rfl⟩)
        go_roundw
        case rel => exact ⟨k + 1, by go_num, by omega, by rw [HSN.out, HU.out]; exact HG.out.set (!u), HGR.out.trans (gset12 wr g 0 _)⟩
        case measure => simp [intOf]; omega
    · rw [List.take_of_length_le (by omega)] at hg
      have HG := Lib.hid hg; have HGR := Lib.hid hgr
      clear hg hgr
      go_wp2
      go_end0
      exact ⟨rfl, HG.out, HGR.out⟩
set_option maxRecDepth 100000 in
set_option maxHeartbeats 2000000 in
theorem mis_T (A : Option Addr) (c : Nat) (l : List ByteArray) (w : World) (g : Nat) (b : Bool) (hr : 0 < l.length → ∃ b0 off, A = some ⟨b0, off, none⟩ ∧ b0 < w.heap.size ∧ b0 ≠ g ∧ ∀ j (h : j < l.length), w.cell? ⟨b0, off + j, none⟩ = some (.string l[j])) (hl : l.length ≤ 1000000)
    (hsz : ∀ s ∈ l, s.size ≤ 140737488355328) (hg : Bb w g b) :
    Calls Try.prog 55 #[.func (.func 57) #[] #[], .slice A l.length c, .pointer (some ⟨g, 0, none⟩)] w fun r w' => r = .returned (.tuple #[]) ∧ Bb w' g (b || !l.all attrB) ∧ w.grownBy w' (some g) := by
  have HSZ := Lib.hid hsz; clear hsz
  go_enter Try.func55, Try.ntmps55
  go_wp2
  go_loopw [6, 9] (fun _ i wr => ∃ k : Nat, i = .int .i64 k ∧ k ≤ l.length ∧ Bb wr g (b || !(l.take k).all attrB) ∧ w.grownBy wr (some g)) (fun _ i _ => l.length - (intOf i).toNat)
  case atStart => exact ⟨0, rfl, Nat.zero_le _, by simpa using hg, World.grownBy.refl _ _⟩
  case round =>
    clear hg
    obtain ⟨k, rfl, hks, hg, hgr⟩ := hrel
    by_cases hk : k < l.length
    · obtain ⟨b0, off, rfl, hb0, hne, hc⟩ := hr (by omega)
      have hcell := (World.cell?_of_block (a := ⟨b0, off + k, none⟩) (hgr.block b0 hb0 (by simpa using hne))).trans (hc k hk)
      have hsn := all_snoc12 attrB l k hk
      have hxs := HSZ.out _ (List.getElem_mem hk)
      obtain ⟨t, ht⟩ : ∃ t, (b || !(l.take k).all attrB) = t := ⟨_, rfl⟩
      have hsn2 : (b || !(l.take (k + 1)).all attrB) = (t || !attrB l[k]) := by
        rw [hsn, ← ht]
        cases b <;> cases (l.take k).all attrB <;> cases attrB l[k] <;> rfl
      rw [ht] at hg
      have g0 := hg.cell; have f0 := hg.f
      have HSN := Lib.hid hsn2; have HG := Lib.hid hg; have HGR := Lib.hid hgr
      clear hc hr hsn hsn2 hg hgr ht
      cases t with
      | true =>
        go_wp2
        go_roundw
        case rel => exact ⟨k + 1, by go_num, by omega, by rw [HSN.out]; exact HG.out.set true, HGR.out.trans (gset12 wr g 0 _)⟩
        case measure => simp [intOf]; omega
      | false =>
        obtain ⟨u, hu⟩ : ∃ u, attrB l[k] = u := ⟨_, rfl⟩
        have HU := Lib.hid hu; clear hu
        go_wp2_with (go_at_call 57; refine (Na.attr_any l[k] _ hxs).mono ?_; rw [HU.out]; rintro r w3 ⟨rfl, rfl⟩)
        go_roundw
        case rel => exact ⟨k + 1, by go_num, by omega, by rw [HSN.out, HU.out]; exact HG.out.set (!u), HGR.out.trans (gset12 wr g 0 _)⟩
        case measure => simp [intOf]; omega
    · rw [List.take_of_length_le (by omega)] at hg
      have HG := Lib.hid hg; have HGR := Lib.hid hgr
      clear hg hgr
      go_wp2
      go_end0
      exact ⟨rfl, HG.out, HGR.out⟩

end Go.Proofs.Ythiimnlilfcfeaa.Co

namespace Go.Proofs.Ythiimnlilfcfeaa.Co
set_option maxRecDepth 100000
set_option linter.unusedVariables false
set_option linter.unusedSimpArgs false
open Go.RowKit Ba Fm Fo Nm Rk
theorem rd_ne {w : World} {N g : Nat} {A : Option Addr} {l : List ByteArray} (h : Rd w N A l) (h1 : N ≤ w.heap.size) (h2 : N ≤ g) :
    0 < l.length → ∃ b0 off, A = some ⟨b0, off, none⟩ ∧ b0 < w.heap.size ∧ b0 ≠ g ∧ ∀ j (h : j < l.length), w.cell? ⟨b0, off + j, none⟩ = some (.string l[j]) := fun h0 => by
  obtain ⟨b, off, e, hb, hc⟩ := h h0
  exact ⟨b, off, e, by omega, by omega, hc⟩
/-- mis_R and mis_T at a value that reads as names. -/
theorem mis_R1 (v : Value) (N : Nat) (l : List ByteArray) (w : World) (g : Nat) (b q : Bool) (h : Sv w N v l) (hN : N ≤ w.heap.size) (hg0 : N ≤ g) (hl : l.length ≤ 1000000) (hsz : ∀ s ∈ l, s.size ≤ 140737488355328) (hg : Bb w g b) (hq : (b || !l.all rightB) = q) :
    Calls Try.prog 55 #[.func (.func 56) #[] #[], v, .pointer (some ⟨g, 0, none⟩)] w fun r w' => r = .returned (.tuple #[]) ∧ Bb w' g q ∧ w.grownBy w' (some g) := by
  obtain ⟨A, c, rfl, _, _, hr⟩ := h
  subst hq
  exact mis_R A c l w g b (rd_ne hr hN hg0) hl hsz hg
theorem mis_T1 (v : Value) (N : Nat) (l : List ByteArray) (w : World) (g : Nat) (b q : Bool) (h : Sv w N v l) (hN : N ≤ w.heap.size) (hg0 : N ≤ g) (hl : l.length ≤ 1000000) (hsz : ∀ s ∈ l, s.size ≤ 140737488355328) (hg : Bb w g b) (hq : (b || !l.all attrB) = q) :
    Calls Try.prog 55 #[.func (.func 57) #[] #[], v, .pointer (some ⟨g, 0, none⟩)] w fun r w' => r = .returned (.tuple #[]) ∧ Bb w' g q ∧ w.grownBy w' (some g) := by
  obtain ⟨A, c, rfl, _, _, hr⟩ := h
  subst hq
  exact mis_T A c l w g b (rd_ne hr hN hg0) hl hsz hg
/-- One name, in a block of its own. -/
theorem mis_R2 (s : ByteArray) (w : World) (g : Nat) (b q : Bool) (hsz : s.size ≤ 140737488355328) (hg : Bb w g b) (hq : (b || !rightB s) = q) :
    Calls Try.prog 55 #[.func (.func 56) #[] #[], .slice (some ⟨w.heap.size, 0, none⟩) 1 1, .pointer (some ⟨g, 0, none⟩)] (w.alloc (.cells #[.string s] 9)) fun r w' => r = .returned (.tuple #[]) ∧ Bb w' g q ∧ w.grownBy w' (some g) := by
  subst hq
  have hgl := hg.lt
  refine (mis_R (some ⟨w.heap.size, 0, none⟩) 1 [s] (w.alloc (.cells #[.string s] 9)) g b (fun _ => ⟨w.heap.size, 0, rfl, by simp, by omega, fun j hj => ?_⟩) (by simp) (fun t ht => by rw [List.mem_singleton] at ht; rw [ht]; exact hsz) (hg.below (below_new12 w _))).mono ?_
  · have : j = 0 := by simpa using hj
    subst this
    rw [World.cell?_alloc_mark]
    rfl
  · rintro r w' ⟨rfl, h1, h2⟩
    refine ⟨rfl, by simpa using h1, (World.grownBy_alloc w _ _).trans h2⟩
theorem all_snocP (p : Pw → Bool) (l : List Pw) (k : Nat) (x : Pw) (h : l[k]? = some x) : (l.take (k + 1)).all p = ((l.take k).all p && p x) := by
  have hk : k < l.length := (List.getElem?_eq_some_iff.1 h).1
  have hx : l[k] = x := (List.getElem?_eq_some_iff.1 h).2
  rw [List.take_succ_eq_append_getElem hk, List.all_append, hx]
  simp
set_option maxRecDepth 100000 in
set_option maxHeartbeats 4000000 in
theorem misnames1 (v : Value) (c : Cf) (w : World) (q : Bool) (h : Cv w w.heap.size v c) (hs : Sm c) (hq : (!namesB c) = q) :
    Calls Try.prog 42 #[v] w fun r w' => r = .returned (.bool q) ∧ Below w.heap.size w w' := by
  have hmf : ∀ (fn : Fn) (first cap : Array Value) (w : World), (Instr.makeFunc fn first cap).run Try.prog w = .ok (.func fn first cap) w := fun _ _ _ _ => rfl
  obtain ⟨vE, vR, vA, vP, l, rfl, h⟩ := h
  obtain ⟨w0, hw0⟩ : ∃ w0, (w.alloc (confO c vE vR vA vP)).alloc (.cells #[.bool false] 4) = w0 := ⟨_, rfl⟩
  have hba : Below w.heap.size w (w.alloc (confO c vE vR vA vP)) := below_new12 w _
  have hb1 : Below w.heap.size w w0 := hw0 ▸ hba.trans ((below_new12 _ _).mono hba.size)
  have hbx : Bx w0 w.heap.size c vE vR vA vP := hw0 ▸ (Bx.new w c vE vR vA vP).below (below_new12 _ _) (by simp)
  have hbb : Bb w0 (w.heap.size + 1) false := by
    rw [← hw0]
    unfold Bb
    have := heap_alloc_new (w.alloc (confO c vE vR vA vP)) (.cells #[.bool false] 4)
    rwa [World.size_alloc] at this
  have hz : w0.heap.size = w.heap.size + 2 := by rw [← hw0]; simp
  obtain ⟨A, cp, rfl, hcp, hna, hr⟩ := h.p
  have hpl : c.per.length = l.length := by rw [← h.m, len_pes]
  have hl : l.length ≤ 1000 := by have := hs.p; omega
  have hlen : ∀ x ∈ l, x.pe.at_.length ≤ 1000 ∧ x.pe.el.size ≤ 140737488355328 ∧ ∀ s ∈ x.pe.at_, s.size ≤ 140737488355328 := fun x hx => by
    have hm : x.pe ∈ c.per := by rw [← h.m]; exact List.mem_map.2 ⟨x, hx, rfl⟩
    exact ⟨hs.pa _ hm, hs.ps _ hm⟩
  obtain ⟨b1, hb1'⟩ : ∃ b, (false || !c.els.all rightB) = b := ⟨_, rfl⟩
  obtain ⟨b2, hb2'⟩ : ∃ b, (b1 || !c.reps.all rightB) = b := ⟨_, rfl⟩
  obtain ⟨b3, hb3'⟩ : ∃ b, (b2 || !c.ats.all attrB) = b := ⟨_, rfl⟩
  have hfin : (b3 || !l.all fun x => rightB x.pe.el && x.pe.at_.all attrB) = q := by
    rw [← hq, ← hb3', ← hb2', ← hb1']
    unfold namesB
    rw [← h.m]
    unfold pes
    rw [List.all_map]
    simp only [Bool.not_and, Bool.false_or]
    rfl
  have HQ := Lib.hid hfin; have HLEN := Lib.hid hlen; have HW := Lib.hid hw0; have HB1 := Lib.hid hb1; have HR := Lib.hid hr
  -- what stays under a growth of the truth's block
  have hst : ∀ wx, w0.grownBy wx (some (w.heap.size + 1)) → Below w.heap.size w wx := fun wx hg => hb1.grown hg (by omega) (fun k hk => by injection hk with hk; omega)
  have hbox : ∀ wx, w0.grownBy wx (some (w.heap.size + 1)) → Bx wx w.heap.size c vE vR vA (.slice A l.length cp) := fun wx hg j u hu => (World.cell?_of_block (a := ⟨w.heap.size, 0 + j, none⟩) (hg.block _ (by show w.heap.size < _; omega) (by simp))).trans (hbx j u hu)
  have HST := Lib.hid hst; have HBX := Lib.hid hbox; have HBB := Lib.hid hbb
  have HE := Lib.hid (fun wx hg hb => mis_R1 vE w.heap.size c.els wx (w.heap.size + 1) false b1 (h.e.below (hst wx hg) (Nat.le_refl _)) (hst wx hg).size (Nat.le_succ _) (by have := hs.e; omega) hs.es hb hb1')
  have HRR := Lib.hid (fun wx hg hb => mis_R1 vR w.heap.size c.reps wx (w.heap.size + 1) b1 b2 (h.r.below (hst wx hg) (Nat.le_refl _)) (hst wx hg).size (Nat.le_succ _) (by have := hs.r; omega) hs.rs hb hb2')
  have HAA := Lib.hid (fun wx hg hb => mis_T1 vA w.heap.size c.ats wx (w.heap.size + 1) b2 b3 (h.a.below (hst wx hg) (Nat.le_refl _)) (hst wx hg).size (Nat.le_succ _) (by have := hs.a; omega) hs.as_ hb hb3')
  have g2 := (hbox w0 (World.grownBy.refl _ _)).at_.2.2.1
  clear hq hfin hlen hs h hpl hr hb1 hbx hbb hst hbox hb1' hb2' hb3' hba hw0
  go_enter Try.func42, Try.ntmps42
  go_upto_region 3 with (fail)
  rw [HW.out]
  go_wp2_with fail
  refine (HE.out w0 (World.grownBy.refl _ _) HBB.out).mono ?_
  rintro r w1 ⟨rfl, hbb1, hg1⟩
  have g3 := (HBX.out w1 hg1).at_.2.2.2.1
  clear g2
  have HBB1 := Lib.hid hbb1; have HG1 := Lib.hid hg1; clear hbb1 hg1
  go_wp2_with fail
  refine (HRR.out w1 HG1.out HBB1.out).mono ?_
  rintro r w2 ⟨rfl, hbb2, hg2⟩
  have HBB2 := Lib.hid hbb2; have HG2 := Lib.hid (HG1.out.trans hg2); clear hbb2 hg2 g3
  have g4 := (HBX.out w2 HG2.out).at_.2.2.2.2.1
  go_wp2_with fail
  refine (HAA.out w2 HG2.out HBB2.out).mono ?_
  rintro r w3 ⟨rfl, hbb3, hg3⟩
  have HBB3 := Lib.hid hbb3; have HG3 := Lib.hid (HG2.out.trans hg3); clear hbb3 hg3 g4
  have g5 := (HBX.out w3 HG3.out).at_.2.2.2.2.2.1
  clear hmf
  go_wp2
  clear g5
  go_loopw [6, 23] (fun _ i wr => ∃ k : Nat, i = .int .i64 k ∧ k ≤ l.length ∧ Bb wr (w.heap.size + 1) (b3 || !(l.take k).all fun x => rightB x.pe.el && x.pe.at_.all attrB) ∧ w0.grownBy wr (some (w.heap.size + 1))) (fun _ i _ => l.length - (intOf i).toNat)
  case atStart => exact ⟨0, rfl, Nat.zero_le _, by simpa using HBB3.out, HG3.out⟩
  case round =>
    obtain ⟨k, rfl, hks, hn, hgr⟩ := hrel
    by_cases hk : k < l.length
    · have hbel := HST.out wr hgr
      obtain ⟨b, off, x, rfl, hb, hx, hcs, hsx, hxm⟩ := (HR.out.below hbel).at_ k hk
      obtain ⟨k0, k1⟩ := range2p hcs
      obtain ⟨hx1, hx2, hx3⟩ := HLEN.out x hxm
      have hsn := all_snocP (fun x => rightB x.pe.el && x.pe.at_.all attrB) l k x hx
      obtain ⟨t, ht⟩ : ∃ t, (b3 || !(l.take k).all fun x => rightB x.pe.el && x.pe.at_.all attrB) = t := ⟨_, rfl⟩
      rw [ht] at hn
      obtain ⟨t1, ht1⟩ : ∃ t1, (t || !rightB x.pe.el) = t1 := ⟨_, rfl⟩
      obtain ⟨t2, ht2⟩ : ∃ t2, (t1 || !x.pe.at_.all attrB) = t2 := ⟨_, rfl⟩
      have hsn2 : (b3 || !(l.take (k + 1)).all fun x => rightB x.pe.el && x.pe.at_.all attrB) = t2 := by
        rw [hsn, ← ht2, ← ht1, ← ht]
        cases b3 <;> cases ((l.take k).all fun x => rightB x.pe.el && x.pe.at_.all attrB) <;> cases rightB x.pe.el <;> cases x.pe.at_.all attrB <;> rfl
      have hgr1 := hgr.trans (World.grownBy_alloc wr (perO x) (some (w.heap.size + 1)))
      have hz1 : w.heap.size ≤ wr.heap.size := hbel.size
      have hgne : ¬ wr.heap.size = w.heap.size + 1 := by have := hgr.size; omega
      have hpx : ∀ wx, (wr.alloc (perO x)).grownBy wx (some (w.heap.size + 1)) → wx.cell? ⟨wr.heap.size, 1, none⟩ = some (.slice x.A x.pe.at_.length x.c) := fun wx hg => (World.cell?_of_block (a := ⟨wr.heap.size, 1, none⟩) (hg.block _ (by simp) (by simpa using hgne))).trans (pbox_at wr x 1)
      have HPX := Lib.hid hpx
      have hR2 := mis_R2 x.pe.el (wr.alloc (perO x)) (w.heap.size + 1) t t1 hx2 (hn.below (below_new12 wr (perO x))) ht1
      rw [World.size_alloc] at hR2
      have HR2 := Lib.hid hR2
      clear hR2
      have hbw : ∀ wx, (wr.alloc (perO x)).grownBy wx (some (w.heap.size + 1)) → Below w.heap.size wr wx := fun wx hg => ((Below.refl w.heap.size wr).alloc hz1 _).grown hg (by simp; omega) (fun k hk => by injection hk with hk; omega)
      have HT2 := Lib.hid (fun wx (hg : (wr.alloc (perO x)).grownBy wx (some (w.heap.size + 1))) hb => mis_T1 (.slice x.A x.pe.at_.length x.c) w.heap.size x.pe.at_ wx (w.heap.size + 1) t1 t2 (hsx.below (hbw wx hg) (Nat.le_refl _)) (HST.out wx (hgr1.trans hg)).size (Nat.le_succ _) (by omega) hx3 hb ht2)
      have HSN := Lib.hid hsn2; have HGR := Lib.hid hgr1
      clear hcs hsx hsn hsn2 hgr hgr1 hn ht ht1 ht2 hbel hpx hx3 hx2 hbw
      go_wp2_with fail
      refine HR2.out.mono ?_
      rintro r w4 ⟨rfl, hbb4, hg4⟩
      have p1 := HPX.out w4 hg4
      have HB4 := Lib.hid hbb4; have HG4 := Lib.hid hg4
      clear hbb4 hg4
      go_wp2_with fail
      refine (HT2.out w4 HG4.out HB4.out).mono ?_
      rintro r w5 ⟨rfl, hbb5, hg5⟩
      have HB5 := Lib.hid hbb5; have HG5 := Lib.hid (HGR.out.trans (HG4.out.trans hg5))
      clear hbb5 hg5
      go_wp2
      go_roundw
      case rel => exact ⟨k + 1, by go_num, by omega, by rw [HSN.out]; exact HB5.out, HG5.out⟩
      case measure => simp [intOf]; omega
    · rw [List.take_of_length_le (by omega), HQ.out] at hn
      have g0 := hn.cell
      have HBL := Lib.hid (HST.out wr hgr)
      clear hn hgr
      go_wp2
      go_ret
      exact ⟨rfl, HBL.out⟩

set_option maxRecDepth 100000 in
set_option maxHeartbeats 4000000 in
theorem repeats1 (v : Value) (c : Cf) (w : World) (q : Bool) (h : Cv w w.heap.size v c) (hs : Sm c) (hq : (!singleB c) = q) :
    Calls Try.prog 43 #[v] w fun r w' => r = .returned (.bool q) ∧ Below w.heap.size w w' := by
  obtain ⟨vE, vR, vA, vP, l, rfl, h⟩ := h
  obtain ⟨w0, hw0⟩ : ∃ w0, w.alloc (confO c vE vR vA vP) = w0 := ⟨_, rfl⟩
  have hb1 : Below w.heap.size w w0 := hw0 ▸ below_new12 w (confO c vE vR vA vP)
  have hbx : Bx w0 w.heap.size c vE vR vA vP := hw0 ▸ Bx.new w c vE vR vA vP
  have hz : w.heap.size < w0.heap.size := by rw [← hw0]; simp
  have h0 := h.on hb1
  obtain ⟨A, cp, rfl, hcp, hna, hr⟩ := h0.p
  have hpl : c.per.length = l.length := by rw [← h.m, len_pes]
  have hl : l.length ≤ 1000 := by have := hs.p; omega
  have hlen : ∀ x ∈ l, x.pe.at_.length ≤ 1000 := fun x hx => hs.pa _ (by rw [← h.m]; exact List.mem_map.2 ⟨x, hx, rfl⟩)
  obtain ⟨e1, he1⟩ : ∃ b, (!onceB c.els) = b := ⟨_, rfl⟩
  obtain ⟨e2, he2⟩ : ∃ b, (!onceB c.reps) = b := ⟨_, rfl⟩
  obtain ⟨e3, he3⟩ : ∃ b, (!onceB c.ats) = b := ⟨_, rfl⟩
  obtain ⟨e4, he4⟩ : ∃ b, (!onceB ((pes l).map Pe.el)) = b := ⟨_, rfl⟩
  have hfin : ((l.any fun x => !onceB x.pe.at_) || (e1 || e2 || e3 || e4)) = q := by
    rw [← hq, ← he1, ← he2, ← he3, ← he4]
    unfold singleB
    rw [← h.m]
    unfold pes
    rw [List.all_map, List.any_eq_not_all_not, show (l.all ((fun p => onceB p.at_) ∘ Pw.pe)) = l.all fun x => onceB x.pe.at_ from rfl]
    simp only [Bool.not_not]
    cases onceB c.els <;> cases onceB c.reps <;> cases onceB c.ats <;> cases onceB ((l.map Pw.pe).map Pe.el) <;> cases (l.all fun x => onceB x.pe.at_) <;> rfl
  have HQ := Lib.hid hfin; have HLEN := Lib.hid hlen; have HW := Lib.hid hw0; have HB1 := Lib.hid hb1; have HR := Lib.hid hr
  have HBX := Lib.hid (fun wx (hb : Below w0.heap.size w0 wx) => hbx.below hb hz)
  have HE := Lib.hid (fun wx hb => twiceS vE c.els wx e1 (sv_on h0.e hb) (by have := hs.e; omega) he1)
  have HRR := Lib.hid (fun wx hb => twiceS vR c.reps wx e2 (sv_on h0.r hb) (by have := hs.r; omega) he2)
  have HAA := Lib.hid (fun wx hb => twiceS vA c.ats wx e3 (sv_on h0.a hb) (by have := hs.a; omega) he3)
  have HPP := Lib.hid (fun wx hb => twiceP (.slice A l.length cp) l wx e4 (h0.p.on hb) (by omega) he4)
  clear hq hfin hlen hs h h0 hpl hr hb1 hbx he1 he2 he3 he4 hw0
  go_enter Try.func43, Try.ntmps43
  go_wp2
  rw [HW.out]
  go_loopw [5, 9] (fun _ i wr => ∃ k : Nat, i = .int .i64 k ∧ k ≤ l.length ∧ ((l.take k).any fun x => !onceB x.pe.at_) = false ∧ Below w0.heap.size w0 wr) (fun _ i _ => l.length - (intOf i).toNat)
  case atStart => exact ⟨0, rfl, Nat.zero_le _, rfl, Below.refl _ _⟩
  case round =>
    obtain ⟨k, rfl, hks, hn, hbel⟩ := hrel
    by_cases hk : k < l.length
    · obtain ⟨b, off, x, rfl, hb, hx, hcs, hsx, hxm⟩ := (HR.out.below hbel).at_ k hk
      obtain ⟨k0, k1⟩ := range2p hcs
      have hx1 := HLEN.out x hxm
      have hsn := any_snoc (fun x : Pw => !onceB x.pe.at_) l k x hx
      rw [hn, Bool.false_or] at hsn
      obtain ⟨t, ht⟩ : ∃ t, (!onceB x.pe.at_) = t := ⟨_, rfl⟩
      rw [ht] at hsn
      have hsx1 : Sx (wr.alloc (perO x)) (wr.alloc (perO x)).heap.size x := Sx.boxed hsx hbel (perO x)
      have HT := Lib.hid (twiceS (.slice x.A x.pe.at_.length x.c) x.pe.at_ _ t hsx1 (by omega) ht)
      have HSN := Lib.hid hsn; have HBL := Lib.hid (hbel.trans ((below_new12 wr (perO x)).mono hbel.size))
      clear hcs hsx hsx1 hsn hn hbel
      cases t with
      | true =>
        have HM := Lib.hid (any_yes (fun x : Pw => !onceB x.pe.at_) l x hxm ht)
        clear ht
        go_wp2_with fail
        refine HT.out.mono ?_
        rintro r w3 ⟨rfl, hb3⟩
        go_wp2
        go_ret
        exact ⟨ret_bool (by rw [← HQ.out, HM.out]; rfl), HB1.out.trans ((HBL.out.trans (hb3.mono HBL.out.size)).mono HB1.out.size)⟩
      | false =>
        clear ht
        go_wp2_with fail
        refine HT.out.mono ?_
        rintro r w3 ⟨rfl, hb3⟩
        go_wp2
        go_roundw
        case rel => exact ⟨k + 1, by go_num, by omega, HSN.out, HBL.out.trans (hb3.mono HBL.out.size)⟩
        case measure => simp [intOf]; omega
    · rw [List.take_of_length_le (by omega)] at hn
      have hq := HQ.out
      rw [hn, Bool.false_or] at hq
      have g2 := (HBX.out wr hbel).at_.2.2.1
      have HBL := Lib.hid hbel; have HQ2 := Lib.hid hq
      clear hn hbel hq
      cases e1 with
      | true =>
        go_wp2_with (go_at_call 59; refine (HE.out _ HBL.out).mono ?_; rintro r w3 ⟨rfl, hb3⟩)
        go_ret
        exact ⟨ret_bool (by rw [← HQ2.out]; rfl), HB1.out.trans ((HBL.out.trans (hb3.mono HBL.out.size)).mono (Nat.le_of_lt hz))⟩
      | false =>
        go_wp2_with fail
        refine (HE.out _ HBL.out).mono ?_
        rintro r w3 ⟨rfl, hb3⟩
        have HBL3 := Lib.hid (HBL.out.trans (hb3.mono HBL.out.size))
        clear hb3 g2
        have g3 := (HBX.out w3 HBL3.out).at_.2.2.2.1
        cases e2 with
        | true =>
          go_wp2_with (go_at_call 59; refine (HRR.out _ HBL3.out).mono ?_; rintro r w4 ⟨rfl, hb4⟩)
          go_ret
          exact ⟨ret_bool (by rw [← HQ2.out]; rfl), HB1.out.trans ((HBL3.out.trans (hb4.mono HBL3.out.size)).mono (Nat.le_of_lt hz))⟩
        | false =>
          go_wp2_with fail
          refine (HRR.out _ HBL3.out).mono ?_
          rintro r w4 ⟨rfl, hb4⟩
          have HBL4 := Lib.hid (HBL3.out.trans (hb4.mono HBL3.out.size))
          clear hb4 g3
          have g4 := (HBX.out w4 HBL4.out).at_.2.2.2.2.1
          cases e3 with
          | true =>
            go_wp2_with (go_at_call 59; refine (HAA.out _ HBL4.out).mono ?_; rintro r w5 ⟨rfl, hb5⟩)
            go_ret
            exact ⟨ret_bool (by rw [← HQ2.out]; rfl), HB1.out.trans ((HBL4.out.trans (hb5.mono HBL4.out.size)).mono (Nat.le_of_lt hz))⟩
          | false =>
            go_wp2_with fail
            refine (HAA.out _ HBL4.out).mono ?_
            rintro r w5 ⟨rfl, hb5⟩
            have HBL5 := Lib.hid (HBL4.out.trans (hb5.mono HBL4.out.size))
            clear hb5 g4
            have g5 := (HBX.out w5 HBL5.out).at_.2.2.2.2.2.1
            go_wp2_with (go_at_call 61; refine (HPP.out _ HBL5.out).mono ?_; rintro r w6 ⟨rfl, hb6⟩)
            go_ret
            exact ⟨ret_bool (by rw [← HQ2.out]; rfl), HB1.out.trans ((HBL5.out.trans (hb6.mono HBL5.out.size)).mono (Nat.le_of_lt hz))⟩

end Go.Proofs.Ythiimnlilfcfeaa.Co

namespace Go.Proofs.Ythiimnlilfcfeaa.Co
set_option maxRecDepth 100000
set_option linter.unusedVariables false
set_option linter.unusedSimpArgs false
open Go.RowKit Ba Fm Fo Nm Rk
theorem meetSP_eq (a : List ByteArray) (l : List Pe) : meetSPB a l = l.any fun p => meetB p.at_ a := by
  unfold meetSPB
  rw [Bool.eq_iff_iff, List.any_eq_true, List.any_eq_true]
  constructor
  · rintro ⟨x, hx, h⟩
    obtain ⟨p, hp, hi⟩ := List.any_eq_true.1 h
    exact ⟨p, hp, meet_iff.2 ⟨x, isIn_of hi, hx⟩⟩
  · rintro ⟨p, hp, h⟩
    obtain ⟨x, h1, h2⟩ := meet_iff.1 h
    exact ⟨x, h2, any_yes _ _ p hp (isIn_yes h1)⟩
set_option maxRecDepth 100000 in
set_option maxHeartbeats 4000000 in
theorem contradicts1 (v : Value) (c : Cf) (w : World) (q : Bool) (h : Cv w w.heap.size v c) (hs : Sm c) (hq : bothB c = q) :
    Calls Try.prog 44 #[v] w fun r w' => r = .returned (.bool q) ∧ Below w.heap.size w w' := by
  obtain ⟨vE, vR, vA, vP, l, rfl, h⟩ := h
  obtain ⟨al, aa, els, reps, ats, per, cm, da⟩ := c
  obtain ⟨O, hO⟩ : ∃ O : Obj, O = .cells #[.bool al, .bool aa, vE, vR, vA, vP, .bool cm, .bool da] 25 := ⟨_, rfl⟩
  have hb1 : Below w.heap.size w (w.alloc O) := below_new12 w O
  have hz : w.heap.size < (w.alloc O).heap.size := by simp
  have hbx : Bx (w.alloc O) w.heap.size ⟨al, aa, els, reps, ats, per, cm, da⟩ vE vR vA vP := by rw [hO]; exact Bx.new w ⟨al, aa, els, reps, ats, per, cm, da⟩ vE vR vA vP
  have h0 := h.on hb1
  have hpl : per.length = l.length := by have := h.m; simp only at this; rw [← this, len_pes]
  have hl : l.length ≤ 1000 := by have := hs.p; simp only at this; omega
  have hlen : ∀ x ∈ l, x.pe.at_.length ≤ 1000000 := fun x hx => Nat.le_trans (hs.pa x.pe (by rw [← h.m]; exact List.mem_map.2 ⟨x, hx, rfl⟩)) (by omega)
  obtain ⟨e1, he1⟩ : ∃ b, meetB els reps = b := ⟨_, rfl⟩
  obtain ⟨e2, he2⟩ : ∃ b, meetSPB ats (pes l) = b := ⟨_, rfl⟩
  have hfin : (e1 || e2 || (da && !aa)) = q := by
    rw [← hq, ← he1, ← he2, meetSP_eq, h.m]
    show (meetB els reps || (per.any fun p => meetB p.at_ ats) || (da && !aa)) = (meetB els reps || (da && !aa) || per.any fun p => meetB p.at_ ats)
    rw [Bool.or_assoc, Bool.or_assoc, Bool.or_comm (per.any _)]
  have hls := hs.e; have hlr := hs.r; have hla := hs.a
  simp only at hls hlr hla
  have HE := Lib.hid (fun wx (hw : w.alloc O = wx) => meetSS vE vR wx.heap.size wx.heap.size els reps wx e1 (by subst hw; exact h0.e) (by subst hw; exact h0.r) (by omega) (by omega) he1)
  have HP := Lib.hid (fun wx (hw : w.alloc O = wx) => meetSP vA vP ats l wx e2 (by subst hw; exact h0.a) (by subst hw; exact h0.p) (by omega) (by omega) hlen he2)
  have H1 := Lib.hid (fun (wx : World) (hb : Below (w.alloc O).heap.size (w.alloc O) wx) => show wx.cell? ⟨w.heap.size, 1, none⟩ = some (.bool aa) ∧ wx.cell? ⟨w.heap.size, 7, none⟩ = some (.bool da) from ⟨(hbx.below hb hz).at_.2.1, (hbx.below hb hz).at_.2.2.2.2.2.2.2⟩)
  have HB1 := Lib.hid hb1; have HQ := Lib.hid hfin
  clear hq hfin hlen hs h h0 hpl hb1 hbx he1 he2 hls hlr hla
  subst hO
  cases e1 with
  | true =>
    go_enter Try.func44, Try.ntmps44
    go_wp2_with (go_at_call 63; refine (HE.out _ rfl).mono ?_; rintro r w3 ⟨rfl, rfl⟩)
    go_ret
    exact ⟨ret_bool (by rw [← HQ.out]; rfl), HB1.out⟩
  | false =>
    cases e2 with
    | true =>
      go_enter Try.func44, Try.ntmps44
      go_wp2_with (first
        | (go_at_call 63; refine (HE.out _ rfl).mono ?_; rintro r w3 ⟨rfl, rfl⟩)
        | (go_at_call 64; refine (HP.out _ rfl).mono ?_; rintro r w3 ⟨rfl, hb3⟩))
      go_ret
      exact ⟨ret_bool (by rw [← HQ.out]; rfl), bt HB1.out hb3⟩
    | false =>
      cases da with
      | true =>
        go_enter Try.func44, Try.ntmps44
        go_wp2_with (first
          | (go_at_call 63; refine (HE.out _ rfl).mono ?_; rintro r w3 ⟨rfl, rfl⟩)
          | (go_at_call 64; refine (HP.out _ rfl).mono ?_; rintro r w3 ⟨rfl, hb3⟩; obtain ⟨g1, g7⟩ := H1.out _ hb3))
        go_ret
        exact ⟨ret_bool (by rw [← HQ.out]; simp), bt HB1.out hb3⟩
      | false =>
        go_enter Try.func44, Try.ntmps44
        go_wp2_with (first
          | (go_at_call 63; refine (HE.out _ rfl).mono ?_; rintro r w3 ⟨rfl, rfl⟩)
          | (go_at_call 64; refine (HP.out _ rfl).mono ?_; rintro r w3 ⟨rfl, hb3⟩; obtain ⟨g1, g7⟩ := H1.out _ hb3))
        go_ret
        exact ⟨ret_bool (by rw [← HQ.out]; rfl), bt HB1.out hb3⟩
set_option maxRecDepth 100000 in
set_option maxHeartbeats 4000000 in
theorem check12 (v : Value) (c : Cf) (w : World) (q : Nat) (h : Cv w w.heap.size v c) (hs : Sm c) (hq : checkN c = q) :
    Calls Try.prog 18 #[v] w fun r w' => r = .returned (.int .i64 q) ∧ Below w.heap.size w w' := by
  obtain ⟨vE, vR, vA, vP, l, rfl, h⟩ := h
  obtain ⟨w0, hw0⟩ : ∃ w0, w.alloc (confO c vE vR vA vP) = w0 := ⟨_, rfl⟩
  have hb1 : Below w.heap.size w w0 := hw0 ▸ below_new12 w (confO c vE vR vA vP)
  have hbx : Bx w0 w.heap.size c vE vR vA vP := hw0 ▸ Bx.new w c vE vR vA vP
  have hz : w.heap.size < w0.heap.size := by rw [← hw0]; simp
  have hcv : Cv w0 w0.heap.size (confV c vE vR vA vP) c := ⟨vE, vR, vA, vP, l, rfl, h.on hb1⟩
  obtain ⟨e1, he1⟩ : ∃ b, bigB c = b := ⟨_, rfl⟩
  obtain ⟨e2, he2⟩ : ∃ b, (!namesB c) = b := ⟨_, rfl⟩
  obtain ⟨e3, he3⟩ : ∃ b, (!singleB c) = b := ⟨_, rfl⟩
  obtain ⟨e4, he4⟩ : ∃ b, bothB c = b := ⟨_, rfl⟩
  have hfin : (if e1 = true then 2 else if e2 = true then 121 else if e3 = true then 122 else if e4 = true then 120 else 0) = q := by
    rw [← hq, ← he1, ← he2, ← he3, ← he4]
    unfold checkN
    cases namesB c <;> cases singleB c <;> rfl
  have HBX := Lib.hid (fun wx (hb : Below w0.heap.size w0 wx) => (hbx.below hb hz).at_)
  have H1 := Lib.hid (fun wx hb => exceeds1 (confV c vE vR vA vP) c wx e1 (hcv.on hb) hs he1)
  have H2 := Lib.hid (fun wx hb => misnames1 (confV c vE vR vA vP) c wx e2 (hcv.on hb) hs he2)
  have H3 := Lib.hid (fun wx hb => repeats1 (confV c vE vR vA vP) c wx e3 (hcv.on hb) hs he3)
  have H4 := Lib.hid (fun wx hb => contradicts1 (confV c vE vR vA vP) c wx e4 (hcv.on hb) hs he4)
  have HW := Lib.hid hw0; have HB1 := Lib.hid hb1
  clear hq hs h hb1 hbx he1 he2 he3 he4 hw0 hcv
  go_enter Try.func18, Try.ntmps18
  go_wp2_with fail
  rw [HW.out]
  refine (H1.out _ (Below.refl _ _)).mono ?_
  rintro r w1 ⟨rfl, hb1⟩
  have HL1 := Lib.hid hb1
  obtain ⟨g0, g1, g2, g3, g4, g5, g6, g7⟩ := HBX.out w1 hb1
  clear hb1
  cases e1 with
  | true =>
    rw [if_pos rfl] at hfin
    subst hfin
    go_wp2
    go_ret
    exact ⟨rfl, HB1.out.trans (HL1.out.mono (Nat.le_of_lt hz))⟩
  | false =>
  rw [if_neg (by simp)] at hfin
  go_wp2_with fail
  refine (H2.out _ HL1.out).mono ?_
  rintro r w2 ⟨rfl, hb2⟩
  have HL2 := Lib.hid (HL1.out.trans (hb2.mono HL1.out.size))
  clear g0 g1 g2 g3 g4 g5 g6 g7 hb2
  obtain ⟨g0, g1, g2, g3, g4, g5, g6, g7⟩ := HBX.out w2 HL2.out
  cases e2 with
  | true =>
    rw [if_pos rfl] at hfin
    subst hfin
    go_wp2
    go_ret
    exact ⟨rfl, HB1.out.trans (HL2.out.mono (Nat.le_of_lt hz))⟩
  | false =>
  rw [if_neg (by simp)] at hfin
  go_wp2_with fail
  refine (H3.out _ HL2.out).mono ?_
  rintro r w3 ⟨rfl, hb3⟩
  have HL3 := Lib.hid (HL2.out.trans (hb3.mono HL2.out.size))
  clear g0 g1 g2 g3 g4 g5 g6 g7 hb3
  obtain ⟨g0, g1, g2, g3, g4, g5, g6, g7⟩ := HBX.out w3 HL3.out
  cases e3 with
  | true =>
    rw [if_pos rfl] at hfin
    subst hfin
    go_wp2
    go_ret
    exact ⟨rfl, HB1.out.trans (HL3.out.mono (Nat.le_of_lt hz))⟩
  | false =>
  rw [if_neg (by simp)] at hfin
  go_wp2_with fail
  refine (H4.out _ HL3.out).mono ?_
  rintro r w4 ⟨rfl, hb4⟩
  have HL4 := Lib.hid (HL3.out.trans (hb4.mono HL3.out.size))
  clear g0 g1 g2 g3 g4 g5 g6 g7 hb4
  cases e4 with
  | true =>
    rw [if_pos rfl] at hfin
    subst hfin
    go_wp2
    go_ret
    exact ⟨rfl, HB1.out.trans (HL4.out.mono (Nat.le_of_lt hz))⟩
  | false =>
    rw [if_neg (by simp)] at hfin
    subst hfin
    go_wp2
    go_ret
    exact ⟨rfl, HB1.out.trans (HL4.out.mono (Nat.le_of_lt hz))⟩

end Go.Proofs.Ythiimnlilfcfeaa.Co

namespace Go.Proofs.Ythiimnlilfcfeaa.Co
set_option maxRecDepth 100000
set_option linter.unusedVariables false
set_option linter.unusedSimpArgs false
open Go.RowKit Ba Fm Fo Nm Rk
theorem sv_nil12 (w : World) (N : Nat) : Sv w N (.slice none 0 0) [] := ⟨none, 0, rfl, Nat.le_refl _, fun _ => rfl, Rd.nil _ _ _⟩
theorem sv_lit12 {w : World} {g : Nat} {l : List ByteArray} (h : w.heap[g]? = some (.cells (l.map sc).toArray 9)) : Sv w w.heap.size (.slice (some ⟨g, 0, none⟩) l.length l.length) l :=
  ⟨some ⟨g, 0, none⟩, l.length, rfl, Nat.le_refl _, (fun e => by cases e), fun h0 => ⟨g, 0, rfl, (Array.getElem?_eq_some_iff.1 h).1, fun j hj => by
    rw [Nat.zero_add, cell_of_row w g j _ _ _ h]
    simp [List.getElem?_eq_getElem hj, sc]⟩⟩
theorem cp_0 (w : World) (N : Nat) : Cp w N ⟨false, false, [], [], [], [], false, true⟩ (.slice none 0 0) (.slice none 0 0) (.slice none 0 0) (.slice none 0 0) [] := ⟨sv_nil12 _ _, sv_nil12 _ _, sv_nil12 _ _, ⟨none, 0, rfl, Nat.le_refl _, fun _ => rfl, Pr.nil _ _ _⟩, rfl⟩
theorem cp_1 (w : World) (g : Nat) (hg : w.heap[g]? = some (.cells #[.string ⟨#[65]⟩] 9)) : Cv w w.heap.size (.agg #[.bool false, .bool false, .slice (some ⟨g, 0, none⟩) 1 1, .slice none 0 0, .slice none 0 0, .slice none 0 0, .bool false, .bool false]) ⟨false, false, [⟨#[65]⟩], [], [], [], false, false⟩ :=
  ⟨_, _, _, _, [], rfl, sv_lit12 (l := [⟨#[65]⟩]) hg, sv_nil12 _ _, sv_nil12 _ _, ⟨none, 0, rfl, Nat.le_refl _, fun _ => rfl, Pr.nil _ _ _⟩, rfl⟩
theorem cp_2 (w : World) (g : Nat) (hg : w.heap[g]? = some (.cells #[.string ⟨#[97]⟩, .string ⟨#[97]⟩] 9)) : Cv w w.heap.size (.agg #[.bool false, .bool false, .slice none 0 0, .slice none 0 0, .slice (some ⟨g, 0, none⟩) 2 2, .slice none 0 0, .bool false, .bool false]) ⟨false, false, [], [], [⟨#[97]⟩, ⟨#[97]⟩], [], false, false⟩ :=
  ⟨_, _, _, _, [], rfl, sv_nil12 _ _, sv_nil12 _ _, sv_lit12 (l := [⟨#[97]⟩, ⟨#[97]⟩]) hg, ⟨none, 0, rfl, Nat.le_refl _, fun _ => rfl, Pr.nil _ _ _⟩, rfl⟩
theorem below_lit12 {w0 X w' : World} {o : Obj} (hb : Below w0.heap.size w0 X) (he : w'.heap = (X.alloc o).heap := by rfl) (ho : w'.os = X.os := by rfl) (ht : w'.tape = X.tape := by rfl) (hp : w'.output = X.output := by rfl) : Below w0.heap.size w0 w' := bel_eq12 (hb.trans ((below_new12 X o).mono hb.size)) he ho ht hp
theorem heap_lit12 {w X : World} {o : Obj} {g : Nat} (h : w.heap = (X.alloc o).heap) (hg : g = X.heap.size := by rfl) : w.heap[g]? = some o := by rw [h, hg]; exact heap_alloc_new X o
theorem sm_few {c : Cf} (h : c.els.length ≤ 1000 ∧ c.reps.length ≤ 1000 ∧ c.ats.length ≤ 1000 ∧ c.per.length ≤ 1000 ∧ c.els.all (·.size ≤ 1000) ∧ c.reps.all (·.size ≤ 1000) ∧ c.ats.all (·.size ≤ 1000) ∧ c.per.all (fun p => decide (p.at_.length ≤ 1000) && decide (p.el.size ≤ 1000) && p.at_.all (·.size ≤ 1000)) = true) : Sm c := by
  obtain ⟨h1, h2, h3, h4, h5, h6, h7, h8⟩ := h
  have hb : ∀ {l : List ByteArray}, l.all (·.size ≤ 1000) = true → ∀ s ∈ l, s.size ≤ 140737488355328 := fun h s hs => Nat.le_trans (by simpa using List.all_eq_true.1 h s hs) (show 1000 ≤ 140737488355328 by omega)
  have h9 := fun p hp => List.all_eq_true.1 h8 p hp
  simp only [Bool.and_eq_true, decide_eq_true_eq] at h9
  exact ⟨h1, h2, h3, h4, fun p hp => (h9 p hp).1.1, hb h5, hb h6, hb h7, fun p hp => ⟨Nat.le_trans (h9 p hp).1.2 (by omega), hb (h9 p hp).2⟩⟩
theorem sm_plain : Sm plainC := sm_few (by decide +kernel)
theorem sm_all : Sm allC := sm_few (by decide +kernel)
theorem sm_sall : Sm (stripC allC) := sm_few (by decide +kernel)
theorem sm_0 : Sm ⟨false, false, [], [], [], [], false, true⟩ := sm_few (by decide +kernel)
theorem sm_1 : Sm ⟨false, false, [⟨#[65]⟩], [], [], [], false, false⟩ := sm_few (by decide +kernel)
theorem sm_2 : Sm ⟨false, false, [], [], [⟨#[97]⟩, ⟨#[97]⟩], [], false, false⟩ := sm_few (by decide +kernel)
set_option maxRecDepth 100000 in
set_option maxHeartbeats 2000000 in
theorem fixed12 (w : World) : Calls Try.prog 20 #[] w fun e w' => e = .returned (.bool true) ∧ Below w.heap.size w w' := by
  go_enter Try.func20, Try.ntmps20
  go_upto_region 2 with (first
    | (go_at_call 28; refine (plain1 _).mono ?_; rintro r w1 ⟨v1, rfl, ho1, hb1⟩; obtain ⟨vE, vR, vA, vP, l, rfl, ho1⟩ := ho1; obtain ⟨A1, n1, c1, rfl⟩ := own_shape ho1.e; obtain ⟨A2, n2, c2, rfl⟩ := own_shape ho1.r; obtain ⟨A3, n3, c3, rfl⟩ := own_shape ho1.a; obtain ⟨A4, n4, c4, rfl⟩ := po_shape ho1.p; have HO1 := Lib.hid ho1; have HB1 := Lib.hid hb1; clear ho1 hb1)
    | (go_at_call 29; refine (all1 _).mono ?_; rintro r w2 ⟨v2, rfl, ho2, hb2⟩; obtain ⟨uE, uR, uA, uP, m, rfl, ho2⟩ := ho2; obtain ⟨B1, k1, d1, rfl⟩ := own_shape ho2.e; obtain ⟨B2, k2, d2, rfl⟩ := own_shape ho2.r; obtain ⟨B3, k3, d3, rfl⟩ := own_shape ho2.a; obtain ⟨B4, k4, d4, rfl⟩ := po_shape ho2.p; have HO2 := Lib.hid ho2; have HB2 := Lib.hid hb2; clear ho2 hb2))
  obtain ⟨w3, hw3⟩ : ∃ w3, ((w2.alloc (.cells #[.bool plainC.allow, .bool plainC.attrsAllow, .slice A1 n1 c1, .slice A2 n2 c2, .slice A3 n3 c3, .slice A4 n4 c4, .bool plainC.comments, .bool plainC.dataAttrs] 25)).alloc (.cells #[.bool allC.allow, .bool allC.attrsAllow, .slice B1 k1 d1, .slice B2 k2 d2, .slice B3 k3 d3, .slice B4 k4 d4, .bool allC.comments, .bool allC.dataAttrs] 25)) = w3 := ⟨_, rfl⟩
  rw [hw3]
  have hz3 : w2.heap.size + 1 < w3.heap.size := by rw [← hw3]; simp
  have hb3 : Below w2.heap.size w2 w3 := hw3 ▸ below_two w2 _ _
  have hx1 : Bx w3 w2.heap.size plainC (.slice A1 n1 c1) (.slice A2 n2 c2) (.slice A3 n3 c3) (.slice A4 n4 c4) := hw3 ▸ (Bx.new w2 plainC _ _ _ _).below (below_new12 _ _) (by simp)
  have hx2 : Bx w3 (w2.heap.size + 1) allC (.slice B1 k1 d1) (.slice B2 k2 d2) (.slice B3 k3 d3) (.slice B4 k4 d4) := by
    have := Bx.new (w2.alloc (confO plainC (.slice A1 n1 c1) (.slice A2 n2 c2) (.slice A3 n3 c3) (.slice A4 n4 c4))) allC (.slice B1 k1 d1) (.slice B2 k2 d2) (.slice B3 k3 d3) (.slice B4 k4 d4)
    rw [World.size_alloc] at this
    exact hw3 ▸ this
  have hp3 : Cp w3 w3.heap.size plainC (.slice A1 n1 c1) (.slice A2 n2 c2) (.slice A3 n3 c3) (.slice A4 n4 c4) l := (HO1.out.cp.on HB2.out).on hb3
  have ha3 : Cp w3 w3.heap.size allC (.slice B1 k1 d1) (.slice B2 k2 d2) (.slice B3 k3 d3) (.slice B4 k4 d4) m := HO2.out.cp.on hb3
  have hb13 : Below w.heap.size w w3 := HB1.out.trans ((HB2.out.trans (hb3.mono HB2.out.size)).mono HB1.out.size)
  have HX1 := Lib.hid hx1; have HX2 := Lib.hid hx2; have HP := Lib.hid hp3; have HA := Lib.hid ha3; have HB := Lib.hid hb13
  obtain ⟨q0, q1, q2, q3, q4, q5, q6, q7⟩ := hx2.at_
  clear hw3 hb3 hx1 hx2 hp3 ha3 hb13 HO1 HO2 HB1 HB2
  generalize w2.heap.size = g at *
  go_upto_region 3 with (first
    | (go_at_call 15; refine (strip1 _ allC w3 ⟨_, _, _, _, _, rfl, HA.out⟩ sm_all).mono ?_; rintro r w4 ⟨v4, rfl, ho4, hb4⟩; obtain ⟨vE, vR, vA, vP, l4, rfl, ho4⟩ := ho4; obtain ⟨D1, i1, j1, rfl⟩ := own_shape ho4.e; obtain ⟨D2, i2, j2, rfl⟩ := own_shape ho4.r; obtain ⟨D3, i3, j3, rfl⟩ := own_shape ho4.a; obtain ⟨D4, i4, j4, rfl⟩ := po_shape ho4.p; have HO4 := Lib.hid ho4; have HB4 := Lib.hid hb4; clear ho4 hb4))
  obtain ⟨w5, hw5⟩ : ∃ w5, (w4.alloc (.cells #[.bool (stripC allC).allow, .bool (stripC allC).attrsAllow, .slice D1 i1 j1, .slice D2 i2 j2, .slice D3 i3 j3, .slice D4 i4 j4, .bool (stripC allC).comments, .bool (stripC allC).dataAttrs] 25) : World) = w5 := ⟨_, rfl⟩
  rw [hw5]
  have hz5 : w4.heap.size < w5.heap.size := by rw [← hw5]; simp
  have hb5 : Below w4.heap.size w4 w5 := hw5 ▸ below_new12 w4 _
  have hx3 : Bx w5 w4.heap.size (stripC allC) (.slice D1 i1 j1) (.slice D2 i2 j2) (.slice D3 i3 j3) (.slice D4 i4 j4) := hw5 ▸ Bx.new w4 (stripC allC) _ _ _ _
  have hb35 : Below w3.heap.size w3 w5 := HB4.out.trans (hb5.mono HB4.out.size)
  have cp := HP.out.on hb35
  have ca := HA.out.on hb35
  have cs := HO4.out.cp.on hb5
  have hwb := HB.out.trans (hb35.mono HB.out.size)
  have hx1 := HX1.out.below hb35 (show g < w3.heap.size by omega)
  have hx2 := HX2.out.below hb35 (show g + 1 < w3.heap.size by omega)
  have hg1 : g < w5.heap.size := Nat.lt_of_lt_of_le (show g < w3.heap.size by omega) hb35.size
  have hg2 : g + 1 < w5.heap.size := Nat.lt_of_lt_of_le (show g + 1 < w3.heap.size by omega) hb35.size
  have HWB := Lib.hid hwb
  generalize w4.heap.size = g3 at *
  have CP := (fun wx (hb : Below w5.heap.size w5 wx) => (show Cv wx wx.heap.size (confV plainC (.slice A1 n1 c1) (.slice A2 n2 c2) (.slice A3 n3 c3) (.slice A4 n4 c4)) plainC from ⟨_, _, _, _, _, rfl, cp.on hb⟩))
  have CA := (fun wx (hb : Below w5.heap.size w5 wx) => (show Cv wx wx.heap.size (.agg #[.bool allC.allow, .bool allC.attrsAllow, .slice B1 k1 d1, .slice B2 k2 d2, .slice B3 k3 d3, .slice B4 k4 d4, .bool true, .bool allC.dataAttrs]) allC from ⟨_, _, _, _, _, rfl, ca.on hb⟩))
  have CS := (fun wx (hb : Below w5.heap.size w5 wx) => (show Cv wx wx.heap.size (confV (stripC allC) (.slice D1 i1 j1) (.slice D2 i2 j2) (.slice D3 i3 j3) (.slice D4 i4 j4)) (stripC allC) from ⟨_, _, _, _, _, rfl, cs.on hb⟩))
  have HBL := Lib.hid (fun wx (hb : Below w5.heap.size w5 wx) => show wx.cell? ⟨g, 0, none⟩ = some (.bool plainC.allow) ∧ wx.cell? ⟨g, 1, none⟩ = some (.bool plainC.attrsAllow) ∧ wx.cell? ⟨g, 2, none⟩ = some (.slice A1 n1 c1) ∧ wx.cell? ⟨g, 3, none⟩ = some (.slice A2 n2 c2) ∧ wx.cell? ⟨g, 4, none⟩ = some (.slice A3 n3 c3) ∧ wx.cell? ⟨g, 5, none⟩ = some (.slice A4 n4 c4) ∧ wx.cell? ⟨g, 6, none⟩ = some (.bool plainC.comments) ∧ wx.cell? ⟨g, 7, none⟩ = some (.bool plainC.dataAttrs) ∧ wx.cell? ⟨(g + 1), 0, none⟩ = some (.bool allC.allow) ∧ wx.cell? ⟨(g + 1), 1, none⟩ = some (.bool allC.attrsAllow) ∧ wx.cell? ⟨(g + 1), 2, none⟩ = some (.slice B1 k1 d1) ∧ wx.cell? ⟨(g + 1), 3, none⟩ = some (.slice B2 k2 d2) ∧ wx.cell? ⟨(g + 1), 4, none⟩ = some (.slice B3 k3 d3) ∧ wx.cell? ⟨(g + 1), 5, none⟩ = some (.slice B4 k4 d4) ∧ wx.cell? ⟨(g + 1), 6, none⟩ = some (.bool true) ∧ wx.cell? ⟨(g + 1), 7, none⟩ = some (.bool allC.dataAttrs) ∧ wx.cell? ⟨g3, 0, none⟩ = some (.bool (stripC allC).allow) ∧ wx.cell? ⟨g3, 1, none⟩ = some (.bool (stripC allC).attrsAllow) ∧ wx.cell? ⟨g3, 2, none⟩ = some (.slice D1 i1 j1) ∧ wx.cell? ⟨g3, 3, none⟩ = some (.slice D2 i2 j2) ∧ wx.cell? ⟨g3, 4, none⟩ = some (.slice D3 i3 j3) ∧ wx.cell? ⟨g3, 5, none⟩ = some (.slice D4 i4 j4) ∧ wx.cell? ⟨g3, 6, none⟩ = some (.bool (stripC allC).comments) ∧ wx.cell? ⟨g3, 7, none⟩ = some (.bool (stripC allC).dataAttrs) from by
    obtain ⟨a0, a1, a2, a3, a4, a5, a6, a7⟩ := (hx1.below hb hg1).at_
    obtain ⟨b0, b1, b2, b3, b4, b5, b6, b7⟩ := (hx2.below hb hg2).at_
    obtain ⟨x0, x1, x2, x3, x4, x5, x6, x7⟩ := (hx3.below hb hz5).at_
    exact ⟨a0, a1, a2, a3, a4, a5, a6, a7, b0, b1, b2, b3, b4, b5, b6, b7, x0, x1, x2, x3, x4, x5, x6, x7⟩)
  have H0 := Lib.hid (fun wx (hb : Below w5.heap.size w5 wx) => (element1 _ plainC ⟨#[98]⟩ wx 0 (CP wx hb) sm_plain plain_b).mono fun r w' ⟨e, h⟩ => (show r = _ ∧ Below w5.heap.size w5 w' from ⟨e, hb.trans (h.mono hb.size)⟩))
  have H1 := Lib.hid (fun wx (hb : Below w5.heap.size w5 wx) => (element1 _ plainC ⟨#[115, 99, 114, 105, 112, 116]⟩ wx 1 (CP wx hb) sm_plain plain_script).mono fun r w' ⟨e, h⟩ => (show r = _ ∧ Below w5.heap.size w5 w' from ⟨e, hb.trans (h.mono hb.size)⟩))
  have H2 := Lib.hid (fun wx (hb : Below w5.heap.size w5 wx) => (attr1 _ plainC ⟨#[97]⟩ ⟨#[104, 114, 101, 102]⟩ wx true (CP wx hb) sm_plain (by decide) plain_a_href).mono fun r w' ⟨e, h⟩ => (show r = _ ∧ Below w5.heap.size w5 w' from ⟨e, hb.trans (h.mono hb.size)⟩))
  have H3 := Lib.hid (fun wx (hb : Below w5.heap.size w5 wx) => (attr1 _ plainC ⟨#[98]⟩ ⟨#[104, 114, 101, 102]⟩ wx false (CP wx hb) sm_plain (by decide) plain_b_href).mono fun r w' ⟨e, h⟩ => (show r = _ ∧ Below w5.heap.size w5 w' from ⟨e, hb.trans (h.mono hb.size)⟩))
  have H4 := Lib.hid (fun wx (hb : Below w5.heap.size w5 wx) => (element1 _ allC ⟨#[115, 99, 114, 105, 112, 116]⟩ wx 0 (CA wx hb) sm_all all_script).mono fun r w' ⟨e, h⟩ => (show r = _ ∧ Below w5.heap.size w5 w' from ⟨e, hb.trans (h.mono hb.size)⟩))
  have H5 := Lib.hid (fun wx (hb : Below w5.heap.size w5 wx) => (attr1 _ allC ⟨#[98]⟩ ⟨#[111, 110, 99, 108, 105, 99, 107]⟩ wx true (CA wx hb) sm_all (by decide) all_onclick).mono fun r w' ⟨e, h⟩ => (show r = _ ∧ Below w5.heap.size w5 w' from ⟨e, hb.trans (h.mono hb.size)⟩))
  have H6 := Lib.hid (fun wx (hb : Below w5.heap.size w5 wx) => (element1 _ (stripC allC) ⟨#[115, 99, 114, 105, 112, 116]⟩ wx 1 (CS wx hb) sm_sall sall_script).mono fun r w' ⟨e, h⟩ => (show r = _ ∧ Below w5.heap.size w5 w' from ⟨e, hb.trans (h.mono hb.size)⟩))
  have H7 := Lib.hid (fun wx (hb : Below w5.heap.size w5 wx) => (element1 _ (stripC allC) ⟨#[98]⟩ wx 0 (CS wx hb) sm_sall sall_b).mono fun r w' ⟨e, h⟩ => (show r = _ ∧ Below w5.heap.size w5 w' from ⟨e, hb.trans (h.mono hb.size)⟩))
  have H8 := Lib.hid (fun wx (hb : Below w5.heap.size w5 wx) => (check12 _ plainC wx 0 (CP wx hb) sm_plain plain_check).mono fun r w' ⟨e, h⟩ => (show r = _ ∧ Below w5.heap.size w5 w' from ⟨e, hb.trans (h.mono hb.size)⟩))
  have H9 := Lib.hid (fun wx (hb : Below w5.heap.size w5 wx) => (check12 _ ⟨false, false, [], [], [], [], false, true⟩ wx 120 ⟨.slice none 0 0, .slice none 0 0, .slice none 0 0, .slice none 0 0, [], rfl, cp_0 _ _⟩ sm_0 c120).mono fun r w' ⟨e, h⟩ => (show r = _ ∧ Below w5.heap.size w5 w' from ⟨e, hb.trans (h.mono hb.size)⟩))
  have H10 := Lib.hid (fun wx gg (hg : wx.heap[gg]? = some (.cells #[.string ⟨#[65]⟩] 9)) (hb : Below w5.heap.size w5 wx) => (check12 _ ⟨false, false, [⟨#[65]⟩], [], [], [], false, false⟩ wx 121 (cp_1 wx gg hg) sm_1 c121).mono fun r w' ⟨e, h⟩ => (show r = _ ∧ Below w5.heap.size w5 w' from ⟨e, hb.trans (h.mono hb.size)⟩))
  have H11 := Lib.hid (fun wx gg (hg : wx.heap[gg]? = some (.cells #[.string ⟨#[97]⟩, .string ⟨#[97]⟩] 9)) (hb : Below w5.heap.size w5 wx) => (check12 _ ⟨false, false, [], [], [⟨#[97]⟩, ⟨#[97]⟩], [], false, false⟩ wx 122 (cp_2 wx gg hg) sm_2 c122).mono fun r w' ⟨e, h⟩ => (show r = _ ∧ Below w5.heap.size w5 w' from ⟨e, hb.trans (h.mono hb.size)⟩))
  have HR := Lib.hid (fun wx (hb : Below w5.heap.size w5 wx) => (refPlain1 wx).mono fun r w' ⟨v', e, ho, h⟩ => (show ∃ v', r = Ending.returned v' ∧ Cv w' w'.heap.size v' plainC ∧ Below w5.heap.size w5 w' from ⟨v', e, ho.cv, hb.trans (h.mono hb.size)⟩))
  have HS := Lib.hid (fun u wx (hu : Cv wx wx.heap.size u plainC) (hb : Below w5.heap.size w5 wx) => (refSame1 (confV plainC (.slice A1 n1 c1) (.slice A2 n2 c2) (.slice A3 n3 c3) (.slice A4 n4 c4)) u plainC wx (CP wx hb) hu sm_plain).mono fun r w' ⟨e, h⟩ => (show r = _ ∧ Below w5.heap.size w5 w' from ⟨e, hb.trans (h.mono hb.size)⟩))
  have HQ := Lib.hid hwb
  clear hw5 hb5 hx1 hx2 hx3 hb35 cp ca cs hwb hz3 HP HA HB HO4 HB4 q0 q1 q2 q3 q4 q5 q6 q7 CP CA CS hz5 hg1 hg2 HX1 HX2
  dsimp only [List.append]
  go_region_held3 (fun wx => wx.cell? ⟨g, 0, none⟩ = some (.bool plainC.allow) ∧ wx.cell? ⟨g, 1, none⟩ = some (.bool plainC.attrsAllow) ∧ wx.cell? ⟨g, 2, none⟩ = some (.slice A1 n1 c1) ∧ wx.cell? ⟨g, 3, none⟩ = some (.slice A2 n2 c2) ∧ wx.cell? ⟨g, 4, none⟩ = some (.slice A3 n3 c3) ∧ wx.cell? ⟨g, 5, none⟩ = some (.slice A4 n4 c4) ∧ wx.cell? ⟨g, 6, none⟩ = some (.bool plainC.comments) ∧ wx.cell? ⟨g, 7, none⟩ = some (.bool plainC.dataAttrs) ∧ wx.cell? ⟨(g + 1), 0, none⟩ = some (.bool allC.allow) ∧ wx.cell? ⟨(g + 1), 1, none⟩ = some (.bool allC.attrsAllow) ∧ wx.cell? ⟨(g + 1), 2, none⟩ = some (.slice B1 k1 d1) ∧ wx.cell? ⟨(g + 1), 3, none⟩ = some (.slice B2 k2 d2) ∧ wx.cell? ⟨(g + 1), 4, none⟩ = some (.slice B3 k3 d3) ∧ wx.cell? ⟨(g + 1), 5, none⟩ = some (.slice B4 k4 d4) ∧ wx.cell? ⟨(g + 1), 6, none⟩ = some (.bool true) ∧ wx.cell? ⟨(g + 1), 7, none⟩ = some (.bool allC.dataAttrs) ∧ wx.cell? ⟨g3, 0, none⟩ = some (.bool (stripC allC).allow) ∧ wx.cell? ⟨g3, 1, none⟩ = some (.bool (stripC allC).attrsAllow) ∧ wx.cell? ⟨g3, 2, none⟩ = some (.slice D1 i1 j1) ∧ wx.cell? ⟨g3, 3, none⟩ = some (.slice D2 i2 j2) ∧ wx.cell? ⟨g3, 4, none⟩ = some (.slice D3 i3 j3) ∧ wx.cell? ⟨g3, 5, none⟩ = some (.slice D4 i4 j4) ∧ wx.cell? ⟨g3, 6, none⟩ = some (.bool (stripC allC).comments) ∧ wx.cell? ⟨g3, 7, none⟩ = some (.bool (stripC allC).dataAttrs)) (first
    | exact HBL.out _ (bel_eq12 (Below.refl _ w5) rfl rfl rfl rfl)
    | exact HBL.out _ (bel_eq12 HBa0.out rfl rfl rfl rfl)
    | exact HBL.out _ (bel_eq12 HBa1.out rfl rfl rfl rfl)
    | exact HBL.out _ (bel_eq12 HBa2.out rfl rfl rfl rfl)
    | exact HBL.out _ (bel_eq12 HBa3.out rfl rfl rfl rfl)
    | exact HBL.out _ (bel_eq12 HBa4.out rfl rfl rfl rfl)
    | exact HBL.out _ (bel_eq12 HBa5.out rfl rfl rfl rfl)
    | exact HBL.out _ (bel_eq12 HBa6.out rfl rfl rfl rfl)
    | exact HBL.out _ (bel_eq12 HBa7.out rfl rfl rfl rfl)
    | exact HBL.out _ (bel_eq12 HBa8.out rfl rfl rfl rfl)
    | exact HBL.out _ (bel_eq12 HBa9.out rfl rfl rfl rfl)
    | exact HBL.out _ (bel_eq12 HBa10.out rfl rfl rfl rfl)
    | exact HBL.out _ (bel_eq12 HBa11.out rfl rfl rfl rfl)
    | exact HBL.out _ (bel_eq12 HBa12.out rfl rfl rfl rfl)
    | exact HBL.out _ (bel_eq12 HBa13.out rfl rfl rfl rfl)
    | exact HBL.out _ (below_lit12 (bel_eq12 HBa11.out rfl rfl rfl rfl))
    | exact HBL.out _ (below_lit12 (bel_eq12 HBa12.out rfl rfl rfl rfl))
    | go_keep) (first
    | (go_at_call 48; refine (HR.out _ (by exact bel_eq12 (Below.refl _ w5) rfl rfl rfl rfl)).mono ?_; rintro r wa0 ⟨va, rfl, hva, hba⟩; have HVA := Lib.hid hva; have HBa0 := Lib.hid hba; clear hva hba)
    | (go_at_call 16; refine (HS.out _ _ HVA.out (by exact bel_eq12 HBa0.out rfl rfl rfl rfl)).mono ?_; rintro r wa1 ⟨rfl, hba⟩; have HBa1 := Lib.hid hba; clear hba)
    | (go_at_call 21; (with_reducible show Calls _ _ #[confV plainC (.slice A1 n1 c1) (.slice A2 n2 c2) (.slice A3 n3 c3) (.slice A4 n4 c4), .string ⟨#[98]⟩] _ _); refine (H0.out _ (by exact bel_eq12 HBa1.out rfl rfl rfl rfl)).mono ?_; rintro r wa2 ⟨rfl, hba⟩; have HBa2 := Lib.hid hba; clear hba)
    | (go_at_call 21; (with_reducible show Calls _ _ #[confV plainC (.slice A1 n1 c1) (.slice A2 n2 c2) (.slice A3 n3 c3) (.slice A4 n4 c4), .string ⟨#[115, 99, 114, 105, 112, 116]⟩] _ _); refine (H1.out _ (by exact bel_eq12 HBa2.out rfl rfl rfl rfl)).mono ?_; rintro r wa3 ⟨rfl, hba⟩; have HBa3 := Lib.hid hba; clear hba)
    | (go_at_call 23; (with_reducible show Calls _ _ #[confV plainC (.slice A1 n1 c1) (.slice A2 n2 c2) (.slice A3 n3 c3) (.slice A4 n4 c4), .string ⟨#[97]⟩, .string ⟨#[104, 114, 101, 102]⟩] _ _); refine (H2.out _ (by exact bel_eq12 HBa3.out rfl rfl rfl rfl)).mono ?_; rintro r wa4 ⟨rfl, hba⟩; have HBa4 := Lib.hid hba; clear hba)
    | (go_at_call 23; (with_reducible show Calls _ _ #[confV plainC (.slice A1 n1 c1) (.slice A2 n2 c2) (.slice A3 n3 c3) (.slice A4 n4 c4), .string ⟨#[98]⟩, .string ⟨#[104, 114, 101, 102]⟩] _ _); refine (H3.out _ (by exact bel_eq12 HBa4.out rfl rfl rfl rfl)).mono ?_; rintro r wa5 ⟨rfl, hba⟩; have HBa5 := Lib.hid hba; clear hba)
    | (go_at_call 21; (with_reducible show Calls _ _ #[.agg #[.bool allC.allow, .bool allC.attrsAllow, .slice B1 k1 d1, .slice B2 k2 d2, .slice B3 k3 d3, .slice B4 k4 d4, .bool true, .bool allC.dataAttrs], .string ⟨#[115, 99, 114, 105, 112, 116]⟩] _ _); refine (H4.out _ (by exact bel_eq12 HBa5.out rfl rfl rfl rfl)).mono ?_; rintro r wa6 ⟨rfl, hba⟩; have HBa6 := Lib.hid hba; clear hba)
    | (go_at_call 23; (with_reducible show Calls _ _ #[.agg #[.bool allC.allow, .bool allC.attrsAllow, .slice B1 k1 d1, .slice B2 k2 d2, .slice B3 k3 d3, .slice B4 k4 d4, .bool true, .bool allC.dataAttrs], .string ⟨#[98]⟩, .string ⟨#[111, 110, 99, 108, 105, 99, 107]⟩] _ _); refine (H5.out _ (by exact bel_eq12 HBa6.out rfl rfl rfl rfl)).mono ?_; rintro r wa7 ⟨rfl, hba⟩; have HBa7 := Lib.hid hba; clear hba)
    | (go_at_call 21; (with_reducible show Calls _ _ #[confV (stripC allC) (.slice D1 i1 j1) (.slice D2 i2 j2) (.slice D3 i3 j3) (.slice D4 i4 j4), .string ⟨#[115, 99, 114, 105, 112, 116]⟩] _ _); refine (H6.out _ (by exact bel_eq12 HBa7.out rfl rfl rfl rfl)).mono ?_; rintro r wa8 ⟨rfl, hba⟩; have HBa8 := Lib.hid hba; clear hba)
    | (go_at_call 21; (with_reducible show Calls _ _ #[confV (stripC allC) (.slice D1 i1 j1) (.slice D2 i2 j2) (.slice D3 i3 j3) (.slice D4 i4 j4), .string ⟨#[98]⟩] _ _); refine (H7.out _ (by exact bel_eq12 HBa8.out rfl rfl rfl rfl)).mono ?_; rintro r wa9 ⟨rfl, hba⟩; have HBa9 := Lib.hid hba; clear hba)
    | (go_at_call 18; (with_reducible show Calls _ _ #[confV plainC (.slice A1 n1 c1) (.slice A2 n2 c2) (.slice A3 n3 c3) (.slice A4 n4 c4)] _ _); refine (H8.out _ (by exact bel_eq12 HBa9.out rfl rfl rfl rfl)).mono ?_; rintro r wa10 ⟨rfl, hba⟩; have HBa10 := Lib.hid hba; clear hba)
    | (go_at_call 18; (with_reducible show Calls _ _ #[.agg #[.bool false, .bool false, .slice none 0 0, .slice none 0 0, .slice none 0 0, .slice none 0 0, .bool false, .bool true]] _ _); refine (H9.out _ (by exact bel_eq12 HBa10.out rfl rfl rfl rfl)).mono ?_; rintro r wa11 ⟨rfl, hba⟩; have HBa11 := Lib.hid hba; clear hba)
    | (go_at_call 18; (with_reducible show Calls _ _ #[.agg #[_, _, .slice _ 1 1, _, _, _, _, _]] _ _); refine (H10.out _ _ (by exact heap_lit12 rfl) (by exact below_lit12 (bel_eq12 HBa11.out rfl rfl rfl rfl))).mono ?_; rintro r wa12 ⟨rfl, hba⟩; have HBa12 := Lib.hid hba; clear hba)
    | (go_at_call 18; (with_reducible show Calls _ _ #[.agg #[_, _, _, _, .slice _ 2 2, _, _, _]] _ _); refine (H11.out _ _ (by exact heap_lit12 rfl) (by exact below_lit12 (bel_eq12 HBa12.out rfl rfl rfl rfl))).mono ?_; rintro r wa13 ⟨rfl, hba⟩; have HBa13 := Lib.hid hba; clear hba))
  go_wp2
  go_ret
  exact ⟨rfl, HQ.out.trans ((bel_eq12 HBa13.out rfl rfl rfl rfl).mono HQ.out.size)⟩

end Go.Proofs.Ythiimnlilfcfeaa.Co

namespace Go.Proofs.Ythiimnlilfcfeaa.Co
set_option linter.unusedVariables false
set_option linter.unusedSimpArgs false
open Go.RowKit Ba Fm Fo Nm Rk
/-- No string lies there. -/
def noStr (cs : Array Value) : Prop := ∀ (i : Nat) (s : ByteArray), cs[i]? ≠ some (Value.string s)
theorem noStr8 (a b m d : Bool) (A1 A2 A3 A4 : Option Addr) (n1 n2 n3 n4 c1 c2 c3 c4 : Nat) : noStr #[.bool a, .bool b, .slice A1 n1 c1, .slice A2 n2 c2, .slice A3 n3 c3, .slice A4 n4 c4, .bool m, .bool d] := fun i s => by
  match i with
  | 0 | 1 | 2 | 3 | 4 | 5 | 6 | 7 => simp
  | i + 8 => simp
theorem sv_shape {w : World} {N : Nat} {v : Value} {l : List ByteArray} (h : Sv w N v l) : ∃ A n c, v = .slice A n c := by
  obtain ⟨A, c, e, _⟩ := h
  exact ⟨A, _, c, e⟩
theorem pv_shape {w : World} {N : Nat} {v : Value} {l : List Pw} (h : Pv w N v l) : ∃ A n c, v = .slice A n c := by
  obtain ⟨A, c, e, _⟩ := h
  exact ⟨A, _, c, e⟩
theorem sv_boxed {w w' : World} {b N : Nat} {cs : Array Value} {v : Value} {l : List ByteArray} (h : Sv w N v l) (hb : Hb w b cs) (hn : noStr cs) (hg : w.grownBy w' (some b)) (hN : N ≤ w.heap.size) : Sv w' N v l := by
  obtain ⟨A, c, e, h1, h2, h3⟩ := h
  refine ⟨A, c, e, h1, h2, fun h0 => ?_⟩
  obtain ⟨b', off, eA, hb', hc⟩ := h3 h0
  have hne : b' ≠ b := by
    rintro rfl
    have := hc 0 h0
    rw [cell_of_row w b' (off + 0) _ _ _ hb] at this
    exact hn _ _ this
  exact ⟨b', off, eA, hb', fun j hj => (World.cell?_of_block (a := ⟨b', off + j, none⟩) (hg.block b' (by omega) (by simpa using hne))).trans (hc j hj)⟩
theorem pv_boxed {w w' : World} {b N : Nat} {cs : Array Value} {v : Value} {l : List Pw} (h : Pv w N v l) (hb : Hb w b cs) (hn : noStr cs) (hg : w.grownBy w' (some b)) (hN : N ≤ w.heap.size) : Pv w' N v l := by
  obtain ⟨A, c, e, h1, h2, h3, h4⟩ := h
  refine ⟨A, c, e, h1, h2, fun h0 => ?_, fun x hx => sv_boxed (h4 x hx) hb hn hg hN⟩
  obtain ⟨b', off, eA, hb', hc⟩ := h3 h0
  have hne : b' ≠ b := by
    rintro rfl
    have := hc 0 h0 0 (.string l[0].pe.el) rfl
    rw [cell_of_row w b' _ _ _ _ hb] at this
    exact hn _ _ this
  exact ⟨b', off, eA, hb', fun j hj => range_keep12 (hc j hj) fun o => World.cell?_of_block (a := ⟨b', o, none⟩) (hg.block b' (by omega) (by simpa using hne))⟩
theorem cp_boxed {w w' : World} {b : Nat} {cs : Array Value} {c : Cf} {vE vR vA vP : Value} {l : List Pw} (h : Cp w w.heap.size c vE vR vA vP l) (hb : Hb w b cs) (hn : noStr cs) (hg : w.grownBy w' (some b)) : Cp w' w'.heap.size c vE vR vA vP l :=
  (⟨sv_boxed h.e hb hn hg (Nat.le_refl _), sv_boxed h.r hb hn hg (Nat.le_refl _), sv_boxed h.a hb hn hg (Nat.le_refl _), pv_boxed h.p hb hn hg (Nat.le_refl _), h.m⟩ : Cp w' w.heap.size c vE vR vA vP l).more hg.size
/-- A configuration is stored in a box. -/
theorem res_hb {w : World} {g : Nat} {cs : Array Value} (h : Hb w g cs) (hc : cs.size = 8) (v0 v1 v2 v3 v4 v5 v6 v7 : Value) :
    ∃ W, W = w.setCells g 0 [v0, v1, v2, v3, v4, v5, v6, v7] ∧ w.grownBy W (some g) ∧ Hb W g #[v0, v1, v2, v3, v4, v5, v6, v7] := by
  refine ⟨_, rfl, gcells12 g _ 0 w, ?_⟩
  match cs, hc with
  | ⟨[x0, x1, x2, x3, x4, x5, x6, x7]⟩, _ =>
    exact (((((((h.set 0 v0 (by simp)).set 1 v1 (by simp)).set 2 v2 (by simp)).set 3 v3 (by simp)).set 4 v4 (by simp)).set 5 v5 (by simp)).set 6 v6 (by simp)).set 7 v7 (by simp)
theorem mem_bound {c : Cf} {p : Pe} (h : p ∈ (boundC c).per) : ∃ q ∈ c.per, p.el = q.el ∧ p.at_ = q.at_.take 70 := by
  obtain ⟨q, hq, rfl⟩ := List.mem_map.1 (show p ∈ (c.per.take 12).map fun p => (⟨p.el, p.at_.take 70⟩ : Pe) from h)
  exact ⟨q, List.mem_of_mem_take hq, rfl, rfl⟩
theorem sm_bound {c : Cf} (h : St c) : Sm (boundC c) := by
  refine ⟨?_, ?_, ?_, ?_, fun p hp => ?_, fun s hs => h.es s (List.mem_of_mem_take hs), fun s hs => h.rs s (List.mem_of_mem_take hs), fun s hs => h.as_ s (List.mem_of_mem_take hs), fun p hp => ?_⟩
  · show (c.els.take 70).length ≤ 1000; rw [List.length_take]; omega
  · show (c.reps.take 70).length ≤ 1000; rw [List.length_take]; omega
  · show (c.ats.take 70).length ≤ 1000; rw [List.length_take]; omega
  · show ((c.per.take 12).map _).length ≤ 1000; rw [List.length_map, List.length_take]; omega
  · obtain ⟨q, hq, h1, h2⟩ := mem_bound hp
    rw [h2, List.length_take]; omega
  · obtain ⟨q, hq, h1, h2⟩ := mem_bound hp
    rw [h1, h2]
    exact ⟨(h.ps q hq).1, fun s hs => (h.ps q hq).2 s (List.mem_of_mem_take hs)⟩
/-- A contract, as it is asked for behind a beginning. -/
theorem on_base {P : Program} {f : FuncId} {args : Array Value} {w0 w : World} {T : Ending → Prop} (h : Calls P f args w fun e w' => T e ∧ Below w.heap.size w w') (hb : Below w0.heap.size w0 w) : Calls P f args w fun e w' => T e ∧ Below w0.heap.size w0 w' :=
  h.mono fun e w' ⟨he, hw⟩ => ⟨he, hb.trans (hw.mono hb.size)⟩

end Go.Proofs.Ythiimnlilfcfeaa.Co

namespace Go.Proofs.Ythiimnlilfcfeaa.Co
set_option maxRecDepth 100000
set_option linter.unusedVariables false
set_option linter.unusedSimpArgs false
open Go.RowKit Ba Fm Fo Nm Rk
theorem mem_strip {c : Cf} {s : ByteArray} (h : s ∈ (stripC c).els) : s ∈ c.els ∨ s ∈ unsafeL := by
  have h : s ∈ (if c.allow = true then mns c.els unsafeL else c.els ++ mns unsafeL c.els) := h
  split at h
  · exact .inl (mem_mns.1 h).1
  · rcases List.mem_append.1 h with h | h
    · exact .inl h
    · exact .inr (mem_mns.1 h).1
theorem len_strip (c : Cf) : (stripC c).els.length ≤ c.els.length + 8 := by
  show (if c.allow = true then mns c.els unsafeL else c.els ++ mns unsafeL c.els).length ≤ _
  split
  · exact Nat.le_trans (List.length_filter_le _ _) (by omega)
  · rw [List.length_append]
    have : (mns unsafeL c.els).length ≤ unsafeL.length := List.length_filter_le _ _
    have : unsafeL.length = 8 := rfl
    omega
theorem small_never : ∀ s ∈ unsafeL, s.size ≤ 140737488355328 := fun s hs => Nat.le_trans (of_decide_eq_true (p := s.size ≤ 1000) (List.all_eq_true.1 (show (unsafeL.all fun s => decide (s.size ≤ 1000)) = true by decide +kernel) s hs)) (by omega)
theorem sm_strip {c : Cf} (h : Sm c) (hl : c.els.length ≤ 50) : Sm (stripC c) :=
  ⟨Nat.le_trans (len_strip c) (by omega), Nat.le_trans (List.length_filter_le _ _) h.r, h.a, h.p, h.pa, fun s hs => (mem_strip hs).elim (h.es s) (small_never s), fun s hs => h.rs s (mem_mns.1 hs).1, h.as_, h.ps⟩
theorem sv_cap {w : World} {N : Nat} {A : Option Addr} {n c : Nat} {l : List ByteArray} (h : Sv w N (.slice A n c) l) : n = l.length ∧ n ≤ c := by
  obtain ⟨A', c', e, h1, _⟩ := h
  injection e with e1 e2 e3
  exact ⟨e2, by omega⟩
set_option maxRecDepth 100000 in
set_option maxHeartbeats 4000000 in
theorem law_strip (v : Value) (e a : ByteArray) (c : Cf) (w : World) (he : e.size ≤ 140737488351232) (ha : a.size ≤ 140737488351232) (h : Cv w w.heap.size v c) (hst : St c) :
    Calls Try.prog 6 #[v, .string e, .string a] w fun r w' => r = .returned (.bool true) ∧ Below w.heap.size w w' := by
  obtain ⟨d, hd⟩ : ∃ d, boundC c = d := ⟨_, rfl⟩
  have hsm := sm_bound hst
  rw [hd] at hsm
  obtain ⟨uE, uR, uA, uP, lu, rfl, h⟩ := h
  obtain ⟨E0, e0, k0, rfl⟩ := sv_shape h.e
  obtain ⟨R0, r0, k1, rfl⟩ := sv_shape h.r
  obtain ⟨T0, t0, k2, rfl⟩ := sv_shape h.a
  obtain ⟨P0, p0, k3, rfl⟩ := pv_shape h.p
  have hbd := fun wx hc => bound12 (confV c (.slice E0 e0 k0) (.slice R0 r0 k1) (.slice T0 t0 k2) (.slice P0 p0 k3)) c wx hc
  rw [hd] at hbd
  have HB0 := Lib.hid (below_new12 w (confO c (.slice E0 e0 k0) (.slice R0 r0 k1) (.slice T0 t0 k2) (.slice P0 p0 k3)))
  have HBD := Lib.hid (hbd (w.alloc (confO c (.slice E0 e0 k0) (.slice R0 r0 k1) (.slice T0 t0 k2) (.slice P0 p0 k3))) ⟨_, _, _, _, _, rfl, h.on HB0.out⟩)
  have HX0 := Lib.hid (Hb.new w #[.bool c.allow, .bool c.attrsAllow, .slice E0 e0 k0, .slice R0 r0 k1, .slice T0 t0 k2, .slice P0 p0 k3, .bool c.comments, .bool c.dataAttrs])
  have HSM := Lib.hid hsm; have HD := Lib.hid hd
  clear hd hsm hst h hbd
  go_enter Try.func6, Try.ntmps6
  go_upto_region 2 with (first
    | (go_at_call 11; refine HBD.out.mono ?_; rintro r w1 ⟨v1, rfl, hc1, hb1⟩; obtain ⟨vE, vR, vA, vP, l, rfl, hc1⟩ := hc1; obtain ⟨A1, n1, c1, rfl⟩ := sv_shape hc1.e; obtain ⟨A2, n2, c2, rfl⟩ := sv_shape hc1.r; obtain ⟨A3, n3, c3, rfl⟩ := sv_shape hc1.a; obtain ⟨A4, n4, c4, rfl⟩ := pv_shape hc1.p; have hx1 := HX0.out.on hb1; have HTH := Lib.hid (hx1.there 8 rfl); have HX1 := Lib.hid hx1; have HC1 := Lib.hid hc1; have HB1 := Lib.hid hb1; clear hx1 hc1 hb1)
    | (show wpList _ _ _ (⟨none, Op.store 25 (.tmp 3) (.tmp 10), _, _, _, _⟩ :: _) _ _; refine wpList_store_mid rfl 25 (.tmp 3) (.tmp 10) rfl w.heap.size 0 #[.bool d.allow, .bool d.attrsAllow, .slice A1 n1 c1, .slice A2 n2 c2, .slice A3 n3 c3, .slice A4 n4 c4, .bool d.comments, .bool d.dataAttrs] rfl rfl HTH.out size_conf (by simp [Value.oneCell']) ?_))
  obtain ⟨W1, hW1, hg1, hh1⟩ := res_hb HX1.out rfl (.bool d.allow) (.bool d.attrsAllow) (.slice A1 n1 c1) (.slice A2 n2 c2) (.slice A3 n3 c3) (.slice A4 n4 c4) (.bool d.comments) (.bool d.dataAttrs)
  rw [← hW1]
  have hcW := cp_boxed HC1.out HX1.out (noStr8 _ _ _ _ _ _ _ _ _ _ _ _ _ _ _ _) hg1
  have hbW : Below w.heap.size w W1 := (HB0.out.trans (HB1.out.mono HB0.out.size)).grown hg1 (Nat.le_trans HB0.out.size HB1.out.size) (fun q hq => by injection hq with hq; omega)
  have hzW : w.heap.size < W1.heap.size := hh1.lt
  clear hW1 hg1 HTH HX1 HC1 HB1 HX0 HB0 HBD
  obtain ⟨m1, hm1⟩ : ∃ m, min n1 50 = m := ⟨_, rfl⟩
  obtain ⟨hn1, hc1⟩ := sv_cap hcW.e
  have q1 := fun ts t w => min_named n1 50 m1 hm1 50 rfl ts t w
  have u1 : m1 ≤ c1 := by omega
  have a2 := hh1.cell 2 _ rfl
  have f2 := hh1.f 2
  have HN1 := Lib.hid hn1; have HM1 := Lib.hid hm1
  clear hn1 hm1
  go_upto_region 3 with (fail)
  clear a2 f2 q1 u1
  obtain ⟨W2, hW2⟩ : ∃ W2, W1.setCell ⟨w.heap.size, 2, none⟩ (.slice A1 m1 c1) = W2 := ⟨_, rfl⟩
  rw [hW2]
  have hg2 : W1.grownBy W2 (some w.heap.size) := hW2 ▸ gcell12 W1 _ 2 _
  have hh2 : Hb W2 w.heap.size #[.bool d.allow, .bool d.attrsAllow, .slice A1 m1 c1, .slice A2 n2 c2, .slice A3 n3 c3, .slice A4 n4 c4, .bool d.comments, .bool d.dataAttrs] := hW2 ▸ hh1.set 2 (.slice A1 m1 c1)
  have hc2 := cp_boxed hcW hh1 (noStr8 _ _ _ _ _ _ _ _ _ _ _ _ _ _ _ _) hg2
  have hbw2 := hbW.grown hg2 hbW.size (fun q hq => by injection hq with hq; omega)
  have s2 : Sm ({ d with els := d.els.take 50 }) := ⟨by show (d.els.take 50).length ≤ 1000; rw [List.length_take]; omega, HSM.out.r, HSM.out.a, HSM.out.p, HSM.out.pa, fun s hs => HSM.out.es s (List.mem_of_mem_take hs), HSM.out.rs, HSM.out.as_, HSM.out.ps⟩
  have hl50 : ({ d with els := d.els.take 50 }).els.length ≤ 50 := by show (d.els.take 50).length ≤ 50; rw [List.length_take]; omega
  have hp2 : Cp W2 W2.heap.size ({ d with els := d.els.take 50 }) (.slice A1 m1 c1) (.slice A2 n2 c2) (.slice A3 n3 c3) (.slice A4 n4 c4) l := by
    refine ⟨?_, hc2.r, hc2.a, hc2.p, hc2.m⟩
    have he := hc2.e
    have hn := HN1.out
    subst hn
    exact sv_takeC he 50 HM1.out
  have cv2 := fun wx (hb : Below W2.heap.size W2 wx) => (show Cv wx wx.heap.size (.agg #[.bool d.allow, .bool d.attrsAllow, .slice A1 m1 c1, .slice A2 n2 c2, .slice A3 n3 c3, .slice A4 n4 c4, .bool d.comments, .bool d.dataAttrs]) ({ d with els := d.els.take 50 }) from ⟨_, _, _, _, l, rfl, hp2.on hb⟩)
  have HST := Lib.hid (strip1 (.agg #[.bool d.allow, .bool d.attrsAllow, .slice A1 m1 c1, .slice A2 n2 c2, .slice A3 n3 c3, .slice A4 n4 c4, .bool d.comments, .bool d.dataAttrs]) ({ d with els := d.els.take 50 }) W2 (cv2 W2 (Below.refl _ _)) s2)
  obtain ⟨a0, a1, a2, a3, a4, a5, a6, a7⟩ := (Hb.bx (c := { d with els := d.els.take 50 }) hh2).at_
  go_upto_region 4 with (go_at_call 15; refine HST.out.mono ?_; rintro r w3 ⟨v3, rfl, ho3, hb3⟩; obtain ⟨vE, vR, vA, vP, l3, rfl, ho3⟩ := ho3; obtain ⟨D1, i1, j1, rfl⟩ := own_shape ho3.e; obtain ⟨D2, i2, j2, rfl⟩ := own_shape ho3.r; obtain ⟨D3, i3, j3, rfl⟩ := own_shape ho3.a; obtain ⟨D4, i4, j4, rfl⟩ := po_shape ho3.p; have HO3 := Lib.hid ho3; have HB3 := Lib.hid hb3; clear ho3 hb3)
  clear a0 a1 a2 a3 a4 a5 a6 a7
  obtain ⟨W4, hW4⟩ : ∃ W4, w3.alloc (.cells #[.bool (stripC { d with els := d.els.take 50 }).allow, .bool (stripC { d with els := d.els.take 50 }).attrsAllow, .slice D1 i1 j1, .slice D2 i2 j2, .slice D3 i3 j3, .slice D4 i4 j4, .bool (stripC { d with els := d.els.take 50 }).comments, .bool (stripC { d with els := d.els.take 50 }).dataAttrs] 25) = W4 := ⟨_, rfl⟩
  rw [hW4]
  have hb4 : Below w3.heap.size w3 W4 := hW4 ▸ below_new12 w3 _
  have hn4 : Hb W4 w3.heap.size #[.bool (stripC { d with els := d.els.take 50 }).allow, .bool (stripC { d with els := d.els.take 50 }).attrsAllow, .slice D1 i1 j1, .slice D2 i2 j2, .slice D3 i3 j3, .slice D4 i4 j4, .bool (stripC { d with els := d.els.take 50 }).comments, .bool (stripC { d with els := d.els.take 50 }).dataAttrs] := hW4 ▸ Hb.new w3 _
  have hb24 : Below W2.heap.size W2 W4 := HB3.out.trans (hb4.mono HB3.out.size)
  have hx4 := hh2.on hb24
  have hp4 := HO3.out.cp.on hb4
  have hq4 := hp2.on hb24
  have hbw4 := hbw2.trans (hb24.mono hbw2.size)
  have cvA := fun wx (hb : Below W4.heap.size W4 wx) => (show Cv wx wx.heap.size (.agg #[.bool d.allow, .bool d.attrsAllow, .slice A1 m1 c1, .slice A2 n2 c2, .slice A3 n3 c3, .slice A4 n4 c4, .bool d.comments, .bool d.dataAttrs]) ({ d with els := d.els.take 50 }) from ⟨_, _, _, _, l, rfl, hq4.on hb⟩)
  have cvB := fun wx (hb : Below W4.heap.size W4 wx) => (show Cv wx wx.heap.size (.agg #[.bool (stripC { d with els := d.els.take 50 }).allow, .bool (stripC { d with els := d.els.take 50 }).attrsAllow, .slice D1 i1 j1, .slice D2 i2 j2, .slice D3 i3 j3, .slice D4 i4 j4, .bool (stripC { d with els := d.els.take 50 }).comments, .bool (stripC { d with els := d.els.take 50 }).dataAttrs]) (stripC ({ d with els := d.els.take 50 })) from ⟨_, _, _, _, l3, rfl, hp4.on hb⟩)
  have s4 := sm_strip s2 hl50
  have hl1 := hx4.lt; have hl2 := hn4.lt
  generalize w3.heap.size = g7 at *
  obtain ⟨q1, hq1⟩ : ∃ q, elementN (stripC ({ d with els := d.els.take 50 })) e = q := ⟨_, rfl⟩
  obtain ⟨q2, hq2⟩ : ∃ q, attrB12 ({ d with els := d.els.take 50 }) e a = q := ⟨_, rfl⟩
  obtain ⟨n, hn⟩ : ∃ q, checkN ({ d with els := d.els.take 50 }) = q := ⟨_, rfl⟩
  have H0 := Lib.hid (fun wx (hb : Below W4.heap.size W4 wx) => on_base (element1 (.agg #[.bool (stripC { d with els := d.els.take 50 }).allow, .bool (stripC { d with els := d.els.take 50 }).attrsAllow, .slice D1 i1 j1, .slice D2 i2 j2, .slice D3 i3 j3, .slice D4 i4 j4, .bool (stripC { d with els := d.els.take 50 }).comments, .bool (stripC { d with els := d.els.take 50 }).dataAttrs]) _ e wx q1 (cvB wx hb) s4 hq1) hb)
  have H1 := Lib.hid (fun wx (hb : Below W4.heap.size W4 wx) => on_base (attr1 (.agg #[.bool d.allow, .bool d.attrsAllow, .slice A1 m1 c1, .slice A2 n2 c2, .slice A3 n3 c3, .slice A4 n4 c4, .bool d.comments, .bool d.dataAttrs]) _ e a wx q2 (cvA wx hb) s2 (by omega) hq2) hb)
  have H2 := Lib.hid (fun wx (hb : Below W4.heap.size W4 wx) => on_base (attr1 (.agg #[.bool (stripC { d with els := d.els.take 50 }).allow, .bool (stripC { d with els := d.els.take 50 }).attrsAllow, .slice D1 i1 j1, .slice D2 i2 j2, .slice D3 i3 j3, .slice D4 i4 j4, .bool (stripC { d with els := d.els.take 50 }).comments, .bool (stripC { d with els := d.els.take 50 }).dataAttrs]) _ e a wx q2 (cvB wx hb) s4 (by omega) ((strip_attr _ e a).trans hq2)) hb)
  have H3 := Lib.hid (fun wx (hb : Below W4.heap.size W4 wx) => on_base (check12 (.agg #[.bool d.allow, .bool d.attrsAllow, .slice A1 m1 c1, .slice A2 n2 c2, .slice A3 n3 c3, .slice A4 n4 c4, .bool d.comments, .bool d.dataAttrs]) _ wx n (cvA wx hb) s2 hn) hb)
  have H4 := Lib.hid (fun (h0 : n = 0) wx (hb : Below W4.heap.size W4 wx) => on_base (check12 (.agg #[.bool (stripC { d with els := d.els.take 50 }).allow, .bool (stripC { d with els := d.els.take 50 }).attrsAllow, .slice D1 i1 j1, .slice D2 i2 j2, .slice D3 i3 j3, .slice D4 i4 j4, .bool (stripC { d with els := d.els.take 50 }).comments, .bool (stripC { d with els := d.els.take 50 }).dataAttrs]) _ wx 0 (cvB wx hb) s4 (check_strip (hn.trans h0) hl50)) hb)
  have H5 := Lib.hid (fun (h0 : neverB e = false) wx (hb : Below W4.heap.size W4 wx) => on_base (element1 (.agg #[.bool d.allow, .bool d.attrsAllow, .slice A1 m1 c1, .slice A2 n2 c2, .slice A3 n3 c3, .slice A4 n4 c4, .bool d.comments, .bool d.dataAttrs]) _ e wx q1 (cvA wx hb) s2 ((strip_el _ e h0).symm.trans hq1)) hb)
  have H6 := Lib.hid (fun wx (hb : Below W4.heap.size W4 wx) => on_base (fixed12 wx) hb)
  have HQ := Lib.hid (fun (h0 : neverB e = true) => (strip_never ({ d with els := d.els.take 50 }) e h0).symm.trans hq1)
  have HBL := Lib.hid (fun wx (hb : Below W4.heap.size W4 wx) => show wx.cell? ⟨w.heap.size, 0, none⟩ = some (.bool d.allow) ∧ wx.cell? ⟨w.heap.size, 1, none⟩ = some (.bool d.attrsAllow) ∧ wx.cell? ⟨w.heap.size, 2, none⟩ = some (.slice A1 m1 c1) ∧ wx.cell? ⟨w.heap.size, 3, none⟩ = some (.slice A2 n2 c2) ∧ wx.cell? ⟨w.heap.size, 4, none⟩ = some (.slice A3 n3 c3) ∧ wx.cell? ⟨w.heap.size, 5, none⟩ = some (.slice A4 n4 c4) ∧ wx.cell? ⟨w.heap.size, 6, none⟩ = some (.bool d.comments) ∧ wx.cell? ⟨w.heap.size, 7, none⟩ = some (.bool d.dataAttrs) ∧ wx.cell? ⟨g7, 0, none⟩ = some (.bool (stripC { d with els := d.els.take 50 }).allow) ∧ wx.cell? ⟨g7, 1, none⟩ = some (.bool (stripC { d with els := d.els.take 50 }).attrsAllow) ∧ wx.cell? ⟨g7, 2, none⟩ = some (.slice D1 i1 j1) ∧ wx.cell? ⟨g7, 3, none⟩ = some (.slice D2 i2 j2) ∧ wx.cell? ⟨g7, 4, none⟩ = some (.slice D3 i3 j3) ∧ wx.cell? ⟨g7, 5, none⟩ = some (.slice D4 i4 j4) ∧ wx.cell? ⟨g7, 6, none⟩ = some (.bool (stripC { d with els := d.els.take 50 }).comments) ∧ wx.cell? ⟨g7, 7, none⟩ = some (.bool (stripC { d with els := d.els.take 50 }).dataAttrs) from by
    obtain ⟨a0, a1, a2, a3, a4, a5, a6, a7⟩ := (Hb.bx (c := { d with els := d.els.take 50 }) hx4).below hb hl1 |>.at_
    obtain ⟨b0, b1, b2, b3, b4, b5, b6, b7⟩ := (Hb.bx (c := stripC ({ d with els := d.els.take 50 })) hn4).below hb hl2 |>.at_
    exact ⟨a0, a1, a2, a3, a4, a5, a6, a7, b0, b1, b2, b3, b4, b5, b6, b7⟩)
  have HW := Lib.hid hbw4
  clear hq1 hq2 hn cvA cvB cv2 hp2 hp4 hq4 hbw4 hbw2 hx4 hn4 hl1 hl2 hb24 hb4 hc2 hh2 hg2 hW2 hW4 hh1 hcW hbW s2 s4 hl50 HST HO3 HB3 hc1
  obtain ⟨_, _, _, _, _, _, _, _, _, _, _, _, _, _, _, _⟩ := HBL.out W4 (Below.refl _ _)
  go_upto_region 5 with (go_at_call 21; refine (H0.out _ (Below.refl _ _)).mono ?_; rintro r x0 ⟨rfl, hbx⟩; have HBx0 := Lib.hid hbx; clear hbx)
  go_cut [42] from 24 to 42 (fun s wx => s = .bool false ∧ Below W4.heap.size W4 wx)
  case first =>
    by_cases h0 : n = 0
    · have H4z := Lib.hid (H4.out h0)
      clear H4
      subst h0
      go_wp2_with fail
      refine wp_region_noPanic ?_
      refine wp_region_held_drew (S := fun wx => wx.cell? ⟨w.heap.size, 0, none⟩ = some (.bool d.allow) ∧ wx.cell? ⟨w.heap.size, 1, none⟩ = some (.bool d.attrsAllow) ∧ wx.cell? ⟨w.heap.size, 2, none⟩ = some (.slice A1 m1 c1) ∧ wx.cell? ⟨w.heap.size, 3, none⟩ = some (.slice A2 n2 c2) ∧ wx.cell? ⟨w.heap.size, 4, none⟩ = some (.slice A3 n3 c3) ∧ wx.cell? ⟨w.heap.size, 5, none⟩ = some (.slice A4 n4 c4) ∧ wx.cell? ⟨w.heap.size, 6, none⟩ = some (.bool d.comments) ∧ wx.cell? ⟨w.heap.size, 7, none⟩ = some (.bool d.dataAttrs) ∧ wx.cell? ⟨g7, 0, none⟩ = some (.bool (stripC { d with els := d.els.take 50 }).allow) ∧ wx.cell? ⟨g7, 1, none⟩ = some (.bool (stripC { d with els := d.els.take 50 }).attrsAllow) ∧ wx.cell? ⟨g7, 2, none⟩ = some (.slice D1 i1 j1) ∧ wx.cell? ⟨g7, 3, none⟩ = some (.slice D2 i2 j2) ∧ wx.cell? ⟨g7, 4, none⟩ = some (.slice D3 i3 j3) ∧ wx.cell? ⟨g7, 5, none⟩ = some (.slice D4 i4 j4) ∧ wx.cell? ⟨g7, 6, none⟩ = some (.bool (stripC { d with els := d.els.take 50 }).comments) ∧ wx.cell? ⟨g7, 7, none⟩ = some (.bool (stripC { d with els := d.els.take 50 }).dataAttrs)) (by kernel_rfl) ?_ (fun hHeld => ?_)
      · exact HBL.out _ (bel_eq12 HBx0.out rfl rfl rfl rfl)
      refine wpAnyH_take (i := 0) (oi := _) (v := ?_) rfl (by kernel_rfl) (by kernel_rfl) (by kernel_rfl) (fun _ _ _ h => h) (Or.inl ⟨by rfl, ?_⟩) (by assumption) ?_
      rotate_left
      · intro w hSw; (try dsimp only at hSw); go_simp; all_goals with_reducible rfl
      try simp only [Act.put, List.getElem_toArray, List.getElem_cons_zero, List.getElem_cons_succ, List.setIfInBounds_toArray, List.set_cons_zero, List.set_cons_succ]
      refine wpAnyH_take (i := 1) (oi := _) (v := ?_) rfl (by kernel_rfl) (by kernel_rfl) (by kernel_rfl) (fun _ _ _ h => h) (Or.inl ⟨by rfl, ?_⟩) (by assumption) ?_
      rotate_left
      · intro w hSw; (try dsimp only at hSw); go_simp; all_goals with_reducible rfl
      try simp only [Act.put, List.getElem_toArray, List.getElem_cons_zero, List.getElem_cons_succ, List.setIfInBounds_toArray, List.set_cons_zero, List.set_cons_succ]
      refine wpAnyH_take (i := 2) (oi := _) (v := ?_) rfl (by kernel_rfl) (by kernel_rfl) (by kernel_rfl) (fun _ _ _ h => h) (Or.inl ⟨by rfl, ?_⟩) (by assumption) ?_
      rotate_left
      · intro w hSw; (try dsimp only at hSw); go_simp; all_goals with_reducible rfl
      try simp only [Act.put, List.getElem_toArray, List.getElem_cons_zero, List.getElem_cons_succ, List.setIfInBounds_toArray, List.set_cons_zero, List.set_cons_succ]
      refine wpAnyH_take (i := 4) (oi := _) (v := ?_) rfl (by kernel_rfl) (by kernel_rfl) (by kernel_rfl) (fun _ _ _ h => h) (Or.inl ⟨by rfl, ?_⟩) (by assumption) ?_
      rotate_left
      · intro w hSw; (try dsimp only at hSw); go_simp; all_goals with_reducible rfl
      try simp only [Act.put, List.getElem_toArray, List.getElem_cons_zero, List.getElem_cons_succ, List.setIfInBounds_toArray, List.set_cons_zero, List.set_cons_succ]
      refine wpAnyH_take (i := 5) (oi := _) (v := ?_) rfl (by kernel_rfl) (by kernel_rfl) (by kernel_rfl) (fun _ _ _ h => h) (Or.inl ⟨by rfl, ?_⟩) (by assumption) ?_
      rotate_left
      · intro w hSw; (try dsimp only at hSw); go_simp; all_goals with_reducible rfl
      try simp only [Act.put, List.getElem_toArray, List.getElem_cons_zero, List.getElem_cons_succ, List.setIfInBounds_toArray, List.set_cons_zero, List.set_cons_succ]
      refine wpAnyH_take (i := 6) (oi := _) (v := ?_) rfl (by kernel_rfl) (by kernel_rfl) (by kernel_rfl) (fun _ _ _ h => h) (Or.inl ⟨by rfl, ?_⟩) (by assumption) ?_
      rotate_left
      · intro w hSw; (try dsimp only at hSw); go_simp; all_goals with_reducible rfl
      try simp only [Act.put, List.getElem_toArray, List.getElem_cons_zero, List.getElem_cons_succ, List.setIfInBounds_toArray, List.set_cons_zero, List.set_cons_succ]
      refine wpAnyH_ready (rs := [3]) (by kernel_rfl) (by simp) ?_
      refine AllReadyH.cons (o := _) rfl (fun K hK => ?_) AllReadyH.nil
      go_simp
      go_at_call 23
      refine (H1.out _ (by exact bel_eq12 HBx0.out rfl rfl rfl rfl)).mono ?_
      rintro r x1 ⟨rfl, hbx⟩
      have HBx1 := Lib.hid hbx
      clear hbx
      go_wp2_with fail
      refine hK.out _ _ ?_ (fun hHeld => ?_)
      · exact HBL.out _ (bel_eq12 HBx1.out rfl rfl rfl rfl)
      clear hK K
      try simp only [Act.put, List.getElem_toArray, List.getElem_cons_zero, List.getElem_cons_succ, List.setIfInBounds_toArray, List.set_cons_zero, List.set_cons_succ]
      refine wpAnyH_ready (rs := [7]) (by kernel_rfl) (by simp) ?_
      refine AllReadyH.cons (o := _) rfl (fun K hK => ?_) AllReadyH.nil
      go_simp
      go_at_call 23
      refine (H2.out _ (by exact bel_eq12 HBx1.out rfl rfl rfl rfl)).mono ?_
      rintro r x2 ⟨rfl, hbx⟩
      have HBx2 := Lib.hid hbx
      clear hbx
      go_wp2_with fail
      refine hK.out _ _ ?_ (fun hHeld => ?_)
      · exact HBL.out _ (bel_eq12 HBx2.out rfl rfl rfl rfl)
      clear hK K
      try simp only [Act.put, List.getElem_toArray, List.getElem_cons_zero, List.getElem_cons_succ, List.setIfInBounds_toArray, List.set_cons_zero, List.set_cons_succ]
      refine wpAnyH_take (i := 8) (oi := _) (v := ?_) rfl (by kernel_rfl) (by kernel_rfl) (by kernel_rfl) (fun _ _ _ h => h) (Or.inl ⟨by rfl, ?_⟩) (by assumption) ?_
      rotate_left
      · intro w hSw; (try dsimp only at hSw); go_simp; all_goals with_reducible rfl
      try simp only [Act.put, List.getElem_toArray, List.getElem_cons_zero, List.getElem_cons_succ, List.setIfInBounds_toArray, List.set_cons_zero, List.set_cons_succ]
      refine wpAnyH_take (i := 9) (oi := _) (v := ?_) rfl (by kernel_rfl) (by kernel_rfl) (by kernel_rfl) (fun _ _ _ h => h) (Or.inl ⟨by rfl, ?_⟩) (by assumption) ?_
      rotate_left
      · intro w hSw; (try dsimp only at hSw); go_simp; all_goals with_reducible rfl
      try simp only [Act.put, List.getElem_toArray, List.getElem_cons_zero, List.getElem_cons_succ, List.setIfInBounds_toArray, List.set_cons_zero, List.set_cons_succ]
      refine wpAnyH_take (i := 10) (oi := _) (v := ?_) rfl (by kernel_rfl) (by kernel_rfl) (by kernel_rfl) (fun _ _ _ h => h) (Or.inl ⟨by rfl, ?_⟩) (by assumption) ?_
      rotate_left
      · intro w hSw; (try dsimp only at hSw); go_simp; all_goals with_reducible rfl
      try simp only [Act.put, List.getElem_toArray, List.getElem_cons_zero, List.getElem_cons_succ, List.setIfInBounds_toArray, List.set_cons_zero, List.set_cons_succ]
      refine wpAnyH_ready (rs := [11]) (by kernel_rfl) (by simp) ?_
      refine AllReadyH.cons (o := _) rfl (fun K hK => ?_) AllReadyH.nil
      go_simp
      go_at_call 18
      refine (H3.out _ (by exact bel_eq12 HBx2.out rfl rfl rfl rfl)).mono ?_
      rintro r x3 ⟨rfl, hbx⟩
      have HBx3 := Lib.hid hbx
      clear hbx
      go_wp2_with fail
      refine hK.out _ _ ?_ (fun hHeld => ?_)
      · exact HBL.out _ (bel_eq12 HBx3.out rfl rfl rfl rfl)
      clear hK K
      try simp only [Act.put, List.getElem_toArray, List.getElem_cons_zero, List.getElem_cons_succ, List.setIfInBounds_toArray, List.set_cons_zero, List.set_cons_succ]
      refine wpAnyH_take (i := 12) (oi := _) (v := ?_) rfl (by kernel_rfl) (by kernel_rfl) (by kernel_rfl) (fun _ _ _ h => h) (Or.inl ⟨by rfl, ?_⟩) (by assumption) ?_
      rotate_left
      · intro w hSw; (try dsimp only at hSw); go_simp; all_goals with_reducible rfl
      try simp only [Act.put, List.getElem_toArray, List.getElem_cons_zero, List.getElem_cons_succ, List.setIfInBounds_toArray, List.set_cons_zero, List.set_cons_succ]
      refine wpAnyH_take (i := 13) (oi := _) (v := ?_) rfl (by kernel_rfl) (by kernel_rfl) (by kernel_rfl) (fun _ _ _ h => h) (Or.inl ⟨by rfl, ?_⟩) (by assumption) ?_
      rotate_left
      · intro w hSw; (try dsimp only at hSw); go_simp; all_goals with_reducible rfl
      try simp only [Act.put, List.getElem_toArray, List.getElem_cons_zero, List.getElem_cons_succ, List.setIfInBounds_toArray, List.set_cons_zero, List.set_cons_succ]
      refine wpAnyH_take (i := 14) (oi := _) (v := ?_) rfl (by kernel_rfl) (by kernel_rfl) (by kernel_rfl) (fun _ _ _ h => h) (Or.inl ⟨by rfl, ?_⟩) (by assumption) ?_
      rotate_left
      · intro w hSw; (try dsimp only at hSw); go_simp; all_goals with_reducible rfl
      try simp only [Act.put, List.getElem_toArray, List.getElem_cons_zero, List.getElem_cons_succ, List.setIfInBounds_toArray, List.set_cons_zero, List.set_cons_succ]
      refine wpAnyH_ready (rs := [15]) (by kernel_rfl) (by simp) ?_
      refine AllReadyH.cons (o := _) rfl (fun K hK => ?_) AllReadyH.nil
      go_simp
      go_at_call 18
      refine (H4z.out _ (by exact bel_eq12 HBx3.out rfl rfl rfl rfl)).mono ?_
      rintro r x4 ⟨rfl, hbx⟩
      have HBx4 := Lib.hid hbx
      clear hbx
      go_wp2_with fail
      refine hK.out _ _ ?_ (fun hHeld => ?_)
      · exact HBL.out _ (bel_eq12 HBx4.out rfl rfl rfl rfl)
      clear hK K
      try simp only [Act.put, List.getElem_toArray, List.getElem_cons_zero, List.getElem_cons_succ, List.setIfInBounds_toArray, List.set_cons_zero, List.set_cons_succ]
      refine wpAnyH_take (i := 16) (oi := _) (v := ?_) rfl (by kernel_rfl) (by kernel_rfl) (by kernel_rfl) (fun _ _ _ h => h) (Or.inl ⟨by rfl, ?_⟩) (by assumption) ?_
      rotate_left
      · intro w hSw; (try dsimp only at hSw); go_simp; all_goals with_reducible rfl
      try simp only [Act.put, List.getElem_toArray, List.getElem_cons_zero, List.getElem_cons_succ, List.setIfInBounds_toArray, List.set_cons_zero, List.set_cons_succ]
      refine wpAnyH_take (i := 17) (oi := _) (v := ?_) rfl (by kernel_rfl) (by kernel_rfl) (by kernel_rfl) (fun _ _ _ h => h) (Or.inl ⟨by rfl, ?_⟩) (by assumption) ?_
      rotate_left
      · intro w hSw; (try dsimp only at hSw); go_simp; all_goals with_reducible rfl
      try simp only [Act.put, List.getElem_toArray, List.getElem_cons_zero, List.getElem_cons_succ, List.setIfInBounds_toArray, List.set_cons_zero, List.set_cons_succ]
      refine wpAnyH_take (i := 18) (oi := _) (v := ?_) rfl (by kernel_rfl) (by kernel_rfl) (by kernel_rfl) (fun _ _ _ h => h) (Or.inl ⟨by rfl, ?_⟩) (by assumption) ?_
      rotate_left
      · intro w hSw; (try dsimp only at hSw); go_simp; all_goals with_reducible rfl
      try simp only [Act.put, List.getElem_toArray, List.getElem_cons_zero, List.getElem_cons_succ, List.setIfInBounds_toArray, List.set_cons_zero, List.set_cons_succ]
      refine wpAnyH_done (by kernel_rfl) ?_ _
      refine NoPanic.normal ?_
      go_wp2
      go_meet
      exact ⟨rfl, bel_eq12 HBx4.out rfl rfl rfl rfl⟩
    · have h1 : ((n : Int) == 0) = false := by simpa using h0
      go_wp2_with fail
      refine wp_region_noPanic ?_
      refine wp_region_held_drew (S := fun wx => wx.cell? ⟨w.heap.size, 0, none⟩ = some (.bool d.allow) ∧ wx.cell? ⟨w.heap.size, 1, none⟩ = some (.bool d.attrsAllow) ∧ wx.cell? ⟨w.heap.size, 2, none⟩ = some (.slice A1 m1 c1) ∧ wx.cell? ⟨w.heap.size, 3, none⟩ = some (.slice A2 n2 c2) ∧ wx.cell? ⟨w.heap.size, 4, none⟩ = some (.slice A3 n3 c3) ∧ wx.cell? ⟨w.heap.size, 5, none⟩ = some (.slice A4 n4 c4) ∧ wx.cell? ⟨w.heap.size, 6, none⟩ = some (.bool d.comments) ∧ wx.cell? ⟨w.heap.size, 7, none⟩ = some (.bool d.dataAttrs) ∧ wx.cell? ⟨g7, 0, none⟩ = some (.bool (stripC { d with els := d.els.take 50 }).allow) ∧ wx.cell? ⟨g7, 1, none⟩ = some (.bool (stripC { d with els := d.els.take 50 }).attrsAllow) ∧ wx.cell? ⟨g7, 2, none⟩ = some (.slice D1 i1 j1) ∧ wx.cell? ⟨g7, 3, none⟩ = some (.slice D2 i2 j2) ∧ wx.cell? ⟨g7, 4, none⟩ = some (.slice D3 i3 j3) ∧ wx.cell? ⟨g7, 5, none⟩ = some (.slice D4 i4 j4) ∧ wx.cell? ⟨g7, 6, none⟩ = some (.bool (stripC { d with els := d.els.take 50 }).comments) ∧ wx.cell? ⟨g7, 7, none⟩ = some (.bool (stripC { d with els := d.els.take 50 }).dataAttrs)) (by kernel_rfl) ?_ (fun hHeld => ?_)
      · exact HBL.out _ (bel_eq12 HBx0.out rfl rfl rfl rfl)
      refine wpAnyH_take (i := 0) (oi := _) (v := ?_) rfl (by kernel_rfl) (by kernel_rfl) (by kernel_rfl) (fun _ _ _ h => h) (Or.inl ⟨by rfl, ?_⟩) (by assumption) ?_
      rotate_left
      · intro w hSw; (try dsimp only at hSw); go_simp; all_goals with_reducible rfl
      try simp only [Act.put, List.getElem_toArray, List.getElem_cons_zero, List.getElem_cons_succ, List.setIfInBounds_toArray, List.set_cons_zero, List.set_cons_succ]
      refine wpAnyH_take (i := 1) (oi := _) (v := ?_) rfl (by kernel_rfl) (by kernel_rfl) (by kernel_rfl) (fun _ _ _ h => h) (Or.inl ⟨by rfl, ?_⟩) (by assumption) ?_
      rotate_left
      · intro w hSw; (try dsimp only at hSw); go_simp; all_goals with_reducible rfl
      try simp only [Act.put, List.getElem_toArray, List.getElem_cons_zero, List.getElem_cons_succ, List.setIfInBounds_toArray, List.set_cons_zero, List.set_cons_succ]
      refine wpAnyH_take (i := 2) (oi := _) (v := ?_) rfl (by kernel_rfl) (by kernel_rfl) (by kernel_rfl) (fun _ _ _ h => h) (Or.inl ⟨by rfl, ?_⟩) (by assumption) ?_
      rotate_left
      · intro w hSw; (try dsimp only at hSw); go_simp; all_goals with_reducible rfl
      try simp only [Act.put, List.getElem_toArray, List.getElem_cons_zero, List.getElem_cons_succ, List.setIfInBounds_toArray, List.set_cons_zero, List.set_cons_succ]
      refine wpAnyH_take (i := 4) (oi := _) (v := ?_) rfl (by kernel_rfl) (by kernel_rfl) (by kernel_rfl) (fun _ _ _ h => h) (Or.inl ⟨by rfl, ?_⟩) (by assumption) ?_
      rotate_left
      · intro w hSw; (try dsimp only at hSw); go_simp; all_goals with_reducible rfl
      try simp only [Act.put, List.getElem_toArray, List.getElem_cons_zero, List.getElem_cons_succ, List.setIfInBounds_toArray, List.set_cons_zero, List.set_cons_succ]
      refine wpAnyH_take (i := 5) (oi := _) (v := ?_) rfl (by kernel_rfl) (by kernel_rfl) (by kernel_rfl) (fun _ _ _ h => h) (Or.inl ⟨by rfl, ?_⟩) (by assumption) ?_
      rotate_left
      · intro w hSw; (try dsimp only at hSw); go_simp; all_goals with_reducible rfl
      try simp only [Act.put, List.getElem_toArray, List.getElem_cons_zero, List.getElem_cons_succ, List.setIfInBounds_toArray, List.set_cons_zero, List.set_cons_succ]
      refine wpAnyH_take (i := 6) (oi := _) (v := ?_) rfl (by kernel_rfl) (by kernel_rfl) (by kernel_rfl) (fun _ _ _ h => h) (Or.inl ⟨by rfl, ?_⟩) (by assumption) ?_
      rotate_left
      · intro w hSw; (try dsimp only at hSw); go_simp; all_goals with_reducible rfl
      try simp only [Act.put, List.getElem_toArray, List.getElem_cons_zero, List.getElem_cons_succ, List.setIfInBounds_toArray, List.set_cons_zero, List.set_cons_succ]
      refine wpAnyH_ready (rs := [3]) (by kernel_rfl) (by simp) ?_
      refine AllReadyH.cons (o := _) rfl (fun K hK => ?_) AllReadyH.nil
      go_simp
      go_at_call 23
      refine (H1.out _ (by exact bel_eq12 HBx0.out rfl rfl rfl rfl)).mono ?_
      rintro r x1 ⟨rfl, hbx⟩
      have HBx1 := Lib.hid hbx
      clear hbx
      go_wp2_with fail
      refine hK.out _ _ ?_ (fun hHeld => ?_)
      · exact HBL.out _ (bel_eq12 HBx1.out rfl rfl rfl rfl)
      clear hK K
      try simp only [Act.put, List.getElem_toArray, List.getElem_cons_zero, List.getElem_cons_succ, List.setIfInBounds_toArray, List.set_cons_zero, List.set_cons_succ]
      refine wpAnyH_ready (rs := [7]) (by kernel_rfl) (by simp) ?_
      refine AllReadyH.cons (o := _) rfl (fun K hK => ?_) AllReadyH.nil
      go_simp
      go_at_call 23
      refine (H2.out _ (by exact bel_eq12 HBx1.out rfl rfl rfl rfl)).mono ?_
      rintro r x2 ⟨rfl, hbx⟩
      have HBx2 := Lib.hid hbx
      clear hbx
      go_wp2_with fail
      refine hK.out _ _ ?_ (fun hHeld => ?_)
      · exact HBL.out _ (bel_eq12 HBx2.out rfl rfl rfl rfl)
      clear hK K
      try simp only [Act.put, List.getElem_toArray, List.getElem_cons_zero, List.getElem_cons_succ, List.setIfInBounds_toArray, List.set_cons_zero, List.set_cons_succ]
      refine wpAnyH_take (i := 8) (oi := _) (v := ?_) rfl (by kernel_rfl) (by kernel_rfl) (by kernel_rfl) (fun _ _ _ h => h) (Or.inl ⟨by rfl, ?_⟩) (by assumption) ?_
      rotate_left
      · intro w hSw; (try dsimp only at hSw); go_simp; all_goals with_reducible rfl
      try simp only [Act.put, List.getElem_toArray, List.getElem_cons_zero, List.getElem_cons_succ, List.setIfInBounds_toArray, List.set_cons_zero, List.set_cons_succ]
      refine wpAnyH_take (i := 9) (oi := _) (v := ?_) rfl (by kernel_rfl) (by kernel_rfl) (by kernel_rfl) (fun _ _ _ h => h) (Or.inl ⟨by rfl, ?_⟩) (by assumption) ?_
      rotate_left
      · intro w hSw; (try dsimp only at hSw); go_simp; all_goals with_reducible rfl
      try simp only [Act.put, List.getElem_toArray, List.getElem_cons_zero, List.getElem_cons_succ, List.setIfInBounds_toArray, List.set_cons_zero, List.set_cons_succ]
      refine wpAnyH_take (i := 10) (oi := _) (v := ?_) rfl (by kernel_rfl) (by kernel_rfl) (by kernel_rfl) (fun _ _ _ h => h) (Or.inl ⟨by rfl, ?_⟩) (by assumption) ?_
      rotate_left
      · intro w hSw; (try dsimp only at hSw); go_simp; all_goals with_reducible rfl
      try simp only [Act.put, List.getElem_toArray, List.getElem_cons_zero, List.getElem_cons_succ, List.setIfInBounds_toArray, List.set_cons_zero, List.set_cons_succ]
      refine wpAnyH_ready (rs := [11]) (by kernel_rfl) (by simp) ?_
      refine AllReadyH.cons (o := _) rfl (fun K hK => ?_) AllReadyH.nil
      go_simp
      go_at_call 18
      refine (H3.out _ (by exact bel_eq12 HBx2.out rfl rfl rfl rfl)).mono ?_
      rintro r x3 ⟨rfl, hbx⟩
      have HBx3 := Lib.hid hbx
      clear hbx
      go_wp2_with fail
      refine hK.out _ _ ?_ (fun hHeld => ?_)
      · exact HBL.out _ (bel_eq12 HBx3.out rfl rfl rfl rfl)
      clear hK K
      try simp only [Act.put, List.getElem_toArray, List.getElem_cons_zero, List.getElem_cons_succ, List.setIfInBounds_toArray, List.set_cons_zero, List.set_cons_succ]
      refine wpAnyH_take (i := 12) (oi := _) (v := ?_) rfl (by kernel_rfl) (by kernel_rfl) (by kernel_rfl) (fun _ _ _ h => h) (Or.inl ⟨by rfl, ?_⟩) (by assumption) ?_
      rotate_left
      · intro w hSw; (try dsimp only at hSw); go_simp; all_goals with_reducible rfl
      try simp only [Act.put, List.getElem_toArray, List.getElem_cons_zero, List.getElem_cons_succ, List.setIfInBounds_toArray, List.set_cons_zero, List.set_cons_succ]
      refine wpAnyH_take (i := 13) (oi := _) (v := ?_) rfl (by kernel_rfl) (by kernel_rfl) (by kernel_rfl) (fun _ _ _ h => h) (Or.inl ⟨by rfl, ?_⟩) (by assumption) ?_
      rotate_left
      · intro w hSw; (try dsimp only at hSw); go_simp; all_goals with_reducible rfl
      try simp only [Act.put, List.getElem_toArray, List.getElem_cons_zero, List.getElem_cons_succ, List.setIfInBounds_toArray, List.set_cons_zero, List.set_cons_succ]
      refine wpAnyH_take (i := 14) (oi := _) (v := undef) rfl (by kernel_rfl) (by kernel_rfl) (by kernel_rfl) (fun _ _ _ h => h) (Or.inr ⟨by rfl, rfl⟩) (by assumption) ?_
      try simp only [Act.put, List.getElem_toArray, List.getElem_cons_zero, List.getElem_cons_succ, List.setIfInBounds_toArray, List.set_cons_zero, List.set_cons_succ]
      refine wpAnyH_take (i := 15) (oi := _) (v := undef) rfl (by kernel_rfl) (by kernel_rfl) (by kernel_rfl) (fun _ _ _ h => h) (Or.inr ⟨by rfl, rfl⟩) (by assumption) ?_
      try simp only [Act.put, List.getElem_toArray, List.getElem_cons_zero, List.getElem_cons_succ, List.setIfInBounds_toArray, List.set_cons_zero, List.set_cons_succ]
      refine wpAnyH_take (i := 16) (oi := _) (v := undef) rfl (by kernel_rfl) (by kernel_rfl) (by kernel_rfl) (fun _ _ _ h => h) (Or.inr ⟨by rfl, rfl⟩) (by assumption) ?_
      try simp only [Act.put, List.getElem_toArray, List.getElem_cons_zero, List.getElem_cons_succ, List.setIfInBounds_toArray, List.set_cons_zero, List.set_cons_succ]
      refine wpAnyH_take (i := 17) (oi := _) (v := ?_) rfl (by kernel_rfl) (by kernel_rfl) (by kernel_rfl) (fun _ _ _ h => h) (Or.inl ⟨by rfl, ?_⟩) (by assumption) ?_
      rotate_left
      · intro w hSw; (try dsimp only at hSw); go_simp; all_goals with_reducible rfl
      try simp only [Act.put, List.getElem_toArray, List.getElem_cons_zero, List.getElem_cons_succ, List.setIfInBounds_toArray, List.set_cons_zero, List.set_cons_succ]
      refine wpAnyH_take (i := 18) (oi := _) (v := ?_) rfl (by kernel_rfl) (by kernel_rfl) (by kernel_rfl) (fun _ _ _ h => h) (Or.inl ⟨by rfl, ?_⟩) (by assumption) ?_
      rotate_left
      · intro w hSw; (try dsimp only at hSw); go_simp; all_goals with_reducible rfl
      try simp only [Act.put, List.getElem_toArray, List.getElem_cons_zero, List.getElem_cons_succ, List.setIfInBounds_toArray, List.set_cons_zero, List.set_cons_succ]
      refine wpAnyH_done (by kernel_rfl) ?_ _
      refine NoPanic.normal ?_
      go_wp2
      go_meet
      exact ⟨rfl, bel_eq12 HBx3.out rfl rfl rfl rfl⟩
  case rest =>
  obtain ⟨rfl, hbr⟩ := hcut
  have HBR := Lib.hid hbr
  clear hbr
  obtain ⟨nb, hnb⟩ : ∃ b, neverB e = b := ⟨_, rfl⟩
  have HU := Lib.hid (fun wx (hb : Below W4.heap.size W4 wx) => (unsafe12 wx).mono fun r w' ⟨v', e, ho, h⟩ => (show ∃ v', r = Ending.returned v' ∧ Sv w' w'.heap.size v' unsafeL ∧ Below W4.heap.size W4 w' from ⟨v', e, sv_own ho, hb.trans (h.mono hb.size)⟩))
  have HNB := Lib.hid (show isIn e unsafeL = nb from hnb)
  have HE := Lib.hid (show e.size ≤ 140737488355328 by omega)
  cases nb with
  | true =>
    have hq := HQ.out hnb
    subst hq
    clear hnb
    go_wp2_with (first
      | (go_at_call 27; refine (HU.out _ HBR.out).mono ?_; rintro r x1 ⟨v5, rfl, hv5, hbx⟩; have HV5 := Lib.hid hv5; have HBu := Lib.hid hbx; clear hbx hv5)
      | (go_at_call 26; refine (has1 _ _ unsafeL e _ true HV5.out (by decide) HNB.out).mono ?_; rintro r x2 ⟨rfl, rfl⟩)
      | (go_at_call 20; refine (H6.out _ HBu.out).mono ?_; rintro r x3 ⟨rfl, hbx⟩; have HBv := Lib.hid hbx; clear hbx))
    go_ret
    exact ⟨rfl, HW.out.trans (HBv.out.mono HW.out.size)⟩
  | false =>
    have H5 := Lib.hid (H5.out hnb)
    clear hnb
    go_wp2_with (first
      | (go_at_call 27; refine (HU.out _ HBR.out).mono ?_; rintro r x1 ⟨v5, rfl, hv5, hbx⟩; have HV5 := Lib.hid hv5; have HBu := Lib.hid hbx; clear hbx hv5; obtain ⟨_, _, _, _, _, _, _, _, _, _, _, _, _, _, _, _⟩ := HBL.out _ HBu.out)
      | (go_at_call 26; refine (has1 _ _ unsafeL e _ false HV5.out (by decide) HNB.out).mono ?_; rintro r x2 ⟨rfl, rfl⟩)
      | (go_at_call 21; refine (H5.out _ HBu.out).mono ?_; rintro r x2 ⟨rfl, hbx⟩; have HBt := Lib.hid hbx; clear hbx)
      | (go_at_call 20; refine (H6.out _ HBt.out).mono ?_; rintro r x3 ⟨rfl, hbx⟩; have HBv := Lib.hid hbx; clear hbx))
    go_ret
    exact ⟨rfl, HW.out.trans (HBv.out.mono HW.out.size)⟩

end Go.Proofs.Ythiimnlilfcfeaa.Co

namespace Go.Proofs.Ythiimnlilfcfeaa.Fo
set_option maxRecDepth 100000
set_option linter.unusedSimpArgs false
set_option linter.unusedVariables false
open Go.RowKit Ba Fm
set_option maxHeartbeats 1000000 in
theorem is_any (A : Option Addr) (c : Nat) (l : List ByteArray) (w : World) (hr : Rd w w.heap.size A l) (hl : l.length ≤ 8796093022208) (ha : Asc lt l) :
    Calls Try.prog 25 #[.slice A l.length c] w fun e w' => e = .returned (.bool true) ∧ Below w.heap.size w w' := by
  go_enter Try.func25, Try.ntmps25
  go_wp2
  go_loopw [3] (fun i wr => ∃ k : Nat, i = .int .i64 (k + 1 : Nat) ∧ Below w.heap.size w wr) (fun i _ => l.length - (intOf i).toNat)
  case atStart => exact ⟨0, rfl, Below.refl _ _⟩
  case round =>
    obtain ⟨k, rfl, hbel⟩ := hrel
    by_cases hp : k + 1 < l.length
    · obtain ⟨b, off, rfl, hb1, hc⟩ := hr (by omega)
      have hcell : wr.cell? ⟨b, off + k, none⟩ = some (.string (l[k]'(by omega))) := (hbel.cell (p := ⟨b, off + k, none⟩) hb1).trans (hc k (by omega))
      have hcell' : wr.cell? ⟨b, off + (k + 1), none⟩ = some (.string l[k + 1]) := (hbel.cell (p := ⟨b, off + (k + 1), none⟩) hb1).trans (hc (k + 1) hp)
      have hlt : Op.bytesLess (l[k]'(by omega)).toList l[k + 1].toList = true := asc_get ha (Nat.lt_succ_self k) hp
      clear hc hr hb1
      have hk0 : (0 : Int) ≤ (k : Int) := by omega
      have hk1 : (k : Int) < (l.length : Int) := by omega
      have hk2 : (k : Int) + 1 < (l.length : Int) := by omega
      go_wp2
      go_quiet (fail)
      go_wp2
      go_roundw
      case rel => exact ⟨k + 1, by go_num, below_dN hbel _⟩
      case measure => simp [intOf]; omega
    · go_wp2
      go_ret
      exact ⟨rfl, hbel⟩

end Go.Proofs.Ythiimnlilfcfeaa.Fo
