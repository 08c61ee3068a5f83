/-
  Walks of stage 12: exceeds, misnames and its closure.
  Walks of stage 12: meet and twice, of names, of names and api.Per, of api.Per.
  Walks of stage 12: meet of api.Per, and twice.
  Walks of stage 12: misnames, repeats, contradicts, Check.
  Walks of stage 12: contradicts, Check.
  Walks of stage 13: the program's Rows.
  fold.merged.
  fold.Find, of a list that rises.
  fold.Sorted, which calls itself, and fold.Minus.
  boltingref02.Minus and boltingref02.Sorted.
  Walks of stage 12: copied, safe, neverSafe; the document's Unsafe, Minus.
  A region whose loads may be taken first though its own last stores write the cells that they load: the condition on the world is asked for only as long as the first of those stores has not come up.
-/
import Derived.Test.YtdjkeakagmgfgaaCk04
import Derived.Test.YtdjkeakagmgfgaaCk05
import Derived.Deep.Cut
import Derived.Deep.RegionWith
import Derived.Test.YtdjkeakagmgfgaaCk03
import Derived.Test.YtdjkeakagmgfgaaRows
import Derived.Deep.RegionHeld3
namespace Go.Proofs.Ytdjkeakagmgfgaa.Co
set_option maxRecDepth 100000
set_option linter.unusedVariables false
set_option linter.unusedSimpArgs false
open Go.RowKit Ba Fm Fo Nm Rk
theorem max_any (x y : Nat) : ∃ m : Nat, (∀ n : Nat, n < m ↔ n < x ∨ n < y) ∧ ∀ ts t (w : World), (Builtin.max_ ts t #[.int .i64 x, .int .i64 y]).run Try.prog w = .ok (.int .i64 m) w := by
  refine ⟨max x y, fun n => by omega, fun ts t w => ?_⟩
  rw [run_max_int2]
  congr 2
  split <;> omega
theorem max_any4 (x y z u : Nat) : ∃ m : Nat, (∀ n : Nat, n < m ↔ ((n < x ∨ n < y) ∨ n < z) ∨ n < u) ∧ ∀ ts t (w : World), (Builtin.max_ ts t #[.int .i64 x, .int .i64 y, .int .i64 z, .int .i64 u]).run Try.prog w = .ok (.int .i64 m) w := by
  refine ⟨max (max (max x y) z) u, fun n => by omega, fun ts t w => ?_⟩
  simp only [Builtin.max_, Builtin.max2, List.foldlM, List.toList_toArray, pure_bind]
  show Result.ok _ _ = _
  congr 2
  split <;> split <;> split <;> omega
set_option maxRecDepth 100000 in
set_option maxHeartbeats 2000000 in
theorem exceeds1 (v : Value) (c : Cf) (w : World) (q : Bool) (h : Cv w w.heap.size v c) (hs : Sm c) (hq : bigB c = q) :
    Calls Try.prog 56 #[v] w fun r w' => r = .returned (.bool q) ∧ Below w.heap.size w w' := by
  obtain ⟨vE, vR, vA, vP, l, rfl, h⟩ := h
  obtain ⟨w0, hw0⟩ : ∃ w0, w.alloc (confO c vE vR vA vP) = w0 := ⟨_, rfl⟩
  have hb1 : Below w.heap.size w w0 := hw0 ▸ below_new12 w (confO c vE vR vA vP)
  obtain ⟨E, ce, rfl, _, _, _⟩ := h.e
  obtain ⟨R, cr, rfl, _, _, _⟩ := h.r
  obtain ⟨T, ct, rfl, _, _, _⟩ := h.a
  obtain ⟨A, cp, rfl, hcp, hna, hr⟩ := h.p
  have hpl : c.per.length = l.length := by rw [← h.m, len_pes]
  have hl : l.length ≤ 1000 := by have := hs.p; omega
  have hlen : ∀ x ∈ l, x.pe.at_.length ≤ 1000 := fun x hx => hs.pa _ (by rw [← h.m]; exact List.mem_map.2 ⟨x, hx, rfl⟩)
  have hel := hs.e; have hrl := hs.r; have hal := hs.a
  obtain ⟨m0, hm0, hmax⟩ := max_any4 c.els.length c.reps.length c.ats.length l.length
  have hbig : (decide (64 < m0) || l.any fun x => decide (64 < x.pe.at_.length)) = q := by
    rw [← hq]
    unfold bigB
    rw [hpl, ← h.m]
    unfold pes
    rw [List.any_map]
    congr 1
    rw [Bool.eq_iff_iff]
    simp only [decide_eq_true_eq, Bool.or_eq_true]
    exact hm0 64
  have hm00 : m0 ≤ 1000 := by have := (hm0 1000); omega
  have HQ := Lib.hid hbig; have HLEN := Lib.hid hlen; have HW := Lib.hid hw0; have HB1 := Lib.hid hb1; have HR := Lib.hid hr
  have hz : w.heap.size < w0.heap.size := by rw [← hw0]; simp
  have hcp0 : c.per.length = l.length := hpl
  clear hq hbig hlen hw0 hs h hm0 hpl hr hb1
  obtain ⟨n1, hn1⟩ : ∃ n, c.els.length = n := ⟨_, rfl⟩
  obtain ⟨n2, hn2⟩ : ∃ n, c.reps.length = n := ⟨_, rfl⟩
  obtain ⟨n3, hn3⟩ : ∃ n, c.ats.length = n := ⟨_, rfl⟩
  rw [hn1] at hmax hel HW
  rw [hn2] at hmax hrl HW
  rw [hn3] at hmax hal HW
  simp only [hn1, hn2, hn3]
  clear hn1 hn2 hn3 hcp0
  go_enter Try.func56, Try.ntmps56
  go_wp2
  rw [HW.out]
  clear hmax
  go_loopw [3, 5, 22] (fun n _ i wr => ∃ k m : Nat, i = .int .i64 k ∧ k ≤ l.length ∧ n = .int .i64 m ∧ m ≤ 1000 ∧ decide (64 < m) = (decide (64 < m0) || (l.take k).any fun x => decide (64 < x.pe.at_.length)) ∧ Below w0.heap.size w0 wr) (fun _ _ i _ => l.length - (intOf i).toNat)
  case atStart => exact ⟨0, m0, rfl, Nat.zero_le _, rfl, hm00, by simp, Below.refl _ _⟩
  case round =>
    obtain ⟨k, m, rfl, hks, rfl, hm1, hn, hbel⟩ := hrel
    by_cases hk : k < l.length
    · obtain ⟨b, off, x, rfl, hb, hx, hcs, hsx, hxm⟩ := (HR.out.below (HB1.out.trans (hbel.mono (Nat.le_of_lt hz)))).at_ k hk
      obtain ⟨g0, g1⟩ := range2p hcs
      have hxl := HLEN.out x hxm
      have hsn := any_snoc (fun x : Pw => decide (64 < x.pe.at_.length)) l k x hx
      obtain ⟨m2, hm2, hmax⟩ := max_any m x.pe.at_.length
      have hm3 : m2 ≤ 1000 := by have := hm2 1000; omega
      have hn2 : decide (64 < m2) = (decide (64 < m0) || (l.take (k + 1)).any fun x => decide (64 < x.pe.at_.length)) := by
        rw [hsn, ← Bool.or_assoc, ← hn, Bool.eq_iff_iff]
        simp only [decide_eq_true_eq, Bool.or_eq_true]
        exact hm2 64
      have HN := Lib.hid hn2; have HBL := Lib.hid (hbel.trans ((below_new12 wr (perO x)).mono hbel.size))
      clear hn hn2 hsn hm2 hcs hsx
      go_wp2
      go_roundw
      case rel => exact ⟨k + 1, m2, by go_num, by omega, rfl, hm3, HN.out, HBL.out⟩
      case measure => simp [intOf]; omega
    · rw [List.take_of_length_le (by omega), HQ.out] at hn
      have HN := Lib.hid hn
      have HBL := Lib.hid (HB1.out.trans (hbel.mono (Nat.le_of_lt hz)))
      clear hn hbel
      go_wp2
      go_ret
      exact ⟨ret_bool (by rw [← HN.out, Bool.eq_iff_iff]; simp only [decide_eq_true_eq]; omega), HBL.out⟩

/-- A block that holds one truth. -/
def Bb (w : World) (g : Nat) (b : Bool) : Prop := w.heap[g]? = some (.cells #[.bool b] 4)
section
variable {w w' : World} {g : Nat} {b : Bool}
theorem Bb.cell (h : Bb w g b) : w.cell? ⟨g, 0, none⟩ = some (.bool b) := by rw [cell_of_row w g 0 _ _ _ h]; rfl
theorem Bb.f (h : Bb w g b) : w.frozen? ⟨g, 0, none⟩ = false := by
  unfold Bb at h
  simp [World.frozen?, h]
theorem Bb.lt (h : Bb w g b) : g < w.heap.size := (Array.getElem?_eq_some_iff.1 h).1
theorem Bb.set (h : Bb w g b) (u : Bool) : Bb (w.setCell ⟨g, 0, none⟩ (.bool u)) g u := by
  unfold Bb at h ⊢
  simp [World.setCell, Array.getElem?_modify, h]
theorem Bb.below (h : Bb w g b) (hb : Below w.heap.size w w') : Bb w' g b := (hb.block g h.lt).trans h
end
theorem gset12 (w : World) (b j : Nat) (u : Value) : w.grownBy (w.setCell ⟨b, j, none⟩ u) (some b) :=
  ⟨rfl, rfl, rfl, by simp [World.setCell], fun k _ hk => Below.heap_setCell _ _ _ _ (fun e => hk (by simp [e]))⟩
theorem all_snoc12 (p : ByteArray → Bool) (l : List ByteArray) (k : Nat) (h : k < l.length) : (l.take (k + 1)).all p = ((l.take k).all p && p l[k]) := by
  rw [List.take_succ_eq_append_getElem h, List.all_append]
  simp
set_option maxRecDepth 100000 in
set_option maxHeartbeats 2000000 in
theorem mis_R (A : Option Addr) (c : Nat) (l : List ByteArray) (w : World) (g : Nat) (b : Bool) (hr : 0 < l.length → ∃ b0 off, A = some ⟨b0, off, none⟩ ∧ b0 < w.heap.size ∧ b0 ≠ g ∧ ∀ j (h : j < l.length), w.cell? ⟨b0, off + j, none⟩ = some (.string l[j])) (hl : l.length ≤ 1000000)
    (hsz : ∀ s ∈ l, s.size ≤ 140737488355328) (hg : Bb w g b) :
    Calls Try.prog 80 #[.func (.func 81) #[] #[], .slice A l.length c, .pointer (some ⟨g, 0, none⟩)] w fun r w' => r = .returned (.tuple #[]) ∧ Bb w' g (b || !l.all rightB) ∧ w.grownBy w' (some g) := by
  have HSZ := Lib.hid hsz; clear hsz
  go_enter Try.func80, Try.ntmps80
  go_wp2
  go_loopw [6, 9] (fun _ i wr => ∃ k : Nat, i = .int .i64 k ∧ k ≤ l.length ∧ Bb wr g (b || !(l.take k).all rightB) ∧ w.grownBy wr (some g)) (fun _ i _ => l.length - (intOf i).toNat)
  case atStart => exact ⟨0, rfl, Nat.zero_le _, by simpa using hg, World.grownBy.refl _ _⟩
  case round =>
    clear hg
    obtain ⟨k, rfl, hks, hg, hgr⟩ := hrel
    by_cases hk : k < l.length
    · obtain ⟨b0, off, rfl, hb0, hne, hc⟩ := hr (by omega)
      have hcell := (World.cell?_of_block (a := ⟨b0, off + k, none⟩) (hgr.block b0 hb0 (by simpa using hne))).trans (hc k hk)
      have hsn := all_snoc12 rightB l k hk
      have hxs := HSZ.out _ (List.getElem_mem hk)
      obtain ⟨t, ht⟩ : ∃ t, (b || !(l.take k).all rightB) = t := ⟨_, rfl⟩
      have hsn2 : (b || !(l.take (k + 1)).all rightB) = (t || !rightB l[k]) := by
        rw [hsn, ← ht]
        cases b <;> cases (l.take k).all rightB <;> cases rightB l[k] <;> rfl
      rw [ht] at hg
      have g0 := hg.cell; have f0 := hg.f
      have HSN := Lib.hid hsn2; have HG := Lib.hid hg; have HGR := Lib.hid hgr
      clear hc hr hsn hsn2 hg hgr ht
      cases t with
      | true =>
        go_wp2
        go_roundw
        case rel => exact ⟨k + 1, by go_num, by omega, by rw [HSN.out]; exact HG.out.set true, HGR.out.trans (gset12 wr g 0 _)⟩
        case measure => simp [intOf]; omega
      | false =>
        obtain ⟨u, hu⟩ : ∃ u, rightB l[k] = u := ⟨_, rfl⟩
        have HU := Lib.hid hu; clear hu
        go_wp2_with (go_at_call 81; refine (Na.right_any l[k] _ hxs).mono ?_; rw [HU.out]; rintro r w3 ⟨rfl, rfl⟩)
        go_roundw
        case rel => exact ⟨k + 1, by go_num, by omega, by rw [HSN.out, HU.out]; exact HG.out.set (!u), HGR.out.trans (gset12 wr g 0 _)⟩
        case measure => simp [intOf]; omega
    · rw [List.take_of_length_le (by omega)] at hg
      have HG := Lib.hid hg; have HGR := Lib.hid hgr
      clear hg hgr
      go_wp2
      go_end0
      exact ⟨rfl, HG.out, HGR.out⟩
set_option maxRecDepth 100000 in
set_option maxHeartbeats 2000000 in
theorem mis_T (A : Option Addr) (c : Nat) (l : List ByteArray) (w : World) (g : Nat) (b : Bool) (hr : 0 < l.length → ∃ b0 off, A = some ⟨b0, off, none⟩ ∧ b0 < w.heap.size ∧ b0 ≠ g ∧ ∀ j (h : j < l.length), w.cell? ⟨b0, off + j, none⟩ = some (.string l[j])) (hl : l.length ≤ 1000000)
    (hsz : ∀ s ∈ l, s.size ≤ 140737488355328) (hg : Bb w g b) :
    Calls Try.prog 80 #[.func (.func 82) #[] #[], .slice A l.length c, .pointer (some ⟨g, 0, none⟩)] w fun r w' => r = .returned (.tuple #[]) ∧ Bb w' g (b || !l.all Nm.attrB) ∧ w.grownBy w' (some g) := by
  have HSZ := Lib.hid hsz; clear hsz
  go_enter Try.func80, Try.ntmps80
  go_wp2
  go_loopw [6, 9] (fun _ i wr => ∃ k : Nat, i = .int .i64 k ∧ k ≤ l.length ∧ Bb wr g (b || !(l.take k).all Nm.attrB) ∧ w.grownBy wr (some g)) (fun _ i _ => l.length - (intOf i).toNat)
  case atStart => exact ⟨0, rfl, Nat.zero_le _, by simpa using hg, World.grownBy.refl _ _⟩
  case round =>
    clear hg
    obtain ⟨k, rfl, hks, hg, hgr⟩ := hrel
    by_cases hk : k < l.length
    · obtain ⟨b0, off, rfl, hb0, hne, hc⟩ := hr (by omega)
      have hcell := (World.cell?_of_block (a := ⟨b0, off + k, none⟩) (hgr.block b0 hb0 (by simpa using hne))).trans (hc k hk)
      have hsn := all_snoc12 Nm.attrB l k hk
      have hxs := HSZ.out _ (List.getElem_mem hk)
      obtain ⟨t, ht⟩ : ∃ t, (b || !(l.take k).all Nm.attrB) = t := ⟨_, rfl⟩
      have hsn2 : (b || !(l.take (k + 1)).all Nm.attrB) = (t || !Nm.attrB l[k]) := by
        rw [hsn, ← ht]
        cases b <;> cases (l.take k).all Nm.attrB <;> cases Nm.attrB l[k] <;> rfl
      rw [ht] at hg
      have g0 := hg.cell; have f0 := hg.f
      have HSN := Lib.hid hsn2; have HG := Lib.hid hg; have HGR := Lib.hid hgr
      clear hc hr hsn hsn2 hg hgr ht
      cases t with
      | true =>
        go_wp2
        go_roundw
        case rel => exact ⟨k + 1, by go_num, by omega, by rw [HSN.out]; exact HG.out.set true, HGR.out.trans (gset12 wr g 0 _)⟩
        case measure => simp [intOf]; omega
      | false =>
        obtain ⟨u, hu⟩ : ∃ u, Nm.attrB l[k] = u := ⟨_, rfl⟩
        have HU := Lib.hid hu; clear hu
        go_wp2_with (go_at_call 82; refine (Na.attr_any l[k] _ hxs).mono ?_; rw [HU.out]; rintro r w3 ⟨rfl, rfl⟩)
        go_roundw
        case rel => exact ⟨k + 1, by go_num, by omega, by rw [HSN.out, HU.out]; exact HG.out.set (!u), HGR.out.trans (gset12 wr g 0 _)⟩
        case measure => simp [intOf]; omega
    · rw [List.take_of_length_le (by omega)] at hg
      have HG := Lib.hid hg; have HGR := Lib.hid hgr
      clear hg hgr
      go_wp2
      go_end0
      exact ⟨rfl, HG.out, HGR.out⟩

end Go.Proofs.Ytdjkeakagmgfgaa.Co

namespace Go.Proofs.Ytdjkeakagmgfgaa.Co
set_option maxRecDepth 100000
set_option linter.unusedVariables false
set_option linter.unusedSimpArgs false
open Go.RowKit Ba Fm Fo Nm Rk
theorem any_snoc' {α : Type} (p : α → Bool) (l : List α) (k : Nat) (h : k < l.length) : (l.take (k + 1)).any p = ((l.take k).any p || p l[k]) := any_snoc p l k _ (List.getElem?_eq_getElem h)

set_option maxRecDepth 100000 in
set_option maxHeartbeats 2000000 in
theorem meetSS (va vb : Value) (N M : Nat) (a b : List ByteArray) (w : World) (q : Bool) (ha : Sv w N va a) (hb : Sv w M vb b) (hla : a.length ≤ 1000000) (hlb : b.length ≤ 1000000) (hq : meetB a b = q) :
    Calls Try.prog 88 #[va, vb, .func (.func 85) #[] #[]] w fun e w' => e = .returned (.bool q) ∧ w = w' := by
  obtain ⟨A, c, rfl, _, _, hra⟩ := ha
  obtain ⟨C, d, rfl, _, _, hrb⟩ := hb
  have HQ := Lib.hid hq; clear hq
  go_enter Try.func88, Try.ntmps88
  go_wp2
  go_loopw [8, 10, 13] (fun _ _ i wr => ∃ k : Nat, i = .int .i64 k ∧ k ≤ a.length ∧ meetB (a.take k) b = false ∧ w = wr) (fun _ _ i _ => a.length - (intOf i).toNat)
  case atStart => exact ⟨0, rfl, Nat.zero_le _, rfl, rfl⟩
  case round =>
    obtain ⟨k, rfl, hks, hn, rfl⟩ := hrel
    by_cases hk : k < a.length
    · obtain ⟨b0, off, rfl, _, hc⟩ := hra (by omega)
      have hcell := hc k hk
      have hsn := any_snoc' (fun x => isIn x b) a k hk
      have hn' : (a.take k).any (fun x => isIn x b) = false := hn
      rw [hn', Bool.false_or] at hsn
      generalize hx : a[k] = x at *
      have hxm : x ∈ a := hx ▸ List.getElem_mem _
      have HSN := Lib.hid hsn; have HXM := Lib.hid hxm
      clear hc hn hn' hra hx hsn hxm
      go_wp2
      go_loopw [10, 19] (fun _ i wr => ∃ j : Nat, i = .int .i64 j ∧ j ≤ b.length ∧ ¬ x ∈ b.take j ∧ w = wr) (fun _ i _ => b.length - (intOf i).toNat)
      case atStart => exact ⟨0, rfl, Nat.zero_le _, by simp, rfl⟩
      case round =>
        obtain ⟨j, rfl, hjs, hj0, rfl⟩ := hrel
        by_cases hj : j < b.length
        · obtain ⟨b1, off1, rfl, _, hc1⟩ := hrb (by omega)
          have hcell1 := hc1 j hj
          clear hc1 hrb
          by_cases he : x = b[j]
          · have HE := Lib.hid (decide_eq_true he)
            have HM := Lib.hid (show meetB a b = true from meet_iff.2 ⟨x, HXM.out, he ▸ List.getElem_mem _⟩)
            clear he hj0
            go_wp2_with (go_at_call 85; refine (equal1 x b[j] _ true HE.out).mono ?_; rintro r w3 ⟨rfl, rfl⟩)
            go_ret
            exact ⟨ret_bool (by rw [← HQ.out, HM.out]), rfl⟩
          · have HE := Lib.hid (decide_eq_false he)
            have HN := Lib.hid (in_snoc b x j hj hj0 (fun h => he h.symm))
            clear he hj0
            go_wp2_with (go_at_call 85; refine (equal1 x b[j] _ false HE.out).mono ?_; rintro r w3 ⟨rfl, rfl⟩)
            go_roundw
            case rel => exact ⟨j + 1, by go_num, by omega, HN.out, by trivial⟩
            case measure => simp [intOf]; omega
        · rw [List.take_of_length_le (by omega)] at hj0
          have HN := Lib.hid (isIn_no hj0)
          clear hj0
          go_wp2
          go_roundw
          case rel => exact ⟨k + 1, by go_num, by omega, by rw [show meetB (a.take (k + 1)) b = isIn x b from HSN.out]; exact HN.out, by trivial⟩
          case measure => simp [intOf]; omega
    · rw [List.take_of_length_le (by omega)] at hn
      have hq := HQ.out
      rw [hn] at hq
      subst hq
      clear hn
      go_wp2
      go_ret
      exact ⟨rfl, rfl⟩

theorem has12 (x : ByteArray) (y : Pw) (w : World) (q : Bool) (h : Sx w w.heap.size y) (hl : y.pe.at_.length ≤ 1000000) (hq : isIn x y.pe.at_ = q) :
    Calls Try.prog 87 #[.string x, perV y] w fun e w' => e = .returned (.bool q) ∧ Below w.heap.size w w' := by
  have hb := below_new12 w (perO y)
  have h1 : Sx (w.alloc (perO y)) w.heap.size y := h.below hb
  go_enter Try.func87, Try.ntmps87
  go_wp2_with (go_at_call 47; refine (among1 _ _ y.pe.at_ x _ q h1 hl hq).mono ?_; rintro r w3 ⟨rfl, rfl⟩)
  go_ret
  exact ⟨rfl, hb⟩
theorem ofOne1 (x y : Pw) (w : World) (q : Bool) (hq : decide (x.pe.el = y.pe.el) = q) :
    Calls Try.prog 83 #[perV x, perV y] w fun e w' => e = .returned (.bool q) ∧ Below w.heap.size w w' := by
  have h := (eq_of_toList (a := x.pe.el) (b := y.pe.el)).trans hq
  have hb := (below_new12 w (perO x)).trans ((below_new12 (w.alloc (perO x)) (perO y)).mono (below_new12 w (perO x)).size)
  go_enter Try.func83, Try.ntmps83
  go_wp2
  go_ret
  exact ⟨rfl, hb⟩

def meetSPB (a : List ByteArray) (l : List Pe) : Bool := a.any fun x => l.any fun p => isIn x p.at_
def meetPPB (a b : List Pe) : Bool := a.any fun x => b.any fun y => decide (x.el = y.el)
set_option maxRecDepth 100000 in
set_option maxHeartbeats 2000000 in
theorem meetSP (va vb : Value) (a : List ByteArray) (b : List Pw) (w : World) (q : Bool) (ha : Sv w w.heap.size va a) (hb : Pv w w.heap.size vb b) (hla : a.length ≤ 1000000) (hlb : b.length ≤ 1000000) (hlx : ∀ y ∈ b, y.pe.at_.length ≤ 1000000) (hq : meetSPB a (pes b) = q) :
    Calls Try.prog 89 #[va, vb, .func (.func 87) #[] #[]] w fun e w' => e = .returned (.bool q) ∧ Below w.heap.size w w' := by
  obtain ⟨A, c, rfl, _, _, hra⟩ := ha
  obtain ⟨C, d, rfl, _, _, hrb⟩ := hb
  have HQ := Lib.hid hq; have HLX := Lib.hid hlx; clear hq hlx
  go_enter Try.func89, Try.ntmps89
  go_wp2
  go_loopw [8, 10, 13] (fun _ _ i wr => ∃ k : Nat, i = .int .i64 k ∧ k ≤ a.length ∧ meetSPB (a.take k) (pes b) = false ∧ Below w.heap.size w wr) (fun _ _ i _ => a.length - (intOf i).toNat)
  case atStart => exact ⟨0, rfl, Nat.zero_le _, rfl, Below.refl _ _⟩
  case round =>
    obtain ⟨w5, hw5⟩ : ∃ x, x = wr := ⟨_, rfl⟩
    subst hw5
    obtain ⟨k, rfl, hks, hn, hbel⟩ := hrel
    by_cases hk : k < a.length
    · obtain ⟨b0, off, rfl, hb0, hc⟩ := hra (by omega)
      have hcell := (hbel.cell (p := ⟨b0, off + k, none⟩) hb0).trans (hc k hk)
      have hsn := any_snoc' (fun x => (pes b).any fun p => isIn x p.at_) a k hk
      have hn' : (a.take k).any (fun x => (pes b).any fun p => isIn x p.at_) = false := hn
      rw [hn', Bool.false_or] at hsn
      generalize hx : a[k] = x at *
      have hxm : x ∈ a := hx ▸ List.getElem_mem _
      have HSN := Lib.hid hsn; have HXM := Lib.hid hxm; have HB0 := Lib.hid hbel
      clear hc hn hn' hra hx hsn hxm hbel
      go_wp2
      go_loopw [10, 19] (fun _ i wr => ∃ j : Nat, i = .int .i64 j ∧ j ≤ b.length ∧ (b.take j).any (fun y => isIn x y.pe.at_) = false ∧ Below w.heap.size w wr) (fun _ i _ => b.length - (intOf i).toNat)
      case atStart => exact ⟨0, rfl, Nat.zero_le _, by simp, HB0.out⟩
      case round =>
        obtain ⟨j, rfl, hjs, hj0, hbel⟩ := hrel
        by_cases hj : j < b.length
        · obtain ⟨b1, off1, y, rfl, _, hy, hcs, hsy, hym⟩ := (hrb.below hbel).at_ j hj
          obtain ⟨g0, g1⟩ := range2p hcs
          have hsn2 := any_snoc (fun y => isIn x y.pe.at_) b j y hy
          rw [hj0, Bool.false_or] at hsn2
          have hsy1 : Sx (wr.alloc (perO y)) (wr.alloc (perO y)).heap.size y := Sx.boxed hsy hbel (perO y)
          have hb1 := hbel.trans ((below_new12 wr (perO y)).mono hbel.size)
          have hyl := HLX.out y hym
          clear hcs hsy hrb hj0 hbel
          cases he : isIn x y.pe.at_ with
          | true =>
            have HE := Lib.hid he
            have HM := Lib.hid (show meetSPB a (pes b) = true from any_yes _ a x HXM.out (any_yes _ (pes b) y.pe (List.mem_map.2 ⟨y, hym, rfl⟩) he))
            have HSY := Lib.hid hsy1; have HB1 := Lib.hid hb1
            clear he hsn2 hsy1 hb1
            go_wp2_with (go_at_call 87; refine (has12 x y _ true HSY.out hyl HE.out).mono ?_; rintro r w3 ⟨rfl, hb3⟩)
            go_ret
            exact ⟨ret_bool (by rw [← HQ.out, HM.out]), HB1.out.trans (hb3.mono HB1.out.size)⟩
          | false =>
            have HE := Lib.hid he
            rw [he] at hsn2
            have HN := Lib.hid hsn2
            have HSY := Lib.hid hsy1; have HB1 := Lib.hid hb1
            clear he hsn2 hsy1 hb1
            go_wp2_with (go_at_call 87; refine (has12 x y _ false HSY.out hyl HE.out).mono ?_; rintro r w3 ⟨rfl, hb3⟩)
            go_roundw
            case rel => exact ⟨j + 1, by go_num, by omega, HN.out, HB1.out.trans (hb3.mono HB1.out.size)⟩
            case measure => simp [intOf]; omega
        · rw [List.take_of_length_le (by omega)] at hj0
          have hj1 : (pes b).any (fun p => isIn x p.at_) = false := by unfold pes; rw [List.any_map]; exact hj0
          have HN := Lib.hid hj1; have HBL := Lib.hid hbel
          clear hj0 hj1 hbel
          go_wp2
          go_roundw
          case rel => exact ⟨k + 1, by go_num, by omega, by rw [show meetSPB (a.take (k + 1)) (pes b) = _ from HSN.out]; exact HN.out, HBL.out⟩
          case measure => simp [intOf]; omega
    · rw [List.take_of_length_le (by omega)] at hn
      have hq := HQ.out
      rw [hn] at hq
      subst hq
      have HBL := Lib.hid hbel
      clear hn hbel
      go_wp2
      go_ret
      exact ⟨rfl, HBL.out⟩

end Go.Proofs.Ytdjkeakagmgfgaa.Co

namespace Go.Proofs.Ytdjkeakagmgfgaa.Co
set_option maxRecDepth 100000
set_option linter.unusedVariables false
set_option linter.unusedSimpArgs false
open Go.RowKit Ba Fm Fo Nm Rk
set_option maxRecDepth 100000 in
set_option maxHeartbeats 2000000 in
theorem meetPP (va vb : Value) (a b : List Pw) (w : World) (q : Bool) (ha : Pv w w.heap.size va a) (hb : Pv w w.heap.size vb b) (hla : a.length ≤ 1000000) (hlb : b.length ≤ 1000000) (hq : meetPPB (pes a) (pes b) = q) :
    Calls Try.prog 107 #[va, vb, .func (.func 83) #[] #[]] w fun e w' => e = .returned (.bool q) ∧ Below w.heap.size w w' := by
  obtain ⟨A, c, rfl, _, _, hra⟩ := ha
  obtain ⟨C, d, rfl, _, _, hrb⟩ := hb
  have hq' : (a.any fun x => b.any fun y => decide (x.pe.el = y.pe.el)) = q := by
    rw [← hq]
    unfold meetPPB pes
    rw [List.any_map]
    congr 1
    funext x
    rw [Function.comp, List.any_map]
    rfl
  have HQ := Lib.hid hq'; clear hq hq'
  go_enter Try.func107, Try.ntmps107
  go_wp2
  go_loopw [8, 10, 13] (fun _ _ i wr => ∃ k : Nat, i = .int .i64 k ∧ k ≤ a.length ∧ ((a.take k).any fun x => b.any fun y => decide (x.pe.el = y.pe.el)) = false ∧ Below w.heap.size w wr) (fun _ _ i _ => a.length - (intOf i).toNat)
  case atStart => exact ⟨0, rfl, Nat.zero_le _, rfl, Below.refl _ _⟩
  case round =>
    obtain ⟨w5, hw5⟩ : ∃ x, x = wr := ⟨_, rfl⟩
    subst hw5
    obtain ⟨k, rfl, hks, hn, hbel⟩ := hrel
    by_cases hk : k < a.length
    · obtain ⟨b0, off, x, rfl, _, hx, hcs, hsx, hxm⟩ := (hra.below hbel).at_ k hk
      obtain ⟨g0, g1⟩ := range2p hcs
      have hsn := any_snoc (fun x => b.any fun y => decide (x.pe.el = y.pe.el)) a k x hx
      rw [hn, Bool.false_or] at hsn
      obtain ⟨w6, hw6⟩ : ∃ w6, w5.alloc (perO x) = w6 := ⟨_, rfl⟩
      have hb6 : Below w5.heap.size w5 w6 := hw6 ▸ below_new12 w5 (perO x)
      have hbk : ∀ j w3, Below w6.heap.size w6 w3 → w3.cell? ⟨w5.heap.size, j, none⟩ = (pcells x)[j]? := fun j w3 h => by subst hw6; exact pbox_kept h j
      have hz6 : w6.heap.size = w5.heap.size + 1 := by rw [← hw6]; simp
      have hB6 := hbel.trans (hb6.mono hbel.size)
      have HSN := Lib.hid hsn; have HXM := Lib.hid hxm; have HB6 := Lib.hid hB6; have HBK := Lib.hid hbk; have HW6 := Lib.hid hw6
      clear hcs hsx hn hra hx hsn hxm hbel hb6 hbk hB6 hw6
      go_wp2
      rw [HW6.out]
      go_loopw [10, 19] (fun _ i wr => ∃ j : Nat, i = .int .i64 j ∧ j ≤ b.length ∧ ((b.take j).any fun y => decide (x.pe.el = y.pe.el)) = false ∧ Below w6.heap.size w6 wr) (fun _ i _ => b.length - (intOf i).toNat)
      case atStart => exact ⟨0, rfl, Nat.zero_le _, by simp, Below.refl _ _⟩
      case round =>
        obtain ⟨j, rfl, hjs, hj0, hbel⟩ := hrel
        have hbel0 := HB6.out.trans (hbel.mono HB6.out.size)
        by_cases hj : j < b.length
        · obtain ⟨b1, off1, y, rfl, _, hy, hcs, hsy, hym⟩ := (hrb.below hbel0).at_ j hj
          obtain ⟨k0, k1⟩ := range2p hcs
          have hsn2 := any_snoc (fun y => decide (x.pe.el = y.pe.el)) b j y hy
          rw [hj0, Bool.false_or] at hsn2
          have hb1 := hbel.trans ((below_new12 wr (perO y)).mono hbel.size)
          have e0 : (wr.alloc (perO y)).cell? ⟨w5.heap.size, 0, none⟩ = some (.string x.pe.el) := HBK.out 0 _ hb1
          have e1 : (wr.alloc (perO y)).cell? ⟨w5.heap.size, 1, none⟩ = some (.slice x.A x.pe.at_.length x.c) := HBK.out 1 _ hb1
          clear hcs hrb hj0 hbel hbel0
          cases he : decide (x.pe.el = y.pe.el) with
          | true =>
            have HE := Lib.hid he
            have HM := Lib.hid (show (a.any fun x => b.any fun y => decide (x.pe.el = y.pe.el)) = true from any_yes _ a x HXM.out (any_yes _ b y hym he))
            have HB1 := Lib.hid hb1
            clear he hsn2 hb1 hsy
            go_wp2_with (go_at_call 83; refine (ofOne1 x y _ true HE.out).mono ?_; rintro r w3 ⟨rfl, hb3⟩)
            go_ret
            exact ⟨ret_bool (by rw [← HQ.out, HM.out]), HB6.out.trans ((HB1.out.trans (hb3.mono HB1.out.size)).mono HB6.out.size)⟩
          | false =>
            have HE := Lib.hid he
            rw [he] at hsn2
            have HN := Lib.hid hsn2
            have HB1 := Lib.hid hb1
            clear he hsn2 hb1 hsy
            go_wp2_with (go_at_call 83; refine (ofOne1 x y _ false HE.out).mono ?_; rintro r w3 ⟨rfl, hb3⟩)
            go_roundw
            case rel => exact ⟨j + 1, by go_num, by omega, HN.out, HB1.out.trans (hb3.mono HB1.out.size)⟩
            case measure => simp [intOf]; omega
        · rw [List.take_of_length_le (by omega)] at hj0
          have HN := Lib.hid hj0; have HBL := Lib.hid hbel0
          clear hj0 hbel hbel0
          go_wp2
          go_roundw
          case rel => exact ⟨k + 1, by go_num, by omega, by rw [HSN.out]; exact HN.out, HBL.out⟩
          case measure => simp [intOf]; omega
    · rw [List.take_of_length_le (by omega)] at hn
      have hq := HQ.out
      rw [hn] at hq
      subst hq
      have HBL := Lib.hid hbel
      clear hn hbel
      go_wp2
      go_ret
      exact ⟨rfl, HBL.out⟩

theorem once_snoc {l : List ByteArray} {k : Nat} (h : k < l.length) (hn : (l.take k).Nodup) (hm : l[k] ∉ l.take k) : (l.take (k + 1)).Nodup := by
  rw [List.take_succ_eq_append_getElem h, List.nodup_append]
  refine ⟨hn, by simp, fun x hx y hy e => ?_⟩
  rw [List.mem_singleton] at hy
  subst hy
  exact hm (e ▸ hx)
theorem once_no {l : List ByteArray} {k : Nat} (h : k < l.length) (hm : l[k] ∈ l.take k) : ¬ l.Nodup := fun hn => by
  rw [← List.take_append_drop k l, List.nodup_append] at hn
  exact hn.2.2 _ hm _ (by rw [List.drop_eq_getElem_cons h]; exact List.mem_cons_self) rfl
theorem meet_one (a : List ByteArray) (x : ByteArray) : meetB a [x] = isIn x a := by
  rw [Bool.eq_iff_iff, meet_iff, isIn_iff]
  constructor
  · rintro ⟨y, h1, h2⟩
    rw [List.mem_singleton] at h2
    exact h2 ▸ h1
  · exact fun h => ⟨x, h, List.mem_singleton.2 rfl⟩
theorem sv_one {w : World} {N b off c k : Nat} {l : List ByteArray} (hr : Rd w N (some ⟨b, off, none⟩) l) (hk : k < l.length) (hc : l.length ≤ c) : Sv w N (.slice (some ⟨b, off + k, none⟩) 1 (c - k)) [l[k]] := by
  refine ⟨_, _, rfl, by simp; omega, (fun e => by cases e), fun _ => ?_⟩
  obtain ⟨b', o', e, hb, hcc⟩ := hr (by omega)
  injection e with e
  injection e with e1 e2
  subst e1 e2
  exact ⟨b, off + k, rfl, hb, fun j hj => by
    have : j = 0 := by simpa using hj
    subst this
    exact hcc k hk⟩
set_option maxRecDepth 100000 in
set_option maxHeartbeats 2000000 in
theorem twiceS (v : Value) (l : List ByteArray) (w : World) (q : Bool) (h : Sv w w.heap.size v l) (hl : l.length ≤ 1000000) (hq : (!onceB l) = q) :
    Calls Try.prog 84 #[v, .func (.func 85) #[] #[]] w fun e w' => e = .returned (.bool q) ∧ Below w.heap.size w w' := by
  obtain ⟨A, c, rfl, hlc, hna, hr⟩ := h
  have HQ := Lib.hid hq; clear hq
  go_enter Try.func84, Try.ntmps84
  go_wp2
  go_loopw [5, 8] (fun _ i wr => ∃ k : Nat, i = .int .i64 k ∧ k ≤ l.length ∧ (l.take k).Nodup ∧ Below w.heap.size w wr) (fun _ i _ => l.length - (intOf i).toNat)
  case atStart => exact ⟨0, rfl, Nat.zero_le _, by simp, Below.refl _ _⟩
  case round =>
    obtain ⟨k, rfl, hks, hn, hbel⟩ := hrel
    by_cases hk : k < l.length
    · obtain ⟨b0, off, rfl, hb0, _⟩ := hr (by omega)
      have hr1 := hr.below hbel (Nat.le_refl _)
      have h1 : Sv wr w.heap.size (.slice (some ⟨b0, off, none⟩) k c) (l.take k) := ⟨_, c, by rw [List.length_take, Nat.min_eq_left hks], by rw [List.length_take]; omega, hna, hr1.take k⟩
      have h2 := sv_one hr1 hk hlc
      obtain ⟨m, hm⟩ : ∃ m, isIn l[k] (l.take k) = m := ⟨_, rfl⟩
      have hmq : ∀ n, Calls Try.prog 88 #[.slice (some ⟨b0, off, none⟩) k c, .slice (some ⟨b0, off + k, none⟩) 1 (c - k), .func (.func 85) #[] #[]] (wr.drewN n) fun e w'' => e = .returned (.bool m) ∧ ∃ m, w'' = wr.drewN m := fun n => (meetSS _ _ _ _ (l.take k) [l[k]] (wr.drewN n) m h1 h2 (by rw [List.length_take]; omega) (by simp) ((meet_one _ _).trans hm)).mono fun e w' ⟨he, hw⟩ => ⟨he, n, hw.symm⟩
      have HM := Lib.hid hmq; have HI := Lib.hid hm; have HN := Lib.hid hn
      clear hmq h1 h2 hm hn hr hr1
      have hk0 : (0 : Int) ≤ (k : Int) := by omega
      have hk1 : (k : Int) ≤ (c : Int) := by omega
      have hck : ¬ c = k := by omega
      obtain ⟨j, hj⟩ : ∃ j, k + 1 = j := ⟨_, rfl⟩
      have hj1 : IntKind.i64.wrap ((k : Int) + 1) = (j : Int) := by rw [← hj]; exact IntWalk.i64_in _ (by omega)
      have hj2 : (j : Int) ≤ (c : Int) := by omega
      have hj3 : (k : Int) ≤ (j : Int) := by omega
      have hj4 : j - k = 1 := by omega
      have HJ := Lib.hid hj
      clear hj
      cases m with
      | true =>
        have hq : true = q := by rw [← HQ.out, show onceB l = false from decide_eq_false (once_no hk (isIn_of HI.out))]; rfl
        subst hq
        go_wp2
        go_quiet ((go_at_call 88; exact HM.out _))
        go_wp2
        go_ret
        exact ⟨rfl, below_dN hbel _⟩
      | false =>
        have HN1 := Lib.hid (once_snoc hk HN.out (notIn_of HI.out))
        clear hck hj2 hj3 hj4
        have hck : ¬ c = k := by omega
        have hj2 : (j : Int) ≤ (c : Int) := by have := HJ.out; omega
        have hj3 : (k : Int) ≤ (j : Int) := by have := HJ.out; omega
        have hj4 : j - k = 1 := by have := HJ.out; omega
        go_wp2
        go_quiet ((go_at_call 88; exact HM.out _))
        go_wp2
        go_roundw
        case rel => exact ⟨k + 1, by rw [HJ.out], by omega, HN1.out, below_dN hbel _⟩
        case measure => have := HJ.out; simp [intOf]; omega
    · rw [List.take_of_length_le (by omega)] at hn
      have hq : false = q := by rw [← HQ.out, show onceB l = true from decide_eq_true hn]; rfl
      subst hq
      go_wp2
      go_ret
      exact ⟨rfl, hbel⟩

theorem meetPP_one (a : List Pe) (x : Pe) : meetPPB a [x] = isIn x.el (a.map Pe.el) := by
  rw [Bool.eq_iff_iff, isIn_iff, List.mem_map]
  unfold meetPPB
  rw [List.any_eq_true]
  constructor
  · rintro ⟨y, h1, h2⟩
    simp only [List.any_cons, List.any_nil, Bool.or_false, decide_eq_true_eq] at h2
    exact ⟨y, h1, h2⟩
  · rintro ⟨y, h1, h2⟩
    exact ⟨y, h1, by simp [h2]⟩
theorem pv_one {w : World} {N b off c k : Nat} {l : List Pw} (hr : Pr w N (some ⟨b, off, none⟩) l) (hk : k < l.length) (hc : l.length ≤ c) : Pv w N (.slice (some ⟨b, off + k * 2, none⟩) 1 (c - k)) [l[k]] := by
  refine ⟨_, _, rfl, by simp; omega, (fun e => by cases e), fun _ => ?_, fun x hx => ?_⟩
  · obtain ⟨b', o', e, hb, hcc⟩ := hr.1 (by omega)
    injection e with e
    injection e with e1 e2
    subst e1 e2
    exact ⟨b, off + k * 2, rfl, hb, fun j hj => by
      have : j = 0 := by simpa using hj
      subst this
      exact hcc k hk⟩
  · rw [List.mem_singleton] at hx
    subst hx
    exact hr.2 _ (List.getElem_mem _)
theorem pv_take {w : World} {N c k : Nat} {A : Option Addr} {l : List Pw} (hr : Pr w N A l) (hk : k ≤ l.length) (hc : l.length ≤ c) (hn : A = none → c = 0) : Pv w N (.slice A k c) (l.take k) := by
  refine ⟨A, c, by rw [List.length_take, Nat.min_eq_left hk], by rw [List.length_take]; omega, hn, fun h0 => ?_, fun x hx => hr.2 x (List.mem_of_mem_take hx)⟩
  rw [List.length_take] at h0
  obtain ⟨b, off, e, hb, hcc⟩ := hr.1 (by omega)
  refine ⟨b, off, e, hb, fun j hj => ?_⟩
  rw [List.length_take] at hj
  rw [List.getElem_take]
  exact hcc j (by omega)
set_option maxRecDepth 100000 in
set_option maxHeartbeats 2000000 in
theorem twiceP (v : Value) (l : List Pw) (w : World) (q : Bool) (h : Pv w w.heap.size v l) (hl : l.length ≤ 1000000) (hq : (!onceB ((pes l).map Pe.el)) = q) :
    Calls Try.prog 86 #[v, .func (.func 83) #[] #[]] w fun e w' => e = .returned (.bool q) ∧ Below w.heap.size w w' := by
  obtain ⟨A, c, rfl, hlc, hna, hr⟩ := h
  have HQ := Lib.hid hq; clear hq
  obtain ⟨es, hes⟩ : ∃ es, es = (pes l).map Pe.el := ⟨_, rfl⟩
  have hel : es.length = l.length := by rw [hes, List.length_map, len_pes]
  have htk : ∀ k, es.take k = (pes (l.take k)).map Pe.el := fun k => by rw [hes, ← pes_take, List.map_take]
  have hat : ∀ k (h : k < l.length), es[k]? = some l[k].pe.el := fun k h => by subst hes; simp [pes, h]
  have HE := Lib.hid hel; have HT := Lib.hid htk; have HA := Lib.hid hat
  rw [← hes] at HQ
  clear hes hel htk hat
  go_enter Try.func86, Try.ntmps86
  go_wp2
  go_loopw [5, 8] (fun _ i wr => ∃ k : Nat, i = .int .i64 k ∧ k ≤ l.length ∧ (es.take k).Nodup ∧ Below w.heap.size w wr) (fun _ i _ => l.length - (intOf i).toNat)
  case atStart => exact ⟨0, rfl, Nat.zero_le _, by simp, Below.refl _ _⟩
  case round =>
    obtain ⟨k, rfl, hks, hn, hbel⟩ := hrel
    by_cases hk : k < l.length
    · obtain ⟨b0, off, rfl, hb0, _⟩ := hr.1 (by omega)
      have hr1 := (hr.below hbel).more hbel.size
      have h1 : Pv wr wr.heap.size (.slice (some ⟨b0, off, none⟩) k c) (l.take k) := pv_take hr1 hks hlc hna
      have h2 := pv_one hr1 hk hlc
      obtain ⟨m, hm⟩ : ∃ m, isIn l[k].pe.el (es.take k) = m := ⟨_, rfl⟩
      have hmm : meetPPB (pes (l.take k)) (pes [l[k]]) = m := by
        rw [← hm, HT.out]
        exact meetPP_one _ _
      have HMC := Lib.hid (fun (wx : World) (hb : Below wr.heap.size wr wx) => meetPP _ _ (l.take k) [l[k]] wx m (h1.on hb) (h2.on hb) (by rw [List.length_take]; omega) (by simp) hmm)
      have HI := Lib.hid hm; have HN := Lib.hid hn
      clear h1 h2 hm hn hr hr1 hmm
      have hk0 : (0 : Int) ≤ (k : Int) := by omega
      have hk1 : (k : Int) ≤ (c : Int) := by omega
      have hck : ¬ c = k := by omega
      obtain ⟨j, hj⟩ : ∃ j, k + 1 = j := ⟨_, rfl⟩
      have hj1 : IntKind.i64.wrap ((k : Int) + 1) = (j : Int) := by rw [← hj]; exact IntWalk.i64_in _ (by omega)
      have hj2 : (j : Int) ≤ (c : Int) := by omega
      have hj3 : (k : Int) ≤ (j : Int) := by omega
      have hj4 : j - k = 1 := by omega
      have HJ := Lib.hid hj; have HBL := Lib.hid hbel
      clear hj hbel
      cases m with
      | true =>
        have hq : true = q := by rw [← HQ.out, show onceB es = false from decide_eq_false (once_no (k := k) (by have := HE.out; omega) (by rw [(List.getElem?_eq_some_iff.1 (HA.out k hk)).2]; exact isIn_of HI.out))]; rfl
        subst hq
        go_wp2
        go_region_with (go_at_call 107; refine (HMC.out _ (by exact bel_eq12 (Below.refl _ wr) rfl rfl rfl rfl)).mono ?_; rintro e w3 ⟨rfl, hb3⟩)
        all_goals go_wp2
        all_goals go_ret
        all_goals exact ⟨rfl, HBL.out.trans ((Below.refl _ wr).drew.trans (hb3.mono HBL.out.size))⟩
      | false =>
        have HN1 := Lib.hid (once_snoc (l := es) (k := k) (by have := HE.out; omega) HN.out (by rw [(List.getElem?_eq_some_iff.1 (HA.out k hk)).2]; exact notIn_of HI.out))
        go_wp2
        go_region_with (go_at_call 107; refine (HMC.out _ (by exact bel_eq12 (Below.refl _ wr) rfl rfl rfl rfl)).mono ?_; rintro e w3 ⟨rfl, hb3⟩)
        all_goals go_wp2
        all_goals go_roundw
        case rel => exact ⟨k + 1, by rw [HJ.out], by omega, HN1.out, HBL.out.trans ((Below.refl _ wr).drew.trans (hb3.mono HBL.out.size))⟩
        case measure => have := HJ.out; simp [intOf]; omega
    · rw [List.take_of_length_le (by have := HE.out; omega)] at hn
      have hq : false = q := by rw [← HQ.out, show onceB es = true from decide_eq_true hn]; rfl
      subst hq
      go_wp2
      go_ret
      exact ⟨rfl, hbel⟩

end Go.Proofs.Ytdjkeakagmgfgaa.Co

namespace Go.Proofs.Ytdjkeakagmgfgaa.Co
set_option maxRecDepth 100000
set_option linter.unusedVariables false
set_option linter.unusedSimpArgs false
open Go.RowKit Ba Fm Fo Nm Rk
theorem rd_ne {w : World} {N g : Nat} {A : Option Addr} {l : List ByteArray} (h : Rd w N A l) (h1 : N ≤ w.heap.size) (h2 : N ≤ g) :
    0 < l.length → ∃ b0 off, A = some ⟨b0, off, none⟩ ∧ b0 < w.heap.size ∧ b0 ≠ g ∧ ∀ j (h : j < l.length), w.cell? ⟨b0, off + j, none⟩ = some (.string l[j]) := fun h0 => by
  obtain ⟨b, off, e, hb, hc⟩ := h h0
  exact ⟨b, off, e, by omega, by omega, hc⟩
/-- mis_R and mis_T at a value that reads as names. -/
theorem mis_R1 (v : Value) (N : Nat) (l : List ByteArray) (w : World) (g : Nat) (b q : Bool) (h : Sv w N v l) (hN : N ≤ w.heap.size) (hg0 : N ≤ g) (hl : l.length ≤ 1000000) (hsz : ∀ s ∈ l, s.size ≤ 140737488355328) (hg : Bb w g b) (hq : (b || !l.all rightB) = q) :
    Calls Try.prog 80 #[.func (.func 81) #[] #[], v, .pointer (some ⟨g, 0, none⟩)] w fun r w' => r = .returned (.tuple #[]) ∧ Bb w' g q ∧ w.grownBy w' (some g) := by
  obtain ⟨A, c, rfl, _, _, hr⟩ := h
  subst hq
  exact mis_R A c l w g b (rd_ne hr hN hg0) hl hsz hg
theorem mis_T1 (v : Value) (N : Nat) (l : List ByteArray) (w : World) (g : Nat) (b q : Bool) (h : Sv w N v l) (hN : N ≤ w.heap.size) (hg0 : N ≤ g) (hl : l.length ≤ 1000000) (hsz : ∀ s ∈ l, s.size ≤ 140737488355328) (hg : Bb w g b) (hq : (b || !l.all Nm.attrB) = q) :
    Calls Try.prog 80 #[.func (.func 82) #[] #[], v, .pointer (some ⟨g, 0, none⟩)] w fun r w' => r = .returned (.tuple #[]) ∧ Bb w' g q ∧ w.grownBy w' (some g) := by
  obtain ⟨A, c, rfl, _, _, hr⟩ := h
  subst hq
  exact mis_T A c l w g b (rd_ne hr hN hg0) hl hsz hg
/-- One name, in a block of its own. -/
theorem mis_R2 (s : ByteArray) (w : World) (g : Nat) (b q : Bool) (hsz : s.size ≤ 140737488355328) (hg : Bb w g b) (hq : (b || !rightB s) = q) :
    Calls Try.prog 80 #[.func (.func 81) #[] #[], .slice (some ⟨w.heap.size, 0, none⟩) 1 1, .pointer (some ⟨g, 0, none⟩)] (w.alloc (.cells #[.string s] 9)) fun r w' => r = .returned (.tuple #[]) ∧ Bb w' g q ∧ w.grownBy w' (some g) := by
  subst hq
  have hgl := hg.lt
  refine (mis_R (some ⟨w.heap.size, 0, none⟩) 1 [s] (w.alloc (.cells #[.string s] 9)) g b (fun _ => ⟨w.heap.size, 0, rfl, by simp, by omega, fun j hj => ?_⟩) (by simp) (fun t ht => by rw [List.mem_singleton] at ht; rw [ht]; exact hsz) (hg.below (below_new12 w _))).mono ?_
  · have : j = 0 := by simpa using hj
    subst this
    rw [World.cell?_alloc_mark]
    rfl
  · rintro r w' ⟨rfl, h1, h2⟩
    refine ⟨rfl, by simpa using h1, (World.grownBy_alloc w _ _).trans h2⟩
theorem all_snocP (p : Pw → Bool) (l : List Pw) (k : Nat) (x : Pw) (h : l[k]? = some x) : (l.take (k + 1)).all p = ((l.take k).all p && p x) := by
  have hk : k < l.length := (List.getElem?_eq_some_iff.1 h).1
  have hx : l[k] = x := (List.getElem?_eq_some_iff.1 h).2
  rw [List.take_succ_eq_append_getElem hk, List.all_append, hx]
  simp
set_option maxRecDepth 100000 in
set_option maxHeartbeats 4000000 in
theorem misnames1 (v : Value) (c : Cf) (w : World) (q : Bool) (h : Cv w w.heap.size v c) (hs : Sm c) (hq : (!namesB c) = q) :
    Calls Try.prog 57 #[v] w fun r w' => r = .returned (.bool q) ∧ Below w.heap.size w w' := by
  have hmf : ∀ (fn : Fn) (first cap : Array Value) (w : World), (Instr.makeFunc fn first cap).run Try.prog w = .ok (.func fn first cap) w := fun _ _ _ _ => rfl
  obtain ⟨vE, vR, vA, vP, l, rfl, h⟩ := h
  obtain ⟨w0, hw0⟩ : ∃ w0, (w.alloc (confO c vE vR vA vP)).alloc (.cells #[.bool false] 4) = w0 := ⟨_, rfl⟩
  have hba : Below w.heap.size w (w.alloc (confO c vE vR vA vP)) := below_new12 w _
  have hb1 : Below w.heap.size w w0 := hw0 ▸ hba.trans ((below_new12 _ _).mono hba.size)
  have hbx : Bx w0 w.heap.size c vE vR vA vP := hw0 ▸ (Bx.new w c vE vR vA vP).below (below_new12 _ _) (by simp)
  have hbb : Bb w0 (w.heap.size + 1) false := by
    rw [← hw0]
    unfold Bb
    have := heap_alloc_new (w.alloc (confO c vE vR vA vP)) (.cells #[.bool false] 4)
    rwa [World.size_alloc] at this
  have hz : w0.heap.size = w.heap.size + 2 := by rw [← hw0]; simp
  obtain ⟨A, cp, rfl, hcp, hna, hr⟩ := h.p
  have hpl : c.per.length = l.length := by rw [← h.m, len_pes]
  have hl : l.length ≤ 1000 := by have := hs.p; omega
  have hlen : ∀ x ∈ l, x.pe.at_.length ≤ 1000 ∧ x.pe.el.size ≤ 140737488355328 ∧ ∀ s ∈ x.pe.at_, s.size ≤ 140737488355328 := fun x hx => by
    have hm : x.pe ∈ c.per := by rw [← h.m]; exact List.mem_map.2 ⟨x, hx, rfl⟩
    exact ⟨hs.pa _ hm, hs.ps _ hm⟩
  obtain ⟨b1, hb1'⟩ : ∃ b, (false || !c.els.all rightB) = b := ⟨_, rfl⟩
  obtain ⟨b2, hb2'⟩ : ∃ b, (b1 || !c.reps.all rightB) = b := ⟨_, rfl⟩
  obtain ⟨b3, hb3'⟩ : ∃ b, (b2 || !c.ats.all Nm.attrB) = b := ⟨_, rfl⟩
  have hfin : (b3 || !l.all fun x => rightB x.pe.el && x.pe.at_.all Nm.attrB) = q := by
    rw [← hq, ← hb3', ← hb2', ← hb1']
    unfold namesB
    rw [← h.m]
    unfold pes
    rw [List.all_map]
    simp only [Bool.not_and, Bool.false_or]
    rfl
  have HQ := Lib.hid hfin; have HLEN := Lib.hid hlen; have HW := Lib.hid hw0; have HB1 := Lib.hid hb1; have HR := Lib.hid hr
  -- what stays under a growth of the truth's block
  have hst : ∀ wx, w0.grownBy wx (some (w.heap.size + 1)) → Below w.heap.size w wx := fun wx hg => hb1.grown hg (by omega) (fun k hk => by injection hk with hk; omega)
  have hbox : ∀ wx, w0.grownBy wx (some (w.heap.size + 1)) → Bx wx w.heap.size c vE vR vA (.slice A l.length cp) := fun wx hg j u hu => (World.cell?_of_block (a := ⟨w.heap.size, 0 + j, none⟩) (hg.block _ (by show w.heap.size < _; omega) (by simp))).trans (hbx j u hu)
  have HST := Lib.hid hst; have HBX := Lib.hid hbox; have HBB := Lib.hid hbb
  have HE := Lib.hid (fun wx hg hb => mis_R1 vE w.heap.size c.els wx (w.heap.size + 1) false b1 (h.e.below (hst wx hg) (Nat.le_refl _)) (hst wx hg).size (Nat.le_succ _) (by have := hs.e; omega) hs.es hb hb1')
  have HRR := Lib.hid (fun wx hg hb => mis_R1 vR w.heap.size c.reps wx (w.heap.size + 1) b1 b2 (h.r.below (hst wx hg) (Nat.le_refl _)) (hst wx hg).size (Nat.le_succ _) (by have := hs.r; omega) hs.rs hb hb2')
  have HAA := Lib.hid (fun wx hg hb => mis_T1 vA w.heap.size c.ats wx (w.heap.size + 1) b2 b3 (h.a.below (hst wx hg) (Nat.le_refl _)) (hst wx hg).size (Nat.le_succ _) (by have := hs.a; omega) hs.as_ hb hb3')
  have g2 := (hbox w0 (World.grownBy.refl _ _)).at_.2.2.1
  clear hq hfin hlen hs h hpl hr hb1 hbx hbb hst hbox hb1' hb2' hb3' hba hw0
  go_enter Try.func57, Try.ntmps57
  go_upto_region 3 with (fail)
  rw [HW.out]
  go_wp2_with fail
  refine (HE.out w0 (World.grownBy.refl _ _) HBB.out).mono ?_
  rintro r w1 ⟨rfl, hbb1, hg1⟩
  have g3 := (HBX.out w1 hg1).at_.2.2.2.1
  clear g2
  have HBB1 := Lib.hid hbb1; have HG1 := Lib.hid hg1; clear hbb1 hg1
  go_wp2_with fail
  refine (HRR.out w1 HG1.out HBB1.out).mono ?_
  rintro r w2 ⟨rfl, hbb2, hg2⟩
  have HBB2 := Lib.hid hbb2; have HG2 := Lib.hid (HG1.out.trans hg2); clear hbb2 hg2 g3
  have g4 := (HBX.out w2 HG2.out).at_.2.2.2.2.1
  go_wp2_with fail
  refine (HAA.out w2 HG2.out HBB2.out).mono ?_
  rintro r w3 ⟨rfl, hbb3, hg3⟩
  have HBB3 := Lib.hid hbb3; have HG3 := Lib.hid (HG2.out.trans hg3); clear hbb3 hg3 g4
  have g5 := (HBX.out w3 HG3.out).at_.2.2.2.2.2.1
  clear hmf
  go_wp2
  clear g5
  go_loopw [6, 23] (fun _ i wr => ∃ k : Nat, i = .int .i64 k ∧ k ≤ l.length ∧ Bb wr (w.heap.size + 1) (b3 || !(l.take k).all fun x => rightB x.pe.el && x.pe.at_.all Nm.attrB) ∧ w0.grownBy wr (some (w.heap.size + 1))) (fun _ i _ => l.length - (intOf i).toNat)
  case atStart => exact ⟨0, rfl, Nat.zero_le _, by simpa using HBB3.out, HG3.out⟩
  case round =>
    obtain ⟨k, rfl, hks, hn, hgr⟩ := hrel
    by_cases hk : k < l.length
    · have hbel := HST.out wr hgr
      obtain ⟨b, off, x, rfl, hb, hx, hcs, hsx, hxm⟩ := (HR.out.below hbel).at_ k hk
      obtain ⟨k0, k1⟩ := range2p hcs
      obtain ⟨hx1, hx2, hx3⟩ := HLEN.out x hxm
      have hsn := all_snocP (fun x => rightB x.pe.el && x.pe.at_.all Nm.attrB) l k x hx
      obtain ⟨t, ht⟩ : ∃ t, (b3 || !(l.take k).all fun x => rightB x.pe.el && x.pe.at_.all Nm.attrB) = t := ⟨_, rfl⟩
      rw [ht] at hn
      obtain ⟨t1, ht1⟩ : ∃ t1, (t || !rightB x.pe.el) = t1 := ⟨_, rfl⟩
      obtain ⟨t2, ht2⟩ : ∃ t2, (t1 || !x.pe.at_.all Nm.attrB) = t2 := ⟨_, rfl⟩
      have hsn2 : (b3 || !(l.take (k + 1)).all fun x => rightB x.pe.el && x.pe.at_.all Nm.attrB) = t2 := by
        rw [hsn, ← ht2, ← ht1, ← ht]
        cases b3 <;> cases ((l.take k).all fun x => rightB x.pe.el && x.pe.at_.all Nm.attrB) <;> cases rightB x.pe.el <;> cases x.pe.at_.all Nm.attrB <;> rfl
      have hgr1 := hgr.trans (World.grownBy_alloc wr (perO x) (some (w.heap.size + 1)))
      have hz1 : w.heap.size ≤ wr.heap.size := hbel.size
      have hgne : ¬ wr.heap.size = w.heap.size + 1 := by have := hgr.size; omega
      have hpx : ∀ wx, (wr.alloc (perO x)).grownBy wx (some (w.heap.size + 1)) → wx.cell? ⟨wr.heap.size, 1, none⟩ = some (.slice x.A x.pe.at_.length x.c) := fun wx hg => (World.cell?_of_block (a := ⟨wr.heap.size, 1, none⟩) (hg.block _ (by simp) (by simpa using hgne))).trans (pbox_at wr x 1)
      have HPX := Lib.hid hpx
      have hR2 := mis_R2 x.pe.el (wr.alloc (perO x)) (w.heap.size + 1) t t1 hx2 (hn.below (below_new12 wr (perO x))) ht1
      rw [World.size_alloc] at hR2
      have HR2 := Lib.hid hR2
      clear hR2
      have hbw : ∀ wx, (wr.alloc (perO x)).grownBy wx (some (w.heap.size + 1)) → Below w.heap.size wr wx := fun wx hg => ((Below.refl w.heap.size wr).alloc hz1 _).grown hg (by simp; omega) (fun k hk => by injection hk with hk; omega)
      have HT2 := Lib.hid (fun wx (hg : (wr.alloc (perO x)).grownBy wx (some (w.heap.size + 1))) hb => mis_T1 (.slice x.A x.pe.at_.length x.c) w.heap.size x.pe.at_ wx (w.heap.size + 1) t1 t2 (hsx.below (hbw wx hg) (Nat.le_refl _)) (HST.out wx (hgr1.trans hg)).size (Nat.le_succ _) (by omega) hx3 hb ht2)
      have HSN := Lib.hid hsn2; have HGR := Lib.hid hgr1
      clear hcs hsx hsn hsn2 hgr hgr1 hn ht ht1 ht2 hbel hpx hx3 hx2 hbw
      go_wp2_with fail
      refine HR2.out.mono ?_
      rintro r w4 ⟨rfl, hbb4, hg4⟩
      have p1 := HPX.out w4 hg4
      have HB4 := Lib.hid hbb4; have HG4 := Lib.hid hg4
      clear hbb4 hg4
      go_wp2_with fail
      refine (HT2.out w4 HG4.out HB4.out).mono ?_
      rintro r w5 ⟨rfl, hbb5, hg5⟩
      have HB5 := Lib.hid hbb5; have HG5 := Lib.hid (HGR.out.trans (HG4.out.trans hg5))
      clear hbb5 hg5
      go_wp2
      go_roundw
      case rel => exact ⟨k + 1, by go_num, by omega, by rw [HSN.out]; exact HB5.out, HG5.out⟩
      case measure => simp [intOf]; omega
    · rw [List.take_of_length_le (by omega), HQ.out] at hn
      have g0 := hn.cell
      have HBL := Lib.hid (HST.out wr hgr)
      clear hn hgr
      go_wp2
      go_ret
      exact ⟨rfl, HBL.out⟩

set_option maxRecDepth 100000 in
set_option maxHeartbeats 4000000 in
theorem repeats1 (v : Value) (c : Cf) (w : World) (q : Bool) (h : Cv w w.heap.size v c) (hs : Sm c) (hq : (!singleB c) = q) :
    Calls Try.prog 58 #[v] w fun r w' => r = .returned (.bool q) ∧ Below w.heap.size w w' := by
  obtain ⟨vE, vR, vA, vP, l, rfl, h⟩ := h
  obtain ⟨w0, hw0⟩ : ∃ w0, w.alloc (confO c vE vR vA vP) = w0 := ⟨_, rfl⟩
  have hb1 : Below w.heap.size w w0 := hw0 ▸ below_new12 w (confO c vE vR vA vP)
  have hbx : Bx w0 w.heap.size c vE vR vA vP := hw0 ▸ Bx.new w c vE vR vA vP
  have hz : w.heap.size < w0.heap.size := by rw [← hw0]; simp
  have h0 := h.on hb1
  obtain ⟨A, cp, rfl, hcp, hna, hr⟩ := h0.p
  have hpl : c.per.length = l.length := by rw [← h.m, len_pes]
  have hl : l.length ≤ 1000 := by have := hs.p; omega
  have hlen : ∀ x ∈ l, x.pe.at_.length ≤ 1000 := fun x hx => hs.pa _ (by rw [← h.m]; exact List.mem_map.2 ⟨x, hx, rfl⟩)
  obtain ⟨e1, he1⟩ : ∃ b, (!onceB c.els) = b := ⟨_, rfl⟩
  obtain ⟨e2, he2⟩ : ∃ b, (!onceB c.reps) = b := ⟨_, rfl⟩
  obtain ⟨e3, he3⟩ : ∃ b, (!onceB c.ats) = b := ⟨_, rfl⟩
  obtain ⟨e4, he4⟩ : ∃ b, (!onceB ((pes l).map Pe.el)) = b := ⟨_, rfl⟩
  have hfin : ((l.any fun x => !onceB x.pe.at_) || (e1 || e2 || e3 || e4)) = q := by
    rw [← hq, ← he1, ← he2, ← he3, ← he4]
    unfold singleB
    rw [← h.m]
    unfold pes
    rw [List.all_map, List.any_eq_not_all_not, show (l.all ((fun p => onceB p.at_) ∘ Pw.pe)) = l.all fun x => onceB x.pe.at_ from rfl]
    simp only [Bool.not_not]
    cases onceB c.els <;> cases onceB c.reps <;> cases onceB c.ats <;> cases onceB ((l.map Pw.pe).map Pe.el) <;> cases (l.all fun x => onceB x.pe.at_) <;> rfl
  have HQ := Lib.hid hfin; have HLEN := Lib.hid hlen; have HW := Lib.hid hw0; have HB1 := Lib.hid hb1; have HR := Lib.hid hr
  have HBX := Lib.hid (fun wx (hb : Below w0.heap.size w0 wx) => hbx.below hb hz)
  have HE := Lib.hid (fun wx hb => twiceS vE c.els wx e1 (sv_on h0.e hb) (by have := hs.e; omega) he1)
  have HRR := Lib.hid (fun wx hb => twiceS vR c.reps wx e2 (sv_on h0.r hb) (by have := hs.r; omega) he2)
  have HAA := Lib.hid (fun wx hb => twiceS vA c.ats wx e3 (sv_on h0.a hb) (by have := hs.a; omega) he3)
  have HPP := Lib.hid (fun wx hb => twiceP (.slice A l.length cp) l wx e4 (h0.p.on hb) (by omega) he4)
  clear hq hfin hlen hs h h0 hpl hr hb1 hbx he1 he2 he3 he4 hw0
  go_enter Try.func58, Try.ntmps58
  go_wp2
  rw [HW.out]
  go_loopw [5, 9] (fun _ i wr => ∃ k : Nat, i = .int .i64 k ∧ k ≤ l.length ∧ ((l.take k).any fun x => !onceB x.pe.at_) = false ∧ Below w0.heap.size w0 wr) (fun _ i _ => l.length - (intOf i).toNat)
  case atStart => exact ⟨0, rfl, Nat.zero_le _, rfl, Below.refl _ _⟩
  case round =>
    obtain ⟨k, rfl, hks, hn, hbel⟩ := hrel
    by_cases hk : k < l.length
    · obtain ⟨b, off, x, rfl, hb, hx, hcs, hsx, hxm⟩ := (HR.out.below hbel).at_ k hk
      obtain ⟨k0, k1⟩ := range2p hcs
      have hx1 := HLEN.out x hxm
      have hsn := any_snoc (fun x : Pw => !onceB x.pe.at_) l k x hx
      rw [hn, Bool.false_or] at hsn
      obtain ⟨t, ht⟩ : ∃ t, (!onceB x.pe.at_) = t := ⟨_, rfl⟩
      rw [ht] at hsn
      have hsx1 : Sx (wr.alloc (perO x)) (wr.alloc (perO x)).heap.size x := Sx.boxed hsx hbel (perO x)
      have HT := Lib.hid (twiceS (.slice x.A x.pe.at_.length x.c) x.pe.at_ _ t hsx1 (by omega) ht)
      have HSN := Lib.hid hsn; have HBL := Lib.hid (hbel.trans ((below_new12 wr (perO x)).mono hbel.size))
      clear hcs hsx hsx1 hsn hn hbel
      cases t with
      | true =>
        have HM := Lib.hid (any_yes (fun x : Pw => !onceB x.pe.at_) l x hxm ht)
        clear ht
        go_wp2_with fail
        refine HT.out.mono ?_
        rintro r w3 ⟨rfl, hb3⟩
        go_wp2
        go_ret
        exact ⟨ret_bool (by rw [← HQ.out, HM.out]; rfl), HB1.out.trans ((HBL.out.trans (hb3.mono HBL.out.size)).mono HB1.out.size)⟩
      | false =>
        clear ht
        go_wp2_with fail
        refine HT.out.mono ?_
        rintro r w3 ⟨rfl, hb3⟩
        go_wp2
        go_roundw
        case rel => exact ⟨k + 1, by go_num, by omega, HSN.out, HBL.out.trans (hb3.mono HBL.out.size)⟩
        case measure => simp [intOf]; omega
    · rw [List.take_of_length_le (by omega)] at hn
      have hq := HQ.out
      rw [hn, Bool.false_or] at hq
      have g2 := (HBX.out wr hbel).at_.2.2.1
      have HBL := Lib.hid hbel; have HQ2 := Lib.hid hq
      clear hn hbel hq
      cases e1 with
      | true =>
        go_wp2_with (go_at_call 84; refine (HE.out _ HBL.out).mono ?_; rintro r w3 ⟨rfl, hb3⟩)
        go_ret
        exact ⟨ret_bool (by rw [← HQ2.out]; rfl), HB1.out.trans ((HBL.out.trans (hb3.mono HBL.out.size)).mono (Nat.le_of_lt hz))⟩
      | false =>
        go_wp2_with fail
        refine (HE.out _ HBL.out).mono ?_
        rintro r w3 ⟨rfl, hb3⟩
        have HBL3 := Lib.hid (HBL.out.trans (hb3.mono HBL.out.size))
        clear hb3 g2
        have g3 := (HBX.out w3 HBL3.out).at_.2.2.2.1
        cases e2 with
        | true =>
          go_wp2_with (go_at_call 84; refine (HRR.out _ HBL3.out).mono ?_; rintro r w4 ⟨rfl, hb4⟩)
          go_ret
          exact ⟨ret_bool (by rw [← HQ2.out]; rfl), HB1.out.trans ((HBL3.out.trans (hb4.mono HBL3.out.size)).mono (Nat.le_of_lt hz))⟩
        | false =>
          go_wp2_with fail
          refine (HRR.out _ HBL3.out).mono ?_
          rintro r w4 ⟨rfl, hb4⟩
          have HBL4 := Lib.hid (HBL3.out.trans (hb4.mono HBL3.out.size))
          clear hb4 g3
          have g4 := (HBX.out w4 HBL4.out).at_.2.2.2.2.1
          cases e3 with
          | true =>
            go_wp2_with (go_at_call 84; refine (HAA.out _ HBL4.out).mono ?_; rintro r w5 ⟨rfl, hb5⟩)
            go_ret
            exact ⟨ret_bool (by rw [← HQ2.out]; rfl), HB1.out.trans ((HBL4.out.trans (hb5.mono HBL4.out.size)).mono (Nat.le_of_lt hz))⟩
          | false =>
            go_wp2_with fail
            refine (HAA.out _ HBL4.out).mono ?_
            rintro r w5 ⟨rfl, hb5⟩
            have HBL5 := Lib.hid (HBL4.out.trans (hb5.mono HBL4.out.size))
            clear hb5 g4
            have g5 := (HBX.out w5 HBL5.out).at_.2.2.2.2.2.1
            go_wp2_with (go_at_call 86; refine (HPP.out _ HBL5.out).mono ?_; rintro r w6 ⟨rfl, hb6⟩)
            go_ret
            exact ⟨ret_bool (by rw [← HQ2.out]; rfl), HB1.out.trans ((HBL5.out.trans (hb6.mono HBL5.out.size)).mono (Nat.le_of_lt hz))⟩

end Go.Proofs.Ytdjkeakagmgfgaa.Co

namespace Go.Proofs.Ytdjkeakagmgfgaa.Co
set_option maxRecDepth 100000
set_option linter.unusedVariables false
set_option linter.unusedSimpArgs false
open Go.RowKit Ba Fm Fo Nm Rk
theorem meetSP_eq (a : List ByteArray) (l : List Pe) : meetSPB a l = l.any fun p => meetB p.at_ a := by
  unfold meetSPB
  rw [Bool.eq_iff_iff, List.any_eq_true, List.any_eq_true]
  constructor
  · rintro ⟨x, hx, h⟩
    obtain ⟨p, hp, hi⟩ := List.any_eq_true.1 h
    exact ⟨p, hp, meet_iff.2 ⟨x, isIn_of hi, hx⟩⟩
  · rintro ⟨p, hp, h⟩
    obtain ⟨x, h1, h2⟩ := meet_iff.1 h
    exact ⟨x, h2, any_yes _ _ p hp (isIn_yes h1)⟩
set_option maxRecDepth 100000 in
set_option maxHeartbeats 4000000 in
theorem contradicts1 (v : Value) (c : Cf) (w : World) (q : Bool) (h : Cv w w.heap.size v c) (hs : Sm c) (hq : bothB c = q) :
    Calls Try.prog 59 #[v] w fun r w' => r = .returned (.bool q) ∧ Below w.heap.size w w' := by
  obtain ⟨vE, vR, vA, vP, l, rfl, h⟩ := h
  obtain ⟨al, aa, els, reps, ats, per, cm, da⟩ := c
  obtain ⟨O, hO⟩ : ∃ O : Obj, O = .cells #[.bool al, .bool aa, vE, vR, vA, vP, .bool cm, .bool da] 26 := ⟨_, rfl⟩
  have hb1 : Below w.heap.size w (w.alloc O) := below_new12 w O
  have hz : w.heap.size < (w.alloc O).heap.size := by simp
  have hbx : Bx (w.alloc O) w.heap.size ⟨al, aa, els, reps, ats, per, cm, da⟩ vE vR vA vP := by rw [hO]; exact Bx.new w ⟨al, aa, els, reps, ats, per, cm, da⟩ vE vR vA vP
  have h0 := h.on hb1
  have hpl : per.length = l.length := by have := h.m; simp only at this; rw [← this, len_pes]
  have hl : l.length ≤ 1000 := by have := hs.p; simp only at this; omega
  have hlen : ∀ x ∈ l, x.pe.at_.length ≤ 1000000 := fun x hx => Nat.le_trans (hs.pa x.pe (by rw [← h.m]; exact List.mem_map.2 ⟨x, hx, rfl⟩)) (by omega)
  obtain ⟨e1, he1⟩ : ∃ b, meetB els reps = b := ⟨_, rfl⟩
  obtain ⟨e2, he2⟩ : ∃ b, meetSPB ats (pes l) = b := ⟨_, rfl⟩
  have hfin : (e1 || e2 || (da && !aa)) = q := by
    rw [← hq, ← he1, ← he2, meetSP_eq, h.m]
    show (meetB els reps || (per.any fun p => meetB p.at_ ats) || (da && !aa)) = (meetB els reps || (da && !aa) || per.any fun p => meetB p.at_ ats)
    rw [Bool.or_assoc, Bool.or_assoc, Bool.or_comm (per.any _)]
  have hls := hs.e; have hlr := hs.r; have hla := hs.a
  simp only at hls hlr hla
  have HE := Lib.hid (fun wx (hw : w.alloc O = wx) => meetSS vE vR wx.heap.size wx.heap.size els reps wx e1 (by subst hw; exact h0.e) (by subst hw; exact h0.r) (by omega) (by omega) he1)
  have HP := Lib.hid (fun wx (hw : w.alloc O = wx) => meetSP vA vP ats l wx e2 (by subst hw; exact h0.a) (by subst hw; exact h0.p) (by omega) (by omega) hlen he2)
  have H1 := Lib.hid (fun (wx : World) (hb : Below (w.alloc O).heap.size (w.alloc O) wx) => show wx.cell? ⟨w.heap.size, 1, none⟩ = some (.bool aa) ∧ wx.cell? ⟨w.heap.size, 7, none⟩ = some (.bool da) from ⟨(hbx.below hb hz).at_.2.1, (hbx.below hb hz).at_.2.2.2.2.2.2.2⟩)
  have HB1 := Lib.hid hb1; have HQ := Lib.hid hfin
  clear hq hfin hlen hs h h0 hpl hb1 hbx he1 he2 hls hlr hla
  subst hO
  cases e1 with
  | true =>
    go_enter Try.func59, Try.ntmps59
    go_wp2_with (go_at_call 88; refine (HE.out _ rfl).mono ?_; rintro r w3 ⟨rfl, rfl⟩)
    go_ret
    exact ⟨ret_bool (by rw [← HQ.out]; rfl), HB1.out⟩
  | false =>
    cases e2 with
    | true =>
      go_enter Try.func59, Try.ntmps59
      go_wp2_with (first
        | (go_at_call 88; refine (HE.out _ rfl).mono ?_; rintro r w3 ⟨rfl, rfl⟩)
        | (go_at_call 89; refine (HP.out _ rfl).mono ?_; rintro r w3 ⟨rfl, hb3⟩))
      go_ret
      exact ⟨ret_bool (by rw [← HQ.out]; rfl), bt HB1.out hb3⟩
    | false =>
      cases da with
      | true =>
        go_enter Try.func59, Try.ntmps59
        go_wp2_with (first
          | (go_at_call 88; refine (HE.out _ rfl).mono ?_; rintro r w3 ⟨rfl, rfl⟩)
          | (go_at_call 89; refine (HP.out _ rfl).mono ?_; rintro r w3 ⟨rfl, hb3⟩; obtain ⟨g1, g7⟩ := H1.out _ hb3))
        go_ret
        exact ⟨ret_bool (by rw [← HQ.out]; simp), bt HB1.out hb3⟩
      | false =>
        go_enter Try.func59, Try.ntmps59
        go_wp2_with (first
          | (go_at_call 88; refine (HE.out _ rfl).mono ?_; rintro r w3 ⟨rfl, rfl⟩)
          | (go_at_call 89; refine (HP.out _ rfl).mono ?_; rintro r w3 ⟨rfl, hb3⟩; obtain ⟨g1, g7⟩ := H1.out _ hb3))
        go_ret
        exact ⟨ret_bool (by rw [← HQ.out]; rfl), bt HB1.out hb3⟩
set_option maxRecDepth 100000 in
set_option maxHeartbeats 4000000 in
theorem check12 (v : Value) (c : Cf) (w : World) (q : Nat) (h : Cv w w.heap.size v c) (hs : Sm c) (hq : checkN c = q) :
    Calls Try.prog 31 #[v] w fun r w' => r = .returned (.int .i64 q) ∧ Below w.heap.size w w' := by
  obtain ⟨vE, vR, vA, vP, l, rfl, h⟩ := h
  obtain ⟨w0, hw0⟩ : ∃ w0, w.alloc (confO c vE vR vA vP) = w0 := ⟨_, rfl⟩
  have hb1 : Below w.heap.size w w0 := hw0 ▸ below_new12 w (confO c vE vR vA vP)
  have hbx : Bx w0 w.heap.size c vE vR vA vP := hw0 ▸ Bx.new w c vE vR vA vP
  have hz : w.heap.size < w0.heap.size := by rw [← hw0]; simp
  have hcv : Cv w0 w0.heap.size (confV c vE vR vA vP) c := ⟨vE, vR, vA, vP, l, rfl, h.on hb1⟩
  obtain ⟨e1, he1⟩ : ∃ b, bigB c = b := ⟨_, rfl⟩
  obtain ⟨e2, he2⟩ : ∃ b, (!namesB c) = b := ⟨_, rfl⟩
  obtain ⟨e3, he3⟩ : ∃ b, (!singleB c) = b := ⟨_, rfl⟩
  obtain ⟨e4, he4⟩ : ∃ b, bothB c = b := ⟨_, rfl⟩
  have hfin : (if e1 = true then 2 else if e2 = true then 121 else if e3 = true then 122 else if e4 = true then 120 else 0) = q := by
    rw [← hq, ← he1, ← he2, ← he3, ← he4]
    unfold checkN
    cases namesB c <;> cases singleB c <;> rfl
  have HBX := Lib.hid (fun wx (hb : Below w0.heap.size w0 wx) => (hbx.below hb hz).at_)
  have H1 := Lib.hid (fun wx hb => exceeds1 (confV c vE vR vA vP) c wx e1 (hcv.on hb) hs he1)
  have H2 := Lib.hid (fun wx hb => misnames1 (confV c vE vR vA vP) c wx e2 (hcv.on hb) hs he2)
  have H3 := Lib.hid (fun wx hb => repeats1 (confV c vE vR vA vP) c wx e3 (hcv.on hb) hs he3)
  have H4 := Lib.hid (fun wx hb => contradicts1 (confV c vE vR vA vP) c wx e4 (hcv.on hb) hs he4)
  have HW := Lib.hid hw0; have HB1 := Lib.hid hb1
  clear hq hs h hb1 hbx he1 he2 he3 he4 hw0 hcv
  go_enter Try.func31, Try.ntmps31
  go_wp2_with fail
  rw [HW.out]
  refine (H1.out _ (Below.refl _ _)).mono ?_
  rintro r w1 ⟨rfl, hb1⟩
  have HL1 := Lib.hid hb1
  obtain ⟨g0, g1, g2, g3, g4, g5, g6, g7⟩ := HBX.out w1 hb1
  clear hb1
  cases e1 with
  | true =>
    rw [if_pos rfl] at hfin
    subst hfin
    go_wp2
    go_ret
    exact ⟨rfl, HB1.out.trans (HL1.out.mono (Nat.le_of_lt hz))⟩
  | false =>
  rw [if_neg (by simp)] at hfin
  go_wp2_with fail
  refine (H2.out _ HL1.out).mono ?_
  rintro r w2 ⟨rfl, hb2⟩
  have HL2 := Lib.hid (HL1.out.trans (hb2.mono HL1.out.size))
  clear g0 g1 g2 g3 g4 g5 g6 g7 hb2
  obtain ⟨g0, g1, g2, g3, g4, g5, g6, g7⟩ := HBX.out w2 HL2.out
  cases e2 with
  | true =>
    rw [if_pos rfl] at hfin
    subst hfin
    go_wp2
    go_ret
    exact ⟨rfl, HB1.out.trans (HL2.out.mono (Nat.le_of_lt hz))⟩
  | false =>
  rw [if_neg (by simp)] at hfin
  go_wp2_with fail
  refine (H3.out _ HL2.out).mono ?_
  rintro r w3 ⟨rfl, hb3⟩
  have HL3 := Lib.hid (HL2.out.trans (hb3.mono HL2.out.size))
  clear g0 g1 g2 g3 g4 g5 g6 g7 hb3
  obtain ⟨g0, g1, g2, g3, g4, g5, g6, g7⟩ := HBX.out w3 HL3.out
  cases e3 with
  | true =>
    rw [if_pos rfl] at hfin
    subst hfin
    go_wp2
    go_ret
    exact ⟨rfl, HB1.out.trans (HL3.out.mono (Nat.le_of_lt hz))⟩
  | false =>
  rw [if_neg (by simp)] at hfin
  go_wp2_with fail
  refine (H4.out _ HL3.out).mono ?_
  rintro r w4 ⟨rfl, hb4⟩
  have HL4 := Lib.hid (HL3.out.trans (hb4.mono HL3.out.size))
  clear g0 g1 g2 g3 g4 g5 g6 g7 hb4
  cases e4 with
  | true =>
    rw [if_pos rfl] at hfin
    subst hfin
    go_wp2
    go_ret
    exact ⟨rfl, HB1.out.trans (HL4.out.mono (Nat.le_of_lt hz))⟩
  | false =>
    rw [if_neg (by simp)] at hfin
    subst hfin
    go_wp2
    go_ret
    exact ⟨rfl, HB1.out.trans (HL4.out.mono (Nat.le_of_lt hz))⟩

end Go.Proofs.Ytdjkeakagmgfgaa.Co

namespace Go.Proofs.Ytdjkeakagmgfgaa.Cn
set_option maxRecDepth 100000
set_option linter.unusedVariables false
set_option linter.unusedSimpArgs false
open Go.RowKit Ba Ro
open Co (Cf Cv Sm confV confO attrB12 elementN checkN bel_eq12)
/-- The error of a configuration and rows. -/
def errI (c : Cf) (l : List Ro) : Int := if checkN c = 0 then check l else checkN c
theorem err_ok {c : Cf} {l : List Ro} : errI c l = 0 ↔ checkN c = 0 ∧ check l = 0 := by
  unfold errI
  constructor
  · intro h
    split at h
    · rename_i h1; exact ⟨h1, h⟩
    · rename_i h1; exact absurd h (by omega)
  · rintro ⟨h1, h2⟩
    rw [if_pos h1, h2]
def outL (c : Cf) (s : Bool) (l : List Ro) : List Ro := if errI c l = 0 then cleanL c s l else []
theorem held_check {l : List Ro} (h : check l = 0) : Held l := fun x hx => by
  obtain ⟨h1, h2⟩ := check_parts h
  have hn : ¬ exceeds l 4096 60 = true := by rw [h1]; decide
  rw [exceeds_iff] at hn
  have h3 := (fo_right h2).1 x hx
  have h4 : ¬ 60 ≤ x.depth := fun h => hn (.inr ⟨x, hx, h⟩)
  omega
theorem attrs_len (c : Cf) (s : Bool) (x : Ro) : (attrsF c s x).length ≤ x.attrs.length := List.length_filter_le _ _
theorem few_kept {c : Cf} {s : Bool} {l : List Ro} (hr : right l = true) (hf : Few l) : Few (keptL c s l) := fun y hy => by
  obtain ⟨x, hx, _, _, h⟩ := K_mem (fo_right hr) 0 (by omega) y hy
  rw [h]
  exact Nat.le_trans (attrs_len c s x) (hf x hx)
theorem few_clean {c : Cf} {s : Bool} {l : List Ro} (hr : right l = true) (hf : Few l) : Few (cleanL c s l) := fun y hy => few_normal (few_kept hr hf) hy
theorem txt_one_le {m : List Ro} {y : Ro} (h : y ∈ m) (hk : y.kind = 1) : y.data.size ≤ (txt m).length := by
  induction m with
  | nil => cases h
  | cons x r ih =>
    rw [txt, List.length_append]
    rcases List.mem_cons.1 h with rfl | h
    · rw [if_pos hk, size_L]; omega
    · have := ih h; omega
theorem small_clean {c : Cf} {s : Bool} {l : List Ro} (hr : right l = true) (hz : Rz.Small l) (ht : (txt l).length ≤ 1000000000) : Rz.Small (cleanL c s l) := fun y hy => by
  rcases clean_mem c s hr y hy with ⟨h1, h2⟩ | ⟨x, hx, _, h⟩
  · have h3 := txt_one_le hy h1
    have h4 := clean_txt_le c s hr
    have hok : okRow y = true := safe_stays.right_ok _ 0 (clean_right c s hr) y hy
    have hn : y.name = .empty := congrArg Ro.name (text_form hok h1)
    refine ⟨?_, by omega, fun a ha => by rw [h2] at ha; cases ha⟩
    rw [hn]
    exact Nat.zero_le _
  · obtain ⟨z1, z2, z3⟩ := hz x hx
    rw [h]
    exact ⟨z1, z2, fun a ha => z3 a (List.mem_filter.1 ha).1⟩

set_option maxRecDepth 100000 in
set_option maxHeartbeats 2000000 in
theorem rows13 (u v : Value) (l : List Cw) (c : Cf) (s : Bool) (w : World) (hl : Rv w u l) (hll : l.length ≤ 1000000) (hz : Rz.Small (ros l)) (hf : Few (ros l)) (ht : (txt (ros l)).length ≤ 1000000000) (hc : Cv w w.heap.size v c) (hs : Sm c) (E : Int) (q : List Ro) (hE : errI c (ros l) = E) (hq : outL c s (ros l) = q) :
    Calls Try.prog 14 #[u, v, .bool s] w fun r w' => ∃ V y, r = .returned (.tuple #[V, .int .i64 E]) ∧ Od w.heap.size w' V y ∧ ros y = q ∧ Rv w' V y ∧ Below w.heap.size w w' := by
  obtain ⟨vE, vR, vA, vP, pl, rfl, hc⟩ := hc
  obtain ⟨w1, hw1⟩ : ∃ w1, w.alloc (confO c vE vR vA vP) = w1 := ⟨_, rfl⟩
  have hb1 : Below w.heap.size w w1 := hw1 ▸ below_new w _
  have hbx : Co.Bx w1 w.heap.size c vE vR vA vP := hw1 ▸ Co.Bx.new w c vE vR vA vP
  have hz1 : w.heap.size < w1.heap.size := by rw [← hw1]; simp
  have hcv : Cv w1 w1.heap.size (confV c vE vR vA vP) c := ⟨_, _, _, _, _, rfl, hc.on hb1⟩
  obtain ⟨qc, hqc⟩ : ∃ q, checkN c = q := ⟨_, rfl⟩
  obtain ⟨qr, hqr⟩ : ∃ q, check (ros l) = q := ⟨_, rfl⟩
  have HCK := Lib.hid (Co.check12 (confV c vE vR vA vP) c w1 qc hcv hs hqc)
  have hl1 := hl.below hb1
  have HBX := Lib.hid hbx; have HW1 := Lib.hid hw1; have HB1 := Lib.hid hb1; have HCV := Lib.hid hcv; have HL1 := Lib.hid hl1; have HSM := Lib.hid hs; have HZ := Lib.hid hz; have HF := Lib.hid hf; have HT := Lib.hid ht; have HE := Lib.hid hE; have HQ := Lib.hid hq; have HQC := Lib.hid hqc; have HQR := Lib.hid hqr
  have HCP := Lib.hid hc
  clear hc hl hs hz hf ht hE hq hw1 hb1 hbx hcv hl1 hqc hqr
  have nil13 : ∀ w' : World, Rv w' (.slice none 0 0) [] := fun w' => ⟨none, 0, rfl, Nat.le_refl _, Nat.zero_le _, Rr.nil _ _ _, fun x hx => by cases hx⟩
  have HNL := Lib.hid nil13
  clear nil13
  go_enter Try.func14, Try.ntmps14
  go_upto_region 1 with (fail)
  rw [HW1.out]
  clear HW1
  by_cases h0 : qc = 0
  · subst h0
    go_upto_region 4 with (first
      | (show wpList _ _ _ (⟨_, Op.load 26 (.tmp 4), _, _, _, _⟩ :: _) _ _; refine wpList_load_mid rfl 26 (.tmp 4) rfl w.heap.size 0 rfl _ _ HBX.out Try.underlying26 rfl Co.size_conf ?_)
      | (go_at_call 31; refine HCK.out.mono ?_; rintro r w2 ⟨rfl, hb2⟩; have HB2 := Lib.hid hb2; clear hb2)
      | fail)
    have HBX2 := Lib.hid (HBX.out.below HB2.out hz1)
    have HRC := Lib.hid (check1 u l w2 qr (HL1.out.below HB2.out) hll HQR.out)
    have hz2 := HB2.out.size
    by_cases h1 : qr = 0
    · subst h1
      obtain ⟨hex, hrt⟩ := check_parts HQR.out
      have hEq : E = 0 := by rw [← HE.out]; exact err_ok.2 ⟨HQC.out, HQR.out⟩
      subst hEq
      have hqn : normal (keptL c s (ros l)) = q := by rw [← HQ.out]; unfold outL; rw [if_pos HE.out]; rfl
      have hkf : Few (keptL c s (ros l)) := few_kept hrt HF.out
      have hkl : (keptL c s (ros l)).length ≤ 1000000 := Nat.le_trans (K_len (fo_right hrt) 0) (by rw [len_ros]; exact hll)
      have hkt : (txt (keptL c s (ros l))).length ≤ 1000000000 := Nat.le_trans (txt_K (fo_right hrt) 0) HT.out
      have hkh : Held (keptL c s (ros l)) := fun y hy => by
        obtain ⟨x, hx, _, hd, _⟩ := K_mem (fo_right hrt) 0 (by omega) y hy
        have h3 := held_check HQR.out x hx
        have h4 := (kept_wd c s hrt).1 y hy
        omega
      have hqh : Held q := by rw [← hqn]; exact held_check (clean_check c s HQR.out)
      have HQN := Lib.hid hqn; have HKF := Lib.hid hkf; have HKL := Lib.hid hkl; have HKT := Lib.hid hkt; have HKH := Lib.hid hkh; have HQH := Lib.hid hqh
      clear hex hrt hqn hkf hkl hkt hkh hqh
      go_upto_region 7 with (first
        | (go_at_call 32; refine HRC.out.mono ?_; rintro r w3 ⟨rfl, hb3⟩; have HB3 := Lib.hid (HB2.out.trans (hb3.mono HB2.out.size)); clear hb3)
        | fail)
      have HBX3 := Lib.hid (HBX.out.below HB3.out hz1)
      have hb03 := HB1.out.trans (HB3.out.mono HB1.out.size)
      obtain ⟨A0, c0, eU, hlc, hcm, hrr, hhe⟩ := HL1.out.below HB3.out
      subst eU
      have HFI := Lib.hid (filtered_any A0 c0 l (confV c vE vR vA vP) c s w3 hrr hlc hcm HZ.out HF.out ⟨_, _, _, _, _, rfl, HCP.out.on hb03⟩ HSM.out HQR.out)
      have HB03 := Lib.hid hb03
      clear hb03 hlc hcm hrr hhe
      go_wp2_with (first
        | (show wpList _ _ _ (⟨_, Op.load 26 (.tmp 4), _, _, _, _⟩ :: _) _ _; refine wpList_load_mid rfl 26 (.tmp 4) rfl w.heap.size 0 rfl _ _ HBX3.out Try.underlying26 rfl Co.size_conf ?_)
        | (go_at_call 34; refine HFI.out.mono ?_; rintro r w4 ⟨v4, l4, rfl, ho4, hr4, hb4⟩; have HO4 := Lib.hid ho4; have HR4 := Lib.hid hr4; have HB4 := Lib.hid hb4; clear ho4 hr4 hb4)
        | (go_at_call 33; refine (normal1 v4 l4 w4 q (HO4.out.ow.rv (by rw [HR4.out]; exact HKH.out)) (by rw [← len_ros, HR4.out]; exact HKL.out) (by rw [HR4.out]; exact HKF.out) (by rw [HR4.out]; exact HKT.out) (by rw [HR4.out]; exact HQN.out) HQH.out).mono ?_; rintro r w5 ⟨v5, y5, rfl, ho5, hf5, hy5, hv5, hb5⟩; have HO5 := Lib.hid ho5; have HF5 := Lib.hid hf5; have HY5 := Lib.hid hy5; have HV5 := Lib.hid hv5; have HB5 := Lib.hid hb5; clear ho5 hf5 hy5 hv5 hb5)
        | fail)
      go_ret2
      have h4 := HB03.out.trans (HB4.out.mono HB03.out.size)
      exact ⟨v5, y5, rfl, (show Od _ w5 v5 y5 from ⟨HO5.out.1, HF5.out⟩).mono h4.size, HY5.out, HV5.out, h4.trans (HB5.out.mono h4.size)⟩
    · have hEq : E = qr := by rw [← HE.out]; unfold errI; rw [if_pos HQC.out, HQR.out]
      subst hEq
      have hq0 : q = [] := by rw [← HQ.out]; unfold outL; rw [if_neg (by rw [HE.out]; exact h1)]
      subst hq0
      have hqb : (E == 0) = false := by simpa using h1
      go_wp2_with (first
        | (go_at_call 32; refine HRC.out.mono ?_; rintro r w3 ⟨rfl, hb3⟩; have HB3 := Lib.hid (HB2.out.trans (hb3.mono HB2.out.size)); clear hb3)
        | fail)
      go_ret2
      exact ⟨_, [], rfl, Od.nil _ _, rfl, HNL.out _, HB1.out.trans (HB3.out.mono HB1.out.size)⟩
  · have hEq : E = (qc : Int) := by rw [← HE.out]; unfold errI; rw [if_neg (by rw [HQC.out]; exact h0), HQC.out]
    subst hEq
    have hq0 : q = [] := by rw [← HQ.out]; unfold outL; rw [if_neg (by rw [HE.out]; omega)]
    subst hq0
    have hqb : ((qc : Int) == 0) = false := by simp; omega
    go_wp2_with (first
      | (show wpList _ _ _ (⟨_, Op.load 26 (.tmp 4), _, _, _, _⟩ :: _) _ _; refine wpList_load_mid rfl 26 (.tmp 4) rfl w.heap.size 0 rfl _ _ HBX.out Try.underlying26 rfl Co.size_conf ?_)
      | (go_at_call 31; refine HCK.out.mono ?_; rintro r w2 ⟨rfl, hb2⟩; have HB2 := Lib.hid hb2; clear hb2)
      | fail)
    go_ret2
    exact ⟨_, [], rfl, Od.nil _ _, rfl, HNL.out _, HB1.out.trans (HB2.out.mono HB1.out.size)⟩

end Go.Proofs.Ytdjkeakagmgfgaa.Cn

namespace Go.Proofs.Ytdjkeakagmgfgaa.Fo
set_option maxRecDepth 100000
set_option linter.unusedSimpArgs false
set_option linter.unusedVariables false
open Go.RowKit Ba Fm
theorem bdx {acc x y : List ByteArray} {a b : List ByteArray} (h : acc ++ mrg lt x y = mrg lt a b) (ha : a.length ≤ 1000000) (hb : b.length ≤ 1000000) (hx : x.length ≤ 1000000) (hy : y.length ≤ 1000000) : (acc.length + x.length) * 16 ≤ 140737488355328 ∧ ((acc ++ x).length + y.length) * 16 ≤ 140737488355328 := by
  have h1 := congrArg List.length h
  have h2 := len_mrg lt a b
  rw [List.length_append] at h1
  rw [List.length_append]
  omega
theorem bdm {acc r : List ByteArray} {x : ByteArray} {a b : List ByteArray} (h : acc ++ x :: r = mrg lt a b) (ha : a.length ≤ 1000000) (hb : b.length ≤ 1000000) : (acc.length + 1) * 16 ≤ 140737488355328 := by
  have h1 := congrArg List.length h
  have h2 := len_mrg lt a b
  rw [List.length_append, List.length_cons] at h1
  omega
set_option maxRecDepth 100000 in
set_option maxHeartbeats 2000000 in
theorem merged_any (va vb : Value) (a b : List ByteArray) (w : World) (hva : Sv w w.heap.size va a) (hvb : Sv w w.heap.size vb b) (hla : a.length ≤ 1000000) (hlb : b.length ≤ 1000000) :
    Calls Try.prog 77 #[va, vb] w fun e w' => ∃ v, e = .returned v ∧ Sown w.heap.size w' v (mrg lt a b) ∧ Below w.heap.size w w' := by
  obtain ⟨i0, hi, hz0, hz1, hz2⟩ := info_parts info_str
  obtain ⟨A, ca, rfl, hca, hna, hra⟩ := hva
  obtain ⟨C, cb, rfl, hcb, hnb, hrb⟩ := hvb
  go_enter Try.func77, Try.ntmps77
  go_wp2_with (at_make; refine wpList_make_own _ rfl (.const (.int .i64 0)) (.tmp 10) 23 rfl w.heap.size 9 i0 (.string .empty) 1 Try.underlying23 hi hz0 hz1 .i64 .i64 _ (a.length + b.length) rfl rfl (by simp) (by rw [hz2]; omega) (by unfold maxLen; omega) (Nat.le_refl _) ?_; intro w1 hown hgrow)
  have hb0 : Below w.heap.size w w1 := (Below.refl w.heap.size w).grown hgrow (Nat.le_refl _) (by simp)
  have ho0 : Sown w.heap.size w1 (.slice (some ⟨w.heap.size, 0, none⟩) 0 (a.length + b.length)) [] := hown
  clear hown hgrow
  go_loopw [0, 1, 5] (fun xa xb v wr => ∃ (x y acc : List ByteArray), Sv w w.heap.size xa x ∧ Sv w w.heap.size xb y ∧ x.length ≤ 1000000 ∧ y.length ≤ 1000000 ∧ Sown w.heap.size wr v acc ∧ acc ++ mrg lt x y = mrg lt a b ∧ Below w.heap.size w wr) (fun xa xb _ _ => lenOf xa + lenOf xb)
  case atStart => exact ⟨a, b, [], ⟨A, ca, rfl, hca, hna, hra⟩, ⟨C, cb, rfl, hcb, hnb, hrb⟩, hla, hlb, ho0, rfl, hb0⟩
  case round =>
    clear ho0 hb0 hra hrb hca hcb hna hnb
    obtain ⟨x, y, acc, ⟨D, cd, rfl, hcd, hnd, hrd⟩, ⟨E, ce, rfl, hce, hne, hre⟩, hlx, hly, hown, hc, hbel⟩ := hrel
    have hN := hbel.size
    cases x with
    | nil =>
      obtain ⟨k1, k2⟩ := bdx hc hla hlb hlx hly
      rw [mrg_nil] at hc
      have HC := Lib.hid hc; clear hc
      simp only [List.length_nil] at hcd hlx k1 ⊢
      go_wp2_with (first | (at_builtin; refine app_all wr rfl (.tmp 54) (.tmp 55) rfl w.heap.size _ acc [] D cd w.heap.size rfl hown rfl hnd (Rd.nil _ _ _) k1 hN ?_; intro v3 w3 hown3 hk3 _) | (at_builtin; refine app_all w3 rfl (.tmp 57) (.tmp 58) rfl w.heap.size _ (acc ++ []) y E ce w.heap.size rfl hown3 rfl hne (hre.below (hk3 _ hbel) (Nat.le_refl _)) k2 (hk3 _ hbel).size ?_; intro v4 w4 hown4 hk4 _))
      go_ret
      exact ⟨v4, rfl, by rw [← HC.out, ← List.append_nil acc]; exact hown4, hk4 _ (hk3 _ hbel)⟩
    | cons p x =>
    cases y with
    | nil =>
      obtain ⟨k1, k2⟩ := bdx hc hla hlb hlx hly
      rw [mrg_nil'] at hc
      have HC := Lib.hid hc; clear hc
      simp only [List.length_nil, List.length_cons] at hcd hce hlx hly k1 k2 ⊢
      have hlen : (p :: x).length = x.length + 1 := rfl
      go_wp2_with (first | (at_builtin; refine app_all wr rfl (.tmp 54) (.tmp 55) rfl w.heap.size _ acc (p :: x) D cd w.heap.size rfl hown rfl hnd (hrd.below hbel (Nat.le_refl _)) k1 hN ?_; intro v3 w3 hown3 hk3 _) | (at_builtin; refine app_all w3 rfl (.tmp 57) (.tmp 58) rfl w.heap.size _ (acc ++ p :: x) [] E ce w.heap.size rfl hown3 rfl hne (Rd.nil _ _ _) k2 (hk3 _ hbel).size ?_; intro v4 w4 hown4 hk4 _))
      go_ret
      exact ⟨v4, rfl, by rw [← HC.out, ← List.append_nil (acc ++ p :: x)]; exact hown4, hk4 _ (hk3 _ hbel)⟩
    | cons q y =>
      have hrd0 := hrd
      have hre0 := hre
      obtain ⟨b1, o1, rfl, hb1, hc1⟩ := hrd (by simp)
      obtain ⟨b2, o2, rfl, hb2, hc2⟩ := hre (by simp)
      have g1 : wr.cell? ⟨b1, o1, none⟩ = some (.string p) := (hbel.cell (p := ⟨b1, o1, none⟩) hb1).trans (hc1 0 (by simp))
      have g2 : wr.cell? ⟨b2, o2, none⟩ = some (.string q) := (hbel.cell (p := ⟨b2, o2, none⟩) hb2).trans (hc2 0 (by simp))
      have hxt := sv_tail hrd0 hcd
      have hyt := sv_tail hre0 hce
      have hxs : Sv w w.heap.size (.slice (some ⟨b1, o1, none⟩) (x.length + 1) cd) (p :: x) := ⟨_, cd, rfl, hcd, hnd, hrd0⟩
      have hys : Sv w w.heap.size (.slice (some ⟨b2, o2, none⟩) (y.length + 1) ce) (q :: y) := ⟨_, ce, rfl, hce, hne, hre0⟩
      simp only [List.length_cons] at hcd hce hlx hly ⊢
      have HX := Lib.hid hxt; have HY := Lib.hid hyt; have HXS := Lib.hid hxs; have HYS := Lib.hid hys
      clear hxt hyt hxs hys hc1 hc2 hrd hre hrd0 hre0 hnd hne
      cases h1 : lt p q with
      | true =>
        rw [mrg_lt _ _ h1] at hc
        have hbd := bdm hc hla hlb
        have HC := Lib.hid hc; clear hc
        have h1' : Op.bytesLess p.toList q.toList = true := h1
        clear h1
        go_wp2
        go_quiet (fail)
        have hbel3 := below_dN hbel nq
        go_wp2_with (at_builtin; refine app_one (wr.drewN nq) rfl (.tmp 30) (.tmp 34) rfl w.heap.size _ acc p rfl (sown_dN hown nq) rfl hbd hbel3.size ?_; intro v3 w3 hown3 hk3 _)
        go_roundw
        case rel => exact ⟨x, q :: y, acc ++ [p], HX.out, HYS.out, by omega, by simp; omega, hown3, by rw [List.append_assoc]; exact HC.out, hk3 _ hbel3⟩
        case measure => simp [lenOf]
      | false =>
        have h1' : Op.bytesLess p.toList q.toList = false := h1
        cases h2 : lt q p with
        | true =>
          rw [mrg_gt _ _ h1 h2] at hc
          have hbd := bdm hc hla hlb
          have HC := Lib.hid hc; clear hc
          have h2' : Op.bytesLess q.toList p.toList = true := h2
          clear h1 h2
          go_wp2
          go_quiet (fail)
          obtain ⟨w6, hw6⟩ : ∃ w6, wr.drewN nq = w6 := ⟨_, rfl⟩
          have hbel3 : Below w.heap.size w w6 := hw6 ▸ below_dN hbel nq
          have hown6 : Sown w.heap.size w6 _ acc := hw6 ▸ sown_dN hown nq
          have g1' : w6.cell? ⟨b1, o1, none⟩ = some (.string p) := hw6 ▸ g1
          have g2' : w6.cell? ⟨b2, o2, none⟩ = some (.string q) := hw6 ▸ g2
          rw [hw6]
          clear hw6
          go_wp2
          go_quiet (fail)
          have hbel4 := below_dN hbel3 nq
          go_wp2_with (at_builtin; refine app_one (w6.drewN nq) rfl (.tmp 46) (.tmp 50) rfl w.heap.size _ acc q rfl (sown_dN hown6 nq) rfl hbd hbel4.size ?_; intro v3 w3 hown3 hk3 _)
          go_roundw
          case rel => exact ⟨p :: x, y, acc ++ [q], HXS.out, HY.out, by simp; omega, by omega, hown3, by rw [List.append_assoc]; exact HC.out, hk3 _ hbel4⟩
          case measure => simp [lenOf]
        | false =>
          rw [mrg_eq _ _ h1 h2] at hc
          have HC := Lib.hid hc; clear hc
          have h2' : Op.bytesLess q.toList p.toList = false := h2
          clear h1 h2
          go_wp2
          go_quiet (fail)
          obtain ⟨w6, hw6⟩ : ∃ w6, wr.drewN nq = w6 := ⟨_, rfl⟩
          have hbel3 : Below w.heap.size w w6 := hw6 ▸ below_dN hbel nq
          have hown6 : Sown w.heap.size w6 _ acc := hw6 ▸ sown_dN hown nq
          have g1' : w6.cell? ⟨b1, o1, none⟩ = some (.string p) := hw6 ▸ g1
          have g2' : w6.cell? ⟨b2, o2, none⟩ = some (.string q) := hw6 ▸ g2
          rw [hw6]
          clear hw6
          go_wp2
          go_quiet (fail)
          have hbel4 := below_dN hbel3 nq
          go_wp2
          go_roundw
          case rel => exact ⟨x, q :: y, acc, HX.out, HYS.out, by omega, by simp; omega, sown_dN hown6 nq, HC.out, hbel4⟩
          case measure => simp [lenOf]

end Go.Proofs.Ytdjkeakagmgfgaa.Fo

namespace Go.Proofs.Ytdjkeakagmgfgaa.Fo
set_option maxRecDepth 100000
set_option linter.unusedSimpArgs false
set_option linter.unusedVariables false
open Go.RowKit Ba Fm
set_option maxHeartbeats 400000 in
theorem less_any (p q b off n c m : Nat) (x s : ByteArray) (w : World) (hm : m < n) (hn : n ≤ 8796093022208)
    (h1 : w.cell? ⟨p, 0, none⟩ = some (.slice (some ⟨b, off, none⟩) n c)) (h2 : w.cell? ⟨q, 0, none⟩ = some (.string s)) (h3 : w.cell? ⟨b, off + m, none⟩ = some (.string x)) :
    Calls Try.prog 102 #[.int .i64 m, .pointer (some ⟨p, 0, none⟩), .pointer (some ⟨q, 0, none⟩)] w fun e w' => e = .returned (.bool (lt x s)) ∧ Below w.heap.size w w' := by
  have hk0 : (0 : Int) ≤ (m : Int) := by omega
  have hk1 : (m : Int) < (n : Int) := by omega
  go_enter Try.func102, Try.ntmps102
  go_wp2
  go_quiet (fail)
  go_wp2
  go_ret
  exact ⟨rfl, below_dN (Below.refl _ _) _⟩
/-- What the search knows: all ahead of 'lo' are less, none from 'hi' on is. -/
def Kn (l : List ByteArray) (s : ByteArray) (lo hi : Nat) : Prop :=
  (∀ i, (h : i < l.length) → i < lo → lt l[i] s = true) ∧ (∀ i, (h : i < l.length) → hi ≤ i → lt l[i] s = false)
theorem Kn.end_ {l : List ByteArray} {s : ByteArray} {k : Nat} (h : Kn l s k k) (hk : k ≤ l.length) : below lt l s = k :=
  below_of hk (fun i hi => h.1 i (by omega) hi) fun i hki hi => h.2 i hi hki
theorem Kn.found {l : List ByteArray} {s : ByteArray} {k : Nat} (h : Kn l s k k) (ha : Asc lt l) (hk : k < l.length) : decide (l[k] = s) = isIn s l := by
  have := found_of ord_lt (fun i hi hik => h.1 i hi hik) ha hk (h.2 k hk (Nat.le_refl _))
  by_cases e : l[k] = s
  · rw [decide_eq_true e, isIn_yes (this.1 e)]
  · rw [decide_eq_false e, isIn_no fun q => e (this.2 q)]
theorem Kn.none_ {l : List ByteArray} {s : ByteArray} {k : Nat} (h : Kn l s k k) (hk : ¬ k < l.length) : isIn s l = false :=
  isIn_no (notfound_of ord_lt fun i hi => h.1 i hi (by omega))
set_option maxHeartbeats 1000000 in
theorem find_any (A : Option Addr) (c : Nat) (l : List ByteArray) (s : ByteArray) (w : World) (hr : Rd w w.heap.size A l) (hl : l.length ≤ 8796093022208) (ha : Asc lt l) :
    Calls Try.prog 78 #[.slice A l.length c, .string s] w fun e w' => e = .returned (.tuple #[.int .i64 (below lt l s), .bool (isIn s l)]) ∧ Below w.heap.size w w' := by
  have hmf : ∀ (fn : Fn) (first cap : Array Value) (w : World), (Instr.makeFunc fn first cap).run Try.prog w = .ok (.func fn first cap) w := fun _ _ _ _ => rfl
  obtain ⟨w0, hw0⟩ : ∃ w0, (w.alloc (.cells #[.slice A l.length c] 23)).alloc (.cells #[.string s] 9) = w0 := ⟨_, rfl⟩
  have hz : w0.heap.size = w.heap.size + 2 := by rw [← hw0]; simp
  have hb0 : Below w.heap.size w w0 := by rw [← hw0]; exact ((Below.refl _ _).alloc (Nat.le_refl _) _).alloc (by simp) _
  have hc1 : w0.cell? ⟨w.heap.size, 0, none⟩ = some (.slice A l.length c) := by
    rw [← hw0, World.cell?_alloc_past _ _ _ (by simp), World.cell?_alloc_at _ _ _ _ rfl]; rfl
  have hc2 : w0.cell? ⟨w.heap.size + 1, 0, none⟩ = some (.string s) := by
    rw [← hw0, World.cell?_alloc_at _ _ _ _ (by simp)]; rfl
  have HW := Lib.hid hw0; clear hw0
  have HZ := Lib.hid hz; clear hz
  go_enter Try.func78, Try.ntmps78
  go_wp2
  rw [HW.out]
  go_quiet (fail)
  go_wp2
  clear hmf
  generalize hw1 : w0.drewN nq = w1
  have hb1 : Below w0.heap.size w0 w1 := by rw [← hw1]; exact below_dN (Below.refl _ _) _
  clear hw1
  go_loopw [7, 8, 9] (fun lo hi _ wr => ∃ i j : Nat, lo = .int .i64 i ∧ hi = .int .i64 j ∧ i ≤ j ∧ j ≤ l.length ∧ Kn l s i j ∧ Below w0.heap.size w0 wr) (fun lo hi _ _ => (intOf hi).toNat - (intOf lo).toNat)
  case atStart => exact ⟨0, l.length, rfl, rfl, Nat.zero_le _, Nat.le_refl _, ⟨fun i _ h => absurd h (by omega), fun i h h' => absurd h (by omega)⟩, hb1⟩
  case round =>
    obtain ⟨i, j, rfl, rfl, hij, hjl, hkn, hbel⟩ := hrel
    have HK := Lib.hid hkn; clear hkn
    have g1 : wr.cell? ⟨w.heap.size, 0, none⟩ = some (.slice A l.length c) := (hbel.cell (p := ⟨w.heap.size, 0, none⟩) (by have := HZ.out; simp; omega)).trans hc1
    have g2 : wr.cell? ⟨w.heap.size + 1, 0, none⟩ = some (.string s) := (hbel.cell (p := ⟨w.heap.size + 1, 0, none⟩) (by have := HZ.out; simp; omega)).trans hc2
    clear hc1 hc2 hb1
    by_cases hlt : i < j
    · obtain ⟨b, off, rfl, hb2, hc⟩ := hr (by omega)
      have hmid : i + (j - i) / 2 < l.length := by omega
      have g3 : wr.cell? ⟨b, off + (i + (j - i) / 2), none⟩ = some (.string l[i + (j - i) / 2]) := (hbel.cell (p := ⟨b, off + (i + (j - i) / 2), none⟩) (by have := HZ.out; simp; omega)).trans ((hb0.cell (p := ⟨b, off + (i + (j - i) / 2), none⟩) hb2).trans (hc _ hmid))
      have hup : lt l[i + (j - i) / 2] s = true → Kn l s (i + (j - i) / 2 + 1) j := fun h => ⟨fun x hx hxl => low_of ord_lt ha hmid h (by omega), HK.out.2⟩
      have hdn : lt l[i + (j - i) / 2] s = false → Kn l s i (i + (j - i) / 2) := fun h => ⟨HK.out.1, fun x hx hxl => high_of ord_lt ha hmid h hxl hx⟩
      have HU := Lib.hid hup; have HD := Lib.hid hdn; clear hup hdn hc hr hb2
      obtain ⟨m, hm⟩ : ∃ m, i + (j - i) / 2 = m := ⟨_, rfl⟩
      have HM := Lib.hid hm
      have hmi : (i : Int) + ((j : Int) - i) / 2 = (m : Int) := by omega
      have hmj : i ≤ m ∧ m < j := by omega
      obtain ⟨hmi1, hmj1⟩ := hmj
      clear hm
      simp only [HM.out] at hmid g3 HU HD
      have HMI := Lib.hid hmi; clear hmi
      cases hq : lt l[m] s with
      | true =>
        have HQ := Lib.hid hq; clear hq
        go_wp2_with fail
        rw [HMI.out]
        refine (less_any w.heap.size (w.heap.size + 1) b off l.length c m l[m] s _ hmid hl g1 g2 g3).mono ?_
        rw [HQ.out]
        rintro e w2 ⟨rfl, hb3⟩
        go_wp2
        go_roundw
        case rel => exact ⟨m + 1, j, by go_num, rfl, by omega, hjl, HU.out HQ.out, hbel.trans (hb3.mono hbel.size)⟩
        case measure => simp [intOf]; omega
      | false =>
        have HQ := Lib.hid hq; clear hq
        go_wp2_with fail
        rw [HMI.out]
        refine (less_any w.heap.size (w.heap.size + 1) b off l.length c m l[m] s _ hmid hl g1 g2 g3).mono ?_
        rw [HQ.out]
        rintro e w2 ⟨rfl, hb3⟩
        go_wp2
        go_roundw
        case rel => exact ⟨i, m, rfl, by go_num, by omega, by omega, HD.out HQ.out, hbel.trans (hb3.mono hbel.size)⟩
        case measure => simp [intOf]; omega
    · obtain rfl : i = j := by omega
      have hfin : below lt l s = i := HK.out.end_ hjl
      have HF := Lib.hid hfin; clear hfin hij hlt
      by_cases hp : i < l.length
      · obtain ⟨b, off, rfl, hb2, hc⟩ := hr (by omega)
        have g3 : wr.cell? ⟨b, off + i, none⟩ = some (.string l[i]) := (hbel.cell (p := ⟨b, off + i, none⟩) (by have := HZ.out; simp; omega)).trans ((hb0.cell (p := ⟨b, off + i, none⟩) hb2).trans (hc _ hp))
        have hfd := HK.out.found ha hp
        have HFD := Lib.hid hfd; clear hfd hc hr
        have hk0 : (0 : Int) ≤ (i : Int) := by omega
        have hk1 : (i : Int) < (l.length : Int) := by omega
        have hk2 : decide (i < l.length) = true := decide_eq_true hp
        go_wp2
        go_quiet (fail)
        go_wp2
        go_ret2
        refine ⟨?_, hb0.trans ((below_dN hbel _).mono hb0.size)⟩
        rw [HF.out, ← HFD.out, eq_of_toList]
        rfl
      · have hfd := HK.out.none_ hp
        have HFD := Lib.hid hfd; clear hfd
        have hk1 : decide (i < l.length) = false := decide_eq_false hp
        go_wp2
        go_quiet (fail)
        go_wp2
        go_ret2
        refine ⟨?_, hb0.trans ((below_dN hbel _).mono hb0.size)⟩
        rw [HF.out, HFD.out]
        rfl

end Go.Proofs.Ytdjkeakagmgfgaa.Fo

namespace Go.Proofs.Ytdjkeakagmgfgaa.Fo
set_option maxRecDepth 100000
set_option linter.unusedSimpArgs false
set_option linter.unusedVariables false
open Go.RowKit Ba Fm
set_option maxHeartbeats 1000000 in
theorem sorted_small (v : Value) (l : List ByteArray) (w : World) (hv : Sv w w.heap.size v l) (hl : l.length < 2) :
    Calls Try.prog 44 #[v] w fun e w' => ∃ v', e = .returned v' ∧ Sown w.heap.size w' v' (srt lt l) ∧ Below w.heap.size w w' := by
  obtain ⟨A, c, rfl, hc, hn, hr⟩ := hv
  have hs := srt_small ord_lt hl
  have HS := Lib.hid hs; clear hs
  go_enter Try.func44, Try.ntmps44
  go_wp2_with (at_builtin; refine app_all w rfl (.const (.slice none 0 0)) (.tmp 7) rfl w.heap.size (.slice none 0 0) [] l A c w.heap.size rfl (Sown.nil _ _) rfl hn hr (by simp; omega) (Nat.le_refl _) ?_; intro v3 w3 hown3 hk3 _)
  go_ret
  exact ⟨v3, rfl, by rw [← HS.out]; exact hown3, hk3 _ (Below.refl _ _)⟩
theorem sv_take {w : World} {N c m : Nat} {A : Option Addr} {l : List ByteArray} (hr : Rd w N A l) (hc : l.length ≤ c) (hn : A = none → c = 0) (hm : m ≤ l.length) : Sv w N (.slice A m c) (l.take m) :=
  ⟨A, c, by rw [List.length_take, Nat.min_eq_left hm], by rw [List.length_take]; omega, hn, hr.take m⟩
theorem sv_drop {w : World} {N c m b o : Nat} {l : List ByteArray} (hr : Rd w N (some ⟨b, o, none⟩) l) (hc : l.length ≤ c) (hm : m ≤ l.length) : Sv w N (.slice (if c = m then some ⟨b, o, none⟩ else some ⟨b, o + m, none⟩) (l.length - m) (c - m)) (l.drop m) := by
  refine ⟨_, c - m, by rw [List.length_drop], by rw [List.length_drop]; omega, fun e => ?_, ?_⟩
  · split at e <;> cases e
  · have := hr.drop m c hc
    simp only [Option.map_some, WideShapes.add_plain] at this
    exact this
set_option maxHeartbeats 2000000 in
theorem sorted_big (n : Nat) (ih : ∀ (l : List ByteArray), l.length < n → ∀ (v : Value) (w : World), Sv w w.heap.size v l → l.length ≤ 1000000 → Calls Try.prog 44 #[v] w fun e w' => ∃ v', e = .returned v' ∧ Sown w.heap.size w' v' (srt lt l) ∧ Below w.heap.size w w')
    (l : List ByteArray) (hn : l.length = n) (hb : 2 ≤ n) (v : Value) (w : World) (hv : Sv w w.heap.size v l) (hl : l.length ≤ 1000000) :
    Calls Try.prog 44 #[v] w fun e w' => ∃ v', e = .returned v' ∧ Sown w.heap.size w' v' (srt lt l) ∧ Below w.heap.size w w' := by
  subst hn
  obtain ⟨A, c, rfl, hc, hna, hr⟩ := hv
  obtain ⟨m, hm⟩ : ∃ m, l.length / 2 = m := ⟨_, rfl⟩
  have hmi : (l.length : Int) / 2 = (m : Int) := by omega
  have hm1 : 1 ≤ m ∧ m < l.length := by omega
  obtain ⟨hm1, hm2⟩ := hm1
  have hh := srt_halves ord_lt l m
  have hr0 := hr
  obtain ⟨b, o, rfl, hbb, _⟩ := hr0 (by omega)
  have h1 := sv_take hr hc hna (Nat.le_of_lt hm2)
  have h2 := sv_drop hr hc (Nat.le_of_lt hm2)
  rw [if_neg (by omega)] at h2
  have i1 := ih (l.take m) (by rw [List.length_take]; omega)
  have i2 := ih (l.drop m) (by rw [List.length_drop]; omega)
  have l1 : (l.take m).length ≤ 1000000 := by rw [List.length_take]; omega
  have l2 : (l.drop m).length ≤ 1000000 := by rw [List.length_drop]; omega
  have l1' := Nat.le_trans (len_srt lt (l.take m)) l1
  have l2' := Nat.le_trans (len_srt lt (l.drop m)) l2
  have HMI := Lib.hid hmi; have HH := Lib.hid hh; have H1 := Lib.hid h1; have H2 := Lib.hid h2; have I1 := Lib.hid i1; have I2 := Lib.hid i2
  clear hmi hh h1 h2 i1 i2 ih hm hr hna
  go_enter Try.func44, Try.ntmps44
  go_wp2
  simp only [HMI.out]
  go_region_with (first
    | (go_at_call_of 44 (Value.slice (some (⟨b, o, none⟩ : Addr)) m c); refine (I1.out _ _ ?_ l1).mono ?_; exact H1.out; rintro e w1 ⟨v1, rfl, ho1, hb1⟩)
    | (go_at_call 44; refine (I2.out _ w1 ?_ l2).mono ?_; exact (H2.out.below (w := w.drew) hb1 (Nat.le_refl _)).more hb1.size; rintro e w2 ⟨v2, rfl, ho2, hb2⟩)
    | (go_at_call 77; refine (merged_any _ _ _ _ w2 ?_ ?_ l1' l2').mono ?_; exact sv_own (ho1.below hb2 (Nat.le_refl _)); exact sv_own ho2; rintro e w3 ⟨v3, rfl, ho3, hb3⟩))
  all_goals (try go_wp2)
  all_goals go_ret
  all_goals exact ⟨v3, rfl, by rw [← HH.out]; exact ho3.mono (Nat.le_trans (by exact hb1.size) hb2.size), (Below.refl w.heap.size w).drew.trans (hb1.trans ((hb2.mono hb1.size).trans (hb3.mono (Nat.le_trans hb1.size hb2.size))))⟩
theorem sorted_all : ∀ (n : Nat) (l : List ByteArray), l.length < n → ∀ (v : Value) (w : World), Sv w w.heap.size v l → l.length ≤ 1000000 → Calls Try.prog 44 #[v] w fun e w' => ∃ v', e = .returned v' ∧ Sown w.heap.size w' v' (srt lt l) ∧ Below w.heap.size w w'
  | 0, l, h, _, _, _, _ => absurd h (by omega)
  | n + 1, l, h, v, w, hv, hl => by
    by_cases h2 : l.length < 2
    · exact sorted_small v l w hv h2
    · exact sorted_big l.length (fun m hm v w hv hl => sorted_all n m (by omega) v w hv hl) l rfl (by omega) v w hv hl
theorem sorted_any (v : Value) (l : List ByteArray) (w : World) (hv : Sv w w.heap.size v l) (hl : l.length ≤ 1000000) :
    Calls Try.prog 44 #[v] w fun e w' => ∃ v', e = .returned v' ∧ Sown w.heap.size w' v' (srt lt l) ∧ Below w.heap.size w w' :=
  sorted_all (l.length + 1) l (Nat.lt_succ_self _) v w hv hl
end Go.Proofs.Ytdjkeakagmgfgaa.Fo

namespace Go.Proofs.Ytdjkeakagmgfgaa.Fo
set_option linter.unusedSimpArgs false
set_option linter.unusedVariables false
open Go.RowKit Ba Fm
end Go.Proofs.Ytdjkeakagmgfgaa.Fo

namespace Go.Proofs.Ytdjkeakagmgfgaa.Co
set_option maxRecDepth 100000
set_option linter.unusedVariables false
set_option linter.unusedSimpArgs false
open Go.RowKit Ba Fm Fo Nm Rk
end Go.Proofs.Ytdjkeakagmgfgaa.Co

namespace Go.Proofs.Ytdjkeakagmgfgaa.Ph
set_option linter.unusedVariables false
set_option linter.unusedSimpArgs false
open Go
section
variable {P : Program} {ops : Array Oper} {Q : Exit → Act → World → Prop} {md : Region.Mode} {S : World → Prop} {st : Nat}
/-- Whatever comes up next; till number 'st' has come up, S is shown of each world. -/
def anyT (P : Program) (md : Region.Mode) (ops : Array Oper) (Q : Exit → Act → World → Prop) (S : World → Prop) (st : Nat) : Nat → Array Bool → Act → World → Prop
  | 0, l, a, w => Region.ready md ops l = [] ∧ Q .normal a w
  | n + 1, l, a, w => (Region.ready md ops l = [] → Q .normal a w) ∧
    ∀ i ∈ Region.ready md ops l, wpOp P ops Q i (fun a' w' => ((l.setIfInBounds i true).getD st true = false → S w') ∧ anyT P md ops Q S st n (l.setIfInBounds i true) a' w') a w
theorem any_of_T : ∀ (n : Nat) (l : Array Bool) (a : Act) (w : World), anyT P md ops Q S st n l a w → wpAny P md ops Q n l a w
  | 0, _, _, _, h => h
  | n + 1, _, _, _, h => ⟨h.1, fun i hi => wpOp_mono (fun a' w' k => any_of_T n _ a' w' k.2) (h.2 i hi)⟩

/-- Number st waits for number i. -/
def waits (md : Region.Mode) (ops : Array Oper) (st i : Nat) : Bool := ((ops[st]?).map fun o => o.after.any fun e => Region.binds md e && e.on == i).getD false
theorem waits_not {i : Nat} {l : Array Bool} (hw : waits md ops st i = true) (hi : i ∈ Region.ready md ops l) : st ∉ Region.ready md ops l := fun hs => by
  obtain ⟨_, o, ho, hall⟩ := mem_ready.1 hs
  have hi0 := (mem_ready.1 hi).1
  unfold waits at hw
  rw [ho] at hw
  simp only [Option.map_some, Option.getD_some] at hw
  obtain ⟨e, he, hb⟩ := Array.any_eq_true'.1 hw
  rw [Bool.and_eq_true, beq_iff_eq] at hb
  have h1 := hall e he hb.1
  rw [hb.2] at h1
  by_cases hlt : i < l.size
  · simp [hlt] at hi0 h1
    rw [hi0] at h1
    cases h1
  · simp [Array.getElem?_eq_none (Nat.le_of_not_lt hlt)] at h1

theorem T_first {i : Nat} {oi : Oper} {v : Value} (hi : ops[i]? = some oi) (hsel : ∀ (j : Nat) (o : Oper) cs b, ops[j]? = some o → o.op ≠ .select cs b)
    (hQ : ∀ c a w, Q (.panic c) (a.put oi.dst v) w → Q (.panic c) a w) (hw : waits md ops st i = true) (hne : i ≠ st) :
    ∀ (n : Nat) (l : Array Bool) (a : Act) (w : World),
      (∀ j oj, ops[j]? = some oj → j ≠ i → l.getD j true = false → (∀ e ∈ oj.after, Region.binds md e = true → e.on ≠ i) → oi.apart ops oj = true) →
      l.getD st true = false → i ∈ Region.ready md ops l → YieldsIf P ops S oi v a → S w → anyT P md ops Q S st n (l.setIfInBounds i true) (a.put oi.dst v) w → anyT P md ops Q S st (n + 1) l a w := by
  intro n
  induction n with
  | zero =>
    intro l a w hf hst hr hy hS H
    refine ⟨fun e => by rw [e] at hr; (cases hr), fun j hj => ?_⟩
    by_cases hji : j = i
    · rw [hji]
      exact hy.wpOp hi hS ⟨fun _ => hS, H⟩
    · have hj' := ready_mono hj hji
      rw [H.1] at hj'
      cases hj'
  | succ n ih =>
    intro l a w hf hst hr hy hS H
    refine ⟨fun e => by rw [e] at hr; (cases hr), fun j hj => ?_⟩
    by_cases hji : j = i
    · rw [hji]
      exact hy.wpOp hi hS ⟨fun _ => hS, H⟩
    · have hjs : j ≠ st := fun e => waits_not hw hr (e ▸ hj)
      obtain ⟨hun, oj, hoj, hall⟩ := mem_ready.1 hj
      have hno : ∀ e ∈ oj.after, Region.binds md e = true → e.on ≠ i := fun e he hb hon => by
        have h1 := hall e he hb
        have h0 := (mem_ready.1 hr).1
        rw [hon] at h1
        by_cases hlt : i < l.size
        · simp [hlt] at h0 h1
          rw [h0] at h1
          cases h1
        · simp [Array.getElem?_eq_none (Nat.le_of_not_lt hlt)] at h1
      have hst' : (l.setIfInBounds j true).getD st true = false := (getD_set_ne true hjs).trans hst
      have hf' : ∀ k ok, ops[k]? = some ok → k ≠ i → (l.setIfInBounds j true).getD k true = false → (∀ e ∈ ok.after, Region.binds md e = true → e.on ≠ i) → oi.apart ops ok = true := fun k ok hk hki hku hkn => by
        by_cases hjk : j = k
        · exact hf k ok hk hki (hjk ▸ hun) hkn
        · rw [getD_set_ne true hjk] at hku
          exact hf k ok hk hki hku hkn
      refine wpOp_mono (fun a' w' k => ?_) (wpOp_putIf hoj (hf j oj hoj hji hun hno) (fun cs b => hsel i oi cs b hi) (fun cs b => hsel j oj cs b hoj) hQ hy (H.2 j (ready_mono hj hji)))
      have hS' : S w' := k.2.1 (by rw [getD_set_ne true hjs, getD_set_ne true hne]; exact hst)
      exact ⟨fun _ => hS', ih (l.setIfInBounds j true) a' w' hf' hst' (ready_mono hr (Ne.symm hji)) k.1 hS' (by rw [Array.setIfInBounds_comm _ _ hji]; exact k.2.2)⟩
theorem T_pure0 {i : Nat} {oi : Oper} {v : Value} (hi : ops[i]? = some oi) (hsel : ∀ (j : Nat) (o : Oper) cs b, ops[j]? = some o → o.op ≠ .select cs b)
    (hQ : ∀ c a w, Q (.panic c) (a.put oi.dst v) w → Q (.panic c) a w) (hne : i ≠ st) :
    ∀ (n : Nat) (l : Array Bool) (a : Act) (w : World),
      (∀ j oj, ops[j]? = some oj → j ≠ i → l.getD j true = false → (∀ e ∈ oj.after, Region.binds md e = true → e.on ≠ i) → oi.apart ops oj = true) →
      i ∈ Region.ready md ops l → YieldsIf P ops (fun _ => True) oi v a → (l.getD st true = false → S w) → anyT P md ops Q S st n (l.setIfInBounds i true) (a.put oi.dst v) w → anyT P md ops Q S st (n + 1) l a w := by
  intro n
  induction n with
  | zero =>
    intro l a w hf hr hy hS H
    refine ⟨fun e => by rw [e] at hr; (cases hr), fun j hj => ?_⟩
    by_cases hji : j = i
    · rw [hji]
      exact hy.wpOp hi trivial ⟨fun e => hS (by rw [getD_set_ne true hne] at e; exact e), H⟩
    · have hj' := ready_mono hj hji
      rw [H.1] at hj'
      cases hj'
  | succ n ih =>
    intro l a w hf hr hy hS H
    refine ⟨fun e => by rw [e] at hr; (cases hr), fun j hj => ?_⟩
    by_cases hji : j = i
    · rw [hji]
      exact hy.wpOp hi trivial ⟨fun e => hS (by rw [getD_set_ne true hne] at e; exact e), H⟩
    · obtain ⟨hun, oj, hoj, hall⟩ := mem_ready.1 hj
      have hno : ∀ e ∈ oj.after, Region.binds md e = true → e.on ≠ i := fun e he hb hon => by
        have h1 := hall e he hb
        have h0 := (mem_ready.1 hr).1
        rw [hon] at h1
        by_cases hlt : i < l.size
        · simp [hlt] at h0 h1
          rw [h0] at h1
          cases h1
        · simp [Array.getElem?_eq_none (Nat.le_of_not_lt hlt)] at h1
      have hf' : ∀ k ok, ops[k]? = some ok → k ≠ i → (l.setIfInBounds j true).getD k true = false → (∀ e ∈ ok.after, Region.binds md e = true → e.on ≠ i) → oi.apart ops ok = true := fun k ok hk hki hku hkn => by
        by_cases hjk : j = k
        · exact hf k ok hk hki (hjk ▸ hun) hkn
        · rw [getD_set_ne true hjk] at hku
          exact hf k ok hk hki hku hkn
      refine wpOp_mono (fun a' w' k => ?_) (wpOp_putIf hoj (hf j oj hoj hji hun hno) (fun cs b => hsel i oi cs b hi) (fun cs b => hsel j oj cs b hoj) hQ hy (H.2 j (ready_mono hj hji)))
      have hS' : (l.setIfInBounds j true).getD st true = false → S w' := fun e => k.2.1 (by rw [Array.setIfInBounds_comm _ _ (Ne.symm hji), getD_set_ne true hne]; exact e)
      exact ⟨hS', ih (l.setIfInBounds j true) a' w' hf' (ready_mono hr (Ne.symm hji)) k.1 hS' (by rw [Array.setIfInBounds_comm _ _ hji]; exact k.2.2)⟩
/-- Number i, which yields its value in whatever world, is taken first. -/
theorem T_pure {i : Nat} {oi : Oper} {v : Value} {n : Nat} {l : Array Bool} {a : Act} {w : World} (hi : ops[i]? = some oi) (hs : Region.noSelect ops = true) (hf : Region.free md ops l i = true) (hr : (Region.ready md ops l).contains i = true)
    (hw : (i != st) = true) (hQ : ∀ c a w, Q (.panic c) (a.put oi.dst v) w → Q (.panic c) a w) (hy : YieldsIf P ops (fun _ => True) oi v a) (hS : S w)
    (h : S w → anyT P md ops Q S st n (l.setIfInBounds i true) (a.put oi.dst v) w) : anyT P md ops Q S st (n + 1) l a w :=
  T_pure0 hi (Region.noSelect_spec hs) hQ (by simpa using hw) n l a w (Region.free_spec hi hf) (by simpa using hr) hy (fun _ => hS) (h hS)
/-- Number i is taken first. -/
theorem T_take {i : Nat} {oi : Oper} {v : Value} {n : Nat} {l : Array Bool} {a : Act} {w : World} (hi : ops[i]? = some oi) (hs : Region.noSelect ops = true) (hf : Region.free md ops l i = true) (hr : (Region.ready md ops l).contains i = true)
    (hw : (waits md ops st i && i != st && !l.getD st true) = true) (hQ : ∀ c a w, Q (.panic c) (a.put oi.dst v) w → Q (.panic c) a w) (hy : YieldsIf P ops S oi v a) (hS : S w)
    (h : S w → anyT P md ops Q S st n (l.setIfInBounds i true) (a.put oi.dst v) w) : anyT P md ops Q S st (n + 1) l a w := by
  simp only [Bool.and_eq_true, bne_iff_ne, ne_eq, Bool.not_eq_true'] at hw
  exact T_first hi (Region.noSelect_spec hs) hQ hw.1.1 hw.1.2 n l a w (Region.free_spec hi hf) hw.2 (by simpa using hr) hy hS (h hS)
/-- One alone may come up, ahead of number st. -/
theorem T_one {i : Nat} {o : Oper} {n : Nat} {l : Array Bool} {a : Act} {w : World} (hr : Region.ready md ops l = [i]) (ho : ops[i]? = some o)
    (h : ∀ K' : Act → World → Prop, Shut (∀ a w, S w → (S w → anyT P md ops Q S st n (l.setIfInBounds i true) a w) → K' a w) → if Region.wanted o (yielded ops a.tmps) = true then Oper.wp P o a w K' Q else K' (a.put o.dst undef) w) :
    anyT P md ops Q S st (n + 1) l a w := by
  refine ⟨fun e => (by rw [e] at hr; cases hr), fun j hj => ?_⟩
  rw [hr, List.mem_singleton] at hj
  rw [hj]
  exact wpOp_step ho fun K' hK => h K' fun a w hS hW => hK a w ⟨fun _ => hS, hW hS⟩
/-- One alone may come up, and number st has come up, or comes up now. -/
theorem T_last {i : Nat} {o : Oper} {n : Nat} {l : Array Bool} {a : Act} {w : World} (hr : Region.ready md ops l = [i]) (hst : (l.setIfInBounds i true).getD st true = true) (ho : ops[i]? = some o)
    (h : ∀ K' : Act → World → Prop, Shut (∀ a w, anyT P md ops Q S st n (l.setIfInBounds i true) a w → K' a w) → if Region.wanted o (yielded ops a.tmps) = true then Oper.wp P o a w K' Q else K' (a.put o.dst undef) w) :
    anyT P md ops Q S st (n + 1) l a w := by
  refine ⟨fun e => (by rw [e] at hr; cases hr), fun j hj => ?_⟩
  rw [hr, List.mem_singleton] at hj
  rw [hj]
  exact wpOp_step ho fun K' hK => h K' fun a w hW => hK a w ⟨fun e => (by rw [hst] at e; cases e), hW⟩
/-- What yields in whatever world, behind number st. -/
theorem T_free {i : Nat} {oi : Oper} {v : Value} {n : Nat} {l : Array Bool} {a : Act} {w : World} (hr : Region.ready md ops l = [i]) (hst : (l.setIfInBounds i true).getD st true = true) (hi : ops[i]? = some oi)
    (hy : Yields P ops oi v a) (h : anyT P md ops Q S st n (l.setIfInBounds i true) (a.put oi.dst v) w) : anyT P md ops Q S st (n + 1) l a w := by
  refine ⟨fun e => (by rw [e] at hr; cases hr), fun j hj => ?_⟩
  rw [hr, List.mem_singleton] at hj
  rw [hj]
  exact (Yields.yieldsIf (S := fun _ => True) hy).wpOp hi trivial ⟨fun e => (by rw [hst] at e; cases e), h⟩
theorem T_done {l : Array Bool} {a : Act} {w : World} (hr : Region.ready md ops l = []) (h : Q .normal a w) : ∀ n, anyT P md ops Q S st n l a w
  | 0 => ⟨hr, h⟩
  | _ + 1 => ⟨fun _ => h, by rw [hr]; simp⟩
/-- The beginning. -/
theorem T_begin (S : World → Prop) (st : Nat) {id : Nat} {a : Act} {w : World} (hm : P.follows .mixedOrders = true) (hS : S w.drew) (h : S w.drew → anyT P .any ops Q S st ops.size (Array.replicate ops.size false) a w.drew) : (Code.region id ops true).wp P Q a w :=
  wp_region_any hm (any_of_T _ _ _ _ (h hS))
end
end Go.Proofs.Ytdjkeakagmgfgaa.Ph
