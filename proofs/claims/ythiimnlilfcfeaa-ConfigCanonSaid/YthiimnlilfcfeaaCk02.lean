/-
  Walks of stage 12: meet and twice, of names, of names and api.Per, of api.Per.
  Walks of stage 12: meet of api.Per, and twice.
  append within a region that draws its order: of one api.Per, of names.
  fold.Space.
  Walks of stage 5: names.inElement, inAttr, every, Attr, Right.
  boltingref02.Space.
  Walks of stage 5: names.inElement, inAttr, every, Right, Attr, and the document's bad, May.
  Walks of stage 12: the document's may, once, meet, of.
  boltingref02.Equal, of slices that read as one list.
  Walk of stage 12: the document's Same, for values that read as one configuration.
  Each string that a statement's row reads is within the reach.
  Arguments that are slices of structs: their parts, and what is read of each.
  An argument that is a slice of strings, as the row reads it: a list of strings, nil or not.
  An argument api.Conf, as a statement's row reads it.
  Groups of api.Per: slices of them in a slice, each of the call's own, no two in one block.
  A region whose loads may be taken first though its own last stores write the cells that they load: the condition on the world is asked for only as long as the first of those stores has not come up.
-/
import Derived.Test.YthiimnlilfcfeaaCk01
import Derived.Deep.Cut
import Derived.Deep.RegionWith
import Derived.Deep.RegionHeld3
import Derived.Deep.RegionLaw
import Derived.Deep.AppendLies
import Derived.BigRegion
import Derived.ChangeSame
import Derived.ProofKit
import Derived.Carry
import Derived.SizedLaws
import Derived.Deep.Slices
import Derived.Deep.Fields
import Derived.Lib.SmallJoins
import Derived.SliceStrings
import Derived.Deep.OwnRows
import Derived.Test.YthiimnlilfcfeaaRows
namespace Go.Proofs.Ythiimnlilfcfeaa.Co
set_option maxRecDepth 100000
set_option linter.unusedVariables false
set_option linter.unusedSimpArgs false
open Go.RowKit Ba Fm Fo Nm Rk
theorem any_snoc' {α : Type} (p : α → Bool) (l : List α) (k : Nat) (h : k < l.length) : (l.take (k + 1)).any p = ((l.take k).any p || p l[k]) := any_snoc p l k _ (List.getElem?_eq_getElem h)

set_option maxRecDepth 100000 in
set_option maxHeartbeats 2000000 in
theorem meetSS (va vb : Value) (N M : Nat) (a b : List ByteArray) (w : World) (q : Bool) (ha : Sv w N va a) (hb : Sv w M vb b) (hla : a.length ≤ 1000000) (hlb : b.length ≤ 1000000) (hq : meetB a b = q) :
    Calls Try.prog 63 #[va, vb, .func (.func 60) #[] #[]] w fun e w' => e = .returned (.bool q) ∧ w = w' := by
  obtain ⟨A, c, rfl, _, _, hra⟩ := ha
  obtain ⟨C, d, rfl, _, _, hrb⟩ := hb
  have HQ := Lib.hid hq; clear hq
  go_enter Try.func63, Try.ntmps63
  go_wp2
  go_loopw [8, 10, 13] (fun _ _ i wr => ∃ k : Nat, i = .int .i64 k ∧ k ≤ a.length ∧ meetB (a.take k) b = false ∧ w = wr) (fun _ _ i _ => a.length - (intOf i).toNat)
  case atStart => exact ⟨0, rfl, Nat.zero_le _, rfl, rfl⟩
  case round =>
    obtain ⟨k, rfl, hks, hn, rfl⟩ := hrel
    by_cases hk : k < a.length
    · obtain ⟨b0, off, rfl, _, hc⟩ := hra (by omega)
      have hcell := hc k hk
      have hsn := any_snoc' (fun x => isIn x b) a k hk
      have hn' : (a.take k).any (fun x => isIn x b) = false := hn
      rw [hn', Bool.false_or] at hsn
      generalize hx : a[k] = x at *
      have hxm : x ∈ a := hx ▸ List.getElem_mem _
      have HSN := Lib.hid hsn; have HXM := Lib.hid hxm
      clear hc hn hn' hra hx hsn hxm
      go_wp2
      go_loopw [10, 19] (fun _ i wr => ∃ j : Nat, i = .int .i64 j ∧ j ≤ b.length ∧ ¬ x ∈ b.take j ∧ w = wr) (fun _ i _ => b.length - (intOf i).toNat)
      case atStart => exact ⟨0, rfl, Nat.zero_le _, by simp, rfl⟩
      case round =>
        obtain ⟨j, rfl, hjs, hj0, rfl⟩ := hrel
        by_cases hj : j < b.length
        · obtain ⟨b1, off1, rfl, _, hc1⟩ := hrb (by omega)
          have hcell1 := hc1 j hj
          clear hc1 hrb
          by_cases he : x = b[j]
          · have HE := Lib.hid (decide_eq_true he)
            have HM := Lib.hid (show meetB a b = true from meet_iff.2 ⟨x, HXM.out, he ▸ List.getElem_mem _⟩)
            clear he hj0
            go_wp2_with (go_at_call 60; refine (equal1 x b[j] _ true HE.out).mono ?_; rintro r w3 ⟨rfl, rfl⟩)
            go_ret
            exact ⟨ret_bool (by rw [← HQ.out, HM.out]), rfl⟩
          · have HE := Lib.hid (decide_eq_false he)
            have HN := Lib.hid (in_snoc b x j hj hj0 (fun h => he h.symm))
            clear he hj0
            go_wp2_with (go_at_call 60; refine (equal1 x b[j] _ false HE.out).mono ?_; rintro r w3 ⟨rfl, rfl⟩)
            go_roundw
            case rel => exact ⟨j + 1, by go_num, by omega, HN.out, by trivial⟩
            case measure => simp [intOf]; omega
        · rw [List.take_of_length_le (by omega)] at hj0
          have HN := Lib.hid (isIn_no hj0)
          clear hj0
          go_wp2
          go_roundw
          case rel => exact ⟨k + 1, by go_num, by omega, by rw [show meetB (a.take (k + 1)) b = isIn x b from HSN.out]; exact HN.out, by trivial⟩
          case measure => simp [intOf]; omega
    · rw [List.take_of_length_le (by omega)] at hn
      have hq := HQ.out
      rw [hn] at hq
      subst hq
      clear hn
      go_wp2
      go_ret
      exact ⟨rfl, rfl⟩

theorem has12 (x : ByteArray) (y : Pw) (w : World) (q : Bool) (h : Sx w w.heap.size y) (hl : y.pe.at_.length ≤ 1000000) (hq : isIn x y.pe.at_ = q) :
    Calls Try.prog 62 #[.string x, perV y] w fun e w' => e = .returned (.bool q) ∧ Below w.heap.size w w' := by
  have hb := below_new12 w (perO y)
  have h1 : Sx (w.alloc (perO y)) w.heap.size y := h.below hb
  go_enter Try.func62, Try.ntmps62
  go_wp2_with (go_at_call 49; refine (among1 _ _ y.pe.at_ x _ q h1 hl hq).mono ?_; rintro r w3 ⟨rfl, rfl⟩)
  go_ret
  exact ⟨rfl, hb⟩
theorem ofOne1 (x y : Pw) (w : World) (q : Bool) (hq : decide (x.pe.el = y.pe.el) = q) :
    Calls Try.prog 58 #[perV x, perV y] w fun e w' => e = .returned (.bool q) ∧ Below w.heap.size w w' := by
  have h := (eq_of_toList (a := x.pe.el) (b := y.pe.el)).trans hq
  have hb := (below_new12 w (perO x)).trans ((below_new12 (w.alloc (perO x)) (perO y)).mono (below_new12 w (perO x)).size)
  go_enter Try.func58, Try.ntmps58
  go_wp2
  go_ret
  exact ⟨rfl, hb⟩

def meetSPB (a : List ByteArray) (l : List Pe) : Bool := a.any fun x => l.any fun p => isIn x p.at_
def meetPPB (a b : List Pe) : Bool := a.any fun x => b.any fun y => decide (x.el = y.el)
set_option maxRecDepth 100000 in
set_option maxHeartbeats 2000000 in
theorem meetSP (va vb : Value) (a : List ByteArray) (b : List Pw) (w : World) (q : Bool) (ha : Sv w w.heap.size va a) (hb : Pv w w.heap.size vb b) (hla : a.length ≤ 1000000) (hlb : b.length ≤ 1000000) (hlx : ∀ y ∈ b, y.pe.at_.length ≤ 1000000) (hq : meetSPB a (pes b) = q) :
    Calls Try.prog 64 #[va, vb, .func (.func 62) #[] #[]] w fun e w' => e = .returned (.bool q) ∧ Below w.heap.size w w' := by
  obtain ⟨A, c, rfl, _, _, hra⟩ := ha
  obtain ⟨C, d, rfl, _, _, hrb⟩ := hb
  have HQ := Lib.hid hq; have HLX := Lib.hid hlx; clear hq hlx
  go_enter Try.func64, Try.ntmps64
  go_wp2
  go_loopw [8, 10, 13] (fun _ _ i wr => ∃ k : Nat, i = .int .i64 k ∧ k ≤ a.length ∧ meetSPB (a.take k) (pes b) = false ∧ Below w.heap.size w wr) (fun _ _ i _ => a.length - (intOf i).toNat)
  case atStart => exact ⟨0, rfl, Nat.zero_le _, rfl, Below.refl _ _⟩
  case round =>
    obtain ⟨w5, hw5⟩ : ∃ x, x = wr := ⟨_, rfl⟩
    subst hw5
    obtain ⟨k, rfl, hks, hn, hbel⟩ := hrel
    by_cases hk : k < a.length
    · obtain ⟨b0, off, rfl, hb0, hc⟩ := hra (by omega)
      have hcell := (hbel.cell (p := ⟨b0, off + k, none⟩) hb0).trans (hc k hk)
      have hsn := any_snoc' (fun x => (pes b).any fun p => isIn x p.at_) a k hk
      have hn' : (a.take k).any (fun x => (pes b).any fun p => isIn x p.at_) = false := hn
      rw [hn', Bool.false_or] at hsn
      generalize hx : a[k] = x at *
      have hxm : x ∈ a := hx ▸ List.getElem_mem _
      have HSN := Lib.hid hsn; have HXM := Lib.hid hxm; have HB0 := Lib.hid hbel
      clear hc hn hn' hra hx hsn hxm hbel
      go_wp2
      go_loopw [10, 19] (fun _ i wr => ∃ j : Nat, i = .int .i64 j ∧ j ≤ b.length ∧ (b.take j).any (fun y => isIn x y.pe.at_) = false ∧ Below w.heap.size w wr) (fun _ i _ => b.length - (intOf i).toNat)
      case atStart => exact ⟨0, rfl, Nat.zero_le _, by simp, HB0.out⟩
      case round =>
        obtain ⟨j, rfl, hjs, hj0, hbel⟩ := hrel
        by_cases hj : j < b.length
        · obtain ⟨b1, off1, y, rfl, _, hy, hcs, hsy, hym⟩ := (hrb.below hbel).at_ j hj
          obtain ⟨g0, g1⟩ := range2p hcs
          have hsn2 := any_snoc (fun y => isIn x y.pe.at_) b j y hy
          rw [hj0, Bool.false_or] at hsn2
          have hsy1 : Sx (wr.alloc (perO y)) (wr.alloc (perO y)).heap.size y := Sx.boxed hsy hbel (perO y)
          have hb1 := hbel.trans ((below_new12 wr (perO y)).mono hbel.size)
          have hyl := HLX.out y hym
          clear hcs hsy hrb hj0 hbel
          cases he : isIn x y.pe.at_ with
          | true =>
            have HE := Lib.hid he
            have HM := Lib.hid (show meetSPB a (pes b) = true from any_yes _ a x HXM.out (any_yes _ (pes b) y.pe (List.mem_map.2 ⟨y, hym, rfl⟩) he))
            have HSY := Lib.hid hsy1; have HB1 := Lib.hid hb1
            clear he hsn2 hsy1 hb1
            go_wp2_with (go_at_call 62; refine (has12 x y _ true HSY.out hyl HE.out).mono ?_; rintro r w3 ⟨rfl, hb3⟩)
            go_ret
            exact ⟨ret_bool (by rw [← HQ.out, HM.out]), HB1.out.trans (hb3.mono HB1.out.size)⟩
          | false =>
            have HE := Lib.hid he
            rw [he] at hsn2
            have HN := Lib.hid hsn2
            have HSY := Lib.hid hsy1; have HB1 := Lib.hid hb1
            clear he hsn2 hsy1 hb1
            go_wp2_with (go_at_call 62; refine (has12 x y _ false HSY.out hyl HE.out).mono ?_; rintro r w3 ⟨rfl, hb3⟩)
            go_roundw
            case rel => exact ⟨j + 1, by go_num, by omega, HN.out, HB1.out.trans (hb3.mono HB1.out.size)⟩
            case measure => simp [intOf]; omega
        · rw [List.take_of_length_le (by omega)] at hj0
          have hj1 : (pes b).any (fun p => isIn x p.at_) = false := by unfold pes; rw [List.any_map]; exact hj0
          have HN := Lib.hid hj1; have HBL := Lib.hid hbel
          clear hj0 hj1 hbel
          go_wp2
          go_roundw
          case rel => exact ⟨k + 1, by go_num, by omega, by rw [show meetSPB (a.take (k + 1)) (pes b) = _ from HSN.out]; exact HN.out, HBL.out⟩
          case measure => simp [intOf]; omega
    · rw [List.take_of_length_le (by omega)] at hn
      have hq := HQ.out
      rw [hn] at hq
      subst hq
      have HBL := Lib.hid hbel
      clear hn hbel
      go_wp2
      go_ret
      exact ⟨rfl, HBL.out⟩

end Go.Proofs.Ythiimnlilfcfeaa.Co

namespace Go.Proofs.Ythiimnlilfcfeaa.Co
set_option maxRecDepth 100000
set_option linter.unusedVariables false
set_option linter.unusedSimpArgs false
open Go.RowKit Ba Fm Fo Nm Rk
set_option maxRecDepth 100000 in
set_option maxHeartbeats 2000000 in
theorem meetPP (va vb : Value) (a b : List Pw) (w : World) (q : Bool) (ha : Pv w w.heap.size va a) (hb : Pv w w.heap.size vb b) (hla : a.length ≤ 1000000) (hlb : b.length ≤ 1000000) (hq : meetPPB (pes a) (pes b) = q) :
    Calls Try.prog 70 #[va, vb, .func (.func 58) #[] #[]] w fun e w' => e = .returned (.bool q) ∧ Below w.heap.size w w' := by
  obtain ⟨A, c, rfl, _, _, hra⟩ := ha
  obtain ⟨C, d, rfl, _, _, hrb⟩ := hb
  have hq' : (a.any fun x => b.any fun y => decide (x.pe.el = y.pe.el)) = q := by
    rw [← hq]
    unfold meetPPB pes
    rw [List.any_map]
    congr 1
    funext x
    rw [Function.comp, List.any_map]
    rfl
  have HQ := Lib.hid hq'; clear hq hq'
  go_enter Try.func70, Try.ntmps70
  go_wp2
  go_loopw [8, 10, 13] (fun _ _ i wr => ∃ k : Nat, i = .int .i64 k ∧ k ≤ a.length ∧ ((a.take k).any fun x => b.any fun y => decide (x.pe.el = y.pe.el)) = false ∧ Below w.heap.size w wr) (fun _ _ i _ => a.length - (intOf i).toNat)
  case atStart => exact ⟨0, rfl, Nat.zero_le _, rfl, Below.refl _ _⟩
  case round =>
    obtain ⟨w5, hw5⟩ : ∃ x, x = wr := ⟨_, rfl⟩
    subst hw5
    obtain ⟨k, rfl, hks, hn, hbel⟩ := hrel
    by_cases hk : k < a.length
    · obtain ⟨b0, off, x, rfl, _, hx, hcs, hsx, hxm⟩ := (hra.below hbel).at_ k hk
      obtain ⟨g0, g1⟩ := range2p hcs
      have hsn := any_snoc (fun x => b.any fun y => decide (x.pe.el = y.pe.el)) a k x hx
      rw [hn, Bool.false_or] at hsn
      obtain ⟨w6, hw6⟩ : ∃ w6, w5.alloc (perO x) = w6 := ⟨_, rfl⟩
      have hb6 : Below w5.heap.size w5 w6 := hw6 ▸ below_new12 w5 (perO x)
      have hbk : ∀ j w3, Below w6.heap.size w6 w3 → w3.cell? ⟨w5.heap.size, j, none⟩ = (pcells x)[j]? := fun j w3 h => by subst hw6; exact pbox_kept h j
      have hz6 : w6.heap.size = w5.heap.size + 1 := by rw [← hw6]; simp
      have hB6 := hbel.trans (hb6.mono hbel.size)
      have HSN := Lib.hid hsn; have HXM := Lib.hid hxm; have HB6 := Lib.hid hB6; have HBK := Lib.hid hbk; have HW6 := Lib.hid hw6
      clear hcs hsx hn hra hx hsn hxm hbel hb6 hbk hB6 hw6
      go_wp2
      rw [HW6.out]
      go_loopw [10, 19] (fun _ i wr => ∃ j : Nat, i = .int .i64 j ∧ j ≤ b.length ∧ ((b.take j).any fun y => decide (x.pe.el = y.pe.el)) = false ∧ Below w6.heap.size w6 wr) (fun _ i _ => b.length - (intOf i).toNat)
      case atStart => exact ⟨0, rfl, Nat.zero_le _, by simp, Below.refl _ _⟩
      case round =>
        obtain ⟨j, rfl, hjs, hj0, hbel⟩ := hrel
        have hbel0 := HB6.out.trans (hbel.mono HB6.out.size)
        by_cases hj : j < b.length
        · obtain ⟨b1, off1, y, rfl, _, hy, hcs, hsy, hym⟩ := (hrb.below hbel0).at_ j hj
          obtain ⟨k0, k1⟩ := range2p hcs
          have hsn2 := any_snoc (fun y => decide (x.pe.el = y.pe.el)) b j y hy
          rw [hj0, Bool.false_or] at hsn2
          have hb1 := hbel.trans ((below_new12 wr (perO y)).mono hbel.size)
          have e0 : (wr.alloc (perO y)).cell? ⟨w5.heap.size, 0, none⟩ = some (.string x.pe.el) := HBK.out 0 _ hb1
          have e1 : (wr.alloc (perO y)).cell? ⟨w5.heap.size, 1, none⟩ = some (.slice x.A x.pe.at_.length x.c) := HBK.out 1 _ hb1
          clear hcs hrb hj0 hbel hbel0
          cases he : decide (x.pe.el = y.pe.el) with
          | true =>
            have HE := Lib.hid he
            have HM := Lib.hid (show (a.any fun x => b.any fun y => decide (x.pe.el = y.pe.el)) = true from any_yes _ a x HXM.out (any_yes _ b y hym he))
            have HB1 := Lib.hid hb1
            clear he hsn2 hb1 hsy
            go_wp2_with (go_at_call 58; refine (ofOne1 x y _ true HE.out).mono ?_; rintro r w3 ⟨rfl, hb3⟩)
            go_ret
            exact ⟨ret_bool (by rw [← HQ.out, HM.out]), HB6.out.trans ((HB1.out.trans (hb3.mono HB1.out.size)).mono HB6.out.size)⟩
          | false =>
            have HE := Lib.hid he
            rw [he] at hsn2
            have HN := Lib.hid hsn2
            have HB1 := Lib.hid hb1
            clear he hsn2 hb1 hsy
            go_wp2_with (go_at_call 58; refine (ofOne1 x y _ false HE.out).mono ?_; rintro r w3 ⟨rfl, hb3⟩)
            go_roundw
            case rel => exact ⟨j + 1, by go_num, by omega, HN.out, HB1.out.trans (hb3.mono HB1.out.size)⟩
            case measure => simp [intOf]; omega
        · rw [List.take_of_length_le (by omega)] at hj0
          have HN := Lib.hid hj0; have HBL := Lib.hid hbel0
          clear hj0 hbel hbel0
          go_wp2
          go_roundw
          case rel => exact ⟨k + 1, by go_num, by omega, by rw [HSN.out]; exact HN.out, HBL.out⟩
          case measure => simp [intOf]; omega
    · rw [List.take_of_length_le (by omega)] at hn
      have hq := HQ.out
      rw [hn] at hq
      subst hq
      have HBL := Lib.hid hbel
      clear hn hbel
      go_wp2
      go_ret
      exact ⟨rfl, HBL.out⟩

theorem once_snoc {l : List ByteArray} {k : Nat} (h : k < l.length) (hn : (l.take k).Nodup) (hm : l[k] ∉ l.take k) : (l.take (k + 1)).Nodup := by
  rw [List.take_succ_eq_append_getElem h, List.nodup_append]
  refine ⟨hn, by simp, fun x hx y hy e => ?_⟩
  rw [List.mem_singleton] at hy
  subst hy
  exact hm (e ▸ hx)
theorem once_no {l : List ByteArray} {k : Nat} (h : k < l.length) (hm : l[k] ∈ l.take k) : ¬ l.Nodup := fun hn => by
  rw [← List.take_append_drop k l, List.nodup_append] at hn
  exact hn.2.2 _ hm _ (by rw [List.drop_eq_getElem_cons h]; exact List.mem_cons_self) rfl
theorem meet_one (a : List ByteArray) (x : ByteArray) : meetB a [x] = isIn x a := by
  rw [Bool.eq_iff_iff, meet_iff, isIn_iff]
  constructor
  · rintro ⟨y, h1, h2⟩
    rw [List.mem_singleton] at h2
    exact h2 ▸ h1
  · exact fun h => ⟨x, h, List.mem_singleton.2 rfl⟩
theorem sv_one {w : World} {N b off c k : Nat} {l : List ByteArray} (hr : Rd w N (some ⟨b, off, none⟩) l) (hk : k < l.length) (hc : l.length ≤ c) : Sv w N (.slice (some ⟨b, off + k, none⟩) 1 (c - k)) [l[k]] := by
  refine ⟨_, _, rfl, by simp; omega, (fun e => by cases e), fun _ => ?_⟩
  obtain ⟨b', o', e, hb, hcc⟩ := hr (by omega)
  injection e with e
  injection e with e1 e2
  subst e1 e2
  exact ⟨b, off + k, rfl, hb, fun j hj => by
    have : j = 0 := by simpa using hj
    subst this
    exact hcc k hk⟩
set_option maxRecDepth 100000 in
set_option maxHeartbeats 2000000 in
theorem twiceS (v : Value) (l : List ByteArray) (w : World) (q : Bool) (h : Sv w w.heap.size v l) (hl : l.length ≤ 1000000) (hq : (!onceB l) = q) :
    Calls Try.prog 59 #[v, .func (.func 60) #[] #[]] w fun e w' => e = .returned (.bool q) ∧ Below w.heap.size w w' := by
  obtain ⟨A, c, rfl, hlc, hna, hr⟩ := h
  have HQ := Lib.hid hq; clear hq
  go_enter Try.func59, Try.ntmps59
  go_wp2
  go_loopw [5, 8] (fun _ i wr => ∃ k : Nat, i = .int .i64 k ∧ k ≤ l.length ∧ (l.take k).Nodup ∧ Below w.heap.size w wr) (fun _ i _ => l.length - (intOf i).toNat)
  case atStart => exact ⟨0, rfl, Nat.zero_le _, by simp, Below.refl _ _⟩
  case round =>
    obtain ⟨k, rfl, hks, hn, hbel⟩ := hrel
    by_cases hk : k < l.length
    · obtain ⟨b0, off, rfl, hb0, _⟩ := hr (by omega)
      have hr1 := hr.below hbel (Nat.le_refl _)
      have h1 : Sv wr w.heap.size (.slice (some ⟨b0, off, none⟩) k c) (l.take k) := ⟨_, c, by rw [List.length_take, Nat.min_eq_left hks], by rw [List.length_take]; omega, hna, hr1.take k⟩
      have h2 := sv_one hr1 hk hlc
      obtain ⟨m, hm⟩ : ∃ m, isIn l[k] (l.take k) = m := ⟨_, rfl⟩
      have hmq : ∀ n, Calls Try.prog 63 #[.slice (some ⟨b0, off, none⟩) k c, .slice (some ⟨b0, off + k, none⟩) 1 (c - k), .func (.func 60) #[] #[]] (wr.drewN n) fun e w'' => e = .returned (.bool m) ∧ ∃ m, w'' = wr.drewN m := fun n => (meetSS _ _ _ _ (l.take k) [l[k]] (wr.drewN n) m h1 h2 (by rw [List.length_take]; omega) (by simp) ((meet_one _ _).trans hm)).mono fun e w' ⟨he, hw⟩ => ⟨he, n, hw.symm⟩
      have HM := Lib.hid hmq; have HI := Lib.hid hm; have HN := Lib.hid hn
      clear hmq h1 h2 hm hn hr hr1
      have hk0 : (0 : Int) ≤ (k : Int) := by omega
      have hk1 : (k : Int) ≤ (c : Int) := by omega
      have hck : ¬ c = k := by omega
      obtain ⟨j, hj⟩ : ∃ j, k + 1 = j := ⟨_, rfl⟩
      have hj1 : IntKind.i64.wrap ((k : Int) + 1) = (j : Int) := by rw [← hj]; exact IntWalk.i64_in _ (by omega)
      have hj2 : (j : Int) ≤ (c : Int) := by omega
      have hj3 : (k : Int) ≤ (j : Int) := by omega
      have hj4 : j - k = 1 := by omega
      have HJ := Lib.hid hj
      clear hj
      cases m with
      | true =>
        have hq : true = q := by rw [← HQ.out, show onceB l = false from decide_eq_false (once_no hk (isIn_of HI.out))]; rfl
        subst hq
        go_wp2
        go_quiet ((go_at_call 63; exact HM.out _))
        go_wp2
        go_ret
        exact ⟨rfl, below_dN hbel _⟩
      | false =>
        have HN1 := Lib.hid (once_snoc hk HN.out (notIn_of HI.out))
        clear hck hj2 hj3 hj4
        have hck : ¬ c = k := by omega
        have hj2 : (j : Int) ≤ (c : Int) := by have := HJ.out; omega
        have hj3 : (k : Int) ≤ (j : Int) := by have := HJ.out; omega
        have hj4 : j - k = 1 := by have := HJ.out; omega
        go_wp2
        go_quiet ((go_at_call 63; exact HM.out _))
        go_wp2
        go_roundw
        case rel => exact ⟨k + 1, by rw [HJ.out], by omega, HN1.out, below_dN hbel _⟩
        case measure => have := HJ.out; simp [intOf]; omega
    · rw [List.take_of_length_le (by omega)] at hn
      have hq : false = q := by rw [← HQ.out, show onceB l = true from decide_eq_true hn]; rfl
      subst hq
      go_wp2
      go_ret
      exact ⟨rfl, hbel⟩

theorem meetPP_one (a : List Pe) (x : Pe) : meetPPB a [x] = isIn x.el (a.map Pe.el) := by
  rw [Bool.eq_iff_iff, isIn_iff, List.mem_map]
  unfold meetPPB
  rw [List.any_eq_true]
  constructor
  · rintro ⟨y, h1, h2⟩
    simp only [List.any_cons, List.any_nil, Bool.or_false, decide_eq_true_eq] at h2
    exact ⟨y, h1, h2⟩
  · rintro ⟨y, h1, h2⟩
    exact ⟨y, h1, by simp [h2]⟩
theorem pv_one {w : World} {N b off c k : Nat} {l : List Pw} (hr : Pr w N (some ⟨b, off, none⟩) l) (hk : k < l.length) (hc : l.length ≤ c) : Pv w N (.slice (some ⟨b, off + k * 2, none⟩) 1 (c - k)) [l[k]] := by
  refine ⟨_, _, rfl, by simp; omega, (fun e => by cases e), fun _ => ?_, fun x hx => ?_⟩
  · obtain ⟨b', o', e, hb, hcc⟩ := hr.1 (by omega)
    injection e with e
    injection e with e1 e2
    subst e1 e2
    exact ⟨b, off + k * 2, rfl, hb, fun j hj => by
      have : j = 0 := by simpa using hj
      subst this
      exact hcc k hk⟩
  · rw [List.mem_singleton] at hx
    subst hx
    exact hr.2 _ (List.getElem_mem _)
theorem pv_take {w : World} {N c k : Nat} {A : Option Addr} {l : List Pw} (hr : Pr w N A l) (hk : k ≤ l.length) (hc : l.length ≤ c) (hn : A = none → c = 0) : Pv w N (.slice A k c) (l.take k) := by
  refine ⟨A, c, by rw [List.length_take, Nat.min_eq_left hk], by rw [List.length_take]; omega, hn, fun h0 => ?_, fun x hx => hr.2 x (List.mem_of_mem_take hx)⟩
  rw [List.length_take] at h0
  obtain ⟨b, off, e, hb, hcc⟩ := hr.1 (by omega)
  refine ⟨b, off, e, hb, fun j hj => ?_⟩
  rw [List.length_take] at hj
  rw [List.getElem_take]
  exact hcc j (by omega)
set_option maxRecDepth 100000 in
set_option maxHeartbeats 2000000 in
theorem twiceP (v : Value) (l : List Pw) (w : World) (q : Bool) (h : Pv w w.heap.size v l) (hl : l.length ≤ 1000000) (hq : (!onceB ((pes l).map Pe.el)) = q) :
    Calls Try.prog 61 #[v, .func (.func 58) #[] #[]] w fun e w' => e = .returned (.bool q) ∧ Below w.heap.size w w' := by
  obtain ⟨A, c, rfl, hlc, hna, hr⟩ := h
  have HQ := Lib.hid hq; clear hq
  obtain ⟨es, hes⟩ : ∃ es, es = (pes l).map Pe.el := ⟨_, rfl⟩
  have hel : es.length = l.length := by rw [hes, List.length_map, len_pes]
  have htk : ∀ k, es.take k = (pes (l.take k)).map Pe.el := fun k => by rw [hes, ← pes_take, List.map_take]
  have hat : ∀ k (h : k < l.length), es[k]? = some l[k].pe.el := fun k h => by subst hes; simp [pes, h]
  have HE := Lib.hid hel; have HT := Lib.hid htk; have HA := Lib.hid hat
  rw [← hes] at HQ
  clear hes hel htk hat
  go_enter Try.func61, Try.ntmps61
  go_wp2
  go_loopw [5, 8] (fun _ i wr => ∃ k : Nat, i = .int .i64 k ∧ k ≤ l.length ∧ (es.take k).Nodup ∧ Below w.heap.size w wr) (fun _ i _ => l.length - (intOf i).toNat)
  case atStart => exact ⟨0, rfl, Nat.zero_le _, by simp, Below.refl _ _⟩
  case round =>
    obtain ⟨k, rfl, hks, hn, hbel⟩ := hrel
    by_cases hk : k < l.length
    · obtain ⟨b0, off, rfl, hb0, _⟩ := hr.1 (by omega)
      have hr1 := (hr.below hbel).more hbel.size
      have h1 : Pv wr wr.heap.size (.slice (some ⟨b0, off, none⟩) k c) (l.take k) := pv_take hr1 hks hlc hna
      have h2 := pv_one hr1 hk hlc
      obtain ⟨m, hm⟩ : ∃ m, isIn l[k].pe.el (es.take k) = m := ⟨_, rfl⟩
      have hmm : meetPPB (pes (l.take k)) (pes [l[k]]) = m := by
        rw [← hm, HT.out]
        exact meetPP_one _ _
      have HMC := Lib.hid (fun (wx : World) (hb : Below wr.heap.size wr wx) => meetPP _ _ (l.take k) [l[k]] wx m (h1.on hb) (h2.on hb) (by rw [List.length_take]; omega) (by simp) hmm)
      have HI := Lib.hid hm; have HN := Lib.hid hn
      clear h1 h2 hm hn hr hr1 hmm
      have hk0 : (0 : Int) ≤ (k : Int) := by omega
      have hk1 : (k : Int) ≤ (c : Int) := by omega
      have hck : ¬ c = k := by omega
      obtain ⟨j, hj⟩ : ∃ j, k + 1 = j := ⟨_, rfl⟩
      have hj1 : IntKind.i64.wrap ((k : Int) + 1) = (j : Int) := by rw [← hj]; exact IntWalk.i64_in _ (by omega)
      have hj2 : (j : Int) ≤ (c : Int) := by omega
      have hj3 : (k : Int) ≤ (j : Int) := by omega
      have hj4 : j - k = 1 := by omega
      have HJ := Lib.hid hj; have HBL := Lib.hid hbel
      clear hj hbel
      cases m with
      | true =>
        have hq : true = q := by rw [← HQ.out, show onceB es = false from decide_eq_false (once_no (k := k) (by have := HE.out; omega) (by rw [(List.getElem?_eq_some_iff.1 (HA.out k hk)).2]; exact isIn_of HI.out))]; rfl
        subst hq
        go_wp2
        go_region_with (go_at_call 70; refine (HMC.out _ (by exact bel_eq12 (Below.refl _ wr) rfl rfl rfl rfl)).mono ?_; rintro e w3 ⟨rfl, hb3⟩)
        all_goals go_wp2
        all_goals go_ret
        all_goals exact ⟨rfl, HBL.out.trans ((Below.refl _ wr).drew.trans (hb3.mono HBL.out.size))⟩
      | false =>
        have HN1 := Lib.hid (once_snoc (l := es) (k := k) (by have := HE.out; omega) HN.out (by rw [(List.getElem?_eq_some_iff.1 (HA.out k hk)).2]; exact notIn_of HI.out))
        go_wp2
        go_region_with (go_at_call 70; refine (HMC.out _ (by exact bel_eq12 (Below.refl _ wr) rfl rfl rfl rfl)).mono ?_; rintro e w3 ⟨rfl, hb3⟩)
        all_goals go_wp2
        all_goals go_roundw
        case rel => exact ⟨k + 1, by rw [HJ.out], by omega, HN1.out, HBL.out.trans ((Below.refl _ wr).drew.trans (hb3.mono HBL.out.size))⟩
        case measure => have := HJ.out; simp [intOf]; omega
    · rw [List.take_of_length_le (by have := HE.out; omega)] at hn
      have hq : false = q := by rw [← HQ.out, show onceB es = true from decide_eq_true hn]; rfl
      subst hq
      go_wp2
      go_ret
      exact ⟨rfl, hbel⟩

end Go.Proofs.Ythiimnlilfcfeaa.Co

namespace Go.Proofs.Ythiimnlilfcfeaa.Co
set_option maxRecDepth 100000
set_option linter.unusedVariables false
set_option linter.unusedSimpArgs false
open Go.RowKit Ba Fm Fo
/-- app_one, the new string's block named. -/
theorem app_oneG {ops : Array Oper} {rest : List Oper} {o : Oper} {a : Act} {Q : Exit → Act → World → Prop} (w : World) (hgd : o.guard = none) (s x : Operand)
    (ho : o.op = .call { callee := .builtin .append, args := #[s, x], argTypes := #[22, 22] })
    (N : Nat) (v : Value) (l : List ByteArray) (y : ByteArray) (hs : a.eval s = v) (hown : Sown N w v l) (g : Nat) (hgz : g = w.heap.size) (hx : a.eval x = .slice (some ⟨g, 0, none⟩) 1 1)
    (hl : (l.length + 1) * 16 ≤ 140737488355328) (hN : N ≤ w.heap.size)
    (h : ∀ v' w', Sown N w' v' (l ++ [y]) → (∀ w0, Below N w0 w → Below N w0 w') → wpList Try.prog ops Q rest (a.put o.dst v') w') :
    wpList Try.prog ops Q (o :: rest) a (w.alloc (.cells #[.string y] 9)) := by
  subst hgz
  exact app_one w hgd s x ho N v l y hs hown hx hl hN fun v' w' h1 h2 _ => h v' w' h1 h2
theorem grown_none {w0 w w1 : World} {row : Option Nat} (hg : w0.grownBy w none) (h2 : w.grownBy w1 row) : w0.grownBy w1 row :=
  ⟨h2.os.trans hg.os, h2.tape.trans hg.tape, h2.output.trans hg.output, Nat.le_trans hg.size h2.size, fun i hi hne => (h2.block i (Nat.lt_of_lt_of_le hi hg.size) hne).trans (hg.block i hi (by simp))⟩
theorem grown_drew (w : World) (n : Nat) (row : Option Nat) : w.grownBy (w.drewN n) row := ⟨rfl, rfl, rfl, Nat.le_refl _, fun _ _ _ => rfl⟩
theorem step_app_per {ops : Array Oper} {o : Oper} {a : Act} {K : Act → World → Prop} {Q : Exit → Act → World → Prop} {E : Prop} (W : World) (hgd : o.guard = none) (s x : Operand)
    (ho : o.op = .call { callee := .builtin .append, args := #[s, x], argTypes := #[23, 23] })
    (W0 : World) (N : Nat) (v : Value) (l : List Pw) (z : Pw) (hr : Po N W0 v l) (hz1 : Sx W0 W0.heap.size z) (hz2 : Ap W0 N z) (hg : W0.grownBy W none) (hN : N ≤ W0.heap.size) (hl : l.length ≤ 2000000)
    (hs : a.eval s = v) (g0 : Nat) (hx : a.eval x = .slice (some ⟨g0, 0, none⟩) 1 1) (hz : W.heap[g0]? = some (perO z))
    (h : ∀ v' w', Po N w' v' (l ++ [z]) → W0.grownBy w' v.ownBlock → K (a.put o.dst v') w') :
    if Region.wanted o (yielded ops a.tmps) = true then Oper.wp Try.prog o a W K Q else E := by
  obtain ⟨i0, hi, hz0, hz1', hz2'⟩ := info_parts info_per
  have hown : W.ownsRow N 39 2 v l.length (l.flatMap pcells) := World.ownsRow.kept hr.1 hg (by cases hv : v.ownBlock with
    | none => exact .inl rfl
    | some k => right; simp)
  refine step_append_lies W hgd s x 23 ho N 39 i0 _ 2 40 Try.underlying23 hi hz0 hz1' hz2' rfl (by decide) v l.length (l.flatMap pcells) hs hown ⟨g0, 0, none⟩ 1 1 (pcells z) hx rfl (fun j u hu => World.news_of_block hz j u hu) (pcells_one z) (by decide) (by unfold maxLen; omega) (by omega) (Nat.le_trans hN hg.size) _ rfl ?_
  intro g cap w1 h1 h2 _ _
  have hgw : W0.grownBy w1 v.ownBlock := grown_none hg h2
  refine h _ w1 ⟨by rw [List.length_append, List.flatMap_append]; simpa using h1, fun y hy => ?_⟩ hgw
  rcases List.mem_append.1 hy with hy | hy
  · exact ⟨(hr.2 y hy).1.grown hr.1 hgw (hr.2 y hy).2, (hr.2 y hy).2.grown hr.1 hgw⟩
  · obtain rfl := List.mem_singleton.1 hy
    exact ⟨hz1.grown hr.1 hgw hz2, hz2.grown hr.1 hgw⟩

/-- append of names that lie somewhere, in whatever order, onto names of the call's own. -/
theorem step_app_strs {ops : Array Oper} {o : Oper} {a : Act} {K : Act → World → Prop} {Q : Exit → Act → World → Prop} {E : Prop} (W : World) (hgd : o.guard = none) (s x : Operand)
    (ho : o.op = .call { callee := .builtin .append, args := #[s, x], argTypes := #[22, 22] })
    (N : Nat) (v u : Value) (l m : List ByteArray) (hr : Sown N W v l) (hu : Sv W W.heap.size u m) (hN : N ≤ W.heap.size) (hl : l.length + m.length ≤ 2000000)
    (hs : a.eval s = v) (hx : a.eval x = u)
    (h : ∀ v' w', Sown N w' v' (l ++ m) → W.grownBy w' v.ownBlock → K (a.put o.dst v') w') :
    if Region.wanted o (yielded ops a.tmps) = true then Oper.wp Try.prog o a W K Q else E := by
  rw [if_pos (show Region.wanted o (yielded ops a.tmps) = true by simp [Region.wanted, hgd])]
  obtain ⟨i0, hi, hz0, hz1, hz2⟩ := info_parts info_str
  obtain ⟨A, c, rfl, hc, hn, hrd⟩ := hu
  cases A with
  | none =>
    have hm : m = [] := by
      rcases Nat.eq_zero_or_pos m.length with h0 | h0
      · exact List.eq_nil_of_length_eq_zero h0
      · obtain ⟨b, off, e, _⟩ := hrd h0
        cases e
    subst hm
    have hc0 := hn rfl
    subst hc0
    have hrun := run_append_owned_none (P := Try.prog) (w := W) N 22 o.type 9 i0 1 Try.underlying22 hi v l.length (l.map sc) hr
    have hx' : a.eval x = .slice none 0 0 := hx
    have hk := h v W (by rw [List.append_nil]; exact hr) (World.grownBy.refl _ _)
    unfold Oper.wp
    simp [execOp, ho, resolve, invoke, builtin, hs, hx', hrun, Result.andThen]
    exact hk
  | some ad =>
    have hcells : ∀ j w, (m.map sc)[j]? = some w → W.cell? (ad.add j) = some w := by
      intro j u hu
      have hj : j < m.length := by
        have := (List.getElem?_eq_some_iff.1 hu).1
        rwa [List.length_map] at this
      obtain ⟨b, off, e, _, hcc⟩ := hrd (by omega)
      injection e with e
      subst e
      rw [WideShapes.add_plain, hcc j hj]
      rw [List.getElem?_map, List.getElem?_eq_getElem hj] at hu
      exact hu
    obtain ⟨v', w', hrun, h2, h3, _⟩ := run_append_own_at (P := Try.prog) W N 22 o.type 9 i0 (.string .empty) 1 16 Try.underlying22 hi hz0 hz1 hz2 rfl (by decide) v l.length (l.map sc) hr ad m.length c (m.map sc) (by simp) hcells (fun u hu => by obtain ⟨y, _, rfl⟩ := List.mem_map.1 hu; rfl) (by unfold maxLen; omega) (by omega) hN
    have hk := h v' w' (Sown.appended h2 rfl) h3
    unfold Oper.wp
    simp [execOp, ho, resolve, invoke, builtin, hs, hx, hrun, Result.andThen]
    exact hk

end Go.Proofs.Ythiimnlilfcfeaa.Co

namespace Go.Proofs.Ythiimnlilfcfeaa.Fo
set_option maxRecDepth 100000
set_option linter.unusedSimpArgs false
set_option linter.unusedVariables false
open Go.RowKit Ba Fm
theorem space_any (c : UInt8) (w : World) :
    Calls Try.prog 72 #[.int .u8 c.toNat] w fun e w' => e = .returned (.bool (sp c)) ∧ w = w' := by
  have e9 : ((c.toNat : Int) == 9) = (c == 9) := u8_eq (b := 9)
  have e10 : ((c.toNat : Int) == 10) = (c == 10) := u8_eq (b := 10)
  have e12 : ((c.toNat : Int) == 12) = (c == 12) := u8_eq (b := 12)
  have e13 : ((c.toNat : Int) == 13) = (c == 13) := u8_eq (b := 13)
  have e32 : ((c.toNat : Int) == 32) = (c == 32) := u8_eq (b := 32)
  cases h9 : (c == 9) <;> cases h10 : (c == 10) <;> cases h12 : (c == 12) <;> cases h13 : (c == 13) <;> cases h32 : (c == 32)
  all_goals
    rw [h9] at e9
    rw [h10] at e10
    rw [h12] at e12
    rw [h13] at e13
    rw [h32] at e32
    have H9 := Lib.hid h9; have H10 := Lib.hid h10; have H12 := Lib.hid h12; have H13 := Lib.hid h13; have H32 := Lib.hid h32
    clear h9 h10 h12 h13 h32
    go_enter Try.func72, Try.ntmps72
    go_wp2
    go_ret
    exact ⟨ret_bool (by unfold sp; rw [H9.out, H10.out, H12.out, H13.out, H32.out]; rfl), rfl⟩

end Go.Proofs.Ythiimnlilfcfeaa.Fo

namespace Go.Proofs.Ythiimnlilfcfeaa.Na
set_option maxRecDepth 100000
set_option linter.unusedSimpArgs false
set_option linter.unusedVariables false
open Go.RowKit Ba Fm Fo Nm
theorem u8_range {c : UInt8} : (decide ((65 : UInt8) ≤ c) && decide (c ≤ 90)) = (decide ((65 : Int) ≤ c.toNat) && decide ((c.toNat : Int) ≤ 90)) := by
  rw [Bool.eq_iff_iff]
  simp only [Bool.and_eq_true, decide_eq_true_eq, UInt8.le_iff_toNat_le]
  have e65 : (65 : UInt8).toNat = 65 := rfl
  have e90 : (90 : UInt8).toNat = 90 := rfl
  rw [e65, e90]
  omega
theorem u8_small {c : UInt8} : small c = (decide ((97 : Int) ≤ c.toNat) && decide ((c.toNat : Int) ≤ 122)) := by
  unfold small
  rw [Bool.eq_iff_iff]
  simp only [Bool.and_eq_true, decide_eq_true_eq, UInt8.le_iff_toNat_le]
  have e65 : (97 : UInt8).toNat = 97 := rfl
  have e90 : (122 : UInt8).toNat = 122 := rfl
  rw [e65, e90]
  omega

def elBAll (s : ByteArray) : Bool := (L s).all elB
def atBAll (s : ByteArray) : Bool := (L s).all atB
theorem all_snoc (p : UInt8 → Bool) (s : ByteArray) (k : Nat) (h : k < s.size) : ((L s).take (k + 1)).all p = (((L s).take k).all p && p s[k]) := by
  rw [take_snoc s k h, List.all_append]; simp
theorem all_no (p : UInt8 → Bool) (s : ByteArray) (k : Nat) (h : k < s.size) (hb : p s[k] = false) : (L s).all p = false := by
  rw [List.all_eq_false]
  exact ⟨s[k], List.getElem_mem (by rw [size_L]; exact h), by simp [hb]⟩

set_option maxHeartbeats 1000000 in
theorem inElement_any (c : UInt8) (w : World) :
    Calls Try.prog 68 #[.int .u8 c.toNat] w fun e w' => e = .returned (.bool (elB c)) ∧ w = w' := by
  have e0 : ((c.toNat : Int) == 0) = (c == 0) := u8_eq (b := 0)
  have e47 : ((c.toNat : Int) == 47) = (c == 47) := u8_eq (b := 47)
  have e62 : ((c.toNat : Int) == 62) = (c == 62) := u8_eq (b := 62)
  have hr := u8_range (c := c)
  have he : elB c = !(sp c || (decide ((65 : UInt8) ≤ c) && decide (c ≤ 90)) || c == 0 || c == 47 || c == 62) := rfl
  rw [hr] at he
  obtain ⟨q, hq⟩ : ∃ q, elB c = q := ⟨_, rfl⟩
  rw [hq] at he ⊢
  clear hr hq
  cases h0 : (c == 0) <;> cases h47 : (c == 47) <;> cases h62 : (c == 62)
  all_goals
    rw [h0] at e0
    rw [h47] at e47
    rw [h62] at e62
    rw [h0, h47, h62] at he
    clear h0 h47 h62
  case false.false.false =>
    cases hs : sp c <;> by_cases h1 : (65 : Int) ≤ c.toNat <;> by_cases h2 : (c.toNat : Int) ≤ 90
    all_goals
      have HE := Lib.hid he; have HS := Lib.hid hs
      clear he hs
      first
      | omega
      | (go_enter Try.func68, Try.ntmps68
         go_wp2_with (go_at_call 72; refine (space_any c _).mono ?_; rw [HS.out]; rintro e w' ⟨rfl, rfl⟩)
         go_ret
         exact ⟨ret_bool (by rw [HE.out, HS.out]; simp [h1, h2]), rfl⟩)
  all_goals
    have HE := Lib.hid he
    clear he
    go_enter Try.func68, Try.ntmps68
    go_wp2
    go_ret
    exact ⟨ret_bool (by rw [HE.out]; simp), rfl⟩

set_option maxHeartbeats 1000000 in
theorem inAttr_any (c : UInt8) (w : World) :
    Calls Try.prog 69 #[.int .u8 c.toNat] w fun e w' => e = .returned (.bool (atB c)) ∧ w = w' := by
  have e34 : ((c.toNat : Int) == 34) = (c == 34) := u8_eq (b := 34)
  have e39 : ((c.toNat : Int) == 39) = (c == 39) := u8_eq (b := 39)
  have e60 : ((c.toNat : Int) == 60) = (c == 60) := u8_eq (b := 60)
  have e61 : ((c.toNat : Int) == 61) = (c == 61) := u8_eq (b := 61)
  have he : atB c = (elB c && !(c == 34 || c == 39 || c == 60 || c == 61)) := rfl
  obtain ⟨q, hq⟩ : ∃ q, atB c = q := ⟨_, rfl⟩
  rw [hq] at he ⊢
  clear hq
  cases h34 : (c == 34) <;> cases h39 : (c == 39) <;> cases h60 : (c == 60) <;> cases h61 : (c == 61)
  all_goals
    rw [h34] at e34
    rw [h39] at e39
    rw [h60] at e60
    rw [h61] at e61
    rw [h34, h39, h60, h61] at he
    clear h34 h39 h60 h61
    have HE := Lib.hid he
    clear he
    go_enter Try.func69, Try.ntmps69
    go_wp2_with (go_at_call 68; refine (inElement_any c _).mono ?_; rintro e w' ⟨rfl, rfl⟩)
    go_ret
    exact ⟨ret_bool (by rw [HE.out]; simp), rfl⟩

set_option maxHeartbeats 1000000 in
theorem every_el (s : ByteArray) (w : World) (hs : s.size ≤ 140737488355328) :
    Calls Try.prog 67 #[.string s, .func (.func 68) #[] #[]] w fun e w' => e = .returned (.bool (elBAll s)) ∧ w = w' := by
  go_enter Try.func67, Try.ntmps67
  go_wp2
  go_loop [8] (fun i => ∃ k : Nat, i = .int .i64 k ∧ k ≤ s.size ∧ ((L s).take k).all elB = true) (fun i => s.size - (intOf i).toNat)
  case atStart => exact ⟨0, rfl, Nat.zero_le _, by simp⟩
  case round =>
    obtain ⟨k, rfl, hks, hn⟩ := hrel
    by_cases hp : k < s.size
    · have hsn := all_snoc elB s k hp
      rw [hn] at hsn
      cases hb : elB s[k] with
      | true =>
        rw [hb] at hsn
        have HB := Lib.hid hb; have HS := Lib.hid hsn; clear hb hsn hn
        go_wp2_with (go_at_call 68; refine (inElement_any s[k] _).mono ?_; rw [HB.out]; rintro e w' ⟨rfl, rfl⟩)
        go_round
        case rel => exact ⟨k + 1, by go_num, by omega, HS.out⟩
        case measure => simp [intOf]; omega
      | false =>
        have hno : elBAll s = false := all_no elB s k hp hb
        have HB := Lib.hid hb; have HN := Lib.hid hno; clear hb hsn hn hno
        go_wp2_with (go_at_call 68; refine (inElement_any s[k] _).mono ?_; rw [HB.out]; rintro e w' ⟨rfl, rfl⟩)
        go_ret
        exact ⟨ret_bool HN.out.symm, rfl⟩
    · rw [List.take_of_length_le (by rw [size_L]; omega)] at hn
      have hn : elBAll s = true := hn
      have HN := Lib.hid hn; clear hn
      go_wp2
      go_ret
      exact ⟨ret_bool HN.out.symm, rfl⟩
set_option maxHeartbeats 1000000 in
theorem every_at (s : ByteArray) (w : World) (hs : s.size ≤ 140737488355328) :
    Calls Try.prog 67 #[.string s, .func (.func 69) #[] #[]] w fun e w' => e = .returned (.bool (atBAll s)) ∧ w = w' := by
  go_enter Try.func67, Try.ntmps67
  go_wp2
  go_loop [8] (fun i => ∃ k : Nat, i = .int .i64 k ∧ k ≤ s.size ∧ ((L s).take k).all atB = true) (fun i => s.size - (intOf i).toNat)
  case atStart => exact ⟨0, rfl, Nat.zero_le _, by simp⟩
  case round =>
    obtain ⟨k, rfl, hks, hn⟩ := hrel
    by_cases hp : k < s.size
    · have hsn := all_snoc atB s k hp
      rw [hn] at hsn
      cases hb : atB s[k] with
      | true =>
        rw [hb] at hsn
        have HB := Lib.hid hb; have HS := Lib.hid hsn; clear hb hsn hn
        go_wp2_with (go_at_call 69; refine (inAttr_any s[k] _).mono ?_; rw [HB.out]; rintro e w' ⟨rfl, rfl⟩)
        go_round
        case rel => exact ⟨k + 1, by go_num, by omega, HS.out⟩
        case measure => simp [intOf]; omega
      | false =>
        have hno : atBAll s = false := all_no atB s k hp hb
        have HB := Lib.hid hb; have HN := Lib.hid hno; clear hb hsn hn hno
        go_wp2_with (go_at_call 69; refine (inAttr_any s[k] _).mono ?_; rw [HB.out]; rintro e w' ⟨rfl, rfl⟩)
        go_ret
        exact ⟨ret_bool HN.out.symm, rfl⟩
    · rw [List.take_of_length_le (by rw [size_L]; omega)] at hn
      have hn : atBAll s = true := hn
      have HN := Lib.hid hn; clear hn
      go_wp2
      go_ret
      exact ⟨ret_bool HN.out.symm, rfl⟩

theorem nil_size {s : ByteArray} (h : s.toList = []) : s.size = 0 := by
  rw [toList_L] at h
  rw [← size_L, h]; rfl
theorem not_nil {s : ByteArray} (h : ¬ s.size = 0) : ¬ s.toList = [] := fun e => h (nil_size e)
theorem nil_of {s : ByteArray} (h : s.size = 0) : s.toList = [] := by
  rw [toList_L]
  exact List.eq_nil_of_length_eq_zero (by rw [size_L]; exact h)
theorem attrB_nil {s : ByteArray} (h : s.size = 0) : attrB s = false := by
  unfold attrB
  rw [← toList_L, nil_of h]; rfl
theorem rightB_nil {s : ByteArray} (h : s.size = 0) : rightB s = false := by
  unfold rightB
  rw [← toList_L, nil_of h]; rfl
theorem attrB_cons {s : ByteArray} (h : ¬ s.size = 0) : attrB s = atBAll s := by
  unfold attrB atBAll
  have := drop_cons s 0 (by omega)
  rw [List.drop_zero] at this
  rw [this]; rfl
theorem rightB_cons {s : ByteArray} (h : 0 < s.size) : rightB s = (small s[0] && elBAll s) := by
  unfold rightB elBAll
  have := drop_cons s 0 h
  rw [List.drop_zero] at this
  rw [this]; rfl

set_option maxHeartbeats 1000000 in
theorem attr_any (s : ByteArray) (w : World) (hs : s.size ≤ 140737488355328) :
    Calls Try.prog 57 #[.string s] w fun e w' => e = .returned (.bool (attrB s)) ∧ w = w' := by
  by_cases h0 : s.size = 0
  · rw [attrB_nil h0]
    have hn := nil_of h0
    clear h0
    go_enter Try.func57, Try.ntmps57
    go_wp2
    go_ret
    exact ⟨rfl, rfl⟩
  · rw [attrB_cons h0]
    have hn := not_nil h0
    clear h0
    go_enter Try.func57, Try.ntmps57
    go_wp2_with fail
    refine (every_at s w hs).mono ?_
    rintro e w' ⟨rfl, rfl⟩
    go_wp2
    go_ret
    exact ⟨ret_bool (by simp [hn]), rfl⟩
set_option maxHeartbeats 1000000 in
theorem right_any (s : ByteArray) (w : World) (hs : s.size ≤ 140737488355328) :
    Calls Try.prog 56 #[.string s] w fun e w' => e = .returned (.bool (rightB s)) ∧ w = w' := by
  by_cases h0 : s.size = 0
  · rw [rightB_nil h0]
    have hn := nil_of h0
    clear h0
    go_enter Try.func56, Try.ntmps56
    go_wp2
    go_ret
    exact ⟨rfl, rfl⟩
  · have hp : 0 < s.size := by omega
    have he := rightB_cons hp
    rw [u8_small] at he
    obtain ⟨q, hq⟩ : ∃ q, rightB s = q := ⟨_, rfl⟩
    rw [hq] at he ⊢
    have hn := not_nil h0
    clear h0 hq
    have HE := Lib.hid he
    clear he
    by_cases h1 : (97 : Int) ≤ s[0].toNat <;> by_cases h2 : (s[0].toNat : Int) ≤ 122
    all_goals
      go_enter Try.func56, Try.ntmps56
      go_wp2_with (go_at_call 67; refine (every_el s _ hs).mono ?_; rintro e w' ⟨rfl, rfl⟩)
      go_ret
      refine ⟨ret_bool ?_, rfl⟩
      rw [HE.out]
      by_cases g1 : (97 : Int) ≤ s[0].toNat
      · by_cases g2 : (s[0].toNat : Int) ≤ 122
        · rw [decide_eq_true g1, decide_eq_true g2]
          first | rfl | (simp [hn]; done) | (exfalso; omega)
        · rw [decide_eq_false g2, decide_eq_true g1]
          first | rfl | (exfalso; omega)
      · rw [decide_eq_false g1]
        first | rfl | (exfalso; omega)

end Go.Proofs.Ythiimnlilfcfeaa.Na

namespace Go.Proofs.Ythiimnlilfcfeaa.Fo
set_option maxRecDepth 100000
set_option linter.unusedSimpArgs false
set_option linter.unusedVariables false
open Go.RowKit Ba Fm
end Go.Proofs.Ythiimnlilfcfeaa.Fo

namespace Go.Proofs.Ythiimnlilfcfeaa.Na
set_option maxRecDepth 100000
set_option linter.unusedSimpArgs false
set_option linter.unusedVariables false
open Go.RowKit Ba Fm Fo Nm
end Go.Proofs.Ythiimnlilfcfeaa.Na

namespace Go.Proofs.Ythiimnlilfcfeaa.Co
set_option maxRecDepth 100000
set_option linter.unusedVariables false
set_option linter.unusedSimpArgs false
open Go.RowKit Ba Fm Fo Nm Rk
end Go.Proofs.Ythiimnlilfcfeaa.Co

namespace Go.Proofs.Ythiimnlilfcfeaa.Fo
set_option maxRecDepth 100000
set_option linter.unusedSimpArgs false
set_option linter.unusedVariables false
open Go.RowKit Ba Fm
end Go.Proofs.Ythiimnlilfcfeaa.Fo

namespace Go.Proofs.Ythiimnlilfcfeaa.Co
set_option maxRecDepth 100000
set_option linter.unusedVariables false
set_option linter.unusedSimpArgs false
open Go.RowKit Ba Fm Fo Nm Rk
theorem drew_more {w wr : World} {m n : Nat} (h : wr = w.drewN m) : wr.drewN n = w.drewN (m + n) := by rw [h]; simp [World.drewN, Nat.add_assoc]
theorem below_two (w : World) (o p : Obj) : Below w.heap.size w ((w.alloc o).alloc p) := (below_new12 w o).trans ((below_new12 (w.alloc o) p).mono (below_new12 w o).size)
theorem equal_drew (A C : Option Addr) (c d : Nat) (l : List ByteArray) (w : World) (hr : Rd w w.heap.size A l) (hq : Rd w w.heap.size C l) (hl : l.length ≤ 1000000) :
    Calls Try.prog 40 #[.slice A l.length c, .slice C l.length d] w fun e w' => e = .returned (.bool true) ∧ ∃ m, w' = w.drewN m := by
  go_enter Try.func40, Try.ntmps40
  go_wp2
  go_loopw [5] (fun i wr => ∃ k : Nat, i = .int .i64 k ∧ k ≤ l.length ∧ ∃ m, wr = w.drewN m) (fun i _ => l.length - (intOf i).toNat)
  case atStart => exact ⟨0, rfl, Nat.zero_le _, 0, rfl⟩
  case round =>
    obtain ⟨k, rfl, hks, m, hw⟩ := hrel
    have hbel : Below w.heap.size w wr := hw ▸ below_dN (Below.refl _ _) m
    have HW := Lib.hid hw
    clear hw
    by_cases hp : k < l.length
    · obtain ⟨b, off, rfl, hb1, hc⟩ := hr (by omega)
      obtain ⟨b', off', rfl, hb2, hc'⟩ := hq (by omega)
      have hcell : wr.cell? ⟨b, off + k, none⟩ = some (.string l[k]) := (hbel.cell (p := ⟨b, off + k, none⟩) hb1).trans (hc k hp)
      have hcell' : wr.cell? ⟨b', off' + k, none⟩ = some (.string l[k]) := (hbel.cell (p := ⟨b', off' + k, none⟩) hb2).trans (hc' k hp)
      clear hc hc' hr hq hb1 hb2 hbel
      have hk0 : (0 : Int) ≤ (k : Int) := by omega
      have hk1 : (k : Int) < (l.length : Int) := by omega
      go_wp2
      go_quiet (fail)
      go_wp2
      go_roundw
      case rel => exact ⟨k + 1, by go_num, by omega, _, drew_more HW.out⟩
      case measure => simp [intOf]; omega
    · clear hbel
      go_wp2
      go_ret
      exact ⟨rfl, m, HW.out⟩
theorem eq12 (u v : Value) (l : List ByteArray) (w0 w : World) (hu : Sv w0 w0.heap.size u l) (hv : Sv w0 w0.heap.size v l) (hl : l.length ≤ 1000000) (hb : Below w0.heap.size w0 w) :
    Calls Try.prog 40 #[u, v] w fun e w' => e = .returned (.bool true) ∧ Below w0.heap.size w0 w' := by
  obtain ⟨A, c, rfl, _, _, hr⟩ := sv_on hu hb
  obtain ⟨C, d, rfl, _, _, hq⟩ := sv_on hv hb
  exact (equal_drew A C c d l w hr hq hl).mono fun e w' ⟨he, m, hw⟩ => ⟨he, hw ▸ below_dN hb m⟩
theorem equal_q (u v : Value) (N : Nat) (l : List ByteArray) (w : World) (hu : Sv w N u l) (hv : Sv w N v l) (hN : N ≤ w.heap.size) (hl : l.length ≤ 1000000) (n : Nat) :
    Calls Try.prog 40 #[u, v] (w.drewN n) fun e w'' => e = .returned (.bool true) ∧ ∃ m, w'' = w.drewN m := by
  have hu' : Sv (w.drewN n) (w.drewN n).heap.size u l := Sv.more hu hN
  have hv' : Sv (w.drewN n) (w.drewN n).heap.size v l := Sv.more hv hN
  obtain ⟨A, c, rfl, _, _, hr⟩ := hu'
  obtain ⟨C, d, rfl, _, _, hq⟩ := hv'
  exact (equal_drew A C c d l _ hr hq hl).mono fun e w' ⟨he, m, hw⟩ => ⟨he, n + m, by rw [hw]; simp [World.drewN, Nat.add_assoc]⟩
set_option maxRecDepth 100000 in
set_option maxHeartbeats 1000000 in
theorem refSame1 (u v : Value) (c : Cf) (w : World) (hu : Cv w w.heap.size u c) (hv : Cv w w.heap.size v c) (hs : Sm c) :
    Calls Try.prog 16 #[u, v] w fun e w' => e = .returned (.bool true) ∧ Below w.heap.size w w' := by
  obtain ⟨uE, uR, uA, uP, lu, rfl, hu⟩ := hu
  obtain ⟨vE, vR, vA, vP, lv, rfl, hv⟩ := hv
  obtain ⟨al, aa, els, reps, ats, per, cm, da⟩ := c
  obtain ⟨w0, hw0⟩ : ∃ w0, (w.alloc (.cells #[.bool al, .bool aa, uE, uR, uA, uP, .bool cm, .bool da] 25)).alloc (.cells #[.bool al, .bool aa, vE, vR, vA, vP, .bool cm, .bool da] 25) = w0 := ⟨_, rfl⟩
  have hb1 : Below w.heap.size w w0 := hw0 ▸ below_two w _ _
  have hx1 : Bx w0 w.heap.size ⟨al, aa, els, reps, ats, per, cm, da⟩ uE uR uA uP := hw0 ▸ (Bx.new w ⟨al, aa, els, reps, ats, per, cm, da⟩ uE uR uA uP).below (below_new12 _ _) (by simp)
  have hx2 : Bx w0 (w.heap.size + 1) ⟨al, aa, els, reps, ats, per, cm, da⟩ vE vR vA vP := by
    have := Bx.new (w.alloc (confO ⟨al, aa, els, reps, ats, per, cm, da⟩ uE uR uA uP)) ⟨al, aa, els, reps, ats, per, cm, da⟩ vE vR vA vP
    rw [World.size_alloc] at this
    exact hw0 ▸ this
  have hz : w.heap.size + 1 < w0.heap.size := by rw [← hw0]; simp
  have h0 := hu.on hb1
  have k0 := hv.on hb1
  have hl : lu.length ≤ 1000 := by have := hs.p; have e := hu.m; simp only at this e; rw [← e, len_pes] at this; exact this
  have hm : pes lu = pes lv := hu.m.trans hv.m.symm
  have hln : lv.length = lu.length := by rw [← len_pes lv, ← hm, len_pes]
  have hpl : ∀ x ∈ lu, x.pe.at_.length ≤ 1000 := fun x hx => by
    have hmm : x.pe ∈ per := by have := hu.m; simp only at this; rw [← this]; exact List.mem_map.2 ⟨x, hx, rfl⟩
    exact hs.pa _ hmm
  have HE := Lib.hid (fun wx hb => eq12 uE vE els w0 wx h0.e k0.e (by have := hs.e; simp only at this; omega) hb)
  have HR := Lib.hid (fun wx hb => eq12 uR vR reps w0 wx h0.r k0.r (by have := hs.r; simp only at this; omega) hb)
  have HA := Lib.hid (fun wx hb => eq12 uA vA ats w0 wx h0.a k0.a (by have := hs.a; simp only at this; omega) hb)
  obtain ⟨PA, pc, rfl, hpc, hpn, hpr⟩ := h0.p
  obtain ⟨QA, qc, rfl, hqc, hqn, hqr⟩ := k0.p
  have HX1 := Lib.hid hx1; have HX2 := Lib.hid hx2; have HB1 := Lib.hid hb1; have HP := Lib.hid hpr; have HQ := Lib.hid hqr; have HM := Lib.hid hm; have HPL := Lib.hid hpl; have HW := Lib.hid hw0
  rw [hln] at hqc HX2 HW ⊢
  have HLN := Lib.hid hln
  clear hw0 hb1 hx1 hx2 h0 k0 hu hv hs hm hpl hpr hqr hln
  go_enter Try.func16, Try.ntmps16
  go_upto_region 1 with (fail)
  rw [HW.out]
  obtain ⟨g0, g1, g2, g3, g4, g5, g6, g7⟩ := HX1.out.at_
  obtain ⟨f0, f1, f2, f3, f4, f5, f6, f7⟩ := HX2.out.at_
  go_wp2
  clear g0 g1 g2 g3 g4 g5 g6 g7 f0 f1 f2 f3 f4 f5 f6 f7
  go_loopw [5] (fun i wr => ∃ k : Nat, i = .int .i64 k ∧ k ≤ lu.length ∧ Below w0.heap.size w0 wr) (fun i _ => lu.length - (intOf i).toNat)
  case atStart => exact ⟨0, rfl, Nat.zero_le _, Below.refl _ _⟩
  case round =>
    obtain ⟨k, rfl, hks, hbel⟩ := hrel
    obtain ⟨g0, g1, g2, g3, g4, g5, g6, g7⟩ := (HX1.out.below hbel (by omega)).at_
    obtain ⟨f0, f1, f2, f3, f4, f5, f6, f7⟩ := (HX2.out.below hbel (by omega)).at_
    have hz' : w0.heap.size ≤ wr.heap.size := hbel.size
    by_cases hk : k < lu.length
    · obtain ⟨b, off, x, rfl, hb, hx, hcs, hsx, hxm⟩ := (HP.out.below hbel).at_ k hk
      obtain ⟨b', off', y, rfl, hb', hy, hcs', hsy, hym⟩ := (HQ.out.below hbel).at_ k (by rw [HLN.out]; exact hk)
      obtain ⟨k0, k1⟩ := range2p hcs
      obtain ⟨j0, j1⟩ := range2p hcs'
      have hxy : y.pe = x.pe := by
        have h1 : (pes lu)[k]? = some x.pe := by unfold pes; rw [List.getElem?_map, hx]; rfl
        have h2 : (pes lv)[k]? = some y.pe := by unfold pes; rw [List.getElem?_map, hy]; rfl
        rw [HM.out, h2] at h1
        exact Option.some.inj h1
      obtain ⟨⟨xe, xa⟩, XA, xc⟩ := x
      obtain ⟨⟨ye, ya⟩, YA, yc⟩ := y
      simp only [Pe.mk.injEq] at hxy
      obtain ⟨rfl, rfl⟩ := hxy
      have hal := HPL.out _ hxm
      simp only at k0 k1 j0 j1 hal
      have HC := Lib.hid (equal_q (.slice XA ya.length xc) (.slice YA ya.length yc) w0.heap.size ya wr hsx hsy hz' (by omega))
      have HBL := Lib.hid hbel
      have hk0 : (0 : Int) ≤ (k : Int) := by omega
      have hk1 : (k : Int) < (lu.length : Int) := by omega
      clear hcs hcs' hsx hsy hx hy hxm hym hbel g0 g1 g2 g3 g4 g6 g7 f0 f1 f2 f3 f4 f6 f7
      go_wp2
      go_quiet ((go_at_call 40; exact HC.out _))
      go_wp2
      go_roundw
      case rel => exact ⟨k + 1, by go_num, by omega, below_dN HBL.out _⟩
      case measure => simp [intOf]; omega
    · have HBL := Lib.hid hbel
      clear hbel
      go_wp2_with (go_at_call 40; first
        | ((with_reducible show Calls _ _ #[uE, vE] _ _); refine (HE.out _ HBL.out).mono ?_; rintro r wA ⟨rfl, hbA⟩; have HBA := Lib.hid hbA; obtain ⟨p0, p1, p2, p3, p4, p5, p6, p7⟩ := (HX1.out.below hbA (by omega)).at_; obtain ⟨q0, q1, q2, q3, q4, q5, q6, q7⟩ := (HX2.out.below hbA (by omega)).at_; clear hbA)
        | ((with_reducible show Calls _ _ #[uR, vR] _ _); refine (HR.out _ HBA.out).mono ?_; rintro r wB ⟨rfl, hbB⟩; have HBB := Lib.hid hbB; obtain ⟨s0, s1, s2, s3, s4, s5, s6, s7⟩ := (HX1.out.below hbB (by omega)).at_; obtain ⟨t0, t1, t2, t3, t4, t5, t6, t7⟩ := (HX2.out.below hbB (by omega)).at_; clear hbB)
        | ((with_reducible show Calls _ _ #[uA, vA] _ _); refine (HA.out _ HBB.out).mono ?_; rintro r wC ⟨rfl, hbC⟩; have HBC := Lib.hid hbC; clear hbC))
      go_ret
      exact ⟨rfl, HB1.out.trans (HBC.out.mono HB1.out.size)⟩

end Go.Proofs.Ythiimnlilfcfeaa.Co

namespace Go.Proofs.Ythiimnlilfcfeaa.Rz
set_option linter.unusedVariables false
set_option linter.unusedSimpArgs false
open Go.RowKit Go.ChangeShapes Go.WideShapes
/-- Each string that is read there, and each row of memory, is within the reach. -/
def Within {H : Type} (P : Program) (t : TypeId) (d : DataW H) : Prop := ∀ m ∈ d.weights P t, m ≤ reachBytes
theorem within_all {H : Type} {P : Program} {e : TypeId} {d : DataW H} {m : Nat} : ∀ {l : List (DataW H)}, d ∈ l → m ∈ d.weights P e → m ∈ DataW.weightsAll P e l
  | [], h, _ => by cases h
  | x :: r, h, hm => by
    rw [DataW.weightsAll, List.mem_append]
    rcases List.mem_cons.1 h with rfl | h
    · exact .inl hm
    · exact .inr (within_all h hm)
theorem Within.elem {H : Type} {P : Program} {t e : TypeId} {l sp : List (DataW H)} {d : DataW H} (h : Within P t (.slice l sp)) (ht : P.underlying t = some (.slice e)) (hd : d ∈ l) : Within P e d := fun m hm => h m (by
  simp only [DataW.weights, ht, List.mem_cons, List.mem_append]
  exact .inr (.inl (within_all hd hm)))
theorem Within.part {H : Type} {P : Program} {t : TypeId} {fs : Array Field} {l : List (DataW H)} {d : DataW H} {j : Nat} {f : Field} (h : Within P t (.agg l)) (ht : P.underlying t = some (.struct fs)) (hf : fs[j]? = some f) (hd : l[j]? = some d) : Within P f.type d := fun m hm => h m (by
  simp only [DataW.weights, ht]
  exact DataW.weights_mem_each (j := j) (by rw [List.getElem?_map, Array.getElem?_toList, hf]; rfl) hd m hm)
theorem Within.str {H : Type} {P : Program} {t : TypeId} {s : ByteArray} (h : Within P t (.lit (.string s.data.toList) : DataW H)) : s.size ≤ reachBytes := by
  have := h s.data.toList.length (by simp [DataW.weights])
  rw [Array.length_toList] at this
  exact this
theorem sized_all {H : Type} {P : Program} {ts : List TypeId} {ds : List (DataW H)} (h : (DataW.weightsEach P ts ds).all (· ≤ reachBytes) = true) {j : Nat} {t : TypeId} {d : DataW H} (ht : ts[j]? = some t) (hd : ds[j]? = some d) : Within P t d := fun m hm => by
  have := List.all_eq_true.1 h m (DataW.weights_mem_each ht hd m hm)
  simpa using this

theorem reach_le {n : Nat} (h : n ≤ reachBytes) : n ≤ 140737488355328 := Nat.le_trans h (by decide)

end Go.Proofs.Ythiimnlilfcfeaa.Rz

namespace Go.Proofs.Ythiimnlilfcfeaa.Oq
set_option linter.unusedVariables false
set_option linter.unusedSimpArgs false
open Go.RowKit Go.ChangeShapes Go.WideShapes Go.Deep
section
variable {H : Type} {enc : TypeId × Value → H} {P : Program} {w : World} {base : Nat} {spare : Nat → Bool} {held : Bool}
/-- A slice of structs of one-cell fields: its parts. -/
theorem open_rows_both {t e : TypeId} {fs : Array Field} {fuel : Nat} {cs : List Value} {x : DataW H × List MemPlace} (ht : P.underlying t = some (.slice e)) (he : P.underlying e = some (.struct fs))
    (hone : oneCellFields P fs = true) (hC : P.cellsOf e = fs.size) (h : DataW.trod enc P w base spare held fuel t cs = some x) :
    cs = [.slice none 0 0] ∨
    ∃ (a : Addr) (len cap m : Nat) (Pl : Nat → List MemPlace) (D : Nat → DataW H) (sp : List (DataW H)), cs = [.slice (some a) len cap] ∧ len ≤ cap ∧ cap ≤ maxLen ∧ m = (if spare a.block then cap else len) ∧
      x.1 = .slice ((List.range len).map D) sp ∧ x.2 = MemPlace.row a (m * fs.size) ++ (List.range m).flatMap Pl ∧
      ∀ i, i < m → ∀ (j : Nat) (f : Field), fs[j]? = some f → ∃ (v : Value) (y : DataW H × List MemPlace) (n : Nat) (parts : List (DataW H)), w.cell? (a.add (i * fs.size + j)) = some v ∧ (∀ z ∈ y.2, z ∈ Pl i) ∧ D i = .agg parts ∧ parts[j]? = some y.1 ∧ DataW.trod enc P w base spare held n f.type [v] = some y := by
  rcases open_slice ht h with ⟨h0, _⟩ | ⟨a, len, cap, m, n, D, Pl, hcs, hb, hl, hm, hmm, hx, hi⟩
  · exact .inl h0
  · refine .inr ⟨a, len, cap, m, Pl, D, _, hcs, hl, hm, hmm, by rw [hx], by rw [hx, hC], fun i him j f hj => ?_⟩
    obtain ⟨cs', hc, ht'⟩ := hi i him
    rw [hC] at hc
    obtain ⟨ys, n', hn', hy, hlen, hyl, hf⟩ := DataW.trod_struct he ht'
    obtain ⟨_, hcl, hat⟩ := World.cells?_some hc
    simp only [Prod.mk.injEq] at hy
    obtain ⟨ho, hk⟩ := hone_of hone j f hj
    have hjl : j < fs.size := (Array.getElem?_eq_some_iff.1 hj).1
    have hcell := hat j hjl
    have hv : cs'[j]? = some (cs'[j]'(by omega)) := List.getElem?_eq_getElem (by omega)
    have h1 := hf j f hj
    rw [ho, hk] at h1
    have hone' : (cs'.drop j).take 1 = [cs'[j]'(by omega)] := by
      rw [List.drop_eq_getElem_cons (by omega)]
      rfl
    rw [hone'] at h1
    have hys : ys[j]? = some (ys[j]'(by omega)) := List.getElem?_eq_getElem (by omega)
    refine ⟨_, _, n', _, ?_, fun z hz => ?_, hy.1, by rw [List.getElem?_map, hys]; rfl, h1.trans hys⟩
    · rw [← Go.Deep.add_add, hcell, hv]
    · rw [hy.2]
      exact List.mem_flatMap.2 ⟨_, List.getElem_mem _, hz⟩
end
section
variable {H : Type} {enc : TypeId × Value → H} {P : Program} {w : World} {base : Nat} {spare : Nat → Bool} {held : Bool}
theorem list_of {α : Type} (Q : Nat → α → Prop) : ∀ n : Nat, (∀ i < n, ∃ x, Q i x) → ∃ l : List α, l.length = n ∧ ∀ i (h : i < l.length), Q i l[i]
  | 0, _ => ⟨[], rfl, fun i h => absurd h (by simp)⟩
  | n + 1, h => by
    obtain ⟨l, hl, hq⟩ := list_of Q n fun i hi => h i (by omega)
    obtain ⟨x, hx⟩ := h n (by omega)
    refine ⟨l ++ [x], by rw [List.length_append, hl]; rfl, fun i hi => ?_⟩
    rw [List.length_append, List.length_singleton] at hi
    by_cases e : i < l.length
    · rw [List.getElem_append_left e]
      exact hq i e
    · have : i = l.length := by omega
      subst this
      rw [List.getElem_append_right (Nat.le_refl _)]
      simp only [Nat.sub_self, List.getElem_cons_zero]
      rw [hl]; exact hx

/-- A struct of one-cell fields: its parts. -/
theorem open_agg_any {r : Reach} {b0 : Nat} {t : TypeId} {fs : Array Field} {v : Value} {d : DataW H} {p : List MemPlace} (hs : P.underlying t = some (.struct fs)) (hone : oneCellFields P fs = true) (hC : P.cellsOf t = fs.size)
    (hv : Value.okWide P w r b0 t v) (h : DataW.Trod enc P w base spare held t v d p) :
    ∃ (cs : Array Value) (ys : List (DataW H × List MemPlace)) (n : Nat), v = .agg cs ∧ cs.size = fs.size ∧ d = .agg (ys.map (·.1)) ∧ p = ys.flatMap (·.2) ∧
      ∀ (j : Nat) (f : Field), fs[j]? = some f → ∃ (u : Value) (y : DataW H × List MemPlace), cs[j]? = some u ∧ ys[j]? = some y ∧ DataW.trod enc P w base spare held n f.type [u] = some y := by
  obtain ⟨cs, rfl, hsz⟩ := okWide_struct hs hv
  obtain ⟨fuel, hf⟩ := h
  obtain ⟨ys, n', hn', hy, hlen, hyl, hat⟩ := DataW.trod_struct hs hf
  simp only [Prod.mk.injEq] at hy
  refine ⟨cs, ys, n', rfl, hsz.trans hC, hy.1, hy.2, fun j f hj => ?_⟩
  obtain ⟨ho, hk⟩ := hone_of hone j f hj
  have hjl : j < fs.size := (Array.getElem?_eq_some_iff.1 hj).1
  have hjc : j < cs.size := by rw [hsz, hC]; exact hjl
  have h1 := hat j f hj
  rw [ho, hk] at h1
  have hcl : ((Value.agg cs).cells.toList) = cs.toList := rfl
  have hone' : (((Value.agg cs).cells.toList).drop j).take 1 = [cs[j]] := by
    rw [hcl, List.drop_eq_getElem_cons (by rw [Array.length_toList]; exact hjc)]
    simp
  rw [hone'] at h1
  have hys : ys[j]? = some (ys[j]'(by omega)) := List.getElem?_eq_getElem (by omega)
  exact ⟨cs[j], _, Array.getElem?_eq_getElem hjc, hys, h1.trans hys⟩
end
end Go.Proofs.Ythiimnlilfcfeaa.Oq

namespace Go.Proofs.Ythiimnlilfcfeaa.Fo
set_option maxRecDepth 100000
set_option linter.unusedSimpArgs false
set_option linter.unusedVariables false
open Go.RowKit Ba Go.ChangeShapes Go.WideShapes Go.ChangeAt
theorem cells_str : Try.prog.cellsOf 9 = 1 := by kernel_rfl
theorem laidOut : laidOutB Try.prog = true := by kernel_rfl

end Go.Proofs.Ythiimnlilfcfeaa.Fo

namespace Go.Proofs.Ythiimnlilfcfeaa.Co
set_option maxRecDepth 100000
set_option linter.unusedVariables false
set_option linter.unusedSimpArgs false
open Go.RowKit Ba Fm Fo Nm Rk Go.ChangeShapes Go.WideShapes Go.ChangeAt Go.Deep
open Rz (Within reach_le)
open Oq (open_rows_both open_agg_any list_of)
/-- The sizes of what it holds. -/
structure St (c : Cf) : Prop where
  es : ∀ s ∈ c.els, s.size ≤ 140737488355328
  rs : ∀ s ∈ c.reps, s.size ≤ 140737488355328
  as_ : ∀ s ∈ c.ats, s.size ≤ 140737488355328
  ps : ∀ p ∈ c.per, p.el.size ≤ 140737488355328 ∧ ∀ s ∈ p.at_, s.size ≤ 140737488355328
section
variable {H : Type} {enc : TypeId × Value → H} {w : World}
theorem svs_in {fuel : Nat} {v : Value} {x : DataW H × List MemPlace} (hz : Within Try.prog 22 x.1) (h : DataW.trod enc Try.prog w 0 (fun _ => true) true fuel 22 [v] = some x) (N : Nat) (hlt : ∀ z ∈ x.2, z.block < N) : ∃ l, Sv w N v l ∧ ∀ s ∈ l, s.size ≤ 140737488355328 := by
  rcases open_strings Try.underlying22 Try.underlying9 cells_str h with ⟨hcs, hx⟩ | ⟨a, len', cap', ss, hcs, _, hl, hm, hzz, hx, hcell, hws⟩
  · obtain rfl : v = .slice none 0 0 := by simpa using hcs
    exact ⟨[], ⟨none, 0, rfl, Nat.le_refl _, fun _ => rfl, Rd.nil _ _ _⟩, fun s hs => by cases hs⟩
  · obtain rfl : v = .slice (some a) len' cap' := by simpa using hcs
    subst hx
    simp only [if_true] at hzz
    have hlen : (ss.take len').length = len' := by rw [List.length_take]; omega
    refine ⟨ss.take len', ⟨some a, cap', by rw [hlen], by rw [hlen]; exact hl, (fun e => by cases e), fun h0 => ?_⟩, fun s hs => reach_le (hz.elem (d := .lit (.string s.data.toList)) Try.underlying22 (List.mem_map.2 ⟨s, hs, rfl⟩)).str⟩
    rw [hlen] at h0
    obtain ⟨b, off, spot⟩ := a
    have hspot : spot = none := by simpa [Addr.add] using World.cell?_spot (hcell 0 (by omega))
    subst hspot
    have hbW : b < N := hlt (.cell b off) (MemPlace.mem_row.2 ⟨0, by omega, by simp⟩)
    refine ⟨b, off, rfl, hbW, fun j hj => ?_⟩
    rw [hlen] at hj
    have := hcell j (by omega)
    rw [add_plain] at this
    rw [this, List.getElem_take]
    congr 2
    rw [List.getD_eq_getElem?_getD, List.getElem?_eq_getElem (by omega)]
    rfl
theorem pers_in {fuel : Nat} {v : Value} {x : DataW H × List MemPlace} (hz : Within Try.prog 23 x.1) (h : DataW.trod enc Try.prog w 0 (fun _ => true) true fuel 23 [v] = some x) (N : Nat) (hlt : ∀ z ∈ x.2, z.block < N) :
    ∃ l, Pv w N v l ∧ ∀ p ∈ pes l, p.el.size ≤ 140737488355328 ∧ ∀ s ∈ p.at_, s.size ≤ 140737488355328 := by
  rcases open_rows_both Try.underlying23 Try.underlying39 (by kernel_rfl) (by kernel_rfl) h with hcs | ⟨a, len', cap', m, Pl, D, sp, hcs, hl, hm, hmm, hx1, hx, hi⟩
  · obtain rfl : v = .slice none 0 0 := by simpa using hcs
    exact ⟨[], ⟨none, 0, rfl, Nat.le_refl _, fun _ => rfl, Pr.nil _ _ _⟩, fun p hp => by simp [pes] at hp⟩
  · obtain rfl : v = .slice (some a) len' cap' := by simpa using hcs
    simp only [if_true] at hmm
    subst hmm
    obtain ⟨b, off, spot⟩ := a
    have hrow : ∀ i < len', ∃ r : Pw, (∀ (j : Nat) (u : Value), (pcells r)[j]? = some u → w.cell? ((⟨b, off, spot⟩ : Addr).add (i * 2 + j)) = some u) ∧ Sx w N r ∧ r.pe.el.size ≤ 140737488355328 ∧ ∀ s ∈ r.pe.at_, s.size ≤ 140737488355328 := fun i hil => by
      obtain ⟨v0, y0, n0, q0, c0, _, D0, g0, t0⟩ := hi i (by omega) 0 _ rfl
      obtain ⟨v1, y1, n1, q1, c1, p1, D1, g1, t1⟩ := hi i (by omega) 1 _ rfl
      rw [D0] at D1
      injection D1 with D1
      subst D1
      have hzi : Within Try.prog 39 (D i) := by
        rw [hx1] at hz
        exact hz.elem Try.underlying23 (List.mem_map.2 ⟨i, List.mem_range.2 hil, rfl⟩)
      rw [D0] at hzi
      have z0 := hzi.part Try.underlying39 (j := 0) rfl g0
      have z1 := hzi.part Try.underlying39 (j := 1) rfl g1
      obtain ⟨s0, e0, b0, _⟩ := DataW.trod_string Try.underlying9 t0
      obtain rfl : v0 = .string s0 := by simpa using e0
      rw [b0] at z0
      obtain ⟨l, hs, hk⟩ := svs_in z1 t1 N fun z hzz => hlt z (by
        rw [hx]
        exact List.mem_append_right _ (List.mem_flatMap.2 ⟨i, List.mem_range.2 (by omega), p1 z hzz⟩))
      have hs' := hs
      obtain ⟨A, c, rfl, _, _, _⟩ := hs'
      refine ⟨⟨⟨s0, l⟩, A, c⟩, fun j u hu => ?_, hs, reach_le z0.str, hk⟩
      match j, hu with
      | 0, hu => exact c0.trans hu
      | 1, hu => exact c1.trans hu
      | j + 2, hu => exact absurd hu (by simp [pcells])
    obtain ⟨l, hll, hq⟩ := list_of _ len' hrow
    refine ⟨l, ⟨some ⟨b, off, spot⟩, _, by rw [hll], by omega, (fun e => by cases e), fun h0 => ?_, fun r hr => ?_⟩, fun p hp => ?_⟩
    · have hspot : spot = none := by
        have := World.cell?_spot ((hq 0 h0).1 0 _ rfl)
        simpa [Addr.add] using this
      subst hspot
      refine ⟨b, off, rfl, hlt (.cell b off) (by rw [hx]; exact List.mem_append_left _ (MemPlace.mem_row.2 ⟨0, by show 0 < _ * 2; omega, by simp⟩)), fun j hj k u hu => ?_⟩
      have := (hq j hj).1 k u hu
      rw [add_plain] at this
      rw [show off + j * 2 + k = off + (j * 2 + k) by omega]
      exact this
    · obtain ⟨j, hj, rfl⟩ := List.getElem_of_mem hr
      exact (hq j hj).2.1
    · obtain ⟨z, hz', rfl⟩ := List.mem_map.1 hp
      obtain ⟨j, hj, rfl⟩ := List.getElem_of_mem hz'
      exact (hq j hj).2.2
theorem open_cf {base : Nat} {v : Value} {d : DataW H} {p : List MemPlace} (hz : Within Try.prog 25 d) (hv : Value.okWide Try.prog w .any base 25 v)
    (h : ∃ fuel, DataW.trod enc Try.prog w 0 (fun _ => true) true fuel 25 v.cells.toList = some (d, p)) (hlt : ∀ z ∈ p, z.block < w.heap.size) : ∃ c, Cv w w.heap.size v c ∧ St c := by
  obtain ⟨cs, ys, n, rfl, hcs, hd, hp, hat⟩ := open_agg_any Try.underlying25 (by kernel_rfl) (by kernel_rfl) hv h
  obtain ⟨v0, y0, c0, g0, t0⟩ := hat 0 _ rfl
  obtain ⟨v1, y1, c1, g1, t1⟩ := hat 1 _ rfl
  obtain ⟨v2, y2, c2, g2, t2⟩ := hat 2 _ rfl
  obtain ⟨v3, y3, c3, g3, t3⟩ := hat 3 _ rfl
  obtain ⟨v4, y4, c4, g4, t4⟩ := hat 4 _ rfl
  obtain ⟨v5, y5, c5, g5, t5⟩ := hat 5 _ rfl
  obtain ⟨v6, y6, c6, g6, t6⟩ := hat 6 _ rfl
  obtain ⟨v7, y7, c7, g7, t7⟩ := hat 7 _ rfl
  subst hd
  have gm : ∀ {j : Nat} {y : DataW H × List MemPlace}, ys[j]? = some y → (ys.map (·.1))[j]? = some y.1 := fun h => by rw [List.getElem?_map, h]; rfl
  have lt : ∀ {j : Nat} {y : DataW H × List MemPlace}, ys[j]? = some y → ∀ z ∈ y.2, z.block < w.heap.size := fun h z hzz => hlt z (by
    rw [hp]
    exact List.mem_flatMap.2 ⟨_, List.mem_of_getElem? h, hzz⟩)
  obtain ⟨b0, e0, _⟩ := DataW.trod_bool Try.underlying4 t0
  obtain ⟨b1, e1, _⟩ := DataW.trod_bool Try.underlying4 t1
  obtain ⟨lE, sE, kE⟩ := svs_in (hz.part Try.underlying25 (j := 2) rfl (gm g2)) t2 w.heap.size (lt g2)
  obtain ⟨lR, sR, kR⟩ := svs_in (hz.part Try.underlying25 (j := 3) rfl (gm g3)) t3 w.heap.size (lt g3)
  obtain ⟨lA, sA, kA⟩ := svs_in (hz.part Try.underlying25 (j := 4) rfl (gm g4)) t4 w.heap.size (lt g4)
  obtain ⟨lP, sP, kP⟩ := pers_in (hz.part Try.underlying25 (j := 5) rfl (gm g5)) t5 w.heap.size (lt g5)
  obtain ⟨b6, e6, _⟩ := DataW.trod_bool Try.underlying4 t6
  obtain ⟨b7, e7, _⟩ := DataW.trod_bool Try.underlying4 t7
  obtain rfl : v0 = .bool b0 := by simpa using e0
  obtain rfl : v1 = .bool b1 := by simpa using e1
  obtain rfl : v6 = .bool b6 := by simpa using e6
  obtain rfl : v7 = .bool b7 := by simpa using e7
  refine ⟨⟨b0, b1, lE, lR, lA, pes lP, b6, b7⟩, ⟨v2, v3, v4, v5, lP, ?_, sE, sR, sA, sP, rfl⟩, kE, kR, kA, kP⟩
  have hcs8 : cs.size = 8 := hcs
  congr 1
  apply Array.ext_getElem?
  intro i
  match i with
  | 0 => exact c0
  | 1 => exact c1
  | 2 => exact c2
  | 3 => exact c3
  | 4 => exact c4
  | 5 => exact c5
  | 6 => exact c6
  | 7 => exact c7
  | i + 8 => rw [Array.getElem?_eq_none (by omega), Array.getElem?_eq_none (by simp)]
end

end Go.Proofs.Ythiimnlilfcfeaa.Co

namespace Go.Proofs.Ythiimnlilfcfeaa.Co
set_option maxRecDepth 100000
set_option linter.unusedVariables false
set_option linter.unusedSimpArgs false
open Go.RowKit Ba Fm Fo
def pickW (l : List Pw) (e : ByteArray) : List Pw := l.filter fun x => decide (x.pe.el = e) && decide (x.pe.at_ ≠ [])
theorem pes_pickW (l : List Pw) (e : ByteArray) : pes (pickW l e) = pickP (pes l) e := by
  unfold pes pickW pickP
  rw [List.filter_map]
  rfl
theorem pickW_snoc {l : List Pw} {k : Nat} {x : Pw} (h : l[k]? = some x) (e : ByteArray) : pickW (l.take (k + 1)) e = pickW (l.take k) e ++ if x.pe.el = e ∧ x.pe.at_ ≠ [] then [x] else [] := by
  have hk : k < l.length := (List.getElem?_eq_some_iff.1 h).1
  have hx : l[k] = x := (List.getElem?_eq_some_iff.1 h).2
  unfold pickW
  rw [List.take_succ_eq_append_getElem hk, List.filter_append, hx]
  congr 1
  by_cases h1 : x.pe.el = e <;> by_cases h2 : x.pe.at_ = [] <;> simp [h1, h2]
theorem mem_pickW {l : List Pw} {e : ByteArray} {x : Pw} (h : x ∈ pickW l e) : x ∈ l := (List.mem_filter.1 h).1
theorem len_pickW (l : List Pw) (e : ByteArray) : (pickW l e).length ≤ l.length := List.length_filter_le _ _
def groupW (l : List Pw) (es : List ByteArray) : List Pw := es.flatMap (pickW l)
theorem pes_groupW (l : List Pw) : ∀ es : List ByteArray, pes (groupW l es) = groupL (pes l) es
  | [] => rfl
  | e :: es => by
    show pes (pickW l e ++ groupW l es) = pickP (pes l) e ++ groupL (pes l) es
    rw [pes_append, pes_pickW, pes_groupW l es]
theorem mem_groupW {l : List Pw} {x : Pw} : ∀ {es : List ByteArray}, x ∈ groupW l es → x ∈ l
  | [], h => by cases h
  | e :: es, h => by
    rcases List.mem_append.1 (show x ∈ pickW l e ++ groupW l es from h) with h | h
    · exact mem_pickW h
    · exact mem_groupW h
theorem len_groupW (l : List Pw) : ∀ es : List ByteArray, (groupW l es).length ≤ es.length * l.length
  | [] => by simp [groupW]
  | e :: es => by
    have h1 := len_pickW l e
    have h2 := len_groupW l es
    show (pickW l e ++ groupW l es).length ≤ _
    rw [List.length_append, List.length_cons, Nat.add_mul]
    omega
theorem groupW_snoc (l : List Pw) {es : List ByteArray} {k : Nat} (h : k < es.length) : groupW l (es.take (k + 1)) = groupW l (es.take k) ++ pickW l es[k] := by
  unfold groupW
  rw [List.take_succ_eq_append_getElem h, List.flatMap_append]
  simp

/-- What is the call's own stays where another block is written that holds neither. -/
theorem po_aside {N g : Nat} {w w' : World} {v : Value} {l : List Pw} (h : Po N w v l) (hg : w.grownBy w' (some g)) (hN : N ≤ g) (hp : ∀ cs fr, w.heap[g]? ≠ some (.cells cs 39 fr)) (hs : ∀ cs fr, w.heap[g]? ≠ some (.cells cs 9 fr)) : Po N w' v l := by
  refine ⟨⟨h.1.1, ?_⟩, fun x hx => ⟨?_, ?_⟩⟩
  · rcases h.1.2 with hn | ⟨b, cap, cur, hv, hb, hh, rest⟩
    · exact .inl hn
    · refine .inr ⟨b, cap, cur, hv, hb, ?_, rest⟩
      have hne : b ≠ g := fun e => hp _ _ (e ▸ hh)
      rw [hg.block b (Array.getElem?_eq_some_iff.1 hh).1 (by simpa using hne)]
      exact hh
  · obtain ⟨h1, h2⟩ := h.2 x hx
    obtain ⟨A, c, e, h3, h4, h5⟩ := h1
    refine ⟨A, c, e, h3, h4, fun h0 => ?_⟩
    obtain ⟨b, off, e2, hb, hc⟩ := h5 h0
    obtain ⟨b', off', e3, ha⟩ := h2 h0
    injection e with e4 e5 e6
    rw [e4, e2] at e3
    injection e3 with e3
    injection e3 with e7 e8
    subst e7
    have hne : b ≠ g := by
      rcases ha with ha | ⟨cs, fr, ha⟩
      · omega
      · exact fun e => hs _ _ (e ▸ ha)
    exact ⟨b, off, e2, Nat.lt_of_lt_of_le hb hg.size, fun j hj => (World.cell?_of_block (a := ⟨b, off + j, none⟩) (hg.block b hb (by simpa using hne))).trans (hc j hj)⟩
  · intro h0
    obtain ⟨b, off, e, ha⟩ := (h.2 x hx).2 h0
    refine ⟨b, off, e, ha.imp id ?_⟩
    rintro ⟨cs, fr, ha⟩
    have hne : b ≠ g := fun e => hs _ _ (e ▸ ha)
    exact ⟨cs, fr, (hg.block b (Array.getElem?_eq_some_iff.1 ha).1 (by simpa using hne)).trans ha⟩
/-- And where another one of the call's own grows. -/
theorem po_beside {N : Nat} {w w' : World} {v u : Value} {l m : List Pw} (h : Po N w u m) (hv : Po N w v l) (hg : w.grownBy w' v.ownBlock) (hne : ∀ b, u.ownBlock = some b → v.ownBlock ≠ some b) : Po N w' u m := by
  refine ⟨⟨h.1.1, ?_⟩, fun x hx => ⟨(h.2 x hx).1.grown hv.1 hg (h.2 x hx).2, (h.2 x hx).2.grown hv.1 hg⟩⟩
  rcases h.1.2 with hn | ⟨b, cap, cur, e, hb, hh, rest⟩
  · exact .inl hn
  · refine .inr ⟨b, cap, cur, e, hb, ?_, rest⟩
    subst e
    rw [hg.block b (Array.getElem?_eq_some_iff.1 hh).1 (fun e => hne b rfl e.symm)]
    exact hh

/-- Groups. -/
structure Gr (N : Nat) (w : World) (g : Nat) (gs : Array Value) (ps : List (List Pw)) : Prop where
  heap : w.heap[g]? = some (.cells gs 23)
  size : gs.size = ps.length
  low : N ≤ g
  own : ∀ (i : Nat) v p, gs[i]? = some v → ps[i]? = some p → Po N w v p
  apart : ∀ (i j : Nat) v u b, gs[i]? = some v → gs[j]? = some u → i ≠ j → v.ownBlock = some b → u.ownBlock ≠ some b
theorem Gr.lt {N g : Nat} {w : World} {gs : Array Value} {ps : List (List Pw)} (h : Gr N w g gs ps) : g < w.heap.size := (Array.getElem?_eq_some_iff.1 h.heap).1
theorem Gr.below {N g : Nat} {w w' : World} {gs : Array Value} {ps : List (List Pw)} (h : Gr N w g gs ps) (hb : Below w.heap.size w w') : Gr N w' g gs ps :=
  ⟨(hb.block g h.lt).trans h.heap, h.size, h.low, fun i v p h1 h2 => (h.own i v p h1 h2).below hb, h.apart⟩
theorem Gr.cell {N g : Nat} {w : World} {gs : Array Value} {ps : List (List Pw)} (h : Gr N w g gs ps) {j : Nat} {v : Value} (hj : gs[j]? = some v) : w.cell? ⟨g, j, none⟩ = some v ∧ w.frozen? ⟨g, j, none⟩ = false := by
  refine ⟨by rw [cell_of_row w g j _ _ _ h.heap]; exact hj, ?_⟩
  have := h.heap
  simp [World.frozen?, this]
theorem Gr.ne {N g : Nat} {w : World} {gs : Array Value} {ps : List (List Pw)} (h : Gr N w g gs ps) : (∀ cs fr, w.heap[g]? ≠ some (.cells cs 39 fr)) ∧ ∀ cs fr, w.heap[g]? ≠ some (.cells cs 9 fr) := by
  refine ⟨fun cs fr e => ?_, fun cs fr e => ?_⟩ <;>
  · rw [h.heap] at e
    injection e with e
    injection e with _ ht
    exact absurd ht (by decide)
theorem Gr.put {N g j : Nat} {w w1 : World} {gs : Array Value} {ps : List (List Pw)} {v v' : Value} {p : List Pw} {x : Pw} (h : Gr N w g gs ps) (hv : gs[j]? = some v) (hp : ps[j]? = some p) (hg : w.grownBy w1 v.ownBlock) (ho : Po N w1 v' (p ++ [x]))
    (hb : ∀ b, v'.ownBlock = some b → v.ownBlock = some b ∨ w.heap.size ≤ b) : Gr N (w1.setCell ⟨g, j, none⟩ v') g (gs.setIfInBounds j v') (ps.set j (p ++ [x])) := by
  have hjl : j < gs.size := (Array.getElem?_eq_some_iff.1 hv).1
  have hov := h.own j v p hv hp
  have hgne : some g ≠ v.ownBlock := fun e => by
    rcases hov.1.2 with ⟨e1, _⟩ | ⟨b, cap, cur, e1, _, hh, _⟩
    · subst e1
      simp [Value.ownBlock] at e
    · subst e1
      have e : g = b := by simpa [Value.ownBlock] using e
      subst e
      exact h.ne.1 _ _ hh
  have h1 : w1.heap[g]? = some (.cells gs 23) := (hg.block g h.lt hgne).trans h.heap
  have hne1 : (∀ cs fr, w1.heap[g]? ≠ some (.cells cs 39 fr)) ∧ ∀ cs fr, w1.heap[g]? ≠ some (.cells cs 9 fr) := by
    rw [h1, ← h.heap]
    exact h.ne
  refine ⟨?_, by rw [Array.size_setIfInBounds, List.length_set]; exact h.size, h.low, fun i u q hu hq => ?_, fun i i2 u u2 b hu hu2 hii hub => ?_⟩
  · simp [World.setCell, Array.getElem?_modify, h1, Array.setIfInBounds, hjl]
  · refine po_aside ?_ (gcell12 w1 g j v') h.low hne1.1 hne1.2
    by_cases hij : i = j
    · subst hij
      rw [Array.getElem?_setIfInBounds_self_of_lt hjl] at hu
      rw [List.getElem?_set_self (by rw [← h.size]; exact hjl)] at hq
      injection hu with hu
      injection hq with hq
      subst hu hq
      exact ho
    · rw [Array.getElem?_setIfInBounds_ne (Ne.symm hij)] at hu
      rw [List.getElem?_set_ne (Ne.symm hij)] at hq
      exact po_beside (h.own i u q hu hq) hov hg fun b hb => h.apart i j u v b hu hv hij hb
  · by_cases hij : i = j
    · subst hij
      rw [Array.getElem?_setIfInBounds_self_of_lt hjl] at hu
      injection hu with hu
      subst hu
      rw [Array.getElem?_setIfInBounds_ne hii] at hu2
      rcases hb b hub with e | e
      · exact h.apart i i2 v u2 b hv hu2 hii e
      · intro e2
        have hlt : i2 < ps.length := by rw [← h.size]; exact (Array.getElem?_eq_some_iff.1 hu2).1
        have := (World.ownsRow.lt (h.own i2 u2 _ hu2 (List.getElem?_eq_getElem hlt)).1 b e2).2
        omega
    · rw [Array.getElem?_setIfInBounds_ne (Ne.symm hij)] at hu
      by_cases hij2 : i2 = j
      · subst hij2
        rw [Array.getElem?_setIfInBounds_self_of_lt hjl] at hu2
        injection hu2 with hu2
        subst hu2
        intro e2
        rcases hb b e2 with e | e
        · exact h.apart i i2 u v b hu hv hii hub e
        · have hlt : i < ps.length := by rw [← h.size]; exact (Array.getElem?_eq_some_iff.1 hu).1
          have := (World.ownsRow.lt (h.own i u _ hu (List.getElem?_eq_getElem hlt)).1 b hub).2
          omega
      · rw [Array.getElem?_setIfInBounds_ne (Ne.symm hij2)] at hu2
        exact h.apart i i2 u u2 b hu hu2 hii hub

/-- append of one, in whatever order; where the result lies. -/
theorem step_app_perL {ops : Array Oper} {o : Oper} {a : Act} {K : Act → World → Prop} {Q : Exit → Act → World → Prop} {E : Prop} (W : World) (hgd : o.guard = none) (s x : Operand)
    (ho : o.op = .call { callee := .builtin .append, args := #[s, x], argTypes := #[23, 23] })
    (W0 : World) (N : Nat) (v : Value) (l : List Pw) (z : Pw) (hr : Po N W0 v l) (hz1 : Sx W0 W0.heap.size z) (hz2 : Ap W0 N z) (hg : W0.grownBy W none) (hN : N ≤ W0.heap.size) (hl : l.length ≤ 2000000)
    (hs : a.eval s = v) (g0 : Nat) (hx : a.eval x = .slice (some ⟨g0, 0, none⟩) 1 1) (hz : W.heap[g0]? = some (perO z))
    (h : ∀ g cap w', Po N w' (.slice (some ⟨g, 0, none⟩) (l.length + 1) cap) (l ++ [z]) → W0.grownBy w' v.ownBlock → (v.ownBlock = some g ∨ W0.heap.size ≤ g) → K (a.put o.dst (.slice (some ⟨g, 0, none⟩) (l.length + 1) cap)) w') :
    if Region.wanted o (yielded ops a.tmps) = true then Oper.wp Try.prog o a W K Q else E := by
  obtain ⟨i0, hi, hz0, hz1', hz2'⟩ := info_parts info_per
  have hown : W.ownsRow N 39 2 v l.length (l.flatMap pcells) := World.ownsRow.kept hr.1 hg (by cases hv : v.ownBlock with
    | none => exact .inl rfl
    | some k => right; simp)
  refine step_append_lies W hgd s x 23 ho N 39 i0 _ 2 40 Try.underlying23 hi hz0 hz1' hz2' rfl (by decide) v l.length (l.flatMap pcells) hs hown ⟨g0, 0, none⟩ 1 1 (pcells z) hx rfl (fun j u hu => World.news_of_block hz j u hu) (pcells_one z) (by decide) (by unfold maxLen; omega) (by omega) (Nat.le_trans hN hg.size) _ rfl ?_
  intro g cap w1 h1 h2 h3 _
  have hgw : W0.grownBy w1 v.ownBlock := grown_none hg h2
  refine h g cap w1 ⟨by rw [List.length_append, List.flatMap_append]; simpa using h1, fun y hy => ?_⟩ hgw (h3.imp id fun e => by rw [e]; exact hg.size)
  rcases List.mem_append.1 hy with hy | hy
  · exact ⟨(hr.2 y hy).1.grown hr.1 hgw (hr.2 y hy).2, (hr.2 y hy).2.grown hr.1 hgw⟩
  · obtain rfl := List.mem_singleton.1 hy
    exact ⟨hz1.grown hr.1 hgw hz2, hz2.grown hr.1 hgw⟩

end Go.Proofs.Ythiimnlilfcfeaa.Co

namespace Go.Proofs.Ythiimnlilfcfeaa.Ph
set_option linter.unusedVariables false
set_option linter.unusedSimpArgs false
open Go
section
variable {P : Program} {ops : Array Oper} {Q : Exit → Act → World → Prop} {md : Region.Mode} {S : World → Prop} {st : Nat}
/-- Whatever comes up next; till number 'st' has come up, S is shown of each world. -/
def anyT (P : Program) (md : Region.Mode) (ops : Array Oper) (Q : Exit → Act → World → Prop) (S : World → Prop) (st : Nat) : Nat → Array Bool → Act → World → Prop
  | 0, l, a, w => Region.ready md ops l = [] ∧ Q .normal a w
  | n + 1, l, a, w => (Region.ready md ops l = [] → Q .normal a w) ∧
    ∀ i ∈ Region.ready md ops l, wpOp P ops Q i (fun a' w' => ((l.setIfInBounds i true).getD st true = false → S w') ∧ anyT P md ops Q S st n (l.setIfInBounds i true) a' w') a w
theorem any_of_T : ∀ (n : Nat) (l : Array Bool) (a : Act) (w : World), anyT P md ops Q S st n l a w → wpAny P md ops Q n l a w
  | 0, _, _, _, h => h
  | n + 1, _, _, _, h => ⟨h.1, fun i hi => wpOp_mono (fun a' w' k => any_of_T n _ a' w' k.2) (h.2 i hi)⟩

/-- Number st waits for number i. -/
def waits (md : Region.Mode) (ops : Array Oper) (st i : Nat) : Bool := ((ops[st]?).map fun o => o.after.any fun e => Region.binds md e && e.on == i).getD false
theorem waits_not {i : Nat} {l : Array Bool} (hw : waits md ops st i = true) (hi : i ∈ Region.ready md ops l) : st ∉ Region.ready md ops l := fun hs => by
  obtain ⟨_, o, ho, hall⟩ := mem_ready.1 hs
  have hi0 := (mem_ready.1 hi).1
  unfold waits at hw
  rw [ho] at hw
  simp only [Option.map_some, Option.getD_some] at hw
  obtain ⟨e, he, hb⟩ := Array.any_eq_true'.1 hw
  rw [Bool.and_eq_true, beq_iff_eq] at hb
  have h1 := hall e he hb.1
  rw [hb.2] at h1
  by_cases hlt : i < l.size
  · simp [hlt] at hi0 h1
    rw [hi0] at h1
    cases h1
  · simp [Array.getElem?_eq_none (Nat.le_of_not_lt hlt)] at h1

theorem T_first {i : Nat} {oi : Oper} {v : Value} (hi : ops[i]? = some oi) (hsel : ∀ (j : Nat) (o : Oper) cs b, ops[j]? = some o → o.op ≠ .select cs b)
    (hQ : ∀ c a w, Q (.panic c) (a.put oi.dst v) w → Q (.panic c) a w) (hw : waits md ops st i = true) (hne : i ≠ st) :
    ∀ (n : Nat) (l : Array Bool) (a : Act) (w : World),
      (∀ j oj, ops[j]? = some oj → j ≠ i → l.getD j true = false → (∀ e ∈ oj.after, Region.binds md e = true → e.on ≠ i) → oi.apart ops oj = true) →
      l.getD st true = false → i ∈ Region.ready md ops l → YieldsIf P ops S oi v a → S w → anyT P md ops Q S st n (l.setIfInBounds i true) (a.put oi.dst v) w → anyT P md ops Q S st (n + 1) l a w := by
  intro n
  induction n with
  | zero =>
    intro l a w hf hst hr hy hS H
    refine ⟨fun e => by rw [e] at hr; (cases hr), fun j hj => ?_⟩
    by_cases hji : j = i
    · rw [hji]
      exact hy.wpOp hi hS ⟨fun _ => hS, H⟩
    · have hj' := ready_mono hj hji
      rw [H.1] at hj'
      cases hj'
  | succ n ih =>
    intro l a w hf hst hr hy hS H
    refine ⟨fun e => by rw [e] at hr; (cases hr), fun j hj => ?_⟩
    by_cases hji : j = i
    · rw [hji]
      exact hy.wpOp hi hS ⟨fun _ => hS, H⟩
    · have hjs : j ≠ st := fun e => waits_not hw hr (e ▸ hj)
      obtain ⟨hun, oj, hoj, hall⟩ := mem_ready.1 hj
      have hno : ∀ e ∈ oj.after, Region.binds md e = true → e.on ≠ i := fun e he hb hon => by
        have h1 := hall e he hb
        have h0 := (mem_ready.1 hr).1
        rw [hon] at h1
        by_cases hlt : i < l.size
        · simp [hlt] at h0 h1
          rw [h0] at h1
          cases h1
        · simp [Array.getElem?_eq_none (Nat.le_of_not_lt hlt)] at h1
      have hst' : (l.setIfInBounds j true).getD st true = false := (getD_set_ne true hjs).trans hst
      have hf' : ∀ k ok, ops[k]? = some ok → k ≠ i → (l.setIfInBounds j true).getD k true = false → (∀ e ∈ ok.after, Region.binds md e = true → e.on ≠ i) → oi.apart ops ok = true := fun k ok hk hki hku hkn => by
        by_cases hjk : j = k
        · exact hf k ok hk hki (hjk ▸ hun) hkn
        · rw [getD_set_ne true hjk] at hku
          exact hf k ok hk hki hku hkn
      refine wpOp_mono (fun a' w' k => ?_) (wpOp_putIf hoj (hf j oj hoj hji hun hno) (fun cs b => hsel i oi cs b hi) (fun cs b => hsel j oj cs b hoj) hQ hy (H.2 j (ready_mono hj hji)))
      have hS' : S w' := k.2.1 (by rw [getD_set_ne true hjs, getD_set_ne true hne]; exact hst)
      exact ⟨fun _ => hS', ih (l.setIfInBounds j true) a' w' hf' hst' (ready_mono hr (Ne.symm hji)) k.1 hS' (by rw [Array.setIfInBounds_comm _ _ hji]; exact k.2.2)⟩
theorem T_pure0 {i : Nat} {oi : Oper} {v : Value} (hi : ops[i]? = some oi) (hsel : ∀ (j : Nat) (o : Oper) cs b, ops[j]? = some o → o.op ≠ .select cs b)
    (hQ : ∀ c a w, Q (.panic c) (a.put oi.dst v) w → Q (.panic c) a w) (hne : i ≠ st) :
    ∀ (n : Nat) (l : Array Bool) (a : Act) (w : World),
      (∀ j oj, ops[j]? = some oj → j ≠ i → l.getD j true = false → (∀ e ∈ oj.after, Region.binds md e = true → e.on ≠ i) → oi.apart ops oj = true) →
      i ∈ Region.ready md ops l → YieldsIf P ops (fun _ => True) oi v a → (l.getD st true = false → S w) → anyT P md ops Q S st n (l.setIfInBounds i true) (a.put oi.dst v) w → anyT P md ops Q S st (n + 1) l a w := by
  intro n
  induction n with
  | zero =>
    intro l a w hf hr hy hS H
    refine ⟨fun e => by rw [e] at hr; (cases hr), fun j hj => ?_⟩
    by_cases hji : j = i
    · rw [hji]
      exact hy.wpOp hi trivial ⟨fun e => hS (by rw [getD_set_ne true hne] at e; exact e), H⟩
    · have hj' := ready_mono hj hji
      rw [H.1] at hj'
      cases hj'
  | succ n ih =>
    intro l a w hf hr hy hS H
    refine ⟨fun e => by rw [e] at hr; (cases hr), fun j hj => ?_⟩
    by_cases hji : j = i
    · rw [hji]
      exact hy.wpOp hi trivial ⟨fun e => hS (by rw [getD_set_ne true hne] at e; exact e), H⟩
    · obtain ⟨hun, oj, hoj, hall⟩ := mem_ready.1 hj
      have hno : ∀ e ∈ oj.after, Region.binds md e = true → e.on ≠ i := fun e he hb hon => by
        have h1 := hall e he hb
        have h0 := (mem_ready.1 hr).1
        rw [hon] at h1
        by_cases hlt : i < l.size
        · simp [hlt] at h0 h1
          rw [h0] at h1
          cases h1
        · simp [Array.getElem?_eq_none (Nat.le_of_not_lt hlt)] at h1
      have hf' : ∀ k ok, ops[k]? = some ok → k ≠ i → (l.setIfInBounds j true).getD k true = false → (∀ e ∈ ok.after, Region.binds md e = true → e.on ≠ i) → oi.apart ops ok = true := fun k ok hk hki hku hkn => by
        by_cases hjk : j = k
        · exact hf k ok hk hki (hjk ▸ hun) hkn
        · rw [getD_set_ne true hjk] at hku
          exact hf k ok hk hki hku hkn
      refine wpOp_mono (fun a' w' k => ?_) (wpOp_putIf hoj (hf j oj hoj hji hun hno) (fun cs b => hsel i oi cs b hi) (fun cs b => hsel j oj cs b hoj) hQ hy (H.2 j (ready_mono hj hji)))
      have hS' : (l.setIfInBounds j true).getD st true = false → S w' := fun e => k.2.1 (by rw [Array.setIfInBounds_comm _ _ (Ne.symm hji), getD_set_ne true hne]; exact e)
      exact ⟨hS', ih (l.setIfInBounds j true) a' w' hf' (ready_mono hr (Ne.symm hji)) k.1 hS' (by rw [Array.setIfInBounds_comm _ _ hji]; exact k.2.2)⟩
/-- Number i, which yields its value in whatever world, is taken first. -/
theorem T_pure {i : Nat} {oi : Oper} {v : Value} {n : Nat} {l : Array Bool} {a : Act} {w : World} (hi : ops[i]? = some oi) (hs : Region.noSelect ops = true) (hf : Region.free md ops l i = true) (hr : (Region.ready md ops l).contains i = true)
    (hw : (i != st) = true) (hQ : ∀ c a w, Q (.panic c) (a.put oi.dst v) w → Q (.panic c) a w) (hy : YieldsIf P ops (fun _ => True) oi v a) (hS : S w)
    (h : S w → anyT P md ops Q S st n (l.setIfInBounds i true) (a.put oi.dst v) w) : anyT P md ops Q S st (n + 1) l a w :=
  T_pure0 hi (Region.noSelect_spec hs) hQ (by simpa using hw) n l a w (Region.free_spec hi hf) (by simpa using hr) hy (fun _ => hS) (h hS)
/-- Number i is taken first. -/
theorem T_take {i : Nat} {oi : Oper} {v : Value} {n : Nat} {l : Array Bool} {a : Act} {w : World} (hi : ops[i]? = some oi) (hs : Region.noSelect ops = true) (hf : Region.free md ops l i = true) (hr : (Region.ready md ops l).contains i = true)
    (hw : (waits md ops st i && i != st && !l.getD st true) = true) (hQ : ∀ c a w, Q (.panic c) (a.put oi.dst v) w → Q (.panic c) a w) (hy : YieldsIf P ops S oi v a) (hS : S w)
    (h : S w → anyT P md ops Q S st n (l.setIfInBounds i true) (a.put oi.dst v) w) : anyT P md ops Q S st (n + 1) l a w := by
  simp only [Bool.and_eq_true, bne_iff_ne, ne_eq, Bool.not_eq_true'] at hw
  exact T_first hi (Region.noSelect_spec hs) hQ hw.1.1 hw.1.2 n l a w (Region.free_spec hi hf) hw.2 (by simpa using hr) hy hS (h hS)
/-- One alone may come up, ahead of number st. -/
theorem T_one {i : Nat} {o : Oper} {n : Nat} {l : Array Bool} {a : Act} {w : World} (hr : Region.ready md ops l = [i]) (ho : ops[i]? = some o)
    (h : ∀ K' : Act → World → Prop, Shut (∀ a w, S w → (S w → anyT P md ops Q S st n (l.setIfInBounds i true) a w) → K' a w) → if Region.wanted o (yielded ops a.tmps) = true then Oper.wp P o a w K' Q else K' (a.put o.dst undef) w) :
    anyT P md ops Q S st (n + 1) l a w := by
  refine ⟨fun e => (by rw [e] at hr; cases hr), fun j hj => ?_⟩
  rw [hr, List.mem_singleton] at hj
  rw [hj]
  exact wpOp_step ho fun K' hK => h K' fun a w hS hW => hK a w ⟨fun _ => hS, hW hS⟩
/-- One alone may come up, and number st has come up, or comes up now. -/
theorem T_last {i : Nat} {o : Oper} {n : Nat} {l : Array Bool} {a : Act} {w : World} (hr : Region.ready md ops l = [i]) (hst : (l.setIfInBounds i true).getD st true = true) (ho : ops[i]? = some o)
    (h : ∀ K' : Act → World → Prop, Shut (∀ a w, anyT P md ops Q S st n (l.setIfInBounds i true) a w → K' a w) → if Region.wanted o (yielded ops a.tmps) = true then Oper.wp P o a w K' Q else K' (a.put o.dst undef) w) :
    anyT P md ops Q S st (n + 1) l a w := by
  refine ⟨fun e => (by rw [e] at hr; cases hr), fun j hj => ?_⟩
  rw [hr, List.mem_singleton] at hj
  rw [hj]
  exact wpOp_step ho fun K' hK => h K' fun a w hW => hK a w ⟨fun e => (by rw [hst] at e; cases e), hW⟩
/-- What yields in whatever world, behind number st. -/
theorem T_free {i : Nat} {oi : Oper} {v : Value} {n : Nat} {l : Array Bool} {a : Act} {w : World} (hr : Region.ready md ops l = [i]) (hst : (l.setIfInBounds i true).getD st true = true) (hi : ops[i]? = some oi)
    (hy : Yields P ops oi v a) (h : anyT P md ops Q S st n (l.setIfInBounds i true) (a.put oi.dst v) w) : anyT P md ops Q S st (n + 1) l a w := by
  refine ⟨fun e => (by rw [e] at hr; cases hr), fun j hj => ?_⟩
  rw [hr, List.mem_singleton] at hj
  rw [hj]
  exact (Yields.yieldsIf (S := fun _ => True) hy).wpOp hi trivial ⟨fun e => (by rw [hst] at e; cases e), h⟩
theorem T_done {l : Array Bool} {a : Act} {w : World} (hr : Region.ready md ops l = []) (h : Q .normal a w) : ∀ n, anyT P md ops Q S st n l a w
  | 0 => ⟨hr, h⟩
  | _ + 1 => ⟨fun _ => h, by rw [hr]; simp⟩
/-- The beginning. -/
theorem T_begin (S : World → Prop) (st : Nat) {id : Nat} {a : Act} {w : World} (hm : P.follows .mixedOrders = true) (hS : S w.drew) (h : S w.drew → anyT P .any ops Q S st ops.size (Array.replicate ops.size false) a w.drew) : (Code.region id ops true).wp P Q a w :=
  wp_region_any hm (any_of_T _ _ _ _ (h hS))
end
end Go.Proofs.Ythiimnlilfcfeaa.Ph
