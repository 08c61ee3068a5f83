/-
  Walks of stage 12: misnames, repeats, contradicts, Check.
  Walks of stage 12: contradicts, Check.
  Walks of stage 13: the program's Rows.
  fold.merged.
  fold.Find, of a list that rises.
  fold.Sorted, which calls itself, and fold.Minus.
  boltingref02.Minus and boltingref02.Sorted.
  Walks of stage 12: copied, safe, neverSafe; the document's Unsafe, Minus.
  A region whose loads may be taken first though its own last stores write the cells that they load: the condition on the world is asked for only as long as the first of those stores has not come up.
  append within a region that draws its order: of one api.Per, of names.
  Walk of stage 12: remade, with fold.Sorted and with copied.
  Groups of api.Per: slices of them in a slice, each of the call's own, no two in one block.
  Walk of stage 12: grouped.
  Walks of stage 12: Canon, All, Plain.
  Walks of stage 12: Strip.
  Walks of stage 12: All, Plain, the document's Plain.
  Walks of stage 5: names.inElement, inAttr, every, Right, Attr, and the document's bad, May.
  Walks of stage 12: the document's may, once, meet, of.
  boltingref02.Equal, of slices that read as one list.
  Walk of stage 12: the document's Same, for values that read as one configuration.
  Walk of stage 12: the calls whose answers the document fixes.
  Stage 13: what the law asks ahead: calls whose answers are fixed.
  Stage 13: the law's bound: forty rows of eight attributes.
  Arguments that are slices of structs: their parts, and what is read of each.
  An argument that is a slice of strings, as the row reads it: a list of strings, nil or not.
  An argument api.Conf, as a statement's row reads it.
-/
import Derived.Test.YtdjkeakagmgfgaaCk05
import Derived.Test.YtdjkeakagmgfgaaCk03
import Derived.Deep.RegionWith
import Derived.Test.YtdjkeakagmgfgaaCk04
import Derived.Test.YtdjkeakagmgfgaaRows
import Derived.Deep.RegionHeld3
import Derived.Deep.RegionLaw
import Derived.Deep.AppendLies
import Derived.BigRegion
import Derived.Deep.Cut
import Derived.Deep.OwnRows
import Derived.Test.YtdjkeakagmgfgaaCk02
import Derived.Test.YtdjkeakagmgfgaaCk01
import Derived.Deep.Slices
import Derived.Deep.Fields
import Derived.ChangeSame
import Derived.ProofKit
import Derived.Carry
import Derived.Lib.SmallJoins
import Derived.SliceStrings
namespace Go.Proofs.Ytdjkeakagmgfgaa.Co
set_option maxRecDepth 100000
set_option linter.unusedVariables false
set_option linter.unusedSimpArgs false
open Go.RowKit Ba Fm Fo Nm Rk
theorem rd_ne {w : World} {N g : Nat} {A : Option Addr} {l : List ByteArray} (h : Rd w N A l) (h1 : N ≤ w.heap.size) (h2 : N ≤ g) :
    0 < l.length → ∃ b0 off, A = some ⟨b0, off, none⟩ ∧ b0 < w.heap.size ∧ b0 ≠ g ∧ ∀ j (h : j < l.length), w.cell? ⟨b0, off + j, none⟩ = some (.string l[j]) := fun h0 => by
  obtain ⟨b, off, e, hb, hc⟩ := h h0
  exact ⟨b, off, e, by omega, by omega, hc⟩
/-- mis_R and mis_T at a value that reads as names. -/
theorem mis_R1 (v : Value) (N : Nat) (l : List ByteArray) (w : World) (g : Nat) (b q : Bool) (h : Sv w N v l) (hN : N ≤ w.heap.size) (hg0 : N ≤ g) (hl : l.length ≤ 1000000) (hsz : ∀ s ∈ l, s.size ≤ 140737488355328) (hg : Bb w g b) (hq : (b || !l.all rightB) = q) :
    Calls Try.prog 80 #[.func (.func 81) #[] #[], v, .pointer (some ⟨g, 0, none⟩)] w fun r w' => r = .returned (.tuple #[]) ∧ Bb w' g q ∧ w.grownBy w' (some g) := by
  obtain ⟨A, c, rfl, _, _, hr⟩ := h
  subst hq
  exact mis_R A c l w g b (rd_ne hr hN hg0) hl hsz hg
theorem mis_T1 (v : Value) (N : Nat) (l : List ByteArray) (w : World) (g : Nat) (b q : Bool) (h : Sv w N v l) (hN : N ≤ w.heap.size) (hg0 : N ≤ g) (hl : l.length ≤ 1000000) (hsz : ∀ s ∈ l, s.size ≤ 140737488355328) (hg : Bb w g b) (hq : (b || !l.all Nm.attrB) = q) :
    Calls Try.prog 80 #[.func (.func 82) #[] #[], v, .pointer (some ⟨g, 0, none⟩)] w fun r w' => r = .returned (.tuple #[]) ∧ Bb w' g q ∧ w.grownBy w' (some g) := by
  obtain ⟨A, c, rfl, _, _, hr⟩ := h
  subst hq
  exact mis_T A c l w g b (rd_ne hr hN hg0) hl hsz hg
/-- One name, in a block of its own. -/
theorem mis_R2 (s : ByteArray) (w : World) (g : Nat) (b q : Bool) (hsz : s.size ≤ 140737488355328) (hg : Bb w g b) (hq : (b || !rightB s) = q) :
    Calls Try.prog 80 #[.func (.func 81) #[] #[], .slice (some ⟨w.heap.size, 0, none⟩) 1 1, .pointer (some ⟨g, 0, none⟩)] (w.alloc (.cells #[.string s] 9)) fun r w' => r = .returned (.tuple #[]) ∧ Bb w' g q ∧ w.grownBy w' (some g) := by
  subst hq
  have hgl := hg.lt
  refine (mis_R (some ⟨w.heap.size, 0, none⟩) 1 [s] (w.alloc (.cells #[.string s] 9)) g b (fun _ => ⟨w.heap.size, 0, rfl, by simp, by omega, fun j hj => ?_⟩) (by simp) (fun t ht => by rw [List.mem_singleton] at ht; rw [ht]; exact hsz) (hg.below (below_new12 w _))).mono ?_
  · have : j = 0 := by simpa using hj
    subst this
    rw [World.cell?_alloc_mark]
    rfl
  · rintro r w' ⟨rfl, h1, h2⟩
    refine ⟨rfl, by simpa using h1, (World.grownBy_alloc w _ _).trans h2⟩
theorem all_snocP (p : Pw → Bool) (l : List Pw) (k : Nat) (x : Pw) (h : l[k]? = some x) : (l.take (k + 1)).all p = ((l.take k).all p && p x) := by
  have hk : k < l.length := (List.getElem?_eq_some_iff.1 h).1
  have hx : l[k] = x := (List.getElem?_eq_some_iff.1 h).2
  rw [List.take_succ_eq_append_getElem hk, List.all_append, hx]
  simp
set_option maxRecDepth 100000 in
set_option maxHeartbeats 4000000 in
theorem misnames1 (v : Value) (c : Cf) (w : World) (q : Bool) (h : Cv w w.heap.size v c) (hs : Sm c) (hq : (!namesB c) = q) :
    Calls Try.prog 57 #[v] w fun r w' => r = .returned (.bool q) ∧ Below w.heap.size w w' := by
  have hmf : ∀ (fn : Fn) (first cap : Array Value) (w : World), (Instr.makeFunc fn first cap).run Try.prog w = .ok (.func fn first cap) w := fun _ _ _ _ => rfl
  obtain ⟨vE, vR, vA, vP, l, rfl, h⟩ := h
  obtain ⟨w0, hw0⟩ : ∃ w0, (w.alloc (confO c vE vR vA vP)).alloc (.cells #[.bool false] 4) = w0 := ⟨_, rfl⟩
  have hba : Below w.heap.size w (w.alloc (confO c vE vR vA vP)) := below_new12 w _
  have hb1 : Below w.heap.size w w0 := hw0 ▸ hba.trans ((below_new12 _ _).mono hba.size)
  have hbx : Bx w0 w.heap.size c vE vR vA vP := hw0 ▸ (Bx.new w c vE vR vA vP).below (below_new12 _ _) (by simp)
  have hbb : Bb w0 (w.heap.size + 1) false := by
    rw [← hw0]
    unfold Bb
    have := heap_alloc_new (w.alloc (confO c vE vR vA vP)) (.cells #[.bool false] 4)
    rwa [World.size_alloc] at this
  have hz : w0.heap.size = w.heap.size + 2 := by rw [← hw0]; simp
  obtain ⟨A, cp, rfl, hcp, hna, hr⟩ := h.p
  have hpl : c.per.length = l.length := by rw [← h.m, len_pes]
  have hl : l.length ≤ 1000 := by have := hs.p; omega
  have hlen : ∀ x ∈ l, x.pe.at_.length ≤ 1000 ∧ x.pe.el.size ≤ 140737488355328 ∧ ∀ s ∈ x.pe.at_, s.size ≤ 140737488355328 := fun x hx => by
    have hm : x.pe ∈ c.per := by rw [← h.m]; exact List.mem_map.2 ⟨x, hx, rfl⟩
    exact ⟨hs.pa _ hm, hs.ps _ hm⟩
  obtain ⟨b1, hb1'⟩ : ∃ b, (false || !c.els.all rightB) = b := ⟨_, rfl⟩
  obtain ⟨b2, hb2'⟩ : ∃ b, (b1 || !c.reps.all rightB) = b := ⟨_, rfl⟩
  obtain ⟨b3, hb3'⟩ : ∃ b, (b2 || !c.ats.all Nm.attrB) = b := ⟨_, rfl⟩
  have hfin : (b3 || !l.all fun x => rightB x.pe.el && x.pe.at_.all Nm.attrB) = q := by
    rw [← hq, ← hb3', ← hb2', ← hb1']
    unfold namesB
    rw [← h.m]
    unfold pes
    rw [List.all_map]
    simp only [Bool.not_and, Bool.false_or]
    rfl
  have HQ := Lib.hid hfin; have HLEN := Lib.hid hlen; have HW := Lib.hid hw0; have HB1 := Lib.hid hb1; have HR := Lib.hid hr
  -- what stays under a growth of the truth's block
  have hst : ∀ wx, w0.grownBy wx (some (w.heap.size + 1)) → Below w.heap.size w wx := fun wx hg => hb1.grown hg (by omega) (fun k hk => by injection hk with hk; omega)
  have hbox : ∀ wx, w0.grownBy wx (some (w.heap.size + 1)) → Bx wx w.heap.size c vE vR vA (.slice A l.length cp) := fun wx hg j u hu => (World.cell?_of_block (a := ⟨w.heap.size, 0 + j, none⟩) (hg.block _ (by show w.heap.size < _; omega) (by simp))).trans (hbx j u hu)
  have HST := Lib.hid hst; have HBX := Lib.hid hbox; have HBB := Lib.hid hbb
  have HE := Lib.hid (fun wx hg hb => mis_R1 vE w.heap.size c.els wx (w.heap.size + 1) false b1 (h.e.below (hst wx hg) (Nat.le_refl _)) (hst wx hg).size (Nat.le_succ _) (by have := hs.e; omega) hs.es hb hb1')
  have HRR := Lib.hid (fun wx hg hb => mis_R1 vR w.heap.size c.reps wx (w.heap.size + 1) b1 b2 (h.r.below (hst wx hg) (Nat.le_refl _)) (hst wx hg).size (Nat.le_succ _) (by have := hs.r; omega) hs.rs hb hb2')
  have HAA := Lib.hid (fun wx hg hb => mis_T1 vA w.heap.size c.ats wx (w.heap.size + 1) b2 b3 (h.a.below (hst wx hg) (Nat.le_refl _)) (hst wx hg).size (Nat.le_succ _) (by have := hs.a; omega) hs.as_ hb hb3')
  have g2 := (hbox w0 (World.grownBy.refl _ _)).at_.2.2.1
  clear hq hfin hlen hs h hpl hr hb1 hbx hbb hst hbox hb1' hb2' hb3' hba hw0
  go_enter Try.func57, Try.ntmps57
  go_upto_region 3 with (fail)
  rw [HW.out]
  go_wp2_with fail
  refine (HE.out w0 (World.grownBy.refl _ _) HBB.out).mono ?_
  rintro r w1 ⟨rfl, hbb1, hg1⟩
  have g3 := (HBX.out w1 hg1).at_.2.2.2.1
  clear g2
  have HBB1 := Lib.hid hbb1; have HG1 := Lib.hid hg1; clear hbb1 hg1
  go_wp2_with fail
  refine (HRR.out w1 HG1.out HBB1.out).mono ?_
  rintro r w2 ⟨rfl, hbb2, hg2⟩
  have HBB2 := Lib.hid hbb2; have HG2 := Lib.hid (HG1.out.trans hg2); clear hbb2 hg2 g3
  have g4 := (HBX.out w2 HG2.out).at_.2.2.2.2.1
  go_wp2_with fail
  refine (HAA.out w2 HG2.out HBB2.out).mono ?_
  rintro r w3 ⟨rfl, hbb3, hg3⟩
  have HBB3 := Lib.hid hbb3; have HG3 := Lib.hid (HG2.out.trans hg3); clear hbb3 hg3 g4
  have g5 := (HBX.out w3 HG3.out).at_.2.2.2.2.2.1
  clear hmf
  go_wp2
  clear g5
  go_loopw [6, 23] (fun _ i wr => ∃ k : Nat, i = .int .i64 k ∧ k ≤ l.length ∧ Bb wr (w.heap.size + 1) (b3 || !(l.take k).all fun x => rightB x.pe.el && x.pe.at_.all Nm.attrB) ∧ w0.grownBy wr (some (w.heap.size + 1))) (fun _ i _ => l.length - (intOf i).toNat)
  case atStart => exact ⟨0, rfl, Nat.zero_le _, by simpa using HBB3.out, HG3.out⟩
  case round =>
    obtain ⟨k, rfl, hks, hn, hgr⟩ := hrel
    by_cases hk : k < l.length
    · have hbel := HST.out wr hgr
      obtain ⟨b, off, x, rfl, hb, hx, hcs, hsx, hxm⟩ := (HR.out.below hbel).at_ k hk
      obtain ⟨k0, k1⟩ := range2p hcs
      obtain ⟨hx1, hx2, hx3⟩ := HLEN.out x hxm
      have hsn := all_snocP (fun x => rightB x.pe.el && x.pe.at_.all Nm.attrB) l k x hx
      obtain ⟨t, ht⟩ : ∃ t, (b3 || !(l.take k).all fun x => rightB x.pe.el && x.pe.at_.all Nm.attrB) = t := ⟨_, rfl⟩
      rw [ht] at hn
      obtain ⟨t1, ht1⟩ : ∃ t1, (t || !rightB x.pe.el) = t1 := ⟨_, rfl⟩
      obtain ⟨t2, ht2⟩ : ∃ t2, (t1 || !x.pe.at_.all Nm.attrB) = t2 := ⟨_, rfl⟩
      have hsn2 : (b3 || !(l.take (k + 1)).all fun x => rightB x.pe.el && x.pe.at_.all Nm.attrB) = t2 := by
        rw [hsn, ← ht2, ← ht1, ← ht]
        cases b3 <;> cases ((l.take k).all fun x => rightB x.pe.el && x.pe.at_.all Nm.attrB) <;> cases rightB x.pe.el <;> cases x.pe.at_.all Nm.attrB <;> rfl
      have hgr1 := hgr.trans (World.grownBy_alloc wr (perO x) (some (w.heap.size + 1)))
      have hz1 : w.heap.size ≤ wr.heap.size := hbel.size
      have hgne : ¬ wr.heap.size = w.heap.size + 1 := by have := hgr.size; omega
      have hpx : ∀ wx, (wr.alloc (perO x)).grownBy wx (some (w.heap.size + 1)) → wx.cell? ⟨wr.heap.size, 1, none⟩ = some (.slice x.A x.pe.at_.length x.c) := fun wx hg => (World.cell?_of_block (a := ⟨wr.heap.size, 1, none⟩) (hg.block _ (by simp) (by simpa using hgne))).trans (pbox_at wr x 1)
      have HPX := Lib.hid hpx
      have hR2 := mis_R2 x.pe.el (wr.alloc (perO x)) (w.heap.size + 1) t t1 hx2 (hn.below (below_new12 wr (perO x))) ht1
      rw [World.size_alloc] at hR2
      have HR2 := Lib.hid hR2
      clear hR2
      have hbw : ∀ wx, (wr.alloc (perO x)).grownBy wx (some (w.heap.size + 1)) → Below w.heap.size wr wx := fun wx hg => ((Below.refl w.heap.size wr).alloc hz1 _).grown hg (by simp; omega) (fun k hk => by injection hk with hk; omega)
      have HT2 := Lib.hid (fun wx (hg : (wr.alloc (perO x)).grownBy wx (some (w.heap.size + 1))) hb => mis_T1 (.slice x.A x.pe.at_.length x.c) w.heap.size x.pe.at_ wx (w.heap.size + 1) t1 t2 (hsx.below (hbw wx hg) (Nat.le_refl _)) (HST.out wx (hgr1.trans hg)).size (Nat.le_succ _) (by omega) hx3 hb ht2)
      have HSN := Lib.hid hsn2; have HGR := Lib.hid hgr1
      clear hcs hsx hsn hsn2 hgr hgr1 hn ht ht1 ht2 hbel hpx hx3 hx2 hbw
      go_wp2_with fail
      refine HR2.out.mono ?_
      rintro r w4 ⟨rfl, hbb4, hg4⟩
      have p1 := HPX.out w4 hg4
      have HB4 := Lib.hid hbb4; have HG4 := Lib.hid hg4
      clear hbb4 hg4
      go_wp2_with fail
      refine (HT2.out w4 HG4.out HB4.out).mono ?_
      rintro r w5 ⟨rfl, hbb5, hg5⟩
      have HB5 := Lib.hid hbb5; have HG5 := Lib.hid (HGR.out.trans (HG4.out.trans hg5))
      clear hbb5 hg5
      go_wp2
      go_roundw
      case rel => exact ⟨k + 1, by go_num, by omega, by rw [HSN.out]; exact HB5.out, HG5.out⟩
      case measure => simp [intOf]; omega
    · rw [List.take_of_length_le (by omega), HQ.out] at hn
      have g0 := hn.cell
      have HBL := Lib.hid (HST.out wr hgr)
      clear hn hgr
      go_wp2
      go_ret
      exact ⟨rfl, HBL.out⟩

set_option maxRecDepth 100000 in
set_option maxHeartbeats 4000000 in
theorem repeats1 (v : Value) (c : Cf) (w : World) (q : Bool) (h : Cv w w.heap.size v c) (hs : Sm c) (hq : (!singleB c) = q) :
    Calls Try.prog 58 #[v] w fun r w' => r = .returned (.bool q) ∧ Below w.heap.size w w' := by
  obtain ⟨vE, vR, vA, vP, l, rfl, h⟩ := h
  obtain ⟨w0, hw0⟩ : ∃ w0, w.alloc (confO c vE vR vA vP) = w0 := ⟨_, rfl⟩
  have hb1 : Below w.heap.size w w0 := hw0 ▸ below_new12 w (confO c vE vR vA vP)
  have hbx : Bx w0 w.heap.size c vE vR vA vP := hw0 ▸ Bx.new w c vE vR vA vP
  have hz : w.heap.size < w0.heap.size := by rw [← hw0]; simp
  have h0 := h.on hb1
  obtain ⟨A, cp, rfl, hcp, hna, hr⟩ := h0.p
  have hpl : c.per.length = l.length := by rw [← h.m, len_pes]
  have hl : l.length ≤ 1000 := by have := hs.p; omega
  have hlen : ∀ x ∈ l, x.pe.at_.length ≤ 1000 := fun x hx => hs.pa _ (by rw [← h.m]; exact List.mem_map.2 ⟨x, hx, rfl⟩)
  obtain ⟨e1, he1⟩ : ∃ b, (!onceB c.els) = b := ⟨_, rfl⟩
  obtain ⟨e2, he2⟩ : ∃ b, (!onceB c.reps) = b := ⟨_, rfl⟩
  obtain ⟨e3, he3⟩ : ∃ b, (!onceB c.ats) = b := ⟨_, rfl⟩
  obtain ⟨e4, he4⟩ : ∃ b, (!onceB ((pes l).map Pe.el)) = b := ⟨_, rfl⟩
  have hfin : ((l.any fun x => !onceB x.pe.at_) || (e1 || e2 || e3 || e4)) = q := by
    rw [← hq, ← he1, ← he2, ← he3, ← he4]
    unfold singleB
    rw [← h.m]
    unfold pes
    rw [List.all_map, List.any_eq_not_all_not, show (l.all ((fun p => onceB p.at_) ∘ Pw.pe)) = l.all fun x => onceB x.pe.at_ from rfl]
    simp only [Bool.not_not]
    cases onceB c.els <;> cases onceB c.reps <;> cases onceB c.ats <;> cases onceB ((l.map Pw.pe).map Pe.el) <;> cases (l.all fun x => onceB x.pe.at_) <;> rfl
  have HQ := Lib.hid hfin; have HLEN := Lib.hid hlen; have HW := Lib.hid hw0; have HB1 := Lib.hid hb1; have HR := Lib.hid hr
  have HBX := Lib.hid (fun wx (hb : Below w0.heap.size w0 wx) => hbx.below hb hz)
  have HE := Lib.hid (fun wx hb => twiceS vE c.els wx e1 (sv_on h0.e hb) (by have := hs.e; omega) he1)
  have HRR := Lib.hid (fun wx hb => twiceS vR c.reps wx e2 (sv_on h0.r hb) (by have := hs.r; omega) he2)
  have HAA := Lib.hid (fun wx hb => twiceS vA c.ats wx e3 (sv_on h0.a hb) (by have := hs.a; omega) he3)
  have HPP := Lib.hid (fun wx hb => twiceP (.slice A l.length cp) l wx e4 (h0.p.on hb) (by omega) he4)
  clear hq hfin hlen hs h h0 hpl hr hb1 hbx he1 he2 he3 he4 hw0
  go_enter Try.func58, Try.ntmps58
  go_wp2
  rw [HW.out]
  go_loopw [5, 9] (fun _ i wr => ∃ k : Nat, i = .int .i64 k ∧ k ≤ l.length ∧ ((l.take k).any fun x => !onceB x.pe.at_) = false ∧ Below w0.heap.size w0 wr) (fun _ i _ => l.length - (intOf i).toNat)
  case atStart => exact ⟨0, rfl, Nat.zero_le _, rfl, Below.refl _ _⟩
  case round =>
    obtain ⟨k, rfl, hks, hn, hbel⟩ := hrel
    by_cases hk : k < l.length
    · obtain ⟨b, off, x, rfl, hb, hx, hcs, hsx, hxm⟩ := (HR.out.below hbel).at_ k hk
      obtain ⟨k0, k1⟩ := range2p hcs
      have hx1 := HLEN.out x hxm
      have hsn := any_snoc (fun x : Pw => !onceB x.pe.at_) l k x hx
      rw [hn, Bool.false_or] at hsn
      obtain ⟨t, ht⟩ : ∃ t, (!onceB x.pe.at_) = t := ⟨_, rfl⟩
      rw [ht] at hsn
      have hsx1 : Sx (wr.alloc (perO x)) (wr.alloc (perO x)).heap.size x := Sx.boxed hsx hbel (perO x)
      have HT := Lib.hid (twiceS (.slice x.A x.pe.at_.length x.c) x.pe.at_ _ t hsx1 (by omega) ht)
      have HSN := Lib.hid hsn; have HBL := Lib.hid (hbel.trans ((below_new12 wr (perO x)).mono hbel.size))
      clear hcs hsx hsx1 hsn hn hbel
      cases t with
      | true =>
        have HM := Lib.hid (any_yes (fun x : Pw => !onceB x.pe.at_) l x hxm ht)
        clear ht
        go_wp2_with fail
        refine HT.out.mono ?_
        rintro r w3 ⟨rfl, hb3⟩
        go_wp2
        go_ret
        exact ⟨ret_bool (by rw [← HQ.out, HM.out]; rfl), HB1.out.trans ((HBL.out.trans (hb3.mono HBL.out.size)).mono HB1.out.size)⟩
      | false =>
        clear ht
        go_wp2_with fail
        refine HT.out.mono ?_
        rintro r w3 ⟨rfl, hb3⟩
        go_wp2
        go_roundw
        case rel => exact ⟨k + 1, by go_num, by omega, HSN.out, HBL.out.trans (hb3.mono HBL.out.size)⟩
        case measure => simp [intOf]; omega
    · rw [List.take_of_length_le (by omega)] at hn
      have hq := HQ.out
      rw [hn, Bool.false_or] at hq
      have g2 := (HBX.out wr hbel).at_.2.2.1
      have HBL := Lib.hid hbel; have HQ2 := Lib.hid hq
      clear hn hbel hq
      cases e1 with
      | true =>
        go_wp2_with (go_at_call 84; refine (HE.out _ HBL.out).mono ?_; rintro r w3 ⟨rfl, hb3⟩)
        go_ret
        exact ⟨ret_bool (by rw [← HQ2.out]; rfl), HB1.out.trans ((HBL.out.trans (hb3.mono HBL.out.size)).mono (Nat.le_of_lt hz))⟩
      | false =>
        go_wp2_with fail
        refine (HE.out _ HBL.out).mono ?_
        rintro r w3 ⟨rfl, hb3⟩
        have HBL3 := Lib.hid (HBL.out.trans (hb3.mono HBL.out.size))
        clear hb3 g2
        have g3 := (HBX.out w3 HBL3.out).at_.2.2.2.1
        cases e2 with
        | true =>
          go_wp2_with (go_at_call 84; refine (HRR.out _ HBL3.out).mono ?_; rintro r w4 ⟨rfl, hb4⟩)
          go_ret
          exact ⟨ret_bool (by rw [← HQ2.out]; rfl), HB1.out.trans ((HBL3.out.trans (hb4.mono HBL3.out.size)).mono (Nat.le_of_lt hz))⟩
        | false =>
          go_wp2_with fail
          refine (HRR.out _ HBL3.out).mono ?_
          rintro r w4 ⟨rfl, hb4⟩
          have HBL4 := Lib.hid (HBL3.out.trans (hb4.mono HBL3.out.size))
          clear hb4 g3
          have g4 := (HBX.out w4 HBL4.out).at_.2.2.2.2.1
          cases e3 with
          | true =>
            go_wp2_with (go_at_call 84; refine (HAA.out _ HBL4.out).mono ?_; rintro r w5 ⟨rfl, hb5⟩)
            go_ret
            exact ⟨ret_bool (by rw [← HQ2.out]; rfl), HB1.out.trans ((HBL4.out.trans (hb5.mono HBL4.out.size)).mono (Nat.le_of_lt hz))⟩
          | false =>
            go_wp2_with fail
            refine (HAA.out _ HBL4.out).mono ?_
            rintro r w5 ⟨rfl, hb5⟩
            have HBL5 := Lib.hid (HBL4.out.trans (hb5.mono HBL4.out.size))
            clear hb5 g4
            have g5 := (HBX.out w5 HBL5.out).at_.2.2.2.2.2.1
            go_wp2_with (go_at_call 86; refine (HPP.out _ HBL5.out).mono ?_; rintro r w6 ⟨rfl, hb6⟩)
            go_ret
            exact ⟨ret_bool (by rw [← HQ2.out]; rfl), HB1.out.trans ((HBL5.out.trans (hb6.mono HBL5.out.size)).mono (Nat.le_of_lt hz))⟩

end Go.Proofs.Ytdjkeakagmgfgaa.Co

namespace Go.Proofs.Ytdjkeakagmgfgaa.Co
set_option maxRecDepth 100000
set_option linter.unusedVariables false
set_option linter.unusedSimpArgs false
open Go.RowKit Ba Fm Fo Nm Rk
theorem meetSP_eq (a : List ByteArray) (l : List Pe) : meetSPB a l = l.any fun p => meetB p.at_ a := by
  unfold meetSPB
  rw [Bool.eq_iff_iff, List.any_eq_true, List.any_eq_true]
  constructor
  · rintro ⟨x, hx, h⟩
    obtain ⟨p, hp, hi⟩ := List.any_eq_true.1 h
    exact ⟨p, hp, meet_iff.2 ⟨x, isIn_of hi, hx⟩⟩
  · rintro ⟨p, hp, h⟩
    obtain ⟨x, h1, h2⟩ := meet_iff.1 h
    exact ⟨x, h2, any_yes _ _ p hp (isIn_yes h1)⟩
set_option maxRecDepth 100000 in
set_option maxHeartbeats 4000000 in
theorem contradicts1 (v : Value) (c : Cf) (w : World) (q : Bool) (h : Cv w w.heap.size v c) (hs : Sm c) (hq : bothB c = q) :
    Calls Try.prog 59 #[v] w fun r w' => r = .returned (.bool q) ∧ Below w.heap.size w w' := by
  obtain ⟨vE, vR, vA, vP, l, rfl, h⟩ := h
  obtain ⟨al, aa, els, reps, ats, per, cm, da⟩ := c
  obtain ⟨O, hO⟩ : ∃ O : Obj, O = .cells #[.bool al, .bool aa, vE, vR, vA, vP, .bool cm, .bool da] 26 := ⟨_, rfl⟩
  have hb1 : Below w.heap.size w (w.alloc O) := below_new12 w O
  have hz : w.heap.size < (w.alloc O).heap.size := by simp
  have hbx : Bx (w.alloc O) w.heap.size ⟨al, aa, els, reps, ats, per, cm, da⟩ vE vR vA vP := by rw [hO]; exact Bx.new w ⟨al, aa, els, reps, ats, per, cm, da⟩ vE vR vA vP
  have h0 := h.on hb1
  have hpl : per.length = l.length := by have := h.m; simp only at this; rw [← this, len_pes]
  have hl : l.length ≤ 1000 := by have := hs.p; simp only at this; omega
  have hlen : ∀ x ∈ l, x.pe.at_.length ≤ 1000000 := fun x hx => Nat.le_trans (hs.pa x.pe (by rw [← h.m]; exact List.mem_map.2 ⟨x, hx, rfl⟩)) (by omega)
  obtain ⟨e1, he1⟩ : ∃ b, meetB els reps = b := ⟨_, rfl⟩
  obtain ⟨e2, he2⟩ : ∃ b, meetSPB ats (pes l) = b := ⟨_, rfl⟩
  have hfin : (e1 || e2 || (da && !aa)) = q := by
    rw [← hq, ← he1, ← he2, meetSP_eq, h.m]
    show (meetB els reps || (per.any fun p => meetB p.at_ ats) || (da && !aa)) = (meetB els reps || (da && !aa) || per.any fun p => meetB p.at_ ats)
    rw [Bool.or_assoc, Bool.or_assoc, Bool.or_comm (per.any _)]
  have hls := hs.e; have hlr := hs.r; have hla := hs.a
  simp only at hls hlr hla
  have HE := Lib.hid (fun wx (hw : w.alloc O = wx) => meetSS vE vR wx.heap.size wx.heap.size els reps wx e1 (by subst hw; exact h0.e) (by subst hw; exact h0.r) (by omega) (by omega) he1)
  have HP := Lib.hid (fun wx (hw : w.alloc O = wx) => meetSP vA vP ats l wx e2 (by subst hw; exact h0.a) (by subst hw; exact h0.p) (by omega) (by omega) hlen he2)
  have H1 := Lib.hid (fun (wx : World) (hb : Below (w.alloc O).heap.size (w.alloc O) wx) => show wx.cell? ⟨w.heap.size, 1, none⟩ = some (.bool aa) ∧ wx.cell? ⟨w.heap.size, 7, none⟩ = some (.bool da) from ⟨(hbx.below hb hz).at_.2.1, (hbx.below hb hz).at_.2.2.2.2.2.2.2⟩)
  have HB1 := Lib.hid hb1; have HQ := Lib.hid hfin
  clear hq hfin hlen hs h h0 hpl hb1 hbx he1 he2 hls hlr hla
  subst hO
  cases e1 with
  | true =>
    go_enter Try.func59, Try.ntmps59
    go_wp2_with (go_at_call 88; refine (HE.out _ rfl).mono ?_; rintro r w3 ⟨rfl, rfl⟩)
    go_ret
    exact ⟨ret_bool (by rw [← HQ.out]; rfl), HB1.out⟩
  | false =>
    cases e2 with
    | true =>
      go_enter Try.func59, Try.ntmps59
      go_wp2_with (first
        | (go_at_call 88; refine (HE.out _ rfl).mono ?_; rintro r w3 ⟨rfl, rfl⟩)
        | (go_at_call 89; refine (HP.out _ rfl).mono ?_; rintro r w3 ⟨rfl, hb3⟩))
      go_ret
      exact ⟨ret_bool (by rw [← HQ.out]; rfl), bt HB1.out hb3⟩
    | false =>
      cases da with
      | true =>
        go_enter Try.func59, Try.ntmps59
        go_wp2_with (first
          | (go_at_call 88; refine (HE.out _ rfl).mono ?_; rintro r w3 ⟨rfl, rfl⟩)
          | (go_at_call 89; refine (HP.out _ rfl).mono ?_; rintro r w3 ⟨rfl, hb3⟩; obtain ⟨g1, g7⟩ := H1.out _ hb3))
        go_ret
        exact ⟨ret_bool (by rw [← HQ.out]; simp), bt HB1.out hb3⟩
      | false =>
        go_enter Try.func59, Try.ntmps59
        go_wp2_with (first
          | (go_at_call 88; refine (HE.out _ rfl).mono ?_; rintro r w3 ⟨rfl, rfl⟩)
          | (go_at_call 89; refine (HP.out _ rfl).mono ?_; rintro r w3 ⟨rfl, hb3⟩; obtain ⟨g1, g7⟩ := H1.out _ hb3))
        go_ret
        exact ⟨ret_bool (by rw [← HQ.out]; rfl), bt HB1.out hb3⟩
set_option maxRecDepth 100000 in
set_option maxHeartbeats 4000000 in
theorem check12 (v : Value) (c : Cf) (w : World) (q : Nat) (h : Cv w w.heap.size v c) (hs : Sm c) (hq : checkN c = q) :
    Calls Try.prog 31 #[v] w fun r w' => r = .returned (.int .i64 q) ∧ Below w.heap.size w w' := by
  obtain ⟨vE, vR, vA, vP, l, rfl, h⟩ := h
  obtain ⟨w0, hw0⟩ : ∃ w0, w.alloc (confO c vE vR vA vP) = w0 := ⟨_, rfl⟩
  have hb1 : Below w.heap.size w w0 := hw0 ▸ below_new12 w (confO c vE vR vA vP)
  have hbx : Bx w0 w.heap.size c vE vR vA vP := hw0 ▸ Bx.new w c vE vR vA vP
  have hz : w.heap.size < w0.heap.size := by rw [← hw0]; simp
  have hcv : Cv w0 w0.heap.size (confV c vE vR vA vP) c := ⟨vE, vR, vA, vP, l, rfl, h.on hb1⟩
  obtain ⟨e1, he1⟩ : ∃ b, bigB c = b := ⟨_, rfl⟩
  obtain ⟨e2, he2⟩ : ∃ b, (!namesB c) = b := ⟨_, rfl⟩
  obtain ⟨e3, he3⟩ : ∃ b, (!singleB c) = b := ⟨_, rfl⟩
  obtain ⟨e4, he4⟩ : ∃ b, bothB c = b := ⟨_, rfl⟩
  have hfin : (if e1 = true then 2 else if e2 = true then 121 else if e3 = true then 122 else if e4 = true then 120 else 0) = q := by
    rw [← hq, ← he1, ← he2, ← he3, ← he4]
    unfold checkN
    cases namesB c <;> cases singleB c <;> rfl
  have HBX := Lib.hid (fun wx (hb : Below w0.heap.size w0 wx) => (hbx.below hb hz).at_)
  have H1 := Lib.hid (fun wx hb => exceeds1 (confV c vE vR vA vP) c wx e1 (hcv.on hb) hs he1)
  have H2 := Lib.hid (fun wx hb => misnames1 (confV c vE vR vA vP) c wx e2 (hcv.on hb) hs he2)
  have H3 := Lib.hid (fun wx hb => repeats1 (confV c vE vR vA vP) c wx e3 (hcv.on hb) hs he3)
  have H4 := Lib.hid (fun wx hb => contradicts1 (confV c vE vR vA vP) c wx e4 (hcv.on hb) hs he4)
  have HW := Lib.hid hw0; have HB1 := Lib.hid hb1
  clear hq hs h hb1 hbx he1 he2 he3 he4 hw0 hcv
  go_enter Try.func31, Try.ntmps31
  go_wp2_with fail
  rw [HW.out]
  refine (H1.out _ (Below.refl _ _)).mono ?_
  rintro r w1 ⟨rfl, hb1⟩
  have HL1 := Lib.hid hb1
  obtain ⟨g0, g1, g2, g3, g4, g5, g6, g7⟩ := HBX.out w1 hb1
  clear hb1
  cases e1 with
  | true =>
    rw [if_pos rfl] at hfin
    subst hfin
    go_wp2
    go_ret
    exact ⟨rfl, HB1.out.trans (HL1.out.mono (Nat.le_of_lt hz))⟩
  | false =>
  rw [if_neg (by simp)] at hfin
  go_wp2_with fail
  refine (H2.out _ HL1.out).mono ?_
  rintro r w2 ⟨rfl, hb2⟩
  have HL2 := Lib.hid (HL1.out.trans (hb2.mono HL1.out.size))
  clear g0 g1 g2 g3 g4 g5 g6 g7 hb2
  obtain ⟨g0, g1, g2, g3, g4, g5, g6, g7⟩ := HBX.out w2 HL2.out
  cases e2 with
  | true =>
    rw [if_pos rfl] at hfin
    subst hfin
    go_wp2
    go_ret
    exact ⟨rfl, HB1.out.trans (HL2.out.mono (Nat.le_of_lt hz))⟩
  | false =>
  rw [if_neg (by simp)] at hfin
  go_wp2_with fail
  refine (H3.out _ HL2.out).mono ?_
  rintro r w3 ⟨rfl, hb3⟩
  have HL3 := Lib.hid (HL2.out.trans (hb3.mono HL2.out.size))
  clear g0 g1 g2 g3 g4 g5 g6 g7 hb3
  obtain ⟨g0, g1, g2, g3, g4, g5, g6, g7⟩ := HBX.out w3 HL3.out
  cases e3 with
  | true =>
    rw [if_pos rfl] at hfin
    subst hfin
    go_wp2
    go_ret
    exact ⟨rfl, HB1.out.trans (HL3.out.mono (Nat.le_of_lt hz))⟩
  | false =>
  rw [if_neg (by simp)] at hfin
  go_wp2_with fail
  refine (H4.out _ HL3.out).mono ?_
  rintro r w4 ⟨rfl, hb4⟩
  have HL4 := Lib.hid (HL3.out.trans (hb4.mono HL3.out.size))
  clear g0 g1 g2 g3 g4 g5 g6 g7 hb4
  cases e4 with
  | true =>
    rw [if_pos rfl] at hfin
    subst hfin
    go_wp2
    go_ret
    exact ⟨rfl, HB1.out.trans (HL4.out.mono (Nat.le_of_lt hz))⟩
  | false =>
    rw [if_neg (by simp)] at hfin
    subst hfin
    go_wp2
    go_ret
    exact ⟨rfl, HB1.out.trans (HL4.out.mono (Nat.le_of_lt hz))⟩

end Go.Proofs.Ytdjkeakagmgfgaa.Co

namespace Go.Proofs.Ytdjkeakagmgfgaa.Cn
set_option maxRecDepth 100000
set_option linter.unusedVariables false
set_option linter.unusedSimpArgs false
open Go.RowKit Ba Ro
open Co (Cf Cv Sm confV confO attrB12 elementN checkN bel_eq12)
/-- The error of a configuration and rows. -/
def errI (c : Cf) (l : List Ro) : Int := if checkN c = 0 then check l else checkN c
theorem err_ok {c : Cf} {l : List Ro} : errI c l = 0 ↔ checkN c = 0 ∧ check l = 0 := by
  unfold errI
  constructor
  · intro h
    split at h
    · rename_i h1; exact ⟨h1, h⟩
    · rename_i h1; exact absurd h (by omega)
  · rintro ⟨h1, h2⟩
    rw [if_pos h1, h2]
def outL (c : Cf) (s : Bool) (l : List Ro) : List Ro := if errI c l = 0 then cleanL c s l else []
theorem held_check {l : List Ro} (h : check l = 0) : Held l := fun x hx => by
  obtain ⟨h1, h2⟩ := check_parts h
  have hn : ¬ exceeds l 4096 60 = true := by rw [h1]; decide
  rw [exceeds_iff] at hn
  have h3 := (fo_right h2).1 x hx
  have h4 : ¬ 60 ≤ x.depth := fun h => hn (.inr ⟨x, hx, h⟩)
  omega
theorem attrs_len (c : Cf) (s : Bool) (x : Ro) : (attrsF c s x).length ≤ x.attrs.length := List.length_filter_le _ _
theorem few_kept {c : Cf} {s : Bool} {l : List Ro} (hr : right l = true) (hf : Few l) : Few (keptL c s l) := fun y hy => by
  obtain ⟨x, hx, _, _, h⟩ := K_mem (fo_right hr) 0 (by omega) y hy
  rw [h]
  exact Nat.le_trans (attrs_len c s x) (hf x hx)
theorem few_clean {c : Cf} {s : Bool} {l : List Ro} (hr : right l = true) (hf : Few l) : Few (cleanL c s l) := fun y hy => few_normal (few_kept hr hf) hy
theorem txt_one_le {m : List Ro} {y : Ro} (h : y ∈ m) (hk : y.kind = 1) : y.data.size ≤ (txt m).length := by
  induction m with
  | nil => cases h
  | cons x r ih =>
    rw [txt, List.length_append]
    rcases List.mem_cons.1 h with rfl | h
    · rw [if_pos hk, size_L]; omega
    · have := ih h; omega
theorem small_clean {c : Cf} {s : Bool} {l : List Ro} (hr : right l = true) (hz : Rz.Small l) (ht : (txt l).length ≤ 1000000000) : Rz.Small (cleanL c s l) := fun y hy => by
  rcases clean_mem c s hr y hy with ⟨h1, h2⟩ | ⟨x, hx, _, h⟩
  · have h3 := txt_one_le hy h1
    have h4 := clean_txt_le c s hr
    have hok : okRow y = true := safe_stays.right_ok _ 0 (clean_right c s hr) y hy
    have hn : y.name = .empty := congrArg Ro.name (text_form hok h1)
    refine ⟨?_, by omega, fun a ha => by rw [h2] at ha; cases ha⟩
    rw [hn]
    exact Nat.zero_le _
  · obtain ⟨z1, z2, z3⟩ := hz x hx
    rw [h]
    exact ⟨z1, z2, fun a ha => z3 a (List.mem_filter.1 ha).1⟩

set_option maxRecDepth 100000 in
set_option maxHeartbeats 2000000 in
theorem rows13 (u v : Value) (l : List Cw) (c : Cf) (s : Bool) (w : World) (hl : Rv w u l) (hll : l.length ≤ 1000000) (hz : Rz.Small (ros l)) (hf : Few (ros l)) (ht : (txt (ros l)).length ≤ 1000000000) (hc : Cv w w.heap.size v c) (hs : Sm c) (E : Int) (q : List Ro) (hE : errI c (ros l) = E) (hq : outL c s (ros l) = q) :
    Calls Try.prog 14 #[u, v, .bool s] w fun r w' => ∃ V y, r = .returned (.tuple #[V, .int .i64 E]) ∧ Od w.heap.size w' V y ∧ ros y = q ∧ Rv w' V y ∧ Below w.heap.size w w' := by
  obtain ⟨vE, vR, vA, vP, pl, rfl, hc⟩ := hc
  obtain ⟨w1, hw1⟩ : ∃ w1, w.alloc (confO c vE vR vA vP) = w1 := ⟨_, rfl⟩
  have hb1 : Below w.heap.size w w1 := hw1 ▸ below_new w _
  have hbx : Co.Bx w1 w.heap.size c vE vR vA vP := hw1 ▸ Co.Bx.new w c vE vR vA vP
  have hz1 : w.heap.size < w1.heap.size := by rw [← hw1]; simp
  have hcv : Cv w1 w1.heap.size (confV c vE vR vA vP) c := ⟨_, _, _, _, _, rfl, hc.on hb1⟩
  obtain ⟨qc, hqc⟩ : ∃ q, checkN c = q := ⟨_, rfl⟩
  obtain ⟨qr, hqr⟩ : ∃ q, check (ros l) = q := ⟨_, rfl⟩
  have HCK := Lib.hid (Co.check12 (confV c vE vR vA vP) c w1 qc hcv hs hqc)
  have hl1 := hl.below hb1
  have HBX := Lib.hid hbx; have HW1 := Lib.hid hw1; have HB1 := Lib.hid hb1; have HCV := Lib.hid hcv; have HL1 := Lib.hid hl1; have HSM := Lib.hid hs; have HZ := Lib.hid hz; have HF := Lib.hid hf; have HT := Lib.hid ht; have HE := Lib.hid hE; have HQ := Lib.hid hq; have HQC := Lib.hid hqc; have HQR := Lib.hid hqr
  have HCP := Lib.hid hc
  clear hc hl hs hz hf ht hE hq hw1 hb1 hbx hcv hl1 hqc hqr
  have nil13 : ∀ w' : World, Rv w' (.slice none 0 0) [] := fun w' => ⟨none, 0, rfl, Nat.le_refl _, Nat.zero_le _, Rr.nil _ _ _, fun x hx => by cases hx⟩
  have HNL := Lib.hid nil13
  clear nil13
  go_enter Try.func14, Try.ntmps14
  go_upto_region 1 with (fail)
  rw [HW1.out]
  clear HW1
  by_cases h0 : qc = 0
  · subst h0
    go_upto_region 4 with (first
      | (show wpList _ _ _ (⟨_, Op.load 26 (.tmp 4), _, _, _, _⟩ :: _) _ _; refine wpList_load_mid rfl 26 (.tmp 4) rfl w.heap.size 0 rfl _ _ HBX.out Try.underlying26 rfl Co.size_conf ?_)
      | (go_at_call 31; refine HCK.out.mono ?_; rintro r w2 ⟨rfl, hb2⟩; have HB2 := Lib.hid hb2; clear hb2)
      | fail)
    have HBX2 := Lib.hid (HBX.out.below HB2.out hz1)
    have HRC := Lib.hid (check1 u l w2 qr (HL1.out.below HB2.out) hll HQR.out)
    have hz2 := HB2.out.size
    by_cases h1 : qr = 0
    · subst h1
      obtain ⟨hex, hrt⟩ := check_parts HQR.out
      have hEq : E = 0 := by rw [← HE.out]; exact err_ok.2 ⟨HQC.out, HQR.out⟩
      subst hEq
      have hqn : normal (keptL c s (ros l)) = q := by rw [← HQ.out]; unfold outL; rw [if_pos HE.out]; rfl
      have hkf : Few (keptL c s (ros l)) := few_kept hrt HF.out
      have hkl : (keptL c s (ros l)).length ≤ 1000000 := Nat.le_trans (K_len (fo_right hrt) 0) (by rw [len_ros]; exact hll)
      have hkt : (txt (keptL c s (ros l))).length ≤ 1000000000 := Nat.le_trans (txt_K (fo_right hrt) 0) HT.out
      have hkh : Held (keptL c s (ros l)) := fun y hy => by
        obtain ⟨x, hx, _, hd, _⟩ := K_mem (fo_right hrt) 0 (by omega) y hy
        have h3 := held_check HQR.out x hx
        have h4 := (kept_wd c s hrt).1 y hy
        omega
      have hqh : Held q := by rw [← hqn]; exact held_check (clean_check c s HQR.out)
      have HQN := Lib.hid hqn; have HKF := Lib.hid hkf; have HKL := Lib.hid hkl; have HKT := Lib.hid hkt; have HKH := Lib.hid hkh; have HQH := Lib.hid hqh
      clear hex hrt hqn hkf hkl hkt hkh hqh
      go_upto_region 7 with (first
        | (go_at_call 32; refine HRC.out.mono ?_; rintro r w3 ⟨rfl, hb3⟩; have HB3 := Lib.hid (HB2.out.trans (hb3.mono HB2.out.size)); clear hb3)
        | fail)
      have HBX3 := Lib.hid (HBX.out.below HB3.out hz1)
      have hb03 := HB1.out.trans (HB3.out.mono HB1.out.size)
      obtain ⟨A0, c0, eU, hlc, hcm, hrr, hhe⟩ := HL1.out.below HB3.out
      subst eU
      have HFI := Lib.hid (filtered_any A0 c0 l (confV c vE vR vA vP) c s w3 hrr hlc hcm HZ.out HF.out ⟨_, _, _, _, _, rfl, HCP.out.on hb03⟩ HSM.out HQR.out)
      have HB03 := Lib.hid hb03
      clear hb03 hlc hcm hrr hhe
      go_wp2_with (first
        | (show wpList _ _ _ (⟨_, Op.load 26 (.tmp 4), _, _, _, _⟩ :: _) _ _; refine wpList_load_mid rfl 26 (.tmp 4) rfl w.heap.size 0 rfl _ _ HBX3.out Try.underlying26 rfl Co.size_conf ?_)
        | (go_at_call 34; refine HFI.out.mono ?_; rintro r w4 ⟨v4, l4, rfl, ho4, hr4, hb4⟩; have HO4 := Lib.hid ho4; have HR4 := Lib.hid hr4; have HB4 := Lib.hid hb4; clear ho4 hr4 hb4)
        | (go_at_call 33; refine (normal1 v4 l4 w4 q (HO4.out.ow.rv (by rw [HR4.out]; exact HKH.out)) (by rw [← len_ros, HR4.out]; exact HKL.out) (by rw [HR4.out]; exact HKF.out) (by rw [HR4.out]; exact HKT.out) (by rw [HR4.out]; exact HQN.out) HQH.out).mono ?_; rintro r w5 ⟨v5, y5, rfl, ho5, hf5, hy5, hv5, hb5⟩; have HO5 := Lib.hid ho5; have HF5 := Lib.hid hf5; have HY5 := Lib.hid hy5; have HV5 := Lib.hid hv5; have HB5 := Lib.hid hb5; clear ho5 hf5 hy5 hv5 hb5)
        | fail)
      go_ret2
      have h4 := HB03.out.trans (HB4.out.mono HB03.out.size)
      exact ⟨v5, y5, rfl, (show Od _ w5 v5 y5 from ⟨HO5.out.1, HF5.out⟩).mono h4.size, HY5.out, HV5.out, h4.trans (HB5.out.mono h4.size)⟩
    · have hEq : E = qr := by rw [← HE.out]; unfold errI; rw [if_pos HQC.out, HQR.out]
      subst hEq
      have hq0 : q = [] := by rw [← HQ.out]; unfold outL; rw [if_neg (by rw [HE.out]; exact h1)]
      subst hq0
      have hqb : (E == 0) = false := by simpa using h1
      go_wp2_with (first
        | (go_at_call 32; refine HRC.out.mono ?_; rintro r w3 ⟨rfl, hb3⟩; have HB3 := Lib.hid (HB2.out.trans (hb3.mono HB2.out.size)); clear hb3)
        | fail)
      go_ret2
      exact ⟨_, [], rfl, Od.nil _ _, rfl, HNL.out _, HB1.out.trans (HB3.out.mono HB1.out.size)⟩
  · have hEq : E = (qc : Int) := by rw [← HE.out]; unfold errI; rw [if_neg (by rw [HQC.out]; exact h0), HQC.out]
    subst hEq
    have hq0 : q = [] := by rw [← HQ.out]; unfold outL; rw [if_neg (by rw [HE.out]; omega)]
    subst hq0
    have hqb : ((qc : Int) == 0) = false := by simp; omega
    go_wp2_with (first
      | (show wpList _ _ _ (⟨_, Op.load 26 (.tmp 4), _, _, _, _⟩ :: _) _ _; refine wpList_load_mid rfl 26 (.tmp 4) rfl w.heap.size 0 rfl _ _ HBX.out Try.underlying26 rfl Co.size_conf ?_)
      | (go_at_call 31; refine HCK.out.mono ?_; rintro r w2 ⟨rfl, hb2⟩; have HB2 := Lib.hid hb2; clear hb2)
      | fail)
    go_ret2
    exact ⟨_, [], rfl, Od.nil _ _, rfl, HNL.out _, HB1.out.trans (HB2.out.mono HB1.out.size)⟩

end Go.Proofs.Ytdjkeakagmgfgaa.Cn

namespace Go.Proofs.Ytdjkeakagmgfgaa.Fo
set_option maxRecDepth 100000
set_option linter.unusedSimpArgs false
set_option linter.unusedVariables false
open Go.RowKit Ba Fm
end Go.Proofs.Ytdjkeakagmgfgaa.Fo

namespace Go.Proofs.Ytdjkeakagmgfgaa.Fo
set_option maxRecDepth 100000
set_option linter.unusedSimpArgs false
set_option linter.unusedVariables false
open Go.RowKit Ba Fm
end Go.Proofs.Ytdjkeakagmgfgaa.Fo

namespace Go.Proofs.Ytdjkeakagmgfgaa.Fo
set_option maxRecDepth 100000
set_option linter.unusedSimpArgs false
set_option linter.unusedVariables false
open Go.RowKit Ba Fm
end Go.Proofs.Ytdjkeakagmgfgaa.Fo

namespace Go.Proofs.Ytdjkeakagmgfgaa.Fo
set_option linter.unusedSimpArgs false
set_option linter.unusedVariables false
open Go.RowKit Ba Fm
end Go.Proofs.Ytdjkeakagmgfgaa.Fo

namespace Go.Proofs.Ytdjkeakagmgfgaa.Co
set_option maxRecDepth 100000
set_option linter.unusedVariables false
set_option linter.unusedSimpArgs false
open Go.RowKit Ba Fm Fo Nm Rk
end Go.Proofs.Ytdjkeakagmgfgaa.Co

namespace Go.Proofs.Ytdjkeakagmgfgaa.Ph
set_option linter.unusedVariables false
set_option linter.unusedSimpArgs false
open Go
section
variable {P : Program} {ops : Array Oper} {Q : Exit → Act → World → Prop} {md : Region.Mode} {S : World → Prop} {st : Nat}
/-- Whatever comes up next; till number 'st' has come up, S is shown of each world. -/
def anyT (P : Program) (md : Region.Mode) (ops : Array Oper) (Q : Exit → Act → World → Prop) (S : World → Prop) (st : Nat) : Nat → Array Bool → Act → World → Prop
  | 0, l, a, w => Region.ready md ops l = [] ∧ Q .normal a w
  | n + 1, l, a, w => (Region.ready md ops l = [] → Q .normal a w) ∧
    ∀ i ∈ Region.ready md ops l, wpOp P ops Q i (fun a' w' => ((l.setIfInBounds i true).getD st true = false → S w') ∧ anyT P md ops Q S st n (l.setIfInBounds i true) a' w') a w
theorem any_of_T : ∀ (n : Nat) (l : Array Bool) (a : Act) (w : World), anyT P md ops Q S st n l a w → wpAny P md ops Q n l a w
  | 0, _, _, _, h => h
  | n + 1, _, _, _, h => ⟨h.1, fun i hi => wpOp_mono (fun a' w' k => any_of_T n _ a' w' k.2) (h.2 i hi)⟩

/-- Number st waits for number i. -/
def waits (md : Region.Mode) (ops : Array Oper) (st i : Nat) : Bool := ((ops[st]?).map fun o => o.after.any fun e => Region.binds md e && e.on == i).getD false
theorem waits_not {i : Nat} {l : Array Bool} (hw : waits md ops st i = true) (hi : i ∈ Region.ready md ops l) : st ∉ Region.ready md ops l := fun hs => by
  obtain ⟨_, o, ho, hall⟩ := mem_ready.1 hs
  have hi0 := (mem_ready.1 hi).1
  unfold waits at hw
  rw [ho] at hw
  simp only [Option.map_some, Option.getD_some] at hw
  obtain ⟨e, he, hb⟩ := Array.any_eq_true'.1 hw
  rw [Bool.and_eq_true, beq_iff_eq] at hb
  have h1 := hall e he hb.1
  rw [hb.2] at h1
  by_cases hlt : i < l.size
  · simp [hlt] at hi0 h1
    rw [hi0] at h1
    cases h1
  · simp [Array.getElem?_eq_none (Nat.le_of_not_lt hlt)] at h1

theorem T_first {i : Nat} {oi : Oper} {v : Value} (hi : ops[i]? = some oi) (hsel : ∀ (j : Nat) (o : Oper) cs b, ops[j]? = some o → o.op ≠ .select cs b)
    (hQ : ∀ c a w, Q (.panic c) (a.put oi.dst v) w → Q (.panic c) a w) (hw : waits md ops st i = true) (hne : i ≠ st) :
    ∀ (n : Nat) (l : Array Bool) (a : Act) (w : World),
      (∀ j oj, ops[j]? = some oj → j ≠ i → l.getD j true = false → (∀ e ∈ oj.after, Region.binds md e = true → e.on ≠ i) → oi.apart ops oj = true) →
      l.getD st true = false → i ∈ Region.ready md ops l → YieldsIf P ops S oi v a → S w → anyT P md ops Q S st n (l.setIfInBounds i true) (a.put oi.dst v) w → anyT P md ops Q S st (n + 1) l a w := by
  intro n
  induction n with
  | zero =>
    intro l a w hf hst hr hy hS H
    refine ⟨fun e => by rw [e] at hr; (cases hr), fun j hj => ?_⟩
    by_cases hji : j = i
    · rw [hji]
      exact hy.wpOp hi hS ⟨fun _ => hS, H⟩
    · have hj' := ready_mono hj hji
      rw [H.1] at hj'
      cases hj'
  | succ n ih =>
    intro l a w hf hst hr hy hS H
    refine ⟨fun e => by rw [e] at hr; (cases hr), fun j hj => ?_⟩
    by_cases hji : j = i
    · rw [hji]
      exact hy.wpOp hi hS ⟨fun _ => hS, H⟩
    · have hjs : j ≠ st := fun e => waits_not hw hr (e ▸ hj)
      obtain ⟨hun, oj, hoj, hall⟩ := mem_ready.1 hj
      have hno : ∀ e ∈ oj.after, Region.binds md e = true → e.on ≠ i := fun e he hb hon => by
        have h1 := hall e he hb
        have h0 := (mem_ready.1 hr).1
        rw [hon] at h1
        by_cases hlt : i < l.size
        · simp [hlt] at h0 h1
          rw [h0] at h1
          cases h1
        · simp [Array.getElem?_eq_none (Nat.le_of_not_lt hlt)] at h1
      have hst' : (l.setIfInBounds j true).getD st true = false := (getD_set_ne true hjs).trans hst
      have hf' : ∀ k ok, ops[k]? = some ok → k ≠ i → (l.setIfInBounds j true).getD k true = false → (∀ e ∈ ok.after, Region.binds md e = true → e.on ≠ i) → oi.apart ops ok = true := fun k ok hk hki hku hkn => by
        by_cases hjk : j = k
        · exact hf k ok hk hki (hjk ▸ hun) hkn
        · rw [getD_set_ne true hjk] at hku
          exact hf k ok hk hki hku hkn
      refine wpOp_mono (fun a' w' k => ?_) (wpOp_putIf hoj (hf j oj hoj hji hun hno) (fun cs b => hsel i oi cs b hi) (fun cs b => hsel j oj cs b hoj) hQ hy (H.2 j (ready_mono hj hji)))
      have hS' : S w' := k.2.1 (by rw [getD_set_ne true hjs, getD_set_ne true hne]; exact hst)
      exact ⟨fun _ => hS', ih (l.setIfInBounds j true) a' w' hf' hst' (ready_mono hr (Ne.symm hji)) k.1 hS' (by rw [Array.setIfInBounds_comm _ _ hji]; exact k.2.2)⟩
theorem T_pure0 {i : Nat} {oi : Oper} {v : Value} (hi : ops[i]? = some oi) (hsel : ∀ (j : Nat) (o : Oper) cs b, ops[j]? = some o → o.op ≠ .select cs b)
    (hQ : ∀ c a w, Q (.panic c) (a.put oi.dst v) w → Q (.panic c) a w) (hne : i ≠ st) :
    ∀ (n : Nat) (l : Array Bool) (a : Act) (w : World),
      (∀ j oj, ops[j]? = some oj → j ≠ i → l.getD j true = false → (∀ e ∈ oj.after, Region.binds md e = true → e.on ≠ i) → oi.apart ops oj = true) →
      i ∈ Region.ready md ops l → YieldsIf P ops (fun _ => True) oi v a → (l.getD st true = false → S w) → anyT P md ops Q S st n (l.setIfInBounds i true) (a.put oi.dst v) w → anyT P md ops Q S st (n + 1) l a w := by
  intro n
  induction n with
  | zero =>
    intro l a w hf hr hy hS H
    refine ⟨fun e => by rw [e] at hr; (cases hr), fun j hj => ?_⟩
    by_cases hji : j = i
    · rw [hji]
      exact hy.wpOp hi trivial ⟨fun e => hS (by rw [getD_set_ne true hne] at e; exact e), H⟩
    · have hj' := ready_mono hj hji
      rw [H.1] at hj'
      cases hj'
  | succ n ih =>
    intro l a w hf hr hy hS H
    refine ⟨fun e => by rw [e] at hr; (cases hr), fun j hj => ?_⟩
    by_cases hji : j = i
    · rw [hji]
      exact hy.wpOp hi trivial ⟨fun e => hS (by rw [getD_set_ne true hne] at e; exact e), H⟩
    · obtain ⟨hun, oj, hoj, hall⟩ := mem_ready.1 hj
      have hno : ∀ e ∈ oj.after, Region.binds md e = true → e.on ≠ i := fun e he hb hon => by
        have h1 := hall e he hb
        have h0 := (mem_ready.1 hr).1
        rw [hon] at h1
        by_cases hlt : i < l.size
        · simp [hlt] at h0 h1
          rw [h0] at h1
          cases h1
        · simp [Array.getElem?_eq_none (Nat.le_of_not_lt hlt)] at h1
      have hf' : ∀ k ok, ops[k]? = some ok → k ≠ i → (l.setIfInBounds j true).getD k true = false → (∀ e ∈ ok.after, Region.binds md e = true → e.on ≠ i) → oi.apart ops ok = true := fun k ok hk hki hku hkn => by
        by_cases hjk : j = k
        · exact hf k ok hk hki (hjk ▸ hun) hkn
        · rw [getD_set_ne true hjk] at hku
          exact hf k ok hk hki hku hkn
      refine wpOp_mono (fun a' w' k => ?_) (wpOp_putIf hoj (hf j oj hoj hji hun hno) (fun cs b => hsel i oi cs b hi) (fun cs b => hsel j oj cs b hoj) hQ hy (H.2 j (ready_mono hj hji)))
      have hS' : (l.setIfInBounds j true).getD st true = false → S w' := fun e => k.2.1 (by rw [Array.setIfInBounds_comm _ _ (Ne.symm hji), getD_set_ne true hne]; exact e)
      exact ⟨hS', ih (l.setIfInBounds j true) a' w' hf' (ready_mono hr (Ne.symm hji)) k.1 hS' (by rw [Array.setIfInBounds_comm _ _ hji]; exact k.2.2)⟩
/-- Number i, which yields its value in whatever world, is taken first. -/
theorem T_pure {i : Nat} {oi : Oper} {v : Value} {n : Nat} {l : Array Bool} {a : Act} {w : World} (hi : ops[i]? = some oi) (hs : Region.noSelect ops = true) (hf : Region.free md ops l i = true) (hr : (Region.ready md ops l).contains i = true)
    (hw : (i != st) = true) (hQ : ∀ c a w, Q (.panic c) (a.put oi.dst v) w → Q (.panic c) a w) (hy : YieldsIf P ops (fun _ => True) oi v a) (hS : S w)
    (h : S w → anyT P md ops Q S st n (l.setIfInBounds i true) (a.put oi.dst v) w) : anyT P md ops Q S st (n + 1) l a w :=
  T_pure0 hi (Region.noSelect_spec hs) hQ (by simpa using hw) n l a w (Region.free_spec hi hf) (by simpa using hr) hy (fun _ => hS) (h hS)
/-- Number i is taken first. -/
theorem T_take {i : Nat} {oi : Oper} {v : Value} {n : Nat} {l : Array Bool} {a : Act} {w : World} (hi : ops[i]? = some oi) (hs : Region.noSelect ops = true) (hf : Region.free md ops l i = true) (hr : (Region.ready md ops l).contains i = true)
    (hw : (waits md ops st i && i != st && !l.getD st true) = true) (hQ : ∀ c a w, Q (.panic c) (a.put oi.dst v) w → Q (.panic c) a w) (hy : YieldsIf P ops S oi v a) (hS : S w)
    (h : S w → anyT P md ops Q S st n (l.setIfInBounds i true) (a.put oi.dst v) w) : anyT P md ops Q S st (n + 1) l a w := by
  simp only [Bool.and_eq_true, bne_iff_ne, ne_eq, Bool.not_eq_true'] at hw
  exact T_first hi (Region.noSelect_spec hs) hQ hw.1.1 hw.1.2 n l a w (Region.free_spec hi hf) hw.2 (by simpa using hr) hy hS (h hS)
/-- One alone may come up, ahead of number st. -/
theorem T_one {i : Nat} {o : Oper} {n : Nat} {l : Array Bool} {a : Act} {w : World} (hr : Region.ready md ops l = [i]) (ho : ops[i]? = some o)
    (h : ∀ K' : Act → World → Prop, Shut (∀ a w, S w → (S w → anyT P md ops Q S st n (l.setIfInBounds i true) a w) → K' a w) → if Region.wanted o (yielded ops a.tmps) = true then Oper.wp P o a w K' Q else K' (a.put o.dst undef) w) :
    anyT P md ops Q S st (n + 1) l a w := by
  refine ⟨fun e => (by rw [e] at hr; cases hr), fun j hj => ?_⟩
  rw [hr, List.mem_singleton] at hj
  rw [hj]
  exact wpOp_step ho fun K' hK => h K' fun a w hS hW => hK a w ⟨fun _ => hS, hW hS⟩
/-- What yields in whatever world, behind number st. -/
theorem T_free {i : Nat} {oi : Oper} {v : Value} {n : Nat} {l : Array Bool} {a : Act} {w : World} (hr : Region.ready md ops l = [i]) (hst : (l.setIfInBounds i true).getD st true = true) (hi : ops[i]? = some oi)
    (hy : Yields P ops oi v a) (h : anyT P md ops Q S st n (l.setIfInBounds i true) (a.put oi.dst v) w) : anyT P md ops Q S st (n + 1) l a w := by
  refine ⟨fun e => (by rw [e] at hr; cases hr), fun j hj => ?_⟩
  rw [hr, List.mem_singleton] at hj
  rw [hj]
  exact (Yields.yieldsIf (S := fun _ => True) hy).wpOp hi trivial ⟨fun e => (by rw [hst] at e; cases e), h⟩
theorem T_done {l : Array Bool} {a : Act} {w : World} (hr : Region.ready md ops l = []) (h : Q .normal a w) : ∀ n, anyT P md ops Q S st n l a w
  | 0 => ⟨hr, h⟩
  | _ + 1 => ⟨fun _ => h, by rw [hr]; simp⟩
/-- The beginning. -/
theorem T_begin (S : World → Prop) (st : Nat) {id : Nat} {a : Act} {w : World} (hm : P.follows .mixedOrders = true) (hS : S w.drew) (h : S w.drew → anyT P .any ops Q S st ops.size (Array.replicate ops.size false) a w.drew) : (Code.region id ops true).wp P Q a w :=
  wp_region_any hm (any_of_T _ _ _ _ (h hS))
end
end Go.Proofs.Ytdjkeakagmgfgaa.Ph

namespace Go.Proofs.Ytdjkeakagmgfgaa.Co
set_option maxRecDepth 100000
set_option linter.unusedVariables false
set_option linter.unusedSimpArgs false
open Go.RowKit Ba Fm Fo
theorem grown_none {w0 w w1 : World} {row : Option Nat} (hg : w0.grownBy w none) (h2 : w.grownBy w1 row) : w0.grownBy w1 row :=
  ⟨h2.os.trans hg.os, h2.tape.trans hg.tape, h2.output.trans hg.output, Nat.le_trans hg.size h2.size, fun i hi hne => (h2.block i (Nat.lt_of_lt_of_le hi hg.size) hne).trans (hg.block i hi (by simp))⟩
theorem grown_drew (w : World) (n : Nat) (row : Option Nat) : w.grownBy (w.drewN n) row := ⟨rfl, rfl, rfl, Nat.le_refl _, fun _ _ _ => rfl⟩
theorem step_app_per {ops : Array Oper} {o : Oper} {a : Act} {K : Act → World → Prop} {Q : Exit → Act → World → Prop} {E : Prop} (W : World) (hgd : o.guard = none) (s x : Operand)
    (ho : o.op = .call { callee := .builtin .append, args := #[s, x], argTypes := #[24, 24] })
    (W0 : World) (N : Nat) (v : Value) (l : List Pw) (z : Pw) (hr : Po N W0 v l) (hz1 : Sx W0 W0.heap.size z) (hz2 : Ap W0 N z) (hg : W0.grownBy W none) (hN : N ≤ W0.heap.size) (hl : l.length ≤ 2000000)
    (hs : a.eval s = v) (g0 : Nat) (hx : a.eval x = .slice (some ⟨g0, 0, none⟩) 1 1) (hz : W.heap[g0]? = some (perO z))
    (h : ∀ v' w', Po N w' v' (l ++ [z]) → W0.grownBy w' v.ownBlock → K (a.put o.dst v') w') :
    if Region.wanted o (yielded ops a.tmps) = true then Oper.wp Try.prog o a W K Q else E := by
  obtain ⟨i0, hi, hz0, hz1', hz2'⟩ := info_parts info_per
  have hown : W.ownsRow N 52 2 v l.length (l.flatMap pcells) := World.ownsRow.kept hr.1 hg (by cases hv : v.ownBlock with
    | none => exact .inl rfl
    | some k => right; simp)
  refine step_append_lies W hgd s x 24 ho N 52 i0 _ 2 40 Try.underlying24 hi hz0 hz1' hz2' rfl (by decide) v l.length (l.flatMap pcells) hs hown ⟨g0, 0, none⟩ 1 1 (pcells z) hx rfl (fun j u hu => World.news_of_block hz j u hu) (pcells_one z) (by decide) (by unfold maxLen; omega) (by omega) (Nat.le_trans hN hg.size) _ rfl ?_
  intro g cap w1 h1 h2 _ _
  have hgw : W0.grownBy w1 v.ownBlock := grown_none hg h2
  refine h _ w1 ⟨by rw [List.length_append, List.flatMap_append]; simpa using h1, fun y hy => ?_⟩ hgw
  rcases List.mem_append.1 hy with hy | hy
  · exact ⟨(hr.2 y hy).1.grown hr.1 hgw (hr.2 y hy).2, (hr.2 y hy).2.grown hr.1 hgw⟩
  · obtain rfl := List.mem_singleton.1 hy
    exact ⟨hz1.grown hr.1 hgw hz2, hz2.grown hr.1 hgw⟩

end Go.Proofs.Ytdjkeakagmgfgaa.Co

namespace Go.Proofs.Ytdjkeakagmgfgaa.Co
set_option maxRecDepth 100000
set_option linter.unusedVariables false
set_option linter.unusedSimpArgs false
open Go.RowKit Ba Fm Fo Nm Rk
end Go.Proofs.Ytdjkeakagmgfgaa.Co

namespace Go.Proofs.Ytdjkeakagmgfgaa.Co
set_option maxRecDepth 100000
set_option linter.unusedVariables false
set_option linter.unusedSimpArgs false
open Go.RowKit Ba Fm Fo
def pickW (l : List Pw) (e : ByteArray) : List Pw := l.filter fun x => decide (x.pe.el = e) && decide (x.pe.at_ ≠ [])
/-- What is the call's own stays where another block is written that holds neither. -/
theorem po_aside {N g : Nat} {w w' : World} {v : Value} {l : List Pw} (h : Po N w v l) (hg : w.grownBy w' (some g)) (hN : N ≤ g) (hp : ∀ cs fr, w.heap[g]? ≠ some (.cells cs 52 fr)) (hs : ∀ cs fr, w.heap[g]? ≠ some (.cells cs 9 fr)) : Po N w' v l := by
  refine ⟨⟨h.1.1, ?_⟩, fun x hx => ⟨?_, ?_⟩⟩
  · rcases h.1.2 with hn | ⟨b, cap, cur, hv, hb, hh, rest⟩
    · exact .inl hn
    · refine .inr ⟨b, cap, cur, hv, hb, ?_, rest⟩
      have hne : b ≠ g := fun e => hp _ _ (e ▸ hh)
      rw [hg.block b (Array.getElem?_eq_some_iff.1 hh).1 (by simpa using hne)]
      exact hh
  · obtain ⟨h1, h2⟩ := h.2 x hx
    obtain ⟨A, c, e, h3, h4, h5⟩ := h1
    refine ⟨A, c, e, h3, h4, fun h0 => ?_⟩
    obtain ⟨b, off, e2, hb, hc⟩ := h5 h0
    obtain ⟨b', off', e3, ha⟩ := h2 h0
    injection e with e4 e5 e6
    rw [e4, e2] at e3
    injection e3 with e3
    injection e3 with e7 e8
    subst e7
    have hne : b ≠ g := by
      rcases ha with ha | ⟨cs, fr, ha⟩
      · omega
      · exact fun e => hs _ _ (e ▸ ha)
    exact ⟨b, off, e2, Nat.lt_of_lt_of_le hb hg.size, fun j hj => (World.cell?_of_block (a := ⟨b, off + j, none⟩) (hg.block b hb (by simpa using hne))).trans (hc j hj)⟩
  · intro h0
    obtain ⟨b, off, e, ha⟩ := (h.2 x hx).2 h0
    refine ⟨b, off, e, ha.imp id ?_⟩
    rintro ⟨cs, fr, ha⟩
    have hne : b ≠ g := fun e => hs _ _ (e ▸ ha)
    exact ⟨cs, fr, (hg.block b (Array.getElem?_eq_some_iff.1 ha).1 (by simpa using hne)).trans ha⟩
/-- And where another one of the call's own grows. -/
theorem po_beside {N : Nat} {w w' : World} {v u : Value} {l m : List Pw} (h : Po N w u m) (hv : Po N w v l) (hg : w.grownBy w' v.ownBlock) (hne : ∀ b, u.ownBlock = some b → v.ownBlock ≠ some b) : Po N w' u m := by
  refine ⟨⟨h.1.1, ?_⟩, fun x hx => ⟨(h.2 x hx).1.grown hv.1 hg (h.2 x hx).2, (h.2 x hx).2.grown hv.1 hg⟩⟩
  rcases h.1.2 with hn | ⟨b, cap, cur, e, hb, hh, rest⟩
  · exact .inl hn
  · refine .inr ⟨b, cap, cur, e, hb, ?_, rest⟩
    subst e
    rw [hg.block b (Array.getElem?_eq_some_iff.1 hh).1 (fun e => hne b rfl e.symm)]
    exact hh

/-- Groups. -/
structure Gr (N : Nat) (w : World) (g : Nat) (gs : Array Value) (ps : List (List Pw)) : Prop where
  heap : w.heap[g]? = some (.cells gs 24)
  size : gs.size = ps.length
  low : N ≤ g
  own : ∀ (i : Nat) v p, gs[i]? = some v → ps[i]? = some p → Po N w v p
  apart : ∀ (i j : Nat) v u b, gs[i]? = some v → gs[j]? = some u → i ≠ j → v.ownBlock = some b → u.ownBlock ≠ some b
theorem Gr.lt {N g : Nat} {w : World} {gs : Array Value} {ps : List (List Pw)} (h : Gr N w g gs ps) : g < w.heap.size := (Array.getElem?_eq_some_iff.1 h.heap).1
theorem Gr.below {N g : Nat} {w w' : World} {gs : Array Value} {ps : List (List Pw)} (h : Gr N w g gs ps) (hb : Below w.heap.size w w') : Gr N w' g gs ps :=
  ⟨(hb.block g h.lt).trans h.heap, h.size, h.low, fun i v p h1 h2 => (h.own i v p h1 h2).below hb, h.apart⟩
theorem Gr.cell {N g : Nat} {w : World} {gs : Array Value} {ps : List (List Pw)} (h : Gr N w g gs ps) {j : Nat} {v : Value} (hj : gs[j]? = some v) : w.cell? ⟨g, j, none⟩ = some v ∧ w.frozen? ⟨g, j, none⟩ = false := by
  refine ⟨by rw [cell_of_row w g j _ _ _ h.heap]; exact hj, ?_⟩
  have := h.heap
  simp [World.frozen?, this]
theorem Gr.ne {N g : Nat} {w : World} {gs : Array Value} {ps : List (List Pw)} (h : Gr N w g gs ps) : (∀ cs fr, w.heap[g]? ≠ some (.cells cs 52 fr)) ∧ ∀ cs fr, w.heap[g]? ≠ some (.cells cs 9 fr) := by
  refine ⟨fun cs fr e => ?_, fun cs fr e => ?_⟩ <;>
  · rw [h.heap] at e
    injection e with e
    injection e with _ ht
    exact absurd ht (by decide)
theorem Gr.put {N g j : Nat} {w w1 : World} {gs : Array Value} {ps : List (List Pw)} {v v' : Value} {p : List Pw} {x : Pw} (h : Gr N w g gs ps) (hv : gs[j]? = some v) (hp : ps[j]? = some p) (hg : w.grownBy w1 v.ownBlock) (ho : Po N w1 v' (p ++ [x]))
    (hb : ∀ b, v'.ownBlock = some b → v.ownBlock = some b ∨ w.heap.size ≤ b) : Gr N (w1.setCell ⟨g, j, none⟩ v') g (gs.setIfInBounds j v') (ps.set j (p ++ [x])) := by
  have hjl : j < gs.size := (Array.getElem?_eq_some_iff.1 hv).1
  have hov := h.own j v p hv hp
  have hgne : some g ≠ v.ownBlock := fun e => by
    rcases hov.1.2 with ⟨e1, _⟩ | ⟨b, cap, cur, e1, _, hh, _⟩
    · subst e1
      simp [Value.ownBlock] at e
    · subst e1
      have e : g = b := by simpa [Value.ownBlock] using e
      subst e
      exact h.ne.1 _ _ hh
  have h1 : w1.heap[g]? = some (.cells gs 24) := (hg.block g h.lt hgne).trans h.heap
  have hne1 : (∀ cs fr, w1.heap[g]? ≠ some (.cells cs 52 fr)) ∧ ∀ cs fr, w1.heap[g]? ≠ some (.cells cs 9 fr) := by
    rw [h1, ← h.heap]
    exact h.ne
  refine ⟨?_, by rw [Array.size_setIfInBounds, List.length_set]; exact h.size, h.low, fun i u q hu hq => ?_, fun i i2 u u2 b hu hu2 hii hub => ?_⟩
  · simp [World.setCell, Array.getElem?_modify, h1, Array.setIfInBounds, hjl]
  · refine po_aside ?_ (gcell12 w1 g j v') h.low hne1.1 hne1.2
    by_cases hij : i = j
    · subst hij
      rw [Array.getElem?_setIfInBounds_self_of_lt hjl] at hu
      rw [List.getElem?_set_self (by rw [← h.size]; exact hjl)] at hq
      injection hu with hu
      injection hq with hq
      subst hu hq
      exact ho
    · rw [Array.getElem?_setIfInBounds_ne (Ne.symm hij)] at hu
      rw [List.getElem?_set_ne (Ne.symm hij)] at hq
      exact po_beside (h.own i u q hu hq) hov hg fun b hb => h.apart i j u v b hu hv hij hb
  · by_cases hij : i = j
    · subst hij
      rw [Array.getElem?_setIfInBounds_self_of_lt hjl] at hu
      injection hu with hu
      subst hu
      rw [Array.getElem?_setIfInBounds_ne hii] at hu2
      rcases hb b hub with e | e
      · exact h.apart i i2 v u2 b hv hu2 hii e
      · intro e2
        have hlt : i2 < ps.length := by rw [← h.size]; exact (Array.getElem?_eq_some_iff.1 hu2).1
        have := (World.ownsRow.lt (h.own i2 u2 _ hu2 (List.getElem?_eq_getElem hlt)).1 b e2).2
        omega
    · rw [Array.getElem?_setIfInBounds_ne (Ne.symm hij)] at hu
      by_cases hij2 : i2 = j
      · subst hij2
        rw [Array.getElem?_setIfInBounds_self_of_lt hjl] at hu2
        injection hu2 with hu2
        subst hu2
        intro e2
        rcases hb b e2 with e | e
        · exact h.apart i i2 u v b hu hv hii hub e
        · have hlt : i < ps.length := by rw [← h.size]; exact (Array.getElem?_eq_some_iff.1 hu).1
          have := (World.ownsRow.lt (h.own i u _ hu (List.getElem?_eq_getElem hlt)).1 b hub).2
          omega
      · rw [Array.getElem?_setIfInBounds_ne (Ne.symm hij2)] at hu2
        exact h.apart i i2 u u2 b hu hu2 hii hub

end Go.Proofs.Ytdjkeakagmgfgaa.Co

namespace Go.Proofs.Ytdjkeakagmgfgaa.Co
set_option maxRecDepth 100000
set_option linter.unusedVariables false
set_option linter.unusedSimpArgs false
open Go.RowKit Ba Fm Fo Nm Rk
theorem made_at (n i : Nat) (h : i < n) : (madeCells #[Value.slice none 0 0] n)[i]? = some (.slice none 0 0) := by
  unfold madeCells
  rw [Array.getElem?_map, Array.getElem?_range, if_pos h]
  simp [Nat.mod_one]
theorem Gr.made (N : Nat) (w : World) (hN : N ≤ w.heap.size) (es : List ByteArray) : Gr N (w.alloc (.cells (madeCells #[.slice none 0 0] es.length) 24)) w.heap.size (madeCells #[.slice none 0 0] es.length) (es.map (pickW [])) := by
  have hz : ∀ (i : Nat) v, (madeCells #[Value.slice none 0 0] es.length)[i]? = some v → v = .slice none 0 0 := fun i v hv => by
    have hi : i < es.length := by
      have := (Array.getElem?_eq_some_iff.1 hv).1
      rwa [size_madeCells] at this
    rw [made_at _ _ hi] at hv
    injection hv with hv
    exact hv.symm
  refine ⟨heap_alloc_new w _, by rw [size_madeCells, List.length_map], hN, fun i v p hv hp => ?_, fun i j v u b hv _ _ hb => ?_⟩
  · have := hz i v hv
    subst this
    rw [List.getElem?_map] at hp
    obtain ⟨e, _, rfl⟩ := Option.map_eq_some_iff.1 hp
    exact Po.nil _ _
  · have := hz i v hv
    subst this
    simp [Value.ownBlock] at hb
end Go.Proofs.Ytdjkeakagmgfgaa.Co

namespace Go.Proofs.Ytdjkeakagmgfgaa.Co
set_option maxRecDepth 100000
set_option linter.unusedVariables false
set_option linter.unusedSimpArgs false
open Go.RowKit Ba Fm Fo Nm Rk
end Go.Proofs.Ytdjkeakagmgfgaa.Co

namespace Go.Proofs.Ytdjkeakagmgfgaa.Co
set_option linter.unusedVariables false
set_option linter.unusedSimpArgs false
open Go.RowKit Ba Fm Fo Nm Rk
end Go.Proofs.Ytdjkeakagmgfgaa.Co

namespace Go.Proofs.Ytdjkeakagmgfgaa.Co
set_option maxRecDepth 100000
set_option linter.unusedVariables false
set_option linter.unusedSimpArgs false
open Go.RowKit Ba Fm Fo Nm Rk
theorem all1 (w : World) : Calls Try.prog 22 #[] w fun r w' => ∃ v', r = .returned v' ∧ Cow w.heap.size w' v' allC ∧ Below w.heap.size w w' := by
  have hb := below_new12 w (.cells #[.bool false, .bool false, .slice none 0 0, .slice none 0 0, .slice none 0 0, .slice none 0 0, .bool true, .bool false] 26)
  have ho : ∀ w', Own12 w.heap.size w' allC (.slice none 0 0) (.slice none 0 0) (.slice none 0 0) (.slice none 0 0) [] := fun w' => ⟨Sown.nil _ _, Sown.nil _ _, Sown.nil _ _, Po.nil _ _, (fun x hx => by cases hx), rfl⟩
  have hc : ∀ w', Cow w.heap.size w' (.agg #[.bool false, .bool false, .slice none 0 0, .slice none 0 0, .slice none 0 0, .slice none 0 0, .bool true, .bool false]) allC := fun w' => ⟨_, _, _, _, _, rfl, ho w'⟩
  have HC := Lib.hid hc; have HB := Lib.hid hb
  clear ho hc hb
  go_enter Try.func22, Try.ntmps22
  go_wp2
  exact bodyPost_ret (v := .agg #[.bool false, .bool false, .slice none 0 0, .slice none 0 0, .slice none 0 0, .slice none 0 0, .bool true, .bool false]) (by simp [results, Try.f22, go_sem]) rfl ⟨_, rfl, HC.out _, HB.out⟩

end Go.Proofs.Ytdjkeakagmgfgaa.Co

namespace Go.Proofs.Ytdjkeakagmgfgaa.Na
set_option maxRecDepth 100000
set_option linter.unusedSimpArgs false
set_option linter.unusedVariables false
open Go.RowKit Ba Fm Fo Nm
end Go.Proofs.Ytdjkeakagmgfgaa.Na

namespace Go.Proofs.Ytdjkeakagmgfgaa.Co
set_option maxRecDepth 100000
set_option linter.unusedVariables false
set_option linter.unusedSimpArgs false
open Go.RowKit Ba Fm Fo Nm Rk
end Go.Proofs.Ytdjkeakagmgfgaa.Co

namespace Go.Proofs.Ytdjkeakagmgfgaa.Fo
set_option linter.unusedSimpArgs false
set_option linter.unusedVariables false
open Go.RowKit Ba Fm
end Go.Proofs.Ytdjkeakagmgfgaa.Fo

namespace Go.Proofs.Ytdjkeakagmgfgaa.Co
set_option linter.unusedVariables false
set_option linter.unusedSimpArgs false
open Go.RowKit Ba Fm Fo Nm Rk
theorem below_two (w : World) (o p : Obj) : Below w.heap.size w ((w.alloc o).alloc p) := (below_new12 w o).trans ((below_new12 (w.alloc o) p).mono (below_new12 w o).size)
end Go.Proofs.Ytdjkeakagmgfgaa.Co

namespace Go.Proofs.Ytdjkeakagmgfgaa.Co
set_option linter.unusedVariables false
set_option linter.unusedSimpArgs false
open Go.RowKit Ba Fm Fo Nm Rk
theorem sv_nil12 (w : World) (N : Nat) : Sv w N (.slice none 0 0) [] := ⟨none, 0, rfl, Nat.le_refl _, fun _ => rfl, Rd.nil _ _ _⟩
theorem sv_lit12 {w : World} {g : Nat} {l : List ByteArray} (h : w.heap[g]? = some (.cells (l.map sc).toArray 9)) : Sv w w.heap.size (.slice (some ⟨g, 0, none⟩) l.length l.length) l :=
  ⟨some ⟨g, 0, none⟩, l.length, rfl, Nat.le_refl _, (fun e => by cases e), fun h0 => ⟨g, 0, rfl, (Array.getElem?_eq_some_iff.1 h).1, fun j hj => by
    rw [Nat.zero_add, cell_of_row w g j _ _ _ h]
    simp [List.getElem?_eq_getElem hj, sc]⟩⟩
theorem sm_few {c : Cf} (h : c.els.length ≤ 1000 ∧ c.reps.length ≤ 1000 ∧ c.ats.length ≤ 1000 ∧ c.per.length ≤ 1000 ∧ c.els.all (·.size ≤ 1000) ∧ c.reps.all (·.size ≤ 1000) ∧ c.ats.all (·.size ≤ 1000) ∧ c.per.all (fun p => decide (p.at_.length ≤ 1000) && decide (p.el.size ≤ 1000) && p.at_.all (·.size ≤ 1000)) = true) : Sm c := by
  obtain ⟨h1, h2, h3, h4, h5, h6, h7, h8⟩ := h
  have hb : ∀ {l : List ByteArray}, l.all (·.size ≤ 1000) = true → ∀ s ∈ l, s.size ≤ 140737488355328 := fun h s hs => Nat.le_trans (by simpa using List.all_eq_true.1 h s hs) (show 1000 ≤ 140737488355328 by omega)
  have h9 := fun p hp => List.all_eq_true.1 h8 p hp
  simp only [Bool.and_eq_true, decide_eq_true_eq] at h9
  exact ⟨h1, h2, h3, h4, fun p hp => (h9 p hp).1.1, hb h5, hb h6, hb h7, fun p hp => ⟨Nat.le_trans (h9 p hp).1.2 (by omega), hb (h9 p hp).2⟩⟩
theorem sm_all : Sm allC := sm_few (by decide +kernel)
end Go.Proofs.Ytdjkeakagmgfgaa.Co

namespace Go.Proofs.Ytdjkeakagmgfgaa.Cn
set_option maxRecDepth 100000
set_option linter.unusedVariables false
set_option linter.unusedSimpArgs false
open Go.RowKit Ba Ro
open Co (Cf Cv Sm confV confO attrB12 elementN checkN bel_eq12 allC sv_lit12 sv_nil12)
def treeL : List Ro := [⟨0, 0, ⟨#[98]⟩, .empty, [⟨⟨#[111, 110, 99, 108, 105, 99, 107]⟩, ⟨#[120]⟩⟩, ⟨⟨#[105, 100]⟩, .empty⟩]⟩, ⟨1, 1, .empty, ⟨#[97]⟩, []⟩, ⟨1, 0, ⟨#[115, 99, 114, 105, 112, 116]⟩, .empty, []⟩, ⟨2, 1, .empty, ⟨#[121]⟩, []⟩]
def X1 : List Ro := [⟨0, 0, ⟨#[98]⟩, .empty, [⟨⟨#[105, 100]⟩, .empty⟩]⟩, ⟨1, 1, .empty, ⟨#[97]⟩, []⟩]
def X2 : List Ro := [⟨0, 1, .empty, ⟨#[97]⟩, []⟩]
def cRep : Cf := ⟨false, false, [], [⟨#[98]⟩], [], [], false, false⟩
def cDat : Cf := ⟨false, false, [], [], [], [], false, true⟩
theorem tree_check : check treeL = 0 := by decide +kernel
theorem tree_right : right treeL = true := by decide +kernel
theorem err1 : errI allC treeL = 0 := by decide +kernel
theorem err2 : errI cRep treeL = 0 := by decide +kernel
theorem err4 : errI cDat treeL = 120 := by decide +kernel
theorem err5 : errI allC (treeL.drop 1) = 40 := by decide +kernel
theorem out1 : outL allC true treeL = X1 := by
  unfold outL
  rw [if_pos err1, clean_nr allC true tree_right]
  decide +kernel
theorem out2 : outL cRep true treeL = X2 := by
  unfold outL
  rw [if_pos err2, clean_nr cRep true tree_right]
  decide +kernel
theorem out3 : outL allC false treeL = treeL := by
  unfold outL
  rw [if_pos err1, clean_nr allC false tree_right]
  decide +kernel
theorem out4 : outL cDat true treeL = [] := by
  unfold outL
  rw [if_neg (by rw [err4]; decide)]
theorem out5 : outL allC true (treeL.drop 1) = [] := by
  unfold outL
  rw [if_neg (by rw [err5]; decide)]
theorem sm_rep : Sm cRep := Co.sm_few (by decide +kernel)
theorem sm_dat : Sm cDat := Co.sm_few (by decide +kernel)
theorem small_dec {l : List Ro} (h : (l.all fun x => decide (x.name.size ≤ 1000) && decide (x.data.size ≤ 1000) && x.attrs.all fun a => decide (a.name.size ≤ 1000) && decide (a.value.size ≤ 1000)) = true) : Rz.Small l := fun x hx => by
  have := List.all_eq_true.1 h x hx
  simp only [Bool.and_eq_true, decide_eq_true_eq, List.all_eq_true] at this
  exact ⟨by omega, by omega, fun a ha => by have := this.2 a ha; omega⟩
theorem tree_small : Rz.Small treeL := small_dec (by decide +kernel)
theorem few_dec {l : List Ro} (h : (l.all fun x => decide (x.attrs.length ≤ 1000000)) = true) : Few l := fun x hx => of_decide_eq_true (List.all_eq_true.1 h x hx)
theorem tree_few : Few treeL := few_dec (by decide +kernel)
theorem tree_txt : (txt treeL).length ≤ 1000000000 := by decide +kernel
theorem tree_txt1 : (txt (treeL.drop 1)).length ≤ 1000000000 := by decide +kernel
theorem tree_small1 : Rz.Small (treeL.drop 1) := small_dec (by decide +kernel)
theorem tree_few1 : Few (treeL.drop 1) := few_dec (by decide +kernel)
theorem tree_held : Held treeL := held_check tree_check

/-- Rows freshly written down, with their attributes. -/
theorem rows_lit (w : World) (l : List Cw) (cs : Array Value) (n : Nat) (hn : l.length = n) (hm : n ≤ maxLen) (hcs : cs.toList = l.flatMap cells) (hl : ∀ x ∈ l, Att (w.alloc (.cells cs 36)) (w.alloc (.cells cs 36)).heap.size x ∧ Ap (w.alloc (.cells cs 36)) w.heap.size x) :
    Ow w.heap.size (w.alloc (.cells cs 36)) (.slice (some ⟨w.heap.size, 0, none⟩) n n) l := by
  have hfl : (l.flatMap cells).length = n * 5 := by rw [flat_len cells 5 len_cells, hn]
  have hsz : cs.size = n * 5 := by rw [← Array.length_toList, hcs, hfl]
  refine ⟨⟨by rw [hn, hfl], .inr ⟨w.heap.size, n, cs, by rw [hn], Nat.le_refl _, heap_alloc_new w _, by rw [hn]; exact Nat.le_refl _, hm, hsz, ?_⟩⟩, hl⟩
  rw [hn, hcs, ← hfl, List.take_length]
/-- A row whose attributes fill block g. -/
theorem att_lit {w : World} {g : Nat} (d k : Int) (nm dt : ByteArray) (l : List At) (h : w.heap[g]? = some (.cells (l.flatMap acells).toArray 40)) (hm : l.length ≤ maxLen) (hs : Sh l) : Att w w.heap.size ⟨⟨d, k, nm, dt, l⟩, some ⟨g, 0, none⟩, l.length⟩ := by
  refine ⟨Nat.le_refl _, (fun e => by cases e), hm, fun _ => ⟨g, 0, rfl, (Array.getElem?_eq_some_iff.1 h).1, fun j hj i u hu => ?_⟩, hs⟩
  have hi : i < 2 := (List.getElem?_eq_some_iff.1 hu).1
  rw [cell_of_row w g (0 + j * 2 + i) _ _ _ h]
  rw [List.getElem?_toArray, show 0 + j * 2 + i = j * 2 + i by omega, flat_at acells 2 len_acells _ _ _ hj hi]
  exact hu
def aX1 (g : Nat) : List Cw := [⟨⟨0, 0, ⟨#[98]⟩, .empty, [⟨⟨#[105, 100]⟩, .empty⟩]⟩, some ⟨g, 0, none⟩, 1⟩, bare ⟨1, 1, .empty, ⟨#[97]⟩, []⟩]
theorem lit_rv (w : World) (g : Nat) (x : Cw) (l : List Ro) (cs : Array Value) (n : Nat) (hn : l.length + 1 = n) (hm : n ≤ 1000) (hcs : cs.toList = (x :: l.map bare).flatMap cells) (hx : Att w w.heap.size x) (hl : ∀ r ∈ l, r.attrs = []) (hh : Held (ros (x :: l.map bare))) :
    Rv (w.alloc (.cells cs 36)) (.slice (some ⟨w.heap.size, 0, none⟩) n n) (x :: l.map bare) := by
  refine (rows_lit w (x :: l.map bare) cs n (by rw [List.length_cons, List.length_map, hn]) (by unfold maxLen; omega) hcs fun y hy => ?_).rv hh
  rcases List.mem_cons.1 hy with rfl | hy
  · exact ⟨(hx.below (below_new w _)).more (below_new w _).size, (hx.below (below_new w _)).apart⟩
  · obtain ⟨r, hr, rfl⟩ := List.mem_map.1 hy
    exact ⟨bare_att _ _ (hl r hr), bare_ap _ _ (hl r hr)⟩
theorem bel_drew {n : Nat} {w v : World} (h : Below n w.drew v) : Below n w v := ⟨h.os, h.tape, h.output, h.size, h.block⟩
theorem tree1 (w : World) : Calls Try.prog 39 #[] w fun r w' => ∃ g y, r = .returned (.slice (some ⟨g, 0, none⟩) 4 4) ∧ Rv w' (.slice (some ⟨g, 0, none⟩) 4 4) y ∧ ros y = treeL ∧ Below w.heap.size w w' := by
  have h0 : (w.alloc (.cells #[.string ⟨#[111, 110, 99, 108, 105, 99, 107]⟩, .string ⟨#[120]⟩, .string ⟨#[105, 100]⟩, .string .empty] 40)).heap[w.heap.size]? = some (.cells #[.string ⟨#[111, 110, 99, 108, 105, 99, 107]⟩, .string ⟨#[120]⟩, .string ⟨#[105, 100]⟩, .string .empty] 40) := heap_alloc_new w _
  have ha := att_lit 0 0 ⟨#[98]⟩ .empty [⟨⟨#[111, 110, 99, 108, 105, 99, 107]⟩, ⟨#[120]⟩⟩, ⟨⟨#[105, 100]⟩, .empty⟩] h0 (by decide) (fun a ha => by
    have : a.name.size ≤ 7 := by
      rcases List.mem_cons.1 ha with rfl | ha
      · decide
      · rw [List.mem_singleton.1 ha]; decide
    unfold maxLen; omega)
  have hv := lit_rv _ w.heap.size _ [⟨1, 1, .empty, ⟨#[97]⟩, []⟩, ⟨1, 0, ⟨#[115, 99, 114, 105, 112, 116]⟩, .empty, []⟩, ⟨2, 1, .empty, ⟨#[121]⟩, []⟩] #[.int .i64 0, .int .i64 0, .string ⟨#[98]⟩, .string .empty, .slice (some ⟨w.heap.size, 0, none⟩) 2 2, .int .i64 1, .int .i64 1, .string .empty, .string ⟨#[97]⟩, .slice none 0 0, .int .i64 1, .int .i64 0, .string ⟨#[115, 99, 114, 105, 112, 116]⟩, .string .empty, .slice none 0 0, .int .i64 2, .int .i64 1, .string .empty, .string ⟨#[121]⟩, .slice none 0 0] 4 rfl (by decide) rfl ha (by decide) tree_held
  rw [World.size_alloc] at hv
  have hb := below_two w (.cells #[.string ⟨#[111, 110, 99, 108, 105, 99, 107]⟩, .string ⟨#[120]⟩, .string ⟨#[105, 100]⟩, .string .empty] 40) (.cells #[.int .i64 0, .int .i64 0, .string ⟨#[98]⟩, .string .empty, .slice (some ⟨w.heap.size, 0, none⟩) 2 2, .int .i64 1, .int .i64 1, .string .empty, .string ⟨#[97]⟩, .slice none 0 0, .int .i64 1, .int .i64 0, .string ⟨#[115, 99, 114, 105, 112, 116]⟩, .string .empty, .slice none 0 0, .int .i64 2, .int .i64 1, .string .empty, .string ⟨#[121]⟩, .slice none 0 0] 36)
  have HV := Lib.hid hv; have HB := Lib.hid hb
  clear h0 ha hv hb
  go_enter Try.func39, Try.ntmps39
  go_wp2
  go_ret
  exact ⟨_, _, rfl, HV.out, rfl, HB.out⟩
theorem rows_of (V v : Value) (y : List Cw) (T : List Ro) (c : Cf) (s : Bool) (w : World) (hV : Rv w V y) (hy : ros y = T) (hl : T.length ≤ 1000) (hz : Rz.Small T) (hf : Few T) (ht : (txt T).length ≤ 1000000000) (hc : Cv w w.heap.size v c) (hs : Sm c) (E : Int) (q : List Ro) (hE : errI c T = E) (hq : outL c s T = q) :
    Calls Try.prog 14 #[V, v, .bool s] w fun r w' => ∃ V y, r = .returned (.tuple #[V, .int .i64 E]) ∧ ros y = q ∧ Rv w' V y ∧ Below w.heap.size w w' := by
  subst hy
  refine (rows13 V v y c s w hV (by rw [← len_ros]; omega) hz hf ht hc hs E q hE hq).mono ?_
  rintro r w' ⟨V', y', h1, h2, h3, h4, h5⟩
  exact ⟨V', y', h1, h3, h4, h5⟩
theorem cut_rv {w : World} {g : Nat} {y : List Cw} (h : Rv w (.slice (some ⟨g, 0, none⟩) 4 4) y) : Rv w (.slice (some ⟨g, 5, none⟩) 3 3) (y.drop 1) := by
  obtain ⟨A, c, e, h1, h2, h3, h4⟩ := h
  injection e with e1 e2 e3
  subst e1 e3
  have hp := h3.mid 1 y.length 4 (by omega) (by omega) (by omega) (by decide)
  rw [List.take_length] at hp
  refine ⟨_, 3, by rw [List.length_drop, ← e2]; rfl, by rw [List.length_drop]; omega, by decide, hp, fun x hx => ?_⟩
  rw [← ros_drop] at hx
  exact h4 x (List.mem_of_mem_drop hx)
theorem conf_rep {w : World} {g : Nat} (h : w.heap[g]? = some (.cells #[.string ⟨#[98]⟩] 9)) : Cv w w.heap.size (.agg #[.bool false, .bool false, .slice none 0 0, .slice (some ⟨g, 0, none⟩) 1 1, .slice none 0 0, .slice none 0 0, .bool false, .bool false]) cRep :=
  ⟨_, _, _, _, [], rfl, ⟨sv_nil12 _ _, sv_lit12 (l := [⟨#[98]⟩]) h, sv_nil12 _ _, ⟨none, 0, rfl, Nat.le_refl _, fun _ => rfl, Co.Pr.nil _ _ _⟩, rfl⟩⟩
theorem conf_dat (w : World) : Cv w w.heap.size (.agg #[.bool false, .bool false, .slice none 0 0, .slice none 0 0, .slice none 0 0, .slice none 0 0, .bool false, .bool true]) cDat :=
  ⟨_, _, _, _, [], rfl, ⟨sv_nil12 _ _, sv_nil12 _ _, sv_nil12 _ _, ⟨none, 0, rfl, Nat.le_refl _, fun _ => rfl, Co.Pr.nil _ _ _⟩, rfl⟩⟩
theorem x1_rv (w : World) : Rv ((w.alloc (.cells #[.string ⟨#[105, 100]⟩, .string .empty] 40)).alloc (.cells #[.int .i64 0, .int .i64 0, .string ⟨#[98]⟩, .string .empty, .slice (some ⟨w.heap.size, 0, none⟩) 1 1, .int .i64 1, .int .i64 1, .string .empty, .string ⟨#[97]⟩, .slice none 0 0] 36)) (.slice (some ⟨w.heap.size + 1, 0, none⟩) 2 2) (aX1 w.heap.size) := by
  have h0 : (w.alloc (.cells #[.string ⟨#[105, 100]⟩, .string .empty] 40)).heap[w.heap.size]? = some (.cells #[.string ⟨#[105, 100]⟩, .string .empty] 40) := heap_alloc_new w _
  have ha := att_lit 0 0 ⟨#[98]⟩ .empty [⟨⟨#[105, 100]⟩, .empty⟩] h0 (by decide) (fun a ha => by rw [List.mem_singleton.1 ha]; decide)
  have hv := lit_rv _ w.heap.size _ [⟨1, 1, .empty, ⟨#[97]⟩, []⟩] #[.int .i64 0, .int .i64 0, .string ⟨#[98]⟩, .string .empty, .slice (some ⟨w.heap.size, 0, none⟩) 1 1, .int .i64 1, .int .i64 1, .string .empty, .string ⟨#[97]⟩, .slice none 0 0] 2 rfl (by decide) rfl ha (by decide) (fun x hx => by
    have hx : x ∈ X1 := hx
    rcases List.mem_cons.1 hx with rfl | hx
    · exact ⟨by decide, by decide⟩
    · rw [List.mem_singleton.1 hx]; exact ⟨by decide, by decide⟩)
  rwa [World.size_alloc] at hv
theorem x2_rv (w : World) : Rv (w.alloc (.cells #[.int .i64 0, .int .i64 1, .string .empty, .string ⟨#[97]⟩, .slice none 0 0] 36)) (.slice (some ⟨w.heap.size, 0, none⟩) 1 1) [bare ⟨0, 1, .empty, ⟨#[97]⟩, []⟩] :=
  (rows_new w [bare ⟨0, 1, .empty, ⟨#[97]⟩, []⟩] _ 1 rfl (by decide) rfl (fun x hx => ⟨_, List.mem_singleton.1 hx, rfl⟩)).rv (fun x hx => by
    have := List.mem_singleton.1 hx
    subst this
    exact ⟨by decide, by decide⟩)

set_option maxRecDepth 100000 in
set_option maxHeartbeats 40000000 in
theorem fixed13 (w : World) : Calls Try.prog 19 #[] w fun e w' => e = .returned (.bool true) ∧ Below w.heap.size w w' := by
  go_enter Try.func19, Try.ntmps19
  go_upto_region 2 with (first
    | (go_at_call 39; refine (tree1 _).mono ?_; rintro r a1 ⟨g1, y1, rfl, hv1, hy1, hb⟩; have HV1 := Lib.hid hv1; have HY1 := Lib.hid hy1; have HA1 := Lib.hid (hb); clear hv1 hy1 hb)
    | (go_at_call 22; refine (Co.all1 _).mono ?_; rintro r b1 ⟨vA1, rfl, ho, hb⟩; have HBA1 := Lib.hid hb; have HO1 := Lib.hid ho.cv; have HB1 := Lib.hid (HA1.out.trans (hb.mono HA1.out.size)); clear ho hb)
    | (go_at_call 14; refine (rows_of _ vA1 y1 treeL allC true b1 (HV1.out.below HBA1.out) HY1.out (by decide) tree_small tree_few tree_txt HO1.out Co.sm_all 0 X1 err1 out1).mono ?_; rintro r c1 ⟨V1, z1, rfl, hz1, hr1, hb⟩; have HZ1 := Lib.hid hz1; have HR1 := Lib.hid hr1; have HC1 := Lib.hid (HB1.out.trans (hb.mono HB1.out.size)); clear hz1 hr1 hb)
    | fail)
  go_upto_region 3 with (first
    | (go_at_call 39; refine (tree1 _).mono ?_; rintro r a2 ⟨g2, y2, rfl, hv2, hy2, hb⟩; have HV2 := Lib.hid hv2; have HY2 := Lib.hid hy2; have HA2 := Lib.hid (HC1.out.trans (hb.mono HC1.out.size)); have HR1 := Lib.hid (HR1.out.below (hb)); clear hv2 hy2 hb)
    | (go_at_call 14; refine (rows_of _ _ y2 treeL cRep true _ (HV2.out.below (below_new a2 _)) HY2.out (by decide) tree_small tree_few tree_txt (conf_rep (heap_alloc_new a2 _)) sm_rep 0 X2 err2 out2).mono ?_; rintro r c2 ⟨V2, z2, rfl, hz2, hr2, hb⟩; have HZ2 := Lib.hid hz2; have HR2 := Lib.hid hr2; have HC2 := Lib.hid (HA2.out.trans (((below_new a2 _).trans (hb.mono (by simp))).mono HA2.out.size)); have HR1 := Lib.hid (HR1.out.below ((below_new a2 _).trans (hb.mono (by simp)))); clear hz2 hr2 hb)
    | fail)
  go_upto_region 4 with (first
    | (go_at_call 39; refine (tree1 _).mono ?_; rintro r a3 ⟨g3, y3, rfl, hv3, hy3, hb⟩; have HV3 := Lib.hid hv3; have HY3 := Lib.hid hy3; have HA3 := Lib.hid (HC2.out.trans (hb.mono HC2.out.size)); have HR1 := Lib.hid (HR1.out.below (hb)); have HR2 := Lib.hid (HR2.out.below (hb)); clear hv3 hy3 hb)
    | (go_at_call 22; refine (Co.all1 _).mono ?_; rintro r b3 ⟨vA3, rfl, ho, hb⟩; have HBA3 := Lib.hid hb; have HO3 := Lib.hid ho.cv; have HB3 := Lib.hid (HA3.out.trans (hb.mono HA3.out.size)); have HR1 := Lib.hid (HR1.out.below (hb)); have HR2 := Lib.hid (HR2.out.below (hb)); clear ho hb)
    | (go_at_call 14; refine (rows_of _ vA3 y3 treeL allC false b3 (HV3.out.below HBA3.out) HY3.out (by decide) tree_small tree_few tree_txt HO3.out Co.sm_all 0 treeL err1 out3).mono ?_; rintro r c3 ⟨V3, z3, rfl, hz3, hr3, hb⟩; have HZ3 := Lib.hid hz3; have HR3 := Lib.hid hr3; have HC3 := Lib.hid (HB3.out.trans (hb.mono HB3.out.size)); have HR1 := Lib.hid (HR1.out.below (hb)); have HR2 := Lib.hid (HR2.out.below (hb)); clear hz3 hr3 hb)
    | fail)
  go_upto_region 5 with (first
    | (go_at_call 39; refine (tree1 _).mono ?_; rintro r a4 ⟨g4, y4, rfl, hv4, hy4, hb⟩; have HV4 := Lib.hid hv4; have HY4 := Lib.hid hy4; have HA4 := Lib.hid (HC3.out.trans (hb.mono HC3.out.size)); have HR1 := Lib.hid (HR1.out.below (hb)); have HR2 := Lib.hid (HR2.out.below (hb)); have HR3 := Lib.hid (HR3.out.below (hb)); clear hv4 hy4 hb)
    | (go_at_call 14; refine (rows_of _ _ y4 treeL cDat true a4 HV4.out HY4.out (by decide) tree_small tree_few tree_txt (conf_dat _) sm_dat 120 [] err4 out4).mono ?_; rintro r c4 ⟨V4, z4, rfl, hz4, hr4, hb⟩; have HZ4 := Lib.hid hz4; have HR4 := Lib.hid hr4; have HC4 := Lib.hid (HA4.out.trans (hb.mono HA4.out.size)); have HR1 := Lib.hid (HR1.out.below (hb)); have HR2 := Lib.hid (HR2.out.below (hb)); have HR3 := Lib.hid (HR3.out.below (hb)); clear hz4 hr4 hb)
    | fail)
  go_region_held3 (fun wx => True) (first | exact trivial | go_keep) (first
    | (go_at_call 39; refine (tree1 _).mono ?_; rintro r a5 ⟨g5, y5, rfl, hv5, hy5, hb⟩; have HV5 := Lib.hid hv5; have HY5 := Lib.hid hy5; clear hv5 hy5; first | (have hq : Below c4.heap.size c4 a5 := bel_drew hb; have HA5 := Lib.hid (HC4.out.trans (hq.mono HC4.out.size)); have HR1 := Lib.hid (HR1.out.below hq); have HR2 := Lib.hid (HR2.out.below hq); have HR3 := Lib.hid (HR3.out.below hq); clear hq hb) | (have hq : Below b5.heap.size b5 a5 := hb; have HA5 := Lib.hid (HB5.out.trans (hq.mono HB5.out.size)); have HL := Lib.hid hq; have HR1 := Lib.hid (HR1.out.below hq); have HR2 := Lib.hid (HR2.out.below hq); have HR3 := Lib.hid (HR3.out.below hq); clear hq hb))
    | (go_at_call 22; refine (Co.all1 _).mono ?_; rintro r b5 ⟨vA5, rfl, ho, hb⟩; have HO5 := Lib.hid ho.cv; clear ho; first | (have hq : Below c4.heap.size c4 b5 := bel_drew hb; have HB5 := Lib.hid (HC4.out.trans (hq.mono HC4.out.size)); have HR1 := Lib.hid (HR1.out.below hq); have HR2 := Lib.hid (HR2.out.below hq); have HR3 := Lib.hid (HR3.out.below hq); clear hq hb) | (have hq : Below a5.heap.size a5 b5 := hb; have HB5 := Lib.hid (HA5.out.trans (hq.mono HA5.out.size)); have HL := Lib.hid hq; have HR1 := Lib.hid (HR1.out.below hq); have HR2 := Lib.hid (HR2.out.below hq); have HR3 := Lib.hid (HR3.out.below hq); clear hq hb))
    | (go_at_call 14; (with_reducible show Calls _ _ _ b5 _); refine (rows_of _ vA5 (y5.drop 1) (treeL.drop 1) allC true b5 (cut_rv (HV5.out.below HL.out)) (by rw [← ros_drop, HY5.out]) (by decide) tree_small1 tree_few1 tree_txt1 HO5.out Co.sm_all 40 [] err5 out5).mono ?_; rintro r c5 ⟨V5, z5, rfl, -, -, hq⟩; have HC5 := Lib.hid (HB5.out.trans (hq.mono HB5.out.size)); have HR1 := Lib.hid (HR1.out.below hq); have HR2 := Lib.hid (HR2.out.below hq); have HR3 := Lib.hid (HR3.out.below hq); clear hq)
    | (go_at_call 14; refine (rows_of _ vA5 (y5.drop 1) (treeL.drop 1) allC true a5 (cut_rv HV5.out) (by rw [← ros_drop, HY5.out]) (by decide) tree_small1 tree_few1 tree_txt1 (HO5.out.on HL.out) Co.sm_all 40 [] err5 out5).mono ?_; rintro r c5 ⟨V5, z5, rfl, -, -, hq⟩; have HC5 := Lib.hid (HA5.out.trans (hq.mono HA5.out.size)); have HR1 := Lib.hid (HR1.out.below hq); have HR2 := Lib.hid (HR2.out.below hq); have HR3 := Lib.hid (HR3.out.below hq); clear hq))
  all_goals go_wp2_with (first
    | (go_at_call 15; (with_reducible show Calls _ _ #[V1, _] _ _); refine (refSame1 V1 _ z1 (aX1 c5.heap.size) _ true (HR1.out.below (below_two c5 _ _)) (x1_rv c5) (by rw [← len_ros, HZ1.out]; decide) (show 2 ≤ 1000000 by omega) (decide_eq_true (HZ1.out.trans (show X1 = ros (aX1 c5.heap.size) from rfl)))).mono ?_; rintro r d1 ⟨rfl, hb⟩; have hq := (below_two c5 _ _).trans (hb.mono (below_two c5 _ _).size); have HD1 := Lib.hid (HC5.out.trans (hq.mono HC5.out.size)); have HR2 := Lib.hid (HR2.out.below hq); have HR3 := Lib.hid (HR3.out.below hq); clear hb hq)
    | (go_at_call 15; (with_reducible show Calls _ _ #[V2, _] _ _); refine (refSame1 V2 _ z2 [bare ⟨0, 1, .empty, ⟨#[97]⟩, []⟩] _ true (HR2.out.below (below_new d1 _)) (x2_rv d1) (by rw [← len_ros, HZ2.out]; decide) (show 1 ≤ 1000000 by omega) (decide_eq_true (HZ2.out.trans (show X2 = ros [bare ⟨0, 1, .empty, ⟨#[97]⟩, []⟩] from rfl)))).mono ?_; rintro r d2 ⟨rfl, hb⟩; have hq := (below_new d1 _).trans (hb.mono (below_new d1 _).size); have HD2 := Lib.hid (HD1.out.trans (hq.mono HD1.out.size)); have HR3 := Lib.hid (HR3.out.below hq); clear hb hq)
    | (go_at_call 39; refine (tree1 _).mono ?_; rintro r a6 ⟨g6, y6, rfl, hv6, hy6, hb⟩; have HV6 := Lib.hid hv6; have HY6 := Lib.hid hy6; have HA6 := Lib.hid (HD2.out.trans (hb.mono HD2.out.size)); have HR3 := Lib.hid (HR3.out.below hb); clear hv6 hy6 hb)
    | (go_at_call 15; (with_reducible show Calls _ _ #[V3, _] _ _); refine (refSame1 V3 _ z3 y6 a6 true HR3.out HV6.out (by rw [← len_ros, HZ3.out]; decide) (by rw [← len_ros, HY6.out]; decide) (decide_eq_true (HZ3.out.trans HY6.out.symm))).mono ?_; rintro r d3 ⟨rfl, hb⟩; have HD3 := Lib.hid (HA6.out.trans (hb.mono HA6.out.size)); clear hb)
    | fail)
  all_goals go_ret
  all_goals exact ⟨rfl, HD3.out⟩

end Go.Proofs.Ytdjkeakagmgfgaa.Cn

namespace Go.Proofs.Ytdjkeakagmgfgaa.Cn
set_option maxRecDepth 100000
set_option linter.unusedVariables false
set_option linter.unusedSimpArgs false
open Go.RowKit Ba Ro
/-- No more than 40 rows, of no more than 8 attributes. -/
def boundR (l : List Ro) : List Ro := (l.take 40).map fun x => { x with attrs := x.attrs.take 8 }
theorem AttR.cut {w : World} {N : Nat} {x : Cw} (h : Att w N x) : Att w N (cut x (x.ro.attrs.take 8)) :=
  ⟨Nat.le_trans (List.length_take_le' _ _) h.1, h.2.1, h.2.2.1, h.2.2.2.1.take 8, fun a ha => h.2.2.2.2 a (List.mem_of_mem_take ha)⟩
theorem boundR_at {l : List Cw} {k : Nat} {x : Cw} (h : l[k]? = some x) (hk : k < 40) : (boundR (ros l)).take (k + 1) = (boundR (ros l)).take k ++ [{ x.ro with attrs := x.ro.attrs.take 8 }] := by
  rw [List.take_add_one]
  congr 1
  rw [boundR, List.getElem?_map, List.getElem?_take_of_lt hk, ros, List.getElem?_map, h]
  rfl
theorem len_boundR (l : List Cw) : (boundR (ros l)).length = min 40 l.length := by rw [boundR, List.length_map, List.length_take, len_ros]
set_option maxRecDepth 100000 in
set_option maxHeartbeats 1000000 in
theorem boundR_any (A : Option Addr) (c : Nat) (l : List Cw) (w : World) (hr : Rr w w.heap.size A l) (hc : l.length ≤ c) (hm : c ≤ maxLen) :
    Calls Try.prog 10 #[.slice A l.length c] w fun e w' => ∃ v l', e = .returned v ∧ Ow w.heap.size w' v l' ∧ (∀ x ∈ l', Att w' w.heap.size x) ∧ ros l' = boundR (ros l) ∧ Below w.heap.size w w' := by
  unfold maxLen at hm
  go_enter Try.func10, Try.ntmps10
  go_wp2
  go_loopw [3, 4] (fun v i wr => ∃ (k : Nat) (acc : List Cw), i = .int .i64 k ∧ k ≤ l.length ∧ k ≤ 40 ∧ acc.length = k ∧ Ow w.heap.size wr v acc ∧ (∀ x ∈ acc, Att wr w.heap.size x) ∧ ros acc = (boundR (ros l)).take k ∧ Below w.heap.size w wr) (fun _ i _ => l.length - (intOf i).toNat)
  case atStart => exact ⟨0, [], rfl, by omega, by omega, rfl, Ow.made w, fun _ h => by simp at h, rfl, below_new w _⟩
  case round =>
    obtain ⟨k, acc, rfl, hk, hk6, hal, hown, hatt, hros, hbel⟩ := hrel
    have hsz := hbel.size
    by_cases hp : k < l.length
    · by_cases hp6 : k < 40
      · obtain ⟨b, off, x, rfl, hb, hdx, hx, hxa, hxm⟩ := (hr.below hbel).at_ k hp
        have hs : ros acc ++ [{ x.ro with attrs := x.ro.attrs.take 8 }] = (boundR (ros l)).take (k + 1) := by rw [hros, boundR_at (getElem_of_drop hdx) hp6]
        have hca := AttR.cut hxa
        obtain ⟨ys, hys⟩ : ∃ ys, x.ro.attrs.take 8 = ys := ⟨_, rfl⟩
        have hyl : ys.length = min x.ro.attrs.length 8 := by rw [← hys, List.length_take, Nat.min_comm]
        rw [hys] at hs hca
        have hmin := fun w => min_any x.ro.attrs.length 8 8 rfl ys.length hyl w
        have hyc : ys.length ≤ x.c := hca.1
        have hxc := hxa.1
        have hxm2 := hxa.2.2.1
        unfold maxLen at hxm2
        have HS := Lib.hid hs; have HOW := Lib.hid hown; have HATT := Lib.hid hatt; have HAL := Lib.hid hal; have HCA := Lib.hid hca
        have HC1 : Hid (Att wr wr.heap.size (cut x ys)) := Lib.hid (hca.more hsz)
        have HC2 : Hid (Ap wr w.heap.size (cut x ys)) := Lib.hid hca.apart
        have HC3 : Hid (Att (wr.alloc (rowO (cut x ys))) (wr.alloc (rowO (cut x ys))).heap.size (cut x ys)) := Lib.hid (HC1.out.boxed (Below.refl _ _) _)
        have hacc : acc.length ≤ 2000000 := by omega
        clear hros hdx hs hown hatt hxa hal hca hys hyl
        go_wp2_with (first
          | (refine wpList_load_mid rfl 36 (.tmp 19) rfl b (off + k * 5) rfl _ _ hx Try.underlying36 rfl size_row ?_)
          | (at_builtin; refine app_row _ rfl (.tmp 29) (.tmp 31) rfl w.heap.size _ acc (cut x ys) rfl (HOW.out.alloc _) HC3.out (HC2.out.below (below_new _ _)) (wr.heap.size + 1) (by simp) rfl hacc (by simp; omega) ?_; intro v3 w3 ho3 hk3 hf3))
        go_roundw
        case rel =>
          have hb3 := hk3 w (hbel.alloc hsz _)
          refine ⟨k + 1, acc ++ [cut x ys], by go_num, by omega, by omega, by rw [List.length_append, HAL.out]; rfl, ho3, fun z hz => ?_, by rw [ros_append]; exact HS.out, hb3⟩
          have hbw : Below w.heap.size wr w3 := hk3 wr (below_new wr _ |>.mono hsz)
          rcases List.mem_append.1 hz with h | h
          · exact (HATT.out z h).below hbw
          · obtain rfl := List.mem_singleton.1 h
            exact HCA.out.below hbw
        case measure => simp [intOf]; omega
      · obtain rfl : k = 40 := by omega
        have hrs : ros acc = boundR (ros l) := by rw [hros, List.take_of_length_le]; rw [len_boundR]; omega
        have HR := Lib.hid hrs
        clear hros hrs
        go_wp2
        go_ret
        exact ⟨_, acc, rfl, hown, hatt, HR.out, hbel⟩
    · have hrs : ros acc = boundR (ros l) := by rw [hros, List.take_of_length_le]; rw [len_boundR]; omega
      have HR := Lib.hid hrs
      clear hros hrs
      go_wp2
      go_ret
      exact ⟨_, acc, rfl, hown, hatt, HR.out, hbel⟩

/-- What is bounded is no greater. -/
theorem small_bound {l : List Ro} (h : Rz.Small l) : Rz.Small (boundR l) := fun x hx => by
  obtain ⟨y, hy, rfl⟩ := List.mem_map.1 hx
  obtain ⟨h1, h2, h3⟩ := h y (List.mem_of_mem_take hy)
  exact ⟨h1, h2, fun a ha => h3 a (List.mem_of_mem_take ha)⟩
theorem held_bound {l : List Ro} (h : Held l) : Held (boundR l) := fun x hx => by
  obtain ⟨y, hy, rfl⟩ := List.mem_map.1 hx
  exact h y (List.mem_of_mem_take hy)
theorem len_bound40 (l : List Ro) : (boundR l).length ≤ 40 := by
  unfold boundR
  rw [List.length_map, List.length_take]
  omega
theorem attrs_bound8 {l : List Ro} : ∀ x ∈ boundR l, x.attrs.length ≤ 8 := fun x hx => by
  obtain ⟨y, hy, rfl⟩ := List.mem_map.1 hx
  show (y.attrs.take 8).length ≤ 8
  rw [List.length_take]
  omega
end Go.Proofs.Ytdjkeakagmgfgaa.Cn

namespace Go.Proofs.Ytdjkeakagmgfgaa.Oq
set_option linter.unusedVariables false
set_option linter.unusedSimpArgs false
open Go.RowKit Go.ChangeShapes Go.WideShapes Go.Deep
section
variable {H : Type} {enc : TypeId × Value → H} {P : Program} {w : World} {base : Nat} {spare : Nat → Bool} {held : Bool}
/-- A slice of structs of one-cell fields: its parts. -/
theorem open_rows_both {t e : TypeId} {fs : Array Field} {fuel : Nat} {cs : List Value} {x : DataW H × List MemPlace} (ht : P.underlying t = some (.slice e)) (he : P.underlying e = some (.struct fs))
    (hone : oneCellFields P fs = true) (hC : P.cellsOf e = fs.size) (h : DataW.trod enc P w base spare held fuel t cs = some x) :
    cs = [.slice none 0 0] ∨
    ∃ (a : Addr) (len cap m : Nat) (Pl : Nat → List MemPlace) (D : Nat → DataW H) (sp : List (DataW H)), cs = [.slice (some a) len cap] ∧ len ≤ cap ∧ cap ≤ maxLen ∧ m = (if spare a.block then cap else len) ∧
      x.1 = .slice ((List.range len).map D) sp ∧ x.2 = MemPlace.row a (m * fs.size) ++ (List.range m).flatMap Pl ∧
      ∀ i, i < m → ∀ (j : Nat) (f : Field), fs[j]? = some f → ∃ (v : Value) (y : DataW H × List MemPlace) (n : Nat) (parts : List (DataW H)), w.cell? (a.add (i * fs.size + j)) = some v ∧ (∀ z ∈ y.2, z ∈ Pl i) ∧ D i = .agg parts ∧ parts[j]? = some y.1 ∧ DataW.trod enc P w base spare held n f.type [v] = some y := by
  rcases open_slice ht h with ⟨h0, _⟩ | ⟨a, len, cap, m, n, D, Pl, hcs, hb, hl, hm, hmm, hx, hi⟩
  · exact .inl h0
  · refine .inr ⟨a, len, cap, m, Pl, D, _, hcs, hl, hm, hmm, by rw [hx], by rw [hx, hC], fun i him j f hj => ?_⟩
    obtain ⟨cs', hc, ht'⟩ := hi i him
    rw [hC] at hc
    obtain ⟨ys, n', hn', hy, hlen, hyl, hf⟩ := DataW.trod_struct he ht'
    obtain ⟨_, hcl, hat⟩ := World.cells?_some hc
    simp only [Prod.mk.injEq] at hy
    obtain ⟨ho, hk⟩ := hone_of hone j f hj
    have hjl : j < fs.size := (Array.getElem?_eq_some_iff.1 hj).1
    have hcell := hat j hjl
    have hv : cs'[j]? = some (cs'[j]'(by omega)) := List.getElem?_eq_getElem (by omega)
    have h1 := hf j f hj
    rw [ho, hk] at h1
    have hone' : (cs'.drop j).take 1 = [cs'[j]'(by omega)] := by
      rw [List.drop_eq_getElem_cons (by omega)]
      rfl
    rw [hone'] at h1
    have hys : ys[j]? = some (ys[j]'(by omega)) := List.getElem?_eq_getElem (by omega)
    refine ⟨_, _, n', _, ?_, fun z hz => ?_, hy.1, by rw [List.getElem?_map, hys]; rfl, h1.trans hys⟩
    · rw [← Go.Deep.add_add, hcell, hv]
    · rw [hy.2]
      exact List.mem_flatMap.2 ⟨_, List.getElem_mem _, hz⟩
end
section
variable {H : Type} {enc : TypeId × Value → H} {P : Program} {w : World} {base : Nat} {spare : Nat → Bool} {held : Bool}
theorem list_of {α : Type} (Q : Nat → α → Prop) : ∀ n : Nat, (∀ i < n, ∃ x, Q i x) → ∃ l : List α, l.length = n ∧ ∀ i (h : i < l.length), Q i l[i]
  | 0, _ => ⟨[], rfl, fun i h => absurd h (by simp)⟩
  | n + 1, h => by
    obtain ⟨l, hl, hq⟩ := list_of Q n fun i hi => h i (by omega)
    obtain ⟨x, hx⟩ := h n (by omega)
    refine ⟨l ++ [x], by rw [List.length_append, hl]; rfl, fun i hi => ?_⟩
    rw [List.length_append, List.length_singleton] at hi
    by_cases e : i < l.length
    · rw [List.getElem_append_left e]
      exact hq i e
    · have : i = l.length := by omega
      subst this
      rw [List.getElem_append_right (Nat.le_refl _)]
      simp only [Nat.sub_self, List.getElem_cons_zero]
      rw [hl]; exact hx

/-- A struct of one-cell fields: its parts. -/
theorem open_agg_any {r : Reach} {b0 : Nat} {t : TypeId} {fs : Array Field} {v : Value} {d : DataW H} {p : List MemPlace} (hs : P.underlying t = some (.struct fs)) (hone : oneCellFields P fs = true) (hC : P.cellsOf t = fs.size)
    (hv : Value.okWide P w r b0 t v) (h : DataW.Trod enc P w base spare held t v d p) :
    ∃ (cs : Array Value) (ys : List (DataW H × List MemPlace)) (n : Nat), v = .agg cs ∧ cs.size = fs.size ∧ d = .agg (ys.map (·.1)) ∧ p = ys.flatMap (·.2) ∧
      ∀ (j : Nat) (f : Field), fs[j]? = some f → ∃ (u : Value) (y : DataW H × List MemPlace), cs[j]? = some u ∧ ys[j]? = some y ∧ DataW.trod enc P w base spare held n f.type [u] = some y := by
  obtain ⟨cs, rfl, hsz⟩ := okWide_struct hs hv
  obtain ⟨fuel, hf⟩ := h
  obtain ⟨ys, n', hn', hy, hlen, hyl, hat⟩ := DataW.trod_struct hs hf
  simp only [Prod.mk.injEq] at hy
  refine ⟨cs, ys, n', rfl, hsz.trans hC, hy.1, hy.2, fun j f hj => ?_⟩
  obtain ⟨ho, hk⟩ := hone_of hone j f hj
  have hjl : j < fs.size := (Array.getElem?_eq_some_iff.1 hj).1
  have hjc : j < cs.size := by rw [hsz, hC]; exact hjl
  have h1 := hat j f hj
  rw [ho, hk] at h1
  have hcl : ((Value.agg cs).cells.toList) = cs.toList := rfl
  have hone' : (((Value.agg cs).cells.toList).drop j).take 1 = [cs[j]] := by
    rw [hcl, List.drop_eq_getElem_cons (by rw [Array.length_toList]; exact hjc)]
    simp
  rw [hone'] at h1
  have hys : ys[j]? = some (ys[j]'(by omega)) := List.getElem?_eq_getElem (by omega)
  exact ⟨cs[j], _, Array.getElem?_eq_getElem hjc, hys, h1.trans hys⟩
end
end Go.Proofs.Ytdjkeakagmgfgaa.Oq

namespace Go.Proofs.Ytdjkeakagmgfgaa.Fo
set_option maxRecDepth 100000
set_option linter.unusedSimpArgs false
set_option linter.unusedVariables false
open Go.RowKit Ba Go.ChangeShapes Go.WideShapes Go.ChangeAt
theorem cells_str : Try.prog.cellsOf 9 = 1 := by kernel_rfl
theorem laidOut : laidOutB Try.prog = true := by kernel_rfl

end Go.Proofs.Ytdjkeakagmgfgaa.Fo

namespace Go.Proofs.Ytdjkeakagmgfgaa.Co
set_option maxRecDepth 100000
set_option linter.unusedVariables false
set_option linter.unusedSimpArgs false
open Go.RowKit Ba Fm Fo Nm Rk Go.ChangeShapes Go.WideShapes Go.ChangeAt Go.Deep
open Rz (Within reach_le)
open Oq (open_rows_both open_agg_any list_of)
/-- The sizes of what it holds. -/
structure St (c : Cf) : Prop where
  es : ∀ s ∈ c.els, s.size ≤ 140737488355328
  rs : ∀ s ∈ c.reps, s.size ≤ 140737488355328
  as_ : ∀ s ∈ c.ats, s.size ≤ 140737488355328
  ps : ∀ p ∈ c.per, p.el.size ≤ 140737488355328 ∧ ∀ s ∈ p.at_, s.size ≤ 140737488355328
section
variable {H : Type} {enc : TypeId × Value → H} {w : World}
theorem svs_in {fuel : Nat} {v : Value} {x : DataW H × List MemPlace} (hz : Within Try.prog 23 x.1) (h : DataW.trod enc Try.prog w 0 (fun _ => true) true fuel 23 [v] = some x) (N : Nat) (hlt : ∀ z ∈ x.2, z.block < N) : ∃ l, Sv w N v l ∧ ∀ s ∈ l, s.size ≤ 140737488355328 := by
  rcases open_strings Try.underlying23 Try.underlying9 cells_str h with ⟨hcs, hx⟩ | ⟨a, len', cap', ss, hcs, _, hl, hm, hzz, hx, hcell, hws⟩
  · obtain rfl : v = .slice none 0 0 := by simpa using hcs
    exact ⟨[], ⟨none, 0, rfl, Nat.le_refl _, fun _ => rfl, Rd.nil _ _ _⟩, fun s hs => by cases hs⟩
  · obtain rfl : v = .slice (some a) len' cap' := by simpa using hcs
    subst hx
    simp only [if_true] at hzz
    have hlen : (ss.take len').length = len' := by rw [List.length_take]; omega
    refine ⟨ss.take len', ⟨some a, cap', by rw [hlen], by rw [hlen]; exact hl, (fun e => by cases e), fun h0 => ?_⟩, fun s hs => reach_le (hz.elem (d := .lit (.string s.data.toList)) Try.underlying23 (List.mem_map.2 ⟨s, hs, rfl⟩)).str⟩
    rw [hlen] at h0
    obtain ⟨b, off, spot⟩ := a
    have hspot : spot = none := by simpa [Addr.add] using World.cell?_spot (hcell 0 (by omega))
    subst hspot
    have hbW : b < N := hlt (.cell b off) (MemPlace.mem_row.2 ⟨0, by omega, by simp⟩)
    refine ⟨b, off, rfl, hbW, fun j hj => ?_⟩
    rw [hlen] at hj
    have := hcell j (by omega)
    rw [add_plain] at this
    rw [this, List.getElem_take]
    congr 2
    rw [List.getD_eq_getElem?_getD, List.getElem?_eq_getElem (by omega)]
    rfl
theorem pers_in {fuel : Nat} {v : Value} {x : DataW H × List MemPlace} (hz : Within Try.prog 24 x.1) (h : DataW.trod enc Try.prog w 0 (fun _ => true) true fuel 24 [v] = some x) (N : Nat) (hlt : ∀ z ∈ x.2, z.block < N) :
    ∃ l, Pv w N v l ∧ ∀ p ∈ pes l, p.el.size ≤ 140737488355328 ∧ ∀ s ∈ p.at_, s.size ≤ 140737488355328 := by
  rcases open_rows_both Try.underlying24 Try.underlying52 (by kernel_rfl) (by kernel_rfl) h with hcs | ⟨a, len', cap', m, Pl, D, sp, hcs, hl, hm, hmm, hx1, hx, hi⟩
  · obtain rfl : v = .slice none 0 0 := by simpa using hcs
    exact ⟨[], ⟨none, 0, rfl, Nat.le_refl _, fun _ => rfl, Pr.nil _ _ _⟩, fun p hp => by simp [pes] at hp⟩
  · obtain rfl : v = .slice (some a) len' cap' := by simpa using hcs
    simp only [if_true] at hmm
    subst hmm
    obtain ⟨b, off, spot⟩ := a
    have hrow : ∀ i < len', ∃ r : Pw, (∀ (j : Nat) (u : Value), (pcells r)[j]? = some u → w.cell? ((⟨b, off, spot⟩ : Addr).add (i * 2 + j)) = some u) ∧ Sx w N r ∧ r.pe.el.size ≤ 140737488355328 ∧ ∀ s ∈ r.pe.at_, s.size ≤ 140737488355328 := fun i hil => by
      obtain ⟨v0, y0, n0, q0, c0, _, D0, g0, t0⟩ := hi i (by omega) 0 _ rfl
      obtain ⟨v1, y1, n1, q1, c1, p1, D1, g1, t1⟩ := hi i (by omega) 1 _ rfl
      rw [D0] at D1
      injection D1 with D1
      subst D1
      have hzi : Within Try.prog 52 (D i) := by
        rw [hx1] at hz
        exact hz.elem Try.underlying24 (List.mem_map.2 ⟨i, List.mem_range.2 hil, rfl⟩)
      rw [D0] at hzi
      have z0 := hzi.part Try.underlying52 (j := 0) rfl g0
      have z1 := hzi.part Try.underlying52 (j := 1) rfl g1
      obtain ⟨s0, e0, b0, _⟩ := DataW.trod_string Try.underlying9 t0
      obtain rfl : v0 = .string s0 := by simpa using e0
      rw [b0] at z0
      obtain ⟨l, hs, hk⟩ := svs_in z1 t1 N fun z hzz => hlt z (by
        rw [hx]
        exact List.mem_append_right _ (List.mem_flatMap.2 ⟨i, List.mem_range.2 (by omega), p1 z hzz⟩))
      have hs' := hs
      obtain ⟨A, c, rfl, _, _, _⟩ := hs'
      refine ⟨⟨⟨s0, l⟩, A, c⟩, fun j u hu => ?_, hs, reach_le z0.str, hk⟩
      match j, hu with
      | 0, hu => exact c0.trans hu
      | 1, hu => exact c1.trans hu
      | j + 2, hu => exact absurd hu (by simp [pcells])
    obtain ⟨l, hll, hq⟩ := list_of _ len' hrow
    refine ⟨l, ⟨some ⟨b, off, spot⟩, _, by rw [hll], by omega, (fun e => by cases e), fun h0 => ?_, fun r hr => ?_⟩, fun p hp => ?_⟩
    · have hspot : spot = none := by
        have := World.cell?_spot ((hq 0 h0).1 0 _ rfl)
        simpa [Addr.add] using this
      subst hspot
      refine ⟨b, off, rfl, hlt (.cell b off) (by rw [hx]; exact List.mem_append_left _ (MemPlace.mem_row.2 ⟨0, by show 0 < _ * 2; omega, by simp⟩)), fun j hj k u hu => ?_⟩
      have := (hq j hj).1 k u hu
      rw [add_plain] at this
      rw [show off + j * 2 + k = off + (j * 2 + k) by omega]
      exact this
    · obtain ⟨j, hj, rfl⟩ := List.getElem_of_mem hr
      exact (hq j hj).2.1
    · obtain ⟨z, hz', rfl⟩ := List.mem_map.1 hp
      obtain ⟨j, hj, rfl⟩ := List.getElem_of_mem hz'
      exact (hq j hj).2.2
theorem open_cf {base : Nat} {v : Value} {d : DataW H} {p : List MemPlace} (hz : Within Try.prog 26 d) (hv : Value.okWide Try.prog w .any base 26 v)
    (h : ∃ fuel, DataW.trod enc Try.prog w 0 (fun _ => true) true fuel 26 v.cells.toList = some (d, p)) (hlt : ∀ z ∈ p, z.block < w.heap.size) : ∃ c, Cv w w.heap.size v c ∧ St c := by
  obtain ⟨cs, ys, n, rfl, hcs, hd, hp, hat⟩ := open_agg_any Try.underlying26 (by kernel_rfl) (by kernel_rfl) hv h
  obtain ⟨v0, y0, c0, g0, t0⟩ := hat 0 _ rfl
  obtain ⟨v1, y1, c1, g1, t1⟩ := hat 1 _ rfl
  obtain ⟨v2, y2, c2, g2, t2⟩ := hat 2 _ rfl
  obtain ⟨v3, y3, c3, g3, t3⟩ := hat 3 _ rfl
  obtain ⟨v4, y4, c4, g4, t4⟩ := hat 4 _ rfl
  obtain ⟨v5, y5, c5, g5, t5⟩ := hat 5 _ rfl
  obtain ⟨v6, y6, c6, g6, t6⟩ := hat 6 _ rfl
  obtain ⟨v7, y7, c7, g7, t7⟩ := hat 7 _ rfl
  subst hd
  have gm : ∀ {j : Nat} {y : DataW H × List MemPlace}, ys[j]? = some y → (ys.map (·.1))[j]? = some y.1 := fun h => by rw [List.getElem?_map, h]; rfl
  have lt : ∀ {j : Nat} {y : DataW H × List MemPlace}, ys[j]? = some y → ∀ z ∈ y.2, z.block < w.heap.size := fun h z hzz => hlt z (by
    rw [hp]
    exact List.mem_flatMap.2 ⟨_, List.mem_of_getElem? h, hzz⟩)
  obtain ⟨b0, e0, _⟩ := DataW.trod_bool Try.underlying4 t0
  obtain ⟨b1, e1, _⟩ := DataW.trod_bool Try.underlying4 t1
  obtain ⟨lE, sE, kE⟩ := svs_in (hz.part Try.underlying26 (j := 2) rfl (gm g2)) t2 w.heap.size (lt g2)
  obtain ⟨lR, sR, kR⟩ := svs_in (hz.part Try.underlying26 (j := 3) rfl (gm g3)) t3 w.heap.size (lt g3)
  obtain ⟨lA, sA, kA⟩ := svs_in (hz.part Try.underlying26 (j := 4) rfl (gm g4)) t4 w.heap.size (lt g4)
  obtain ⟨lP, sP, kP⟩ := pers_in (hz.part Try.underlying26 (j := 5) rfl (gm g5)) t5 w.heap.size (lt g5)
  obtain ⟨b6, e6, _⟩ := DataW.trod_bool Try.underlying4 t6
  obtain ⟨b7, e7, _⟩ := DataW.trod_bool Try.underlying4 t7
  obtain rfl : v0 = .bool b0 := by simpa using e0
  obtain rfl : v1 = .bool b1 := by simpa using e1
  obtain rfl : v6 = .bool b6 := by simpa using e6
  obtain rfl : v7 = .bool b7 := by simpa using e7
  refine ⟨⟨b0, b1, lE, lR, lA, pes lP, b6, b7⟩, ⟨v2, v3, v4, v5, lP, ?_, sE, sR, sA, sP, rfl⟩, kE, kR, kA, kP⟩
  have hcs8 : cs.size = 8 := hcs
  congr 1
  apply Array.ext_getElem?
  intro i
  match i with
  | 0 => exact c0
  | 1 => exact c1
  | 2 => exact c2
  | 3 => exact c3
  | 4 => exact c4
  | 5 => exact c5
  | 6 => exact c6
  | 7 => exact c7
  | i + 8 => rw [Array.getElem?_eq_none (by omega), Array.getElem?_eq_none (by simp)]
end

end Go.Proofs.Ytdjkeakagmgfgaa.Co
