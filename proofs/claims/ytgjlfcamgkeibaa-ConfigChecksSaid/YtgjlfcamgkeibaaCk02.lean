/-
  Walk of stage 12: the document's Same, for values that read as one configuration.
  Each string that a statement's row reads is within the reach.
  Arguments that are slices of structs: their parts, and what is read of each.
  An argument that is a slice of strings, as the row reads it: a list of strings, nil or not.
  An argument api.Conf, as a statement's row reads it.
  Groups of api.Per: slices of them in a slice, each of the call's own, no two in one block.
  A region whose loads may be taken first though its own last stores write the cells that they load: the condition on the world is asked for only as long as the first of those stores has not come up.
  Walk of stage 12: the law's Bound.
  What is plain: the configuration, and what it keeps. It speaks of no program.
  fold.merged.
  fold.Find, of a list that rises.
  fold.Sorted, which calls itself, and fold.Minus.
  boltingref02.Minus and boltingref02.Sorted.
  risk.Element.
  Walks of stage 12: copied, safe, neverSafe; the document's Unsafe, Minus.
-/
import Derived.Test.YtgjlfcamgkeibaaCk01
import Derived.ChangeSame
import Derived.ProofKit
import Derived.Carry
import Derived.SizedLaws
import Derived.Deep.Slices
import Derived.Deep.Fields
import Derived.Lib.SmallJoins
import Derived.SliceStrings
import Derived.Deep.OwnRows
import Derived.Test.YtgjlfcamgkeibaaRows
import Derived.Deep.RegionHeld3
import Derived.Laws.Small
import Derived.Deep.RegionWith
namespace Go.Proofs.Ytgjlfcamgkeibaa.Co
set_option maxRecDepth 100000
set_option linter.unusedVariables false
set_option linter.unusedSimpArgs false
open Go.RowKit Ba Fm Fo Nm Rk
theorem drew_more {w wr : World} {m n : Nat} (h : wr = w.drewN m) : wr.drewN n = w.drewN (m + n) := by rw [h]; simp [World.drewN, Nat.add_assoc]
theorem below_two (w : World) (o p : Obj) : Below w.heap.size w ((w.alloc o).alloc p) := (below_new12 w o).trans ((below_new12 (w.alloc o) p).mono (below_new12 w o).size)
theorem equal_drew (A C : Option Addr) (c d : Nat) (l : List ByteArray) (w : World) (hr : Rd w w.heap.size A l) (hq : Rd w w.heap.size C l) (hl : l.length ≤ 1000000) :
    Calls Try.prog 47 #[.slice A l.length c, .slice C l.length d] w fun e w' => e = .returned (.bool true) ∧ ∃ m, w' = w.drewN m := by
  go_enter Try.func47, Try.ntmps47
  go_wp2
  go_loopw [5] (fun i wr => ∃ k : Nat, i = .int .i64 k ∧ k ≤ l.length ∧ ∃ m, wr = w.drewN m) (fun i _ => l.length - (intOf i).toNat)
  case atStart => exact ⟨0, rfl, Nat.zero_le _, 0, rfl⟩
  case round =>
    obtain ⟨k, rfl, hks, m, hw⟩ := hrel
    have hbel : Below w.heap.size w wr := hw ▸ below_dN (Below.refl _ _) m
    have HW := Lib.hid hw
    clear hw
    by_cases hp : k < l.length
    · obtain ⟨b, off, rfl, hb1, hc⟩ := hr (by omega)
      obtain ⟨b', off', rfl, hb2, hc'⟩ := hq (by omega)
      have hcell : wr.cell? ⟨b, off + k, none⟩ = some (.string l[k]) := (hbel.cell (p := ⟨b, off + k, none⟩) hb1).trans (hc k hp)
      have hcell' : wr.cell? ⟨b', off' + k, none⟩ = some (.string l[k]) := (hbel.cell (p := ⟨b', off' + k, none⟩) hb2).trans (hc' k hp)
      clear hc hc' hr hq hb1 hb2 hbel
      have hk0 : (0 : Int) ≤ (k : Int) := by omega
      have hk1 : (k : Int) < (l.length : Int) := by omega
      go_wp2
      go_quiet (fail)
      go_wp2
      go_roundw
      case rel => exact ⟨k + 1, by go_num, by omega, _, drew_more HW.out⟩
      case measure => simp [intOf]; omega
    · clear hbel
      go_wp2
      go_ret
      exact ⟨rfl, m, HW.out⟩
theorem eq12 (u v : Value) (l : List ByteArray) (w0 w : World) (hu : Sv w0 w0.heap.size u l) (hv : Sv w0 w0.heap.size v l) (hl : l.length ≤ 1000000) (hb : Below w0.heap.size w0 w) :
    Calls Try.prog 47 #[u, v] w fun e w' => e = .returned (.bool true) ∧ Below w0.heap.size w0 w' := by
  obtain ⟨A, c, rfl, _, _, hr⟩ := sv_on hu hb
  obtain ⟨C, d, rfl, _, _, hq⟩ := sv_on hv hb
  exact (equal_drew A C c d l w hr hq hl).mono fun e w' ⟨he, m, hw⟩ => ⟨he, hw ▸ below_dN hb m⟩
theorem equal_q (u v : Value) (N : Nat) (l : List ByteArray) (w : World) (hu : Sv w N u l) (hv : Sv w N v l) (hN : N ≤ w.heap.size) (hl : l.length ≤ 1000000) (n : Nat) :
    Calls Try.prog 47 #[u, v] (w.drewN n) fun e w'' => e = .returned (.bool true) ∧ ∃ m, w'' = w.drewN m := by
  have hu' : Sv (w.drewN n) (w.drewN n).heap.size u l := Sv.more hu hN
  have hv' : Sv (w.drewN n) (w.drewN n).heap.size v l := Sv.more hv hN
  obtain ⟨A, c, rfl, _, _, hr⟩ := hu'
  obtain ⟨C, d, rfl, _, _, hq⟩ := hv'
  exact (equal_drew A C c d l _ hr hq hl).mono fun e w' ⟨he, m, hw⟩ => ⟨he, n + m, by rw [hw]; simp [World.drewN, Nat.add_assoc]⟩
set_option maxRecDepth 100000 in
set_option maxHeartbeats 1000000 in
theorem refSame1 (u v : Value) (c : Cf) (w : World) (hu : Cv w w.heap.size u c) (hv : Cv w w.heap.size v c) (hs : Sm c) :
    Calls Try.prog 19 #[u, v] w fun e w' => e = .returned (.bool true) ∧ Below w.heap.size w w' := by
  obtain ⟨uE, uR, uA, uP, lu, rfl, hu⟩ := hu
  obtain ⟨vE, vR, vA, vP, lv, rfl, hv⟩ := hv
  obtain ⟨al, aa, els, reps, ats, per, cm, da⟩ := c
  obtain ⟨w0, hw0⟩ : ∃ w0, (w.alloc (.cells #[.bool al, .bool aa, uE, uR, uA, uP, .bool cm, .bool da] 26)).alloc (.cells #[.bool al, .bool aa, vE, vR, vA, vP, .bool cm, .bool da] 26) = w0 := ⟨_, rfl⟩
  have hb1 : Below w.heap.size w w0 := hw0 ▸ below_two w _ _
  have hx1 : Bx w0 w.heap.size ⟨al, aa, els, reps, ats, per, cm, da⟩ uE uR uA uP := hw0 ▸ (Bx.new w ⟨al, aa, els, reps, ats, per, cm, da⟩ uE uR uA uP).below (below_new12 _ _) (by simp)
  have hx2 : Bx w0 (w.heap.size + 1) ⟨al, aa, els, reps, ats, per, cm, da⟩ vE vR vA vP := by
    have := Bx.new (w.alloc (confO ⟨al, aa, els, reps, ats, per, cm, da⟩ uE uR uA uP)) ⟨al, aa, els, reps, ats, per, cm, da⟩ vE vR vA vP
    rw [World.size_alloc] at this
    exact hw0 ▸ this
  have hz : w.heap.size + 1 < w0.heap.size := by rw [← hw0]; simp
  have h0 := hu.on hb1
  have k0 := hv.on hb1
  have hl : lu.length ≤ 1000 := by have := hs.p; have e := hu.m; simp only at this e; rw [← e, len_pes] at this; exact this
  have hm : pes lu = pes lv := hu.m.trans hv.m.symm
  have hln : lv.length = lu.length := by rw [← len_pes lv, ← hm, len_pes]
  have hpl : ∀ x ∈ lu, x.pe.at_.length ≤ 1000 := fun x hx => by
    have hmm : x.pe ∈ per := by have := hu.m; simp only at this; rw [← this]; exact List.mem_map.2 ⟨x, hx, rfl⟩
    exact hs.pa _ hmm
  have HE := Lib.hid (fun wx hb => eq12 uE vE els w0 wx h0.e k0.e (by have := hs.e; simp only at this; omega) hb)
  have HR := Lib.hid (fun wx hb => eq12 uR vR reps w0 wx h0.r k0.r (by have := hs.r; simp only at this; omega) hb)
  have HA := Lib.hid (fun wx hb => eq12 uA vA ats w0 wx h0.a k0.a (by have := hs.a; simp only at this; omega) hb)
  obtain ⟨PA, pc, rfl, hpc, hpn, hpr⟩ := h0.p
  obtain ⟨QA, qc, rfl, hqc, hqn, hqr⟩ := k0.p
  have HX1 := Lib.hid hx1; have HX2 := Lib.hid hx2; have HB1 := Lib.hid hb1; have HP := Lib.hid hpr; have HQ := Lib.hid hqr; have HM := Lib.hid hm; have HPL := Lib.hid hpl; have HW := Lib.hid hw0
  rw [hln] at hqc HX2 HW ⊢
  have HLN := Lib.hid hln
  clear hw0 hb1 hx1 hx2 h0 k0 hu hv hs hm hpl hpr hqr hln
  go_enter Try.func19, Try.ntmps19
  go_upto_region 1 with (fail)
  rw [HW.out]
  obtain ⟨g0, g1, g2, g3, g4, g5, g6, g7⟩ := HX1.out.at_
  obtain ⟨f0, f1, f2, f3, f4, f5, f6, f7⟩ := HX2.out.at_
  go_wp2
  clear g0 g1 g2 g3 g4 g5 g6 g7 f0 f1 f2 f3 f4 f5 f6 f7
  go_loopw [5] (fun i wr => ∃ k : Nat, i = .int .i64 k ∧ k ≤ lu.length ∧ Below w0.heap.size w0 wr) (fun i _ => lu.length - (intOf i).toNat)
  case atStart => exact ⟨0, rfl, Nat.zero_le _, Below.refl _ _⟩
  case round =>
    obtain ⟨k, rfl, hks, hbel⟩ := hrel
    obtain ⟨g0, g1, g2, g3, g4, g5, g6, g7⟩ := (HX1.out.below hbel (by omega)).at_
    obtain ⟨f0, f1, f2, f3, f4, f5, f6, f7⟩ := (HX2.out.below hbel (by omega)).at_
    have hz' : w0.heap.size ≤ wr.heap.size := hbel.size
    by_cases hk : k < lu.length
    · obtain ⟨b, off, x, rfl, hb, hx, hcs, hsx, hxm⟩ := (HP.out.below hbel).at_ k hk
      obtain ⟨b', off', y, rfl, hb', hy, hcs', hsy, hym⟩ := (HQ.out.below hbel).at_ k (by rw [HLN.out]; exact hk)
      obtain ⟨k0, k1⟩ := range2p hcs
      obtain ⟨j0, j1⟩ := range2p hcs'
      have hxy : y.pe = x.pe := by
        have h1 : (pes lu)[k]? = some x.pe := by unfold pes; rw [List.getElem?_map, hx]; rfl
        have h2 : (pes lv)[k]? = some y.pe := by unfold pes; rw [List.getElem?_map, hy]; rfl
        rw [HM.out, h2] at h1
        exact Option.some.inj h1
      obtain ⟨⟨xe, xa⟩, XA, xc⟩ := x
      obtain ⟨⟨ye, ya⟩, YA, yc⟩ := y
      simp only [Pe.mk.injEq] at hxy
      obtain ⟨rfl, rfl⟩ := hxy
      have hal := HPL.out _ hxm
      simp only at k0 k1 j0 j1 hal
      have HC := Lib.hid (equal_q (.slice XA ya.length xc) (.slice YA ya.length yc) w0.heap.size ya wr hsx hsy hz' (by omega))
      have HBL := Lib.hid hbel
      have hk0 : (0 : Int) ≤ (k : Int) := by omega
      have hk1 : (k : Int) < (lu.length : Int) := by omega
      clear hcs hcs' hsx hsy hx hy hxm hym hbel g0 g1 g2 g3 g4 g6 g7 f0 f1 f2 f3 f4 f6 f7
      go_wp2
      go_quiet ((go_at_call 47; exact HC.out _))
      go_wp2
      go_roundw
      case rel => exact ⟨k + 1, by go_num, by omega, below_dN HBL.out _⟩
      case measure => simp [intOf]; omega
    · have HBL := Lib.hid hbel
      clear hbel
      go_wp2_with (go_at_call 47; first
        | ((with_reducible show Calls _ _ #[uE, vE] _ _); refine (HE.out _ HBL.out).mono ?_; rintro r wA ⟨rfl, hbA⟩; have HBA := Lib.hid hbA; obtain ⟨p0, p1, p2, p3, p4, p5, p6, p7⟩ := (HX1.out.below hbA (by omega)).at_; obtain ⟨q0, q1, q2, q3, q4, q5, q6, q7⟩ := (HX2.out.below hbA (by omega)).at_; clear hbA)
        | ((with_reducible show Calls _ _ #[uR, vR] _ _); refine (HR.out _ HBA.out).mono ?_; rintro r wB ⟨rfl, hbB⟩; have HBB := Lib.hid hbB; obtain ⟨s0, s1, s2, s3, s4, s5, s6, s7⟩ := (HX1.out.below hbB (by omega)).at_; obtain ⟨t0, t1, t2, t3, t4, t5, t6, t7⟩ := (HX2.out.below hbB (by omega)).at_; clear hbB)
        | ((with_reducible show Calls _ _ #[uA, vA] _ _); refine (HA.out _ HBB.out).mono ?_; rintro r wC ⟨rfl, hbC⟩; have HBC := Lib.hid hbC; clear hbC))
      go_ret
      exact ⟨rfl, HB1.out.trans (HBC.out.mono HB1.out.size)⟩

end Go.Proofs.Ytgjlfcamgkeibaa.Co

namespace Go.Proofs.Ytgjlfcamgkeibaa.Rz
set_option linter.unusedVariables false
set_option linter.unusedSimpArgs false
open Go.RowKit Go.ChangeShapes Go.WideShapes
def Within {H : Type} (P : Program) (t : TypeId) (d : DataW H) : Prop := ∀ m ∈ d.weights P t, m ≤ reachBytes
theorem within_all {H : Type} {P : Program} {e : TypeId} {d : DataW H} {m : Nat} : ∀ {l : List (DataW H)}, d ∈ l → m ∈ d.weights P e → m ∈ DataW.weightsAll P e l
  | [], h, _ => by cases h
  | x :: r, h, hm => by
    rw [DataW.weightsAll, List.mem_append]
    rcases List.mem_cons.1 h with rfl | h
    · exact .inl hm
    · exact .inr (within_all h hm)
theorem Within.elem {H : Type} {P : Program} {t e : TypeId} {l sp : List (DataW H)} {d : DataW H} (h : Within P t (.slice l sp)) (ht : P.underlying t = some (.slice e)) (hd : d ∈ l) : Within P e d := fun m hm => h m (by
  simp only [DataW.weights, ht, List.mem_cons, List.mem_append]
  exact .inr (.inl (within_all hd hm)))
theorem Within.part {H : Type} {P : Program} {t : TypeId} {fs : Array Field} {l : List (DataW H)} {d : DataW H} {j : Nat} {f : Field} (h : Within P t (.agg l)) (ht : P.underlying t = some (.struct fs)) (hf : fs[j]? = some f) (hd : l[j]? = some d) : Within P f.type d := fun m hm => h m (by
  simp only [DataW.weights, ht]
  exact DataW.weights_mem_each (j := j) (by rw [List.getElem?_map, Array.getElem?_toList, hf]; rfl) hd m hm)
theorem Within.str {H : Type} {P : Program} {t : TypeId} {s : ByteArray} (h : Within P t (.lit (.string s.data.toList) : DataW H)) : s.size ≤ reachBytes := by
  have := h s.data.toList.length (by simp [DataW.weights])
  rw [Array.length_toList] at this
  exact this
theorem sized_all {H : Type} {P : Program} {ts : List TypeId} {ds : List (DataW H)} (h : (DataW.weightsEach P ts ds).all (· ≤ reachBytes) = true) {j : Nat} {t : TypeId} {d : DataW H} (ht : ts[j]? = some t) (hd : ds[j]? = some d) : Within P t d := fun m hm => by
  have := List.all_eq_true.1 h m (DataW.weights_mem_each ht hd m hm)
  simpa using this

theorem reach_le {n : Nat} (h : n ≤ reachBytes) : n ≤ 140737488355328 := Nat.le_trans h (by decide)

end Go.Proofs.Ytgjlfcamgkeibaa.Rz

namespace Go.Proofs.Ytgjlfcamgkeibaa.Oq
set_option linter.unusedVariables false
set_option linter.unusedSimpArgs false
open Go.RowKit Go.ChangeShapes Go.WideShapes Go.Deep
section
variable {H : Type} {enc : TypeId × Value → H} {P : Program} {w : World} {base : Nat} {spare : Nat → Bool} {held : Bool}
theorem open_rows_both {t e : TypeId} {fs : Array Field} {fuel : Nat} {cs : List Value} {x : DataW H × List MemPlace} (ht : P.underlying t = some (.slice e)) (he : P.underlying e = some (.struct fs))
    (hone : oneCellFields P fs = true) (hC : P.cellsOf e = fs.size) (h : DataW.trod enc P w base spare held fuel t cs = some x) :
    cs = [.slice none 0 0] ∨
    ∃ (a : Addr) (len cap m : Nat) (Pl : Nat → List MemPlace) (D : Nat → DataW H) (sp : List (DataW H)), cs = [.slice (some a) len cap] ∧ len ≤ cap ∧ cap ≤ maxLen ∧ m = (if spare a.block then cap else len) ∧
      x.1 = .slice ((List.range len).map D) sp ∧ x.2 = MemPlace.row a (m * fs.size) ++ (List.range m).flatMap Pl ∧
      ∀ i, i < m → ∀ (j : Nat) (f : Field), fs[j]? = some f → ∃ (v : Value) (y : DataW H × List MemPlace) (n : Nat) (parts : List (DataW H)), w.cell? (a.add (i * fs.size + j)) = some v ∧ (∀ z ∈ y.2, z ∈ Pl i) ∧ D i = .agg parts ∧ parts[j]? = some y.1 ∧ DataW.trod enc P w base spare held n f.type [v] = some y := by
  rcases open_slice ht h with ⟨h0, _⟩ | ⟨a, len, cap, m, n, D, Pl, hcs, hb, hl, hm, hmm, hx, hi⟩
  · exact .inl h0
  · refine .inr ⟨a, len, cap, m, Pl, D, _, hcs, hl, hm, hmm, by rw [hx], by rw [hx, hC], fun i him j f hj => ?_⟩
    obtain ⟨cs', hc, ht'⟩ := hi i him
    rw [hC] at hc
    obtain ⟨ys, n', hn', hy, hlen, hyl, hf⟩ := DataW.trod_struct he ht'
    obtain ⟨_, hcl, hat⟩ := World.cells?_some hc
    simp only [Prod.mk.injEq] at hy
    obtain ⟨ho, hk⟩ := hone_of hone j f hj
    have hjl : j < fs.size := (Array.getElem?_eq_some_iff.1 hj).1
    have hcell := hat j hjl
    have hv : cs'[j]? = some (cs'[j]'(by omega)) := List.getElem?_eq_getElem (by omega)
    have h1 := hf j f hj
    rw [ho, hk] at h1
    have hone' : (cs'.drop j).take 1 = [cs'[j]'(by omega)] := by
      rw [List.drop_eq_getElem_cons (by omega)]
      rfl
    rw [hone'] at h1
    have hys : ys[j]? = some (ys[j]'(by omega)) := List.getElem?_eq_getElem (by omega)
    refine ⟨_, _, n', _, ?_, fun z hz => ?_, hy.1, by rw [List.getElem?_map, hys]; rfl, h1.trans hys⟩
    · rw [← Go.Deep.add_add, hcell, hv]
    · rw [hy.2]
      exact List.mem_flatMap.2 ⟨_, List.getElem_mem _, hz⟩
end
section
variable {H : Type} {enc : TypeId × Value → H} {P : Program} {w : World} {base : Nat} {spare : Nat → Bool} {held : Bool}
theorem list_of {α : Type} (Q : Nat → α → Prop) : ∀ n : Nat, (∀ i < n, ∃ x, Q i x) → ∃ l : List α, l.length = n ∧ ∀ i (h : i < l.length), Q i l[i]
  | 0, _ => ⟨[], rfl, fun i h => absurd h (by simp)⟩
  | n + 1, h => by
    obtain ⟨l, hl, hq⟩ := list_of Q n fun i hi => h i (by omega)
    obtain ⟨x, hx⟩ := h n (by omega)
    refine ⟨l ++ [x], by rw [List.length_append, hl]; rfl, fun i hi => ?_⟩
    rw [List.length_append, List.length_singleton] at hi
    by_cases e : i < l.length
    · rw [List.getElem_append_left e]
      exact hq i e
    · have : i = l.length := by omega
      subst this
      rw [List.getElem_append_right (Nat.le_refl _)]
      simp only [Nat.sub_self, List.getElem_cons_zero]
      rw [hl]; exact hx

theorem open_agg_any {r : Reach} {b0 : Nat} {t : TypeId} {fs : Array Field} {v : Value} {d : DataW H} {p : List MemPlace} (hs : P.underlying t = some (.struct fs)) (hone : oneCellFields P fs = true) (hC : P.cellsOf t = fs.size)
    (hv : Value.okWide P w r b0 t v) (h : DataW.Trod enc P w base spare held t v d p) :
    ∃ (cs : Array Value) (ys : List (DataW H × List MemPlace)) (n : Nat), v = .agg cs ∧ cs.size = fs.size ∧ d = .agg (ys.map (·.1)) ∧ p = ys.flatMap (·.2) ∧
      ∀ (j : Nat) (f : Field), fs[j]? = some f → ∃ (u : Value) (y : DataW H × List MemPlace), cs[j]? = some u ∧ ys[j]? = some y ∧ DataW.trod enc P w base spare held n f.type [u] = some y := by
  obtain ⟨cs, rfl, hsz⟩ := okWide_struct hs hv
  obtain ⟨fuel, hf⟩ := h
  obtain ⟨ys, n', hn', hy, hlen, hyl, hat⟩ := DataW.trod_struct hs hf
  simp only [Prod.mk.injEq] at hy
  refine ⟨cs, ys, n', rfl, hsz.trans hC, hy.1, hy.2, fun j f hj => ?_⟩
  obtain ⟨ho, hk⟩ := hone_of hone j f hj
  have hjl : j < fs.size := (Array.getElem?_eq_some_iff.1 hj).1
  have hjc : j < cs.size := by rw [hsz, hC]; exact hjl
  have h1 := hat j f hj
  rw [ho, hk] at h1
  have hcl : ((Value.agg cs).cells.toList) = cs.toList := rfl
  have hone' : (((Value.agg cs).cells.toList).drop j).take 1 = [cs[j]] := by
    rw [hcl, List.drop_eq_getElem_cons (by rw [Array.length_toList]; exact hjc)]
    simp
  rw [hone'] at h1
  have hys : ys[j]? = some (ys[j]'(by omega)) := List.getElem?_eq_getElem (by omega)
  exact ⟨cs[j], _, Array.getElem?_eq_getElem hjc, hys, h1.trans hys⟩
end
end Go.Proofs.Ytgjlfcamgkeibaa.Oq

namespace Go.Proofs.Ytgjlfcamgkeibaa.Fo
set_option maxRecDepth 100000
set_option linter.unusedSimpArgs false
set_option linter.unusedVariables false
open Go.RowKit Ba Go.ChangeShapes Go.WideShapes Go.ChangeAt
theorem cells_str : Try.prog.cellsOf 9 = 1 := by kernel_rfl
theorem laidOut : laidOutB Try.prog = true := by kernel_rfl

end Go.Proofs.Ytgjlfcamgkeibaa.Fo

namespace Go.Proofs.Ytgjlfcamgkeibaa.Co
set_option maxRecDepth 100000
set_option linter.unusedVariables false
set_option linter.unusedSimpArgs false
open Go.RowKit Ba Fm Fo Nm Rk Go.ChangeShapes Go.WideShapes Go.ChangeAt Go.Deep
open Rz (Within reach_le)
open Oq (open_rows_both open_agg_any list_of)
structure St (c : Cf) : Prop where
  es : ∀ s ∈ c.els, s.size ≤ 140737488355328
  rs : ∀ s ∈ c.reps, s.size ≤ 140737488355328
  as_ : ∀ s ∈ c.ats, s.size ≤ 140737488355328
  ps : ∀ p ∈ c.per, p.el.size ≤ 140737488355328 ∧ ∀ s ∈ p.at_, s.size ≤ 140737488355328
section
variable {H : Type} {enc : TypeId × Value → H} {w : World}
theorem svs_in {fuel : Nat} {v : Value} {x : DataW H × List MemPlace} (hz : Within Try.prog 23 x.1) (h : DataW.trod enc Try.prog w 0 (fun _ => true) true fuel 23 [v] = some x) (N : Nat) (hlt : ∀ z ∈ x.2, z.block < N) : ∃ l, Sv w N v l ∧ ∀ s ∈ l, s.size ≤ 140737488355328 := by
  rcases open_strings Try.underlying23 Try.underlying9 cells_str h with ⟨hcs, hx⟩ | ⟨a, len', cap', ss, hcs, _, hl, hm, hzz, hx, hcell, hws⟩
  · obtain rfl : v = .slice none 0 0 := by simpa using hcs
    exact ⟨[], ⟨none, 0, rfl, Nat.le_refl _, fun _ => rfl, Rd.nil _ _ _⟩, fun s hs => by cases hs⟩
  · obtain rfl : v = .slice (some a) len' cap' := by simpa using hcs
    subst hx
    simp only [if_true] at hzz
    have hlen : (ss.take len').length = len' := by rw [List.length_take]; omega
    refine ⟨ss.take len', ⟨some a, cap', by rw [hlen], by rw [hlen]; exact hl, (fun e => by cases e), fun h0 => ?_⟩, fun s hs => reach_le (hz.elem (d := .lit (.string s.data.toList)) Try.underlying23 (List.mem_map.2 ⟨s, hs, rfl⟩)).str⟩
    rw [hlen] at h0
    obtain ⟨b, off, spot⟩ := a
    have hspot : spot = none := by simpa [Addr.add] using World.cell?_spot (hcell 0 (by omega))
    subst hspot
    have hbW : b < N := hlt (.cell b off) (MemPlace.mem_row.2 ⟨0, by omega, by simp⟩)
    refine ⟨b, off, rfl, hbW, fun j hj => ?_⟩
    rw [hlen] at hj
    have := hcell j (by omega)
    rw [add_plain] at this
    rw [this, List.getElem_take]
    congr 2
    rw [List.getD_eq_getElem?_getD, List.getElem?_eq_getElem (by omega)]
    rfl
theorem pers_in {fuel : Nat} {v : Value} {x : DataW H × List MemPlace} (hz : Within Try.prog 24 x.1) (h : DataW.trod enc Try.prog w 0 (fun _ => true) true fuel 24 [v] = some x) (N : Nat) (hlt : ∀ z ∈ x.2, z.block < N) :
    ∃ l, Pv w N v l ∧ ∀ p ∈ pes l, p.el.size ≤ 140737488355328 ∧ ∀ s ∈ p.at_, s.size ≤ 140737488355328 := by
  rcases open_rows_both Try.underlying24 Try.underlying48 (by kernel_rfl) (by kernel_rfl) h with hcs | ⟨a, len', cap', m, Pl, D, sp, hcs, hl, hm, hmm, hx1, hx, hi⟩
  · obtain rfl : v = .slice none 0 0 := by simpa using hcs
    exact ⟨[], ⟨none, 0, rfl, Nat.le_refl _, fun _ => rfl, Pr.nil _ _ _⟩, fun p hp => by simp [pes] at hp⟩
  · obtain rfl : v = .slice (some a) len' cap' := by simpa using hcs
    simp only [if_true] at hmm
    subst hmm
    obtain ⟨b, off, spot⟩ := a
    have hrow : ∀ i < len', ∃ r : Pw, (∀ (j : Nat) (u : Value), (pcells r)[j]? = some u → w.cell? ((⟨b, off, spot⟩ : Addr).add (i * 2 + j)) = some u) ∧ Sx w N r ∧ r.pe.el.size ≤ 140737488355328 ∧ ∀ s ∈ r.pe.at_, s.size ≤ 140737488355328 := fun i hil => by
      obtain ⟨v0, y0, n0, q0, c0, _, D0, g0, t0⟩ := hi i (by omega) 0 _ rfl
      obtain ⟨v1, y1, n1, q1, c1, p1, D1, g1, t1⟩ := hi i (by omega) 1 _ rfl
      rw [D0] at D1
      injection D1 with D1
      subst D1
      have hzi : Within Try.prog 48 (D i) := by
        rw [hx1] at hz
        exact hz.elem Try.underlying24 (List.mem_map.2 ⟨i, List.mem_range.2 hil, rfl⟩)
      rw [D0] at hzi
      have z0 := hzi.part Try.underlying48 (j := 0) rfl g0
      have z1 := hzi.part Try.underlying48 (j := 1) rfl g1
      obtain ⟨s0, e0, b0, _⟩ := DataW.trod_string Try.underlying9 t0
      obtain rfl : v0 = .string s0 := by simpa using e0
      rw [b0] at z0
      obtain ⟨l, hs, hk⟩ := svs_in z1 t1 N fun z hzz => hlt z (by
        rw [hx]
        exact List.mem_append_right _ (List.mem_flatMap.2 ⟨i, List.mem_range.2 (by omega), p1 z hzz⟩))
      have hs' := hs
      obtain ⟨A, c, rfl, _, _, _⟩ := hs'
      refine ⟨⟨⟨s0, l⟩, A, c⟩, fun j u hu => ?_, hs, reach_le z0.str, hk⟩
      match j, hu with
      | 0, hu => exact c0.trans hu
      | 1, hu => exact c1.trans hu
      | j + 2, hu => exact absurd hu (by simp [pcells])
    obtain ⟨l, hll, hq⟩ := list_of _ len' hrow
    refine ⟨l, ⟨some ⟨b, off, spot⟩, _, by rw [hll], by omega, (fun e => by cases e), fun h0 => ?_, fun r hr => ?_⟩, fun p hp => ?_⟩
    · have hspot : spot = none := by
        have := World.cell?_spot ((hq 0 h0).1 0 _ rfl)
        simpa [Addr.add] using this
      subst hspot
      refine ⟨b, off, rfl, hlt (.cell b off) (by rw [hx]; exact List.mem_append_left _ (MemPlace.mem_row.2 ⟨0, by show 0 < _ * 2; omega, by simp⟩)), fun j hj k u hu => ?_⟩
      have := (hq j hj).1 k u hu
      rw [add_plain] at this
      rw [show off + j * 2 + k = off + (j * 2 + k) by omega]
      exact this
    · obtain ⟨j, hj, rfl⟩ := List.getElem_of_mem hr
      exact (hq j hj).2.1
    · obtain ⟨z, hz', rfl⟩ := List.mem_map.1 hp
      obtain ⟨j, hj, rfl⟩ := List.getElem_of_mem hz'
      exact (hq j hj).2.2
theorem open_cf {base : Nat} {v : Value} {d : DataW H} {p : List MemPlace} (hz : Within Try.prog 26 d) (hv : Value.okWide Try.prog w .any base 26 v)
    (h : ∃ fuel, DataW.trod enc Try.prog w 0 (fun _ => true) true fuel 26 v.cells.toList = some (d, p)) (hlt : ∀ z ∈ p, z.block < w.heap.size) : ∃ c, Cv w w.heap.size v c ∧ St c := by
  obtain ⟨cs, ys, n, rfl, hcs, hd, hp, hat⟩ := open_agg_any Try.underlying26 (by kernel_rfl) (by kernel_rfl) hv h
  obtain ⟨v0, y0, c0, g0, t0⟩ := hat 0 _ rfl
  obtain ⟨v1, y1, c1, g1, t1⟩ := hat 1 _ rfl
  obtain ⟨v2, y2, c2, g2, t2⟩ := hat 2 _ rfl
  obtain ⟨v3, y3, c3, g3, t3⟩ := hat 3 _ rfl
  obtain ⟨v4, y4, c4, g4, t4⟩ := hat 4 _ rfl
  obtain ⟨v5, y5, c5, g5, t5⟩ := hat 5 _ rfl
  obtain ⟨v6, y6, c6, g6, t6⟩ := hat 6 _ rfl
  obtain ⟨v7, y7, c7, g7, t7⟩ := hat 7 _ rfl
  subst hd
  have gm : ∀ {j : Nat} {y : DataW H × List MemPlace}, ys[j]? = some y → (ys.map (·.1))[j]? = some y.1 := fun h => by rw [List.getElem?_map, h]; rfl
  have lt : ∀ {j : Nat} {y : DataW H × List MemPlace}, ys[j]? = some y → ∀ z ∈ y.2, z.block < w.heap.size := fun h z hzz => hlt z (by
    rw [hp]
    exact List.mem_flatMap.2 ⟨_, List.mem_of_getElem? h, hzz⟩)
  obtain ⟨b0, e0, _⟩ := DataW.trod_bool Try.underlying4 t0
  obtain ⟨b1, e1, _⟩ := DataW.trod_bool Try.underlying4 t1
  obtain ⟨lE, sE, kE⟩ := svs_in (hz.part Try.underlying26 (j := 2) rfl (gm g2)) t2 w.heap.size (lt g2)
  obtain ⟨lR, sR, kR⟩ := svs_in (hz.part Try.underlying26 (j := 3) rfl (gm g3)) t3 w.heap.size (lt g3)
  obtain ⟨lA, sA, kA⟩ := svs_in (hz.part Try.underlying26 (j := 4) rfl (gm g4)) t4 w.heap.size (lt g4)
  obtain ⟨lP, sP, kP⟩ := pers_in (hz.part Try.underlying26 (j := 5) rfl (gm g5)) t5 w.heap.size (lt g5)
  obtain ⟨b6, e6, _⟩ := DataW.trod_bool Try.underlying4 t6
  obtain ⟨b7, e7, _⟩ := DataW.trod_bool Try.underlying4 t7
  obtain rfl : v0 = .bool b0 := by simpa using e0
  obtain rfl : v1 = .bool b1 := by simpa using e1
  obtain rfl : v6 = .bool b6 := by simpa using e6
  obtain rfl : v7 = .bool b7 := by simpa using e7
  refine ⟨⟨b0, b1, lE, lR, lA, pes lP, b6, b7⟩, ⟨v2, v3, v4, v5, lP, ?_, sE, sR, sA, sP, rfl⟩, kE, kR, kA, kP⟩
  have hcs8 : cs.size = 8 := hcs
  congr 1
  apply Array.ext_getElem?
  intro i
  match i with
  | 0 => exact c0
  | 1 => exact c1
  | 2 => exact c2
  | 3 => exact c3
  | 4 => exact c4
  | 5 => exact c5
  | 6 => exact c6
  | 7 => exact c7
  | i + 8 => rw [Array.getElem?_eq_none (by omega), Array.getElem?_eq_none (by simp)]
end

end Go.Proofs.Ytgjlfcamgkeibaa.Co

namespace Go.Proofs.Ytgjlfcamgkeibaa.Co
set_option maxRecDepth 100000
set_option linter.unusedVariables false
set_option linter.unusedSimpArgs false
open Go.RowKit Ba Fm Fo
def pickW (l : List Pw) (e : ByteArray) : List Pw := l.filter fun x => decide (x.pe.el = e) && decide (x.pe.at_ ≠ [])
theorem pes_pickW (l : List Pw) (e : ByteArray) : pes (pickW l e) = pickP (pes l) e := by
  unfold pes pickW pickP
  rw [List.filter_map]
  rfl
theorem pickW_snoc {l : List Pw} {k : Nat} {x : Pw} (h : l[k]? = some x) (e : ByteArray) : pickW (l.take (k + 1)) e = pickW (l.take k) e ++ if x.pe.el = e ∧ x.pe.at_ ≠ [] then [x] else [] := by
  have hk : k < l.length := (List.getElem?_eq_some_iff.1 h).1
  have hx : l[k] = x := (List.getElem?_eq_some_iff.1 h).2
  unfold pickW
  rw [List.take_succ_eq_append_getElem hk, List.filter_append, hx]
  congr 1
  by_cases h1 : x.pe.el = e <;> by_cases h2 : x.pe.at_ = [] <;> simp [h1, h2]
theorem mem_pickW {l : List Pw} {e : ByteArray} {x : Pw} (h : x ∈ pickW l e) : x ∈ l := (List.mem_filter.1 h).1
theorem len_pickW (l : List Pw) (e : ByteArray) : (pickW l e).length ≤ l.length := List.length_filter_le _ _
def groupW (l : List Pw) (es : List ByteArray) : List Pw := es.flatMap (pickW l)
theorem pes_groupW (l : List Pw) : ∀ es : List ByteArray, pes (groupW l es) = groupL (pes l) es
  | [] => rfl
  | e :: es => by
    show pes (pickW l e ++ groupW l es) = pickP (pes l) e ++ groupL (pes l) es
    rw [pes_append, pes_pickW, pes_groupW l es]
theorem mem_groupW {l : List Pw} {x : Pw} : ∀ {es : List ByteArray}, x ∈ groupW l es → x ∈ l
  | [], h => by cases h
  | e :: es, h => by
    rcases List.mem_append.1 (show x ∈ pickW l e ++ groupW l es from h) with h | h
    · exact mem_pickW h
    · exact mem_groupW h
theorem len_groupW (l : List Pw) : ∀ es : List ByteArray, (groupW l es).length ≤ es.length * l.length
  | [] => by simp [groupW]
  | e :: es => by
    have h1 := len_pickW l e
    have h2 := len_groupW l es
    show (pickW l e ++ groupW l es).length ≤ _
    rw [List.length_append, List.length_cons, Nat.add_mul]
    omega
theorem groupW_snoc (l : List Pw) {es : List ByteArray} {k : Nat} (h : k < es.length) : groupW l (es.take (k + 1)) = groupW l (es.take k) ++ pickW l es[k] := by
  unfold groupW
  rw [List.take_succ_eq_append_getElem h, List.flatMap_append]
  simp

theorem po_aside {N g : Nat} {w w' : World} {v : Value} {l : List Pw} (h : Po N w v l) (hg : w.grownBy w' (some g)) (hN : N ≤ g) (hp : ∀ cs fr, w.heap[g]? ≠ some (.cells cs 48 fr)) (hs : ∀ cs fr, w.heap[g]? ≠ some (.cells cs 9 fr)) : Po N w' v l := by
  refine ⟨⟨h.1.1, ?_⟩, fun x hx => ⟨?_, ?_⟩⟩
  · rcases h.1.2 with hn | ⟨b, cap, cur, hv, hb, hh, rest⟩
    · exact .inl hn
    · refine .inr ⟨b, cap, cur, hv, hb, ?_, rest⟩
      have hne : b ≠ g := fun e => hp _ _ (e ▸ hh)
      rw [hg.block b (Array.getElem?_eq_some_iff.1 hh).1 (by simpa using hne)]
      exact hh
  · obtain ⟨h1, h2⟩ := h.2 x hx
    obtain ⟨A, c, e, h3, h4, h5⟩ := h1
    refine ⟨A, c, e, h3, h4, fun h0 => ?_⟩
    obtain ⟨b, off, e2, hb, hc⟩ := h5 h0
    obtain ⟨b', off', e3, ha⟩ := h2 h0
    injection e with e4 e5 e6
    rw [e4, e2] at e3
    injection e3 with e3
    injection e3 with e7 e8
    subst e7
    have hne : b ≠ g := by
      rcases ha with ha | ⟨cs, fr, ha⟩
      · omega
      · exact fun e => hs _ _ (e ▸ ha)
    exact ⟨b, off, e2, Nat.lt_of_lt_of_le hb hg.size, fun j hj => (World.cell?_of_block (a := ⟨b, off + j, none⟩) (hg.block b hb (by simpa using hne))).trans (hc j hj)⟩
  · intro h0
    obtain ⟨b, off, e, ha⟩ := (h.2 x hx).2 h0
    refine ⟨b, off, e, ha.imp id ?_⟩
    rintro ⟨cs, fr, ha⟩
    have hne : b ≠ g := fun e => hs _ _ (e ▸ ha)
    exact ⟨cs, fr, (hg.block b (Array.getElem?_eq_some_iff.1 ha).1 (by simpa using hne)).trans ha⟩
theorem po_beside {N : Nat} {w w' : World} {v u : Value} {l m : List Pw} (h : Po N w u m) (hv : Po N w v l) (hg : w.grownBy w' v.ownBlock) (hne : ∀ b, u.ownBlock = some b → v.ownBlock ≠ some b) : Po N w' u m := by
  refine ⟨⟨h.1.1, ?_⟩, fun x hx => ⟨(h.2 x hx).1.grown hv.1 hg (h.2 x hx).2, (h.2 x hx).2.grown hv.1 hg⟩⟩
  rcases h.1.2 with hn | ⟨b, cap, cur, e, hb, hh, rest⟩
  · exact .inl hn
  · refine .inr ⟨b, cap, cur, e, hb, ?_, rest⟩
    subst e
    rw [hg.block b (Array.getElem?_eq_some_iff.1 hh).1 (fun e => hne b rfl e.symm)]
    exact hh

structure Gr (N : Nat) (w : World) (g : Nat) (gs : Array Value) (ps : List (List Pw)) : Prop where
  heap : w.heap[g]? = some (.cells gs 24)
  size : gs.size = ps.length
  low : N ≤ g
  own : ∀ (i : Nat) v p, gs[i]? = some v → ps[i]? = some p → Po N w v p
  apart : ∀ (i j : Nat) v u b, gs[i]? = some v → gs[j]? = some u → i ≠ j → v.ownBlock = some b → u.ownBlock ≠ some b
theorem Gr.lt {N g : Nat} {w : World} {gs : Array Value} {ps : List (List Pw)} (h : Gr N w g gs ps) : g < w.heap.size := (Array.getElem?_eq_some_iff.1 h.heap).1
theorem Gr.below {N g : Nat} {w w' : World} {gs : Array Value} {ps : List (List Pw)} (h : Gr N w g gs ps) (hb : Below w.heap.size w w') : Gr N w' g gs ps :=
  ⟨(hb.block g h.lt).trans h.heap, h.size, h.low, fun i v p h1 h2 => (h.own i v p h1 h2).below hb, h.apart⟩
theorem Gr.cell {N g : Nat} {w : World} {gs : Array Value} {ps : List (List Pw)} (h : Gr N w g gs ps) {j : Nat} {v : Value} (hj : gs[j]? = some v) : w.cell? ⟨g, j, none⟩ = some v ∧ w.frozen? ⟨g, j, none⟩ = false := by
  refine ⟨by rw [cell_of_row w g j _ _ _ h.heap]; exact hj, ?_⟩
  have := h.heap
  simp [World.frozen?, this]
theorem Gr.ne {N g : Nat} {w : World} {gs : Array Value} {ps : List (List Pw)} (h : Gr N w g gs ps) : (∀ cs fr, w.heap[g]? ≠ some (.cells cs 48 fr)) ∧ ∀ cs fr, w.heap[g]? ≠ some (.cells cs 9 fr) := by
  refine ⟨fun cs fr e => ?_, fun cs fr e => ?_⟩ <;>
  · rw [h.heap] at e
    injection e with e
    injection e with _ ht
    exact absurd ht (by decide)
theorem Gr.put {N g j : Nat} {w w1 : World} {gs : Array Value} {ps : List (List Pw)} {v v' : Value} {p : List Pw} {x : Pw} (h : Gr N w g gs ps) (hv : gs[j]? = some v) (hp : ps[j]? = some p) (hg : w.grownBy w1 v.ownBlock) (ho : Po N w1 v' (p ++ [x]))
    (hb : ∀ b, v'.ownBlock = some b → v.ownBlock = some b ∨ w.heap.size ≤ b) : Gr N (w1.setCell ⟨g, j, none⟩ v') g (gs.setIfInBounds j v') (ps.set j (p ++ [x])) := by
  have hjl : j < gs.size := (Array.getElem?_eq_some_iff.1 hv).1
  have hov := h.own j v p hv hp
  have hgne : some g ≠ v.ownBlock := fun e => by
    rcases hov.1.2 with ⟨e1, _⟩ | ⟨b, cap, cur, e1, _, hh, _⟩
    · subst e1
      simp [Value.ownBlock] at e
    · subst e1
      have e : g = b := by simpa [Value.ownBlock] using e
      subst e
      exact h.ne.1 _ _ hh
  have h1 : w1.heap[g]? = some (.cells gs 24) := (hg.block g h.lt hgne).trans h.heap
  have hne1 : (∀ cs fr, w1.heap[g]? ≠ some (.cells cs 48 fr)) ∧ ∀ cs fr, w1.heap[g]? ≠ some (.cells cs 9 fr) := by
    rw [h1, ← h.heap]
    exact h.ne
  refine ⟨?_, by rw [Array.size_setIfInBounds, List.length_set]; exact h.size, h.low, fun i u q hu hq => ?_, fun i i2 u u2 b hu hu2 hii hub => ?_⟩
  · simp [World.setCell, Array.getElem?_modify, h1, Array.setIfInBounds, hjl]
  · refine po_aside ?_ (gcell12 w1 g j v') h.low hne1.1 hne1.2
    by_cases hij : i = j
    · subst hij
      rw [Array.getElem?_setIfInBounds_self_of_lt hjl] at hu
      rw [List.getElem?_set_self (by rw [← h.size]; exact hjl)] at hq
      injection hu with hu
      injection hq with hq
      subst hu hq
      exact ho
    · rw [Array.getElem?_setIfInBounds_ne (Ne.symm hij)] at hu
      rw [List.getElem?_set_ne (Ne.symm hij)] at hq
      exact po_beside (h.own i u q hu hq) hov hg fun b hb => h.apart i j u v b hu hv hij hb
  · by_cases hij : i = j
    · subst hij
      rw [Array.getElem?_setIfInBounds_self_of_lt hjl] at hu
      injection hu with hu
      subst hu
      rw [Array.getElem?_setIfInBounds_ne hii] at hu2
      rcases hb b hub with e | e
      · exact h.apart i i2 v u2 b hv hu2 hii e
      · intro e2
        have hlt : i2 < ps.length := by rw [← h.size]; exact (Array.getElem?_eq_some_iff.1 hu2).1
        have := (World.ownsRow.lt (h.own i2 u2 _ hu2 (List.getElem?_eq_getElem hlt)).1 b e2).2
        omega
    · rw [Array.getElem?_setIfInBounds_ne (Ne.symm hij)] at hu
      by_cases hij2 : i2 = j
      · subst hij2
        rw [Array.getElem?_setIfInBounds_self_of_lt hjl] at hu2
        injection hu2 with hu2
        subst hu2
        intro e2
        rcases hb b e2 with e | e
        · exact h.apart i i2 u v b hu hv hii hub e
        · have hlt : i < ps.length := by rw [← h.size]; exact (Array.getElem?_eq_some_iff.1 hu).1
          have := (World.ownsRow.lt (h.own i u _ hu (List.getElem?_eq_getElem hlt)).1 b hub).2
          omega
      · rw [Array.getElem?_setIfInBounds_ne (Ne.symm hij2)] at hu2
        exact h.apart i i2 u u2 b hu hu2 hii hub

theorem step_app_perL {ops : Array Oper} {o : Oper} {a : Act} {K : Act → World → Prop} {Q : Exit → Act → World → Prop} {E : Prop} (W : World) (hgd : o.guard = none) (s x : Operand)
    (ho : o.op = .call { callee := .builtin .append, args := #[s, x], argTypes := #[24, 24] })
    (W0 : World) (N : Nat) (v : Value) (l : List Pw) (z : Pw) (hr : Po N W0 v l) (hz1 : Sx W0 W0.heap.size z) (hz2 : Ap W0 N z) (hg : W0.grownBy W none) (hN : N ≤ W0.heap.size) (hl : l.length ≤ 2000000)
    (hs : a.eval s = v) (g0 : Nat) (hx : a.eval x = .slice (some ⟨g0, 0, none⟩) 1 1) (hz : W.heap[g0]? = some (perO z))
    (h : ∀ g cap w', Po N w' (.slice (some ⟨g, 0, none⟩) (l.length + 1) cap) (l ++ [z]) → W0.grownBy w' v.ownBlock → (v.ownBlock = some g ∨ W0.heap.size ≤ g) → K (a.put o.dst (.slice (some ⟨g, 0, none⟩) (l.length + 1) cap)) w') :
    if Region.wanted o (yielded ops a.tmps) = true then Oper.wp Try.prog o a W K Q else E := by
  obtain ⟨i0, hi, hz0, hz1', hz2'⟩ := info_parts info_per
  have hown : W.ownsRow N 48 2 v l.length (l.flatMap pcells) := World.ownsRow.kept hr.1 hg (by cases hv : v.ownBlock with
    | none => exact .inl rfl
    | some k => right; simp)
  refine step_append_lies W hgd s x 24 ho N 48 i0 _ 2 40 Try.underlying24 hi hz0 hz1' hz2' rfl (by decide) v l.length (l.flatMap pcells) hs hown ⟨g0, 0, none⟩ 1 1 (pcells z) hx rfl (fun j u hu => World.news_of_block hz j u hu) (pcells_one z) (by decide) (by unfold maxLen; omega) (by omega) (Nat.le_trans hN hg.size) _ rfl ?_
  intro g cap w1 h1 h2 h3 _
  have hgw : W0.grownBy w1 v.ownBlock := grown_none hg h2
  refine h g cap w1 ⟨by rw [List.length_append, List.flatMap_append]; simpa using h1, fun y hy => ?_⟩ hgw (h3.imp id fun e => by rw [e]; exact hg.size)
  rcases List.mem_append.1 hy with hy | hy
  · exact ⟨(hr.2 y hy).1.grown hr.1 hgw (hr.2 y hy).2, (hr.2 y hy).2.grown hr.1 hgw⟩
  · obtain rfl := List.mem_singleton.1 hy
    exact ⟨hz1.grown hr.1 hgw hz2, hz2.grown hr.1 hgw⟩

end Go.Proofs.Ytgjlfcamgkeibaa.Co

namespace Go.Proofs.Ytgjlfcamgkeibaa.Ph
set_option linter.unusedVariables false
set_option linter.unusedSimpArgs false
open Go
section
variable {P : Program} {ops : Array Oper} {Q : Exit → Act → World → Prop} {md : Region.Mode} {S : World → Prop} {st : Nat}
def anyT (P : Program) (md : Region.Mode) (ops : Array Oper) (Q : Exit → Act → World → Prop) (S : World → Prop) (st : Nat) : Nat → Array Bool → Act → World → Prop
  | 0, l, a, w => Region.ready md ops l = [] ∧ Q .normal a w
  | n + 1, l, a, w => (Region.ready md ops l = [] → Q .normal a w) ∧
    ∀ i ∈ Region.ready md ops l, wpOp P ops Q i (fun a' w' => ((l.setIfInBounds i true).getD st true = false → S w') ∧ anyT P md ops Q S st n (l.setIfInBounds i true) a' w') a w
theorem any_of_T : ∀ (n : Nat) (l : Array Bool) (a : Act) (w : World), anyT P md ops Q S st n l a w → wpAny P md ops Q n l a w
  | 0, _, _, _, h => h
  | n + 1, _, _, _, h => ⟨h.1, fun i hi => wpOp_mono (fun a' w' k => any_of_T n _ a' w' k.2) (h.2 i hi)⟩

def waits (md : Region.Mode) (ops : Array Oper) (st i : Nat) : Bool := ((ops[st]?).map fun o => o.after.any fun e => Region.binds md e && e.on == i).getD false
theorem waits_not {i : Nat} {l : Array Bool} (hw : waits md ops st i = true) (hi : i ∈ Region.ready md ops l) : st ∉ Region.ready md ops l := fun hs => by
  obtain ⟨_, o, ho, hall⟩ := mem_ready.1 hs
  have hi0 := (mem_ready.1 hi).1
  unfold waits at hw
  rw [ho] at hw
  simp only [Option.map_some, Option.getD_some] at hw
  obtain ⟨e, he, hb⟩ := Array.any_eq_true'.1 hw
  rw [Bool.and_eq_true, beq_iff_eq] at hb
  have h1 := hall e he hb.1
  rw [hb.2] at h1
  by_cases hlt : i < l.size
  · simp [hlt] at hi0 h1
    rw [hi0] at h1
    cases h1
  · simp [Array.getElem?_eq_none (Nat.le_of_not_lt hlt)] at h1

theorem T_first {i : Nat} {oi : Oper} {v : Value} (hi : ops[i]? = some oi) (hsel : ∀ (j : Nat) (o : Oper) cs b, ops[j]? = some o → o.op ≠ .select cs b)
    (hQ : ∀ c a w, Q (.panic c) (a.put oi.dst v) w → Q (.panic c) a w) (hw : waits md ops st i = true) (hne : i ≠ st) :
    ∀ (n : Nat) (l : Array Bool) (a : Act) (w : World),
      (∀ j oj, ops[j]? = some oj → j ≠ i → l.getD j true = false → (∀ e ∈ oj.after, Region.binds md e = true → e.on ≠ i) → oi.apart ops oj = true) →
      l.getD st true = false → i ∈ Region.ready md ops l → YieldsIf P ops S oi v a → S w → anyT P md ops Q S st n (l.setIfInBounds i true) (a.put oi.dst v) w → anyT P md ops Q S st (n + 1) l a w := by
  intro n
  induction n with
  | zero =>
    intro l a w hf hst hr hy hS H
    refine ⟨fun e => by rw [e] at hr; (cases hr), fun j hj => ?_⟩
    by_cases hji : j = i
    · rw [hji]
      exact hy.wpOp hi hS ⟨fun _ => hS, H⟩
    · have hj' := ready_mono hj hji
      rw [H.1] at hj'
      cases hj'
  | succ n ih =>
    intro l a w hf hst hr hy hS H
    refine ⟨fun e => by rw [e] at hr; (cases hr), fun j hj => ?_⟩
    by_cases hji : j = i
    · rw [hji]
      exact hy.wpOp hi hS ⟨fun _ => hS, H⟩
    · have hjs : j ≠ st := fun e => waits_not hw hr (e ▸ hj)
      obtain ⟨hun, oj, hoj, hall⟩ := mem_ready.1 hj
      have hno : ∀ e ∈ oj.after, Region.binds md e = true → e.on ≠ i := fun e he hb hon => by
        have h1 := hall e he hb
        have h0 := (mem_ready.1 hr).1
        rw [hon] at h1
        by_cases hlt : i < l.size
        · simp [hlt] at h0 h1
          rw [h0] at h1
          cases h1
        · simp [Array.getElem?_eq_none (Nat.le_of_not_lt hlt)] at h1
      have hst' : (l.setIfInBounds j true).getD st true = false := (getD_set_ne true hjs).trans hst
      have hf' : ∀ k ok, ops[k]? = some ok → k ≠ i → (l.setIfInBounds j true).getD k true = false → (∀ e ∈ ok.after, Region.binds md e = true → e.on ≠ i) → oi.apart ops ok = true := fun k ok hk hki hku hkn => by
        by_cases hjk : j = k
        · exact hf k ok hk hki (hjk ▸ hun) hkn
        · rw [getD_set_ne true hjk] at hku
          exact hf k ok hk hki hku hkn
      refine wpOp_mono (fun a' w' k => ?_) (wpOp_putIf hoj (hf j oj hoj hji hun hno) (fun cs b => hsel i oi cs b hi) (fun cs b => hsel j oj cs b hoj) hQ hy (H.2 j (ready_mono hj hji)))
      have hS' : S w' := k.2.1 (by rw [getD_set_ne true hjs, getD_set_ne true hne]; exact hst)
      exact ⟨fun _ => hS', ih (l.setIfInBounds j true) a' w' hf' hst' (ready_mono hr (Ne.symm hji)) k.1 hS' (by rw [Array.setIfInBounds_comm _ _ hji]; exact k.2.2)⟩
theorem T_pure0 {i : Nat} {oi : Oper} {v : Value} (hi : ops[i]? = some oi) (hsel : ∀ (j : Nat) (o : Oper) cs b, ops[j]? = some o → o.op ≠ .select cs b)
    (hQ : ∀ c a w, Q (.panic c) (a.put oi.dst v) w → Q (.panic c) a w) (hne : i ≠ st) :
    ∀ (n : Nat) (l : Array Bool) (a : Act) (w : World),
      (∀ j oj, ops[j]? = some oj → j ≠ i → l.getD j true = false → (∀ e ∈ oj.after, Region.binds md e = true → e.on ≠ i) → oi.apart ops oj = true) →
      i ∈ Region.ready md ops l → YieldsIf P ops (fun _ => True) oi v a → (l.getD st true = false → S w) → anyT P md ops Q S st n (l.setIfInBounds i true) (a.put oi.dst v) w → anyT P md ops Q S st (n + 1) l a w := by
  intro n
  induction n with
  | zero =>
    intro l a w hf hr hy hS H
    refine ⟨fun e => by rw [e] at hr; (cases hr), fun j hj => ?_⟩
    by_cases hji : j = i
    · rw [hji]
      exact hy.wpOp hi trivial ⟨fun e => hS (by rw [getD_set_ne true hne] at e; exact e), H⟩
    · have hj' := ready_mono hj hji
      rw [H.1] at hj'
      cases hj'
  | succ n ih =>
    intro l a w hf hr hy hS H
    refine ⟨fun e => by rw [e] at hr; (cases hr), fun j hj => ?_⟩
    by_cases hji : j = i
    · rw [hji]
      exact hy.wpOp hi trivial ⟨fun e => hS (by rw [getD_set_ne true hne] at e; exact e), H⟩
    · obtain ⟨hun, oj, hoj, hall⟩ := mem_ready.1 hj
      have hno : ∀ e ∈ oj.after, Region.binds md e = true → e.on ≠ i := fun e he hb hon => by
        have h1 := hall e he hb
        have h0 := (mem_ready.1 hr).1
        rw [hon] at h1
        by_cases hlt : i < l.size
        · simp [hlt] at h0 h1
          rw [h0] at h1
          cases h1
        · simp [Array.getElem?_eq_none (Nat.le_of_not_lt hlt)] at h1
      have hf' : ∀ k ok, ops[k]? = some ok → k ≠ i → (l.setIfInBounds j true).getD k true = false → (∀ e ∈ ok.after, Region.binds md e = true → e.on ≠ i) → oi.apart ops ok = true := fun k ok hk hki hku hkn => by
        by_cases hjk : j = k
        · exact hf k ok hk hki (hjk ▸ hun) hkn
        · rw [getD_set_ne true hjk] at hku
          exact hf k ok hk hki hku hkn
      refine wpOp_mono (fun a' w' k => ?_) (wpOp_putIf hoj (hf j oj hoj hji hun hno) (fun cs b => hsel i oi cs b hi) (fun cs b => hsel j oj cs b hoj) hQ hy (H.2 j (ready_mono hj hji)))
      have hS' : (l.setIfInBounds j true).getD st true = false → S w' := fun e => k.2.1 (by rw [Array.setIfInBounds_comm _ _ (Ne.symm hji), getD_set_ne true hne]; exact e)
      exact ⟨hS', ih (l.setIfInBounds j true) a' w' hf' (ready_mono hr (Ne.symm hji)) k.1 hS' (by rw [Array.setIfInBounds_comm _ _ hji]; exact k.2.2)⟩
theorem T_pure {i : Nat} {oi : Oper} {v : Value} {n : Nat} {l : Array Bool} {a : Act} {w : World} (hi : ops[i]? = some oi) (hs : Region.noSelect ops = true) (hf : Region.free md ops l i = true) (hr : (Region.ready md ops l).contains i = true)
    (hw : (i != st) = true) (hQ : ∀ c a w, Q (.panic c) (a.put oi.dst v) w → Q (.panic c) a w) (hy : YieldsIf P ops (fun _ => True) oi v a) (hS : S w)
    (h : S w → anyT P md ops Q S st n (l.setIfInBounds i true) (a.put oi.dst v) w) : anyT P md ops Q S st (n + 1) l a w :=
  T_pure0 hi (Region.noSelect_spec hs) hQ (by simpa using hw) n l a w (Region.free_spec hi hf) (by simpa using hr) hy (fun _ => hS) (h hS)
theorem T_take {i : Nat} {oi : Oper} {v : Value} {n : Nat} {l : Array Bool} {a : Act} {w : World} (hi : ops[i]? = some oi) (hs : Region.noSelect ops = true) (hf : Region.free md ops l i = true) (hr : (Region.ready md ops l).contains i = true)
    (hw : (waits md ops st i && i != st && !l.getD st true) = true) (hQ : ∀ c a w, Q (.panic c) (a.put oi.dst v) w → Q (.panic c) a w) (hy : YieldsIf P ops S oi v a) (hS : S w)
    (h : S w → anyT P md ops Q S st n (l.setIfInBounds i true) (a.put oi.dst v) w) : anyT P md ops Q S st (n + 1) l a w := by
  simp only [Bool.and_eq_true, bne_iff_ne, ne_eq, Bool.not_eq_true'] at hw
  exact T_first hi (Region.noSelect_spec hs) hQ hw.1.1 hw.1.2 n l a w (Region.free_spec hi hf) hw.2 (by simpa using hr) hy hS (h hS)
theorem T_one {i : Nat} {o : Oper} {n : Nat} {l : Array Bool} {a : Act} {w : World} (hr : Region.ready md ops l = [i]) (ho : ops[i]? = some o)
    (h : ∀ K' : Act → World → Prop, Shut (∀ a w, S w → (S w → anyT P md ops Q S st n (l.setIfInBounds i true) a w) → K' a w) → if Region.wanted o (yielded ops a.tmps) = true then Oper.wp P o a w K' Q else K' (a.put o.dst undef) w) :
    anyT P md ops Q S st (n + 1) l a w := by
  refine ⟨fun e => (by rw [e] at hr; cases hr), fun j hj => ?_⟩
  rw [hr, List.mem_singleton] at hj
  rw [hj]
  exact wpOp_step ho fun K' hK => h K' fun a w hS hW => hK a w ⟨fun _ => hS, hW hS⟩
theorem T_last {i : Nat} {o : Oper} {n : Nat} {l : Array Bool} {a : Act} {w : World} (hr : Region.ready md ops l = [i]) (hst : (l.setIfInBounds i true).getD st true = true) (ho : ops[i]? = some o)
    (h : ∀ K' : Act → World → Prop, Shut (∀ a w, anyT P md ops Q S st n (l.setIfInBounds i true) a w → K' a w) → if Region.wanted o (yielded ops a.tmps) = true then Oper.wp P o a w K' Q else K' (a.put o.dst undef) w) :
    anyT P md ops Q S st (n + 1) l a w := by
  refine ⟨fun e => (by rw [e] at hr; cases hr), fun j hj => ?_⟩
  rw [hr, List.mem_singleton] at hj
  rw [hj]
  exact wpOp_step ho fun K' hK => h K' fun a w hW => hK a w ⟨fun e => (by rw [hst] at e; cases e), hW⟩
theorem T_free {i : Nat} {oi : Oper} {v : Value} {n : Nat} {l : Array Bool} {a : Act} {w : World} (hr : Region.ready md ops l = [i]) (hst : (l.setIfInBounds i true).getD st true = true) (hi : ops[i]? = some oi)
    (hy : Yields P ops oi v a) (h : anyT P md ops Q S st n (l.setIfInBounds i true) (a.put oi.dst v) w) : anyT P md ops Q S st (n + 1) l a w := by
  refine ⟨fun e => (by rw [e] at hr; cases hr), fun j hj => ?_⟩
  rw [hr, List.mem_singleton] at hj
  rw [hj]
  exact (Yields.yieldsIf (S := fun _ => True) hy).wpOp hi trivial ⟨fun e => (by rw [hst] at e; cases e), h⟩
theorem T_done {l : Array Bool} {a : Act} {w : World} (hr : Region.ready md ops l = []) (h : Q .normal a w) : ∀ n, anyT P md ops Q S st n l a w
  | 0 => ⟨hr, h⟩
  | _ + 1 => ⟨fun _ => h, by rw [hr]; simp⟩
theorem T_begin (S : World → Prop) (st : Nat) {id : Nat} {a : Act} {w : World} (hm : P.follows .mixedOrders = true) (hS : S w.drew) (h : S w.drew → anyT P .any ops Q S st ops.size (Array.replicate ops.size false) a w.drew) : (Code.region id ops true).wp P Q a w :=
  wp_region_any hm (any_of_T _ _ _ _ (h hS))
end
end Go.Proofs.Ytgjlfcamgkeibaa.Ph

namespace Go.Proofs.Ytgjlfcamgkeibaa.Co
set_option maxRecDepth 100000
set_option linter.unusedVariables false
set_option linter.unusedSimpArgs false
open Go.RowKit Ba Fm Fo Nm Rk
def boundC (c : Cf) : Cf := ⟨c.allow, c.attrsAllow, c.els.take 70, c.reps.take 70, c.ats.take 70, (c.per.take 12).map fun p => ⟨p.el, p.at_.take 70⟩, c.comments, c.dataAttrs⟩
theorem min_named (x m k : Nat) (hk : min x m = k) (M : Int) (hM : M = m) (ts : Array TypeId) (t : TypeId) (w : World) : (Builtin.min_ ts t #[.int .i64 x, .int .i64 M]).run Try.prog w = .ok (.int .i64 k) w := by
  rw [run_min_int2]
  congr 2
  split <;> omega
theorem sx_snoc {w w' : World} {N : Nat} {acc : List Pw} {z : Pw} (h : ∀ y ∈ acc, Sx w N y) (hz : Sx w N z) (hb : Below N w w') : ∀ y ∈ acc ++ [z], Sx w' N y := fun y hy => by
  rcases List.mem_append.1 hy with h1 | h1
  · exact (h y h1).below hb
  · obtain rfl := List.mem_singleton.1 h1
    exact hz.below hb
theorem po_kept {N : Nat} {w W : World} {v : Value} {l : List Pw} (h : Po N w v l) (hs : ∀ z ∈ l, Sx W W.heap.size z) (hk : ∀ b, N ≤ b → b < w.heap.size → W.heap[b]? = w.heap[b]?) (hz : w.heap.size ≤ W.heap.size) : Pv W W.heap.size v l := by
  obtain ⟨A, c, e, h1, _, h2, h3⟩ := h.form
  refine ⟨A, c, e, h1, h2, fun h0 => ?_, hs⟩
  obtain ⟨b, off, eA, hb, hc⟩ := h3.1 h0
  have hN : N ≤ b := (World.ownsRow.lt h.1 b (by rw [e, eA]; simp [Value.ownBlock])).1
  exact ⟨b, off, eA, by omega, fun j hj => range_keep12 (hc j hj) fun o => World.cell?_of_block (a := ⟨b, o, none⟩) (hk b hN hb)⟩
theorem step_min {ops : Array Oper} {o : Oper} {a : Act} {K : Act → World → Prop} {Q : Exit → Act → World → Prop} {E : Prop} (W : World) (hgd : o.guard = none) (x : Operand)
    (ho : o.op = .call { callee := .builtin .min, args := #[x, .const (.int .i64 70)], argTypes := #[3, 3] }) (n m : Nat) (hm : min n 70 = m) (hx : a.eval x = .int .i64 n) (h : K (a.put o.dst (.int .i64 m)) W) :
    if Region.wanted o (yielded ops a.tmps) = true then Oper.wp Try.prog o a W K Q else E := by
  rw [if_pos (show Region.wanted o (yielded ops a.tmps) = true by simp [Region.wanted, hgd])]
  have hrun := fun ts t => min_named n 70 m hm 70 rfl ts t W
  have hc : a.eval (.const (.int .i64 70)) = .int .i64 70 := rfl
  unfold Oper.wp
  simp [execOp, ho, resolve, invoke, builtin, hx, hc, hrun, Result.andThen]
  exact h
theorem sv_takeC {w : World} {N c m : Nat} {A : Option Addr} {l : List ByteArray} (h : Sv w N (.slice A l.length c) l) (k : Nat) (hm : min l.length k = m) : Sv w N (.slice A m c) (l.take k) := by
  obtain ⟨A', c', e, hc, hn, hr⟩ := h
  injection e with e1 e2 e3
  subst e1 e3
  have e : (l.take k).length = m := by rw [List.length_take, Nat.min_comm]; exact hm
  exact ⟨A, c, by rw [e], by rw [e]; omega, hn, hr.take k⟩
theorem cut_snoc {l : List Pw} {k : Nat} {x : Pw} {acc : List Pw} (h : l[k]? = some x) (ha : pes acc = (pes (l.take k)).map fun p => ⟨p.el, p.at_.take 70⟩) (z : Pw) (hz : z.pe = ⟨x.pe.el, x.pe.at_.take 70⟩) : pes (acc ++ [z]) = (pes (l.take (k + 1))).map fun p => ⟨p.el, p.at_.take 70⟩ := by
  have hk : k < l.length := (List.getElem?_eq_some_iff.1 h).1
  have hx : l[k] = x := (List.getElem?_eq_some_iff.1 h).2
  rw [List.take_succ_eq_append_getElem hk, pes_append, pes_append, hx, List.map_append, ha]
  simp [pes, hz]
theorem ap_cut {w : World} {N M : Nat} {x : Pw} (h : Sx w N x) (hN : N ≤ M) (z : Pw) (hA : z.A = x.A) (hz : z.pe.at_.length ≤ x.pe.at_.length) : Ap w M z := fun h0 => by
  obtain ⟨A, c, e, _, _, hr⟩ := h
  injection e with e1 e2 e3
  obtain ⟨b, off, e', hb, _⟩ := hr (by omega)
  exact ⟨b, off, by rw [hA, e1, e'], .inl (by omega)⟩
set_option maxRecDepth 100000 in
set_option maxHeartbeats 2000000 in
theorem bound12 (v : Value) (c : Cf) (w : World) (h : Cv w w.heap.size v c) :
    Calls Try.prog 6 #[v] w fun r w' => ∃ v', r = .returned v' ∧ Cv w' w'.heap.size v' (boundC c) ∧ Below w.heap.size w w' := by
  obtain ⟨vE, vR, vA, vP, l, rfl, h⟩ := h
  obtain ⟨al, aa, els, reps, ats, per, cm, da⟩ := c
  obtain ⟨E, ce, rfl, he1, he2, he3⟩ := h.e
  obtain ⟨R, cr, rfl, hr1, hr2, hr3⟩ := h.r
  obtain ⟨T, ct, rfl, ht1, ht2, ht3⟩ := h.a
  obtain ⟨A, cp, rfl, hp1, hp2, hp3⟩ := h.p
  obtain ⟨n1, hn1⟩ : ∃ n, els.length = n := ⟨_, rfl⟩
  obtain ⟨n2, hn2⟩ : ∃ n, reps.length = n := ⟨_, rfl⟩
  obtain ⟨n3, hn3⟩ : ∃ n, ats.length = n := ⟨_, rfl⟩
  obtain ⟨m1, hm1⟩ : ∃ n, min n1 70 = n := ⟨_, rfl⟩
  obtain ⟨m2, hm2⟩ : ∃ n, min n2 70 = n := ⟨_, rfl⟩
  obtain ⟨m3, hm3⟩ : ∃ n, min n3 70 = n := ⟨_, rfl⟩
  have q1 := fun ts t w => min_named n1 70 m1 hm1 70 rfl ts t w
  have q2 := fun ts t w => min_named n2 70 m2 hm2 70 rfl ts t w
  have q3 := fun ts t w => min_named n3 70 m3 hm3 70 rfl ts t w
  have u1 : m1 ≤ ce := by simp only at he1; omega
  have u2 : m2 ≤ cr := by simp only at hr1; omega
  have u3 : m3 ≤ ct := by simp only at ht1; omega
  simp only
  rw [hn1, hn2, hn3]
  have H0 := Lib.hid h
  clear he1 he2 he3 hr1 hr2 hr3 ht1 ht2 ht3 hp1 hp2 hp3 h
  go_enter Try.func6, Try.ntmps6
  go_upto_region 5 with (fail)
  obtain ⟨w0, hw0⟩ : ∃ w0, (w.alloc (.cells #[.bool al, .bool aa, .slice E m1 ce, .slice R m2 cr, .slice T m3 ct, .slice A l.length cp, .bool cm, .bool da] 26)).alloc (.cells #[.bool false, .bool false, .slice none 0 0, .slice none 0 0, .slice none 0 0, .slice none 0 0, .bool false, .bool false] 26) = w0 := ⟨_, rfl⟩
  rw [hw0]
  have hz0 : w0.heap.size = w.heap.size + 1 + 1 := by rw [← hw0]; simp
  have hb0 : Below w.heap.size w w0 := hw0 ▸ below_two w _ _
  have hh1 : Hb w0 w.heap.size #[.bool al, .bool aa, .slice E m1 ce, .slice R m2 cr, .slice T m3 ct, .slice A l.length cp, .bool cm, .bool da] := hw0 ▸ (Hb.new w _).on (below_new12 _ _)
  have hh2 : Hb w0 (w.heap.size + 1) #[.bool false, .bool false, .slice none 0 0, .slice none 0 0, .slice none 0 0, .slice none 0 0, .bool false, .bool false] := by
    have := Hb.new (w.alloc (.cells #[.bool al, .bool aa, .slice E m1 ce, .slice R m2 cr, .slice T m3 ct, .slice A l.length cp, .bool cm, .bool da] 26)) #[.bool false, .bool false, .slice none 0 0, .slice none 0 0, .slice none 0 0, .slice none 0 0, .bool false, .bool false]
    rw [World.size_alloc] at this
    exact hw0 ▸ this
  have h := H0.out
  have ho0 := Po.made w0
  rw [hz0] at ho0
  obtain ⟨A', cp', e, hp1, hp2, hp3⟩ := h.p
  injection e with e1 e2 e3
  subst e1 e3
  have hlast : Cp w w.heap.size (boundC ⟨al, aa, els, reps, ats, per, cm, da⟩) (.slice E m1 ce) (.slice R m2 cr) (.slice T m3 ct) (.slice none 0 0) [] → True := fun _ => trivial
  have hse := sv_takeC (m := m1) h.e 70 (show min els.length 70 = m1 by rw [hn1]; exact hm1)
  have hsr := sv_takeC (m := m2) h.r 70 (show min reps.length 70 = m2 by rw [hn2]; exact hm2)
  have hst := sv_takeC (m := m3) h.a 70 (show min ats.length 70 = m3 by rw [hn3]; exact hm3)
  have hper : (per.take 12).map (fun p => (⟨p.el, p.at_.take 70⟩ : Pe)) = (pes (l.take 12)).map fun p => ⟨p.el, p.at_.take 70⟩ := by rw [← pes_take]; have := h.m; simp only at this; rw [this]
  have HP := Lib.hid hp3; have HH1 := Lib.hid hh1; have HH2 := Lib.hid hh2; have HB0 := Lib.hid hb0
  have HSE := Lib.hid hse; have HSR := Lib.hid hsr; have HST := Lib.hid hst; have HPER := Lib.hid hper
  clear hw0 hb0 hh1 hh2 h hp3 hlast hse hsr hst hper H0 q1 q2 q3
  go_wp2
  go_loopw [3, 4] (fun v i wr => ∃ (k : Nat) (acc : List Pw), i = .int .i64 k ∧ k ≤ l.length ∧ k ≤ 12 ∧ acc.length = k ∧ Po (w.heap.size + 1 + 1) wr v acc ∧ pes acc = (pes (l.take k)).map (fun p => ⟨p.el, p.at_.take 70⟩) ∧ (∀ z ∈ acc, Sx wr w.heap.size z) ∧ Below w0.heap.size w0 wr) (fun _ i _ => l.length - (intOf i).toNat)
  case atStart => exact ⟨0, [], rfl, Nat.zero_le _, Nat.zero_le _, rfl, ho0, rfl, (fun z hz => by cases hz), below_new12 w0 _⟩
  case round =>
    clear ho0
    obtain ⟨k, acc, rfl, hks, hk12, hal, hown, hpes, hsa, hbel⟩ := hrel
    have hhb1 := HH1.out.below hbel (by omega)
    have g5 := hhb1.cell 5 _ rfl
    have hbw : Below w.heap.size w wr := HB0.out.trans (hbel.mono (by omega))
    have hsz := hbel.size
    by_cases hk : k < l.length
    · by_cases hk2 : k < 12
      · obtain ⟨b, off, x, rfl, hb, hx, hcs, hsx, hxm⟩ := (HP.out.below hbw).at_ k hk
        obtain ⟨k0, k1⟩ := range2p hcs
        obtain ⟨m, hm⟩ : ∃ n, min x.pe.at_.length 70 = n := ⟨_, rfl⟩
        have hmin := fun ts t w => min_named x.pe.at_.length 70 m hm 70 rfl ts t w
        have hif : (if (70 : Int) < (x.pe.at_.length : Int) then (70 : Int) else (x.pe.at_.length : Int)) = (m : Int) := by split <;> omega
        have hmc : m ≤ x.c := by obtain ⟨A', c', e, hc, _, _⟩ := hsx; injection e with e1 e2 e3; omega
        have hlz : (x.pe.at_.take 70).length = m := by rw [List.length_take, Nat.min_comm]; exact hm
        obtain ⟨z, hz⟩ : ∃ z : Pw, z = ⟨⟨x.pe.el, x.pe.at_.take 70⟩, x.A, x.c⟩ := ⟨_, rfl⟩
        have hzv : perO z = .cells #[.string x.pe.el, .slice x.A m x.c] 48 := by rw [hz, ← hlz]
        have hsz1 : Sx wr w.heap.size z := by
          rw [hz]
          unfold Sx
          simp only
          rw [hlz]
          exact sv_takeC hsx 70 hm
        have hap : Ap wr (w.heap.size + 1 + 1) z := ap_cut hsx (by omega) z (by rw [hz]) (by rw [hz]; simp only; rw [hlz]; omega)
        have hpz := cut_snoc hx hpes z (by rw [hz])
        have HO := Lib.hid hown; have HZ1 := Lib.hid (hsz1.more (show w.heap.size ≤ wr.heap.size by omega)); have HAP := Lib.hid hap; have HPZ := Lib.hid hpz; have HZV := Lib.hid hzv; have HBL := Lib.hid hbel; have HAL := Lib.hid hal; have HM := Lib.hid hm; have HSA := Lib.hid hsa; have HZ0 := Lib.hid hsz1
        have hacc : acc.length ≤ 2000000 := by omega
        have hk0 : (0 : Int) ≤ (k : Int) := by omega
        have hk1 : (k : Int) < (l.length : Int) := by omega
        have hk2' : (k : Int) < 12 := by omega
        clear hcs hsx hx hxm hpes hsa hown hbel hbw hsz1 hap hpz hz hzv hhb1 hal hm hlz
        have HBK := Lib.hid (fun wx (hb : Below (w.heap.size + 1 + 1) wr wx) => (show wx.cell? ⟨w.heap.size, 5, none⟩ = some (.slice (some ⟨b, off, none⟩) l.length cp) ∧ wx.cell? ⟨b, off + k * 2, none⟩ = some (.string x.pe.el) ∧ wx.cell? ⟨b, off + k * 2 + 1, none⟩ = some (.slice x.A x.pe.at_.length x.c) from ⟨(hb.cell (p := ⟨w.heap.size, 5, none⟩) (show w.heap.size < w.heap.size + 1 + 1 by omega)).trans g5, (hb.cell (p := ⟨b, off + k * 2, none⟩) (show b < w.heap.size + 1 + 1 by omega)).trans k0, (hb.cell (p := ⟨b, off + k * 2 + 1, none⟩) (show b < w.heap.size + 1 + 1 by omega)).trans k1⟩))
        go_wp2_with fail
        refine wp_region_noPanic ?_
        refine Ph.T_begin (fun wx => wx.cell? ⟨w.heap.size, 5, none⟩ = some (.slice (some ⟨b, off, none⟩) l.length cp) ∧ wx.cell? ⟨b, off + k * 2, none⟩ = some (.string x.pe.el) ∧ wx.cell? ⟨b, off + k * 2 + 1, none⟩ = some (.slice x.A x.pe.at_.length x.c)) 25 (by kernel_rfl) ?_ (fun hHeld => ?_)
        · exact HBK.out _ (bel_eq12 (Below.refl _ wr) rfl rfl rfl rfl)
        refine Ph.T_pure (i := 0) (oi := _) (v := ?_) rfl (by kernel_rfl) (by kernel_rfl) (by kernel_rfl) (by kernel_rfl) (fun _ _ _ h => h) (Or.inl ⟨by rfl, ?_⟩) (by assumption) (fun hHeld => ?_)
        rotate_left
        · intro w hSw; (try dsimp only at hSw); go_simp; all_goals with_reducible rfl
        try simp only [Act.put, List.getElem_toArray, List.getElem_cons_zero, List.getElem_cons_succ, List.setIfInBounds_toArray, List.set_cons_zero, List.set_cons_succ]
        refine Ph.T_pure (i := 1) (oi := _) (v := ?_) rfl (by kernel_rfl) (by kernel_rfl) (by kernel_rfl) (by kernel_rfl) (fun _ _ _ h => h) (Or.inl ⟨by rfl, ?_⟩) (by assumption) (fun hHeld => ?_)
        rotate_left
        · intro w hSw; (try dsimp only at hSw); go_simp; all_goals with_reducible rfl
        try simp only [Act.put, List.getElem_toArray, List.getElem_cons_zero, List.getElem_cons_succ, List.setIfInBounds_toArray, List.set_cons_zero, List.set_cons_succ]
        refine Ph.T_take (i := 2) (oi := _) (v := ?_) rfl (by kernel_rfl) (by kernel_rfl) (by kernel_rfl) (by kernel_rfl) (fun _ _ _ h => h) (Or.inl ⟨by rfl, ?_⟩) (by assumption) (fun hHeld => ?_)
        rotate_left
        · intro w hSw; (try dsimp only at hSw); go_simp; all_goals with_reducible rfl
        try simp only [Act.put, List.getElem_toArray, List.getElem_cons_zero, List.getElem_cons_succ, List.setIfInBounds_toArray, List.set_cons_zero, List.set_cons_succ]
        refine Ph.T_pure (i := 3) (oi := _) (v := ?_) rfl (by kernel_rfl) (by kernel_rfl) (by kernel_rfl) (by kernel_rfl) (fun _ _ _ h => h) (Or.inl ⟨by rfl, ?_⟩) (by assumption) (fun hHeld => ?_)
        rotate_left
        · intro w hSw; (try dsimp only at hSw); go_simp; all_goals with_reducible rfl
        try simp only [Act.put, List.getElem_toArray, List.getElem_cons_zero, List.getElem_cons_succ, List.setIfInBounds_toArray, List.set_cons_zero, List.set_cons_succ]
        refine Ph.T_pure (i := 4) (oi := _) (v := ?_) rfl (by kernel_rfl) (by kernel_rfl) (by kernel_rfl) (by kernel_rfl) (fun _ _ _ h => h) (Or.inl ⟨by rfl, ?_⟩) (by assumption) (fun hHeld => ?_)
        rotate_left
        · intro w hSw; (try dsimp only at hSw); go_simp; all_goals with_reducible rfl
        try simp only [Act.put, List.getElem_toArray, List.getElem_cons_zero, List.getElem_cons_succ, List.setIfInBounds_toArray, List.set_cons_zero, List.set_cons_succ]
        refine Ph.T_pure (i := 5) (oi := _) (v := ?_) rfl (by kernel_rfl) (by kernel_rfl) (by kernel_rfl) (by kernel_rfl) (fun _ _ _ h => h) (Or.inl ⟨by rfl, ?_⟩) (by assumption) (fun hHeld => ?_)
        rotate_left
        · intro w hSw; (try dsimp only at hSw); go_simp; all_goals with_reducible rfl
        try simp only [Act.put, List.getElem_toArray, List.getElem_cons_zero, List.getElem_cons_succ, List.setIfInBounds_toArray, List.set_cons_zero, List.set_cons_succ]
        refine Ph.T_take (i := 6) (oi := _) (v := ?_) rfl (by kernel_rfl) (by kernel_rfl) (by kernel_rfl) (by kernel_rfl) (fun _ _ _ h => h) (Or.inl ⟨by rfl, ?_⟩) (by assumption) (fun hHeld => ?_)
        rotate_left
        · intro w hSw; (try dsimp only at hSw); go_simp; all_goals with_reducible rfl
        try simp only [Act.put, List.getElem_toArray, List.getElem_cons_zero, List.getElem_cons_succ, List.setIfInBounds_toArray, List.set_cons_zero, List.set_cons_succ]
        refine Ph.T_pure (i := 7) (oi := _) (v := ?_) rfl (by kernel_rfl) (by kernel_rfl) (by kernel_rfl) (by kernel_rfl) (fun _ _ _ h => h) (Or.inl ⟨by rfl, ?_⟩) (by assumption) (fun hHeld => ?_)
        rotate_left
        · intro w hSw; (try dsimp only at hSw); go_simp; all_goals with_reducible rfl
        try simp only [Act.put, List.getElem_toArray, List.getElem_cons_zero, List.getElem_cons_succ, List.setIfInBounds_toArray, List.set_cons_zero, List.set_cons_succ]
        refine Ph.T_take (i := 8) (oi := _) (v := ?_) rfl (by kernel_rfl) (by kernel_rfl) (by kernel_rfl) (by kernel_rfl) (fun _ _ _ h => h) (Or.inl ⟨by rfl, ?_⟩) (by assumption) (fun hHeld => ?_)
        rotate_left
        · intro w hSw; (try dsimp only at hSw); go_simp; all_goals with_reducible rfl
        try simp only [Act.put, List.getElem_toArray, List.getElem_cons_zero, List.getElem_cons_succ, List.setIfInBounds_toArray, List.set_cons_zero, List.set_cons_succ]
        refine Ph.T_pure (i := 9) (oi := _) (v := ?_) rfl (by kernel_rfl) (by kernel_rfl) (by kernel_rfl) (by kernel_rfl) (fun _ _ _ h => h) (Or.inl ⟨by rfl, ?_⟩) (by assumption) (fun hHeld => ?_)
        rotate_left
        · intro w hSw; (try dsimp only at hSw); go_simp; all_goals with_reducible rfl
        try simp only [Act.put, List.getElem_toArray, List.getElem_cons_zero, List.getElem_cons_succ, List.setIfInBounds_toArray, List.set_cons_zero, List.set_cons_succ]
        refine Ph.T_pure (i := 10) (oi := _) (v := ?_) rfl (by kernel_rfl) (by kernel_rfl) (by kernel_rfl) (by kernel_rfl) (fun _ _ _ h => h) (Or.inl ⟨by rfl, ?_⟩) (by assumption) (fun hHeld => ?_)
        rotate_left
        · intro w hSw; (try dsimp only at hSw); go_simp; all_goals with_reducible rfl
        try simp only [Act.put, List.getElem_toArray, List.getElem_cons_zero, List.getElem_cons_succ, List.setIfInBounds_toArray, List.set_cons_zero, List.set_cons_succ]
        refine Ph.T_pure (i := 11) (oi := _) (v := ?_) rfl (by kernel_rfl) (by kernel_rfl) (by kernel_rfl) (by kernel_rfl) (fun _ _ _ h => h) (Or.inl ⟨by rfl, ?_⟩) (by assumption) (fun hHeld => ?_)
        rotate_left
        · intro w hSw; (try dsimp only at hSw); go_simp; all_goals with_reducible rfl
        try simp only [Act.put, List.getElem_toArray, List.getElem_cons_zero, List.getElem_cons_succ, List.setIfInBounds_toArray, List.set_cons_zero, List.set_cons_succ]
        refine Ph.T_take (i := 12) (oi := _) (v := ?_) rfl (by kernel_rfl) (by kernel_rfl) (by kernel_rfl) (by kernel_rfl) (fun _ _ _ h => h) (Or.inl ⟨by rfl, ?_⟩) (by assumption) (fun hHeld => ?_)
        rotate_left
        · intro w hSw; (try dsimp only at hSw); go_simp; all_goals with_reducible rfl
        try simp only [Act.put, List.getElem_toArray, List.getElem_cons_zero, List.getElem_cons_succ, List.setIfInBounds_toArray, List.set_cons_zero, List.set_cons_succ]
        refine Ph.T_pure (i := 13) (oi := _) (v := ?_) rfl (by kernel_rfl) (by kernel_rfl) (by kernel_rfl) (by kernel_rfl) (fun _ _ _ h => h) (Or.inl ⟨by rfl, ?_⟩) (by assumption) (fun hHeld => ?_)
        rotate_left
        · intro w hSw; (try dsimp only at hSw); go_simp; all_goals with_reducible rfl
        try simp only [Act.put, List.getElem_toArray, List.getElem_cons_zero, List.getElem_cons_succ, List.setIfInBounds_toArray, List.set_cons_zero, List.set_cons_succ]
        refine Ph.T_take (i := 14) (oi := _) (v := ?_) rfl (by kernel_rfl) (by kernel_rfl) (by kernel_rfl) (by kernel_rfl) (fun _ _ _ h => h) (Or.inl ⟨by rfl, ?_⟩) (by assumption) (fun hHeld => ?_)
        rotate_left
        · intro w hSw; (try dsimp only at hSw); go_simp; all_goals with_reducible rfl
        try simp only [Act.put, List.getElem_toArray, List.getElem_cons_zero, List.getElem_cons_succ, List.setIfInBounds_toArray, List.set_cons_zero, List.set_cons_succ]
        refine Ph.T_pure (i := 15) (oi := _) (v := ?_) rfl (by kernel_rfl) (by kernel_rfl) (by kernel_rfl) (by kernel_rfl) (fun _ _ _ h => h) (Or.inl ⟨by rfl, ?_⟩) (by assumption) (fun hHeld => ?_)
        rotate_left
        · intro w hSw; (try dsimp only at hSw); go_simp; all_goals with_reducible rfl
        try simp only [Act.put, List.getElem_toArray, List.getElem_cons_zero, List.getElem_cons_succ, List.setIfInBounds_toArray, List.set_cons_zero, List.set_cons_succ]
        refine Ph.T_pure (i := 16) (oi := _) (v := ?_) rfl (by kernel_rfl) (by kernel_rfl) (by kernel_rfl) (by kernel_rfl) (fun _ _ _ h => h) (Or.inl ⟨by rfl, ?_⟩) (by assumption) (fun hHeld => ?_)
        rotate_left
        · intro w hSw; (try dsimp only at hSw); go_simp; all_goals with_reducible rfl
        try simp only [Act.put, List.getElem_toArray, List.getElem_cons_zero, List.getElem_cons_succ, List.setIfInBounds_toArray, List.set_cons_zero, List.set_cons_succ]
        refine Ph.T_pure (i := 17) (oi := _) (v := ?_) rfl (by kernel_rfl) (by kernel_rfl) (by kernel_rfl) (by kernel_rfl) (fun _ _ _ h => h) (Or.inl ⟨by rfl, ?_⟩) (by assumption) (fun hHeld => ?_)
        rotate_left
        · intro w hSw; (try dsimp only at hSw); go_simp; all_goals with_reducible rfl
        try simp only [Act.put, List.getElem_toArray, List.getElem_cons_zero, List.getElem_cons_succ, List.setIfInBounds_toArray, List.set_cons_zero, List.set_cons_succ]
        refine Ph.T_take (i := 18) (oi := _) (v := ?_) rfl (by kernel_rfl) (by kernel_rfl) (by kernel_rfl) (by kernel_rfl) (fun _ _ _ h => h) (Or.inl ⟨by rfl, ?_⟩) (by assumption) (fun hHeld => ?_)
        rotate_left
        · intro w hSw; (try dsimp only at hSw); go_simp; all_goals with_reducible rfl
        try simp only [Act.put, List.getElem_toArray, List.getElem_cons_zero, List.getElem_cons_succ, List.setIfInBounds_toArray, List.set_cons_zero, List.set_cons_succ]
        refine Ph.T_pure (i := 19) (oi := _) (v := ?_) rfl (by kernel_rfl) (by kernel_rfl) (by kernel_rfl) (by kernel_rfl) (fun _ _ _ h => h) (Or.inl ⟨by rfl, ?_⟩) (by assumption) (fun hHeld => ?_)
        rotate_left
        · intro w hSw; (try dsimp only at hSw); go_simp; all_goals with_reducible rfl
        try simp only [Act.put, List.getElem_toArray, List.getElem_cons_zero, List.getElem_cons_succ, List.setIfInBounds_toArray, List.set_cons_zero, List.set_cons_succ]
        refine Ph.T_one (i := 20) (o := _) (by kernel_rfl) rfl (fun K hK => ?_)
        refine step_min _ (by rfl) (.tmp 60) (by rfl) _ m HM.out (by simp [Act.eval, Act.put]) ?_
        refine hK.out _ _ ?_ (fun hHeld => ?_)
        · exact HBK.out _ (bel_eq12 (Below.refl _ wr) rfl rfl rfl rfl)
        clear hK K
        try simp only [Act.put, List.getElem_toArray, List.getElem_cons_zero, List.getElem_cons_succ, List.setIfInBounds_toArray, List.set_cons_zero, List.set_cons_succ]
        refine Ph.T_pure (i := 21) (oi := _) (v := ?_) rfl (by kernel_rfl) (by kernel_rfl) (by kernel_rfl) (by kernel_rfl) (fun _ _ _ h => h) (Or.inl ⟨by rfl, ?_⟩) (by assumption) (fun hHeld => ?_)
        rotate_left
        · intro w hSw; (try dsimp only at hSw); go_simp; all_goals with_reducible rfl
        try simp only [Act.put, List.getElem_toArray, List.getElem_cons_zero, List.getElem_cons_succ, List.setIfInBounds_toArray, List.set_cons_zero, List.set_cons_succ]
        refine Ph.T_pure (i := 22) (oi := _) (v := ?_) rfl (by kernel_rfl) (by kernel_rfl) (by kernel_rfl) (by kernel_rfl) (fun _ _ _ h => h) (Or.inl ⟨by rfl, ?_⟩) (by assumption) (fun hHeld => ?_)
        rotate_left
        · intro w hSw; (try dsimp only at hSw); go_simp; all_goals with_reducible rfl
        try simp only [Act.put, List.getElem_toArray, List.getElem_cons_zero, List.getElem_cons_succ, List.setIfInBounds_toArray, List.set_cons_zero, List.set_cons_succ]
        refine Ph.T_one (i := 23) (o := _) (by kernel_rfl) rfl (fun K hK => ?_)
        go_simp
        go_wp2_with fail
        refine hK.out _ _ ?_ (fun hHeld => ?_)
        · exact HBK.out _ (bel_eq12 ((Below.refl (w.heap.size + 1 + 1) wr).alloc (by omega) _) rfl rfl rfl rfl)
        clear hK K
        try simp only [Act.put, List.getElem_toArray, List.getElem_cons_zero, List.getElem_cons_succ, List.setIfInBounds_toArray, List.set_cons_zero, List.set_cons_succ]
        refine Ph.T_one (i := 24) (o := _) (by kernel_rfl) rfl (fun K hK => ?_)
        refine step_app_per _ (by rfl) (.tmp 41) (.tmp 64) (by rfl) wr (w.heap.size + 1 + 1) _ acc z HO.out HZ1.out HAP.out ((grown_drew wr 1 _).trans (World.grownBy_alloc _ _ _)) (by omega) hacc (by simp [Act.eval, Act.put]) wr.heap.size (by simp [Act.eval, Act.put]) (by rw [HZV.out]; exact heap_alloc_new _ _) ?_
        intro v9 w9 ho9 hg9
        have HO9 := Lib.hid ho9
        have hb9 : Below (w.heap.size + 1 + 1) wr w9 := (Below.refl _ wr).grown hg9 (by omega) (fun q hq => (World.ownsRow.lt HO.out.1 q hq).1)
        have HB9 := Lib.hid hb9
        clear hb9 hg9 ho9
        refine hK.out _ _ ?_ (fun hHeld => ?_)
        · exact HBK.out _ HB9.out
        clear hK K
        try simp only [Act.put, List.getElem_toArray, List.getElem_cons_zero, List.getElem_cons_succ, List.setIfInBounds_toArray, List.set_cons_zero, List.set_cons_succ]
        refine Ph.T_free (i := 25) (oi := _) (v := ?_) (by kernel_rfl) (by kernel_rfl) rfl (Or.inl ⟨by rfl, ?_⟩) ?_
        rotate_left
        · intro w; go_simp; all_goals with_reducible rfl
        try simp only [Act.put, List.getElem_toArray, List.getElem_cons_zero, List.getElem_cons_succ, List.setIfInBounds_toArray, List.set_cons_zero, List.set_cons_succ]
        refine Ph.T_done (by kernel_rfl) ?_ _
        refine NoPanic.normal ?_
        go_wp2
        go_roundw
        case rel => exact ⟨k + 1, acc ++ [z], by go_num, by omega, by omega, by rw [List.length_append, HAL.out]; rfl, HO9.out, HPZ.out, sx_snoc HSA.out HZ0.out (HB9.out.mono (by omega)), HBL.out.trans (HB9.out.mono (by omega))⟩
        case measure => simp [intOf]; omega
      · have hfin : pes acc = (per.take 12).map (fun p => (⟨p.el, p.at_.take 70⟩ : Pe)) := by
          obtain rfl : k = 12 := by omega
          rw [HPER.out, hpes]
        have HFIN := Lib.hid hfin; have HOW := Lib.hid hown; have HSA := Lib.hid hsa; have HBL := Lib.hid hbel
        obtain ⟨B, nB, cB, rfl⟩ := po_shape hown
        have hx5 := HH1.out.below hbel (by omega); have hz5 := HH2.out.below hbel (by omega)
        have HX5 := Lib.hid hx5; have HZ5 := Lib.hid hz5; have HBW := Lib.hid hbw
        have hxf := hx5.f 5
        clear hfin hown hsa hbel hpes hx5 hz5 hbw hhb1
        go_upto_region 10 with (fail)
        obtain ⟨W9, hW9⟩ : ∃ W9, wr.setCell ⟨w.heap.size, 5, none⟩ (.slice B nB cB) = W9 := ⟨_, rfl⟩
        have hg9 : wr.grownBy W9 (some w.heap.size) := hW9 ▸ gcell12 wr _ 5 _
        have hx9 : Hb W9 w.heap.size #[.bool al, .bool aa, .slice E m1 ce, .slice R m2 cr, .slice T m3 ct, .slice B nB cB, .bool cm, .bool da] := hW9 ▸ HX5.out.set 5 (.slice B nB cB)
        have hz9 : Hb W9 (w.heap.size + 1) #[.bool false, .bool false, .slice none 0 0, .slice none 0 0, .slice none 0 0, .slice none 0 0, .bool false, .bool false] := HZ5.out.keep (hg9.block _ HZ5.out.lt (by simp))
        rw [hW9]
        have HRG9 := Lib.hid hx9.range; have HTH := Lib.hid (hz9.there 8 rfl)
        clear hW9
        go_wp2_with (first
          | (show wpList _ _ _ (⟨_, Op.load 26 (.tmp 1), _, _, _, _⟩ :: _) _ _; refine wpList_load_mid rfl 26 (.tmp 1) rfl w.heap.size 0 rfl _ _ HRG9.out Try.underlying26 rfl size_conf ?_)
          | (show wpList _ _ _ (⟨none, Op.store 26 (.tmp 2) (.tmp 68), _, _, _, _⟩ :: _) _ _; refine wpList_store_mid rfl 26 (.tmp 2) (.tmp 68) rfl (w.heap.size + 1) 0 #[.bool al, .bool aa, .slice E m1 ce, .slice R m2 cr, .slice T m3 ct, .slice B nB cB, .bool cm, .bool da] rfl rfl HTH.out size_conf (by simp [Value.oneCell']) ?_))
        obtain ⟨W, hW, hgW, hbW⟩ := res_box (c := ⟨al, aa, els, reps, ats, per, cm, da⟩) (vE := .slice E m1 ce) (vR := .slice R m2 cr) (vA := .slice T m3 ct) (vP := .slice B nB cB) hz9 rfl
        obtain ⟨z0, z1, z2, z3, z4, z5, z6, z7⟩ := hbW.at_
        rw [← hW]
        have hsz9 := hg9.size
        have hwW : Below w.heap.size wr W := (((Below.refl w.heap.size wr).grown hg9 (by omega) (fun q hq => by injection hq with hq; omega)).grown hgW (by omega) (fun q hq => by injection hq with hq; omega))
        have hbelW : Below w.heap.size w W := HBW.out.trans (hwW.mono (by omega))
        have hpW : Pv W W.heap.size (.slice B nB cB) acc := po_kept HOW.out (fun z hz => ((HSA.out z hz).below hwW).more hbelW.size) (fun b hb hb2 => (hgW.block b (by omega) (by simp; omega)).trans (hg9.block b hb2 (by simp; omega))) hwW.size
        have hcW : Cp W W.heap.size (boundC ⟨al, aa, els, reps, ats, per, cm, da⟩) (.slice E m1 ce) (.slice R m2 cr) (.slice T m3 ct) (.slice B nB cB) acc := ⟨(Sv.below HSE.out hbelW (Nat.le_refl _)).more hbelW.size, (Sv.below HSR.out hbelW (Nat.le_refl _)).more hbelW.size, (Sv.below HST.out hbelW (Nat.le_refl _)).more hbelW.size, hpW, HFIN.out⟩
        clear hx9 hz9 HRG9 HTH hgW hW hg9 HX5 HZ5 HOW HSA HFIN hwW hpW
        go_wp2
        exact bodyPost_ret (v := .agg #[.bool al, .bool aa, .slice E m1 ce, .slice R m2 cr, .slice T m3 ct, .slice B nB cB, .bool cm, .bool da]) (by simp [results, Try.f6, go_sem, z0, z1, z2, z3, z4, z5, z6, z7]) rfl ⟨_, rfl, ⟨_, _, _, _, _, rfl, hcW⟩, hbelW⟩
    · have hfin : pes acc = (per.take 12).map (fun p => (⟨p.el, p.at_.take 70⟩ : Pe)) := by
        rw [HPER.out, hpes, List.take_of_length_le (show l.length ≤ k by omega), List.take_of_length_le (show l.length ≤ 12 by omega)]
      have HFIN := Lib.hid hfin; have HOW := Lib.hid hown; have HSA := Lib.hid hsa; have HBL := Lib.hid hbel
      obtain ⟨B, nB, cB, rfl⟩ := po_shape hown
      have hx5 := HH1.out.below hbel (by omega); have hz5 := HH2.out.below hbel (by omega)
      have HX5 := Lib.hid hx5; have HZ5 := Lib.hid hz5; have HBW := Lib.hid hbw
      have hxf := hx5.f 5
      clear hfin hown hsa hbel hpes hx5 hz5 hbw hhb1
      go_upto_region 10 with (fail)
      obtain ⟨W9, hW9⟩ : ∃ W9, wr.setCell ⟨w.heap.size, 5, none⟩ (.slice B nB cB) = W9 := ⟨_, rfl⟩
      have hg9 : wr.grownBy W9 (some w.heap.size) := hW9 ▸ gcell12 wr _ 5 _
      have hx9 : Hb W9 w.heap.size #[.bool al, .bool aa, .slice E m1 ce, .slice R m2 cr, .slice T m3 ct, .slice B nB cB, .bool cm, .bool da] := hW9 ▸ HX5.out.set 5 (.slice B nB cB)
      have hz9 : Hb W9 (w.heap.size + 1) #[.bool false, .bool false, .slice none 0 0, .slice none 0 0, .slice none 0 0, .slice none 0 0, .bool false, .bool false] := HZ5.out.keep (hg9.block _ HZ5.out.lt (by simp))
      rw [hW9]
      have HRG9 := Lib.hid hx9.range; have HTH := Lib.hid (hz9.there 8 rfl)
      clear hW9
      go_wp2_with (first
        | (show wpList _ _ _ (⟨_, Op.load 26 (.tmp 1), _, _, _, _⟩ :: _) _ _; refine wpList_load_mid rfl 26 (.tmp 1) rfl w.heap.size 0 rfl _ _ HRG9.out Try.underlying26 rfl size_conf ?_)
        | (show wpList _ _ _ (⟨none, Op.store 26 (.tmp 2) (.tmp 68), _, _, _, _⟩ :: _) _ _; refine wpList_store_mid rfl 26 (.tmp 2) (.tmp 68) rfl (w.heap.size + 1) 0 #[.bool al, .bool aa, .slice E m1 ce, .slice R m2 cr, .slice T m3 ct, .slice B nB cB, .bool cm, .bool da] rfl rfl HTH.out size_conf (by simp [Value.oneCell']) ?_))
      obtain ⟨W, hW, hgW, hbW⟩ := res_box (c := ⟨al, aa, els, reps, ats, per, cm, da⟩) (vE := .slice E m1 ce) (vR := .slice R m2 cr) (vA := .slice T m3 ct) (vP := .slice B nB cB) hz9 rfl
      obtain ⟨z0, z1, z2, z3, z4, z5, z6, z7⟩ := hbW.at_
      rw [← hW]
      have hsz9 := hg9.size
      have hwW : Below w.heap.size wr W := (((Below.refl w.heap.size wr).grown hg9 (by omega) (fun q hq => by injection hq with hq; omega)).grown hgW (by omega) (fun q hq => by injection hq with hq; omega))
      have hbelW : Below w.heap.size w W := HBW.out.trans (hwW.mono (by omega))
      have hpW : Pv W W.heap.size (.slice B nB cB) acc := po_kept HOW.out (fun z hz => ((HSA.out z hz).below hwW).more hbelW.size) (fun b hb hb2 => (hgW.block b (by omega) (by simp; omega)).trans (hg9.block b hb2 (by simp; omega))) hwW.size
      have hcW : Cp W W.heap.size (boundC ⟨al, aa, els, reps, ats, per, cm, da⟩) (.slice E m1 ce) (.slice R m2 cr) (.slice T m3 ct) (.slice B nB cB) acc := ⟨(Sv.below HSE.out hbelW (Nat.le_refl _)).more hbelW.size, (Sv.below HSR.out hbelW (Nat.le_refl _)).more hbelW.size, (Sv.below HST.out hbelW (Nat.le_refl _)).more hbelW.size, hpW, HFIN.out⟩
      clear hx9 hz9 HRG9 HTH hgW hW hg9 HX5 HZ5 HOW HSA HFIN hwW hpW
      go_wp2
      exact bodyPost_ret (v := .agg #[.bool al, .bool aa, .slice E m1 ce, .slice R m2 cr, .slice T m3 ct, .slice B nB cB, .bool cm, .bool da]) (by simp [results, Try.f6, go_sem, z0, z1, z2, z3, z4, z5, z6, z7]) rfl ⟨_, rfl, ⟨_, _, _, _, _, rfl, hcW⟩, hbelW⟩

end Go.Proofs.Ytgjlfcamgkeibaa.Co

namespace Go.Proofs.Ytgjlfcamgkeibaa.Co
set_option linter.unusedSimpArgs false
set_option linter.unusedVariables false
open Ba Fm Fo Nm Rk
abbrev plainEls : List ByteArray := [⟨#[97]⟩, ⟨#[97, 98, 98, 114]⟩, ⟨#[97, 114, 116, 105, 99, 108, 101]⟩, ⟨#[98]⟩, ⟨#[98, 108, 111, 99, 107, 113, 117, 111, 116, 101]⟩, ⟨#[98, 114]⟩, ⟨#[99, 111, 100, 101]⟩, ⟨#[100, 100]⟩, ⟨#[100, 105, 118]⟩, ⟨#[100, 108]⟩, ⟨#[100, 116]⟩, ⟨#[101, 109]⟩, ⟨#[104, 49]⟩, ⟨#[104, 50]⟩, ⟨#[104, 51]⟩, ⟨#[104, 52]⟩, ⟨#[104, 53]⟩, ⟨#[104, 54]⟩, ⟨#[104, 114]⟩, ⟨#[105]⟩, ⟨#[105, 109, 103]⟩, ⟨#[108, 105]⟩, ⟨#[111, 108]⟩, ⟨#[112]⟩, ⟨#[112, 114, 101]⟩, ⟨#[115, 101, 99, 116, 105, 111, 110]⟩, ⟨#[115, 112, 97, 110]⟩, ⟨#[115, 116, 114, 111, 110, 103]⟩, ⟨#[116, 97, 98, 108, 101]⟩, ⟨#[116, 98, 111, 100, 121]⟩, ⟨#[116, 100]⟩, ⟨#[116, 104]⟩, ⟨#[116, 104, 101, 97, 100]⟩, ⟨#[116, 114]⟩, ⟨#[117]⟩, ⟨#[117, 108]⟩]
abbrev plainAts : List ByteArray := [⟨#[97, 108, 116]⟩, ⟨#[99, 108, 97, 115, 115]⟩, ⟨#[100, 105, 114]⟩, ⟨#[104, 101, 105, 103, 104, 116]⟩, ⟨#[105, 100]⟩, ⟨#[108, 97, 110, 103]⟩, ⟨#[116, 105, 116, 108, 101]⟩, ⟨#[119, 105, 100, 116, 104]⟩]
def plainC : Cf := ⟨true, true, plainEls, [], plainAts, [⟨⟨#[97]⟩, [⟨#[104, 114, 101, 102]⟩]⟩, ⟨⟨#[105, 109, 103]⟩, [⟨#[115, 114, 99]⟩]⟩, ⟨⟨#[116, 100]⟩, [⟨#[99, 111, 108, 115, 112, 97, 110]⟩, ⟨#[114, 111, 119, 115, 112, 97, 110]⟩]⟩], false, false⟩
def allC : Cf := ⟨false, false, [], [], [], [], true, false⟩

theorem plain_check : checkN plainC = 0 := by decide +kernel
theorem plain_b : elementN plainC ⟨#[98]⟩ = 0 := by decide +kernel
theorem plain_script : elementN plainC ⟨#[115, 99, 114, 105, 112, 116]⟩ = 1 := by decide +kernel
theorem plain_a_href : attrB12 plainC ⟨#[97]⟩ ⟨#[104, 114, 101, 102]⟩ = true := by decide +kernel
theorem plain_b_href : attrB12 plainC ⟨#[98]⟩ ⟨#[104, 114, 101, 102]⟩ = false := by decide +kernel
theorem all_script : elementN allC ⟨#[115, 99, 114, 105, 112, 116]⟩ = 0 := by decide +kernel
theorem all_onclick : attrB12 allC ⟨#[98]⟩ ⟨#[111, 110, 99, 108, 105, 99, 107]⟩ = true := by decide +kernel
theorem sall_script : elementN (stripC allC) ⟨#[115, 99, 114, 105, 112, 116]⟩ = 1 := by decide +kernel
theorem sall_b : elementN (stripC allC) ⟨#[98]⟩ = 0 := by decide +kernel
theorem c120 : checkN ⟨false, false, [], [], [], [], false, true⟩ = 120 := by decide +kernel
theorem c121 : checkN ⟨false, false, [⟨#[65]⟩], [], [], [], false, false⟩ = 121 := by decide +kernel
theorem c122 : checkN ⟨false, false, [], [], [⟨#[97]⟩, ⟨#[97]⟩], [], false, false⟩ = 122 := by decide +kernel
end Go.Proofs.Ytgjlfcamgkeibaa.Co

namespace Go.Proofs.Ytgjlfcamgkeibaa.Fo
set_option maxRecDepth 100000
set_option linter.unusedSimpArgs false
set_option linter.unusedVariables false
open Go.RowKit Ba Fm
theorem bdx {acc x y : List ByteArray} {a b : List ByteArray} (h : acc ++ mrg lt x y = mrg lt a b) (ha : a.length ≤ 1000000) (hb : b.length ≤ 1000000) (hx : x.length ≤ 1000000) (hy : y.length ≤ 1000000) : (acc.length + x.length) * 16 ≤ 140737488355328 ∧ ((acc ++ x).length + y.length) * 16 ≤ 140737488355328 := by
  have h1 := congrArg List.length h
  have h2 := len_mrg lt a b
  rw [List.length_append] at h1
  rw [List.length_append]
  omega
theorem bdm {acc r : List ByteArray} {x : ByteArray} {a b : List ByteArray} (h : acc ++ x :: r = mrg lt a b) (ha : a.length ≤ 1000000) (hb : b.length ≤ 1000000) : (acc.length + 1) * 16 ≤ 140737488355328 := by
  have h1 := congrArg List.length h
  have h2 := len_mrg lt a b
  rw [List.length_append, List.length_cons] at h1
  omega
set_option maxRecDepth 100000 in
set_option maxHeartbeats 2000000 in
theorem merged_any (va vb : Value) (a b : List ByteArray) (w : World) (hva : Sv w w.heap.size va a) (hvb : Sv w w.heap.size vb b) (hla : a.length ≤ 1000000) (hlb : b.length ≤ 1000000) :
    Calls Try.prog 78 #[va, vb] w fun e w' => ∃ v, e = .returned v ∧ Sown w.heap.size w' v (mrg lt a b) ∧ Below w.heap.size w w' := by
  obtain ⟨i0, hi, hz0, hz1, hz2⟩ := info_parts info_str
  obtain ⟨A, ca, rfl, hca, hna, hra⟩ := hva
  obtain ⟨C, cb, rfl, hcb, hnb, hrb⟩ := hvb
  go_enter Try.func78, Try.ntmps78
  go_wp2_with (at_make; refine wpList_make_own _ rfl (.const (.int .i64 0)) (.tmp 10) 23 rfl w.heap.size 9 i0 (.string .empty) 1 Try.underlying23 hi hz0 hz1 .i64 .i64 _ (a.length + b.length) rfl rfl (by simp) (by rw [hz2]; omega) (by unfold maxLen; omega) (Nat.le_refl _) ?_; intro w1 hown hgrow)
  have hb0 : Below w.heap.size w w1 := (Below.refl w.heap.size w).grown hgrow (Nat.le_refl _) (by simp)
  have ho0 : Sown w.heap.size w1 (.slice (some ⟨w.heap.size, 0, none⟩) 0 (a.length + b.length)) [] := hown
  clear hown hgrow
  go_loopw [0, 1, 5] (fun xa xb v wr => ∃ (x y acc : List ByteArray), Sv w w.heap.size xa x ∧ Sv w w.heap.size xb y ∧ x.length ≤ 1000000 ∧ y.length ≤ 1000000 ∧ Sown w.heap.size wr v acc ∧ acc ++ mrg lt x y = mrg lt a b ∧ Below w.heap.size w wr) (fun xa xb _ _ => lenOf xa + lenOf xb)
  case atStart => exact ⟨a, b, [], ⟨A, ca, rfl, hca, hna, hra⟩, ⟨C, cb, rfl, hcb, hnb, hrb⟩, hla, hlb, ho0, rfl, hb0⟩
  case round =>
    clear ho0 hb0 hra hrb hca hcb hna hnb
    obtain ⟨x, y, acc, ⟨D, cd, rfl, hcd, hnd, hrd⟩, ⟨E, ce, rfl, hce, hne, hre⟩, hlx, hly, hown, hc, hbel⟩ := hrel
    have hN := hbel.size
    cases x with
    | nil =>
      obtain ⟨k1, k2⟩ := bdx hc hla hlb hlx hly
      rw [mrg_nil] at hc
      have HC := Lib.hid hc; clear hc
      simp only [List.length_nil] at hcd hlx k1 ⊢
      go_wp2_with (first | (at_builtin; refine app_all wr rfl (.tmp 54) (.tmp 55) rfl w.heap.size _ acc [] D cd w.heap.size rfl hown rfl hnd (Rd.nil _ _ _) k1 hN ?_; intro v3 w3 hown3 hk3 _) | (at_builtin; refine app_all w3 rfl (.tmp 57) (.tmp 58) rfl w.heap.size _ (acc ++ []) y E ce w.heap.size rfl hown3 rfl hne (hre.below (hk3 _ hbel) (Nat.le_refl _)) k2 (hk3 _ hbel).size ?_; intro v4 w4 hown4 hk4 _))
      go_ret
      exact ⟨v4, rfl, by rw [← HC.out, ← List.append_nil acc]; exact hown4, hk4 _ (hk3 _ hbel)⟩
    | cons p x =>
    cases y with
    | nil =>
      obtain ⟨k1, k2⟩ := bdx hc hla hlb hlx hly
      rw [mrg_nil'] at hc
      have HC := Lib.hid hc; clear hc
      simp only [List.length_nil, List.length_cons] at hcd hce hlx hly k1 k2 ⊢
      have hlen : (p :: x).length = x.length + 1 := rfl
      go_wp2_with (first | (at_builtin; refine app_all wr rfl (.tmp 54) (.tmp 55) rfl w.heap.size _ acc (p :: x) D cd w.heap.size rfl hown rfl hnd (hrd.below hbel (Nat.le_refl _)) k1 hN ?_; intro v3 w3 hown3 hk3 _) | (at_builtin; refine app_all w3 rfl (.tmp 57) (.tmp 58) rfl w.heap.size _ (acc ++ p :: x) [] E ce w.heap.size rfl hown3 rfl hne (Rd.nil _ _ _) k2 (hk3 _ hbel).size ?_; intro v4 w4 hown4 hk4 _))
      go_ret
      exact ⟨v4, rfl, by rw [← HC.out, ← List.append_nil (acc ++ p :: x)]; exact hown4, hk4 _ (hk3 _ hbel)⟩
    | cons q y =>
      have hrd0 := hrd
      have hre0 := hre
      obtain ⟨b1, o1, rfl, hb1, hc1⟩ := hrd (by simp)
      obtain ⟨b2, o2, rfl, hb2, hc2⟩ := hre (by simp)
      have g1 : wr.cell? ⟨b1, o1, none⟩ = some (.string p) := (hbel.cell (p := ⟨b1, o1, none⟩) hb1).trans (hc1 0 (by simp))
      have g2 : wr.cell? ⟨b2, o2, none⟩ = some (.string q) := (hbel.cell (p := ⟨b2, o2, none⟩) hb2).trans (hc2 0 (by simp))
      have hxt := sv_tail hrd0 hcd
      have hyt := sv_tail hre0 hce
      have hxs : Sv w w.heap.size (.slice (some ⟨b1, o1, none⟩) (x.length + 1) cd) (p :: x) := ⟨_, cd, rfl, hcd, hnd, hrd0⟩
      have hys : Sv w w.heap.size (.slice (some ⟨b2, o2, none⟩) (y.length + 1) ce) (q :: y) := ⟨_, ce, rfl, hce, hne, hre0⟩
      simp only [List.length_cons] at hcd hce hlx hly ⊢
      have HX := Lib.hid hxt; have HY := Lib.hid hyt; have HXS := Lib.hid hxs; have HYS := Lib.hid hys
      clear hxt hyt hxs hys hc1 hc2 hrd hre hrd0 hre0 hnd hne
      cases h1 : lt p q with
      | true =>
        rw [mrg_lt _ _ h1] at hc
        have hbd := bdm hc hla hlb
        have HC := Lib.hid hc; clear hc
        have h1' : Op.bytesLess p.toList q.toList = true := h1
        clear h1
        go_wp2
        go_quiet (fail)
        have hbel3 := below_dN hbel nq
        go_wp2_with (at_builtin; refine app_one (wr.drewN nq) rfl (.tmp 30) (.tmp 34) rfl w.heap.size _ acc p rfl (sown_dN hown nq) rfl hbd hbel3.size ?_; intro v3 w3 hown3 hk3 _)
        go_roundw
        case rel => exact ⟨x, q :: y, acc ++ [p], HX.out, HYS.out, by omega, by simp; omega, hown3, by rw [List.append_assoc]; exact HC.out, hk3 _ hbel3⟩
        case measure => simp [lenOf]
      | false =>
        have h1' : Op.bytesLess p.toList q.toList = false := h1
        cases h2 : lt q p with
        | true =>
          rw [mrg_gt _ _ h1 h2] at hc
          have hbd := bdm hc hla hlb
          have HC := Lib.hid hc; clear hc
          have h2' : Op.bytesLess q.toList p.toList = true := h2
          clear h1 h2
          go_wp2
          go_quiet (fail)
          obtain ⟨w6, hw6⟩ : ∃ w6, wr.drewN nq = w6 := ⟨_, rfl⟩
          have hbel3 : Below w.heap.size w w6 := hw6 ▸ below_dN hbel nq
          have hown6 : Sown w.heap.size w6 _ acc := hw6 ▸ sown_dN hown nq
          have g1' : w6.cell? ⟨b1, o1, none⟩ = some (.string p) := hw6 ▸ g1
          have g2' : w6.cell? ⟨b2, o2, none⟩ = some (.string q) := hw6 ▸ g2
          rw [hw6]
          clear hw6
          go_wp2
          go_quiet (fail)
          have hbel4 := below_dN hbel3 nq
          go_wp2_with (at_builtin; refine app_one (w6.drewN nq) rfl (.tmp 46) (.tmp 50) rfl w.heap.size _ acc q rfl (sown_dN hown6 nq) rfl hbd hbel4.size ?_; intro v3 w3 hown3 hk3 _)
          go_roundw
          case rel => exact ⟨p :: x, y, acc ++ [q], HXS.out, HY.out, by simp; omega, by omega, hown3, by rw [List.append_assoc]; exact HC.out, hk3 _ hbel4⟩
          case measure => simp [lenOf]
        | false =>
          rw [mrg_eq _ _ h1 h2] at hc
          have HC := Lib.hid hc; clear hc
          have h2' : Op.bytesLess q.toList p.toList = false := h2
          clear h1 h2
          go_wp2
          go_quiet (fail)
          obtain ⟨w6, hw6⟩ : ∃ w6, wr.drewN nq = w6 := ⟨_, rfl⟩
          have hbel3 : Below w.heap.size w w6 := hw6 ▸ below_dN hbel nq
          have hown6 : Sown w.heap.size w6 _ acc := hw6 ▸ sown_dN hown nq
          have g1' : w6.cell? ⟨b1, o1, none⟩ = some (.string p) := hw6 ▸ g1
          have g2' : w6.cell? ⟨b2, o2, none⟩ = some (.string q) := hw6 ▸ g2
          rw [hw6]
          clear hw6
          go_wp2
          go_quiet (fail)
          have hbel4 := below_dN hbel3 nq
          go_wp2
          go_roundw
          case rel => exact ⟨x, q :: y, acc, HX.out, HYS.out, by omega, by simp; omega, sown_dN hown6 nq, HC.out, hbel4⟩
          case measure => simp [lenOf]

end Go.Proofs.Ytgjlfcamgkeibaa.Fo

namespace Go.Proofs.Ytgjlfcamgkeibaa.Fo
set_option maxRecDepth 100000
set_option linter.unusedSimpArgs false
set_option linter.unusedVariables false
open Go.RowKit Ba Fm
set_option maxHeartbeats 400000 in
theorem less_any (p q b off n c m : Nat) (x s : ByteArray) (w : World) (hm : m < n) (hn : n ≤ 8796093022208)
    (h1 : w.cell? ⟨p, 0, none⟩ = some (.slice (some ⟨b, off, none⟩) n c)) (h2 : w.cell? ⟨q, 0, none⟩ = some (.string s)) (h3 : w.cell? ⟨b, off + m, none⟩ = some (.string x)) :
    Calls Try.prog 107 #[.int .i64 m, .pointer (some ⟨p, 0, none⟩), .pointer (some ⟨q, 0, none⟩)] w fun e w' => e = .returned (.bool (lt x s)) ∧ Below w.heap.size w w' := by
  have hk0 : (0 : Int) ≤ (m : Int) := by omega
  have hk1 : (m : Int) < (n : Int) := by omega
  go_enter Try.func107, Try.ntmps107
  go_wp2
  go_quiet (fail)
  go_wp2
  go_ret
  exact ⟨rfl, below_dN (Below.refl _ _) _⟩
def Kn (l : List ByteArray) (s : ByteArray) (lo hi : Nat) : Prop :=
  (∀ i, (h : i < l.length) → i < lo → lt l[i] s = true) ∧ (∀ i, (h : i < l.length) → hi ≤ i → lt l[i] s = false)
theorem Kn.end_ {l : List ByteArray} {s : ByteArray} {k : Nat} (h : Kn l s k k) (hk : k ≤ l.length) : below lt l s = k :=
  below_of hk (fun i hi => h.1 i (by omega) hi) fun i hki hi => h.2 i hi hki
theorem Kn.found {l : List ByteArray} {s : ByteArray} {k : Nat} (h : Kn l s k k) (ha : Asc lt l) (hk : k < l.length) : decide (l[k] = s) = isIn s l := by
  have := found_of ord_lt (fun i hi hik => h.1 i hi hik) ha hk (h.2 k hk (Nat.le_refl _))
  by_cases e : l[k] = s
  · rw [decide_eq_true e, isIn_yes (this.1 e)]
  · rw [decide_eq_false e, isIn_no fun q => e (this.2 q)]
theorem Kn.none_ {l : List ByteArray} {s : ByteArray} {k : Nat} (h : Kn l s k k) (hk : ¬ k < l.length) : isIn s l = false :=
  isIn_no (notfound_of ord_lt fun i hi => h.1 i hi (by omega))
set_option maxHeartbeats 1000000 in
theorem find_any (A : Option Addr) (c : Nat) (l : List ByteArray) (s : ByteArray) (w : World) (hr : Rd w w.heap.size A l) (hl : l.length ≤ 8796093022208) (ha : Asc lt l) :
    Calls Try.prog 79 #[.slice A l.length c, .string s] w fun e w' => e = .returned (.tuple #[.int .i64 (below lt l s), .bool (isIn s l)]) ∧ Below w.heap.size w w' := by
  have hmf : ∀ (fn : Fn) (first cap : Array Value) (w : World), (Instr.makeFunc fn first cap).run Try.prog w = .ok (.func fn first cap) w := fun _ _ _ _ => rfl
  obtain ⟨w0, hw0⟩ : ∃ w0, (w.alloc (.cells #[.slice A l.length c] 23)).alloc (.cells #[.string s] 9) = w0 := ⟨_, rfl⟩
  have hz : w0.heap.size = w.heap.size + 2 := by rw [← hw0]; simp
  have hb0 : Below w.heap.size w w0 := by rw [← hw0]; exact ((Below.refl _ _).alloc (Nat.le_refl _) _).alloc (by simp) _
  have hc1 : w0.cell? ⟨w.heap.size, 0, none⟩ = some (.slice A l.length c) := by
    rw [← hw0, World.cell?_alloc_past _ _ _ (by simp), World.cell?_alloc_at _ _ _ _ rfl]; rfl
  have hc2 : w0.cell? ⟨w.heap.size + 1, 0, none⟩ = some (.string s) := by
    rw [← hw0, World.cell?_alloc_at _ _ _ _ (by simp)]; rfl
  have HW := Lib.hid hw0; clear hw0
  have HZ := Lib.hid hz; clear hz
  go_enter Try.func79, Try.ntmps79
  go_wp2
  rw [HW.out]
  go_quiet (fail)
  go_wp2
  clear hmf
  generalize hw1 : w0.drewN nq = w1
  have hb1 : Below w0.heap.size w0 w1 := by rw [← hw1]; exact below_dN (Below.refl _ _) _
  clear hw1
  go_loopw [7, 8, 9] (fun lo hi _ wr => ∃ i j : Nat, lo = .int .i64 i ∧ hi = .int .i64 j ∧ i ≤ j ∧ j ≤ l.length ∧ Kn l s i j ∧ Below w0.heap.size w0 wr) (fun lo hi _ _ => (intOf hi).toNat - (intOf lo).toNat)
  case atStart => exact ⟨0, l.length, rfl, rfl, Nat.zero_le _, Nat.le_refl _, ⟨fun i _ h => absurd h (by omega), fun i h h' => absurd h (by omega)⟩, hb1⟩
  case round =>
    obtain ⟨i, j, rfl, rfl, hij, hjl, hkn, hbel⟩ := hrel
    have HK := Lib.hid hkn; clear hkn
    have g1 : wr.cell? ⟨w.heap.size, 0, none⟩ = some (.slice A l.length c) := (hbel.cell (p := ⟨w.heap.size, 0, none⟩) (by have := HZ.out; simp; omega)).trans hc1
    have g2 : wr.cell? ⟨w.heap.size + 1, 0, none⟩ = some (.string s) := (hbel.cell (p := ⟨w.heap.size + 1, 0, none⟩) (by have := HZ.out; simp; omega)).trans hc2
    clear hc1 hc2 hb1
    by_cases hlt : i < j
    · obtain ⟨b, off, rfl, hb2, hc⟩ := hr (by omega)
      have hmid : i + (j - i) / 2 < l.length := by omega
      have g3 : wr.cell? ⟨b, off + (i + (j - i) / 2), none⟩ = some (.string l[i + (j - i) / 2]) := (hbel.cell (p := ⟨b, off + (i + (j - i) / 2), none⟩) (by have := HZ.out; simp; omega)).trans ((hb0.cell (p := ⟨b, off + (i + (j - i) / 2), none⟩) hb2).trans (hc _ hmid))
      have hup : lt l[i + (j - i) / 2] s = true → Kn l s (i + (j - i) / 2 + 1) j := fun h => ⟨fun x hx hxl => low_of ord_lt ha hmid h (by omega), HK.out.2⟩
      have hdn : lt l[i + (j - i) / 2] s = false → Kn l s i (i + (j - i) / 2) := fun h => ⟨HK.out.1, fun x hx hxl => high_of ord_lt ha hmid h hxl hx⟩
      have HU := Lib.hid hup; have HD := Lib.hid hdn; clear hup hdn hc hr hb2
      obtain ⟨m, hm⟩ : ∃ m, i + (j - i) / 2 = m := ⟨_, rfl⟩
      have HM := Lib.hid hm
      have hmi : (i : Int) + ((j : Int) - i) / 2 = (m : Int) := by omega
      have hmj : i ≤ m ∧ m < j := by omega
      obtain ⟨hmi1, hmj1⟩ := hmj
      clear hm
      simp only [HM.out] at hmid g3 HU HD
      have HMI := Lib.hid hmi; clear hmi
      cases hq : lt l[m] s with
      | true =>
        have HQ := Lib.hid hq; clear hq
        go_wp2_with fail
        rw [HMI.out]
        refine (less_any w.heap.size (w.heap.size + 1) b off l.length c m l[m] s _ hmid hl g1 g2 g3).mono ?_
        rw [HQ.out]
        rintro e w2 ⟨rfl, hb3⟩
        go_wp2
        go_roundw
        case rel => exact ⟨m + 1, j, by go_num, rfl, by omega, hjl, HU.out HQ.out, hbel.trans (hb3.mono hbel.size)⟩
        case measure => simp [intOf]; omega
      | false =>
        have HQ := Lib.hid hq; clear hq
        go_wp2_with fail
        rw [HMI.out]
        refine (less_any w.heap.size (w.heap.size + 1) b off l.length c m l[m] s _ hmid hl g1 g2 g3).mono ?_
        rw [HQ.out]
        rintro e w2 ⟨rfl, hb3⟩
        go_wp2
        go_roundw
        case rel => exact ⟨i, m, rfl, by go_num, by omega, by omega, HD.out HQ.out, hbel.trans (hb3.mono hbel.size)⟩
        case measure => simp [intOf]; omega
    · obtain rfl : i = j := by omega
      have hfin : below lt l s = i := HK.out.end_ hjl
      have HF := Lib.hid hfin; clear hfin hij hlt
      by_cases hp : i < l.length
      · obtain ⟨b, off, rfl, hb2, hc⟩ := hr (by omega)
        have g3 : wr.cell? ⟨b, off + i, none⟩ = some (.string l[i]) := (hbel.cell (p := ⟨b, off + i, none⟩) (by have := HZ.out; simp; omega)).trans ((hb0.cell (p := ⟨b, off + i, none⟩) hb2).trans (hc _ hp))
        have hfd := HK.out.found ha hp
        have HFD := Lib.hid hfd; clear hfd hc hr
        have hk0 : (0 : Int) ≤ (i : Int) := by omega
        have hk1 : (i : Int) < (l.length : Int) := by omega
        have hk2 : decide (i < l.length) = true := decide_eq_true hp
        go_wp2
        go_quiet (fail)
        go_wp2
        go_ret2
        refine ⟨?_, hb0.trans ((below_dN hbel _).mono hb0.size)⟩
        rw [HF.out, ← HFD.out, eq_of_toList]
        rfl
      · have hfd := HK.out.none_ hp
        have HFD := Lib.hid hfd; clear hfd
        have hk1 : decide (i < l.length) = false := decide_eq_false hp
        go_wp2
        go_quiet (fail)
        go_wp2
        go_ret2
        refine ⟨?_, hb0.trans ((below_dN hbel _).mono hb0.size)⟩
        rw [HF.out, HFD.out]
        rfl

end Go.Proofs.Ytgjlfcamgkeibaa.Fo

namespace Go.Proofs.Ytgjlfcamgkeibaa.Fo
set_option maxRecDepth 100000
set_option linter.unusedSimpArgs false
set_option linter.unusedVariables false
open Go.RowKit Ba Fm
set_option maxHeartbeats 1000000 in
theorem sorted_small (v : Value) (l : List ByteArray) (w : World) (hv : Sv w w.heap.size v l) (hl : l.length < 2) :
    Calls Try.prog 41 #[v] w fun e w' => ∃ v', e = .returned v' ∧ Sown w.heap.size w' v' (srt lt l) ∧ Below w.heap.size w w' := by
  obtain ⟨A, c, rfl, hc, hn, hr⟩ := hv
  have hs := srt_small ord_lt hl
  have HS := Lib.hid hs; clear hs
  go_enter Try.func41, Try.ntmps41
  go_wp2_with (at_builtin; refine app_all w rfl (.const (.slice none 0 0)) (.tmp 7) rfl w.heap.size (.slice none 0 0) [] l A c w.heap.size rfl (Sown.nil _ _) rfl hn hr (by simp; omega) (Nat.le_refl _) ?_; intro v3 w3 hown3 hk3 _)
  go_ret
  exact ⟨v3, rfl, by rw [← HS.out]; exact hown3, hk3 _ (Below.refl _ _)⟩
theorem sv_take {w : World} {N c m : Nat} {A : Option Addr} {l : List ByteArray} (hr : Rd w N A l) (hc : l.length ≤ c) (hn : A = none → c = 0) (hm : m ≤ l.length) : Sv w N (.slice A m c) (l.take m) :=
  ⟨A, c, by rw [List.length_take, Nat.min_eq_left hm], by rw [List.length_take]; omega, hn, hr.take m⟩
theorem sv_drop {w : World} {N c m b o : Nat} {l : List ByteArray} (hr : Rd w N (some ⟨b, o, none⟩) l) (hc : l.length ≤ c) (hm : m ≤ l.length) : Sv w N (.slice (if c = m then some ⟨b, o, none⟩ else some ⟨b, o + m, none⟩) (l.length - m) (c - m)) (l.drop m) := by
  refine ⟨_, c - m, by rw [List.length_drop], by rw [List.length_drop]; omega, fun e => ?_, ?_⟩
  · split at e <;> cases e
  · have := hr.drop m c hc
    simp only [Option.map_some, WideShapes.add_plain] at this
    exact this
set_option maxHeartbeats 2000000 in
theorem sorted_big (n : Nat) (ih : ∀ (l : List ByteArray), l.length < n → ∀ (v : Value) (w : World), Sv w w.heap.size v l → l.length ≤ 1000000 → Calls Try.prog 41 #[v] w fun e w' => ∃ v', e = .returned v' ∧ Sown w.heap.size w' v' (srt lt l) ∧ Below w.heap.size w w')
    (l : List ByteArray) (hn : l.length = n) (hb : 2 ≤ n) (v : Value) (w : World) (hv : Sv w w.heap.size v l) (hl : l.length ≤ 1000000) :
    Calls Try.prog 41 #[v] w fun e w' => ∃ v', e = .returned v' ∧ Sown w.heap.size w' v' (srt lt l) ∧ Below w.heap.size w w' := by
  subst hn
  obtain ⟨A, c, rfl, hc, hna, hr⟩ := hv
  obtain ⟨m, hm⟩ : ∃ m, l.length / 2 = m := ⟨_, rfl⟩
  have hmi : (l.length : Int) / 2 = (m : Int) := by omega
  have hm1 : 1 ≤ m ∧ m < l.length := by omega
  obtain ⟨hm1, hm2⟩ := hm1
  have hh := srt_halves ord_lt l m
  have hr0 := hr
  obtain ⟨b, o, rfl, hbb, _⟩ := hr0 (by omega)
  have h1 := sv_take hr hc hna (Nat.le_of_lt hm2)
  have h2 := sv_drop hr hc (Nat.le_of_lt hm2)
  rw [if_neg (by omega)] at h2
  have i1 := ih (l.take m) (by rw [List.length_take]; omega)
  have i2 := ih (l.drop m) (by rw [List.length_drop]; omega)
  have l1 : (l.take m).length ≤ 1000000 := by rw [List.length_take]; omega
  have l2 : (l.drop m).length ≤ 1000000 := by rw [List.length_drop]; omega
  have l1' := Nat.le_trans (len_srt lt (l.take m)) l1
  have l2' := Nat.le_trans (len_srt lt (l.drop m)) l2
  have HMI := Lib.hid hmi; have HH := Lib.hid hh; have H1 := Lib.hid h1; have H2 := Lib.hid h2; have I1 := Lib.hid i1; have I2 := Lib.hid i2
  clear hmi hh h1 h2 i1 i2 ih hm hr hna
  go_enter Try.func41, Try.ntmps41
  go_wp2
  simp only [HMI.out]
  go_region_with (first
    | (go_at_call_of 41 (Value.slice (some (⟨b, o, none⟩ : Addr)) m c); refine (I1.out _ _ ?_ l1).mono ?_; exact H1.out; rintro e w1 ⟨v1, rfl, ho1, hb1⟩)
    | (go_at_call 41; refine (I2.out _ w1 ?_ l2).mono ?_; exact (H2.out.below (w := w.drew) hb1 (Nat.le_refl _)).more hb1.size; rintro e w2 ⟨v2, rfl, ho2, hb2⟩)
    | (go_at_call 78; refine (merged_any _ _ _ _ w2 ?_ ?_ l1' l2').mono ?_; exact sv_own (ho1.below hb2 (Nat.le_refl _)); exact sv_own ho2; rintro e w3 ⟨v3, rfl, ho3, hb3⟩))
  all_goals (try go_wp2)
  all_goals go_ret
  all_goals exact ⟨v3, rfl, by rw [← HH.out]; exact ho3.mono (Nat.le_trans (by exact hb1.size) hb2.size), (Below.refl w.heap.size w).drew.trans (hb1.trans ((hb2.mono hb1.size).trans (hb3.mono (Nat.le_trans hb1.size hb2.size))))⟩
theorem sorted_all : ∀ (n : Nat) (l : List ByteArray), l.length < n → ∀ (v : Value) (w : World), Sv w w.heap.size v l → l.length ≤ 1000000 → Calls Try.prog 41 #[v] w fun e w' => ∃ v', e = .returned v' ∧ Sown w.heap.size w' v' (srt lt l) ∧ Below w.heap.size w w'
  | 0, l, h, _, _, _, _ => absurd h (by omega)
  | n + 1, l, h, v, w, hv, hl => by
    by_cases h2 : l.length < 2
    · exact sorted_small v l w hv h2
    · exact sorted_big l.length (fun m hm v w hv hl => sorted_all n m (by omega) v w hv hl) l rfl (by omega) v w hv hl
theorem sorted_any (v : Value) (l : List ByteArray) (w : World) (hv : Sv w w.heap.size v l) (hl : l.length ≤ 1000000) :
    Calls Try.prog 41 #[v] w fun e w' => ∃ v', e = .returned v' ∧ Sown w.heap.size w' v' (srt lt l) ∧ Below w.heap.size w w' :=
  sorted_all (l.length + 1) l (Nat.lt_succ_self _) v w hv hl
set_option maxHeartbeats 2000000 in
theorem minus_any (va vb : Value) (l m : List ByteArray) (w : World) (hva : Sv w w.heap.size va l) (hvb : Sv w w.heap.size vb m) (hl : l.length ≤ 1000000) (hm : m.length ≤ 1000000) :
    Calls Try.prog 45 #[va, vb] w fun e w' => ∃ v, e = .returned v ∧ Sown w.heap.size w' v (mns l m) ∧ Below w.heap.size w w' := by
  obtain ⟨A, ca, rfl, hca, hna, hra⟩ := hva
  have hls := len_srt lt m
  have hsr := (srt_is ord_lt m).1
  have hin : ∀ x, isIn x (srt lt m) = isIn x m := fun x => isIn_congr ((srt_is ord_lt m).2 x)
  have HS := Lib.hid hsr; have HI := Lib.hid hin; clear hsr hin
  go_enter Try.func45, Try.ntmps45
  go_wp2_with fail
  refine (sorted_any vb m _ hvb hm).mono ?_
  rintro e w1 ⟨v1, rfl, ho1, hb1⟩
  have hs1 := sv_own ho1
  obtain ⟨D, cd, rfl, hcd, hnd, hrd⟩ := hs1
  go_wp2_with fail
  go_loopw [5, 8, 9, 10, 15] (fun v _ _ _ i wr => ∃ k : Nat, i = .int .i64 k ∧ k ≤ l.length ∧ Sown w1.heap.size wr v (mns (l.take k) m) ∧ Below w1.heap.size w1 wr) (fun _ _ _ _ i _ => l.length - (intOf i).toNat)
  case atStart => exact ⟨0, rfl, Nat.zero_le _, Sown.nil _ _, Below.refl _ _⟩
  case round =>
    obtain ⟨k, rfl, hks, hown, hbel⟩ := hrel
    have hN := hbel.size
    by_cases hp : k < l.length
    · obtain ⟨b, off, rfl, hbb, hc⟩ := hra (by omega)
      have hcell : wr.cell? ⟨b, off + k, none⟩ = some (.string l[k]) := (hbel.cell (p := ⟨b, off + k, none⟩) (by have := hb1.size; simp; omega)).trans ((hb1.cell (p := ⟨b, off + k, none⟩) hbb).trans (hc k hp))
      have hbd : ((mns (l.take k) m).length + 1) * 16 ≤ 140737488355328 := by
        have := len_mns (l.take k) m
        rw [List.length_take] at this
        omega
      have hrd' := (hrd.below hbel (Nat.le_refl _)).more hN
      have hsn := take_snocS l k hp
      have hin := HI.out l[k]
      clear hc hra
      cases hq : isIn l[k] m with
      | true =>
        rw [hq] at hin
        have hmn := mns_yes (l.take k) m _ hq
        rw [← hsn] at hmn
        rw [← hmn] at hown
        have HQ := Lib.hid hin; clear hin hq hsn hmn
        go_wp2_with fail
        refine (find_any D cd (srt lt m) l[k] wr hrd' (by omega) HS.out).mono ?_
        rw [HQ.out]
        rintro e w2 ⟨rfl, hb2⟩
        have hown2 := hown.below hb2 (Nat.le_refl _)
        have hbel2 := hbel.trans (hb2.mono hN)
        go_wp2
        go_roundw
        case rel => exact ⟨k + 1, by go_num, by omega, hown2, hbel2⟩
        case measure => simp [intOf]; omega
      | false =>
        rw [hq] at hin
        have hmn := mns_no (l.take k) m _ hq
        rw [← hsn] at hmn
        have HQ := Lib.hid hin; have HM := Lib.hid hmn; clear hin hq hsn hmn
        go_wp2_with fail
        refine (find_any D cd (srt lt m) l[k] wr hrd' (by omega) HS.out).mono ?_
        rw [HQ.out]
        rintro e w2 ⟨rfl, hb2⟩
        have hown2 := hown.below hb2 (Nat.le_refl _)
        have hbel2 := hbel.trans (hb2.mono hN)
        go_wp2_with (at_builtin; refine app_one w2 rfl (.tmp 27) (.tmp 29) rfl w1.heap.size _ (mns (l.take k) m) l[k] rfl hown2 rfl hbd hbel2.size ?_; intro v3 w3 hown3 hk3 _)
        go_roundw
        case rel => exact ⟨k + 1, by go_num, by omega, by rw [HM.out]; exact hown3, hk3 _ hbel2⟩
        case measure => simp [intOf]; omega
    · go_wp2
      go_ret
      rw [List.take_of_length_le (by omega)] at hown
      exact ⟨_, rfl, hown.mono hb1.size, bt hb1 hbel⟩

end Go.Proofs.Ytgjlfcamgkeibaa.Fo

namespace Go.Proofs.Ytgjlfcamgkeibaa.Fo
set_option maxRecDepth 100000
set_option linter.unusedSimpArgs false
set_option linter.unusedVariables false
open Go.RowKit Ba Fm
set_option maxHeartbeats 1000000 in
theorem refMinus_any (A C : Option Addr) (c d : Nat) (l m : List ByteArray) (w : World) (hr : Rd w w.heap.size A l) (hq : Rd w w.heap.size C m) (hl : l.length ≤ 1000000) (hm : m.length ≤ 1000000) :
    Calls Try.prog 38 #[.slice A l.length c, .slice C m.length d] w fun e w' => ∃ v, e = .returned v ∧ Sown w.heap.size w' v (mns l m) ∧ Below w.heap.size w w' := by
  have ho0 := Sown.made w
  go_enter Try.func38, Try.ntmps38
  go_wp2
  go_loopw [5, 6] (fun v i wr => ∃ k : Nat, i = .int .i64 k ∧ k ≤ l.length ∧ Sown w.heap.size wr v (mns (l.take k) m) ∧ Below w.heap.size w wr) (fun _ i _ => l.length - (intOf i).toNat)
  case atStart => exact ⟨0, rfl, Nat.zero_le _, ho0, (Below.refl _ _).alloc (Nat.le_refl _) _⟩
  case round =>
    clear ho0
    obtain ⟨k, rfl, hks, hown, hbel⟩ := hrel
    have hN := hbel.size
    by_cases hp : k < l.length
    · obtain ⟨b, off, rfl, hb1, hc⟩ := hr (by omega)
      have hcell : wr.cell? ⟨b, off + k, none⟩ = some (.string l[k]) := (hbel.cell (p := ⟨b, off + k, none⟩) hb1).trans (hc k hp)
      have hq' := hq.below hbel (Nat.le_refl _)
      have hbd : ((mns (l.take k) m).length + 1) * 16 ≤ 140737488355328 := by
        have := len_mns (l.take k) m
        rw [List.length_take] at this
        omega
      clear hc hr
      have hsn := take_snocS l k hp
      cases hin : isIn l[k] m with
      | true =>
        have hmn := mns_yes (l.take k) m _ hin
        rw [← hsn] at hmn
        rw [← hmn] at hown
        have HI := Lib.hid hin; clear hin hsn hmn
        go_wp2_with (go_at_call 61; refine (has_any C d w.heap.size m l[k] _ hq' (by omega)).mono ?_; rw [HI.out]; rintro e w' ⟨rfl, rfl⟩)
        go_roundw
        case rel => exact ⟨k + 1, by go_num, by omega, hown, hbel⟩
        case measure => simp [intOf]; omega
      | false =>
        have hmn := mns_no (l.take k) m _ hin
        rw [← hsn] at hmn
        have HI := Lib.hid hin; have HM := Lib.hid hmn; clear hin hsn hmn
        go_wp2_with (first | (go_at_call 61; refine (has_any C d w.heap.size m l[k] _ hq' (by omega)).mono ?_; rw [HI.out]; rintro e w' ⟨rfl, rfl⟩) | (at_builtin; refine app_one wr rfl (.tmp 21) (.tmp 26) rfl w.heap.size _ (mns (l.take k) m) l[k] rfl hown rfl hbd hN ?_; intro v2 w2 hown2 hk2 _))
        go_roundw
        case rel => exact ⟨k + 1, by go_num, by omega, by rw [HM.out]; exact hown2, hk2 _ hbel⟩
        case measure => simp [intOf]; omega
    · go_wp2
      go_ret
      refine ⟨_, rfl, ?_, hbel⟩
      rw [List.take_of_length_le (by omega)] at hown
      exact hown
theorem insL_lt (x y : ByteArray) (l : List ByteArray) (h : lt x y = true) : insL lt x false (y :: l) = x :: y :: l := by unfold insL; rw [if_pos h]
theorem insL_ge (x y : ByteArray) (l : List ByteArray) (h : lt x y = false) : insL lt x false (y :: l) = y :: insL lt x false l :=
  (show insL lt x false (y :: l) = if lt x y = true then x :: y :: l else y :: insL lt x false l from rfl).trans (if_neg (by simp [h]))
theorem drop_consS (l : List ByteArray) (k : Nat) (h : k < l.length) : l.drop k = l[k] :: l.drop (k + 1) := List.drop_eq_getElem_cons h
theorem bdi {acc r : List ByteArray} {x : ByteArray} {p : Bool} {y : ByteArray} {o : List ByteArray} (h : acc ++ x :: r = insL lt y p o) (ho : o.length ≤ 1000000) : (acc.length + 1) * 16 ≤ 140737488355328 := by
  have h1 := congrArg List.length h
  have h2 := len_insL lt y p o
  rw [List.length_append, List.length_cons] at h1
  omega
set_option maxRecDepth 100000 in
set_option maxHeartbeats 2000000 in
theorem refSorted_any (A : Option Addr) (c : Nat) (l : List ByteArray) (w : World) (hr : Rd w w.heap.size A l) (hl : l.length ≤ 1000000) :
    Calls Try.prog 36 #[.slice A l.length c] w fun e w' => ∃ v, e = .returned v ∧ Sown w.heap.size w' v (srt lt l) ∧ Below w.heap.size w w' := by
  have ho0 := Sown.made w
  go_enter Try.func36, Try.ntmps36
  go_wp2
  go_loopw [3, 4, 5, 6, 7] (fun v i _ _ _ wr => ∃ k : Nat, i = .int .i64 k ∧ k ≤ l.length ∧ Sown w.heap.size wr v (srt lt (l.take k)) ∧ Below w.heap.size w wr) (fun _ i _ _ _ _ => l.length - (intOf i).toNat)
  case atStart => exact ⟨0, rfl, Nat.zero_le _, ho0, (Below.refl _ _).alloc (Nat.le_refl _) _⟩
  case round =>
    clear ho0
    obtain ⟨w5, hw5⟩ : ∃ x, x = wr := ⟨_, rfl⟩
    subst hw5
    obtain ⟨k, rfl, hks, hown, hbel⟩ := hrel
    have hN := hbel.size
    by_cases hp : k < l.length
    · obtain ⟨b, off, rfl, hb1, hc⟩ := hr (by omega)
      have hsn := srt_snoc lt (l.take k) l[k]
      rw [← take_snocS l k hp] at hsn
      have HSN := Lib.hid hsn; clear hsn
      have hcw := hc k hp
      clear hc hr
      have hlo := len_srt lt (l.take k)
      rw [List.length_take] at hlo
      generalize srt lt (l.take k) = o at *
      have holen : o.length ≤ 1000000 := by omega
      clear hlo
      generalize hx : l[k] = x at *
      clear hx
      obtain ⟨D, dc, rfl, hdc, hdm, hrd⟩ := hown.form
      have hrd1 := hrd.alloc (Nat.le_refl _) (.cells #[] 9)
      have hcell1 : (w5.alloc (.cells #[] 9)).cell? ⟨b, off + k, none⟩ = some (.string x) := ((hbel.alloc hN _).cell (p := ⟨b, off + k, none⟩) hb1).trans hcw
      go_wp2_with (go_at_call 61; refine (has_any D dc w5.heap.size o x _ hrd1 (by omega)).mono ?_; rintro e w' ⟨rfl, rfl⟩)
      have hon0 : Sown w5.heap.size (w5.alloc (.cells #[] 9)) (.slice (some ⟨w5.heap.size, 0, none⟩) 0 0) [] := Sown.made w5
      have hbn0 : Below w5.heap.size w5 (w5.alloc (.cells #[] 9)) := (Below.refl _ _).alloc (Nat.le_refl _) _
      clear hrd1 hcell1
      have hin : ∀ p, isIn x o = p → insL lt x p o = ins lt x o := fun p h => by unfold ins; rw [h]
      have HIN := Lib.hid (hin _ rfl); clear hin
      generalize isIn x o = p0 at *
      go_loopw [5, 6, 7] (fun v pt i wr => ∃ (j : Nat) (p : Bool) (acc : List ByteArray), pt = .bool p ∧ i = .int .i64 j ∧ j ≤ o.length ∧ Sown w5.heap.size wr v acc ∧ acc ++ insL lt x p (o.drop j) = insL lt x p0 o ∧ Below w5.heap.size w5 wr) (fun _ _ i _ => o.length - (intOf i).toNat)
      case atStart => exact ⟨0, p0, [], rfl, rfl, Nat.zero_le _, hon0, rfl, hbn0⟩
      case round =>
        clear hon0 hbn0
        obtain ⟨j, p, acc, rfl, rfl, hjo, hown2, hacc, hbel2⟩ := hrel
        have hN2 := hbel2.size
        have hcx : wr.cell? ⟨b, off + k, none⟩ = some (.string x) := (hbel2.cell (p := ⟨b, off + k, none⟩) (by simp; omega)).trans ((hbel.cell (p := ⟨b, off + k, none⟩) hb1).trans hcw)
        by_cases hj : j < o.length
        · obtain ⟨b', off', rfl, hb2, hco⟩ := hrd (by omega)
          have hcj : wr.cell? ⟨b', off' + j, none⟩ = some (.string o[j]) := (hbel2.cell (p := ⟨b', off' + j, none⟩) hb2).trans (hco j hj)
          have hcj0 := hco j hj
          clear hco hrd
          rw [drop_consS o j hj] at hacc
          cases p with
          | true =>
            rw [insL_true, ← insL_true lt x (o.drop (j + 1))] at hacc
            have hbd := bdi hacc holen
            have HA := Lib.hid hacc; clear hacc
            go_wp2
            go_quiet (fail)
            have hbel3 := below_dN hbel2 nq
            go_wp2_with (at_builtin; refine app_one (wr.drewN nq) rfl (.tmp 48) (.tmp 53) rfl w5.heap.size _ acc o[j] rfl (sown_dN hown2 nq) rfl hbd hbel3.size ?_; intro v3 w3 hown3 hk3 _)
            go_roundw
            case rel => exact ⟨j + 1, true, acc ++ [o[j]], rfl, by go_num, by omega, hown3, by rw [List.append_assoc]; exact HA.out, hk3 _ hbel3⟩
            case measure => simp [intOf]; omega
          | false =>
            have hk0 : (0 : Int) ≤ (j : Int) := by omega
            have hk1 : (j : Int) < (o.length : Int) := by omega
            have hk2 : (0 : Int) ≤ (k : Int) := by omega
            have hk3 : (k : Int) < (l.length : Int) := by omega
            cases hlt : lt x o[j] with
            | true =>
              rw [insL_lt _ _ _ hlt] at hacc
              have hbd := bdi hacc holen
              have hacc' : (acc ++ [x]) ++ o[j] :: o.drop (j + 1) = insL lt x p0 o := by rw [List.append_assoc]; exact hacc
              have hbd' := bdi hacc' holen
              have HA := Lib.hid hacc'; clear hacc hacc'
              have hlt' : Op.bytesLess x.toList o[j].toList = true := hlt
              clear hlt
              go_wp2
              go_quiet (fail)
              have hbel3 := below_dN hbel2 nq
              go_wp2_with (first | (at_builtin; refine app_one (wr.drewN nq) rfl (.tmp 41) (.tmp 46) rfl w5.heap.size _ acc x rfl (sown_dN hown2 nq) rfl hbd hbel3.size ?_; intro v3 w3 hown3 hk3 _; have hcj3 : w3.cell? ⟨b', off' + j, none⟩ = some (.string o[j]) := ((hk3 _ hbel3).cell (p := ⟨b', off' + j, none⟩) hb2).trans hcj0) | (at_builtin; refine app_one w3 rfl (.tmp 48) (.tmp 53) rfl w5.heap.size _ (acc ++ [x]) o[j] rfl hown3 rfl hbd' (hk3 _ hbel3).size ?_; intro v4 w4 hown4 hk4 _))
              go_roundw
              case rel => exact ⟨j + 1, true, acc ++ [x] ++ [o[j]], rfl, by go_num, by omega, hown4, by rw [insL_true, List.append_assoc]; exact HA.out, hk4 _ (hk3 _ hbel3)⟩
              case measure => simp [intOf]; omega
            | false =>
              rw [insL_ge _ _ _ hlt] at hacc
              have hbd := bdi hacc holen
              have HA := Lib.hid hacc; clear hacc
              have hlt' : Op.bytesLess x.toList o[j].toList = false := hlt
              clear hlt
              go_wp2
              go_quiet (fail)
              have hbel3 := below_dN hbel2 nq
              go_wp2_with (at_builtin; refine app_one (wr.drewN nq) rfl (.tmp 48) (.tmp 53) rfl w5.heap.size _ acc o[j] rfl (sown_dN hown2 nq) rfl hbd hbel3.size ?_; intro v3 w3 hown3 hk3 _)
              go_roundw
              case rel => exact ⟨j + 1, false, acc ++ [o[j]], rfl, by go_num, by omega, hown3, by rw [List.append_assoc]; exact HA.out, hk3 _ hbel3⟩
              case measure => simp [intOf]; omega
        · rw [List.drop_eq_nil_of_le (by omega)] at hacc
          cases p with
          | true =>
            rw [insL_true, List.append_nil] at hacc
            have HA := Lib.hid hacc; clear hacc
            go_wp2
            go_roundw
            case rel => exact ⟨k + 1, by go_num, by omega, by rw [HSN.out, ← HIN.out, ← HA.out]; exact hown2.mono hN, hbel.trans (hbel2.mono hN)⟩
            case measure => simp [intOf]; omega
          | false =>
            have hacc' : acc ++ [x] = insL lt x p0 o := hacc
            have hbd := bdi hacc' holen
            have HA := Lib.hid hacc'; clear hacc hacc'
            go_wp2_with (at_builtin; refine app_one wr rfl (.tmp 57) (.tmp 62) rfl w5.heap.size _ acc x rfl hown2 rfl hbd hbel2.size ?_; intro v3 w3 hown3 hk3 _)
            go_roundw
            case rel => exact ⟨k + 1, by go_num, by omega, by rw [HSN.out, ← HIN.out, ← HA.out]; exact hown3.mono hN, hbel.trans ((hk3 _ hbel2).mono hN)⟩
            case measure => simp [intOf]; omega
    · go_wp2
      go_ret
      refine ⟨_, rfl, ?_, hbel⟩
      rw [List.take_of_length_le (by omega)] at hown
      exact hown

end Go.Proofs.Ytgjlfcamgkeibaa.Fo

namespace Go.Proofs.Ytgjlfcamgkeibaa.Rk
set_option maxRecDepth 100000
set_option linter.unusedVariables false
set_option linter.unusedSimpArgs false
open Go.RowKit Ba Fm
theorem eqlit (s : ByteArray) (l : List UInt8) : (s.toList == l) = decide (s = ⟨l.toArray⟩) := by
  rw [← ByteArray.toList_mk l, eq_of_toList, ByteArray.toList_mk]
theorem never_or (e : ByteArray) (b0 b1 b2 b3 b4 b5 b6 b7 : Bool) (h0 : (e.toList == [98, 97, 115, 101]) = b0) (h1 : (e.toList == [101, 109, 98, 101, 100]) = b1) (h2 : (e.toList == [102, 114, 97, 109, 101]) = b2) (h3 : (e.toList == [105, 102, 114, 97, 109, 101]) = b3) (h4 : (e.toList == [108, 105, 110, 107]) = b4) (h5 : (e.toList == [109, 101, 116, 97]) = b5) (h6 : (e.toList == [111, 98, 106, 101, 99, 116]) = b6) (h7 : (e.toList == [115, 99, 114, 105, 112, 116]) = b7) : (b0 || b1 || b2 || b3 || b4 || b5 || b6 || b7) = neverB e := by
  rw [eqlit] at h0 h1 h2 h3 h4 h5 h6 h7
  subst h0 h1 h2 h3 h4 h5 h6 h7
  unfold neverB isIn unsafeL
  rw [Bool.eq_iff_iff]
  simp [or_assoc]
set_option maxRecDepth 100000 in
theorem element1 (e : ByteArray) (w : World) (q : Bool) (hq : neverB e = q) :
    Calls Try.prog 80 #[.string e] w fun r w' => r = .returned (.bool q) ∧ w = w' := by
  obtain ⟨b0, h0⟩ : ∃ b, (e.toList == [98, 97, 115, 101]) = b := ⟨_, rfl⟩
  obtain ⟨b1, h1⟩ : ∃ b, (e.toList == [101, 109, 98, 101, 100]) = b := ⟨_, rfl⟩
  obtain ⟨b2, h2⟩ : ∃ b, (e.toList == [102, 114, 97, 109, 101]) = b := ⟨_, rfl⟩
  obtain ⟨b3, h3⟩ : ∃ b, (e.toList == [105, 102, 114, 97, 109, 101]) = b := ⟨_, rfl⟩
  obtain ⟨b4, h4⟩ : ∃ b, (e.toList == [108, 105, 110, 107]) = b := ⟨_, rfl⟩
  obtain ⟨b5, h5⟩ : ∃ b, (e.toList == [109, 101, 116, 97]) = b := ⟨_, rfl⟩
  obtain ⟨b6, h6⟩ : ∃ b, (e.toList == [111, 98, 106, 101, 99, 116]) = b := ⟨_, rfl⟩
  obtain ⟨b7, h7⟩ : ∃ b, (e.toList == [115, 99, 114, 105, 112, 116]) = b := ⟨_, rfl⟩
  have HQ := Lib.hid ((never_or e b0 b1 b2 b3 b4 b5 b6 b7 h0 h1 h2 h3 h4 h5 h6 h7).trans hq)
  clear hq
  go_enter Try.func80, Try.ntmps80
  cases b0 with
  | true =>
    go_wp2
    go_ret
    exact ⟨ret_bool (by rw [← HQ.out]; simp), rfl⟩
  | false =>
  cases b1 with
  | true =>
    go_wp2
    go_ret
    exact ⟨ret_bool (by rw [← HQ.out]; simp), rfl⟩
  | false =>
  cases b2 with
  | true =>
    go_wp2
    go_ret
    exact ⟨ret_bool (by rw [← HQ.out]; simp), rfl⟩
  | false =>
  cases b3 with
  | true =>
    go_wp2
    go_ret
    exact ⟨ret_bool (by rw [← HQ.out]; simp), rfl⟩
  | false =>
  cases b4 with
  | true =>
    go_wp2
    go_ret
    exact ⟨ret_bool (by rw [← HQ.out]; simp), rfl⟩
  | false =>
  cases b5 with
  | true =>
    go_wp2
    go_ret
    exact ⟨ret_bool (by rw [← HQ.out]; simp), rfl⟩
  | false =>
  cases b6 with
  | true =>
    go_wp2
    go_ret
    exact ⟨ret_bool (by rw [← HQ.out]; simp), rfl⟩
  | false =>
  cases b7 with
  | true =>
    go_wp2
    go_ret
    exact ⟨ret_bool (by rw [← HQ.out]; simp), rfl⟩
  | false =>
  go_wp2
  go_ret
  exact ⟨ret_bool (by rw [← HQ.out]; rfl), rfl⟩

end Go.Proofs.Ytgjlfcamgkeibaa.Rk

namespace Go.Proofs.Ytgjlfcamgkeibaa.Co
set_option maxRecDepth 100000
set_option linter.unusedVariables false
set_option linter.unusedSimpArgs false
open Go.RowKit Ba Fm Fo Nm Rk
theorem copied1 (v : Value) (l : List ByteArray) (w : World) (hv : Sv w w.heap.size v l) (hl : l.length ≤ 1000000) :
    Calls Try.prog 43 #[v] w fun e w' => ∃ v', e = .returned v' ∧ Sown w.heap.size w' v' l ∧ Below w.heap.size w w' := by
  obtain ⟨A, c, rfl, hc, hn, hr⟩ := hv
  go_enter Try.func43, Try.ntmps43
  go_wp2_with (at_builtin; refine app_all w rfl (.const (.slice none 0 0)) (.tmp 3) rfl w.heap.size (.slice none 0 0) [] l A c w.heap.size rfl (Sown.nil _ _) rfl hn hr (by simp; omega) (Nat.le_refl _) ?_; intro v3 w3 hown3 hk3 _)
  go_ret
  exact ⟨v3, rfl, hown3, hk3 _ (Below.refl _ _)⟩
set_option maxHeartbeats 1000000 in
theorem safe12 (v : Value) (l : List ByteArray) (w : World) (hv : Sv w w.heap.size v l) (hl : l.length ≤ 1000000) :
    Calls Try.prog 44 #[v] w fun e w' => ∃ v', e = .returned v' ∧ Sown w.heap.size w' v' (mns l unsafeL) ∧ Below w.heap.size w w' := by
  obtain ⟨A, c, rfl, hc, hn, hr⟩ := hv
  go_enter Try.func44, Try.ntmps44
  go_wp2
  go_loopw [3, 5, 8] (fun v _ i wr => ∃ k : Nat, i = .int .i64 k ∧ k ≤ l.length ∧ Sown w.heap.size wr v (mns (l.take k) unsafeL) ∧ Below w.heap.size w wr) (fun _ _ i _ => l.length - (intOf i).toNat)
  case atStart => exact ⟨0, rfl, Nat.zero_le _, Sown.nil _ _, Below.refl _ _⟩
  case round =>
    obtain ⟨k, rfl, hks, hown, hbel⟩ := hrel
    have hN := hbel.size
    by_cases hp : k < l.length
    · obtain ⟨b, off, rfl, hb1, hc⟩ := hr (by omega)
      have hcell : wr.cell? ⟨b, off + k, none⟩ = some (.string l[k]) := (hbel.cell (p := ⟨b, off + k, none⟩) hb1).trans (hc k hp)
      have hbd : ((mns (l.take k) unsafeL).length + 1) * 16 ≤ 140737488355328 := by
        have := len_mns (l.take k) unsafeL
        rw [List.length_take] at this
        omega
      clear hc hr
      have hsn := take_snocS l k hp
      cases hin : isIn l[k] unsafeL with
      | true =>
        have hmn := mns_yes (l.take k) unsafeL _ hin
        rw [← hsn] at hmn
        rw [← hmn] at hown
        have HI := Lib.hid hin; clear hin hsn hmn
        go_wp2_with (go_at_call 80; refine (Rk.element1 l[k] _ true HI.out).mono ?_; rintro e w' ⟨rfl, rfl⟩)
        go_roundw
        case rel => exact ⟨k + 1, by go_num, by omega, hown, hbel⟩
        case measure => simp [intOf]; omega
      | false =>
        have hmn := mns_no (l.take k) unsafeL _ hin
        rw [← hsn] at hmn
        have HI := Lib.hid hin; have HM := Lib.hid hmn; clear hin hsn hmn
        go_wp2_with (first | (go_at_call 80; refine (Rk.element1 l[k] _ false HI.out).mono ?_; rintro e w' ⟨rfl, rfl⟩) | (at_builtin; refine app_one wr rfl (.tmp 15) (.tmp 17) rfl w.heap.size _ (mns (l.take k) unsafeL) l[k] rfl hown rfl hbd hN ?_; intro v2 w2 hown2 hk2 _))
        go_roundw
        case rel => exact ⟨k + 1, by go_num, by omega, by rw [HM.out]; exact hown2, hk2 _ hbel⟩
        case measure => simp [intOf]; omega
    · go_wp2
      go_ret
      refine ⟨_, rfl, ?_, hbel⟩
      rw [List.take_of_length_le (by omega)] at hown
      exact hown
theorem own_lit12 (w : World) (l : List ByteArray) (hl : l.length ≤ 1000) : Sown w.heap.size (w.alloc (.cells (l.map sc).toArray 9)) (.slice (some ⟨w.heap.size, 0, none⟩) l.length l.length) l :=
  World.ownsRow_lit w (l.map sc).toArray l.length (Nat.le_refl _) (by unfold maxLen; omega) (by simp)
theorem neverSafe1 (w : World) : Calls Try.prog 46 #[] w fun r w' => ∃ v', r = .returned v' ∧ Sown w.heap.size w' v' unsafeL ∧ Below w.heap.size w w' := by
  have hs := own_lit12 w unsafeL (by decide)
  have hb := below_new12 w (.cells (unsafeL.map sc).toArray 9)
  go_enter Try.func46, Try.ntmps46
  go_wp2
  go_ret
  exact ⟨_, rfl, hs, hb⟩
theorem unsafe12 (w : World) : Calls Try.prog 39 #[] w fun r w' => ∃ v', r = .returned v' ∧ Sown w.heap.size w' v' unsafeL ∧ Below w.heap.size w w' := by
  have hs := own_lit12 w unsafeL (by decide)
  have hb := below_new12 w (.cells (unsafeL.map sc).toArray 9)
  go_enter Try.func39, Try.ntmps39
  go_wp2
  go_ret
  exact ⟨_, rfl, hs, hb⟩
theorem refMinus1 (va vb : Value) (l m : List ByteArray) (w : World) (ha : Sv w w.heap.size va l) (hb : Sv w w.heap.size vb m) (hl : l.length ≤ 1000000) (hm : m.length ≤ 1000000) :
    Calls Try.prog 38 #[va, vb] w fun e w' => ∃ v, e = .returned v ∧ Sown w.heap.size w' v (mns l m) ∧ Below w.heap.size w w' := by
  obtain ⟨A, c, rfl, _, _, hr⟩ := ha
  obtain ⟨C, d, rfl, _, _, hq⟩ := hb
  exact refMinus_any A C c d l m w hr hq hl hm
theorem refSorted1 (v : Value) (l : List ByteArray) (w : World) (h : Sv w w.heap.size v l) (hl : l.length ≤ 1000000) :
    Calls Try.prog 36 #[v] w fun e w' => ∃ v, e = .returned v ∧ Sown w.heap.size w' v (srt lt l) ∧ Below w.heap.size w w' := by
  obtain ⟨A, c, rfl, _, _, hr⟩ := h
  exact refSorted_any A c l w hr hl

end Go.Proofs.Ytgjlfcamgkeibaa.Co
