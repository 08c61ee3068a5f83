/-
  Walks of stage 4: boltingref04.Same.
  Walks of stage 4: placeOf.
  Walks of stage 4: nums; Kids and its reference out of range; Take, Drop.
  Walks of stage 4: Put and its reference.
  Walks of stage 4: the reference's Put.
  A value that reads as rows (Rv), and the contracts of Check, Same, Normal over it.
  Walks of stage 4: the fixed rows.
  Walks of stage 4: the fixed samples.
  Stage 4, plain: what right rows are; the parent in two ways.
  Arguments that are slices of structs, or structs, as a statement's row reads them: for rows, tokens and whatever has attributes.
  Stage 4: arguments that are rows, as the statement's row reads them.
  The laws of stage 4, walked: Checks.
  Stage 4: the contracts, over values that read as rows (Rv).
  The laws of stage 4, walked: Normal.
  Stage 4, plain: texts joined: right rows stay right, the same text, joined again they stay.
  Stage 4, plain: a node's tree alone, and the rows without it.
  Stage 4, plain: kids, one behind the other; each row is the kid of its parent alone.
  Plain mathematics of stage 13: rows of which some go with all they have, some are replaced by what they have, some stay with some of their attributes. It speaks of no program.
  Plain mathematics of stage 13: texts joined, from behind; joined ahead of filtering, or not, all comes to the same. It speaks of no program.
  Slices of strings in memory: what a slice reads as, and a slice of the call's own. For every stage.
  Plain mathematics for stage 2: lists that rise in a strict order, merging, inserting, counting; spaces, words and small letters of bytes. Nothing of the program stands here.
  Slices of strings as values: reading (Sv), of the call's own (Sown), literals, stores; the order of strings. For every stage from 5 on.
  The elements that are never safe. It speaks of no program.
  Plain mathematics for stage 5: the lists of elements, what each closes and what ends the search, texts that may be names. Nothing of the program stands here.
  Plain mathematics of stage 12 (configurations): which may be, what is in order, what is never safe taken out, what is kept. It speaks of no program.
  What is plain: the configuration, and what it keeps. It speaks of no program.
  Plain mathematics of stage 9 (addresses): what is ignored of an address, its scheme, bytes for their marks; what follows for the laws. It speaks of no program.
  Plain mathematics of stage 10 (what can execute scripts): handlers, pairs of an element and an attribute, sinks, safe nodes and trees; what follows for the laws. It speaks of no program.
  Plain mathematics of stage 13: what a configuration keeps of rows, safely or not; what follows of it for the laws. It speaks of no program.
  Each string that a statement's row reads is within the reach.
  What a statement's row says of the sizes of strings that lie within slices of structs: each is no greater than the reach.
  Plain mathematics of stage 13: the error and the rows that Rows answers. It speaks of no program.
  Plain mathematics of stage 3 (character references): what a number, a name and a reference stand for; a text decoded; a text written out; what follows for the laws. It speaks of no program.
-/
import Derived.Test.YtgjlfcamgkeibaaGreatDoorCk01
import Derived.Deep.CutRange
import Derived.Deep.RegionHeld3
import Derived.Shelf.RegionOpen
import Derived.Laws.MakeOwn
import Derived.Deep.DeepCutAuto
import Derived.Test.YtgjlfcamgkeibaaGreatDoorRows
import Derived.Deep.Slices
import Derived.Deep.Fields
import Derived.ChangeSame
import Derived.ProofKit
import Derived.Carry
import Derived.Lib.SmallJoins
import Derived.Deep.QuietTactic
import Derived.BigQuiet
import Derived.SizedLaws
namespace Go.Proofs.YtgjlfcamgkeibaaGreatDoor.Ro
set_option maxRecDepth 100000
set_option linter.unusedVariables false
set_option linter.unusedSimpArgs false
open Go.RowKit Ba
theorem two_boxes (w : World) (x y : Cw) : ((w.alloc (rowO x)).alloc (rowO y)).drew.rangeAt w.heap.size 0 (cells x) ∧ ((w.alloc (rowO x)).alloc (rowO y)).drew.rangeAt (w.heap.size + 1) 0 (cells y) ∧ Below w.heap.size w ((w.alloc (rowO x)).alloc (rowO y)).drew := by
  have hb : Below w.heap.size w ((w.alloc (rowO x)).alloc (rowO y)) := (below_new w (rowO x)).alloc (by simp) _
  refine ⟨fun j v hv => ?_, fun j v hv => ?_, below_dN hb 1⟩
  · rw [Nat.zero_add]
    refine Eq.trans ?_ hv
    exact (World.cell?_alloc_lt _ _ ⟨w.heap.size, j, none⟩ (by simp)).trans (box_at w x j)
  · rw [Nat.zero_add]
    refine Eq.trans ?_ hv
    have e : w.heap.size + 1 = (w.alloc (rowO x)).heap.size := by simp
    rw [e]
    exact box_at (w.alloc (rowO x)) y j
theorem range5z {w : World} {b : Nat} {x : Cw} (h : w.rangeAt b 0 (cells x)) : w.cell? ⟨b, 0, none⟩ = some (.int .i64 x.ro.depth) ∧ w.cell? ⟨b, 1, none⟩ = some (.int .i64 x.ro.kind) ∧ w.cell? ⟨b, 2, none⟩ = some (.string x.ro.name) ∧ w.cell? ⟨b, 3, none⟩ = some (.string x.ro.data) ∧ w.cell? ⟨b, 4, none⟩ = some (.slice x.A x.ro.attrs.length x.c) :=
  ⟨h 0 _ rfl, h 1 _ rfl, h 2 _ rfl, h 3 _ rfl, h 4 _ rfl⟩

set_option maxRecDepth 100000 in
set_option maxHeartbeats 1000000 in
theorem refSame_any (A B : Option Addr) (ca cb : Nat) (l r : List Cw) (w : World) (hl : Rr w w.heap.size A l) (hr : Rr w w.heap.size B r) (hca : l.length ≤ ca) (hcb : r.length ≤ cb) (hml : l.length ≤ 1000000) (hmr : r.length ≤ 1000000) :
    Calls Tryz.prog 15 #[.slice A l.length ca, .slice B r.length cb] w fun e w' => e = .returned (.bool (decide (ros l = ros r))) ∧ Below w.heap.size w w' := by
  by_cases hlen : l.length = r.length
  · obtain ⟨V, hV⟩ : ∃ V, decide (ros l = ros r) = V := ⟨_, rfl⟩
    rw [hV]
    have hne : ((l.length : Int) != (r.length : Int)) = false := by rw [hlen]; simp
    have HV := Lib.hid hV; have HL := Lib.hid hlen
    clear hV hlen
    go_enter Tryz.func15, Tryz.ntmps15
    go_wp2
    go_loopw [5] (fun i wr => ∃ k : Nat, i = .int .i64 k ∧ k ≤ l.length ∧ decide (ros (l.drop k) = ros (r.drop k)) = V ∧ Below w.heap.size w wr) (fun i _ => l.length - (intOf i).toNat)
    case atStart => exact ⟨0, rfl, by omega, HV.out, Below.refl _ _⟩
    case round =>
      clear HV
      obtain ⟨k, rfl, hk, hv, hbel⟩ := hrel
      have hsz := hbel.size
      by_cases hp : k < l.length
      · obtain ⟨b1, o1, x, rfl, _, hdx, hx, hxa, _⟩ := (hl.below hbel).at_ k hp
        have hp2 : k < r.length := by have := HL.out; omega
        obtain ⟨b2, o2, y, rfl, _, hdy, hy, hya, _⟩ := (hr.below hbel).at_ k hp2
        obtain ⟨v1, v2⟩ := ros_drop_eq hdx hdy hv
        have HXA := Lib.hid (hxa.more hsz); have HYA := Lib.hid (hya.more hsz)
        have V1 := Lib.hid v1; have V2 := Lib.hid v2
        obtain ⟨f0, f1, f2, f3, f4⟩ := range5 hx
        obtain ⟨g0, g1, g2, g3, g4⟩ := range5 hy
        clear hv hdx hdy hxa hya v1 v2 hx hy
        have ef0 := World.new_ne wr _ f0
        have eg0 := World.new_ne wr _ g0
        go_upto_region 6 with (fail)
        go_cut [6, 7] from 13 to 60 (fun s6 s7 wx => ∃ g h, s6 = .pointer (some ⟨g, 0, none⟩) ∧ s7 = .pointer (some ⟨h, 0, none⟩) ∧ wx.rangeAt g 0 (cells x) ∧ wx.rangeAt h 0 (cells y) ∧ Below wr.heap.size wr wx)
        case first =>
          go_region_held3 (fun w' => w'.cell? ⟨b1, o1 + k * 5, none⟩ = some (.int .i64 x.ro.depth) ∧ w'.cell? ⟨b1, o1 + k * 5 + 1, none⟩ = some (.int .i64 x.ro.kind) ∧ w'.cell? ⟨b1, o1 + k * 5 + 2, none⟩ = some (.string x.ro.name) ∧ w'.cell? ⟨b1, o1 + k * 5 + 3, none⟩ = some (.string x.ro.data) ∧ w'.cell? ⟨b1, o1 + k * 5 + 4, none⟩ = some (.slice x.A x.ro.attrs.length x.c) ∧ w'.cell? ⟨b2, o2 + k * 5, none⟩ = some (.int .i64 y.ro.depth) ∧ w'.cell? ⟨b2, o2 + k * 5 + 1, none⟩ = some (.int .i64 y.ro.kind) ∧ w'.cell? ⟨b2, o2 + k * 5 + 2, none⟩ = some (.string y.ro.name) ∧ w'.cell? ⟨b2, o2 + k * 5 + 3, none⟩ = some (.string y.ro.data) ∧ w'.cell? ⟨b2, o2 + k * 5 + 4, none⟩ = some (.slice y.A y.ro.attrs.length y.c)) (go_keep) (first | fail)
          all_goals go_wp2_with fail
          all_goals go_meet
          · obtain ⟨q1, q2, q3⟩ := two_boxes wr x y
            exact ⟨_, _, rfl, rfl, q1, q2, q3⟩
          · obtain ⟨q1, q2, q3⟩ := two_boxes wr y x
            exact ⟨_, _, rfl, rfl, q2, q1, q3⟩
        case rest =>
          obtain ⟨g, h, rfl, rfl, hg, hh, hb2⟩ := hcut
          have HX := Lib.hid ((HXA.out.2.2.2.1.below hb2).more hb2.size); have HY := Lib.hid ((HYA.out.2.2.2.1.below hb2).more hb2.size); have HB := Lib.hid (hbel.trans (hb2.mono hsz))
          have a1 := HXA.out.1; have a2 := HXA.out.2.2.1; have a3 := HYA.out.1; have a4 := HYA.out.2.2.1
          obtain ⟨c0, c1, c2, c3, c4⟩ := range5z hg
          obtain ⟨d0, d1, d2, d3, d4⟩ := range5z hh
          clear hg hh hb2 f0 f1 f2 f3 f4 g0 g1 g2 g3 g4 ef0 eg0
          cases h1 : x.ro.depth == y.ro.depth with
          | false =>
            obtain rfl := V2.out (fun e => by rw [e] at h1; simp at h1)
            have n1 : (x.ro.depth != y.ro.depth) = true := by rw [bne, h1]; rfl
            go_wp2
            go_ret
            exact ⟨rfl, HB.out⟩
          | true =>
          have n1 : (x.ro.depth != y.ro.depth) = false := by rw [bne, h1]; rfl
          cases h2 : x.ro.kind == y.ro.kind with
          | false =>
            obtain rfl := V2.out (fun e => by rw [e] at h2; simp at h2)
            have n2 : (x.ro.kind != y.ro.kind) = true := by rw [bne, h2]; rfl
            go_wp2
            go_ret
            exact ⟨rfl, HB.out⟩
          | true =>
          have n2 : (x.ro.kind != y.ro.kind) = false := by rw [bne, h2]; rfl
          cases h3 : x.ro.name.toList == y.ro.name.toList with
          | false =>
            obtain rfl := V2.out (fun e => by rw [e] at h3; simp at h3)
            go_wp2
            go_ret
            exact ⟨rfl, HB.out⟩
          | true =>
          cases h4 : x.ro.data.toList == y.ro.data.toList with
          | false =>
            obtain rfl := V2.out (fun e => by rw [e] at h4; simp at h4)
            go_wp2
            go_ret
            exact ⟨rfl, HB.out⟩
          | true =>
          by_cases h5 : x.ro.attrs = y.ro.attrs
          · have hxy : x.ro = y.ro := of_decide_eq_true (by rw [ro_eq, h1, h2, h3, h4, decide_eq_true h5]; rfl)
            have HV := Lib.hid (V1.out hxy)
            have H5 := Lib.hid h5
            clear hxy h5
            go_wp2_with fail
            refine (refAttrs_any x.A y.A x.c y.c x.ro.attrs y.ro.attrs wc HX.out HY.out a1 a3 a2 a4).mono ?_
            rintro e w3 ⟨rfl, n, rfl⟩
            rw [decide_eq_true H5.out]
            go_wp2
            go_roundw
            case rel => exact ⟨k + 1, by go_num, by omega, HV.out, below_dN HB.out _⟩
            case measure => simp [intOf]; omega
          · obtain rfl := V2.out (fun e => h5 (by rw [e]))
            have H5 := Lib.hid h5
            clear h5
            go_wp2_with fail
            refine (refAttrs_any x.A y.A x.c y.c x.ro.attrs y.ro.attrs wc HX.out HY.out a1 a3 a2 a4).mono ?_
            rintro e w3 ⟨rfl, n, rfl⟩
            rw [decide_eq_false H5.out]
            go_wp2
            go_ret
            exact ⟨rfl, below_dN HB.out _⟩
      · rw [List.drop_eq_nil_of_le (by omega), List.drop_eq_nil_of_le (by have := HL.out; omega)] at hv
        have HV := Lib.hid hv
        clear hv
        go_wp2
        go_ret
        exact ⟨ret_bool (by rw [← HV.out]; rfl), hbel⟩
  · have e : decide (ros l = ros r) = false := decide_eq_false fun e => hlen (by rw [← len_ros, e, len_ros])
    rw [e]
    have hne : ((l.length : Int) != (r.length : Int)) = true := by rw [bne_iff_ne]; omega
    clear e hlen
    go_enter Tryz.func15, Tryz.ntmps15
    go_wp2
    go_ret
    exact ⟨rfl, Below.refl _ _⟩

end Go.Proofs.YtgjlfcamgkeibaaGreatDoor.Ro

namespace Go.Proofs.YtgjlfcamgkeibaaGreatDoor.Ro
set_option linter.unusedVariables false
set_option linter.unusedSimpArgs false
open Go.RowKit Ba Go.Shelf
attribute [local go_sem] Oper.semAt_some

theorem box_own {W W' : World} {B n : Nat} {t : TypeId} {v : Value} {row : Option Nat} (h : Boxed W B t v) (hg : W.grownBy W' row) (hr : ∀ r, row = some r → n ≤ r ∧ ∃ o : Obj, W.heap[r]? = some o ∧ o.isCells = false) : Boxed W' B t v :=
  h.kept hg fun e => by
    obtain ⟨_, o, ho, hc⟩ := hr B e.symm
    rw [show W.heap[B]? = _ from h] at ho
    cases ho
    cases hc

def placeAt (l : List Ro) (i at_ : Int) : Int × Bool :=
  if 0 ≤ at_ ∧ at_ < (kids l i).length then (((kids l i)[at_.toNat]?.getD 0 : Nat), true) else (endOf l i, decide (((kids l i).length : Int) = at_))

def Pl (w : World) (at_ : Int) (pre : List Nat) (W : World) : Prop :=
  Boxed W (w.heap.size) 3 (.int .i64 at_) ∧ Boxed W (w.heap.size + 1) 3 (.int .i64 0) ∧ Boxed W (w.heap.size + 1 + 1) 4 (.bool false) ∧ Boxed W (w.heap.size + 1 + 1 + 1) 3 (.int .i64 (pre.length : Nat)) ∧ Below w.heap.size w W ∧ w.heap.size + 1 + 1 + 1 + 1 + 1 + 1 ≤ W.heap.size ∧ ¬ (0 ≤ at_ ∧ at_ < pre.length)
def Px (w : World) (at_ : Int) (c : Code) (pre : List Nat) (W : World) : Prop :=
  c = .ret ∧ ∃ q x, pre = q ++ [x] ∧ at_ = (q.length : Nat) ∧ Boxed W (w.heap.size + 1) 3 (.int .i64 (x : Nat)) ∧ Boxed W (w.heap.size + 1 + 1) 4 (.bool true) ∧ Below w.heap.size w W
theorem Pl.own (w : World) (at_ : Int) (n : Nat) (hn : w.heap.size ≤ n) : OwnFrom n (Pl w at_) := fun s W W' row hs hg hr =>
  ⟨box_own hs.1 hg hr, box_own hs.2.1 hg hr, box_own hs.2.2.1 hg hr, box_own hs.2.2.2.1 hg hr, hs.2.2.2.2.1.grown hg hs.2.2.2.2.1.size (fun k hk => Nat.le_trans hn (hr k hk).1), Nat.le_trans hs.2.2.2.2.2.1 hg.size, hs.2.2.2.2.2.2⟩
theorem Px.own (w : World) (at_ : Int) (c : Code) (n : Nat) (hn : w.heap.size ≤ n) : OwnFrom n (Px w at_ c) := fun s W W' row hs hg hr => by
  obtain ⟨hc, q, x, e1, e2, h1, h2, h3⟩ := hs
  exact ⟨hc, q, x, e1, e2, box_own h1 hg hr, box_own h2 hg hr, h3.grown hg h3.size (fun k hk => Nat.le_trans hn (hr k hk).1)⟩
end Go.Proofs.YtgjlfcamgkeibaaGreatDoor.Ro

namespace Go.Proofs.YtgjlfcamgkeibaaGreatDoor.Ro
set_option maxRecDepth 100000
set_option linter.unusedVariables false
set_option linter.unusedSimpArgs false
open Go.RowKit Ba
theorem Rn.at_ {w : World} {N : Nat} {A : Option Addr} {l : List Nat} (h : Rn w N A l) (k : Nat) (hk : k < l.length) :
    ∃ b off x, A = some ⟨b, off, none⟩ ∧ b < N ∧ l.drop k = x :: l.drop (k + 1) ∧ w.cell? ⟨b, off + k, none⟩ = some (.int .i64 (x : Nat)) := by
  obtain ⟨b, off, e, hb, hc⟩ := h (by omega)
  exact ⟨b, off, l[k], e, hb, List.drop_eq_getElem_cons hk, hc k hk⟩

end Go.Proofs.YtgjlfcamgkeibaaGreatDoor.Ro

namespace Go.Proofs.YtgjlfcamgkeibaaGreatDoor.Ro
set_option maxRecDepth 100000
set_option linter.unusedVariables false
set_option linter.unusedSimpArgs false
open Go.RowKit Ba
def elemAt (l : List Ro) (p : Int) : Bool := decide (p = -1) || (decide (0 ≤ p ∧ p < l.length) && decide (((l[p.toNat]?).map (·.kind)).getD 1 = 0))
def put (l : List Ro) (p at_ : Int) (sub : List Ro) : Int × List Ro :=
  if elemAt l p = false then (41, [])
  else if (placeAt l p at_).2 = false then (1, [])
  else if right sub = false then (40, [])
  else if exceeds sub (4096 - l.length) (60 - (dep l p + 1)) = true then (2, [])
  else (0, l.take (placeAt l p at_).1.toNat ++ deeper (dep l p + 1) sub ++ l.drop (placeAt l p at_).1.toNat)

theorem Rr.take {w : World} {N : Nat} {A : Option Addr} {l : List Cw} (h : Rr w N A l) (k : Nat) : Rr w N A (l.take k) := by
  refine ⟨fun h0 => ?_, fun x hx => h.2 x (List.mem_of_mem_take hx)⟩
  rw [List.length_take] at h0
  obtain ⟨b, off, e, hb, hcc⟩ := h.1 (by omega)
  refine ⟨b, off, e, hb, fun j hj => ?_⟩
  rw [List.length_take] at hj
  rw [List.getElem_take]
  exact hcc j (by omega)
theorem Rr.rest {w : World} {N : Nat} {A : Option Addr} {l : List Cw} (h : Rr w N A l) (k cap : Nat) (hk : k ≤ l.length) (hc : l.length ≤ cap) : Rr w N (if cap = k then A else A.map (·.add (k * 5))) (l.drop k) := by
  have := h.part k l.length cap hk (Nat.le_refl _) hc
  rwa [List.take_length] at this
end Go.Proofs.YtgjlfcamgkeibaaGreatDoor.Ro

namespace Go.Proofs.YtgjlfcamgkeibaaGreatDoor.Ro
set_option linter.unusedVariables false
set_option linter.unusedSimpArgs false
open Go.RowKit Ba
end Go.Proofs.YtgjlfcamgkeibaaGreatDoor.Ro

namespace Go.Proofs.YtgjlfcamgkeibaaGreatDoor.Ro
set_option maxRecDepth 100000
set_option linter.unusedVariables false
set_option linter.unusedSimpArgs false
open Go.RowKit Ba
def Rv (w : World) (v : Value) (l : List Cw) : Prop := ∃ A c, v = .slice A l.length c ∧ l.length ≤ c ∧ c ≤ maxLen ∧ Rr w w.heap.size A l ∧ Held (ros l)
theorem Rv.below {w w' : World} {v : Value} {l : List Cw} (h : Rv w v l) (hb : Below w.heap.size w w') : Rv w' v l := by
  obtain ⟨A, c, e, h1, h2, h3, h4⟩ := h
  exact ⟨A, c, e, h1, h2, (h3.below hb).more hb.size, h4⟩
theorem Ow.rv {N : Nat} {w : World} {v : Value} {l : List Cw} (h : Ow N w v l) (hh : Held (ros l)) : Rv w v l := by
  obtain ⟨A, c, e, h1, h2, _, h3⟩ := h.form
  exact ⟨A, c, e, h1, h2, h3, hh⟩
theorem check1 (v : Value) (x : List Cw) (w : World) (q : Int) (h : Rv w v x) (hl : x.length ≤ 1000000) (hq : check (ros x) = q) :
    Calls Tryz.prog 65 #[v] w fun e w' => e = .returned (.int .i64 q) ∧ Below w.heap.size w w' := by
  obtain ⟨A, c, rfl, hc, hm, hr, hh⟩ := h
  subst hq
  exact Check_any A c x w hr hc (by omega)
theorem same1 (a b : Value) (x y : List Cw) (w : World) (q : Bool) (ha : Rv w a x) (hb : Rv w b y) (hx : x.length ≤ 1000000) (hy : y.length ≤ 1000000) (hq : decide (ros x = ros y) = q) :
    Calls Tryz.prog 39 #[a, b] w fun e w' => e = .returned (.bool q) ∧ Below w.heap.size w w' := by
  obtain ⟨A, c, rfl, hc, hm, hr, _⟩ := ha
  obtain ⟨B, d, rfl, hd, hm2, hr2, _⟩ := hb
  subst hq
  exact Same_any A B c d x y w hr hr2 hc hd (by omega) (by omega)
theorem refSame1 (a b : Value) (x y : List Cw) (w : World) (q : Bool) (ha : Rv w a x) (hb : Rv w b y) (hx : x.length ≤ 1000000) (hy : y.length ≤ 1000000) (hq : decide (ros x = ros y) = q) :
    Calls Tryz.prog 15 #[a, b] w fun e w' => e = .returned (.bool q) ∧ Below w.heap.size w w' := by
  obtain ⟨A, c, rfl, hc, hm, hr, _⟩ := ha
  obtain ⟨B, d, rfl, hd, hm2, hr2, _⟩ := hb
  subst hq
  exact refSame_any A B c d x y w hr hr2 hc hd (by omega) (by omega)
theorem normal1 (v : Value) (x : List Cw) (w : World) (q : List Ro) (h : Rv w v x) (hl : x.length ≤ 1000000) (hf : Few (ros x)) (ht : (txt (ros x)).length ≤ 1000000000) (hq : normal (ros x) = q) (hhq : Held q) :
    Calls Tryz.prog 66 #[v] w fun e w' => ∃ u y, e = .returned u ∧ Ow w.heap.size w' u y ∧ (∀ z ∈ y, Fr w.heap.size w' z) ∧ ros y = q ∧ Rv w' u y ∧ Below w.heap.size w w' := by
  obtain ⟨A, c, rfl, hc, hm, hr, hh⟩ := h
  refine (Normal_any A c x w hr hc (by omega) ht hf hh).mono ?_
  rintro e w1 ⟨u, y, rfl, ho, hfr, hy, hb⟩
  rw [hq] at hy
  exact ⟨u, y, rfl, ho, hfr, hy, ho.rv (by rw [hy]; exact hhq), hb⟩

def bare (r : Ro) : Cw := ⟨r, none, 0⟩
theorem bare_att (w : World) (N : Nat) {r : Ro} (h : r.attrs = []) : Att w N (bare r) := by
  refine ⟨?_, fun _ => rfl, Nat.zero_le _, ?_, ?_⟩
  · show r.attrs.length ≤ 0
    rw [h]; exact Nat.le_refl _
  · show Ra w N none r.attrs
    rw [h]; exact fun h => absurd h (by simp)
  · show Sh r.attrs
    rw [h]; exact fun _ hx => by simp at hx
theorem bare_ap (w : World) (N : Nat) {r : Ro} (h : r.attrs = []) : Ap w N (bare r) := fun h0 => by
  have h0 : 0 < r.attrs.length := h0
  rw [h] at h0
  exact absurd h0 (by simp)
theorem rows_new (w : World) (l : List Cw) (cs : Array Value) (n : Nat) (hn : l.length = n) (hm : n ≤ maxLen) (hcs : cs.toList = l.flatMap cells) (hl : ∀ x ∈ l, ∃ r : Ro, x = bare r ∧ r.attrs = []) :
    Ow w.heap.size (w.alloc (.cells cs 47)) (.slice (some ⟨w.heap.size, 0, none⟩) n n) l := by
  have hfl : (l.flatMap cells).length = n * 5 := by
    rw [← hn]
    clear hcs hl hn
    induction l with
    | nil => rfl
    | cons x r ih => rw [List.flatMap_cons, List.length_append, ih, List.length_cons]; simp [cells]; omega
  have hsz : cs.size = n * 5 := by rw [← Array.length_toList, hcs, hfl]
  refine ⟨⟨by rw [hn, hfl], .inr ⟨w.heap.size, n, cs, by rw [hn], Nat.le_refl _, heap_alloc_new w _, by rw [hn]; exact Nat.le_refl _, hm, hsz, ?_⟩⟩, fun x hx => ?_⟩
  · rw [hn, hcs, ← hfl, List.take_length]
  · obtain ⟨r, rfl, h⟩ := hl x hx
    exact ⟨bare_att _ _ h, bare_ap _ _ h⟩

end Go.Proofs.YtgjlfcamgkeibaaGreatDoor.Ro

namespace Go.Proofs.YtgjlfcamgkeibaaGreatDoor.Ro
set_option linter.unusedVariables false
set_option linter.unusedSimpArgs false
open Go.RowKit Ba
end Go.Proofs.YtgjlfcamgkeibaaGreatDoor.Ro

namespace Go.Proofs.YtgjlfcamgkeibaaGreatDoor.Ro
set_option maxRecDepth 100000
set_option linter.unusedVariables false
set_option linter.unusedSimpArgs false
open Go.RowKit Ba
end Go.Proofs.YtgjlfcamgkeibaaGreatDoor.Ro

namespace Go.Proofs.YtgjlfcamgkeibaaGreatDoor.Ro
set_option linter.unusedVariables false
set_option linter.unusedSimpArgs false
open Go.RowKit Ba
theorem empty_name {s : ByteArray} (h : s.toList.isEmpty = true) : s = .empty := by
  rw [List.isEmpty_iff, toList_L] at h
  rw [← B_L s, h]
  rfl
theorem text_form {x : Ro} (h : okRow x = true) (hk : x.kind = 1) : x = ⟨x.depth, 1, .empty, x.data, []⟩ := by
  rw [okRow, if_neg (by rw [hk]; decide)] at h
  simp only [Bool.and_eq_true] at h
  have h1 := empty_name h.1.2
  have h2 := h.2
  obtain ⟨d, k, n, t, a⟩ := x
  simp only at hk h1 h2 ⊢
  subst hk
  subst h1
  cases a with
  | nil => rfl
  | cons u r =>
    exfalso
    rw [beq_iff_eq, List.length_cons] at h2
    omega

theorem right_same (d : Int) : ∀ (n : Nat) (r : List Ro), rightFrom d r = true → (∀ x ∈ r.take n, x.kind = 1 ∧ x.depth = d) → rightFrom d (r.drop n) = true
  | 0, r, h, _ => h
  | n + 1, [], h, _ => h
  | n + 1, x :: r, h, ht => by
    rw [rightFrom] at h
    simp only [Bool.and_eq_true, decide_eq_true_eq] at h
    have hx := ht x (by simp)
    have h2 := h.2
    rw [if_neg (by rw [hx.1]; decide), hx.2] at h2
    exact right_same d n r h2 fun y hy => ht y (by rw [List.take_succ_cons]; exact List.mem_cons_of_mem _ hy)
theorem stops (p : Ro → Bool) : ∀ (l : List Ro) (z : Ro), (l.drop (l.takeWhile p).length).head? = some z → p z = false
  | [], z, h => by simp at h
  | x :: r, z, h => by
    by_cases hp : p x = true
    · rw [List.takeWhile_cons_of_pos hp, List.length_cons, List.drop_succ_cons] at h
      exact stops p r z h
    · rw [List.takeWhile_cons_of_neg hp] at h
      obtain rfl : x = z := by simpa using h
      simpa using hp
theorem takes (p : Ro → Bool) : ∀ (l : List Ro), ∀ x ∈ l.take (l.takeWhile p).length, p x = true
  | [], x, h => by simp at h
  | y :: r, x, h => by
    by_cases hp : p y = true
    · rw [List.takeWhile_cons_of_pos hp, List.length_cons, List.take_succ_cons] at h
      rcases List.mem_cons.1 h with rfl | h
      · exact hp
      · exact takes p r x h
    · rw [List.takeWhile_cons_of_neg hp] at h
      simp at h
theorem right_ok : ∀ (l : List Ro) (m : Int), rightFrom m l = true → ∀ x ∈ l, okRow x = true
  | [], _, _, x, h => by cases h
  | y :: r, m, h, x, hx => by
    rw [rightFrom] at h
    simp only [Bool.and_eq_true, decide_eq_true_eq] at h
    rcases List.mem_cons.1 hx with rfl | hx
    · exact h.1.2
    · exact right_ok r _ h.2 x hx

theorem exceeds_iff (l : List Ro) (n d : Int) : exceeds l n d = true ↔ n < l.length ∨ ∃ x ∈ l, d ≤ x.depth := by
  rw [exceeds, Bool.or_eq_true, decide_eq_true_eq, List.any_eq_true]
  simp only [decide_eq_true_eq]
end Go.Proofs.YtgjlfcamgkeibaaGreatDoor.Ro

namespace Go.Proofs.YtgjlfcamgkeibaaGreatDoor.Ro
set_option maxRecDepth 100000
set_option linter.unusedVariables false
set_option linter.unusedSimpArgs false
open Go.RowKit Ba Go.ChangeShapes Go.WideShapes Go.Deep
section
variable {H : Type} {enc : TypeId × Value → H} {P : Program} {w : World} {base : Nat} {spare : Nat → Bool} {held : Bool}
end

section
variable {H : Type} {enc : TypeId × Value → H} {w : World} {base : Nat}
end

section
variable {H : Type} {enc : TypeId × Value → H} {P : Program} {w : World} {base : Nat} {spare : Nat → Bool} {held : Bool}
end

section
variable {H : Type} {enc : TypeId × Value → H} {P : Program} {w : World} {base : Nat} {spare : Nat → Bool} {held : Bool}
end

section
variable {H : Type} {enc : TypeId × Value → H} {w : World}
end

end Go.Proofs.YtgjlfcamgkeibaaGreatDoor.Ro

namespace Go.Proofs.YtgjlfcamgkeibaaGreatDoor.Ro
set_option maxRecDepth 100000
set_option linter.unusedVariables false
set_option linter.unusedSimpArgs false
open Go.RowKit Ba Go.ChangeShapes Go.WideShapes Go.Deep
section
variable {H : Type} {enc : TypeId × Value → H} {w : World} {base : Nat}
theorem laidOut : laidOutB Tryz.prog = true := by kernel_rfl
end

end Go.Proofs.YtgjlfcamgkeibaaGreatDoor.Ro

namespace Go.Proofs.YtgjlfcamgkeibaaGreatDoor.Ro
set_option linter.unusedVariables false
set_option linter.unusedSimpArgs false
open Go.RowKit Ba
end Go.Proofs.YtgjlfcamgkeibaaGreatDoor.Ro

namespace Go.Proofs.YtgjlfcamgkeibaaGreatDoor.Ro
set_option maxRecDepth 100000
set_option linter.unusedVariables false
set_option linter.unusedSimpArgs false
open Go.RowKit Ba
theorem Nw.nil (N : Nat) (w : World) : Nw N w (.slice none 0 0) [] := World.ownsRow_nil w N _ 1
end Go.Proofs.YtgjlfcamgkeibaaGreatDoor.Ro

namespace Go.Proofs.YtgjlfcamgkeibaaGreatDoor.Ro
set_option linter.unusedVariables false
set_option linter.unusedSimpArgs false
open Go.RowKit Ba
theorem normal_from : ∀ (n : Nat) (l : List Ro), l.length ≤ n → (normal l).length ≤ l.length ∧ ∀ y ∈ normal l, ∃ x ∈ l, y.depth = x.depth ∧ (y.kind = 1 → x.kind = 1)
  | _, [], _ => by rw [normal_nil]; simp
  | 0, _ :: _, h => absurd h (by simp)
  | n + 1, x :: r, h => by
    rw [List.length_cons] at h
    by_cases hk : x.kind = 1
    · rw [normal_text hk]
      obtain ⟨h1, h2⟩ := normal_from n (r.drop (nexts x.depth r)) (by rw [List.length_drop]; omega)
      rw [List.length_drop] at h1
      constructor
      · rw [List.length_append, List.length_cons]
        split
        · simp; omega
        · simp; omega
      · intro y hy
        rcases List.mem_append.1 hy with hy | hy
        · split at hy
          · cases hy
          · obtain rfl := List.mem_singleton.1 hy
            exact ⟨x, List.mem_cons_self, rfl, fun _ => hk⟩
        · obtain ⟨z, hz, e⟩ := h2 y hy
          exact ⟨z, List.mem_cons_of_mem _ (List.mem_of_mem_drop hz), e⟩
    · rw [normal_other hk]
      obtain ⟨h1, h2⟩ := normal_from n r (by omega)
      constructor
      · rw [List.length_cons, List.length_cons]; omega
      · intro y hy
        rcases List.mem_cons.1 hy with rfl | hy
        · exact ⟨y, List.mem_cons_self, rfl, fun e => e⟩
        · obtain ⟨z, hz, e⟩ := h2 y hy
          exact ⟨z, List.mem_cons_of_mem _ hz, e⟩
end Go.Proofs.YtgjlfcamgkeibaaGreatDoor.Ro

namespace Go.Proofs.YtgjlfcamgkeibaaGreatDoor.Ro
set_option linter.unusedVariables false
set_option linter.unusedSimpArgs false
open Go.RowKit Ba
theorem right_mono {m k : Int} (h : m ≤ k) : ∀ {l : List Ro}, rightFrom m l = true → rightFrom k l = true
  | [], _ => rfl
  | x :: r, hr => by
    rw [rightFrom] at hr ⊢
    simp only [Bool.and_eq_true, decide_eq_true_eq] at hr ⊢
    exact ⟨⟨⟨hr.1.1.1, by omega⟩, hr.1.2⟩, hr.2⟩

theorem ok_text (d : Int) (t : List UInt8) : okRow ⟨d, 1, .empty, B t, []⟩ = true := by
  have e : ByteArray.empty.toList.isEmpty = true := by kernel_rfl
  show (if ((1 : Int) == 0) = true then _ else ((1 : Int) == 1 || (1 : Int) == 2) && ByteArray.empty.toList.isEmpty && ((0 : Nat) : Int) == 0) = true
  rw [if_neg (by decide), e]
  rfl

theorem group {x : Ro} {r : List Ro} {m : Int} (h : rightFrom m (x :: r) = true) (hk : x.kind = 1) :
    0 ≤ x.depth ∧ x.depth ≤ m ∧ okRow x = true ∧ rightFrom x.depth (r.drop (nexts x.depth r)) = true ∧ (∀ z, (r.drop (nexts x.depth r)).head? = some z → z.kind = 1 → z.depth < x.depth) ∧ (∀ y ∈ r.take (nexts x.depth r), y.kind = 1 ∧ y.depth = x.depth) := by
  rw [rightFrom] at h
  simp only [Bool.and_eq_true, decide_eq_true_eq] at h
  have h2 := h.2
  rw [if_neg (by rw [hk]; decide)] at h2
  obtain ⟨k, hkk⟩ : ∃ k, nexts x.depth r = k := ⟨_, rfl⟩
  rw [hkk]
  have htk : ∀ y ∈ r.take k, y.kind = 1 ∧ y.depth = x.depth := fun y hy => by
    rw [← hkk] at hy
    have := takes _ r y hy
    simpa using this
  have hst : ∀ z, (r.drop k).head? = some z → z.kind = 1 → z.depth ≠ x.depth := fun z hz e1 e2 => by
    rw [← hkk] at hz
    have := stops _ r z hz
    simp [e1, e2] at this
  have hrd := right_same x.depth k r h2 htk
  refine ⟨h.1.1.1, h.1.1.2, h.1.2, hrd, fun z hz e => ?_, htk⟩
  have h1 := hst z hz e
  have h3 : z.depth ≤ x.depth := by
    cases hdk : r.drop k with
    | nil => rw [hdk] at hz; simp at hz
    | cons a t =>
      rw [hdk] at hz hrd
      obtain rfl : a = z := by simpa using hz
      rw [rightFrom] at hrd
      simp only [Bool.and_eq_true, decide_eq_true_eq] at hrd
      exact hrd.1.1.2
  omega

theorem right_normal : ∀ (n : Nat) (l : List Ro) (m : Int), l.length ≤ n → rightFrom m l = true → rightFrom m (normal l) = true
  | _, [], _, _, _ => by rw [normal_nil]; rfl
  | 0, _ :: _, _, h, _ => absurd h (by simp)
  | n + 1, x :: r, m, hn, hr => by
    rw [List.length_cons] at hn
    by_cases hk : x.kind = 1
    · obtain ⟨h0, h1, h2, h3, _, _⟩ := group hr hk
      have ih := right_normal n (r.drop (nexts x.depth r)) x.depth (by rw [List.length_drop]; omega) h3
      rw [normal_text hk]
      split
      · rw [List.nil_append]; exact right_mono h1 ih
      · rw [List.singleton_append, rightFrom]
        simp only [Bool.and_eq_true, decide_eq_true_eq]
        exact ⟨⟨⟨h0, h1⟩, ok_text _ _⟩, by rw [if_neg (by decide)]; exact ih⟩
    · rw [normal_other hk]
      rw [rightFrom] at hr ⊢
      simp only [Bool.and_eq_true] at hr ⊢
      exact ⟨hr.1, right_normal n r _ (by omega) hr.2⟩

def Nrm : List Ro → Prop
  | [] => True
  | x :: r => (x.kind = 1 → x.data.toList ≠ [] ∧ ∀ z, r.head? = some z → z.kind = 1 → z.depth ≠ x.depth) ∧ Nrm r
theorem head_text : ∀ (n : Nat) (l : List Ro) (m : Int), l.length ≤ n → rightFrom m l = true → (∀ z, l.head? = some z → z.kind = 1 → z.depth < m) → ∀ z, (normal l).head? = some z → z.kind = 1 → z.depth < m
  | _, [], _, _, _, _, z, hz, _ => by rw [normal_nil] at hz; simp at hz
  | 0, _ :: _, _, h, _, _, _, _, _ => absurd h (by simp)
  | n + 1, x :: r, m, hn, hr, hh, z, hz, hzk => by
    rw [List.length_cons] at hn
    by_cases hk : x.kind = 1
    · have hx := hh x rfl hk
      obtain ⟨h0, h1, h2, h3, h4, _⟩ := group hr hk
      rw [normal_text hk] at hz
      split at hz
      · rw [List.nil_append] at hz
        have := head_text n (r.drop (nexts x.depth r)) x.depth (by rw [List.length_drop]; omega) h3 h4 z hz hzk
        omega
      · rw [List.singleton_append] at hz
        obtain rfl := Option.some.inj hz
        exact hx
    · rw [normal_other hk] at hz
      obtain rfl : x = z := by simpa using hz
      exact absurd hzk hk
theorem nrm_normal : ∀ (n : Nat) (l : List Ro) (m : Int), l.length ≤ n → rightFrom m l = true → Nrm (normal l)
  | _, [], _, _, _ => by rw [normal_nil]; trivial
  | 0, _ :: _, _, h, _ => absurd h (by simp)
  | n + 1, x :: r, m, hn, hr => by
    rw [List.length_cons] at hn
    by_cases hk : x.kind = 1
    · obtain ⟨h0, h1, h2, h3, h4, _⟩ := group hr hk
      have hl : (r.drop (nexts x.depth r)).length ≤ n := by rw [List.length_drop]; omega
      have ih := nrm_normal n (r.drop (nexts x.depth r)) x.depth hl h3
      rw [normal_text hk]
      split
      · rw [List.nil_append]; exact ih
      · rename_i ht
        rw [List.singleton_append]
        refine ⟨fun _ => ⟨?_, fun z hz hzk => ?_⟩, ih⟩
        · rw [toList_B]; exact ht
        · have := head_text n (r.drop (nexts x.depth r)) x.depth hl h3 h4 z hz hzk
          exact fun e => by rw [e] at this; exact absurd this (Int.lt_irrefl _)
    · rw [normal_other hk]
      rw [rightFrom] at hr
      simp only [Bool.and_eq_true] at hr
      exact ⟨fun e => absurd e hk, nrm_normal n r _ (by omega) hr.2⟩
theorem normal_nrm : ∀ (l : List Ro) (m : Int), rightFrom m l = true → Nrm l → normal l = l
  | [], _, _, _ => normal_nil
  | x :: r, m, hr, h => by
    have hr' := hr
    rw [rightFrom] at hr'
    simp only [Bool.and_eq_true] at hr'
    by_cases hk : x.kind = 1
    · obtain ⟨h1, h2⟩ := h.1 hk
      have hn : nexts x.depth r = 0 := by
        cases r with
        | nil => rfl
        | cons y t =>
          unfold nexts
          rw [List.takeWhile_cons, if_neg]
          · rfl
          · intro e
            simp only [Bool.and_eq_true, beq_iff_eq] at e
            exact h2 y rfl e.1 e.2
      have hx := text_form hr'.1.2 hk
      rw [normal_text hk, hn, List.take_zero, List.drop_zero, normal_nrm r _ hr'.2 h.2, txt_text hk, if_neg (by rw [← toList_L]; exact h1), List.singleton_append, B_L, ← hx]
    · rw [normal_other hk, normal_nrm r _ hr'.2 h.2]
theorem check_parts {l : List Ro} (h : check l = 0) : exceeds l 4096 60 = false ∧ right l = true := by
  unfold check at h
  split at h
  · cases h
  · rename_i h1
    split at h
    · rename_i h2; exact ⟨by simpa using h1, h2⟩
    · cases h
theorem check_of {l : List Ro} (h1 : exceeds l 4096 60 = false) (h2 : right l = true) : check l = 0 := by
  unfold check; rw [h1, h2]; rfl
theorem exceeds_less {l m : List Ro} (h : exceeds l 4096 60 = false) (h1 : m.length ≤ l.length) (h2 : ∀ y ∈ m, ∃ x ∈ l, y.depth ≤ x.depth) : exceeds m 4096 60 = false := by
  cases he : exceeds m 4096 60 with
  | false => rfl
  | true =>
    have hn : ¬ (exceeds l 4096 60 = true) := by rw [h]; decide
    rw [exceeds_iff] at he hn
    exfalso
    apply hn
    rcases he with he | ⟨y, hy, hd⟩
    · exact .inl (by omega)
    · obtain ⟨x, hx, hxy⟩ := h2 y hy
      exact .inr ⟨x, hx, by omega⟩
end Go.Proofs.YtgjlfcamgkeibaaGreatDoor.Ro

namespace Go.Proofs.YtgjlfcamgkeibaaGreatDoor.Ro
set_option linter.unusedVariables false
set_option linter.unusedSimpArgs false
open Go.RowKit Ba
def after (m : Int) : List Ro → Int
  | [] => m
  | x :: r => after (if x.kind = 0 then x.depth + 1 else x.depth) r
theorem right_append : ∀ (a b : List Ro) (m : Int), rightFrom m (a ++ b) = (rightFrom m a && rightFrom (after m a) b)
  | [], b, m => by rw [List.nil_append, rightFrom, after, Bool.true_and]
  | x :: r, b, m => by rw [List.cons_append, rightFrom, rightFrom, after, right_append r b]; simp only [Bool.and_assoc]
theorem right_head {m k : Int} {b : List Ro} (h : rightFrom m b = true) (hk : ∀ y, b.head? = some y → y.depth ≤ k) : rightFrom k b = true := by
  cases b with
  | nil => rfl
  | cons y t =>
    have := hk y rfl
    rw [rightFrom] at h ⊢
    simp only [Bool.and_eq_true, decide_eq_true_eq] at h ⊢
    exact ⟨⟨⟨h.1.1.1, this⟩, h.1.2⟩, h.2⟩
theorem takeWhile_split {α : Type} (p : α → Bool) : ∀ l : List α, l = l.takeWhile p ++ l.drop (l.takeWhile p).length
  | [] => rfl
  | x :: r => by
    by_cases hp : p x = true
    · rw [List.takeWhile_cons_of_pos hp, List.length_cons, List.drop_succ_cons, List.cons_append, ← takeWhile_split p r]
    · rw [List.takeWhile_cons_of_neg hp]; rfl
theorem mem_takeWhile {α : Type} (p : α → Bool) : ∀ (l : List α), ∀ x ∈ l.takeWhile p, p x = true
  | [], x, h => by cases h
  | y :: r, x, h => by
    by_cases hp : p y = true
    · rw [List.takeWhile_cons_of_pos hp] at h
      rcases List.mem_cons.1 h with rfl | h
      · exact hp
      · exact mem_takeWhile p r x h
    · rw [List.takeWhile_cons_of_neg hp] at h; cases h

theorem tree_split {l : List Ro} {k : Nat} (hk : k < l.length) :
    l.drop k = (l[k] :: below l k) ++ l.drop (endOf l k) ∧ (∀ y ∈ below l k, l[k].depth < y.depth) ∧ (∀ y, (l.drop (endOf l k)).head? = some y → y.depth ≤ l[k].depth) ∧ dep l k = l[k].depth ∧ endOf l k = k + 1 + (below l k).length := by
  have hd : dep l k = l[k].depth := dep_at (List.getElem?_eq_getElem hk)
  have he : endOf l k = k + 1 + (below l k).length := by
    unfold endOf; rw [show ((k : Int) + 1).toNat = k + 1 by omega]
  have hb : below l k = (l.drop (k + 1)).takeWhile fun x => decide (l[k].depth < x.depth) := by
    unfold below; rw [hd, show ((k : Int) + 1).toNat = k + 1 by omega]
  have hsp := takeWhile_split (fun x : Ro => decide (l[k].depth < x.depth)) (l.drop (k + 1))
  rw [← hb] at hsp
  have hdd : (l.drop (k + 1)).drop (below l k).length = l.drop (endOf l k) := by rw [List.drop_drop, he]
  rw [hdd] at hsp
  refine ⟨?_, fun y hy => ?_, fun y hy => ?_, hd, he⟩
  · rw [List.drop_eq_getElem_cons hk, List.cons_append]
    rw [← hsp]
  · rw [hb] at hy
    have := mem_takeWhile _ _ y hy
    simpa using this
  · have := stops (fun x : Ro => decide (l[k].depth < x.depth)) (l.drop (k + 1)) y (by rw [← hb, hdd]; exact hy)
    simp at this
    exact this
theorem end_le {l : List Ro} {k : Nat} (hk : k < l.length) : k < endOf l k ∧ endOf l k ≤ l.length := by
  obtain ⟨h1, _, _, _, h5⟩ := tree_split hk
  have := congrArg List.length h1
  rw [List.length_drop, List.length_append, List.length_cons, List.length_drop] at this
  omega
theorem endAt_of {l : List Ro} {k : Nat} (hk : k < l.length) : endAt l k = endOf l k := by
  have h1 : hasRow l k = true := by unfold hasRow; exact decide_eq_true ⟨by omega, by omega⟩
  unfold endAt
  rw [h1, if_pos rfl]

end Go.Proofs.YtgjlfcamgkeibaaGreatDoor.Ro

namespace Go.Proofs.YtgjlfcamgkeibaaGreatDoor.Ro
set_option linter.unusedVariables false
set_option linter.unusedSimpArgs false
open Go.RowKit Ba
def more (d : Int) (r : List Ro) : Nat := (r.takeWhile fun y => decide (d < y.depth)).length
theorem takeWhile_append_stop {p : Ro → Bool} : ∀ (a b : List Ro), (∀ y, b.head? = some y → p y = false) → (a ++ b).takeWhile p = a.takeWhile p
  | [], b, h => by
    cases b with
    | nil => rfl
    | cons y t => rw [List.nil_append, List.takeWhile_cons_of_neg (by rw [h y rfl]; decide)]; rfl
  | x :: r, b, h => by
    rw [List.cons_append, List.takeWhile_cons, List.takeWhile_cons, takeWhile_append_stop r b h]

end Go.Proofs.YtgjlfcamgkeibaaGreatDoor.Ro

namespace Go.Proofs.YtgjlfcamgkeibaaGreatDoor.Cn
set_option linter.unusedSimpArgs false
set_option linter.unusedVariables false
open Ba Ro
def put_ (D : Int → Int) (k v : Int) : Int → Int := fun j => if j = k then v else D j
def under (sk : Option Int) (d : Int) : Bool := match sk with | some k => decide (k < d) | none => false
def flt (g : Ro → Nat) (f : Ro → List At) : (Int → Int) → Option Int → List Ro → List Ro
  | _, _, [] => []
  | D, sk, x :: r =>
    if under sk x.depth = true then flt g f D sk r
    else if g x = 1 then flt g f D (some x.depth) r
    else if g x = 0 then ⟨D x.depth, x.kind, x.name, x.data, f x⟩ :: flt g f (put_ D (x.depth + 1) (D x.depth + 1)) none r
    else flt g f (put_ D (x.depth + 1) (D x.depth)) none r
def K (g : Ro → Nat) (f : Ro → List At) (e : Int) (r : List Ro) : List Ro := flt g f (fun _ => e) none r

variable {g : Ro → Nat} {f : Ro → List At}

def Wd (d : Int) (r : List Ro) : Prop := (∀ y ∈ r, d ≤ y.depth) ∧ rightFrom d r = true
theorem Wd.nil (d : Int) : Wd d [] := ⟨fun y h => (by cases h), rfl⟩
theorem fo_right {l : List Ro} (h : right l = true) : Wd 0 l := by
  refine ⟨?_, h⟩
  have : ∀ (l : List Ro) (m : Int), rightFrom m l = true → ∀ y ∈ l, 0 ≤ y.depth := by
    intro l
    induction l with
    | nil => intro m _ y hy; cases hy
    | cons x r ih =>
      intro m h y hy
      rw [rightFrom] at h
      simp only [Bool.and_eq_true, decide_eq_true_eq] at h
      rcases List.mem_cons.1 hy with rfl | hy
      · exact h.1.1.1
      · exact ih _ h.2 y hy
  exact this l 0 h
theorem more_split (d : Int) (r : List Ro) : r = r.take (more d r) ++ r.drop (more d r) := (List.take_append_drop _ _).symm
theorem take_more (d : Int) (r : List Ro) : ∀ y ∈ r.take (more d r), d < y.depth := fun y hy => by
  have := takes (fun y : Ro => decide (d < y.depth)) r y hy
  simpa using this
theorem drop_more (d : Int) (r : List Ro) : ∀ y, (r.drop (more d r)).head? = some y → y.depth ≤ d := fun y hy => by
  have := stops (fun y : Ro => decide (d < y.depth)) r y hy
  simpa using this
theorem Wd.parts {d : Int} {x : Ro} {r : List Ro} (h : Wd d (x :: r)) :
    x.depth = d ∧ 0 ≤ d ∧ okRow x = true ∧ Wd (d + 1) (r.take (more d r)) ∧ Wd d (r.drop (more d r)) ∧ (x.kind ≠ 0 → r.take (more d r) = []) := by
  obtain ⟨h1, h2⟩ := h
  have hd := h1 x List.mem_cons_self
  rw [rightFrom] at h2
  simp only [Bool.and_eq_true, decide_eq_true_eq] at h2
  obtain ⟨⟨⟨h3, h4⟩, h5⟩, h6⟩ := h2
  have hx : x.depth = d := by omega
  have h7 := h6
  rw [more_split d r, right_append, Bool.and_eq_true] at h7
  refine ⟨hx, by omega, h5, ⟨fun y hy => by have := take_more d r y hy; omega, ?_⟩, ⟨fun y hy => h1 y (List.mem_cons_of_mem _ (List.mem_of_mem_drop hy)), right_head h7.2 (drop_more d r)⟩, fun hk => ?_⟩
  · refine right_mono ?_ h7.1
    split <;> omega
  · rw [if_neg hk] at h6
    cases ht : r.take (more d r) with
    | nil => rfl
    | cons y t =>
      exfalso
      have hy := take_more d r y (by rw [ht]; exact List.mem_cons_self)
      have e : r = y :: (t ++ r.drop (more d r)) := by rw [← List.cons_append, ← ht]; exact more_split d r
      rw [e, rightFrom] at h6
      simp only [Bool.and_eq_true, decide_eq_true_eq] at h6
      omega
theorem Wd.make {d : Int} {x : Ro} {b r : List Ro} (hx : x.depth = d) (h0 : 0 ≤ d) (ho : okRow x = true) (hb : Wd (d + 1) b) (hr : Wd d r) (hk : x.kind ≠ 0 → b = []) : Wd d (x :: (b ++ r)) := by
  refine ⟨fun y hy => ?_, ?_⟩
  · rcases List.mem_cons.1 hy with rfl | hy
    · omega
    · rcases List.mem_append.1 hy with hy | hy
      · have := hb.1 y hy; omega
      · exact hr.1 y hy
  · rw [rightFrom]
    simp only [Bool.and_eq_true, decide_eq_true_eq]
    refine ⟨⟨⟨by omega, by omega⟩, ho⟩, ?_⟩
    rw [right_append, Bool.and_eq_true]
    by_cases hk0 : x.kind = 0
    · rw [if_pos hk0, hx]
      exact ⟨hb.2, right_mono (Int.le_trans (by omega) (after_ge' b (d + 1) (Int.le_refl _) hb.1)) hr.2⟩
    · rw [if_neg hk0, hk hk0, hx]
      exact ⟨rfl, hr.2⟩
where
  after_ge' {D : Int} : ∀ (a : List Ro) (m : Int), D ≤ m → (∀ y ∈ a, D ≤ y.depth) → D ≤ after m a
    | [], m, h, _ => h
    | x :: r, m, h, ha => by
      rw [after]
      have := ha x List.mem_cons_self
      exact after_ge' r _ (by split <;> omega) fun y hy => ha y (List.mem_cons_of_mem _ hy)
theorem tw_all {p : Ro → Bool} : ∀ l : List Ro, (∀ y ∈ l, p y = true) → l.takeWhile p = l
  | [], _ => rfl
  | x :: r, h => by rw [List.takeWhile_cons_of_pos (h x List.mem_cons_self), tw_all r fun y hy => h y (List.mem_cons_of_mem _ hy)]
theorem more_app {d : Int} {b r : List Ro} (hb : ∀ y ∈ b, d < y.depth) (hr : ∀ y, r.head? = some y → y.depth ≤ d) : (b ++ r).take (more d (b ++ r)) = b ∧ (b ++ r).drop (more d (b ++ r)) = r := by
  have e : more d (b ++ r) = b.length := by
    unfold more
    rw [takeWhile_append_stop b r fun y hy => by have := hr y hy; simpa using this]
    congr 1
    exact tw_all b fun y hy => by simpa using hb y hy
  rw [e]
  exact ⟨List.take_left, List.drop_left⟩
theorem Wd.head {d : Int} {r : List Ro} (h : Wd d r) : ∀ y, r.head? = some y → y.depth = d := fun y hy => by
  cases r with
  | nil => cases hy
  | cons x t => obtain rfl := Option.some.inj hy; exact h.parts.1
theorem fo_ind {P : Int → List Ro → Prop} (nil : ∀ d, P d []) (cons : ∀ (d : Int) (x : Ro) (b r : List Ro), x.depth = d → 0 ≤ d → okRow x = true → Wd (d + 1) b → Wd d r → (x.kind ≠ 0 → b = []) → P (d + 1) b → P d r → P d (x :: (b ++ r))) :
    ∀ (d : Int) (r : List Ro), Wd d r → P d r := by
  have : ∀ (n : Nat) (d : Int) (r : List Ro), r.length ≤ n → Wd d r → P d r := by
    intro n
    induction n with
    | zero => intro d r hn h; obtain rfl := List.length_eq_zero_iff.1 (Nat.le_zero.1 hn); exact nil d
    | succ n ih =>
      intro d r hn h
      cases r with
      | nil => exact nil d
      | cons x t =>
        obtain ⟨h1, h0, h2, h3, h4, h5⟩ := h.parts
        rw [List.length_cons] at hn
        have := cons d x _ _ h1 h0 h2 h3 h4 h5 (ih _ _ (by rw [List.length_take]; omega) h3) (ih _ _ (by rw [List.length_drop]; omega) h4)
        rwa [← more_split] at this
  exact fun d r h => this r.length d r (Nat.le_refl _) h

/-! ### What is told of D matters where rows come to stand alone -/
theorem under_none (d : Int) : under none d = false := rfl
theorem flt_cons (D : Int → Int) (sk : Option Int) (x : Ro) (r : List Ro) : flt g f D sk (x :: r) = if under sk x.depth = true then flt g f D sk r else if g x = 1 then flt g f D (some x.depth) r else if g x = 0 then ⟨D x.depth, x.kind, x.name, x.data, f x⟩ :: flt g f (put_ D (x.depth + 1) (D x.depth + 1)) none r else flt g f (put_ D (x.depth + 1) (D x.depth)) none r := by rw [flt]
theorem flt_skip (D : Int → Int) (d : Int) : ∀ r : List Ro, flt g f D (some d) r = flt g f D none (r.drop (more d r))
  | [] => rfl
  | x :: r => by
    by_cases h : d < x.depth
    · have e : more d (x :: r) = more d r + 1 := by unfold more; rw [List.takeWhile_cons_of_pos (by simpa using h), List.length_cons]
      rw [e, List.drop_succ_cons, ← flt_skip D d r, flt_cons, if_pos (show under (some d) x.depth = true by simpa [under] using h)]
    · have e : more d (x :: r) = 0 := by unfold more; rw [List.takeWhile_cons_of_neg (by simpa using h)]; rfl
      rw [e, List.drop_zero, flt_cons D (some d), flt_cons D none, if_neg (show ¬ under (some d) x.depth = true by simpa [under] using h), if_neg (show ¬ under none x.depth = true by rw [under_none]; decide)]
theorem flt_congr (lo : Int) : ∀ (r : List Ro) (m : Int) (D D' : Int → Int) (sk : Option Int), rightFrom m r = true → (∀ y ∈ r, lo ≤ y.depth) → (sk = none → ∀ j, lo ≤ j → j ≤ m → D j = D' j) → (∀ k, sk = some k → ∀ j, lo ≤ j → j ≤ k → D j = D' j) → flt g f D sk r = flt g f D' sk r
  | [], _, _, _, _, _, _, _, _ => rfl
  | x :: r, m, D, D', sk, hr, hl, h1, h2 => by
    rw [rightFrom] at hr
    simp only [Bool.and_eq_true, decide_eq_true_eq] at hr
    obtain ⟨⟨⟨h3, h4⟩, _⟩, h6⟩ := hr
    have hx := hl x List.mem_cons_self
    have hl' := fun y hy => hl y (List.mem_cons_of_mem x hy)
    rw [flt_cons, flt_cons]
    by_cases hu : under sk x.depth = true
    · rw [if_pos hu, if_pos hu]
      refine flt_congr lo r _ D D' sk h6 hl' (fun e => ?_) h2
      rw [e] at hu; cases hu
    · rw [if_neg hu, if_neg hu]
      have hj : ∀ j, lo ≤ j → j ≤ x.depth → D j = D' j := fun j hj hj' => by
        cases sk with
        | none => exact h1 rfl j hj (by omega)
        | some k =>
          have : x.depth ≤ k := by simpa [under] using hu
          exact h2 k rfl j hj (by omega)
      have e0 := hj x.depth hx (Int.le_refl _)
      have hm : (if x.kind = 0 then x.depth + 1 else x.depth) ≤ x.depth + 1 := by split <;> omega
      by_cases hg1 : g x = 1
      · rw [if_pos hg1, if_pos hg1]
        exact flt_congr lo r _ D D' _ h6 hl' (fun e => by cases e) (fun k hk j hj1 hj2 => by obtain rfl := Option.some.inj hk; exact hj j hj1 hj2)
      · rw [if_neg hg1, if_neg hg1]
        have hp : ∀ v, ∀ j, lo ≤ j → j ≤ (if x.kind = 0 then x.depth + 1 else x.depth) → put_ D (x.depth + 1) v j = put_ D' (x.depth + 1) v j := fun v j hj1 hj2 => by
          unfold put_
          split
          · rfl
          · exact hj j hj1 (by omega)
        by_cases hg0 : g x = 0
        · rw [if_pos hg0, if_pos hg0, e0]
          congr 1
          exact flt_congr lo r _ _ _ none h6 hl' (fun _ => hp _) (fun k hk => by cases hk)
        · rw [if_neg hg0, if_neg hg0, e0]
          exact flt_congr lo r _ _ _ none h6 hl' (fun _ => hp _) (fun k hk => by cases hk)
theorem flt_K {d : Int} {r : List Ro} (h : Wd d r) (D : Int → Int) : flt g f D none r = K g f (D d) r :=
  flt_congr d r d D _ none h.2 h.1 (fun _ j h1 h2 => by rw [show j = d by omega]) (fun k hk => by cases hk)
theorem flt_append {d : Int} : ∀ (a b : List Ro) (D : Int → Int) (sk : Option Int), (∀ y ∈ a, d ≤ y.depth) → Wd d b → (∀ k, sk = some k → d ≤ k) → flt g f D sk (a ++ b) = flt g f D sk a ++ K g f (D d) b
  | [], b, D, sk, _, hb, hs => by
    rw [List.nil_append]
    show _ = [] ++ _
    rw [List.nil_append]
    cases sk with
    | none => exact flt_K hb D
    | some k =>
      rw [flt_skip]
      have : more k b = 0 := by
        cases b with
        | nil => rfl
        | cons y t =>
          have h1 := hb.head y rfl
          have h2 := hs k rfl
          unfold more
          rw [List.takeWhile_cons_of_neg (by simp; omega)]
          rfl
      rw [this, List.drop_zero]
      exact flt_K hb D
  | x :: a, b, D, sk, ha, hb, hs => by
    have hx := ha x List.mem_cons_self
    have ha' := fun y hy => ha y (List.mem_cons_of_mem x hy)
    have hp : ∀ v, put_ D (x.depth + 1) v d = D d := fun v => by unfold put_; rw [if_neg (by omega)]
    rw [List.cons_append, flt_cons, flt_cons]
    by_cases hu : under sk x.depth = true
    · rw [if_pos hu, if_pos hu]; exact flt_append a b D sk ha' hb hs
    · rw [if_neg hu, if_neg hu]
      by_cases hg1 : g x = 1
      · rw [if_pos hg1, if_pos hg1]
        exact flt_append a b D _ ha' hb (fun k hk => by obtain rfl := Option.some.inj hk; exact hx)
      · rw [if_neg hg1, if_neg hg1]
        by_cases hg0 : g x = 0
        · rw [if_pos hg0, if_pos hg0, List.cons_append, flt_append a b _ none ha' hb (fun k hk => by cases hk), hp]
        · rw [if_neg hg0, if_neg hg0, flt_append a b _ none ha' hb (fun k hk => by cases hk), hp]

/-! ### Forests -/
def one (g : Ro → Nat) (f : Ro → List At) (e : Int) (x : Ro) (b : List Ro) : List Ro := if g x = 1 then [] else if g x = 0 then ⟨e, x.kind, x.name, x.data, f x⟩ :: K g f (e + 1) b else K g f e b
theorem K_tree {d : Int} {x : Ro} {b r : List Ro} (e : Int) (hx : x.depth = d) (hb : Wd (d + 1) b) (hr : Wd d r) : K g f e (x :: (b ++ r)) = one g f e x b ++ K g f e r := by
  unfold K
  rw [flt_cons, if_neg (show ¬ under none x.depth = true by rw [under_none]; decide)]
  unfold one
  have hb1 : ∀ y ∈ b, d ≤ y.depth := fun y hy => by have := hb.1 y hy; omega
  by_cases hg1 : g x = 1
  · rw [if_pos hg1, if_pos hg1, hx, flt_skip, (more_app (fun y hy => by have := hb.1 y hy; omega) (fun y hy => by rw [hr.head y hy]; exact Int.le_refl _)).2]
    rfl
  · rw [if_neg hg1, if_neg hg1]
    have hp : ∀ v, put_ (fun _ => e) (x.depth + 1) v d = e := fun v => by unfold put_; rw [if_neg (by omega)]
    have hq : ∀ v, put_ (fun _ => e) (x.depth + 1) v (d + 1) = v := fun v => by unfold put_; rw [if_pos (by omega)]
    by_cases hg0 : g x = 0
    · rw [if_pos hg0, if_pos hg0, flt_append b r _ none hb1 hr (fun k hk => by cases hk), hp, flt_K hb, hq]
      rfl
    · rw [if_neg hg0, if_neg hg0, flt_append b r _ none hb1 hr (fun k hk => by cases hk), hp, flt_K hb, hq]
      rfl
theorem Wd.append {d : Int} : ∀ {a : List Ro} {b : List Ro}, Wd d a → Wd d b → Wd d (a ++ b) := by
  intro a b ha hb
  revert hb
  refine fo_ind (P := fun d a => Wd d b → Wd d (a ++ b)) (fun d hb => by rw [List.nil_append]; exact hb) ?_ d a ha
  intro d x c r h1 h0 h2 h3 h4 h5 _ ih hb
  rw [List.cons_append, List.append_assoc]
  exact Wd.make h1 h0 h2 h3 (ih hb) h5
theorem K_fo (hok : ∀ x : Ro, okRow x = true → ∀ e, okRow ⟨e, x.kind, x.name, x.data, f x⟩ = true) {d : Int} {r : List Ro} (h : Wd d r) : ∀ e : Int, 0 ≤ e → Wd e (K g f e r) := by
  refine fo_ind (P := fun d r => ∀ e : Int, 0 ≤ e → Wd e (K g f e r)) (fun d e _ => Wd.nil e) ?_ d r h
  intro d x b r h1 h0 h2 h3 h4 h5 ihb ihr e he
  rw [K_tree e h1 h3 h4]
  unfold one
  split
  · exact ihr e he
  · split
    · rw [List.cons_append]
      refine Wd.make rfl he (hok x h2 e) (ihb (e + 1) (by omega)) (ihr e he) fun hk => ?_
      rw [h5 hk]; rfl
    · exact (ihb e he).append (ihr e he)
theorem K_len {d : Int} {r : List Ro} (h : Wd d r) : ∀ e : Int, (K g f e r).length ≤ r.length := by
  refine fo_ind (P := fun d r => ∀ e : Int, (K g f e r).length ≤ r.length) (fun d e => Nat.le_refl _) ?_ d r h
  intro d x b r h1 h0 h2 h3 h4 h5 ihb ihr e
  rw [K_tree e h1 h3 h4, List.length_append, List.length_cons, List.length_append]
  have h6 := ihr e
  have h7 := ihb e
  have h8 := ihb (e + 1)
  unfold one
  split
  · rw [List.length_nil]; omega
  · split
    · rw [List.length_cons]; omega
    · omega
theorem K_mem {d : Int} {r : List Ro} (h : Wd d r) : ∀ e : Int, e ≤ d → ∀ y ∈ K g f e r, ∃ x ∈ r, g x = 0 ∧ y.depth ≤ x.depth ∧ y = ⟨y.depth, x.kind, x.name, x.data, f x⟩ := by
  refine fo_ind (P := fun d r => ∀ e : Int, e ≤ d → ∀ y ∈ K g f e r, ∃ x ∈ r, g x = 0 ∧ y.depth ≤ x.depth ∧ y = ⟨y.depth, x.kind, x.name, x.data, f x⟩) (fun d e _ y hy => by cases hy) ?_ d r h
  intro d x b r h1 h0 h2 h3 h4 h5 ihb ihr e he y hy
  rw [K_tree e h1 h3 h4] at hy
  have lift : ∀ {c : List Ro}, (∃ z ∈ c, g z = 0 ∧ y.depth ≤ z.depth ∧ y = ⟨y.depth, z.kind, z.name, z.data, f z⟩) → (∀ z ∈ c, z ∈ x :: (b ++ r)) → ∃ z ∈ x :: (b ++ r), g z = 0 ∧ y.depth ≤ z.depth ∧ y = ⟨y.depth, z.kind, z.name, z.data, f z⟩ := fun ⟨z, hz, hh⟩ hc => ⟨z, hc z hz, hh⟩
  rcases List.mem_append.1 hy with hy | hy
  · unfold one at hy
    split at hy
    · cases hy
    · split at hy
      · rename_i hg
        rcases List.mem_cons.1 hy with rfl | hy
        · exact ⟨x, List.mem_cons_self, hg, by show e ≤ x.depth; omega, rfl⟩
        · exact lift (ihb (e + 1) (by omega) y hy) fun z hz => by simp [hz]
      · exact lift (ihb e (by omega) y hy) fun z hz => by simp [hz]
  · exact lift (ihr e he y hy) fun z hz => by simp [hz]
theorem K_id {d : Int} {r : List Ro} (h : Wd d r) : (∀ x ∈ r, g x = 0 ∧ f x = x.attrs) → K g f d r = r := by
  refine fo_ind (P := fun d r => (∀ x ∈ r, g x = 0 ∧ f x = x.attrs) → K g f d r = r) (fun d _ => rfl) ?_ d r h
  intro d x b r h1 h0 h2 h3 h4 h5 ihb ihr hx
  obtain ⟨hg, hf⟩ := hx x List.mem_cons_self
  rw [K_tree d h1 h3 h4, ihr fun z hz => hx z (by simp [hz])]
  unfold one
  rw [if_neg (by omega), if_pos hg, ihb fun z hz => hx z (by simp [hz]), hf, ← h1]
  rfl
/-! ### Text -/
theorem txt_K {d : Int} {r : List Ro} (h : Wd d r) : ∀ e : Int, (txt (K g f e r)).length ≤ (txt r).length := by
  refine fo_ind (P := fun d r => ∀ e : Int, (txt (K g f e r)).length ≤ (txt r).length) (fun d e => Nat.le_refl _) ?_ d r h
  intro d x b r h1 h0 h2 h3 h4 h5 ihb ihr e
  rw [K_tree e h1 h3 h4, txt_append, List.length_append, txt, txt_append, List.length_append, List.length_append]
  have h6 := ihr e
  have h7 := ihb e
  have h8 := ihb (e + 1)
  unfold one
  split
  · simp only [txt, List.length_nil]; omega
  · split
    · rw [txt, List.length_append]; simp only; omega
    · omega
end Go.Proofs.YtgjlfcamgkeibaaGreatDoor.Cn

namespace Go.Proofs.YtgjlfcamgkeibaaGreatDoor.Cn
set_option linter.unusedSimpArgs false
set_option linter.unusedVariables false
open Ba Ro
def jt (d : Int) (a : List UInt8) (m : List Ro) : List Ro :=
  if a = [] then m else match m with
    | [] => [⟨d, 1, .empty, B a, []⟩]
    | y :: t => if y.kind = 1 ∧ y.depth = d then ⟨d, 1, .empty, B (a ++ L y.data), []⟩ :: t else ⟨d, 1, .empty, B a, []⟩ :: y :: t
def jn (x : Ro) (m : List Ro) : List Ro := if x.kind = 1 then jt x.depth (L x.data) m else x :: m
def nr (l : List Ro) : List Ro := l.foldr jn []

theorem jt_nil (d : Int) (m : List Ro) : jt d [] m = m := by unfold jt; rw [if_pos rfl]
theorem jt_none {a : List UInt8} (d : Int) (h : a ≠ []) : jt d a [] = [⟨d, 1, .empty, B a, []⟩] := by unfold jt; rw [if_neg h]
theorem jt_hit {a : List UInt8} {d : Int} {y : Ro} (t : List Ro) (h : a ≠ []) (hy : y.kind = 1 ∧ y.depth = d) : jt d a (y :: t) = ⟨d, 1, .empty, B (a ++ L y.data), []⟩ :: t := by unfold jt; rw [if_neg h]; show (if _ then _ else _) = _; rw [if_pos hy]
theorem jt_miss {a : List UInt8} {d : Int} {y : Ro} (t : List Ro) (h : a ≠ []) (hy : ¬ (y.kind = 1 ∧ y.depth = d)) : jt d a (y :: t) = ⟨d, 1, .empty, B a, []⟩ :: y :: t := by unfold jt; rw [if_neg h]; show (if _ then _ else _) = _; rw [if_neg hy]
theorem jt_own {a : List UInt8} {d : Int} (z : ByteArray) (t : List Ro) (h : a ≠ []) : jt d a (⟨d, 1, .empty, z, []⟩ :: t) = ⟨d, 1, .empty, B (a ++ L z), []⟩ :: t := jt_hit t h ⟨rfl, rfl⟩
theorem jt_away {a : List UInt8} {d : Int} {m : List Ro} (h : a ≠ []) (hm : ∀ z, m.head? = some z → z.kind = 1 → z.depth ≠ d) : jt d a m = ⟨d, 1, .empty, B a, []⟩ :: m := by
  cases m with
  | nil => exact jt_none d h
  | cons y t => exact jt_miss t h fun e => hm y rfl e.1 e.2
theorem jn_text {x : Ro} (h : x.kind = 1) (m : List Ro) : jn x m = jt x.depth (L x.data) m := by unfold jn; rw [if_pos h]
theorem jn_other {x : Ro} (h : ¬ x.kind = 1) (m : List Ro) : jn x m = x :: m := by unfold jn; rw [if_neg h]
theorem nr_cons (x : Ro) (l : List Ro) : nr (x :: l) = jn x (nr l) := rfl
theorem nr_append (a b : List Ro) : nr (a ++ b) = a.foldr jn (nr b) := by unfold nr; rw [List.foldr_append]
theorem nr_group (d : Int) {m : List Ro} (hm : ∀ z, m.head? = some z → z.kind = 1 → z.depth ≠ d) : ∀ p : List Ro, (∀ y ∈ p, y.kind = 1 ∧ y.depth = d) → p.foldr jn m = (if txt p = [] then [] else [⟨d, 1, .empty, B (txt p), []⟩]) ++ m
  | [], _ => rfl
  | x :: p, h => by
    obtain ⟨hk, hd⟩ := h x List.mem_cons_self
    rw [List.foldr_cons, nr_group d hm p fun y hy => h y (List.mem_cons_of_mem _ hy), jn_text hk, hd, txt, if_pos hk]
    by_cases ha : L x.data = []
    · rw [ha, jt_nil, List.nil_append]
    have hne : L x.data ++ txt p ≠ [] := by simp [ha]
    rw [if_neg hne]
    by_cases ht : txt p = []
    · rw [if_pos ht, ht, List.nil_append, List.append_nil, jt_away ha hm]; rfl
    · rw [if_neg ht, List.singleton_append, jt_own _ _ ha, L_B]; rfl
theorem normal_nr : ∀ (n : Nat) (l : List Ro) (m : Int), l.length ≤ n → rightFrom m l = true → normal l = nr l
  | _, [], _, _, _ => by rw [normal_nil]; rfl
  | 0, _ :: _, _, h, _ => absurd h (by simp)
  | n + 1, x :: r, m, hn, hr => by
    rw [List.length_cons] at hn
    by_cases hk : x.kind = 1
    · obtain ⟨h0, h1, h2, h3, h4, h5⟩ := group hr hk
      have ih := normal_nr n (r.drop (nexts x.depth r)) x.depth (by rw [List.length_drop]; omega) h3
      have hh := head_text n (r.drop (nexts x.depth r)) x.depth (by rw [List.length_drop]; omega) h3 h4
      rw [normal_text hk, ih]
      rw [ih] at hh
      have e : x :: r = (x :: r.take (nexts x.depth r)) ++ r.drop (nexts x.depth r) := by rw [List.cons_append, List.take_append_drop]
      rw [show nr (x :: r) = nr ((x :: r.take (nexts x.depth r)) ++ r.drop (nexts x.depth r)) from congrArg nr e, nr_append]
      rw [nr_group x.depth (fun z hz hzk => by have := hh z hz hzk; omega) _ fun y hy => by
        rcases List.mem_cons.1 hy with rfl | hy
        · exact ⟨hk, rfl⟩
        · exact h5 y hy]
    · rw [normal_other hk, nr_cons, jn_other hk]
      rw [rightFrom] at hr
      simp only [Bool.and_eq_true] at hr
      rw [normal_nr n r _ (by omega) hr.2]
theorem normal_fo {d : Int} {l : List Ro} (h : Wd d l) : normal l = nr l := normal_nr l.length l d (Nat.le_refl _) h.2
theorem nr_fo {d : Int} {l : List Ro} (h : Wd d l) : Wd d (nr l) := by
  rw [← normal_fo h]
  refine ⟨fun y hy => ?_, right_normal l.length l d (Nat.le_refl _) h.2⟩
  obtain ⟨x, hx, e, _⟩ := (normal_from l.length l (Nat.le_refl _)).2 y hy
  have := h.1 x hx
  omega

variable {g : Ro → Nat} {f : Ro → List At}
end Go.Proofs.YtgjlfcamgkeibaaGreatDoor.Cn

namespace Go.Proofs.YtgjlfcamgkeibaaGreatDoor.Ba
set_option maxRecDepth 100000
set_option linter.unusedSimpArgs false
set_option linter.unusedVariables false
open Go.RowKit
def Rd (w : World) (N : Nat) (A : Option Addr) (l : List ByteArray) : Prop :=
  0 < l.length → ∃ b off, A = some ⟨b, off, none⟩ ∧ b < N ∧ ∀ j (h : j < l.length), w.cell? ⟨b, off + j, none⟩ = some (.string l[j])

theorem Rd.nil (w : World) (N : Nat) (A : Option Addr) : Rd w N A [] := fun h => absurd h (by simp)
theorem Rd.keep {w w' : World} {N : Nat} {A : Option Addr} {l : List ByteArray} (h : Rd w N A l) (hk : ∀ p : Addr, p.block < N → w'.cell? p = w.cell? p) : Rd w' N A l := fun h0 => by
  obtain ⟨b, off, e, hb, hc⟩ := h h0
  exact ⟨b, off, e, hb, fun j hj => (hk _ hb).trans (hc j hj)⟩
theorem Rd.more {w : World} {N N' : Nat} {A : Option Addr} {l : List ByteArray} (h : Rd w N A l) (hN : N ≤ N') : Rd w N' A l := fun h0 => by
  obtain ⟨b, off, e, hb, hc⟩ := h h0
  exact ⟨b, off, e, by omega, hc⟩
theorem Rd.below {w w' : World} {N M : Nat} {A : Option Addr} {l : List ByteArray} (h : Rd w N A l) (hb : Below M w w') (hN : N ≤ M) : Rd w' N A l := h.keep fun p hp => hb.cell (p := p) (by omega)
theorem Rd.alloc {w : World} {N : Nat} {A : Option Addr} {l : List ByteArray} (h : Rd w N A l) (hN : N ≤ w.heap.size) (o : Obj) : Rd (w.alloc o) N A l := h.keep fun p hp => World.cell?_alloc_lt w o p (by omega)
theorem Rd.take {w : World} {N : Nat} {A : Option Addr} {l : List ByteArray} (h : Rd w N A l) (m : Nat) : Rd w N A (l.take m) := fun h0 => by
  rw [List.length_take] at h0
  obtain ⟨b, off, e, hb, hc⟩ := h (by omega)
  refine ⟨b, off, e, hb, fun j hj => ?_⟩
  rw [List.length_take] at hj
  rw [List.getElem_take]
  exact hc j (by omega)
theorem Rd.drop {w : World} {N : Nat} {A : Option Addr} {l : List ByteArray} (h : Rd w N A l) (m cap : Nat) (hc : l.length ≤ cap) : Rd w N (if cap = m then A else A.map (·.add m)) (l.drop m) := fun h0 => by
  rw [List.length_drop] at h0
  obtain ⟨b, off, e, hb, hcc⟩ := h (by omega)
  rw [if_neg (by omega), e]
  refine ⟨b, off + m, by simp [WideShapes.add_plain], hb, fun j hj => ?_⟩
  rw [List.length_drop] at hj
  rw [List.getElem_drop, Nat.add_assoc]
  exact hcc (m + j) (by omega)

def sc (s : ByteArray) : Value := .string s
def Sown (N : Nat) (w : World) (v : Value) (l : List ByteArray) : Prop := w.ownsRow N 9 1 v l.length (l.map sc)

theorem info_str : (Tryz.prog.info? 9).map (fun i => (i.zero, i.size, i.bytes)) = some (some (.string .empty), 1, 16) := by kernel_rfl

theorem Sown.nil (N : Nat) (w : World) : Sown N w (.slice none 0 0) [] := World.ownsRow_nil w N _ 1
theorem Sown.made (w : World) : Sown w.heap.size (w.alloc (.cells #[] 9)) (.slice (some ⟨w.heap.size, 0, none⟩) 0 0) [] :=
  World.ownsRow_made w #[] 0 (Nat.le_refl _) (Nat.zero_le _) rfl
theorem Sown.alloc {N : Nat} {w : World} {v : Value} {l : List ByteArray} (h : Sown N w v l) (o : Obj) : Sown N (w.alloc o) v l := World.ownsRow.alloc h o
theorem Sown.mono {N N' : Nat} {w : World} {v : Value} {l : List ByteArray} (h : Sown N w v l) (hN : N' ≤ N) : Sown N' w v l := World.ownsRow.mono h hN
theorem Sown.below {N M : Nat} {w w' : World} {v : Value} {l : List ByteArray} (h : Sown N w v l) (hb : Below M w w') (hM : w.heap.size ≤ M) : Sown N w' v l := by
  refine ⟨h.1, ?_⟩
  rcases h.2 with hn | ⟨g, cap, cur, hv, hg, hh, rest⟩
  · exact .inl hn
  · refine .inr ⟨g, cap, cur, hv, hg, ?_, rest⟩
    have hlt : g < w.heap.size := (Array.getElem?_eq_some_iff.1 hh).1
    rw [hb.block g (by omega)]
    exact hh
theorem Sown.kept {N : Nat} {w0 w w' : World} {v : Value} {l : List ByteArray} (h : Sown N w v l) (hg : w.grownBy w' v.ownBlock) (hb : Below N w0 w) (hN : N ≤ w.heap.size) : Below N w0 w' :=
  hb.grown hg hN fun k hk => (h.lt k hk).1
theorem Sown.form {N : Nat} {w : World} {v : Value} {l : List ByteArray} (h : Sown N w v l) : ∃ A c, v = .slice A l.length c ∧ l.length ≤ c ∧ c ≤ maxLen ∧ Rd w w.heap.size A l := by
  rcases h.2 with ⟨hv, hl⟩ | ⟨g, cap, cur, hv, hg, hh, hn, hm, hs, ht⟩
  · have : l = [] := List.eq_nil_of_length_eq_zero hl
    subst this
    exact ⟨none, 0, hv, Nat.le_refl _, Nat.zero_le _, Rd.nil _ _ _⟩
  · refine ⟨some ⟨g, 0, none⟩, cap, hv, hn, hm, fun _ => ⟨g, 0, rfl, (Array.getElem?_eq_some_iff.1 hh).1, fun j hj => ?_⟩⟩
    subst hv
    have := World.ownsRow.cells h rfl j (sc l[j]) (by simp [hj])
    rw [WideShapes.add_plain] at this
    exact this
theorem Sown.appended {N : Nat} {w : World} {v : Value} {l m : List ByteArray} {n : Nat} (h : w.ownsRow N 9 1 v n (l.map sc ++ m.map sc)) (hn : n = l.length + m.length) : Sown N w v (l ++ m) := by
  unfold Sown
  rw [List.map_append, List.length_append, ← hn]
  exact h

end Go.Proofs.YtgjlfcamgkeibaaGreatDoor.Ba

namespace Go.Proofs.YtgjlfcamgkeibaaGreatDoor.Fm
set_option linter.unusedSimpArgs false
set_option linter.unusedVariables false

section order
variable {α : Type}

structure Ord (lt : α → α → Bool) : Prop where
  irr : ∀ a, lt a a = false
  tr : ∀ a b c, lt a b = true → lt b c = true → lt a c = true
  tri : ∀ a b, lt a b = false → lt b a = false → a = b

theorem Ord.ne {lt : α → α → Bool} (h : Ord lt) {a b : α} (hl : lt a b = true) : a ≠ b := by
  rintro rfl
  rw [h.irr] at hl
  cases hl
def Asc (lt : α → α → Bool) (l : List α) : Prop := l.Pairwise fun a b => lt a b = true

def insL (lt : α → α → Bool) (x : α) : Bool → List α → List α
  | true, l => l
  | false, [] => [x]
  | false, y :: l => if lt x y = true then x :: y :: l else y :: insL lt x false l

def below (lt : α → α → Bool) (l : List α) (s : α) : Nat := l.countP (lt · s)

theorem below_of {lt : α → α → Bool} {l : List α} {s : α} {k : Nat} (hk : k ≤ l.length) (h1 : ∀ i (hi : i < k), lt (l[i]'(by omega)) s = true) (h2 : ∀ i, k ≤ i → (hi : i < l.length) → lt l[i] s = false) : below lt l s = k := by
  unfold below
  have e : l.countP (lt · s) = (l.take k).countP (lt · s) + (l.drop k).countP (lt · s) := by rw [← List.countP_append, List.take_append_drop]
  have e1 : (l.take k).countP (lt · s) = (l.take k).length := by
    rw [List.countP_eq_length]
    intro a ha
    obtain ⟨i, hi, rfl⟩ := List.getElem_of_mem ha
    rw [List.length_take] at hi
    rw [List.getElem_take]
    exact h1 i (by omega)
  have e2 : (l.drop k).countP (lt · s) = 0 := by
    rw [List.countP_eq_zero]
    intro a ha
    obtain ⟨i, hi, rfl⟩ := List.getElem_of_mem ha
    rw [List.length_drop] at hi
    rw [List.getElem_drop]
    simp [h2 (k + i) (by omega) (by omega)]
  rw [e, e1, e2, List.length_take]
  omega
theorem notfound_of {lt : α → α → Bool} (h : Ord lt) {l : List α} {s : α} (h1 : ∀ i, (hi : i < l.length) → lt l[i] s = true) : s ∉ l := by
  intro hm
  obtain ⟨i, hi, rfl⟩ := List.getElem_of_mem hm
  have := h1 i hi
  rw [h.irr] at this
  cases this
variable [DecidableEq α]

def isIn (x : α) (l : List α) : Bool := decide (x ∈ l)
theorem isIn_yes {x : α} {l : List α} (h : x ∈ l) : isIn x l = true := decide_eq_true h
theorem isIn_no {x : α} {l : List α} (h : ¬ x ∈ l) : isIn x l = false := decide_eq_false h
theorem isIn_of {x : α} {l : List α} (h : isIn x l = true) : x ∈ l := of_decide_eq_true h
theorem notIn_of {x : α} {l : List α} (h : isIn x l = false) : ¬ x ∈ l := of_decide_eq_false h
def ins (lt : α → α → Bool) (x : α) (l : List α) : List α := insL lt x (isIn x l) l
end order

section bytes

def sp (c : UInt8) : Bool := c == 32 || c == 9 || c == 10 || c == 12 || c == 13
def lr (c : UInt8) : Bool := (decide (65 ≤ c) && decide (c ≤ 90)) || (decide (97 ≤ c) && decide (c ≤ 122))
def low (c : UInt8) : UInt8 := if 65 ≤ c ∧ c ≤ 90 then c + 32 else c
def lowL (l : List UInt8) : List UInt8 := l.map low

theorem low_low (c : UInt8) : low (low c) = low c := by
  unfold low
  by_cases h : 65 ≤ c ∧ c ≤ 90
  · rw [if_pos h, if_neg]
    intro h'
    have h1 := UInt8.le_iff_toNat_le.1 h.1
    have h2 := UInt8.le_iff_toNat_le.1 h.2
    have h3 := UInt8.le_iff_toNat_le.1 h'.2
    rw [UInt8.toNat_add] at h3
    simp at h1 h2 h3
    omega
  · rw [if_neg h, if_neg h]
theorem lowL_append (a b : List UInt8) : lowL (a ++ b) = lowL a ++ lowL b := List.map_append
theorem len_lowL (l : List UInt8) : (lowL l).length = l.length := List.length_map ..

def trimS (l : List UInt8) : List UInt8 := l.dropWhile sp
def trimE (l : List UInt8) : List UInt8 := (l.reverse.dropWhile sp).reverse
def trimL (l : List UInt8) : List UInt8 := trimE (trimS l)

theorem trimS_sp {c : UInt8} (l : List UInt8) (h : sp c = true) : trimS (c :: l) = trimS l := by simp [trimS, List.dropWhile_cons, h]
theorem trimS_no {c : UInt8} (l : List UInt8) (h : sp c = false) : trimS (c :: l) = c :: l := by simp [trimS, List.dropWhile_cons, h]
theorem trimS_nil : trimS [] = [] := rfl
theorem trimE_nil : trimE [] = [] := rfl
theorem trimE_sp {c : UInt8} (l : List UInt8) (h : sp c = true) : trimE (l ++ [c]) = trimE l := by simp [trimE, List.dropWhile_cons, h]
theorem trimE_no {c : UInt8} (l : List UInt8) (h : sp c = false) : trimE (l ++ [c]) = l ++ [c] := by simp [trimE, List.dropWhile_cons, h]

theorem snoc_cases (l : List UInt8) : l = [] ∨ ∃ m c, l = m ++ [c] := by
  rcases List.eq_nil_or_concat l with h | ⟨m, c, h⟩
  · exact .inl h
  · exact .inr ⟨m, c, by rw [h, List.concat_eq_append]⟩

theorem len_trimS : ∀ l : List UInt8, (trimS l).length ≤ l.length
  | [] => Nat.le_refl _
  | c :: l => by
    cases h : sp c with
    | true => rw [trimS_sp l h]; have := len_trimS l; simp; omega
    | false => rw [trimS_no l h]; exact Nat.le_refl _
theorem len_trimE (l : List UInt8) : (trimE l).length ≤ l.length := by
  have := len_trimS l.reverse
  unfold trimE
  rw [List.length_reverse]
  rw [List.length_reverse] at this
  exact this
theorem len_trimL (l : List UInt8) : (trimL l).length ≤ l.length := Nat.le_trans (len_trimE _) (len_trimS l)

end bytes
end Go.Proofs.YtgjlfcamgkeibaaGreatDoor.Fm

namespace Go.Proofs.YtgjlfcamgkeibaaGreatDoor.Fo
set_option linter.unusedSimpArgs false
set_option linter.unusedVariables false
open Go.RowKit Ba Fm
def lt (a b : ByteArray) : Bool := Op.bytesLess a.toList b.toList

theorem bl_irr : ∀ a : List UInt8, Op.bytesLess a a = false
  | [] => rfl
  | a :: x => by simp [Op.bytesLess, bl_irr x]
theorem bl_tr : ∀ a b c : List UInt8, Op.bytesLess a b = true → Op.bytesLess b c = true → Op.bytesLess a c = true
  | _, [], _, h, _ => by simp [Op.bytesLess] at h
  | _, _ :: _, [], _, h => by simp [Op.bytesLess] at h
  | [], _ :: _, _ :: _, _, _ => rfl
  | a :: x, b :: y, c :: z, h1, h2 => by
    simp only [Op.bytesLess, Bool.or_eq_true, Bool.and_eq_true, decide_eq_true_eq, beq_iff_eq] at h1 h2 ⊢
    rcases h1 with h1 | ⟨rfl, h1⟩
    · rcases h2 with h2 | ⟨rfl, h2⟩
      · exact .inl (UInt8.lt_trans h1 h2)
      · exact .inl h1
    · rcases h2 with h2 | ⟨rfl, h2⟩
      · exact .inl h2
      · exact .inr ⟨rfl, bl_tr x y z h1 h2⟩
theorem bl_tri : ∀ a b : List UInt8, Op.bytesLess a b = false → Op.bytesLess b a = false → a = b
  | [], [], _, _ => rfl
  | [], _ :: _, h, _ => by simp [Op.bytesLess] at h
  | _ :: _, [], _, h => by simp [Op.bytesLess] at h
  | a :: x, b :: y, h1, h2 => by
    simp only [Op.bytesLess, Bool.or_eq_false_iff, decide_eq_false_iff_not, UInt8.not_lt] at h1 h2
    have hab : a = b := UInt8.le_antisymm h2.1 h1.1
    subst hab
    have e1 := h1.2
    have e2 := h2.2
    simp at e1 e2
    rw [bl_tri x y e1 e2]
theorem ord_lt : Ord lt where
  irr a := bl_irr _
  tr a b c := bl_tr _ _ _
  tri a b h1 h2 := by
    have := bl_tri _ _ h1 h2
    rw [toList_L, toList_L] at this
    exact L_inj this

theorem below_dN {N : Nat} {a w : World} (h : Below N a w) (n : Nat) : Below N a (w.drewN n) := ⟨h.os, h.tape, h.output, h.size, h.block⟩

def lenOf : Value → Nat | .slice _ n _ => n | _ => 0

def Sv (w : World) (N : Nat) (v : Value) (l : List ByteArray) : Prop := ∃ A c, v = .slice A l.length c ∧ l.length ≤ c ∧ (A = none → c = 0) ∧ Rd w N A l
theorem sv_own {N : Nat} {w : World} {v : Value} {l : List ByteArray} (h : Sown N w v l) : Sv w w.heap.size v l := by
  rcases h.2 with ⟨hv, hl⟩ | ⟨g, cap, cur, hv, hg, hh, hn, hm, hs, ht⟩
  · have : l = [] := List.eq_nil_of_length_eq_zero hl
    subst this
    exact ⟨none, 0, hv, Nat.le_refl _, fun _ => rfl, Rd.nil _ _ _⟩
  · obtain ⟨A, c, hv', h1, _, h3⟩ := h.form
    refine ⟨A, c, hv', h1, fun e => ?_, h3⟩
    rw [hv] at hv'
    injection hv' with e1
    rw [e] at e1
    cases e1
theorem Sv.below {w w' : World} {N M : Nat} {v : Value} {l : List ByteArray} (h : Sv w N v l) (hb : Below M w w') (hN : N ≤ M) : Sv w' N v l := by
  obtain ⟨A, c, h1, h2, h3, h4⟩ := h
  exact ⟨A, c, h1, h2, h3, h4.below hb hN⟩
theorem Sv.more {w : World} {N M : Nat} {v : Value} {l : List ByteArray} (h : Sv w N v l) (hN : N ≤ M) : Sv w M v l := by
  obtain ⟨A, c, h1, h2, h3, h4⟩ := h
  exact ⟨A, c, h1, h2, h3, h4.more hN⟩

theorem sv_lit (w : World) (l : List ByteArray) : Sv (w.alloc (.cells (l.map sc).toArray 9)) (w.alloc (.cells (l.map sc).toArray 9)).heap.size (.slice (some ⟨w.heap.size, 0, none⟩) l.length l.length) l := by
  refine ⟨_, l.length, rfl, Nat.le_refl _, (fun e => by cases e), fun _ => ⟨w.heap.size, 0, rfl, by simp, fun j hj => ?_⟩⟩
  rw [Nat.zero_add, World.cell?_alloc_at _ _ _ _ rfl]
  simp [sc, hj]
theorem Sv.rd {w : World} {N n c : Nat} {A : Option Addr} {l : List ByteArray} (h : Sv w N (.slice A n c) l) : Rd w N A l := by
  obtain ⟨A', c', e, _, _, hr⟩ := h
  injection e with e
  rw [e]
  exact hr
theorem below_one (w : World) (o : Obj) : Below w.heap.size w (w.alloc o) := (Below.refl _ _).alloc (Nat.le_refl _) _

end Go.Proofs.YtgjlfcamgkeibaaGreatDoor.Fo

namespace Go.Proofs.YtgjlfcamgkeibaaGreatDoor.Rk
set_option linter.unusedSimpArgs false
set_option linter.unusedVariables false
open Fm Ba
def unsafeL : List ByteArray := [⟨#[98, 97, 115, 101]⟩, ⟨#[101, 109, 98, 101, 100]⟩, ⟨#[102, 114, 97, 109, 101]⟩, ⟨#[105, 102, 114, 97, 109, 101]⟩, ⟨#[108, 105, 110, 107]⟩, ⟨#[109, 101, 116, 97]⟩, ⟨#[111, 98, 106, 101, 99, 116]⟩, ⟨#[115, 99, 114, 105, 112, 116]⟩]
def neverB (e : ByteArray) : Bool := isIn e unsafeL

end Go.Proofs.YtgjlfcamgkeibaaGreatDoor.Rk

namespace Go.Proofs.YtgjlfcamgkeibaaGreatDoor.Nm
set_option linter.unusedSimpArgs false
set_option linter.unusedVariables false
open Ba Fm
abbrev n_button : ByteArray := ⟨#[98, 117, 116, 116, 111, 110]⟩
abbrev n_caption : ByteArray := ⟨#[99, 97, 112, 116, 105, 111, 110]⟩
abbrev n_dd : ByteArray := ⟨#[100, 100]⟩
abbrev n_dl : ByteArray := ⟨#[100, 108]⟩
abbrev n_dt : ByteArray := ⟨#[100, 116]⟩
abbrev n_li : ByteArray := ⟨#[108, 105]⟩
abbrev n_menu : ByteArray := ⟨#[109, 101, 110, 117]⟩
abbrev n_ol : ByteArray := ⟨#[111, 108]⟩
abbrev n_optgroup : ByteArray := ⟨#[111, 112, 116, 103, 114, 111, 117, 112]⟩
abbrev n_option : ByteArray := ⟨#[111, 112, 116, 105, 111, 110]⟩
abbrev n_p : ByteArray := ⟨#[112]⟩
abbrev n_select : ByteArray := ⟨#[115, 101, 108, 101, 99, 116]⟩
abbrev n_table : ByteArray := ⟨#[116, 97, 98, 108, 101]⟩
abbrev n_tbody : ByteArray := ⟨#[116, 98, 111, 100, 121]⟩
abbrev n_td : ByteArray := ⟨#[116, 100]⟩
abbrev n_template : ByteArray := ⟨#[116, 101, 109, 112, 108, 97, 116, 101]⟩
abbrev n_tfoot : ByteArray := ⟨#[116, 102, 111, 111, 116]⟩
abbrev n_th : ByteArray := ⟨#[116, 104]⟩
abbrev n_thead : ByteArray := ⟨#[116, 104, 101, 97, 100]⟩
abbrev n_tr : ByteArray := ⟨#[116, 114]⟩
abbrev n_ul : ByteArray := ⟨#[117, 108]⟩
abbrev voidL : List ByteArray := [⟨#[97, 114, 101, 97]⟩, ⟨#[98, 97, 115, 101]⟩, ⟨#[98, 114]⟩, ⟨#[99, 111, 108]⟩, ⟨#[101, 109, 98, 101, 100]⟩, ⟨#[104, 114]⟩, ⟨#[105, 109, 103]⟩, ⟨#[105, 110, 112, 117, 116]⟩, ⟨#[108, 105, 110, 107]⟩, ⟨#[109, 101, 116, 97]⟩, ⟨#[112, 97, 114, 97, 109]⟩, ⟨#[115, 111, 117, 114, 99, 101]⟩, ⟨#[116, 114, 97, 99, 107]⟩, ⟨#[119, 98, 114]⟩]
abbrev rawL : List ByteArray := [⟨#[105, 102, 114, 97, 109, 101]⟩, ⟨#[110, 111, 101, 109, 98, 101, 100]⟩, ⟨#[110, 111, 102, 114, 97, 109, 101, 115]⟩, ⟨#[115, 99, 114, 105, 112, 116]⟩, ⟨#[115, 116, 121, 108, 101]⟩, ⟨#[120, 109, 112]⟩]
abbrev softL : List ByteArray := [⟨#[116, 101, 120, 116, 97, 114, 101, 97]⟩, ⟨#[116, 105, 116, 108, 101]⟩]
abbrev blockL : List ByteArray := [⟨#[97, 100, 100, 114, 101, 115, 115]⟩, ⟨#[97, 114, 116, 105, 99, 108, 101]⟩, ⟨#[97, 115, 105, 100, 101]⟩, ⟨#[98, 108, 111, 99, 107, 113, 117, 111, 116, 101]⟩, ⟨#[99, 101, 110, 116, 101, 114]⟩, n_dd, ⟨#[100, 101, 116, 97, 105, 108, 115]⟩, ⟨#[100, 105, 97, 108, 111, 103]⟩, ⟨#[100, 105, 114]⟩, ⟨#[100, 105, 118]⟩, n_dl, n_dt, ⟨#[102, 105, 101, 108, 100, 115, 101, 116]⟩, ⟨#[102, 105, 103, 99, 97, 112, 116, 105, 111, 110]⟩, ⟨#[102, 105, 103, 117, 114, 101]⟩, ⟨#[102, 111, 111, 116, 101, 114]⟩, ⟨#[102, 111, 114, 109]⟩, ⟨#[104, 49]⟩, ⟨#[104, 50]⟩, ⟨#[104, 51]⟩, ⟨#[104, 52]⟩, ⟨#[104, 53]⟩, ⟨#[104, 54]⟩, ⟨#[104, 101, 97, 100, 101, 114]⟩, ⟨#[104, 103, 114, 111, 117, 112]⟩, ⟨#[104, 114]⟩, n_li, ⟨#[109, 97, 105, 110]⟩, n_menu, ⟨#[110, 97, 118]⟩, n_ol, n_p, ⟨#[112, 114, 101]⟩, ⟨#[115, 101, 99, 116, 105, 111, 110]⟩, ⟨#[115, 117, 109, 109, 97, 114, 121]⟩, n_table, n_ul, ⟨#[120, 109, 112]⟩]
abbrev goneL : List ByteArray := [⟨#[98, 111, 100, 121]⟩, ⟨#[102, 114, 97, 109, 101, 115, 101, 116]⟩, ⟨#[104, 101, 97, 100]⟩, ⟨#[104, 116, 109, 108]⟩]
abbrev tableL : List ByteArray := [n_tbody, n_td, n_tfoot, n_th, n_thead, n_tr]

def closesL (s : ByteArray) : List ByteArray :=
  if s = n_li then [n_li] else if s = n_dd then [n_dd, n_dt] else if s = n_dt then [n_dd, n_dt] else if s = n_option then [n_option] else if s = n_optgroup then [n_optgroup, n_option] else if s = n_tr then [n_td, n_th, n_tr]
  else if s = n_td then [n_td, n_th] else if s = n_th then [n_td, n_th] else if s = n_tbody then tableL else if s = n_tfoot then tableL else if s = n_thead then tableL else if isIn s blockL = true then [n_p] else []
def wallsL (s : ByteArray) : List ByteArray :=
  if s = n_li then [n_menu, n_ol, n_template, n_ul] else if s = n_dd then [n_dl, n_template] else if s = n_dt then [n_dl, n_template] else if s = n_option then [n_select, n_template] else if s = n_optgroup then [n_select, n_template]
  else if s = n_tr then [n_table, n_template] else if s = n_td then [n_table, n_template] else if s = n_th then [n_table, n_template] else if s = n_tbody then [n_table, n_template] else if s = n_tfoot then [n_table, n_template] else if s = n_thead then [n_table, n_template]
  else [n_button, n_caption, n_table, n_td, n_template, n_th]

def elB (c : UInt8) : Bool := !(sp c || (65 ≤ c && c ≤ 90) || c == 0 || c == 47 || c == 62)
def atB (c : UInt8) : Bool := elB c && !(c == 34 || c == 39 || c == 60 || c == 61)
def small (c : UInt8) : Bool := 97 ≤ c && c ≤ 122
def rightL : List UInt8 → Bool
  | [] => false
  | c :: r => small c && (c :: r).all elB
def attrL : List UInt8 → Bool
  | [] => false
  | c :: r => (c :: r).all atB
def rightB (s : ByteArray) : Bool := rightL (L s)
def attrB (s : ByteArray) : Bool := attrL (L s)

end Go.Proofs.YtgjlfcamgkeibaaGreatDoor.Nm

namespace Go.Proofs.YtgjlfcamgkeibaaGreatDoor.Co
set_option linter.unusedSimpArgs false
set_option linter.unusedVariables false
open Ba Fm Fo Nm Rk
structure Pe where
  el : ByteArray
  at_ : List ByteArray
structure Cf where
  allow : Bool
  attrsAllow : Bool
  els : List ByteArray
  reps : List ByteArray
  ats : List ByteArray
  per : List Pe
  comments : Bool
  dataAttrs : Bool

def elementN (c : Cf) (s : ByteArray) : Nat := if isIn s c.reps = true then 2 else if isIn s c.els = c.allow then 0 else 1
def namedB (c : Cf) (e a : ByteArray) : Bool := (c.per.any fun p => decide (p.el = e) && isIn a p.at_) || isIn a c.ats
def dataL : List UInt8 := [100, 97, 116, 97, 45]
def dataB (a : ByteArray) : Bool := decide (5 < a.size) && decide ((L a).take 5 = dataL)
def attrB12 (c : Cf) (e a : ByteArray) : Bool := if c.attrsAllow = true then namedB c e a || (c.dataAttrs && dataB a) else !namedB c e a
def onceB (l : List ByteArray) : Bool := decide l.Nodup
def meetB (a b : List ByteArray) : Bool := a.any fun x => isIn x b
def bigB (c : Cf) : Bool := decide (64 < c.els.length) || decide (64 < c.reps.length) || decide (64 < c.ats.length) || decide (64 < c.per.length) || c.per.any fun p => decide (64 < p.at_.length)
def namesB (c : Cf) : Bool := c.els.all rightB && c.reps.all rightB && c.ats.all Nm.attrB && c.per.all fun p => rightB p.el && p.at_.all Nm.attrB
def singleB (c : Cf) : Bool := onceB c.els && onceB c.reps && onceB c.ats && onceB (c.per.map Pe.el) && c.per.all fun p => onceB p.at_
def bothB (c : Cf) : Bool := meetB c.els c.reps || (c.dataAttrs && !c.attrsAllow) || c.per.any fun p => meetB p.at_ c.ats
def checkN (c : Cf) : Nat := if bigB c = true then 2 else if namesB c = false then 121 else if singleB c = false then 122 else if bothB c = true then 120 else 0

/-! ### Lists -/
theorem isIn_iff {x : ByteArray} {l : List ByteArray} : isIn x l = true ↔ x ∈ l := ⟨isIn_of, isIn_yes⟩
theorem meet_iff {a b : List ByteArray} : meetB a b = true ↔ ∃ x, x ∈ a ∧ x ∈ b := by
  unfold meetB
  rw [List.any_eq_true]
  exact ⟨fun ⟨x, h1, h2⟩ => ⟨x, h1, isIn_of h2⟩, fun ⟨x, h1, h2⟩ => ⟨x, h1, isIn_yes h2⟩⟩
/-! ### In order -/
instance : DecidableEq Pe := fun a b => by
  cases a; cases b
  rw [Pe.mk.injEq]
  infer_instance
/-! ### May it be -/
/-! ### Without what is never safe -/
/-! ### Data, few, turned -/
end Go.Proofs.YtgjlfcamgkeibaaGreatDoor.Co

namespace Go.Proofs.YtgjlfcamgkeibaaGreatDoor.Co
set_option linter.unusedSimpArgs false
set_option linter.unusedVariables false
open Ba Fm Fo Nm Rk
abbrev plainEls : List ByteArray := [⟨#[97]⟩, ⟨#[97, 98, 98, 114]⟩, ⟨#[97, 114, 116, 105, 99, 108, 101]⟩, ⟨#[98]⟩, ⟨#[98, 108, 111, 99, 107, 113, 117, 111, 116, 101]⟩, ⟨#[98, 114]⟩, ⟨#[99, 111, 100, 101]⟩, ⟨#[100, 100]⟩, ⟨#[100, 105, 118]⟩, ⟨#[100, 108]⟩, ⟨#[100, 116]⟩, ⟨#[101, 109]⟩, ⟨#[104, 49]⟩, ⟨#[104, 50]⟩, ⟨#[104, 51]⟩, ⟨#[104, 52]⟩, ⟨#[104, 53]⟩, ⟨#[104, 54]⟩, ⟨#[104, 114]⟩, ⟨#[105]⟩, ⟨#[105, 109, 103]⟩, ⟨#[108, 105]⟩, ⟨#[111, 108]⟩, ⟨#[112]⟩, ⟨#[112, 114, 101]⟩, ⟨#[115, 101, 99, 116, 105, 111, 110]⟩, ⟨#[115, 112, 97, 110]⟩, ⟨#[115, 116, 114, 111, 110, 103]⟩, ⟨#[116, 97, 98, 108, 101]⟩, ⟨#[116, 98, 111, 100, 121]⟩, ⟨#[116, 100]⟩, ⟨#[116, 104]⟩, ⟨#[116, 104, 101, 97, 100]⟩, ⟨#[116, 114]⟩, ⟨#[117]⟩, ⟨#[117, 108]⟩]
abbrev plainAts : List ByteArray := [⟨#[97, 108, 116]⟩, ⟨#[99, 108, 97, 115, 115]⟩, ⟨#[100, 105, 114]⟩, ⟨#[104, 101, 105, 103, 104, 116]⟩, ⟨#[105, 100]⟩, ⟨#[108, 97, 110, 103]⟩, ⟨#[116, 105, 116, 108, 101]⟩, ⟨#[119, 105, 100, 116, 104]⟩]
def plainC : Cf := ⟨true, true, plainEls, [], plainAts, [⟨⟨#[97]⟩, [⟨#[104, 114, 101, 102]⟩]⟩, ⟨⟨#[105, 109, 103]⟩, [⟨#[115, 114, 99]⟩]⟩, ⟨⟨#[116, 100]⟩, [⟨#[99, 111, 108, 115, 112, 97, 110]⟩, ⟨#[114, 111, 119, 115, 112, 97, 110]⟩]⟩], false, false⟩
def allC : Cf := ⟨false, false, [], [], [], [], true, false⟩

end Go.Proofs.YtgjlfcamgkeibaaGreatDoor.Co

namespace Go.Proofs.YtgjlfcamgkeibaaGreatDoor.Lk
set_option linter.unusedSimpArgs false
set_option linter.unusedVariables false
open Fm
def edge (c : UInt8) : Bool := decide (c ≤ 32)
def inn (c : UInt8) : Bool := c == 9 || c == 10 || c == 13
def kept (l : List UInt8) : List UInt8 := l.filter fun c => !inn c
def frontL (l : List UInt8) : List UInt8 := l.dropWhile edge
def backL (l : List UInt8) : List UInt8 := (l.reverse.dropWhile edge).reverse
def stripL (l : List UInt8) : List UInt8 := kept (backL (frontL l))

theorem front_yes {c : UInt8} (l : List UInt8) (h : edge c = true) : frontL (c :: l) = frontL l := by simp [frontL, List.dropWhile_cons, h]
theorem front_no {c : UInt8} (l : List UInt8) (h : edge c = false) : frontL (c :: l) = c :: l := by simp [frontL, List.dropWhile_cons, h]
theorem back_yes {c : UInt8} (l : List UInt8) (h : edge c = true) : backL (l ++ [c]) = backL l := by simp [backL, List.dropWhile_cons, h]
theorem back_no {c : UInt8} (l : List UInt8) (h : edge c = false) : backL (l ++ [c]) = l ++ [c] := by simp [backL, List.dropWhile_cons, h]
theorem kept_append (a b : List UInt8) : kept (a ++ b) = kept a ++ kept b := List.filter_append ..
theorem kept_yes {c : UInt8} (h : inn c = true) : kept [c] = [] := by simp [kept, h]
theorem kept_no {c : UInt8} (h : inn c = false) : kept [c] = [c] := by simp [kept, h]
theorem front_len : ∀ l : List UInt8, (frontL l).length ≤ l.length
  | [] => Nat.le_refl _
  | c :: l => by
    cases he : edge c with
    | true => rw [front_yes _ he]; have := front_len l; simp only [List.length_cons]; omega
    | false => rw [front_no _ he]; exact Nat.le_refl _
theorem back_len (l : List UInt8) : (backL l).length ≤ l.length := by
  show (frontL l.reverse).reverse.length ≤ _
  rw [List.length_reverse]
  have := front_len l.reverse
  rw [List.length_reverse] at this
  exact this
theorem kept_len (l : List UInt8) : (kept l).length ≤ l.length := List.length_filter_le _ _
theorem strip_len (l : List UInt8) : (stripL l).length ≤ l.length := Nat.le_trans (kept_len _) (Nat.le_trans (back_len _) (front_len l))

def oth (c : UInt8) : Bool := (decide (48 ≤ c) && decide (c ≤ 57)) || c == 43 || c == 45 || c == 46
def sch (p : Bool) (c : UInt8) : Bool := lr c || (p && oth c)
def st : Bool → List UInt8 → List UInt8
  | _, [] => []
  | p, c :: r => if sch p c = true then c :: st true r else []
theorem st_nil (p : Bool) : st p [] = [] := rfl
theorem st_yes {p : Bool} {c : UInt8} (r : List UInt8) (h : sch p c = true) : st p (c :: r) = c :: st true r := by rw [st, if_pos h]
theorem st_no {p : Bool} {c : UInt8} (r : List UInt8) (h : sch p c = false) : st p (c :: r) = [] := by rw [st, if_neg (by rw [h]; exact Bool.false_ne_true)]
def colonL (l : List UInt8) : Option Nat := if 0 < (st false l).length ∧ l[(st false l).length]? = some 58 then some (st false l).length else none
def upTo (l : List UInt8) (k : Nat) : Prop := st false l = l.take k ++ st (decide (0 < k)) (l.drop k)
theorem upTo_zero (l : List UInt8) : upTo l 0 := rfl
theorem upTo_next {l : List UInt8} {k : Nat} (h : upTo l k) (hk : k < l.length) (hs : sch (decide (0 < k)) l[k] = true) : upTo l (k + 1) := by
  unfold upTo at *
  rw [h, List.drop_eq_getElem_cons hk, st_yes _ hs, List.take_succ_eq_append_getElem hk, List.append_assoc]
  rfl
theorem upTo_stop {l : List UInt8} {k : Nat} (h : upTo l k) (hk : k < l.length) (hs : sch (decide (0 < k)) l[k] = false) : (st false l).length = k := by
  unfold upTo at h
  rw [h, List.drop_eq_getElem_cons hk, st_no _ hs, List.append_nil, List.length_take]
  omega
theorem upTo_end {l : List UInt8} {k : Nat} (h : upTo l k) (hk : k = l.length) : (st false l).length = k := by
  unfold upTo at h
  rw [h, List.drop_eq_nil_of_le (by omega), st_nil, List.append_nil, List.length_take]
  omega
theorem colon_stop {l : List UInt8} {k : Nat} (hs : (st false l).length = k) (h0 : 0 < k) (hk : k < l.length) (hc : l[k] = 58) : colonL l = some k := by
  unfold colonL
  rw [hs, if_pos ⟨h0, by rw [List.getElem?_eq_getElem hk, hc]⟩]
theorem colon_not {l : List UInt8} {k : Nat} (hs : (st false l).length = k) (h : k = 0 ∨ k = l.length ∨ ∃ hk : k < l.length, l[k] ≠ 58) : colonL l = none := by
  unfold colonL
  rw [hs, if_neg]
  rintro ⟨h1, h2⟩
  rcases h with h | h | ⟨hk, h⟩
  · omega
  · have := (List.getElem?_eq_some_iff.1 h2).1
    omega
  · rw [List.getElem?_eq_getElem hk] at h2
    injection h2 with h2
    exact h h2
def schemeO (s : List UInt8) : Option (List UInt8) := (colonL (stripL s)).map fun k => lowL ((stripL s).take k)
def schemeL (s : List UInt8) : List UInt8 := (schemeO s).getD []
def hasL (s : List UInt8) : Bool := (schemeO s).isSome
def hb (c : UInt8) : Bool := (decide (48 ≤ c) && decide (c ≤ 57)) || (decide (97 ≤ c) && decide (c ≤ 102)) || (decide (65 ≤ c) && decide (c ≤ 70))
def hv (c : UInt8) : Nat := if 48 ≤ c ∧ c ≤ 57 then c.toNat - 48 else if 97 ≤ c ∧ c ≤ 102 then c.toNat - 87 else if 65 ≤ c ∧ c ≤ 70 then c.toNat - 55 else 0
def mk : List UInt8 → Option UInt8
  | a :: b :: c :: _ => if a == 37 && (hb b && hb c) then some (UInt8.ofNat (16 * hv b + hv c)) else none
  | _ => none
def js : List UInt8 := [106, 97, 118, 97, 115, 99, 114, 105, 112, 116]
def scriptL (s : List UInt8) : Bool := decide (schemeL s = js)
end Go.Proofs.YtgjlfcamgkeibaaGreatDoor.Lk

namespace Go.Proofs.YtgjlfcamgkeibaaGreatDoor.Rk
set_option linter.unusedSimpArgs false
set_option linter.unusedVariables false
open Fm Ba Lk
open Ro (At Ro)
def hand : List UInt8 → Bool
  | a :: b :: _ :: _ => a == 111 && b == 110
  | _ => false
def leadsL : List (ByteArray × ByteArray) := [(⟨#[97]⟩, ⟨#[104, 114, 101, 102]⟩), (⟨#[97, 114, 101, 97]⟩, ⟨#[104, 114, 101, 102]⟩), (⟨#[98, 117, 116, 116, 111, 110]⟩, ⟨#[102, 111, 114, 109, 97, 99, 116, 105, 111, 110]⟩), (⟨#[101, 109, 98, 101, 100]⟩, ⟨#[115, 114, 99]⟩), (⟨#[102, 111, 114, 109]⟩, ⟨#[97, 99, 116, 105, 111, 110]⟩), (⟨#[102, 114, 97, 109, 101]⟩, ⟨#[115, 114, 99]⟩), (⟨#[105, 102, 114, 97, 109, 101]⟩, ⟨#[115, 114, 99]⟩), (⟨#[105, 110, 112, 117, 116]⟩, ⟨#[102, 111, 114, 109, 97, 99, 116, 105, 111, 110]⟩), (⟨#[111, 98, 106, 101, 99, 116]⟩, ⟨#[100, 97, 116, 97]⟩)]
def takesL : List (ByteArray × ByteArray) := [(⟨#[115, 99, 114, 105, 112, 116]⟩, ⟨#[115, 114, 99]⟩), (⟨#[101, 109, 98, 101, 100]⟩, ⟨#[115, 114, 99]⟩), (⟨#[111, 98, 106, 101, 99, 116]⟩, ⟨#[100, 97, 116, 97]⟩)]
def pairB (P : List (ByteArray × ByteArray)) (e a : ByteArray) : Bool := P.any fun p => decide (p.1 = e) && decide (p.2 = a)
theorem pair_mem {P : List (ByteArray × ByteArray)} {e a : ByteArray} : pairB P e a = true ↔ (e, a) ∈ P := by
  unfold pairB
  rw [List.any_eq_true]
  constructor
  · rintro ⟨p, hp, h⟩
    rw [Bool.and_eq_true, decide_eq_true_iff, decide_eq_true_iff] at h
    have : p = (e, a) := Prod.ext h.1 h.2
    rw [← this]
    exact hp
  · intro h
    exact ⟨_, h, by rw [Bool.and_eq_true]; exact ⟨decide_eq_true rfl, decide_eq_true rfl⟩⟩
def docB (e a : ByteArray) : Bool := decide (e = ⟨#[105, 102, 114, 97, 109, 101]⟩) && decide (a = ⟨#[115, 114, 99, 100, 111, 99]⟩)
def navB (e a : ByteArray) : Bool := pairB leadsL e a
def sinkN (e a : ByteArray) : Nat := if hand (L a) = true then 2 else if pairB takesL e a = true then 3 else if docB e a = true then 1 else 0
def attrB (e : ByteArray) (x : At) : Bool := decide (sinkN e x.name ≠ 0) || (navB e x.name && scriptL (L x.value))
/-! ### The reference's pairs: an element and an attribute with a blank between them. -/
def namesB (e a : ByteArray) : Bool := !isIn (⟨#[]⟩ : ByteArray) [e, a] && decide ((32 : UInt8) ∉ L e)
def goodP (P : List (ByteArray × ByteArray)) : Prop := ∀ p ∈ P, (32 : UInt8) ∉ L p.1 ∧ p.1 ≠ ⟨#[]⟩ ∧ p.2 ≠ ⟨#[]⟩
instance (P : List (ByteArray × ByteArray)) : Decidable (goodP P) := by unfold goodP; infer_instance
end Go.Proofs.YtgjlfcamgkeibaaGreatDoor.Rk

namespace Go.Proofs.YtgjlfcamgkeibaaGreatDoor.Cn
set_option linter.unusedSimpArgs false
set_option linter.unusedVariables false
open Ba Ro
open Co (Cf Pe elementN attrB12 checkN allC)
open Rk (neverB)
def fateN (c : Cf) (s : Bool) (x : Ro) : Nat := if x.kind = 1 then 0 else if x.kind = 2 then (if c.comments = true then 0 else 1) else if (s && neverB x.name) = true then 1 else elementN c x.name
def keepB (c : Cf) (s : Bool) (e : ByteArray) (a : At) : Bool := attrB12 c e a.name && !(s && Rk.attrB e a)
def attrsL (c : Cf) (s : Bool) (e : ByteArray) (l : List At) : List At := l.filter (keepB c s e)
def attrsF (c : Cf) (s : Bool) (x : Ro) : List At := attrsL c s x.name x.attrs
def keptL (c : Cf) (s : Bool) (l : List Ro) : List Ro := K (fateN c s) (attrsF c s) 0 l
def cleanL (c : Cf) (s : Bool) (l : List Ro) : List Ro := normal (keptL c s l)

theorem twice_filter (p : At → Bool) : ∀ l : List At, twice l = false → twice (l.filter p) = false
  | [], _ => rfl
  | a :: r, h => by
    rw [twice, Bool.or_eq_false_iff] at h
    rw [List.filter_cons]
    split
    · rw [twice, twice_filter p r h.2, Bool.or_false, List.any_eq_false]
      intro b hb
      exact List.any_eq_false.1 h.1 b (List.mem_filter.1 hb).1
    · exact twice_filter p r h.2
theorem ok_filter {x : Ro} (p : At → Bool) (h : okRow x = true) (e : Int) : okRow ⟨e, x.kind, x.name, x.data, x.attrs.filter p⟩ = true := by
  unfold okRow at h ⊢
  by_cases hk : (x.kind == 0) = true
  · rw [if_pos hk] at h ⊢
    rw [Bool.and_eq_true] at h ⊢
    refine ⟨h.1, ?_⟩
    have h2 := h.2
    rw [Bool.not_eq_true'] at h2 ⊢
    exact twice_filter p _ h2
  · rw [if_neg hk] at h ⊢
    rw [Bool.and_eq_true] at h ⊢
    refine ⟨h.1, ?_⟩
    have h2 := h.2
    rw [beq_iff_eq] at h2 ⊢
    have : x.attrs = [] := List.length_eq_zero_iff.1 (by omega)
    rw [this]
    rfl
theorem ok_kept (c : Cf) (s : Bool) : ∀ x : Ro, okRow x = true → ∀ e, okRow ⟨e, x.kind, x.name, x.data, attrsF c s x⟩ = true := fun x h e => ok_filter _ h e
theorem kept_wd (c : Cf) (s : Bool) {l : List Ro} (h : right l = true) : Wd 0 (keptL c s l) := K_fo (ok_kept c s) (fo_right h) 0 (by omega)
theorem clean_nr (c : Cf) (s : Bool) {l : List Ro} (h : right l = true) : cleanL c s l = nr (keptL c s l) := normal_fo (kept_wd c s h)
theorem clean_wd (c : Cf) (s : Bool) {l : List Ro} (h : right l = true) : Wd 0 (cleanL c s l) := by rw [clean_nr c s h]; exact nr_fo (kept_wd c s h)
theorem clean_right (c : Cf) (s : Bool) {l : List Ro} (h : right l = true) : right (cleanL c s l) = true := (clean_wd c s h).2
theorem clean_len (c : Cf) (s : Bool) {l : List Ro} (h : right l = true) : (cleanL c s l).length ≤ l.length :=
  Nat.le_trans (normal_from _ _ (Nat.le_refl _)).1 (K_len (fo_right h) 0)
theorem clean_deep (c : Cf) (s : Bool) {l : List Ro} (h : right l = true) : ∀ y ∈ cleanL c s l, ∃ x ∈ l, y.depth ≤ x.depth := fun y hy => by
  obtain ⟨z, hz, e, _⟩ := (normal_from _ _ (Nat.le_refl _)).2 y hy
  obtain ⟨x, hx, _, hd, _⟩ := K_mem (fo_right h) 0 (by omega) z hz
  exact ⟨x, hx, by omega⟩
theorem clean_check (c : Cf) (s : Bool) {l : List Ro} (h : check l = 0) : check (cleanL c s l) = 0 := by
  obtain ⟨h1, h2⟩ := check_parts h
  exact check_of (exceeds_less h1 (clean_len c s h2) (clean_deep c s h2)) (clean_right c s h2)

theorem clean_id {c : Cf} {s : Bool} {l : List Ro} (h : right l = true) (hn : Nrm l) (hx : ∀ x ∈ l, fateN c s x = 0 ∧ attrsF c s x = x.attrs) : cleanL c s l = l := by
  unfold cleanL keptL
  rw [K_id (fo_right h) hx, normal_nrm l 0 h hn]
/-! ### By one configuration, then by another -/
theorem all_attr (e a : ByteArray) : attrB12 allC e a = true := rfl
/-! ### All stays; nothing stays -/
theorem all_stays {l : List Ro} (h : right l = true) (hn : Nrm l) : cleanL allC false l = l := by
  refine clean_id h hn fun x hx => ⟨?_, ?_⟩
  · unfold fateN
    split
    · rfl
    · split
      · rfl
      · rw [Bool.false_and, if_neg (by decide)]; rfl
  · unfold attrsF attrsL
    rw [List.filter_eq_self]
    intro a _
    unfold keepB
    rw [all_attr]
    rfl
/-! ### Text -/
/-! ### What is replaced leaves what it has -/
end Go.Proofs.YtgjlfcamgkeibaaGreatDoor.Cn

namespace Go.Proofs.YtgjlfcamgkeibaaGreatDoor.Rz
set_option linter.unusedVariables false
set_option linter.unusedSimpArgs false
open Go.RowKit Go.ChangeShapes Go.WideShapes
def Within {H : Type} (P : Program) (t : TypeId) (d : DataW H) : Prop := ∀ m ∈ d.weights P t, m ≤ reachBytes
theorem Within.part {H : Type} {P : Program} {t : TypeId} {fs : Array Field} {l : List (DataW H)} {d : DataW H} {j : Nat} {f : Field} (h : Within P t (.agg l)) (ht : P.underlying t = some (.struct fs)) (hf : fs[j]? = some f) (hd : l[j]? = some d) : Within P f.type d := fun m hm => h m (by
  simp only [DataW.weights, ht]
  exact DataW.weights_mem_each (j := j) (by rw [List.getElem?_map, Array.getElem?_toList, hf]; rfl) hd m hm)
end Go.Proofs.YtgjlfcamgkeibaaGreatDoor.Rz

namespace Go.Proofs.YtgjlfcamgkeibaaGreatDoor.Rz
set_option maxRecDepth 100000
set_option linter.unusedVariables false
set_option linter.unusedSimpArgs false
open Go.RowKit Ba Go.ChangeShapes Go.WideShapes Go.Deep
open Ro (At Ro Cw ros Rv Rr Att Held cells acells Ra Sh)
def SmallA (l : List At) : Prop := ∀ a ∈ l, a.name.size ≤ 140737488355328 ∧ a.value.size ≤ 140737488355328
def SmallR (x : Ro) : Prop := x.name.size ≤ 140737488355328 ∧ x.data.size ≤ 140737488355328 ∧ SmallA x.attrs
def Small (l : List Ro) : Prop := ∀ x ∈ l, SmallR x
section
variable {H : Type} {enc : TypeId × Value → H} {w : World} {base : Nat}
end
end Go.Proofs.YtgjlfcamgkeibaaGreatDoor.Rz

namespace Go.Proofs.YtgjlfcamgkeibaaGreatDoor.Cn
set_option linter.unusedVariables false
set_option linter.unusedSimpArgs false
open Go.RowKit Ba Ro
open Co (Cf attrB12 elementN checkN)
def errI (c : Cf) (l : List Ro) : Int := if checkN c = 0 then check l else checkN c
theorem err_ok {c : Cf} {l : List Ro} : errI c l = 0 ↔ checkN c = 0 ∧ check l = 0 := by
  unfold errI
  constructor
  · intro h
    split at h
    · rename_i h1; exact ⟨h1, h⟩
    · rename_i h1; exact absurd h (by omega)
  · rintro ⟨h1, h2⟩
    rw [if_pos h1, h2]
def outL (c : Cf) (s : Bool) (l : List Ro) : List Ro := if errI c l = 0 then cleanL c s l else []
theorem held_check {l : List Ro} (h : check l = 0) : Held l := fun x hx => by
  obtain ⟨h1, h2⟩ := check_parts h
  have hn : ¬ exceeds l 4096 60 = true := by rw [h1]; decide
  rw [exceeds_iff] at hn
  have h3 := (fo_right h2).1 x hx
  have h4 : ¬ 60 ≤ x.depth := fun h => hn (.inr ⟨x, hx, h⟩)
  omega
theorem attrs_len (c : Cf) (s : Bool) (x : Ro) : (attrsF c s x).length ≤ x.attrs.length := List.length_filter_le _ _
theorem few_kept {c : Cf} {s : Bool} {l : List Ro} (hr : right l = true) (hf : Few l) : Few (keptL c s l) := fun y hy => by
  obtain ⟨x, hx, _, _, h⟩ := K_mem (fo_right hr) 0 (by omega) y hy
  rw [h]
  exact Nat.le_trans (attrs_len c s x) (hf x hx)
end Go.Proofs.YtgjlfcamgkeibaaGreatDoor.Cn

namespace Go.Proofs.YtgjlfcamgkeibaaGreatDoor.Rm
set_option linter.unusedSimpArgs false
set_option linter.unusedVariables false

def enc (n : Nat) : List UInt8 :=
  if n < 128 then [UInt8.ofNat n]
  else if n < 2048 then [UInt8.ofNat (192 + n / 64), UInt8.ofNat (128 + n % 64)]
  else if n < 65536 then [UInt8.ofNat (224 + n / 4096), UInt8.ofNat (128 + n / 64 % 64), UInt8.ofNat (128 + n % 64)]
  else [UInt8.ofNat (240 + n / 262144), UInt8.ofNat (128 + n / 4096 % 64), UInt8.ofNat (128 + n / 64 % 64), UInt8.ofNat (128 + n % 64)]
theorem len_enc (n : Nat) : (enc n).length ≤ 4 := by
  unfold enc
  repeat' split
  all_goals simp
def bad (n : Int) : Bool := decide (n < 1) || decide (1114111 < n) || (decide (55296 ≤ n) && decide (n ≤ 57343))
def code (n : Int) : List UInt8 := if bad n then [239, 191, 189] else if n = 13 then [10] else enc n.toNat
theorem len_code (n : Int) : (code n).length ≤ 4 := by
  unfold code
  split
  · simp
  · split
    · simp
    · exact len_enc _
def tab : List (List UInt8 × Nat) := [([97, 109, 112], 38), ([108, 116], 60), ([103, 116], 62), ([113, 117, 111, 116], 34), ([97, 112, 111, 115], 39), ([110, 98, 115, 112], 160), ([99, 111, 112, 121], 169), ([114, 101, 103], 174), ([112, 97, 114, 97], 182), ([109, 105, 100, 100, 111, 116], 183), ([101, 97, 99, 117, 116, 101], 233), ([97, 117, 109, 108], 228), ([111, 117, 109, 108], 246), ([117, 117, 109, 108], 252), ([115, 122, 108, 105, 103], 223), ([101, 117, 114, 111], 8364), ([104, 101, 108, 108, 105, 112], 8230), ([110, 100, 97, 115, 104], 8211), ([109, 100, 97, 115, 104], 8212), ([98, 117, 108, 108], 8226), ([84, 97, 98], 9), ([78, 101, 119, 76, 105, 110, 101], 10), ([99, 111, 108, 111, 110], 58), ([108, 112, 97, 114], 40)]
def look : List (List UInt8 × Nat) → List UInt8 → Option (List UInt8)
  | [], _ => none
  | p :: r, s => if p.1 = s then some (code p.2) else look r s
theorem look_some {t : List (List UInt8 × Nat)} {s x : List UInt8} (h : look t s = some x) : ∃ n, (s, n) ∈ t ∧ x = code n := by
  induction t with
  | nil => cases h
  | cons p r ih =>
    unfold look at h
    split at h
    · rename_i e
      injection h with h
      exact ⟨p.2, by rw [← e]; exact List.mem_cons_self, h.symm⟩
    · obtain ⟨n, h1, h2⟩ := ih h
      exact ⟨n, List.mem_cons_of_mem _ h1, h2⟩
theorem tab_long : ∀ p ∈ tab, 2 ≤ p.1.length ∧ (38 : UInt8) ∉ p.1 := by decide

def dig (c : UInt8) : Int := if 48 ≤ c.toNat ∧ c.toNat ≤ 57 then c.toNat - 48 else if 97 ≤ c.toNat ∧ c.toNat ≤ 102 then c.toNat - 87 else if 65 ≤ c.toNat ∧ c.toNat ≤ 70 then c.toNat - 55 else -1
theorem dig_le (c : UInt8) : -1 ≤ dig c ∧ dig c ≤ 15 := by
  unfold dig
  split
  · omega
  split
  · omega
  split
  · omega
  · omega
def val (base : Int) : Int → List UInt8 → Option Int
  | n, [] => some n
  | n, c :: r => if dig c < 0 ∨ base ≤ dig c then none else val base (min (n * base + dig c) 1114112) r
def numL (base : Int) (l : List UInt8) : Option (List UInt8) := if l = [] then none else (val base 0 l).map code
theorem val_no {base : Int} {l : List UInt8} {c : UInt8} (hc : c ∈ l) (hd : dig c < 0) (n : Int) : val base n l = none := by
  induction l generalizing n with
  | nil => cases hc
  | cons x r ih =>
    unfold val
    split
    · rfl
    · rename_i h
      rcases List.mem_cons.1 hc with e | hr
      · rw [← e] at h; exact absurd (Or.inl hd) h
      · exact ih hr _
def meant (s : List UInt8) : Option (List UInt8) :=
  if s.head? = some 35 then (if s[1]? = some 120 ∨ s[1]? = some 88 then numL 16 (s.drop 2) else numL 10 (s.drop 1)) else look tab s
theorem numL_some {base : Int} {l x : List UInt8} (h : numL base l = some x) : l ≠ [] ∧ ∃ n, x = code n := by
  unfold numL at h
  split at h
  · cases h
  · rename_i hl
    cases hv : val base 0 l with
    | none => rw [hv] at h; cases h
    | some n =>
      rw [hv] at h
      injection h with h
      exact ⟨hl, n, h.symm⟩
theorem meant_len {s t : List UInt8} (h : meant s = some t) : 2 ≤ s.length ∧ t.length ≤ 4 := by
  unfold meant at h
  split at h
  · split at h
    · obtain ⟨h1, n, rfl⟩ := numL_some h
      refine ⟨?_, len_code n⟩
      have : 0 < (s.drop 2).length := List.length_pos_iff.2 h1
      rw [List.length_drop] at this
      omega
    · obtain ⟨h1, n, rfl⟩ := numL_some h
      refine ⟨?_, len_code n⟩
      have : 0 < (s.drop 1).length := List.length_pos_iff.2 h1
      rw [List.length_drop] at this
      omega
  · obtain ⟨n, h1, rfl⟩ := look_some h
    exact ⟨(tab_long _ h1).1, len_code _⟩
theorem numL_no {base : Int} {l : List UInt8} {c : UInt8} (hc : c ∈ l) (hd : dig c < 0) : numL base l = none := by
  unfold numL
  split
  · rfl
  · rw [val_no hc hd]; rfl
theorem meant_amp {s : List UInt8} (h : (38 : UInt8) ∈ s) : meant s = none := by
  unfold meant
  have hd : dig 38 < 0 := by decide
  split
  · rename_i h1
    cases s with
    | nil => cases h
    | cons a r =>
      simp only [List.head?_cons, Option.some.injEq] at h1
      subst h1
      have hr : (38 : UInt8) ∈ r := by
        rcases List.mem_cons.1 h with e | e
        · exact absurd e (by decide)
        · exact e
      split
      · rename_i h2
        cases r with
        | nil => cases hr
        | cons b q =>
          simp only [List.getElem?_cons_succ, List.getElem?_cons_zero, Option.some.injEq] at h2
          have hq : (38 : UInt8) ∈ q := by
            rcases List.mem_cons.1 hr with e | e
            · subst e; exact absurd h2 (by decide)
            · exact e
          exact numL_no hq hd
      · exact numL_no hr hd
  · cases hl : look tab s with
    | none => rfl
    | some x =>
      obtain ⟨n, h1, _⟩ := look_some hl
      exact absurd h (tab_long _ h1).2

def cutAt : List UInt8 → Option (List UInt8)
  | [] => none
  | c :: r => if c = 59 then some [] else (cutAt r).map (c :: ·)
def bod : List UInt8 → Option (List UInt8)
  | [] => none
  | c :: r => if c = 59 then some [] else if c = 38 then none else (bod r).map (c :: ·)
theorem bod_cut (l : List UInt8) : (∀ b, bod l = some b → cutAt l = some b) ∧ (bod l = none → ∀ b, cutAt l = some b → (38 : UInt8) ∈ b) := by
  induction l with
  | nil => exact ⟨fun b h => (nomatch h), fun _ b h => (nomatch h)⟩
  | cons c r ih =>
    unfold bod cutAt
    by_cases h1 : c = 59
    · simp [h1]
    · by_cases h2 : c = 38
      · simp only [h2, if_true]
        refine ⟨fun b h => by simp at h, fun _ b h => ?_⟩
        cases hc : cutAt r with
        | none => simp [hc] at h
        | some x => simp [hc] at h; rw [← h]; exact List.mem_cons_self
      · simp only [h1, h2, if_false]
        refine ⟨fun b h => ?_, fun h b hb => ?_⟩
        · cases hb : bod r with
          | none => simp [hb] at h
          | some x => rw [ih.1 x hb]; rw [hb] at h; exact h
        · cases hq : bod r with
          | some x => simp [hq] at h
          | none =>
            cases hc : cutAt r with
            | none => simp [hc] at hb
            | some x =>
              simp [hc] at hb
              rw [← hb]
              exact List.mem_cons_of_mem _ (ih.2 hq x hc)
def refAt (r : List UInt8) : Option (List UInt8 × Nat) := match cutAt r with
  | some b => (meant b).map (·, b.length)
  | none => none
theorem refAt_bod (r : List UInt8) : refAt r = (match bod r with | some b => (meant b).map (·, b.length) | none => none) := by
  unfold refAt
  cases hb : bod r with
  | some b => rw [(bod_cut r).1 b hb]
  | none =>
    cases hc : cutAt r with
    | none => rfl
    | some b =>
      show (meant b).map _ = none
      rw [meant_amp ((bod_cut r).2 hb b hc)]
      rfl
theorem len_cut {r b : List UInt8} (h : cutAt r = some b) : b.length + 1 ≤ r.length := by
  induction r generalizing b with
  | nil => cases h
  | cons c r ih =>
    unfold cutAt at h
    split at h
    · injection h with h; rw [← h]; simp
    · cases hc : cutAt r with
      | none => simp [hc] at h
      | some x =>
        simp [hc] at h
        have := ih hc
        rw [← h]; simp; omega
theorem cutAt_stop (b r : List UInt8) (h : (59 : UInt8) ∉ b) : cutAt (b ++ 59 :: r) = some b := by
  induction b with
  | nil => simp [cutAt]
  | cons c q ih =>
    have h1 : ¬ c = 59 := fun e => h (by rw [e]; exact List.mem_cons_self)
    rw [List.cons_append, cutAt, if_neg h1, ih (fun e => h (List.mem_cons_of_mem _ e))]
    rfl

def fst : List UInt8 → List UInt8 × Nat
  | [] => ([], 1)
  | c :: r => if c = 38 then (match refAt r with | some (t, k) => (t, k + 2) | none => ([c], 1)) else ([c], 1)
theorem fst_cons (c : UInt8) (r : List UInt8) : fst (c :: r) = if c = 38 then (match refAt r with | some (t, k) => (t, k + 2) | none => ([c], 1)) else ([c], 1) := rfl
theorem fst_ok (l : List UInt8) (h : l ≠ []) : 1 ≤ (fst l).2 ∧ (fst l).2 ≤ l.length ∧ (fst l).1.length ≤ (fst l).2 := by
  cases l with
  | nil => exact absurd rfl h
  | cons c r =>
    rw [fst_cons]
    split
    · cases hr : refAt r with
      | none => simp
      | some p =>
        obtain ⟨t, k⟩ := p
        unfold refAt at hr
        cases hc : cutAt r with
        | none => rw [hc] at hr; cases hr
        | some b =>
          rw [hc] at hr
          simp only at hr
          cases hm : meant b with
          | none => rw [hm] at hr; cases hr
          | some x =>
            rw [hm] at hr
            simp only [Option.map_some, Option.some.injEq, Prod.mk.injEq] at hr
            obtain ⟨rfl, rfl⟩ := hr
            have h1 := meant_len hm
            have h2 := len_cut hc
            simp only [List.length_cons]
            omega
    · simp
theorem fst_byte {c : UInt8} (r : List UInt8) (h : c ≠ 38) : fst (c :: r) = ([c], 1) := by simp [fst, h]

def run (f : List UInt8 → List UInt8 × Nat) (l : List UInt8) : List UInt8 :=
  if _h : l = [] then [] else (f l).1 ++ run f (l.drop ((f l).2 - 1 + 1))
  termination_by l.length
  decreasing_by
    have : 0 < l.length := List.length_pos_iff.2 _h
    rw [List.length_drop]
    omega
theorem run_nil (f : List UInt8 → List UInt8 × Nat) : run f [] = [] := by rw [run]; simp
theorem run_step (f : List UInt8 → List UInt8 × Nat) {l : List UInt8} (h : l ≠ []) (hk : 1 ≤ (f l).2) : run f l = (f l).1 ++ run f (l.drop (f l).2) := by
  rw [run, dif_neg h, Nat.sub_add_cancel hk]
theorem steps {f : List UInt8 → List UInt8 × Nat} (hf : ∀ l, l ≠ [] → 1 ≤ (f l).2) {Q : List UInt8 → Prop} (h0 : Q []) (h1 : ∀ l, l ≠ [] → Q (l.drop (f l).2) → Q l) : ∀ l, Q l := by
  intro l
  induction hn : l.length using Nat.strongRecOn generalizing l with
  | ind n ih =>
    by_cases h : l = []
    · rw [h]; exact h0
    · refine h1 l h (ih _ ?_ _ rfl)
      have := hf l h
      have : 0 < l.length := List.length_pos_iff.2 h
      rw [List.length_drop]
      omega

def dec (l : List UInt8) : List UInt8 := run fst l
theorem dec_nil : dec [] = [] := run_nil fst
theorem dec_step {l : List UInt8} (h : l ≠ []) : dec l = (fst l).1 ++ dec (l.drop (fst l).2) := run_step fst h (fst_ok l h).1
theorem dec_byte {c : UInt8} (r : List UInt8) (h : c ≠ 38) : dec (c :: r) = c :: dec r := by
  rw [dec_step (List.cons_ne_nil _ _), fst_byte r h]; rfl
theorem len_dec (l : List UInt8) : (dec l).length ≤ l.length := by
  refine steps (f := fst) (fun l h => (fst_ok l h).1) (Q := fun l => (dec l).length ≤ l.length) (by rw [dec_nil]; exact Nat.le_refl _) (fun l h ih => ?_) l
  rw [dec_step h, List.length_append]
  have := fst_ok l h
  rw [List.length_drop] at ih
  omega
theorem dec_plain (a b : List UInt8) (h : (38 : UInt8) ∉ a) : dec (a ++ b) = a ++ dec b := by
  induction a with
  | nil => rfl
  | cons c r ih =>
    rw [List.cons_append, dec_byte _ (fun e => h (by rw [e]; exact List.mem_cons_self)), ih (fun e => h (List.mem_cons_of_mem _ e))]
    rfl
def e1 (q : Bool) (c : UInt8) : List UInt8 :=
  if c = 38 then [38, 97, 109, 112, 59] else if c = 60 then [38, 108, 116, 59] else if c = 62 then [38, 103, 116, 59] else if c = 34 ∧ q = true then [38, 113, 117, 111, 116, 59] else [c]
def est (q : Bool) : List UInt8 → List UInt8 × Nat
  | [] => ([], 1)
  | c :: r => if c = 194 ∧ r.head? = some 160 then ([38, 110, 98, 115, 112, 59], 2) else (e1 q c, 1)
def esc (q : Bool) (l : List UInt8) : List UInt8 := run (est q) l
theorem est_pos (q : Bool) (l : List UInt8) : 1 ≤ (est q l).2 := by
  cases l with
  | nil => exact Nat.le_refl _
  | cons c r =>
    show 1 ≤ (if c = 194 ∧ r.head? = some 160 then _ else _ : List UInt8 × Nat).2
    split
    · exact Nat.le_succ _
    · exact Nat.le_refl _
theorem esc_nil (q : Bool) : esc q [] = [] := run_nil _
theorem esc_step (q : Bool) {l : List UInt8} (h : l ≠ []) : esc q l = (est q l).1 ++ esc q (l.drop (est q l).2) := run_step _ h (est_pos q l)
theorem est_cases (q : Bool) (l : List UInt8) (h : l ≠ []) : (∃ r, l = 194 :: 160 :: r ∧ est q l = ([38, 110, 98, 115, 112, 59], 2)) ∨ (∃ c r, l = c :: r ∧ ¬ (c = 194 ∧ r.head? = some 160) ∧ est q l = (e1 q c, 1)) := by
  cases l with
  | nil => exact absurd rfl h
  | cons c r =>
    by_cases hc : c = 194 ∧ r.head? = some 160
    · left
      obtain ⟨rfl, h2⟩ := hc
      cases r with
      | nil => cases h2
      | cons d r =>
        simp only [List.head?_cons, Option.some.injEq] at h2
        subst h2
        exact ⟨r, rfl, by simp [est]⟩
    · right
      exact ⟨c, r, rfl, hc, by simp only [est, if_neg hc]⟩
theorem esc_nbsp (q : Bool) (r : List UInt8) : esc q (194 :: 160 :: r) = [38, 110, 98, 115, 112, 59] ++ esc q r := by
  rw [esc_step q (List.cons_ne_nil _ _)]; simp [est]
theorem esc_byte (q : Bool) {c : UInt8} {r : List UInt8} (h : ¬ (c = 194 ∧ r.head? = some 160)) : esc q (c :: r) = e1 q c ++ esc q r := by
  rw [esc_step q (List.cons_ne_nil _ _)]; simp only [est, if_neg h, List.drop_succ_cons, List.drop_zero]
theorem writes (q : Bool) {Q : List UInt8 → Prop} (h0 : Q []) (h1 : ∀ r, Q r → Q (194 :: 160 :: r)) (h2 : ∀ c r, ¬ (c = 194 ∧ r.head? = some 160) → Q r → Q (c :: r)) (l : List UInt8) : Q l := by
  refine steps (f := est q) (fun l _ => est_pos q l) h0 (fun l h ih => ?_) l
  rcases est_cases q l h with ⟨r, rfl, he⟩ | ⟨c, r, rfl, hc, he⟩
  · rw [he] at ih; exact h1 r ih
  · rw [he] at ih; exact h2 c r hc ih
theorem e1_cases (q : Bool) (c : UInt8) : (38 : UInt8) ∈ e1 q c ∧ 4 ≤ (e1 q c).length ∨ e1 q c = [c] ∧ c ≠ 38 := by
  unfold e1
  split
  · exact .inl ⟨by decide, by decide⟩
  split
  · exact .inl ⟨by decide, by decide⟩
  split
  · exact .inl ⟨by decide, by decide⟩
  split
  · exact .inl ⟨by decide, by decide⟩
  · rename_i h _ _ _
    exact .inr ⟨rfl, h⟩
theorem fst_ref {b t : List UInt8} (r : List UInt8) (hb : (59 : UInt8) ∉ b) (hm : meant b = some t) : fst (38 :: (b ++ 59 :: r)) = (t, b.length + 2) := by
  rw [fst_cons, if_pos rfl]
  unfold refAt
  rw [cutAt_stop b r hb]
  simp only [hm, Option.map_some]
theorem dec_ref {b t : List UInt8} (r : List UInt8) (hb : (59 : UInt8) ∉ b) (hm : meant b = some t) : dec (38 :: (b ++ 59 :: r)) = t ++ dec r := by
  rw [dec_step (List.cons_ne_nil _ _), fst_ref r hb hm]
  simp only
  congr 2
  rw [show b.length + 2 = (b.length + 1) + 1 from rfl, List.drop_succ_cons, List.drop_append]
  simp
theorem dec_esc (q : Bool) (l : List UInt8) : dec (esc q l) = l := by
  refine writes q (Q := fun l => dec (esc q l) = l) (by rw [esc_nil, dec_nil]) (fun r ih => ?_) (fun c r hc ih => ?_) l
  · rw [esc_nbsp]
    refine (dec_ref (b := [110, 98, 115, 112]) (t := [194, 160]) (esc q r) (by decide) (by decide)).trans ?_
    rw [ih]; rfl
  · rw [esc_byte q hc]
    unfold e1
    split
    · rename_i e; subst e
      refine (dec_ref (b := [97, 109, 112]) (t := [38]) (esc q r) (by decide) (by decide)).trans ?_
      rw [ih]; rfl
    split
    · rename_i e; subst e
      refine (dec_ref (b := [108, 116]) (t := [60]) (esc q r) (by decide) (by decide)).trans ?_
      rw [ih]; rfl
    split
    · rename_i e; subst e
      refine (dec_ref (b := [103, 116]) (t := [62]) (esc q r) (by decide) (by decide)).trans ?_
      rw [ih]; rfl
    split
    · rename_i e; obtain ⟨rfl, _⟩ := e
      refine (dec_ref (b := [113, 117, 111, 116]) (t := [34]) (esc q r) (by decide) (by decide)).trans ?_
      rw [ih]; rfl
    · rename_i h _ _ _
      refine (dec_byte (esc q r) h).trans ?_
      rw [ih]
theorem esc_free (q : Bool) (l : List UInt8) : (60 : UInt8) ∉ esc q l ∧ (62 : UInt8) ∉ esc q l ∧ (q = true → (34 : UInt8) ∉ esc q l) := by
  refine writes q (Q := fun l => (60 : UInt8) ∉ esc q l ∧ (62 : UInt8) ∉ esc q l ∧ (q = true → (34 : UInt8) ∉ esc q l)) (by rw [esc_nil]; simp) (fun r ih => ?_) (fun c r hc ih => ?_) l
  · rw [esc_nbsp]
    obtain ⟨i1, i2, i3⟩ := ih
    refine ⟨?_, ?_, fun hq => ?_⟩
    · simpa using i1
    · simpa using i2
    · simpa using i3 hq
  · rw [esc_byte q hc]
    obtain ⟨i1, i2, i3⟩ := ih
    have k : (60 : UInt8) ∉ e1 q c ∧ (62 : UInt8) ∉ e1 q c ∧ (q = true → (34 : UInt8) ∉ e1 q c) := by
      unfold e1
      split
      · refine ⟨by decide, by decide, fun _ => by decide⟩
      split
      · refine ⟨by decide, by decide, fun _ => by decide⟩
      split
      · refine ⟨by decide, by decide, fun _ => by decide⟩
      split
      · refine ⟨by decide, by decide, fun _ => by decide⟩
      · rename_i _ h1 h2 h3
        refine ⟨fun e => ?_, fun e => ?_, fun hq e => ?_⟩
        · rw [List.mem_singleton] at e; exact h1 e.symm
        · rw [List.mem_singleton] at e; exact h2 e.symm
        · rw [List.mem_singleton] at e; exact h3 ⟨e.symm, hq⟩
    obtain ⟨k1, k2, k3⟩ := k
    refine ⟨?_, ?_, fun hq => ?_⟩
    · rw [List.mem_append]; exact fun e => e.elim k1 i1
    · rw [List.mem_append]; exact fun e => e.elim k2 i2
    · rw [List.mem_append]; exact fun e => e.elim (k3 hq) (i3 hq)
theorem len_esc (q : Bool) (l : List UInt8) : l.length ≤ (esc q l).length ∧ (esc q l).length ≤ 6 * l.length ∧ ((38 : UInt8) ∈ l → l.length < (esc q l).length) := by
  refine writes q (Q := fun l => l.length ≤ (esc q l).length ∧ (esc q l).length ≤ 6 * l.length ∧ ((38 : UInt8) ∈ l → l.length < (esc q l).length)) (by rw [esc_nil]; simp) (fun r ih => ?_) (fun c r hc ih => ?_) l
  · rw [esc_nbsp]
    simp only [List.length_cons, List.length_append, List.length_nil]
    obtain ⟨i1, i2, i3⟩ := ih
    exact ⟨by omega, by omega, fun _ => by omega⟩
  · rw [esc_byte q hc]
    obtain ⟨i1, i2, i3⟩ := ih
    simp only [List.length_cons, List.length_append]
    have h6 : (e1 q c).length ≤ 6 := by
      unfold e1
      repeat' split
      all_goals simp
    rcases e1_cases q c with ⟨_, h4⟩ | ⟨he, hn⟩
    · exact ⟨by omega, by omega, fun _ => by omega⟩
    · rw [he]
      simp only [List.length_cons, List.length_nil]
      refine ⟨by omega, by omega, fun hm => ?_⟩
      rcases List.mem_cons.1 hm with e | e
      · exact absurd e.symm hn
      · have := i3 e; omega
end Go.Proofs.YtgjlfcamgkeibaaGreatDoor.Rm
