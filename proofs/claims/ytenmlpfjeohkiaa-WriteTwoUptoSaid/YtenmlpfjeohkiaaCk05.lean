/-
  Walks of stage 8: Inside, Rows.
  Tokens of documents that are written out: the same functions by steps that are counted, so that they can be reckoned.
  Stage 7, in plain words: trees of given bytes, reckoned; nothing of the program.
  Stage 8, in plain words: the samples that the document fixes.
  Stage 8: the law's bound: forty rows of six attributes; arguments that are rows, and their bulk.
  Stage 4, plain: a node's tree alone, and the rows without it.
  Stage 8, in plain words: trees behind trees, written; how long what is written is.
  Arguments that are rows, as a statement's row reads them, and their bulk, attributes and all.
  Walks of stage 1: chars.Count, chars.startsReplaced, chars.Sample: each returns what the plain function of CharsSpec says, for every string.
  Walks of stage 5: names.inElement, inAttr, every, Attr, Right.
  Walks of stage 8: begins, ends, contains, clean and what a legal row is.
  Walks of stage 5: bolting/names.Closes: what an element closes, and what ends the search.
  Walks of stage 5: bolting/names.Walls: what an element closes, and what ends the search.
  Walks of stage 7: the open elements from the end on (a range over a function): among, fromEnd, find.
-/
import Derived.Test.YtenmlpfjeohkiaaCk04
import Derived.Laws.EntriesVeiled
import Derived.Test.YtenmlpfjeohkiaaCk02
import Derived.Test.YtenmlpfjeohkiaaCk01
import Derived.Test.YtenmlpfjeohkiaaCk03
import Derived.Test.YtenmlpfjeohkiaaRows
import Derived.WalkKit
import Derived.WalkSpells
import Derived.Lib.OthersKept
import Derived.Lib.Hide
import Derived.Lib.Strings
import Derived.OpenShut
import Derived.RangeFuncBox
import Derived.RangeFuncLeaves
import Derived.RangeFuncCalls
import Derived.Shelf.Abstract
import Derived.OwnWalkIn
import Derived.TacticsInMore
import Derived.LoopNIn
import Derived.LoopIn
import Derived.Sort.BigQuietIn
import Derived.Maps.AppendAt
import Derived.Shelf.RegionOpen
namespace Go.Proofs.Ytenmlpfjeohkiaa.Wr
set_option maxRecDepth 100000
set_option linter.unusedSimpArgs false
set_option linter.unusedVariables false
open Go.RowKit Ba Fm Fo Nm Wm
open Ro (At Ro Cw ros rowO rowV below_new range5 cells)
open To (Kb)
/-- What is written of node i (of -1 all). -/
def insideB (l : List Ro) (i : Int) : List UInt8 :=
  if i = -1 then Wm.wr false (rest l (-1) 0)
  else if 0 ≤ i then (match l[i.toNat]? with | some x => if holds x = true then Wm.wr (isIn x.name rawL) (rest l x.depth (i.toNat + 1)) else [] | none => [])
  else []
/-- Is there something to be written? -/
def goes (l : List Ro) (i : Int) : Bool :=
  decide (i = -1) || (decide (0 ≤ i) && (match l[i.toNat]? with | some x => holds x | none => false))

theorem goes_no {l : List Ro} {i : Int} (h : goes l i = false) : insideB l i = [] := by
  unfold goes at h
  unfold insideB
  rw [Bool.or_eq_false_iff, decide_eq_false_iff_not] at h
  rw [if_neg h.1]
  split
  · rename_i h0
    have h2 := h.2
    rw [decide_eq_true h0, Bool.true_and] at h2
    split
    · rename_i x hx
      rw [hx] at h2
      have h2 : holds x = false := h2
      rw [h2, if_neg (by simp)]
    · rfl
  · rfl
theorem goes_yes {l : List Ro} {i : Int} (h : goes l i = true) : ∃ D s raw, Par l i D s raw ∧ s ≤ l.length ∧ insideB l i = Wm.wr raw (rest l D s) := by
  unfold goes at h
  unfold insideB
  by_cases h1 : i = -1
  · rw [if_pos h1]
    exact ⟨-1, 0, false, .inl ⟨h1, rfl, rfl, rfl⟩, Nat.zero_le _, rfl⟩
  · rw [decide_eq_false h1, Bool.false_or, Bool.and_eq_true, decide_eq_true_iff] at h
    rw [if_neg h1, if_pos h.1]
    have h2 := h.2
    cases hx : l[i.toNat]? with
    | none => rw [hx] at h2; cases h2
    | some x =>
      rw [hx] at h2
      have h2 : holds x = true := h2
      have hlt := (List.getElem?_eq_some_iff.1 hx).1
      refine ⟨x.depth, i.toNat + 1, isIn x.name rawL, .inr ⟨i.toNat, x, by omega, hx, rfl, rfl, rfl⟩, by omega, ?_⟩
      show (if holds x = true then _ else _) = _
      rw [if_pos h2]
theorem goes_in {l : List Ro} {k : Nat} {x : Ro} (hx : l[k]? = some x) : goes l (k : Int) = holds x := by
  unfold goes
  rw [decide_eq_false (by omega), decide_eq_true (by omega), Bool.false_or, Bool.true_and, Int.toNat_natCast, hx]
theorem goes_out {l : List Ro} {i : Int} (h1 : ¬ i = -1) (h2 : ¬ (0 ≤ i ∧ i < l.length)) : goes l i = false := by
  unfold goes
  rw [decide_eq_false h1, Bool.false_or]
  by_cases h0 : 0 ≤ i
  · have : l[i.toNat]? = none := List.getElem?_eq_none (by omega)
    rw [this, Bool.and_false]
  · rw [decide_eq_false h0, Bool.false_and]

theorem ng_no {a n : Bool} (h : a = !n) (h2 : a = false) : n = true := by subst h2; cases n with | false => cases h | true => rfl
theorem ng_yes {a n : Bool} (h : a = !n) (h2 : a = true) : n = false := by subst h2; cases n with | false => rfl | true => cases h

set_option maxRecDepth 100000 in
set_option maxHeartbeats 4000000 in
theorem Inside_any (A : Option Addr) (c : Nat) (l : List Cw) (i : Int) (w : World) (hr : Ro.Rr w w.heap.size A l) (hc : l.length ≤ c) (hl : l.length ≤ 1000000) (hrb : ∀ x ∈ l, rb x.ro ≤ 10000000) (hz : (insideB (ros l) i).length ≤ 70000000000000) :
    Calls Try.prog 11 #[.slice A l.length c, .int .i64 i] w fun e w' => e = .returned (.string (B (insideB (ros l) i))) ∧ Below w.heap.size w w' := by
  have HR := Lib.hid hr; have HRB := Lib.hid hrb; have HZ := Lib.hid hz
  clear hr hrb hz
  have hmf : ∀ (fn : Fn) (first cap : Array Value) (w : World), (Instr.makeFunc fn first cap).run Try.prog w = .ok (.func fn first cap) w := fun _ _ _ _ => rfl
  go_enter Try.func11, Try.ntmps11
  go_upto_region 1 with (fail)
  obtain ⟨W1, hW1⟩ : ∃ W1, w.alloc (.cells #[.slice A l.length c] 22) = W1 := ⟨_, rfl⟩
  obtain ⟨bl, hbl⟩ : ∃ bl, w.heap.size = bl := ⟨_, rfl⟩
  have hb1 : Below w.heap.size w W1 := by rw [← hW1]; exact below_new w _
  have hl1 : W1.heap[bl]? = some (.cells #[.slice A l.length c] 22) := by rw [← hW1, ← hbl]; exact heap_alloc_new w _
  have hlt1 : bl < W1.heap.size := (Array.getElem?_eq_some_iff.1 hl1).1
  have hc1 : W1.cell? ⟨bl, 0, none⟩ = some (.slice A l.length c) := by rw [cell_of_row W1 bl 0 _ _ _ hl1]; rfl
  rw [hW1, hbl]
  have HB1 := Lib.hid hb1; have HL1 := Lib.hid hl1; have HBL := Lib.hid hbl
  clear hW1 hb1 hl1 hbl
  obtain ⟨ng, hng⟩ : ∃ ng, goes (ros l) i = !ng := ⟨!goes (ros l) i, by simp⟩
  have HNG := Lib.hid hng
  clear hng
  go_cut [26] from 7 to 26 (fun s26 wx => s26 = .bool ng ∧ Below W1.heap.size W1 wx)
  case first =>
    by_cases h1 : i = -1
    · subst h1
      go_wp2
      go_meet
      exact ⟨by rw [ng_yes HNG.out (by unfold goes; simp)] <;> rfl, Below.refl _ _⟩
    by_cases h2 : 0 ≤ i
    · obtain ⟨k, rfl⟩ : ∃ k : Nat, i = (k : Int) := ⟨i.toNat, by omega⟩
      by_cases h3 : k < l.length
      · obtain ⟨b, off, x, rfl, hb, hdx, hx, hxa, hxm⟩ := Ro.Rr.at_ (HR.out.below HB1.out) k h3
        have hg := goes_in (ros_get hdx)
        obtain ⟨q, hq⟩ : ∃ q, holds x.ro = q := ⟨_, rfl⟩
        have HG := Lib.hid hg; have HQ := Lib.hid hq
        obtain ⟨x0, x1, x2, x3, x4⟩ := range5 hx
        clear hdx hg hq hxa hxm hx
        go_wp2_with fail
        refine (holds_any x W1).mono ?_
        rw [HQ.out]
        rintro e w2 ⟨rfl, hb2⟩
        have HB2 := Lib.hid hb2
        clear hb2
        cases q with
        | true =>
          go_wp2
          go_meet
          exact ⟨by rw [ng_yes HNG.out (HG.out.trans HQ.out)] <;> first | rfl | simp [h1], HB2.out⟩
        | false =>
          go_wp2
          go_meet
          exact ⟨by rw [ng_no HNG.out (HG.out.trans HQ.out)] <;> first | rfl | simp [h1], HB2.out⟩
      · have hg := goes_out (l := ros l) h1 (by rw [Ro.len_ros]; omega)
        have HG := Lib.hid hg
        clear hg
        go_wp2
        go_meet
        exact ⟨by rw [ng_no HNG.out HG.out] <;> first | rfl | simp [h1], Below.refl _ _⟩
    · have hg := goes_out (l := ros l) h1 (by omega)
      have HG := Lib.hid hg
      clear hg
      go_wp2
      go_meet
      exact ⟨by rw [ng_no HNG.out HG.out] <;> first | rfl | simp [h1], Below.refl _ _⟩
  case rest =>
    obtain ⟨rfl, hb2⟩ := hcut
    have HB2 := Lib.hid hb2
    clear hb2 hc1
    cases ng with
    | true =>
      have hno := goes_no HNG.out
      have HN := Lib.hid hno
      clear hno
      go_wp2
      go_ret
      exact ⟨by rw [HN.out]; rfl, HB1.out.trans (HB2.out.mono HB1.out.size)⟩
    | false =>
      obtain ⟨D, s, raw, hp, hs, hins⟩ := goes_yes HNG.out
      rw [Ro.len_ros] at hs
      have HP := Lib.hid hp; have HI := Lib.hid hins
      clear hp hins
      go_upto_region 6 with (fail)
      obtain ⟨W2, hW2⟩ : ∃ W2, wc.alloc (.cells #[.slice none 0 0] 47) = W2 := ⟨_, rfl⟩
      obtain ⟨g, hg⟩ : ∃ g, wc.heap.size = g := ⟨_, rfl⟩
      have hz2 : W2.heap.size = g + 1 := by rw [← hW2, ← hg]; simp
      obtain ⟨W3, hW3⟩ : ∃ W3, W2.alloc (.cells #[Fv bl g (g + 1)] 48) = W3 := ⟨_, rfl⟩
      have hb2 : Below wc.heap.size wc W2 := by rw [← hW2]; exact below_new wc _
      have hb3 : Below W2.heap.size W2 W3 := by rw [← hW3]; exact below_new W2 _
      have ho2 : W2.heap[g]? = some (.cells #[.slice none 0 0] 47) := by rw [← hW2, ← hg]; exact heap_alloc_new wc _
      have ho3 : W3.heap[g]? = some (.cells #[.slice none 0 0] 47) := (hb3.block g (by omega)).trans ho2
      have hk3 : W3.heap[g + 1]? = some (.cells #[Fv bl g (g + 1)] 48) := by rw [← hW3, ← hz2]; exact heap_alloc_new W2 _
      have hb13 : Below W1.heap.size W1 W3 := bt HB2.out (bt hb2 hb3)
      have hl3 : W3.heap[bl]? = some (.cells #[.slice A l.length c] 22) := (hb13.block bl hlt1).trans HL1.out
      have hb03 : Below w.heap.size w W3 := bt HB1.out hb13
      have hgN : w.heap.size ≤ g := by
        rw [← hg]
        exact Nat.le_trans HB1.out.size HB2.out.size
      have hcl : Cl w.heap.size W3 bl g (g + 1) A c l [] := ⟨hl3, ⟨_, ho3, OwnB.nil _ _⟩, hk3, HR.out.below hb03, hgN, hc⟩
      have ck3 := hcl.ck
      rw [hW2, hg, hW3]
      have HCL := Lib.hid hcl; have HB3 := Lib.hid hb03
      clear hW2 hW3 hg hz2 hb2 hb3 ho2 ho3 hk3 hb13 hl3 hb03 hcl hlt1
      have hz0 : ([] : List UInt8).length + (Wm.wr raw (rest (ros l) D s)).length ≤ 70000000000000 := by
        rw [← HI.out]
        have := HZ.out
        simp only [List.length_nil]; omega
      have HZ0 := Lib.hid hz0
      clear hz0
      go_wp2_with fail
      refine (kids_any w.heap.size bl g (g + 1) c A l [] i D s raw W3 hl HRB.out HCL.out HP.out hs HZ0.out).mono ?_
      rintro e w4 ⟨rfl, hcl4, hb4, hk4⟩
      obtain ⟨vo, hco, hown⟩ := hcl4.co
      have hcv := hown.string
      rw [List.nil_append, ← HI.out] at hcv
      have HB4 := Lib.hid (HB3.out.trans hb4)
      clear hcl4 hb4 hk4 hown ck3
      go_wp2
      go_ret
      exact ⟨rfl, HB4.out⟩

theorem Rows_any (A : Option Addr) (c : Nat) (l : List Cw) (w : World) (hr : Ro.Rr w w.heap.size A l) (hc : l.length ≤ c) (hl : l.length ≤ 1000000) (hrb : ∀ x ∈ l, rb x.ro ≤ 10000000) (hz : (insideB (ros l) (-1)).length ≤ 70000000000000) :
    Calls Try.prog 9 #[.slice A l.length c] w fun e w' => e = .returned (.string (B (insideB (ros l) (-1)))) ∧ Below w.heap.size w w' := by
  have HR := Lib.hid hr; have HRB := Lib.hid hrb; have HZ := Lib.hid hz
  clear hr hrb hz
  go_enter Try.func9, Try.ntmps9
  go_wp2_with fail
  refine (Inside_any A c l (-1) w HR.out hc hl HRB.out HZ.out).mono ?_
  rintro e w2 ⟨rfl, hb2⟩
  have HB2 := Lib.hid hb2
  clear hb2
  go_wp2
  go_ret
  exact ⟨rfl, HB2.out⟩

end Go.Proofs.Ytenmlpfjeohkiaa.Wr

namespace Go.Proofs.Ytenmlpfjeohkiaa.Tm
set_option linter.unusedVariables false
set_option linter.unusedSimpArgs false
open Ba Fm Rm Nm
open Ro (At)
def runF (f : List UInt8 → List UInt8 × Nat) : Nat → List UInt8 → List UInt8
  | 0, _ => []
  | n + 1, l => if l.isEmpty = true then [] else (f l).1 ++ runF f n (l.drop ((f l).2 - 1 + 1))
theorem run_eval (f : List UInt8 → List UInt8 × Nat) : ∀ (n : Nat) (l : List UInt8), l.length ≤ n → run f l = runF f n l
  | 0, l, h => by
    have : l = [] := List.eq_nil_of_length_eq_zero (by omega)
    rw [this, run_nil]
    rfl
  | n + 1, l, h => by
    by_cases he : l = []
    · rw [he, run_nil]; rfl
    · rw [run, dif_neg he]
      have hi : l.isEmpty = false := by simpa using he
      show _ = if l.isEmpty = true then [] else _
      rw [if_neg (by rw [hi]; simp), run_eval f n]
      have : 0 < l.length := List.length_pos_iff.2 he
      rw [List.length_drop]
      omega
def escF (q : Bool) (l : List UInt8) : List UInt8 := runF (est q) l.length l
theorem esc_eval (q : Bool) : esc q = escF q := funext fun l => run_eval (est q) l.length l (Nat.le_refl _)

end Go.Proofs.Ytenmlpfjeohkiaa.Tm

namespace Go.Proofs.Ytenmlpfjeohkiaa.Bm
set_option linter.unusedVariables false
set_option linter.unusedSimpArgs false
open Ba Fm Nm
open Ro (At Ro)
open Tm (Tk put tx)
def closedF (ns ws : List ByteArray) : Nat → List ByteArray → List ByteArray
  | 0, s => s
  | k + 1, s => match findS ns ws s with
    | none => s
    | some r => closedF ns ws k r
theorem closed_eval (ns ws : List ByteArray) : ∀ (k : Nat) (s : List ByteArray), s.length ≤ k → closedS ns ws s = closedF ns ws k s
  | 0, s, h => by
    obtain rfl : s = [] := List.eq_nil_of_length_eq_zero (by omega)
    rw [closedS_no rfl]
    rfl
  | k + 1, s, h => by
    unfold closedF
    cases hf : findS ns ws s with
    | none => rw [closedS_no hf]
    | some r =>
      rw [closedS_yes hf]
      exact closed_eval ns ws k r (by have := findS_len hf; omega)
def openedF (n : ByteArray) (s : List ByteArray) : List ByteArray :=
  if para n = true then closedF [n_p] (wallsL n_p) s.length (closedF (closesL n) (wallsL n) s.length s) else closedF (closesL n) (wallsL n) s.length s
theorem opened_eval (n : ByteArray) (s : List ByteArray) : openedS n s = openedF n s := by
  unfold openedS openedF
  rw [← closed_eval _ _ s.length s (Nat.le_refl _), ← closed_eval _ _ s.length _ (closedS_end _ _ _).2.length_le]
def nestedF (n : ByteArray) (o : List ByteArray) : Bool := decide ((openedF n o.reverse).length = o.length)
theorem nested_eval (n : ByteArray) (o : List ByteArray) : nestedB n o = nestedF n o := by
  unfold nestedB nestedF
  rw [opened_eval]

abbrev t1 (n : List UInt8) : Tk := ⟨1, B n, B [], [], false⟩
abbrev t2 (n : List UInt8) : Tk := ⟨2, B n, B [], [], false⟩
end Go.Proofs.Ytenmlpfjeohkiaa.Bm

namespace Go.Proofs.Ytenmlpfjeohkiaa.Wm
set_option linter.unusedVariables false
set_option linter.unusedSimpArgs false
open Ba Fm Rm Nm Bm
open Ro (At Ro)
open Tm (pre)
open Wr (insideB rest)
def oneR (n s : ByteArray) : List Ro := [⟨0, 0, n, ⟨#[]⟩, []⟩, ⟨1, 1, ⟨#[]⟩, s, []⟩]
theorem in_one (n s : ByteArray) (raw : Bool) : Wm.wr raw [⟨1, 1, ⟨#[]⟩, s, []⟩] = if raw = true then L s else esc false (L s) := by
  rw [wr_cons]
  have : beh (⟨1, 1, ⟨#[]⟩, s, []⟩ : Ro) [] = [] := rfl
  rw [this, wr_nil, holds_no (by decide : (1 : Int) ≠ 0), if_neg (by simp), List.append_nil, List.append_nil]
  unfold node
  rw [if_neg (by decide : ¬ (1 : Int) = 0), if_pos rfl]
theorem wr_one (n s : ByteArray) (hv : isIn n voidL = false) : insideB (oneR n s) (-1) = [60] ++ L n ++ [62] ++ ((if isIn n rawL = true then L s else esc false (L s)) ++ ([60, 47] ++ L n ++ [62])) := by
  unfold insideB
  rw [if_pos rfl]
  have hr : rest (oneR n s) (-1) 0 = oneR n s := rfl
  rw [hr]
  unfold oneR
  rw [wr_cons]
  have h1 : inn (⟨0, 0, n, ⟨#[]⟩, []⟩ : Ro) [⟨1, 1, ⟨#[]⟩, s, []⟩] = [⟨1, 1, ⟨#[]⟩, s, []⟩] := rfl
  have h2 : beh (⟨0, 0, n, ⟨#[]⟩, []⟩ : Ro) [⟨1, 1, ⟨#[]⟩, s, []⟩] = [] := rfl
  have h3 : holds (⟨0, 0, n, ⟨#[]⟩, []⟩ : Ro) = true := by unfold holds; rw [hv]; rfl
  rw [h1, h2, h3, if_pos rfl, wr_nil, List.append_nil, in_one n s]
  unfold node tagW endW
  rw [if_pos rfl, List.flatMap_nil, List.append_nil]
theorem wr_in (n s : ByteArray) (hv : isIn n voidL = false) (hr : isIn n rawL = false) : insideB (oneR n s) 0 = esc false (L s) := by
  unfold insideB
  rw [if_neg (by decide), if_pos (by decide)]
  have h : (oneR n s)[(0 : Int).toNat]? = some ⟨0, 0, n, ⟨#[]⟩, []⟩ := rfl
  rw [h]
  have h3 : holds (⟨0, 0, n, ⟨#[]⟩, []⟩ : Ro) = true := by unfold holds; rw [hv]; rfl
  show (if holds (⟨0, 0, n, ⟨#[]⟩, []⟩ : Ro) = true then Wm.wr (isIn n rawL) (rest (oneR n s) 0 1) else []) = _
  rw [h3, if_pos rfl, hr]
  have hr : rest (oneR n s) 0 1 = [⟨1, 1, ⟨#[]⟩, s, []⟩] := rfl
  rw [hr, in_one n s, if_neg (by simp)]

def n_script : ByteArray := ⟨#[115, 99, 114, 105, 112, 116]⟩
def n_br : ByteArray := ⟨#[98, 114]⟩
def t_ab : ByteArray := ⟨#[97, 60, 98]⟩
def t_aeb : ByteArray := ⟨#[97, 60, 47, 98]⟩
def brR : List Ro := [⟨0, 0, n_br, ⟨#[]⟩, [⟨⟨#[97]⟩, ⟨#[34]⟩⟩]⟩, ⟨0, 2, ⟨#[]⟩, ⟨#[99]⟩, []⟩]
def ppR : List Ro := [⟨0, 0, n_p, ⟨#[]⟩, []⟩, ⟨1, 0, n_p, ⟨#[]⟩, []⟩]
theorem w_p : insideB (oneR n_p t_ab) (-1) = [60, 112, 62, 97, 38, 108, 116, 59, 98, 60, 47, 112, 62] := by
  rw [wr_one _ _ (by decide), Tm.esc_eval]; decide
theorem w_s : insideB (oneR n_script t_ab) (-1) = [60, 115, 99, 114, 105, 112, 116, 62, 97, 60, 98, 60, 47, 115, 99, 114, 105, 112, 116, 62] := by
  rw [wr_one _ _ (by decide), Tm.esc_eval]; decide
theorem w_i : insideB (oneR n_p t_ab) 0 = [97, 38, 108, 116, 59, 98] := by
  rw [wr_in _ _ (by decide) (by decide), Tm.esc_eval]; decide
theorem w_b : insideB brR (-1) = [60, 98, 114, 32, 97, 61, 34, 38, 113, 117, 111, 116, 59, 34, 62, 60, 33, 45, 45, 99, 45, 45, 62] := by
  unfold insideB
  rw [if_pos rfl]
  have hr : rest brR (-1) 0 = brR := rfl
  rw [hr]
  unfold brR
  have h2 : beh (⟨0, 0, n_br, ⟨#[]⟩, [⟨⟨#[97]⟩, ⟨#[34]⟩⟩]⟩ : Ro) [⟨0, 2, ⟨#[]⟩, ⟨#[99]⟩, []⟩] = [⟨0, 2, ⟨#[]⟩, ⟨#[99]⟩, []⟩] := rfl
  have h3 : beh (⟨0, 2, ⟨#[]⟩, ⟨#[99]⟩, []⟩ : Ro) [] = [] := rfl
  have g1 : holds (⟨0, 0, n_br, ⟨#[]⟩, [⟨⟨#[97]⟩, ⟨#[34]⟩⟩]⟩ : Ro) = false := by decide
  have g2 : holds (⟨0, 2, ⟨#[]⟩, ⟨#[99]⟩, []⟩ : Ro) = false := by decide
  rw [wr_cons, h2, wr_cons, h3, wr_nil, g1, g2]
  unfold node tagW wA
  simp only [Tm.esc_eval]
  decide
theorem with_top (x : Ro) : withB x [] = true := by
  unfold withB
  have h1 : isIn (lastN []) voidL = false := by decide
  have h2 : isIn (lastN []) rawL = false := by decide
  have h3 : isIn (lastN []) softL = false := by decide
  rw [h1, h2, h3, if_neg (by simp), if_neg (by simp), if_neg (by simp), nestedB_nil, Bool.or_true]
theorem legal_one (n s : ByteArray) (h1 : rowB ⟨0, 0, n, ⟨#[]⟩, []⟩ = true) (h2 : rowB ⟨1, 1, ⟨#[]⟩, s, []⟩ = true) (h3 : withB ⟨0, 0, n, ⟨#[]⟩, []⟩ [] = true) (h4 : withB ⟨1, 1, ⟨#[]⟩, s, []⟩ [n] = true) (hn : n.toList.isEmpty = false) (hs : s.toList.isEmpty = false) : legalB (oneR n s) = true := by
  have hr : Ro.right (oneR n s) = true := by
    unfold Ro.right oneR Ro.rightFrom Ro.rightFrom Ro.rightFrom Ro.okRow
    simp [hn, Ro.twice]
  have hnm : Ro.normal (oneR n s) = oneR n s := Ro.normal_nrm _ 0 hr (by
    refine ⟨fun h => absurd h (by decide : ¬ (0 : Int) = 1), fun _ => ⟨?_, fun z hz => by cases hz⟩, trivial⟩
    intro e
    rw [e] at hs
    cases hs)
  unfold legalB
  rw [hr, hnm, decide_eq_true rfl]
  have he : Ro.exceeds (oneR n s) 4096 60 = false := by rfl
  rw [he]
  unfold oneR legB legB legB
  have e1 : List.take (0 : Int).toNat ([] : List ByteArray) = [] := rfl
  simp only [e1, h1, h3, if_pos, List.nil_append, Bool.true_and, Bool.not_false]
  have e2 : List.take (1 : Int).toNat [n] = [n] := rfl
  rw [e2, h2, h4]; rfl

theorem clean_lit {l : List UInt8} (h1 : Ch.plain l) (h2 : (!sub [0] l && !sub [13] l) = true) : cleanB l = true := by
  unfold cleanB
  rw [Ch.plain_rL l h1, Bool.and_assoc, h2]; rfl
theorem cl_p : cleanB (L n_p) = true := clean_lit (by unfold Ch.plain; decide) (by decide)
theorem cl_s : cleanB (L n_script) = true := clean_lit (by unfold Ch.plain; decide) (by decide)
theorem cl_t : cleanB (L t_ab) = true := clean_lit (by unfold Ch.plain; decide) (by decide)
theorem row_t : rowB ⟨1, 1, ⟨#[]⟩, t_ab, []⟩ = true := by
  unfold rowB
  rw [if_neg (by decide), if_neg (by decide), cl_t]
theorem row_p : rowB ⟨0, 0, n_p, ⟨#[]⟩, []⟩ = true := by
  unfold rowB nameB
  rw [if_pos rfl, cl_p]; decide
theorem row_s : rowB ⟨0, 0, n_script, ⟨#[]⟩, []⟩ = true := by
  unfold rowB nameB
  rw [if_pos rfl, cl_s]; decide
theorem legal_p : legalB (oneR n_p t_ab) = true := legal_one _ _ row_p row_t (with_top _) (by decide) (by rw [toList_L]; decide) (by rw [toList_L]; decide)
theorem legal_s : legalB (oneR n_script t_ab) = true := legal_one _ _ row_s row_t (with_top _) (by decide) (by rw [toList_L]; decide) (by rw [toList_L]; decide)
theorem not_legal {l : List Ro} (h : legB [] l = false) : legalB l = false := by unfold legalB; rw [h, Bool.and_false]
theorem leg_two {x y : Ro} (hx : x.kind = 0) (h0 : x.depth = 0) (h1 : y.depth = 1) (h : withB y [x.name] = false) : legB [] [x, y] = false := by
  unfold legB legB
  rw [if_pos hx, h0, h1]
  have e1 : List.take (0 : Int).toNat ([] : List ByteArray) = [] := rfl
  rw [e1, List.nil_append]
  have e2 : List.take (1 : Int).toNat [x.name] = [x.name] := rfl
  rw [e2, h, Bool.and_false, Bool.false_and, Bool.and_false]
theorem not_s : legalB (oneR n_script t_aeb) = false := not_legal (leg_two rfl rfl rfl (by decide))
theorem not_p : legalB ppR = false := not_legal (leg_two rfl rfl rfl (by unfold withB; rw [nested_eval]; decide))
theorem not_b : legalB (oneR n_br ⟨#[97]⟩) = false := not_legal (leg_two rfl rfl rfl (by decide))

end Go.Proofs.Ytenmlpfjeohkiaa.Wm

namespace Go.Proofs.Ytenmlpfjeohkiaa.Wr
set_option maxRecDepth 100000
set_option linter.unusedVariables false
set_option linter.unusedSimpArgs false
open Go.RowKit Ba Ro Wm
open Tm (bulkA)
/-- No more than 40 rows, of no more than 6 attributes. -/
def boundW (l : List Ro) : List Ro := (l.take 40).map fun x => { x with attrs := x.attrs.take 6 }
theorem AttW.cut {w : World} {N : Nat} {x : Cw} (h : Att w N x) : Att w N (cut x (x.ro.attrs.take 6)) :=
  ⟨Nat.le_trans (List.length_take_le' _ _) h.1, h.2.1, h.2.2.1, h.2.2.2.1.take 6, fun a ha => h.2.2.2.2 a (List.mem_of_mem_take ha)⟩
theorem boundW_at {l : List Cw} {k : Nat} {x : Cw} (h : l[k]? = some x) (hk : k < 40) : (boundW (ros l)).take (k + 1) = (boundW (ros l)).take k ++ [{ x.ro with attrs := x.ro.attrs.take 6 }] := by
  rw [List.take_add_one]
  congr 1
  rw [boundW, List.getElem?_map, List.getElem?_take_of_lt hk, ros, List.getElem?_map, h]
  rfl
theorem len_boundW (l : List Cw) : (boundW (ros l)).length = min 40 l.length := by rw [boundW, List.length_map, List.length_take, len_ros]
set_option maxRecDepth 100000 in
set_option maxHeartbeats 1000000 in
theorem boundW_any (A : Option Addr) (c : Nat) (l : List Cw) (w : World) (hr : Rr w w.heap.size A l) (hc : l.length ≤ c) (hm : c ≤ maxLen) :
    Calls Try.prog 6 #[.slice A l.length c] w fun e w' => ∃ v l', e = .returned v ∧ Ow w.heap.size w' v l' ∧ (∀ x ∈ l', Att w' w.heap.size x) ∧ ros l' = boundW (ros l) ∧ Below w.heap.size w w' := by
  unfold maxLen at hm
  go_enter Try.func6, Try.ntmps6
  go_wp2
  go_loopw [3, 4] (fun v i wr => ∃ (k : Nat) (acc : List Cw), i = .int .i64 k ∧ k ≤ l.length ∧ k ≤ 40 ∧ acc.length = k ∧ Ow w.heap.size wr v acc ∧ (∀ x ∈ acc, Att wr w.heap.size x) ∧ ros acc = (boundW (ros l)).take k ∧ Below w.heap.size w wr) (fun _ i _ => l.length - (intOf i).toNat)
  case atStart => exact ⟨0, [], rfl, by omega, by omega, rfl, Ow.made w, fun _ h => by simp at h, rfl, below_new w _⟩
  case round =>
    obtain ⟨k, acc, rfl, hk, hk6, hal, hown, hatt, hros, hbel⟩ := hrel
    have hsz := hbel.size
    by_cases hp : k < l.length
    · by_cases hp6 : k < 40
      · obtain ⟨b, off, x, rfl, hb, hdx, hx, hxa, hxm⟩ := (hr.below hbel).at_ k hp
        have hs : ros acc ++ [{ x.ro with attrs := x.ro.attrs.take 6 }] = (boundW (ros l)).take (k + 1) := by rw [hros, boundW_at (getElem_of_drop hdx) hp6]
        have hca := AttW.cut hxa
        obtain ⟨ys, hys⟩ : ∃ ys, x.ro.attrs.take 6 = ys := ⟨_, rfl⟩
        have hyl : ys.length = min x.ro.attrs.length 6 := by rw [← hys, List.length_take, Nat.min_comm]
        rw [hys] at hs hca
        have hmin := fun w => min_any x.ro.attrs.length 6 6 rfl ys.length hyl w
        have hyc : ys.length ≤ x.c := hca.1
        have hxc := hxa.1
        have hxm2 := hxa.2.2.1
        unfold maxLen at hxm2
        have HS := Lib.hid hs; have HOW := Lib.hid hown; have HATT := Lib.hid hatt; have HAL := Lib.hid hal; have HCA := Lib.hid hca
        have HC1 : Hid (Att wr wr.heap.size (cut x ys)) := Lib.hid (hca.more hsz)
        have HC2 : Hid (Ap wr w.heap.size (cut x ys)) := Lib.hid hca.apart
        have HC3 : Hid (Att (wr.alloc (rowO (cut x ys))) (wr.alloc (rowO (cut x ys))).heap.size (cut x ys)) := Lib.hid (HC1.out.boxed (Below.refl _ _) _)
        have hacc : acc.length ≤ 2000000 := by omega
        clear hros hdx hs hown hatt hxa hal hca hys hyl
        go_wp2_with (first
          | (refine wpList_load_mid rfl 35 (.tmp 19) rfl b (off + k * 5) rfl _ _ hx Try.underlying35 rfl size_row ?_)
          | (at_builtin; refine app_row _ rfl (.tmp 29) (.tmp 31) rfl w.heap.size _ acc (cut x ys) rfl (HOW.out.alloc _) HC3.out (HC2.out.below (below_new _ _)) (wr.heap.size + 1) (by simp) rfl hacc (by simp; omega) ?_; intro v3 w3 ho3 hk3 hf3))
        go_roundw
        case rel =>
          have hb3 := hk3 w (hbel.alloc hsz _)
          refine ⟨k + 1, acc ++ [cut x ys], by go_num, by omega, by omega, by rw [List.length_append, HAL.out]; rfl, ho3, fun z hz => ?_, by rw [ros_append]; exact HS.out, hb3⟩
          have hbw : Below w.heap.size wr w3 := hk3 wr (below_new wr _ |>.mono hsz)
          rcases List.mem_append.1 hz with h | h
          · exact (HATT.out z h).below hbw
          · obtain rfl := List.mem_singleton.1 h
            exact HCA.out.below hbw
        case measure => simp [intOf]; omega
      · obtain rfl : k = 40 := by omega
        have hrs : ros acc = boundW (ros l) := by rw [hros, List.take_of_length_le]; rw [len_boundW]; omega
        have HR := Lib.hid hrs
        clear hros hrs
        go_wp2
        go_ret
        exact ⟨_, acc, rfl, hown, hatt, HR.out, hbel⟩
    · have hrs : ros acc = boundW (ros l) := by rw [hros, List.take_of_length_le]; rw [len_boundW]; omega
      have HR := Lib.hid hrs
      clear hros hrs
      go_wp2
      go_ret
      exact ⟨_, acc, rfl, hown, hatt, HR.out, hbel⟩

/-- How much rows hold. -/
def rsum (l : List Ro) : Nat := (l.map rb).sum
theorem rb_mem {l : List Ro} {x : Ro} (h : x ∈ l) : rb x ≤ rsum l := by
  unfold rsum
  induction l with
  | nil => cases h
  | cons y r ih =>
    rw [List.map_cons, List.sum_cons]
    rcases List.mem_cons.1 h with rfl | h
    · omega
    · have := ih h; omega
theorem txt_rsum (l : List Ro) : (txt l).length ≤ rsum l := by
  unfold rsum
  induction l with
  | nil => exact Nat.zero_le _
  | cons y r ih =>
    rw [List.map_cons, List.sum_cons, txt, List.length_append]
    have : (if y.kind = 1 then L y.data else []).length ≤ rb y := by
      unfold rb
      split
      · rw [size_L]; omega
      · exact Nat.zero_le _
    omega
theorem bulkA_take (l : List At) (k : Nat) : bulkA (l.take k) ≤ bulkA l := by
  unfold bulkA
  rw [List.map_take]
  have h := List.take_append_drop k (l.map fun a => a.name.size + a.value.size)
  have := congrArg List.sum h
  rw [List.sum_append] at this
  omega
theorem rb_cut (x : Ro) (k : Nat) : rb { x with attrs := x.attrs.take k } ≤ rb x := by
  unfold rb
  have h1 := bulkA_take x.attrs k
  have h2 := List.length_take_le k x.attrs
  show x.name.size + x.data.size + bulkA (x.attrs.take k) + (x.attrs.take k).length ≤ _
  have h3 : (x.attrs.take k).length ≤ x.attrs.length := by rw [List.length_take]; omega
  omega
theorem rsum_boundW (l : List Ro) : rsum (boundW l) ≤ rsum l := by
  have e : ∀ m : List Ro, rsum (m.map fun x => { x with attrs := x.attrs.take 6 }) ≤ rsum m := by
    intro m
    induction m with
    | nil => exact Nat.le_refl _
    | cons x r ih =>
      unfold rsum at ih ⊢
      rw [List.map_cons, List.map_cons, List.sum_cons, List.map_cons, List.sum_cons]
      have := rb_cut x 6
      omega
  have e2 : rsum (l.take 40) ≤ rsum l := by
    unfold rsum
    rw [List.map_take]
    have h := List.take_append_drop 40 (l.map rb)
    have := congrArg List.sum h
    rw [List.sum_append] at this
    omega
  exact Nat.le_trans (e _) e2
theorem short_boundW (l : List Ro) : (boundW l).length ≤ 40 := by
  unfold boundW
  rw [List.length_map, List.length_take]; omega
theorem few_boundW (l : List Ro) : ∀ x ∈ boundW l, x.attrs.length ≤ 6 := fun x hx => by
  unfold boundW at hx
  obtain ⟨y, _, rfl⟩ := List.mem_map.1 hx
  show (y.attrs.take 6).length ≤ 6
  rw [List.length_take]; omega
theorem held_boundW {l : List Ro} (h : Held l) : Held (boundW l) := fun x hx => by
  unfold boundW at hx
  obtain ⟨y, hy, rfl⟩ := List.mem_map.1 hx
  exact h y (List.mem_of_mem_take hy)
theorem bound8 (v : Value) (a : List Cw) (w : World) (h : Rv w v a) (hz : rsum (ros a) ≤ 1048576) :
    Calls Try.prog 6 #[v] w fun e w' => ∃ v' x, e = .returned v' ∧ Ow w.heap.size w' v' x ∧ Rv w' v' x ∧ ros x = boundW (ros a) ∧ x.length ≤ 40 ∧ (∀ y ∈ x, y.ro.attrs.length ≤ 6) ∧ rsum (ros x) ≤ 1048576 ∧ Below w.heap.size w w' := by
  obtain ⟨A, c, rfl, hc, hm, hr, hh⟩ := h
  refine (boundW_any A c a w hr hc hm).mono ?_
  rintro e w1 ⟨v1, x, rfl, ho, _, hx, hb⟩
  have h40 : x.length ≤ 40 := by rw [← len_ros, hx]; exact short_boundW _
  refine ⟨v1, x, rfl, ho, ho.rv (by rw [hx]; exact held_boundW hh), hx, h40, fun y hy => ?_, ?_, hb⟩
  · exact few_boundW (ros a) y.ro (by rw [← hx]; exact List.mem_map_of_mem hy)
  · rw [hx]; exact Nat.le_trans (rsum_boundW _) hz

end Go.Proofs.Ytenmlpfjeohkiaa.Wr

namespace Go.Proofs.Ytenmlpfjeohkiaa.Ro
set_option linter.unusedVariables false
set_option linter.unusedSimpArgs false
open Go.RowKit Ba
/-- How deep a row may stand behind these. -/
def after (m : Int) : List Ro → Int
  | [] => m
  | x :: r => after (if x.kind = 0 then x.depth + 1 else x.depth) r
theorem right_append : ∀ (a b : List Ro) (m : Int), rightFrom m (a ++ b) = (rightFrom m a && rightFrom (after m a) b)
  | [], b, m => by rw [List.nil_append, rightFrom, after, Bool.true_and]
  | x :: r, b, m => by rw [List.cons_append, rightFrom, rightFrom, after, right_append r b]; simp only [Bool.and_assoc]
theorem takeWhile_split {α : Type} (p : α → Bool) : ∀ l : List α, l = l.takeWhile p ++ l.drop (l.takeWhile p).length
  | [] => rfl
  | x :: r => by
    by_cases hp : p x = true
    · rw [List.takeWhile_cons_of_pos hp, List.length_cons, List.drop_succ_cons, List.cons_append, ← takeWhile_split p r]
    · rw [List.takeWhile_cons_of_neg hp]; rfl
theorem mem_takeWhile {α : Type} (p : α → Bool) : ∀ (l : List α), ∀ x ∈ l.takeWhile p, p x = true
  | [], x, h => by cases h
  | y :: r, x, h => by
    by_cases hp : p y = true
    · rw [List.takeWhile_cons_of_pos hp] at h
      rcases List.mem_cons.1 h with rfl | h
      · exact hp
      · exact mem_takeWhile p r x h
    · rw [List.takeWhile_cons_of_neg hp] at h; cases h

/-- A row, what is below it, and the rest. -/
theorem tree_split {l : List Ro} {k : Nat} (hk : k < l.length) :
    l.drop k = (l[k] :: below l k) ++ l.drop (endOf l k) ∧ (∀ y ∈ below l k, l[k].depth < y.depth) ∧ (∀ y, (l.drop (endOf l k)).head? = some y → y.depth ≤ l[k].depth) ∧ dep l k = l[k].depth ∧ endOf l k = k + 1 + (below l k).length := by
  have hd : dep l k = l[k].depth := dep_at (List.getElem?_eq_getElem hk)
  have he : endOf l k = k + 1 + (below l k).length := by
    unfold endOf; rw [show ((k : Int) + 1).toNat = k + 1 by omega]
  have hb : below l k = (l.drop (k + 1)).takeWhile fun x => decide (l[k].depth < x.depth) := by
    unfold below; rw [hd, show ((k : Int) + 1).toNat = k + 1 by omega]
  have hsp := takeWhile_split (fun x : Ro => decide (l[k].depth < x.depth)) (l.drop (k + 1))
  rw [← hb] at hsp
  have hdd : (l.drop (k + 1)).drop (below l k).length = l.drop (endOf l k) := by rw [List.drop_drop, he]
  rw [hdd] at hsp
  refine ⟨?_, fun y hy => ?_, fun y hy => ?_, hd, he⟩
  · rw [List.drop_eq_getElem_cons hk, List.cons_append]
    rw [← hsp]
  · rw [hb] at hy
    have := mem_takeWhile _ _ y hy
    simpa using this
  · have := stops (fun x : Ro => decide (l[k].depth < x.depth)) (l.drop (k + 1)) y (by rw [← hb, hdd]; exact hy)
    simp at this
    exact this
theorem part_tree {l : List Ro} {k : Nat} (hk : k < l.length) : (l.take (endOf l k)).drop k = l[k] :: below l k := by
  obtain ⟨h1, _, _, _, h5⟩ := tree_split hk
  rw [List.drop_take, h1, h5, List.take_append_of_le_length (by rw [List.length_cons]; omega), List.take_of_length_le (by rw [List.length_cons]; omega)]
theorem endAt_of {l : List Ro} {k : Nat} (hk : k < l.length) : endAt l k = endOf l k := by
  have h1 : hasRow l k = true := by unfold hasRow; exact decide_eq_true ⟨by omega, by omega⟩
  unfold endAt
  rw [h1, if_pos rfl]

end Go.Proofs.Ytenmlpfjeohkiaa.Ro

namespace Go.Proofs.Ytenmlpfjeohkiaa.Wm
set_option linter.unusedVariables false
set_option linter.unusedSimpArgs false
open Ba Fm Rm Nm Bm
open Ro (At Ro)
open Wr (insideB rest rsum rb)
theorem rsum_append (a b : List Ro) : rsum (a ++ b) = rsum a + rsum b := by
  unfold rsum
  rw [List.map_append, List.sum_append]
theorem len_node (raw : Bool) (x : Ro) : (node raw x).length + (endW x).length ≤ 6 * rb x + 10 + (if holds x = true then 0 else (endW x).length) := by
  have h1 := Wr.len_wAs x.attrs
  have h2 := (len_esc false (L x.data)).2.1
  rw [size_L] at h2
  have he : (endW x).length = x.name.size + 3 := by
    unfold endW
    simp only [List.length_append, List.length_cons, List.length_nil, size_L]
    omega
  rw [he]
  unfold rb
  unfold node tagW
  by_cases h0 : x.kind = 0
  · rw [if_pos h0]
    simp only [List.length_append, List.length_cons, List.length_nil, size_L]
    split <;> omega
  · have hh : holds x = false := holds_no h0
    rw [if_neg h0]
    have hif : (if holds x = true then 0 else x.name.size + 3) = x.name.size + 3 := by rw [hh]; rfl
    rw [hif]
    by_cases h1 : x.kind = 1
    · rw [if_pos h1]
      cases raw with
      | true => rw [if_pos rfl, size_L]; omega
      | false => rw [if_neg (by simp)]; omega
    · rw [if_neg h1]
      by_cases h2 : x.kind = 2
      · rw [if_pos h2]
        simp only [List.length_append, List.length_cons, List.length_nil, size_L]; omega
      · rw [if_neg h2]
        simp only [List.length_nil]; omega
theorem len_wr (n : Nat) : ∀ (l : List Ro) (raw : Bool), l.length ≤ n → (wr raw l).length ≤ 6 * rsum l + 10 * l.length := by
  induction n with
  | zero =>
    intro l raw h
    obtain rfl : l = [] := List.eq_nil_of_length_eq_zero (by omega)
    rw [wr_nil]; exact Nat.zero_le _
  | succ n ih =>
    intro l raw h
    cases l with
    | nil => rw [wr_nil]; exact Nat.zero_le _
    | cons x r =>
      rw [wr_cons, List.length_append, List.length_append]
      have hp := len_parts x r
      rw [List.length_cons] at h ⊢
      have h1 := ih (inn x r) (isIn x.name rawL) (by omega)
      have h2 := ih (beh x r) raw (by omega)
      have h3 := len_node raw x
      have h4 : rsum (x :: r) = rb x + (rsum (inn x r) + rsum (beh x r)) := by
        rw [← rsum_append, inn_beh]
        unfold rsum
        rw [List.map_cons, List.sum_cons]
      rw [h4]
      cases hh : holds x with
      | true =>
        rw [hh] at h3
        rw [if_pos rfl] at h3 ⊢
        rw [List.length_append]
        omega
      | false =>
        rw [hh] at h3
        rw [if_neg (by simp)] at h3 ⊢
        simp only [List.length_nil]
        omega
theorem rest_rsum (l : List Ro) (D : Int) (s : Nat) : rsum (rest l D s) ≤ rsum l ∧ (rest l D s).length ≤ l.length := by
  have h1 := rsum_append ((l.drop s).takeWhile (deep D)) ((l.drop s).dropWhile (deep D))
  rw [List.takeWhile_append_dropWhile] at h1
  have h2 := rsum_append (l.take s) (l.drop s)
  rw [List.take_append_drop] at h2
  refine ⟨by unfold rest; omega, ?_⟩
  unfold rest
  have := (List.takeWhile_sublist (deep D) (l := l.drop s)).length_le
  rw [List.length_drop] at this
  omega
theorem len_inside (l : List Ro) (i : Int) : (insideB l i).length ≤ 6 * rsum l + 10 * l.length := by
  unfold insideB
  split
  · have h1 := len_wr _ (rest l (-1) 0) false (Nat.le_refl _)
    have h2 := rest_rsum l (-1) 0
    omega
  · split
    · split
      · rename_i x hx
        split
        · have h1 := len_wr _ (rest l x.depth (i.toNat + 1)) (isIn x.name rawL) (Nat.le_refl _)
          have h2 := rest_rsum l x.depth (i.toNat + 1)
          omega
        · exact Nat.zero_le _
      · exact Nat.zero_le _
    · exact Nat.zero_le _

/-- Trees behind trees: each written. -/
theorem tw_append {α : Type} (p : α → Bool) (b : List α) (hb : ∀ y, b.head? = some y → p y = false) : ∀ a : List α, (a ++ b).takeWhile p = a.takeWhile p ∧ (a ++ b).dropWhile p = a.dropWhile p ++ b
  | [] => by
    cases b with
    | nil => exact ⟨rfl, rfl⟩
    | cons y t =>
      have := hb y rfl
      rw [List.nil_append, List.takeWhile_cons, List.dropWhile_cons, this]
      exact ⟨rfl, rfl⟩
  | x :: r => by
    rw [List.cons_append, List.takeWhile_cons, List.dropWhile_cons, List.takeWhile_cons, List.dropWhile_cons]
    obtain ⟨h1, h2⟩ := tw_append p b hb r
    cases hx : p x with
    | true => exact ⟨by rw [if_pos rfl, if_pos rfl, h1], by rw [if_pos rfl, if_pos rfl, h2]⟩
    | false => exact ⟨by rw [if_neg (by simp), if_neg (by simp)], by rw [if_neg (by simp), if_neg (by simp)]; rfl⟩
theorem wr_append (raw : Bool) (b : List Ro) (n : Nat) : ∀ a : List Ro, a.length ≤ n → (∀ y, b.head? = some y → ∀ x ∈ a, y.depth ≤ x.depth) → wr raw (a ++ b) = wr raw a ++ wr raw b := by
  induction n with
  | zero =>
    intro a h _
    obtain rfl : a = [] := List.eq_nil_of_length_eq_zero (by omega)
    rw [wr_nil]; rfl
  | succ n ih =>
    intro a h hd
    cases a with
    | nil => rw [wr_nil]; rfl
    | cons x r =>
      have hx : ∀ y, b.head? = some y → deep x.depth y = false := fun y hy => by
        have := hd y hy x List.mem_cons_self
        unfold deep
        exact decide_eq_false (by omega)
      obtain ⟨h1, h2⟩ := tw_append (deep x.depth) b hx r
      have hp := len_parts x r
      rw [List.length_cons] at h
      have hi : inn x (r ++ b) = inn x r := h1
      have hb : beh x (r ++ b) = beh x r ++ b := h2
      rw [List.cons_append, wr_cons, wr_cons, hi, hb, ih (beh x r) (by omega) (fun y hy z hz => hd y hy z (List.mem_cons_of_mem _ (by
        rw [← inn_beh x r]; exact List.mem_append_right _ hz)))]
      simp only [List.append_assoc]
theorem rest_all {l : List Ro} (h : ∀ x ∈ l, 0 ≤ x.depth) : rest l (-1) 0 = l := by
  unfold rest
  rw [List.drop_zero]
  induction l with
  | nil => rfl
  | cons x r ih =>
    rw [List.takeWhile_cons, if_pos (by unfold deep; exact decide_eq_true (by have := h x List.mem_cons_self; omega)), ih fun y hy => h y (List.mem_cons_of_mem _ hy)]
theorem inside_all {l : List Ro} (h : ∀ x ∈ l, 0 ≤ x.depth) : insideB l (-1) = wr false l := by
  unfold insideB
  rw [if_pos rfl, rest_all h]

def n_i : ByteArray := ⟨#[105]⟩
def elI : Ro := ⟨0, 0, n_i, ⟨#[]⟩, []⟩
theorem wr_i : wr false [elI] = [60, 105, 62, 60, 47, 105, 62] := by
  have h2 : beh elI [] = [] := rfl
  have h3 : inn elI [] = [] := rfl
  have g1 : holds elI = true := by decide
  rw [wr_cons, h2, h3, wr_nil, wr_nil, g1]
  decide
/-- The names around behind these rows. -/
def goB (s : List ByteArray) : List Ro → List ByteArray
  | [] => s
  | x :: r => goB (if x.kind = 0 then s.take x.depth.toNat ++ [x.name] else s.take x.depth.toNat) r
theorem leg_append : ∀ (a b : List Ro) (s : List ByteArray), legB s (a ++ b) = (legB s a && legB (goB s a) b)
  | [], b, s => by rw [List.nil_append, legB, goB, Bool.true_and]
  | x :: r, b, s => by
    rw [List.cons_append, legB, legB, goB, leg_append r b]
    simp only [Bool.and_assoc]
theorem leg_top {b : List Ro} (s : List ByteArray) (h : ∀ y, b.head? = some y → y.depth = 0) : legB s b = legB [] b := by
  cases b with
  | nil => rfl
  | cons y t =>
    have hy := h y rfl
    rw [legB, legB, hy]
    rfl
theorem nrm_append : ∀ {a b : List Ro}, Ro.Nrm a → Ro.Nrm b → (∀ z, b.head? = some z → z.kind ≠ 1) → Ro.Nrm (a ++ b)
  | [], b, _, hb, _ => hb
  | x :: r, b, ha, hb, hz => by
    have ha : (x.kind = 1 → x.data.toList ≠ [] ∧ ∀ z, r.head? = some z → z.kind = 1 → z.depth ≠ x.depth) ∧ Ro.Nrm r := ha
    refine ⟨fun hx => ⟨(ha.1 hx).1, fun z hzz hk => ?_⟩, nrm_append ha.2 hb hz⟩
    cases r with
    | nil => exact absurd hk (hz z hzz)
    | cons y t => exact (ha.1 hx).2 z hzz hk
theorem legal_parts {l : List Ro} (h : legalB l = true) : Ro.exceeds l 4096 60 = false ∧ Ro.right l = true ∧ Ro.Nrm l ∧ legB [] l = true := by
  unfold legalB at h
  simp only [Bool.and_eq_true, Bool.not_eq_true', decide_eq_true_eq] at h
  obtain ⟨⟨⟨h1, h2⟩, h3⟩, h4⟩ := h
  refine ⟨h1, h2, ?_, h4⟩
  have := Ro.nrm_normal l.length l 0 (Nat.le_refl _) h2
  rwa [← h3] at this
theorem legal_make {l : List Ro} (h1 : Ro.exceeds l 4096 60 = false) (h2 : Ro.right l = true) (h3 : Ro.Nrm l) (h4 : legB [] l = true) : legalB l = true := by
  unfold legalB
  rw [h1, h2, Ro.normal_nrm l 0 h2 h3, h4, decide_eq_true rfl]; rfl
theorem depth_right : ∀ {l : List Ro} {m : Int}, Ro.rightFrom m l = true → ∀ x ∈ l, 0 ≤ x.depth
  | [], _, _, x, hx => by cases hx
  | y :: r, m, h, x, hx => by
    rw [Ro.rightFrom] at h
    simp only [Bool.and_eq_true, decide_eq_true_eq] at h
    rcases List.mem_cons.1 hx with rfl | hx
    · exact h.1.1.1
    · exact depth_right h.2 x hx
theorem head_right {l : List Ro} (h : Ro.right l = true) : ∀ y, l.head? = some y → y.depth = 0 := fun y hy => by
  cases l with
  | nil => cases hy
  | cons x r =>
    injection hy with hy
    subst hy
    unfold Ro.right at h
    rw [Ro.rightFrom] at h
    simp only [Bool.and_eq_true, decide_eq_true_eq] at h
    omega
theorem after_pos : ∀ (l : List Ro) (m : Int), 0 ≤ m → Ro.rightFrom m l = true → 0 ≤ Ro.after m l
  | [], m, hm, _ => hm
  | x :: r, m, hm, h => by
    rw [Ro.rightFrom] at h
    simp only [Bool.and_eq_true, decide_eq_true_eq] at h
    rw [Ro.after]
    refine after_pos r _ ?_ h.2
    split <;> omega
theorem legal_two {a b : List Ro} (ha : legalB a = true) (hb : legalB b = true) (hla : a.length ≤ 40) (hlb : b.length ≤ 40) :
    legalB (a ++ [elI] ++ b) = true ∧ insideB (a ++ [elI] ++ b) (-1) = insideB a (-1) ++ [60, 105, 62, 60, 47, 105, 62] ++ insideB b (-1) := by
  obtain ⟨a1, a2, a3, a4⟩ := legal_parts ha
  obtain ⟨b1, b2, b3, b4⟩ := legal_parts hb
  have ha0 := depth_right a2
  have hb0 := depth_right b2
  have hbh := head_right b2
  have hall : ∀ x ∈ a ++ [elI] ++ b, 0 ≤ x.depth := fun x hx => by
    rcases List.mem_append.1 hx with hx | hx
    · rcases List.mem_append.1 hx with hx | hx
      · exact ha0 x hx
      · rw [List.mem_singleton.1 hx]; exact Int.le_refl _
    · exact hb0 x hx
  constructor
  · refine legal_make ?_ ?_ ?_ ?_
    · cases he : Ro.exceeds (a ++ [elI] ++ b) 4096 60 with
      | false => rfl
      | true =>
        rcases (Ro.exceeds_iff _ _ _).1 he with h | ⟨x, hx, h⟩
        · simp only [List.length_append, List.length_cons, List.length_nil] at h
          omega
        · exfalso
          rcases List.mem_append.1 hx with hx | hx
          · rcases List.mem_append.1 hx with hx | hx
            · have := (Ro.exceeds_iff a 4096 60).2 (.inr ⟨x, hx, h⟩)
              rw [a1] at this; cases this
            · rw [List.mem_singleton.1 hx] at h
              exact absurd h (by decide)
          · have := (Ro.exceeds_iff b 4096 60).2 (.inr ⟨x, hx, h⟩)
            rw [b1] at this; cases this
    · unfold Ro.right at a2 b2 ⊢
      rw [List.append_assoc, Ro.right_append, a2, Bool.true_and]
      have hp := after_pos a 0 (Int.le_refl _) a2
      show Ro.rightFrom (Ro.after 0 a) (elI :: b) = true
      rw [Ro.rightFrom]
      have h1 : decide ((0 : Int) ≤ elI.depth) = true := by decide
      have h2 : decide (elI.depth ≤ Ro.after 0 a) = true := decide_eq_true hp
      have h3 : Ro.okRow elI = true := by
        unfold Ro.okRow elI
        have e1 : n_i.toList.isEmpty = false := by rw [toList_L]; decide
        have e2 : (⟨#[]⟩ : ByteArray).toList.isEmpty = true := by rw [toList_L]; decide
        simp only [e1, e2]
        decide
      rw [h1, h2, h3]
      exact Ro.right_mono (show (0 : Int) ≤ _ by decide) b2
    · rw [List.append_assoc]
      refine nrm_append a3 ?_ (fun z hz => ?_)
      · exact ⟨fun h => absurd h (by decide), b3⟩
      · have hz : some elI = some z := hz
        injection hz with hz
        rw [← hz]; decide
    · rw [List.append_assoc, leg_append, a4, Bool.true_and]
      show legB (goB [] a) (elI :: b) = true
      rw [legB]
      have e0 : elI.depth.toNat = 0 := by decide
      have e1 : rowB elI = true := by
        unfold rowB elI nameB
        rw [if_pos rfl, clean_lit (l := L n_i) (by unfold Ch.plain; decide) (by decide)]; decide
      rw [e0, List.take_zero, e1, with_top, if_pos (by decide), leg_top _ hbh, b4]; rfl
  · rw [inside_all hall, inside_all ha0, inside_all hb0, List.append_assoc, wr_append false ([elI] ++ b) a.length a (Nat.le_refl _) (fun y hy x hx => by
        have hy : some elI = some y := hy
        injection hy with hy
        rw [← hy]; exact ha0 x hx), wr_append false b 1 [elI] (Nat.le_refl _) (fun y hy x hx => by
        rw [hbh y hy, List.mem_singleton.1 hx]; decide), wr_i, List.append_assoc]

end Go.Proofs.Ytenmlpfjeohkiaa.Wm

namespace Go.Proofs.Ytenmlpfjeohkiaa.Wr
set_option maxRecDepth 100000
set_option linter.unusedVariables false
set_option linter.unusedSimpArgs false
open Go.RowKit Ba Go.ChangeShapes Go.WideShapes Go.Deep
open Ro (At Ro Cw ros Rv Rr Att Held cells acells Ra Sh open_rows_of open_rows_parts open_attrs attrs_bulk sum_bulk bulk123 lit_bulk mem_bulk list_of open_ros)
open Tm (bulkA)
theorem bulk234 {H : Type} {a b c : DataW H} : ∀ {l : List (DataW H)}, l[2]? = some a → l[3]? = some b → l[4]? = some c → Rows.uptoBulk a + (Rows.uptoBulk b + Rows.uptoBulk c) ≤ Rows.uptoBulkAll l
  | [], h, _, _ => by cases h
  | x :: r, h1, h2, h3 => by
    have := bulk123 (l := r) (by simpa using h1) (by simpa using h2) (by simpa using h3)
    rw [Rows.uptoBulkAll]
    omega
theorem bulkA_le (l : List At) : bulkA l + l.length ≤ (l.map fun a => a.name.size + a.value.size + 1).sum := by
  induction l with
  | nil => simp [bulkA]
  | cons a r ih =>
    have e : bulkA (a :: r) = a.name.size + a.value.size + bulkA r := by simp [bulkA]
    rw [e, List.map_cons, List.sum_cons, List.length_cons]
    omega
section
variable {H : Type} {enc : TypeId × Value → H} {w : World} {base : Nat}
theorem rows_bulk8 {N : Nat} {v : Value} {A : Option Addr} {c : Nat} {l : List Cw} {d : DataW H} {p : List MemPlace} (hv : v = .slice A l.length c) (hr : Rr w N A l)
    (h : ∃ fuel, DataW.trod enc Try.prog w 0 (fun _ => true) true fuel 22 v.cells.toList = some (d, p)) : rsum (ros l) ≤ Rows.uptoBulk d := by
  obtain ⟨fuel, hf⟩ := h
  subst hv
  rcases open_rows_parts Try.underlying22 Try.underlying35 (by kernel_rfl) (by kernel_rfl) hf with hcs | ⟨a, len, cap, D, sp, hcs, hx, hi⟩
  · simp [Value.cells] at hcs
    obtain ⟨_, hl, _⟩ := hcs
    have : l = [] := hl
    subst this
    exact Nat.zero_le _
  · simp [Value.cells] at hcs
    obtain ⟨hA, hl, _⟩ := hcs
    have hx : d = _ := hx
    rw [hx, Rows.uptoBulk]
    have h1 := sum_bulk (fun r : Cw => rb r.ro) D l 0 fun i hil => by
      obtain ⟨b, off, e, _, hc⟩ := hr.1 (by omega)
      obtain ⟨v2, y2, n2, p2, hc2, hD2, g2, ht2⟩ := hi i (by omega) 2 _ rfl
      obtain ⟨v3, y3, n3, p3, hc3, hD3, g3, ht3⟩ := hi i (by omega) 3 _ rfl
      obtain ⟨v4, y4, n4, p4, hc4, hD4, g4, ht4⟩ := hi i (by omega) 4 _ rfl
      obtain rfl : p2 = p3 := by rw [hD2] at hD3; injection hD3
      obtain rfl : p2 = p4 := by rw [hD2] at hD4; injection hD4
      obtain ⟨s2, e2, b2, _⟩ := DataW.trod_string Try.underlying9 ht2
      obtain ⟨s3, e3, b3, _⟩ := DataW.trod_string Try.underlying9 ht3
      obtain rfl : v2 = .string s2 := by simpa using e2
      obtain rfl : v3 = .string s3 := by simpa using e3
      rw [hA] at e
      injection e with e
      subst e
      rw [add_plain] at hc2 hc3 hc4
      have k2 := hc i hil 2 (.string l[i].ro.name) rfl
      have k3 := hc i hil 3 (.string l[i].ro.data) rfl
      have k4 := hc i hil 4 (.slice l[i].A l[i].ro.attrs.length l[i].c) rfl
      rw [show off + i * 5 + 2 = off + (i * 5 + 2) by omega] at k2
      rw [show off + i * 5 + 3 = off + (i * 5 + 3) by omega] at k3
      rw [show off + i * 5 + 4 = off + (i * 5 + 4) by omega] at k4
      have q2 : s2 = l[i].ro.name := by
        have := Option.some.inj (hc2.symm.trans k2)
        injection this
      have q3 : s3 = l[i].ro.data := by
        have := Option.some.inj (hc3.symm.trans k3)
        injection this
      obtain rfl : v4 = .slice l[i].A l[i].ro.attrs.length l[i].c := Option.some.inj (hc4.symm.trans k4)
      have hra := (hr.2 l[i] (List.getElem_mem _)).2.2.2.1
      have hb := attrs_bulk ht4 rfl hra
      rw [Nat.zero_add, hD2, Rows.uptoBulk]
      have h3 := bulk234 g2 g3 g4
      have h4 : Rows.uptoBulk y2.1 = s2.size + 1 := by rw [b2]; exact lit_bulk s2
      have h5 : Rows.uptoBulk y3.1 = s3.size + 1 := by rw [b3]; exact lit_bulk s3
      have h6 := bulkA_le l[i].ro.attrs
      unfold rb
      rw [← q2, ← q3]
      omega
    rw [← List.range_eq_range', hl] at h1
    have h2 : rsum (ros l) = (l.map fun r : Cw => rb r.ro).sum := by
      unfold rsum ros
      rw [List.map_map]
      rfl
    omega
/-- An argument []api.Row, as the statement's row reads it, and its bulk. -/
theorem open_rv8 {v : Value} {d : DataW H} {p : List MemPlace} (hv : Value.okWide Try.prog w .any base 22 v)
    (h : ∃ fuel, DataW.trod enc Try.prog w 0 (fun _ => true) true fuel 22 v.cells.toList = some (d, p)) (hlt : ∀ z ∈ p, z.block < w.heap.size) : ∃ l, Rv w v l ∧ rsum (ros l) ≤ Rows.uptoBulk d := by
  obtain ⟨A, c, l, e, h1, h2, h3, h4⟩ := open_ros hv h hlt
  exact ⟨l, ⟨A, c, e, h1, h2, h3, h4⟩, rows_bulk8 e h3 h⟩
end

end Go.Proofs.Ytenmlpfjeohkiaa.Wr

namespace Go.Proofs.Ytenmlpfjeohkiaa.Ch
set_option maxRecDepth 100000
set_option linter.unusedSimpArgs false
set_option linter.unusedVariables false
open Go.RowKit
abbrev L (s : ByteArray) : List UInt8 := s.data.toList
theorem size_L (s : ByteArray) : (L s).length = s.size := by rw [Array.length_toList]; rfl
theorem drop_ne (s : ByteArray) (k : Nat) (h : k < s.size) : (L s).drop k ≠ [] := by
  intro e
  have := congrArg List.length e
  rw [List.length_drop, size_L] at this
  simp at this; omega
theorem drop_nil (s : ByteArray) (k : Nat) (h : ¬ k < s.size) : (L s).drop k = [] := List.drop_eq_nil_of_le (by rw [size_L]; omega)

theorem ret_int {k : IntKind} {a b : Int} (h : a = b) : Ending.returned (.int k a) = .returned (.int k b) := by rw [h]
theorem ret_bool {a b : Bool} (h : a = b) : Ending.returned (.bool a) = .returned (.bool b) := by rw [h]
theorem ret_str {a b : ByteArray} (h : a = b) : Ending.returned (.string a) = .returned (.string b) := by rw [h]

theorem below_iter (w : World) (s : ByteArray) (p : Nat) : Below w.heap.size w (w.iter s p) :=
  (Below.refl _ _).alloc (Nat.le_refl _) _

/-- A string of these bytes. -/
def B (l : List UInt8) : ByteArray := ⟨l.toArray⟩
theorem L_B (l : List UInt8) : L (B l) = l := by simp [B]
theorem toList_B (l : List UInt8) : (B l).toList = l := by unfold B; exact ByteArray.toList_mk l
theorem size_B (l : List UInt8) : (B l).size = l.length := by rw [← size_L, L_B]
theorem B_of {s : ByteArray} {l : List UInt8} (h : L s = l) : s = B l := WideShapes.bytes_inj (h.trans (L_B l).symm)

theorem L_extract (s : ByteArray) (a b : Nat) : L (s.extract a b) = ((L s).drop a).take (b - a) := Lib.extract_data s a b
theorem L_end (s : ByteArray) (a : Nat) : L (s.extract a s.size) = (L s).drop a := by
  rw [L_extract, List.take_of_length_le]
  rw [List.length_drop, size_L]
  exact Nat.le_refl _
theorem size_extract (s : ByteArray) (a b : Nat) : (s.extract a b).size ≤ s.size := by
  rw [← size_L, ← size_L, L_extract, List.length_take, List.length_drop]; omega

theorem starts_no (s : ByteArray) (w : World) (h : ¬ 3 ≤ s.size) :
    Calls Try.prog 72 #[.string s] w fun e w' => e = .returned (.bool false) ∧ w = w' := by
  go_enter Try.func72, Try.ntmps72
  go_wp2
  go_ret
  exact ⟨rfl, rfl⟩

theorem starts_yes (s : ByteArray) (w : World) (h : 3 ≤ s.size) (hs : s.size ≤ maxLen) :
    Calls Try.prog 72 #[.string s] w fun e w' => e = .returned (.bool (decide ((L s).take 3 = F))) ∧ w = w' := by
  unfold maxLen at hs
  go_enter Try.func72, Try.ntmps72
  go_wp2
  go_ret
  refine ⟨ret_bool ?_, rfl⟩
  rw [Lib.extract_toList, Bool.eq_iff_iff]
  simp only [List.drop_zero, Nat.sub_zero, beq_iff_eq]
  exact ⟨fun h => decide_eq_true h, fun h => of_decide_eq_true h⟩

theorem starts_any (s : ByteArray) (w : World) (hs : s.size ≤ maxLen) :
    Calls Try.prog 72 #[.string s] w fun e w' => e = .returned (.bool (decide ((L s).take 3 = F))) ∧ w = w' := by
  by_cases h : 3 ≤ s.size
  · exact starts_yes s w h hs
  · refine (starts_no s w h).mono fun e w' ⟨he, hw⟩ => ⟨?_, hw⟩
    rw [he]
    refine ret_bool ?_
    symm
    rw [decide_eq_false_iff_not]
    intro e
    have := congrArg List.length e
    rw [List.length_take, size_L] at this
    simp [F] at this
    omega

set_option maxHeartbeats 400000 in
theorem right_any (s : ByteArray) (w : World) (hs : s.size ≤ maxLen) :
    Calls Try.prog 65 #[.string s] w fun e w' => e = .returned (.bool (rL (L s))) ∧ Below w.heap.size w w' := by
  unfold maxLen at hs
  go_enter Try.func65, Try.ntmps65
  go_wp2
  go_loopw [3, 4] (fun _ _ w' => ∃ (pos : Nat), w' = w.iter s pos ∧ pos ≤ s.size ∧ rL ((L s).drop pos) = rL (L s)) (fun _ _ w' => s.size - w'.iterPos w.heap.size)
  case atStart => exact ⟨0, rfl, Nat.zero_le _, by simp⟩
  case round =>
    obtain ⟨pos, rfl, hps, hc⟩ := hrel
    have HC := Lib.hid hc; clear hc
    by_cases hp : pos < s.size
    · have hnx : ∀ ty, (Instr.next (.pointer (some ⟨w.heap.size, 0, none⟩)) true ty).run Try.prog (w.iter s pos) = _ := fun ty => run_next_any w s pos ty hp
      have hdp := dec_pos _ (drop_ne s pos hp)
      have hdl := dec_le _ (drop_ne s pos hp)
      have hst := rL_step _ (drop_ne s pos hp)
      have heq := starts_eq _ (drop_ne s pos hp)
      rw [List.drop_drop, ← decode_eq] at hst
      rw [← decode_eq] at hdp hdl heq
      rw [List.length_drop, size_L] at hdl
      have HS := Lib.hid hst; clear hst
      have HE := Lib.hid heq; clear heq
      by_cases hr : (Utf8.decode s pos).1 = 65533
      · have hrb : (((Utf8.decode s pos).1 : Int) == 65533) = true := by rw [hr]; rfl
        have HR := Lib.hid hr; clear hr
        have hx : (s.extract pos s.size).size ≤ maxLen := by have := size_extract s pos s.size; unfold maxLen; omega
        go_wp2_with (go_at_call 72; refine (starts_any _ _ hx).mono ?_; rintro e w' ⟨rfl, rfl⟩)
        · have hq : (!decide (List.take 3 (L (s.extract pos s.size)) = F)) = true := by assumption
          rw [L_end] at hq
          go_ret
          refine ⟨ret_bool ?_, below_iter w s _⟩
          have h1 := HE.out HR.out
          rw [← HC.out, HS.out, okP, ← h1, HR.out]
          simp at hq
          simp [hq]
        · have hq : (!decide (List.take 3 (L (s.extract pos s.size)) = F)) = false := by assumption
          rw [L_end] at hq
          go_roundw
          case rel =>
            refine ⟨pos + (Utf8.decode s pos).2, rfl, by omega, ?_⟩
            have h1 := HE.out HR.out
            rw [← HC.out, HS.out, okP, ← h1, HR.out]
            simp at hq
            simp [hq]
          case measure => simp; omega
      · have hrb : (((Utf8.decode s pos).1 : Int) == 65533) = false := by simpa using fun h => hr (by omega)
        have HR := Lib.hid hr; clear hr
        go_wp2
        go_roundw
        case rel =>
          refine ⟨pos + (Utf8.decode s pos).2, rfl, by omega, ?_⟩
          rw [← HC.out, HS.out, okP]
          have h2 : ((Utf8.decode s pos).1 == 65533) = false := by simpa using HR.out
          simp only [h2, Bool.not_false, Bool.true_or, Bool.true_and]
        case measure => simp; omega
    · have hnx : ∀ ty, (Instr.next (.pointer (some ⟨w.heap.size, 0, none⟩)) true ty).run Try.prog (w.iter s pos) = _ := fun ty => run_next_end w s pos ty hp
      go_wp2
      go_ret
      refine ⟨ret_bool ?_, below_iter w s _⟩
      rw [← HC.out, drop_nil s pos hp, rL_nil]

end Go.Proofs.Ytenmlpfjeohkiaa.Ch

namespace Go.Proofs.Ytenmlpfjeohkiaa.Na
set_option maxRecDepth 100000
set_option linter.unusedSimpArgs false
set_option linter.unusedVariables false
open Go.RowKit Ba Fm Fo Nm
theorem u8_range {c : UInt8} : (decide ((65 : UInt8) ≤ c) && decide (c ≤ 90)) = (decide ((65 : Int) ≤ c.toNat) && decide ((c.toNat : Int) ≤ 90)) := by
  rw [Bool.eq_iff_iff]
  simp only [Bool.and_eq_true, decide_eq_true_eq, UInt8.le_iff_toNat_le]
  have e65 : (65 : UInt8).toNat = 65 := rfl
  have e90 : (90 : UInt8).toNat = 90 := rfl
  rw [e65, e90]
  omega
theorem u8_small {c : UInt8} : small c = (decide ((97 : Int) ≤ c.toNat) && decide ((c.toNat : Int) ≤ 122)) := by
  unfold small
  rw [Bool.eq_iff_iff]
  simp only [Bool.and_eq_true, decide_eq_true_eq, UInt8.le_iff_toNat_le]
  have e65 : (97 : UInt8).toNat = 97 := rfl
  have e90 : (122 : UInt8).toNat = 122 := rfl
  rw [e65, e90]
  omega

def elBAll (s : ByteArray) : Bool := (L s).all elB
def atBAll (s : ByteArray) : Bool := (L s).all atB
theorem all_snoc (p : UInt8 → Bool) (s : ByteArray) (k : Nat) (h : k < s.size) : ((L s).take (k + 1)).all p = (((L s).take k).all p && p s[k]) := by
  rw [take_snoc s k h, List.all_append]; simp
theorem all_no (p : UInt8 → Bool) (s : ByteArray) (k : Nat) (h : k < s.size) (hb : p s[k] = false) : (L s).all p = false := by
  rw [List.all_eq_false]
  exact ⟨s[k], List.getElem_mem (by rw [size_L]; exact h), by simp [hb]⟩

set_option maxHeartbeats 1000000 in
theorem inElement_any (c : UInt8) (w : World) :
    Calls Try.prog 70 #[.int .u8 c.toNat] w fun e w' => e = .returned (.bool (elB c)) ∧ w = w' := by
  have e0 : ((c.toNat : Int) == 0) = (c == 0) := u8_eq (b := 0)
  have e47 : ((c.toNat : Int) == 47) = (c == 47) := u8_eq (b := 47)
  have e62 : ((c.toNat : Int) == 62) = (c == 62) := u8_eq (b := 62)
  have hr := u8_range (c := c)
  have he : elB c = !(sp c || (decide ((65 : UInt8) ≤ c) && decide (c ≤ 90)) || c == 0 || c == 47 || c == 62) := rfl
  rw [hr] at he
  obtain ⟨q, hq⟩ : ∃ q, elB c = q := ⟨_, rfl⟩
  rw [hq] at he ⊢
  clear hr hq
  cases h0 : (c == 0) <;> cases h47 : (c == 47) <;> cases h62 : (c == 62)
  all_goals
    rw [h0] at e0
    rw [h47] at e47
    rw [h62] at e62
    rw [h0, h47, h62] at he
    clear h0 h47 h62
  case false.false.false =>
    cases hs : sp c <;> by_cases h1 : (65 : Int) ≤ c.toNat <;> by_cases h2 : (c.toNat : Int) ≤ 90
    all_goals
      have HE := Lib.hid he; have HS := Lib.hid hs
      clear he hs
      first
      | omega
      | (go_enter Try.func70, Try.ntmps70
         go_wp2_with (go_at_call 74; refine (space_any c _).mono ?_; rw [HS.out]; rintro e w' ⟨rfl, rfl⟩)
         go_ret
         exact ⟨ret_bool (by rw [HE.out, HS.out]; simp [h1, h2]), rfl⟩)
  all_goals
    have HE := Lib.hid he
    clear he
    go_enter Try.func70, Try.ntmps70
    go_wp2
    go_ret
    exact ⟨ret_bool (by rw [HE.out]; simp), rfl⟩

set_option maxHeartbeats 1000000 in
theorem inAttr_any (c : UInt8) (w : World) :
    Calls Try.prog 71 #[.int .u8 c.toNat] w fun e w' => e = .returned (.bool (atB c)) ∧ w = w' := by
  have e34 : ((c.toNat : Int) == 34) = (c == 34) := u8_eq (b := 34)
  have e39 : ((c.toNat : Int) == 39) = (c == 39) := u8_eq (b := 39)
  have e60 : ((c.toNat : Int) == 60) = (c == 60) := u8_eq (b := 60)
  have e61 : ((c.toNat : Int) == 61) = (c == 61) := u8_eq (b := 61)
  have he : atB c = (elB c && !(c == 34 || c == 39 || c == 60 || c == 61)) := rfl
  obtain ⟨q, hq⟩ : ∃ q, atB c = q := ⟨_, rfl⟩
  rw [hq] at he ⊢
  clear hq
  cases h34 : (c == 34) <;> cases h39 : (c == 39) <;> cases h60 : (c == 60) <;> cases h61 : (c == 61)
  all_goals
    rw [h34] at e34
    rw [h39] at e39
    rw [h60] at e60
    rw [h61] at e61
    rw [h34, h39, h60, h61] at he
    clear h34 h39 h60 h61
    have HE := Lib.hid he
    clear he
    go_enter Try.func71, Try.ntmps71
    go_wp2_with (go_at_call 70; refine (inElement_any c _).mono ?_; rintro e w' ⟨rfl, rfl⟩)
    go_ret
    exact ⟨ret_bool (by rw [HE.out]; simp), rfl⟩

set_option maxHeartbeats 1000000 in
theorem every_el (s : ByteArray) (w : World) (hs : s.size ≤ 140737488355328) :
    Calls Try.prog 69 #[.string s, .func (.func 70) #[] #[]] w fun e w' => e = .returned (.bool (elBAll s)) ∧ w = w' := by
  go_enter Try.func69, Try.ntmps69
  go_wp2
  go_loop [8] (fun i => ∃ k : Nat, i = .int .i64 k ∧ k ≤ s.size ∧ ((L s).take k).all elB = true) (fun i => s.size - (intOf i).toNat)
  case atStart => exact ⟨0, rfl, Nat.zero_le _, by simp⟩
  case round =>
    obtain ⟨k, rfl, hks, hn⟩ := hrel
    by_cases hp : k < s.size
    · have hsn := all_snoc elB s k hp
      rw [hn] at hsn
      cases hb : elB s[k] with
      | true =>
        rw [hb] at hsn
        have HB := Lib.hid hb; have HS := Lib.hid hsn; clear hb hsn hn
        go_wp2_with (go_at_call 70; refine (inElement_any s[k] _).mono ?_; rw [HB.out]; rintro e w' ⟨rfl, rfl⟩)
        go_round
        case rel => exact ⟨k + 1, by go_num, by omega, HS.out⟩
        case measure => simp [intOf]; omega
      | false =>
        have hno : elBAll s = false := all_no elB s k hp hb
        have HB := Lib.hid hb; have HN := Lib.hid hno; clear hb hsn hn hno
        go_wp2_with (go_at_call 70; refine (inElement_any s[k] _).mono ?_; rw [HB.out]; rintro e w' ⟨rfl, rfl⟩)
        go_ret
        exact ⟨ret_bool HN.out.symm, rfl⟩
    · rw [List.take_of_length_le (by rw [size_L]; omega)] at hn
      have hn : elBAll s = true := hn
      have HN := Lib.hid hn; clear hn
      go_wp2
      go_ret
      exact ⟨ret_bool HN.out.symm, rfl⟩
set_option maxHeartbeats 1000000 in
theorem every_at (s : ByteArray) (w : World) (hs : s.size ≤ 140737488355328) :
    Calls Try.prog 69 #[.string s, .func (.func 71) #[] #[]] w fun e w' => e = .returned (.bool (atBAll s)) ∧ w = w' := by
  go_enter Try.func69, Try.ntmps69
  go_wp2
  go_loop [8] (fun i => ∃ k : Nat, i = .int .i64 k ∧ k ≤ s.size ∧ ((L s).take k).all atB = true) (fun i => s.size - (intOf i).toNat)
  case atStart => exact ⟨0, rfl, Nat.zero_le _, by simp⟩
  case round =>
    obtain ⟨k, rfl, hks, hn⟩ := hrel
    by_cases hp : k < s.size
    · have hsn := all_snoc atB s k hp
      rw [hn] at hsn
      cases hb : atB s[k] with
      | true =>
        rw [hb] at hsn
        have HB := Lib.hid hb; have HS := Lib.hid hsn; clear hb hsn hn
        go_wp2_with (go_at_call 71; refine (inAttr_any s[k] _).mono ?_; rw [HB.out]; rintro e w' ⟨rfl, rfl⟩)
        go_round
        case rel => exact ⟨k + 1, by go_num, by omega, HS.out⟩
        case measure => simp [intOf]; omega
      | false =>
        have hno : atBAll s = false := all_no atB s k hp hb
        have HB := Lib.hid hb; have HN := Lib.hid hno; clear hb hsn hn hno
        go_wp2_with (go_at_call 71; refine (inAttr_any s[k] _).mono ?_; rw [HB.out]; rintro e w' ⟨rfl, rfl⟩)
        go_ret
        exact ⟨ret_bool HN.out.symm, rfl⟩
    · rw [List.take_of_length_le (by rw [size_L]; omega)] at hn
      have hn : atBAll s = true := hn
      have HN := Lib.hid hn; clear hn
      go_wp2
      go_ret
      exact ⟨ret_bool HN.out.symm, rfl⟩

theorem nil_size {s : ByteArray} (h : s.toList = []) : s.size = 0 := by
  rw [toList_L] at h
  rw [← size_L, h]; rfl
theorem not_nil {s : ByteArray} (h : ¬ s.size = 0) : ¬ s.toList = [] := fun e => h (nil_size e)
theorem nil_of {s : ByteArray} (h : s.size = 0) : s.toList = [] := by
  rw [toList_L]
  exact List.eq_nil_of_length_eq_zero (by rw [size_L]; exact h)
theorem attrB_nil {s : ByteArray} (h : s.size = 0) : attrB s = false := by
  unfold attrB
  rw [← toList_L, nil_of h]; rfl
theorem rightB_nil {s : ByteArray} (h : s.size = 0) : rightB s = false := by
  unfold rightB
  rw [← toList_L, nil_of h]; rfl
theorem attrB_cons {s : ByteArray} (h : ¬ s.size = 0) : attrB s = atBAll s := by
  unfold attrB atBAll
  have := drop_cons s 0 (by omega)
  rw [List.drop_zero] at this
  rw [this]; rfl
theorem rightB_cons {s : ByteArray} (h : 0 < s.size) : rightB s = (small s[0] && elBAll s) := by
  unfold rightB elBAll
  have := drop_cons s 0 h
  rw [List.drop_zero] at this
  rw [this]; rfl

set_option maxHeartbeats 1000000 in
theorem attr_any (s : ByteArray) (w : World) (hs : s.size ≤ 140737488355328) :
    Calls Try.prog 62 #[.string s] w fun e w' => e = .returned (.bool (attrB s)) ∧ w = w' := by
  by_cases h0 : s.size = 0
  · rw [attrB_nil h0]
    have hn := nil_of h0
    clear h0
    go_enter Try.func62, Try.ntmps62
    go_wp2
    go_ret
    exact ⟨rfl, rfl⟩
  · rw [attrB_cons h0]
    have hn := not_nil h0
    clear h0
    go_enter Try.func62, Try.ntmps62
    go_wp2_with fail
    refine (every_at s w hs).mono ?_
    rintro e w' ⟨rfl, rfl⟩
    go_wp2
    go_ret
    exact ⟨ret_bool (by simp [hn]), rfl⟩
set_option maxHeartbeats 1000000 in
theorem right_any (s : ByteArray) (w : World) (hs : s.size ≤ 140737488355328) :
    Calls Try.prog 60 #[.string s] w fun e w' => e = .returned (.bool (rightB s)) ∧ w = w' := by
  by_cases h0 : s.size = 0
  · rw [rightB_nil h0]
    have hn := nil_of h0
    clear h0
    go_enter Try.func60, Try.ntmps60
    go_wp2
    go_ret
    exact ⟨rfl, rfl⟩
  · have hp : 0 < s.size := by omega
    have he := rightB_cons hp
    rw [u8_small] at he
    obtain ⟨q, hq⟩ : ∃ q, rightB s = q := ⟨_, rfl⟩
    rw [hq] at he ⊢
    have hn := not_nil h0
    clear h0 hq
    have HE := Lib.hid he
    clear he
    by_cases h1 : (97 : Int) ≤ s[0].toNat <;> by_cases h2 : (s[0].toNat : Int) ≤ 122
    all_goals
      go_enter Try.func60, Try.ntmps60
      go_wp2_with (go_at_call 69; refine (every_el s _ hs).mono ?_; rintro e w' ⟨rfl, rfl⟩)
      go_ret
      refine ⟨ret_bool ?_, rfl⟩
      rw [HE.out]
      by_cases g1 : (97 : Int) ≤ s[0].toNat
      · by_cases g2 : (s[0].toNat : Int) ≤ 122
        · rw [decide_eq_true g1, decide_eq_true g2]
          first | rfl | (simp [hn]; done) | (exfalso; omega)
        · rw [decide_eq_false g2, decide_eq_true g1]
          first | rfl | (exfalso; omega)
      · rw [decide_eq_false g1]
        first | rfl | (exfalso; omega)

end Go.Proofs.Ytenmlpfjeohkiaa.Na

namespace Go.Proofs.Ytenmlpfjeohkiaa.Wr
set_option maxRecDepth 100000
set_option linter.unusedSimpArgs false
set_option linter.unusedVariables false
open Go.RowKit Ba Fm Fo Nm Wm
open Ro (At Ro Cw ros rowO rowV below_new range2 range5 cells)
open Tm (pre)
open To (pre_yes pre_short)
open Ch (rL)
set_option maxHeartbeats 1000000 in
theorem begins1 (s t : ByteArray) (w : World) (hs : s.size ≤ 140737488355328) (ht : t.size ≤ 140737488355328) (q : Bool) (hq : pre (L t) (L s) = q) :
    Calls Try.prog 64 #[.string s, .string t] w fun e w' => e = .returned (.bool q) ∧ w = w' := by
  by_cases h : t.size ≤ s.size
  · have hp := pre_yes s t
    rw [hq] at hp
    have HP := Lib.hid hq
    clear hq
    go_enter Try.func64, Try.ntmps64
    go_wp2
    go_ret
    exact ⟨rfl, rfl⟩
  · have hn := pre_short s t h
    rw [hn] at hq
    subst hq
    clear hn
    go_enter Try.func64, Try.ntmps64
    go_wp2
    go_ret
    exact ⟨rfl, rfl⟩
theorem suf_yes (s t : ByteArray) (h : t.size ≤ s.size) : ((s.extract (s.size - t.size) s.size).toList == t.toList) = suf (L t) (L s) := by
  rw [eq_of_toList]
  unfold suf
  rw [size_L, size_L, decide_eq_true h, Bool.true_and]
  refine decide_eq_decide.2 ?_
  constructor
  · intro e
    have := congrArg L e
    rwa [L_end] at this
  · intro e
    apply L_inj
    rwa [L_end]
theorem suf_short (s t : ByteArray) (h : ¬ t.size ≤ s.size) : suf (L t) (L s) = false := by
  unfold suf
  rw [size_L, size_L, decide_eq_false h, Bool.false_and]
set_option maxHeartbeats 1000000 in
theorem ends1 (s t : ByteArray) (w : World) (hs : s.size ≤ 140737488355328) (ht : t.size ≤ 140737488355328) (q : Bool) (hq : suf (L t) (L s) = q) :
    Calls Try.prog 66 #[.string s, .string t] w fun e w' => e = .returned (.bool q) ∧ w = w' := by
  by_cases h : t.size ≤ s.size
  · have hp := suf_yes s t h
    rw [hq] at hp
    have HP := Lib.hid hq
    clear hq
    have h0 : 0 ≤ (s.size : Int) - t.size := by omega
    have hto : ((s.size : Int) - t.size).toNat = s.size - t.size := by omega
    go_enter Try.func66, Try.ntmps66
    go_wp2
    go_ret
    exact ⟨rfl, rfl⟩
  · have hn := suf_short s t h
    rw [hn] at hq
    subst hq
    clear hn
    go_enter Try.func66, Try.ntmps66
    go_wp2
    go_ret
    exact ⟨rfl, rfl⟩

theorem sub_step (p : List UInt8) (s : ByteArray) (k : Nat) (h : k < s.size) : sub p ((L s).drop k) = (pre p ((L s).drop k) || sub p ((L s).drop (k + 1))) := by
  rw [drop_cons s k h, sub]
theorem sub_end (p : List UInt8) (s : ByteArray) (k : Nat) (h : ¬ k < s.size) : sub p ((L s).drop k) = false := by
  rw [drop_nil s k h, sub]
set_option maxHeartbeats 1000000 in
theorem contains1 (s t : ByteArray) (w : World) (hs : s.size ≤ 140737488355328) (ht : t.size ≤ 140737488355328) (q : Bool) (hq : sub (L t) (L s) = q) :
    Calls Try.prog 63 #[.string s, .string t] w fun e w' => e = .returned (.bool q) ∧ w = w' := by
  have HQ := Lib.hid hq
  clear hq
  go_enter Try.func63, Try.ntmps63
  go_wp2
  go_loop [8] (fun i => ∃ k : Nat, i = .int .i64 k ∧ k ≤ s.size ∧ sub (L t) ((L s).drop k) = q) (fun i => s.size - (intOf i).toNat)
  case atStart => exact ⟨0, rfl, Nat.zero_le _, by rw [List.drop_zero]; exact HQ.out⟩
  case round =>
    obtain ⟨k, rfl, hk, hn⟩ := hrel
    by_cases hp : k < s.size
    · have hst := sub_step (L t) s k hp
      rw [hn] at hst
      obtain ⟨b, hb⟩ : ∃ b, pre (L t) ((L s).drop k) = b := ⟨_, rfl⟩
      rw [hb] at hst
      have hb' : pre (L t) (L (s.extract k s.size)) = b := by rw [L_end]; exact hb
      have hx : (s.extract k s.size).size ≤ 140737488355328 := Nat.le_trans (size_extract _ _ _) hs
      have HST := Lib.hid hst; have HB := Lib.hid hb'; have HX := Lib.hid hx
      clear hst hb hb' hn hx
      go_wp2_with fail
      refine (begins1 (s.extract k s.size) t w HX.out ht b HB.out).mono ?_
      rintro e w' ⟨rfl, rfl⟩
      cases b with
      | true =>
        go_wp2
        go_ret
        exact ⟨ret_bool (by rw [HST.out]; rfl), rfl⟩
      | false =>
        go_wp2
        go_round
        case rel => exact ⟨k + 1, by go_num, by omega, by rw [HST.out]; rfl⟩
        case measure => simp [intOf]; omega
    · rw [sub_end _ s k hp] at hn
      subst hn
      go_wp2
      go_ret
      exact ⟨rfl, rfl⟩

set_option maxHeartbeats 1000000 in
theorem clean1 (s : ByteArray) (w : World) (hs : s.size ≤ 140737488355328) (q : Bool) (hq : cleanB (L s) = q) :
    Calls Try.prog 51 #[.string s] w fun e w' => e = .returned (.bool q) ∧ Below w.heap.size w w' := by
  obtain ⟨a, ha⟩ : ∃ a, rL (L s) = a := ⟨_, rfl⟩
  obtain ⟨b, hb⟩ : ∃ b, sub [0] (L s) = b := ⟨_, rfl⟩
  obtain ⟨c, hc⟩ : ∃ c, sub [13] (L s) = c := ⟨_, rfl⟩
  unfold cleanB at hq
  rw [ha, hb, hc] at hq
  have HA := Lib.hid ha; have HB := Lib.hid hb; have HC := Lib.hid hc; have HQ := Lib.hid hq
  clear ha hb hc hq
  go_enter Try.func51, Try.ntmps51
  go_wp2_with fail
  refine (Ch.right_any s w (by unfold maxLen; omega)).mono ?_
  rw [HA.out]
  rintro e w1 ⟨rfl, hb1⟩
  have HB1 := Lib.hid hb1
  clear hb1
  cases a with
  | false =>
    go_wp2
    go_ret
    exact ⟨ret_bool (by rw [← HQ.out]; rfl), HB1.out⟩
  | true =>
    go_wp2_with fail
    refine (contains1 s ⟨#[0]⟩ w1 hs (by decide) b HB.out).mono ?_
    rintro e w2 ⟨rfl, rfl⟩
    cases b with
    | true =>
      go_wp2
      go_ret
      exact ⟨ret_bool (by rw [← HQ.out]; rfl), HB1.out⟩
    | false =>
      go_wp2_with fail
      refine (contains1 s ⟨#[13]⟩ w1 hs (by decide) c HC.out).mono ?_
      rintro e w2 ⟨rfl, rfl⟩
      go_wp2
      go_ret
      exact ⟨ret_bool (by rw [← HQ.out]; cases c <;> rfl), HB1.out⟩
set_option maxHeartbeats 1000000 in
theorem legalName1 (s : ByteArray) (w : World) (hs : s.size ≤ 140737488355328) (q : Bool) (hq : nameB s = q) :
    Calls Try.prog 48 #[.string s] w fun e w' => e = .returned (.bool q) ∧ Below w.heap.size w w' := by
  obtain ⟨a, ha⟩ : ∃ a, rightB s = a := ⟨_, rfl⟩
  obtain ⟨b, hb⟩ : ∃ b, isIn s goneL = b := ⟨_, rfl⟩
  obtain ⟨c, hc⟩ : ∃ c, cleanB (L s) = c := ⟨_, rfl⟩
  unfold nameB at hq
  rw [ha, hb, hc] at hq
  have HA := Lib.hid ha; have HB := Lib.hid hb; have HC := Lib.hid hc; have HQ := Lib.hid hq
  clear ha hb hc hq
  go_enter Try.func48, Try.ntmps48
  go_wp2_with fail
  refine (Na.right_any s w hs).mono ?_
  rw [HA.out]
  rintro e w1 ⟨rfl, rfl⟩
  cases a with
  | false =>
    go_wp2
    go_ret
    exact ⟨ret_bool (by rw [← HQ.out]; rfl), Below.refl _ _⟩
  | true =>
    go_wp2_with fail
    refine (Na.gone_any s w).mono ?_
    rw [HB.out]
    rintro e w2 ⟨rfl, hb2⟩
    have HB2 := Lib.hid hb2
    clear hb2
    cases b with
    | true =>
      go_wp2
      go_ret
      exact ⟨ret_bool (by rw [← HQ.out]; rfl), HB2.out⟩
    | false =>
      go_wp2_with fail
      refine (clean1 s w2 hs c HC.out).mono ?_
      rintro e w3 ⟨rfl, hb3⟩
      have HB3 := Lib.hid (bt HB2.out hb3)
      clear hb3
      go_wp2
      go_ret
      exact ⟨ret_bool (by rw [← HQ.out]; cases c <;> rfl), HB3.out⟩
set_option maxHeartbeats 1000000 in
theorem legalRaw1 (s : ByteArray) (w : World) (hs : s.size ≤ 140737488355328) (q : Bool) (hq : plainB (L s) = q) :
    Calls Try.prog 52 #[.string s] w fun e w' => e = .returned (.bool q) ∧ w = w' := by
  obtain ⟨a, ha⟩ : ∃ a, sub [60, 47] (L s) = a := ⟨_, rfl⟩
  obtain ⟨b, hb⟩ : ∃ b, suf [60] (L s) = b := ⟨_, rfl⟩
  unfold plainB at hq
  rw [ha, hb] at hq
  have HA := Lib.hid ha; have HB := Lib.hid hb; have HQ := Lib.hid hq
  clear ha hb hq
  go_enter Try.func52, Try.ntmps52
  go_wp2_with fail
  refine (contains1 s ⟨#[60, 47]⟩ w hs (by decide) a HA.out).mono ?_
  rintro e w1 ⟨rfl, rfl⟩
  cases a with
  | true =>
    go_wp2
    go_ret
    exact ⟨ret_bool (by rw [← HQ.out]; rfl), rfl⟩
  | false =>
    go_wp2_with fail
    refine (ends1 s ⟨#[60]⟩ w hs (by decide) b HB.out).mono ?_
    rintro e w1 ⟨rfl, rfl⟩
    go_wp2
    go_ret
    exact ⟨ret_bool (by rw [← HQ.out]; cases b <;> rfl), rfl⟩
set_option maxHeartbeats 1000000 in
theorem legalComment1 (s : ByteArray) (w : World) (hs : s.size ≤ 140737488355328) (q : Bool) (hq : noteB (L s) = q) :
    Calls Try.prog 50 #[.string s] w fun e w' => e = .returned (.bool q) ∧ w = w' := by
  obtain ⟨a, ha⟩ : ∃ a, sub [45, 45, 62] (L s) = a := ⟨_, rfl⟩
  obtain ⟨b, hb⟩ : ∃ b, sub [45, 45, 33, 62] (L s) = b := ⟨_, rfl⟩
  obtain ⟨c, hc⟩ : ∃ c, pre [62] (L s) = c := ⟨_, rfl⟩
  obtain ⟨d, hd⟩ : ∃ d, pre [45, 62] (L s) = d := ⟨_, rfl⟩
  unfold noteB at hq
  rw [ha, hb, hc, hd] at hq
  have HA := Lib.hid ha; have HB := Lib.hid hb; have HC := Lib.hid hc; have HD := Lib.hid hd; have HQ := Lib.hid hq
  clear ha hb hc hd hq
  go_enter Try.func50, Try.ntmps50
  go_wp2_with fail
  refine (contains1 s ⟨#[45, 45, 62]⟩ w hs (by decide) a HA.out).mono ?_
  rintro e w1 ⟨rfl, rfl⟩
  cases a with
  | true =>
    go_wp2
    go_ret
    exact ⟨ret_bool (by rw [← HQ.out]; rfl), rfl⟩
  | false =>
    go_wp2_with fail
    refine (contains1 s ⟨#[45, 45, 33, 62]⟩ w hs (by decide) b HB.out).mono ?_
    rintro e w1 ⟨rfl, rfl⟩
    cases b with
    | true =>
      go_wp2
      go_ret
      exact ⟨ret_bool (by rw [← HQ.out]; rfl), rfl⟩
    | false =>
      go_wp2_with fail
      refine (begins1 s ⟨#[62]⟩ w hs (by decide) c HC.out).mono ?_
      rintro e w1 ⟨rfl, rfl⟩
      cases c with
      | true =>
        go_wp2
        go_ret
        exact ⟨ret_bool (by rw [← HQ.out]; rfl), rfl⟩
      | false =>
        go_wp2_with fail
        refine (begins1 s ⟨#[45, 62]⟩ w hs (by decide) d HD.out).mono ?_
        rintro e w1 ⟨rfl, rfl⟩
        go_wp2
        go_ret
        exact ⟨ret_bool (by rw [← HQ.out]; cases d <;> rfl), rfl⟩

end Go.Proofs.Ytenmlpfjeohkiaa.Wr

namespace Go.Proofs.Ytenmlpfjeohkiaa.Na
set_option maxRecDepth 100000
set_option linter.unusedSimpArgs false
set_option linter.unusedVariables false
open Go.RowKit Ba Fm Fo Nm
set_option maxRecDepth 100000 in
set_option maxHeartbeats 4000000 in
theorem closes_any (s : ByteArray) (w : World) : Calls Try.prog 75 #[.string s] w fun e w' => ∃ v, e = .returned v ∧ Sown w.heap.size w' v (closesL s) ∧ Below w.heap.size w w' := by
  by_cases h0 : s = n_li
  · obtain ⟨⟨f0, f1, f2, f3, f4, f5, f6, f7, f8, f9, f10⟩, hcl, hwl, htb, hbl⟩ := own_li h0
    rw [hcl]
    have hb := below_one w (.cells ([n_li].map sc).toArray 9)
    have hs := sown_lit w [n_li] (by decide)
    have HX := Lib.hid h0; have HTB := Lib.hid htb
    clear h0 hcl hwl htb hbl
    go_enter Try.func75, Try.ntmps75
    go_wp2
    go_ret
    exact ⟨_, rfl, hs, hb⟩
  by_cases h1 : s = n_dd
  · obtain ⟨⟨f0, f1, f2, f3, f4, f5, f6, f7, f8, f9, f10⟩, hcl, hwl, htb, hbl⟩ := own_dd h1
    rw [hcl]
    have hb := below_one w (.cells ([n_dd, n_dt].map sc).toArray 9)
    have hs := sown_lit w [n_dd, n_dt] (by decide)
    have HX := Lib.hid h1; have HTB := Lib.hid htb
    clear h0 h1 hcl hwl htb hbl
    go_enter Try.func75, Try.ntmps75
    go_wp2
    go_ret
    exact ⟨_, rfl, hs, hb⟩
  by_cases h2 : s = n_dt
  · obtain ⟨⟨f0, f1, f2, f3, f4, f5, f6, f7, f8, f9, f10⟩, hcl, hwl, htb, hbl⟩ := own_dt h2
    rw [hcl]
    have hb := below_one w (.cells ([n_dd, n_dt].map sc).toArray 9)
    have hs := sown_lit w [n_dd, n_dt] (by decide)
    have HX := Lib.hid h2; have HTB := Lib.hid htb
    clear h0 h1 h2 hcl hwl htb hbl
    go_enter Try.func75, Try.ntmps75
    go_wp2
    go_ret
    exact ⟨_, rfl, hs, hb⟩
  by_cases h3 : s = n_option
  · obtain ⟨⟨f0, f1, f2, f3, f4, f5, f6, f7, f8, f9, f10⟩, hcl, hwl, htb, hbl⟩ := own_option h3
    rw [hcl]
    have hb := below_one w (.cells ([n_option].map sc).toArray 9)
    have hs := sown_lit w [n_option] (by decide)
    have HX := Lib.hid h3; have HTB := Lib.hid htb
    clear h0 h1 h2 h3 hcl hwl htb hbl
    go_enter Try.func75, Try.ntmps75
    go_wp2
    go_ret
    exact ⟨_, rfl, hs, hb⟩
  by_cases h4 : s = n_optgroup
  · obtain ⟨⟨f0, f1, f2, f3, f4, f5, f6, f7, f8, f9, f10⟩, hcl, hwl, htb, hbl⟩ := own_optgroup h4
    rw [hcl]
    have hb := below_one w (.cells ([n_optgroup, n_option].map sc).toArray 9)
    have hs := sown_lit w [n_optgroup, n_option] (by decide)
    have HX := Lib.hid h4; have HTB := Lib.hid htb
    clear h0 h1 h2 h3 h4 hcl hwl htb hbl
    go_enter Try.func75, Try.ntmps75
    go_wp2
    go_ret
    exact ⟨_, rfl, hs, hb⟩
  by_cases h5 : s = n_tr
  · obtain ⟨⟨f0, f1, f2, f3, f4, f5, f6, f7, f8, f9, f10⟩, hcl, hwl, htb, hbl⟩ := own_tr h5
    rw [hcl]
    have hb := below_one w (.cells ([n_td, n_th, n_tr].map sc).toArray 9)
    have hs := sown_lit w [n_td, n_th, n_tr] (by decide)
    have HX := Lib.hid h5; have HTB := Lib.hid htb
    clear h0 h1 h2 h3 h4 h5 hcl hwl htb hbl
    go_enter Try.func75, Try.ntmps75
    go_wp2
    go_ret
    exact ⟨_, rfl, hs, hb⟩
  by_cases h6 : s = n_td
  · obtain ⟨⟨f0, f1, f2, f3, f4, f5, f6, f7, f8, f9, f10⟩, hcl, hwl, htb, hbl⟩ := own_td h6
    rw [hcl]
    have hb := below_one w (.cells ([n_td, n_th].map sc).toArray 9)
    have hs := sown_lit w [n_td, n_th] (by decide)
    have HX := Lib.hid h6; have HTB := Lib.hid htb
    clear h0 h1 h2 h3 h4 h5 h6 hcl hwl htb hbl
    go_enter Try.func75, Try.ntmps75
    go_wp2
    go_ret
    exact ⟨_, rfl, hs, hb⟩
  by_cases h7 : s = n_th
  · obtain ⟨⟨f0, f1, f2, f3, f4, f5, f6, f7, f8, f9, f10⟩, hcl, hwl, htb, hbl⟩ := own_th h7
    rw [hcl]
    have hb := below_one w (.cells ([n_td, n_th].map sc).toArray 9)
    have hs := sown_lit w [n_td, n_th] (by decide)
    have HX := Lib.hid h7; have HTB := Lib.hid htb
    clear h0 h1 h2 h3 h4 h5 h6 h7 hcl hwl htb hbl
    go_enter Try.func75, Try.ntmps75
    go_wp2
    go_ret
    exact ⟨_, rfl, hs, hb⟩
  by_cases h8 : s = n_tbody
  · obtain ⟨⟨f0, f1, f2, f3, f4, f5, f6, f7, f8, f9, f10⟩, hcl, hwl, htb, hbl⟩ := own_tbody h8
    rw [hcl]
    have hb := below_one w (.cells ([n_tbody, n_td, n_tfoot, n_th, n_thead, n_tr].map sc).toArray 9)
    have hs := sown_lit w [n_tbody, n_td, n_tfoot, n_th, n_thead, n_tr] (by decide)
    have HX := Lib.hid h8; have HTB := Lib.hid htb
    clear h0 h1 h2 h3 h4 h5 h6 h7 h8 hcl hwl htb hbl
    go_enter Try.func75, Try.ntmps75
    go_wp2
    go_ret
    exact ⟨_, rfl, hs, hb⟩
  by_cases h9 : s = n_tfoot
  · obtain ⟨⟨f0, f1, f2, f3, f4, f5, f6, f7, f8, f9, f10⟩, hcl, hwl, htb, hbl⟩ := own_tfoot h9
    rw [hcl]
    have hb := below_one w (.cells ([n_tbody, n_td, n_tfoot, n_th, n_thead, n_tr].map sc).toArray 9)
    have hs := sown_lit w [n_tbody, n_td, n_tfoot, n_th, n_thead, n_tr] (by decide)
    have HX := Lib.hid h9; have HTB := Lib.hid htb
    clear h0 h1 h2 h3 h4 h5 h6 h7 h8 h9 hcl hwl htb hbl
    go_enter Try.func75, Try.ntmps75
    go_wp2
    go_ret
    exact ⟨_, rfl, hs, hb⟩
  by_cases h10 : s = n_thead
  · obtain ⟨⟨f0, f1, f2, f3, f4, f5, f6, f7, f8, f9, f10⟩, hcl, hwl, htb, hbl⟩ := own_thead h10
    rw [hcl]
    have hb := below_one w (.cells ([n_tbody, n_td, n_tfoot, n_th, n_thead, n_tr].map sc).toArray 9)
    have hs := sown_lit w [n_tbody, n_td, n_tfoot, n_th, n_thead, n_tr] (by decide)
    have HX := Lib.hid h10; have HTB := Lib.hid htb
    clear h0 h1 h2 h3 h4 h5 h6 h7 h8 h9 h10 hcl hwl htb hbl
    go_enter Try.func75, Try.ntmps75
    go_wp2
    go_ret
    exact ⟨_, rfl, hs, hb⟩
  obtain ⟨⟨f0, f1, f2, f3, f4, f5, f6, f7, f8, f9, f10⟩, hcl, hwl, htb⟩ := own_none h0 h1 h2 h3 h4 h5 h6 h7 h8 h9 h10
  clear h0 h1 h2 h3 h4 h5 h6 h7 h8 h9 h10
  rw [hcl]
  have HTB := Lib.hid htb
  clear htb
  clear hcl hwl
  obtain ⟨q, hq⟩ : ∃ q, isIn s blockL = q := ⟨_, rfl⟩
  rw [hq]
  have HQ := Lib.hid hq
  clear hq
  cases q with
  | true =>
    rw [if_pos rfl]
    go_enter Try.func75, Try.ntmps75
    go_wp2_with fail
    refine (block_any s w).mono ?_
    rintro e w1 ⟨rfl, hb12⟩
    rw [HQ.out]
    have hb3 := below_one w1 (.cells ([n_p].map sc).toArray 9)
    have hs3 := sown_lit w1 [n_p] (by decide)
    go_wp2
    go_ret
    exact ⟨_, rfl, hs3.mono hb12.size, bt hb12 hb3⟩
    | false =>
    rw [if_neg (by decide)]
    go_enter Try.func75, Try.ntmps75
    go_wp2_with fail
    refine (block_any s w).mono ?_
    rintro e w1 ⟨rfl, hb12⟩
    rw [HQ.out]
    go_wp2
    go_ret
    exact ⟨_, rfl, Sown.nil _ _, hb12⟩

end Go.Proofs.Ytenmlpfjeohkiaa.Na

namespace Go.Proofs.Ytenmlpfjeohkiaa.Na
set_option maxRecDepth 100000
set_option linter.unusedSimpArgs false
set_option linter.unusedVariables false
open Go.RowKit Ba Fm Fo Nm
set_option maxRecDepth 100000 in
set_option maxHeartbeats 4000000 in
theorem walls_any (s : ByteArray) (w : World) : Calls Try.prog 76 #[.string s] w fun e w' => ∃ v, e = .returned v ∧ Sown w.heap.size w' v (wallsL s) ∧ Below w.heap.size w w' := by
  by_cases h0 : s = n_li
  · obtain ⟨⟨f0, f1, f2, f3, f4, f5, f6, f7, f8, f9, f10⟩, hcl, hwl, htb, hbl⟩ := own_li h0
    rw [hwl]
    have hb := below_one w (.cells ([n_menu, n_ol, n_template, n_ul].map sc).toArray 9)
    have hs := sown_lit w [n_menu, n_ol, n_template, n_ul] (by decide)
    have HX := Lib.hid h0; have HTB := Lib.hid htb
    clear h0 hcl hwl htb hbl
    go_enter Try.func76, Try.ntmps76
    go_wp2
    go_ret
    exact ⟨_, rfl, hs, hb⟩
  by_cases h1 : s = n_dd
  · obtain ⟨⟨f0, f1, f2, f3, f4, f5, f6, f7, f8, f9, f10⟩, hcl, hwl, htb, hbl⟩ := own_dd h1
    rw [hwl]
    have hb := below_one w (.cells ([n_dl, n_template].map sc).toArray 9)
    have hs := sown_lit w [n_dl, n_template] (by decide)
    have HX := Lib.hid h1; have HTB := Lib.hid htb
    clear h0 h1 hcl hwl htb hbl
    go_enter Try.func76, Try.ntmps76
    go_wp2
    go_ret
    exact ⟨_, rfl, hs, hb⟩
  by_cases h2 : s = n_dt
  · obtain ⟨⟨f0, f1, f2, f3, f4, f5, f6, f7, f8, f9, f10⟩, hcl, hwl, htb, hbl⟩ := own_dt h2
    rw [hwl]
    have hb := below_one w (.cells ([n_dl, n_template].map sc).toArray 9)
    have hs := sown_lit w [n_dl, n_template] (by decide)
    have HX := Lib.hid h2; have HTB := Lib.hid htb
    clear h0 h1 h2 hcl hwl htb hbl
    go_enter Try.func76, Try.ntmps76
    go_wp2
    go_ret
    exact ⟨_, rfl, hs, hb⟩
  by_cases h3 : s = n_option
  · obtain ⟨⟨f0, f1, f2, f3, f4, f5, f6, f7, f8, f9, f10⟩, hcl, hwl, htb, hbl⟩ := own_option h3
    rw [hwl]
    have hb := below_one w (.cells ([n_select, n_template].map sc).toArray 9)
    have hs := sown_lit w [n_select, n_template] (by decide)
    have HX := Lib.hid h3; have HTB := Lib.hid htb
    clear h0 h1 h2 h3 hcl hwl htb hbl
    go_enter Try.func76, Try.ntmps76
    go_wp2
    go_ret
    exact ⟨_, rfl, hs, hb⟩
  by_cases h4 : s = n_optgroup
  · obtain ⟨⟨f0, f1, f2, f3, f4, f5, f6, f7, f8, f9, f10⟩, hcl, hwl, htb, hbl⟩ := own_optgroup h4
    rw [hwl]
    have hb := below_one w (.cells ([n_select, n_template].map sc).toArray 9)
    have hs := sown_lit w [n_select, n_template] (by decide)
    have HX := Lib.hid h4; have HTB := Lib.hid htb
    clear h0 h1 h2 h3 h4 hcl hwl htb hbl
    go_enter Try.func76, Try.ntmps76
    go_wp2
    go_ret
    exact ⟨_, rfl, hs, hb⟩
  by_cases h5 : s = n_tr
  · obtain ⟨⟨f0, f1, f2, f3, f4, f5, f6, f7, f8, f9, f10⟩, hcl, hwl, htb, hbl⟩ := own_tr h5
    rw [hwl]
    have hb := below_one w (.cells ([n_table, n_template].map sc).toArray 9)
    have hs := sown_lit w [n_table, n_template] (by decide)
    have HX := Lib.hid h5; have HTB := Lib.hid htb
    clear h0 h1 h2 h3 h4 h5 hcl hwl htb hbl
    go_enter Try.func76, Try.ntmps76
    go_wp2
    go_ret
    exact ⟨_, rfl, hs, hb⟩
  by_cases h6 : s = n_td
  · obtain ⟨⟨f0, f1, f2, f3, f4, f5, f6, f7, f8, f9, f10⟩, hcl, hwl, htb, hbl⟩ := own_td h6
    rw [hwl]
    have hb := below_one w (.cells ([n_table, n_template].map sc).toArray 9)
    have hs := sown_lit w [n_table, n_template] (by decide)
    have HX := Lib.hid h6; have HTB := Lib.hid htb
    clear h0 h1 h2 h3 h4 h5 h6 hcl hwl htb hbl
    go_enter Try.func76, Try.ntmps76
    go_wp2
    go_ret
    exact ⟨_, rfl, hs, hb⟩
  by_cases h7 : s = n_th
  · obtain ⟨⟨f0, f1, f2, f3, f4, f5, f6, f7, f8, f9, f10⟩, hcl, hwl, htb, hbl⟩ := own_th h7
    rw [hwl]
    have hb := below_one w (.cells ([n_table, n_template].map sc).toArray 9)
    have hs := sown_lit w [n_table, n_template] (by decide)
    have HX := Lib.hid h7; have HTB := Lib.hid htb
    clear h0 h1 h2 h3 h4 h5 h6 h7 hcl hwl htb hbl
    go_enter Try.func76, Try.ntmps76
    go_wp2
    go_ret
    exact ⟨_, rfl, hs, hb⟩
  by_cases h8 : s = n_tbody
  · obtain ⟨⟨f0, f1, f2, f3, f4, f5, f6, f7, f8, f9, f10⟩, hcl, hwl, htb, hbl⟩ := own_tbody h8
    rw [hwl]
    have hb := below_one w (.cells ([n_table, n_template].map sc).toArray 9)
    have hs := sown_lit w [n_table, n_template] (by decide)
    have HX := Lib.hid h8; have HTB := Lib.hid htb
    clear h0 h1 h2 h3 h4 h5 h6 h7 h8 hcl hwl htb hbl
    go_enter Try.func76, Try.ntmps76
    go_wp2
    go_ret
    exact ⟨_, rfl, hs, hb⟩
  by_cases h9 : s = n_tfoot
  · obtain ⟨⟨f0, f1, f2, f3, f4, f5, f6, f7, f8, f9, f10⟩, hcl, hwl, htb, hbl⟩ := own_tfoot h9
    rw [hwl]
    have hb := below_one w (.cells ([n_table, n_template].map sc).toArray 9)
    have hs := sown_lit w [n_table, n_template] (by decide)
    have HX := Lib.hid h9; have HTB := Lib.hid htb
    clear h0 h1 h2 h3 h4 h5 h6 h7 h8 h9 hcl hwl htb hbl
    go_enter Try.func76, Try.ntmps76
    go_wp2
    go_ret
    exact ⟨_, rfl, hs, hb⟩
  by_cases h10 : s = n_thead
  · obtain ⟨⟨f0, f1, f2, f3, f4, f5, f6, f7, f8, f9, f10⟩, hcl, hwl, htb, hbl⟩ := own_thead h10
    rw [hwl]
    have hb := below_one w (.cells ([n_table, n_template].map sc).toArray 9)
    have hs := sown_lit w [n_table, n_template] (by decide)
    have HX := Lib.hid h10; have HTB := Lib.hid htb
    clear h0 h1 h2 h3 h4 h5 h6 h7 h8 h9 h10 hcl hwl htb hbl
    go_enter Try.func76, Try.ntmps76
    go_wp2
    go_ret
    exact ⟨_, rfl, hs, hb⟩
  obtain ⟨⟨f0, f1, f2, f3, f4, f5, f6, f7, f8, f9, f10⟩, hcl, hwl, htb⟩ := own_none h0 h1 h2 h3 h4 h5 h6 h7 h8 h9 h10
  clear h0 h1 h2 h3 h4 h5 h6 h7 h8 h9 h10
  rw [hwl]
  clear hcl hwl htb
  have hb3 := below_one w (.cells ([n_button, n_caption, n_table, n_td, n_template, n_th].map sc).toArray 9)
  have hs3 := sown_lit w [n_button, n_caption, n_table, n_td, n_template, n_th] (by decide)
  go_enter Try.func76, Try.ntmps76
  go_wp2
  go_ret
  exact ⟨_, rfl, hs3, hb3⟩

end Go.Proofs.Ytenmlpfjeohkiaa.Na

namespace Go.Proofs.Ytenmlpfjeohkiaa.Bu
set_option maxRecDepth 100000
set_option linter.unusedVariables false
set_option linter.unusedSimpArgs false
open Go.RowKit Ba Fm Fo Nm Bm Go.Shelf
attribute [local go_sem] Oper.semAt_some

set_option maxHeartbeats 400000 in
theorem among_any (A : Option Addr) (c N : Nat) (l : List ByteArray) (s : ByteArray) (w : World) (hr : Rd w N A l) (hl : l.length ≤ 8796093022208) :
    Calls Try.prog 80 #[.string s, .slice A l.length c] w fun e w' => e = .returned (.bool (isIn s l)) ∧ w = w' := by
  go_enter Try.func80, Try.ntmps80
  go_wp2
  go_loop [9] (fun i => ∃ k : Nat, i = .int .i64 k ∧ k ≤ l.length ∧ ¬ s ∈ l.take k) (fun i => l.length - (intOf i).toNat)
  case atStart => exact ⟨0, rfl, Nat.zero_le _, by simp⟩
  case round =>
    obtain ⟨k, rfl, hks, hn⟩ := hrel
    have HN := Lib.hid hn; clear hn
    by_cases hp : k < l.length
    · obtain ⟨b, off, rfl, _, hc⟩ := hr (by omega)
      have hcell := hc k hp
      clear hc hr
      have heq := eq_of_toList (a := l[k]) (b := s)
      by_cases he : l[k] = s
      · rw [decide_eq_true he] at heq
        have HE := Lib.hid he; clear he
        go_wp2
        go_ret
        exact ⟨ret_bool (isIn_yes (by have := HE.out; rw [← this]; exact List.getElem_mem _)).symm, rfl⟩
      · rw [decide_eq_false he] at heq
        have HE := Lib.hid he; clear he
        go_wp2
        go_round
        case rel => exact ⟨k + 1, by go_num, by omega, has_snoc l s k hp HN.out HE.out⟩
        case measure => simp [intOf]; omega
    · go_wp2
      go_ret
      refine ⟨ret_bool (isIn_no ?_).symm, rfl⟩
      have := HN.out
      rwa [List.take_of_length_le (by omega)] at this

/-- The open elements with their places, the last one first. -/
def dn : List ByteArray → List (Nat × ByteArray)
  | [] => []
  | x :: r => (r.length, x) :: dn r
theorem dn_take {l : List ByteArray} {k : Nat} (h : k < l.length) : dn (l.take (k + 1)).reverse = (k, l[k]) :: dn (l.take k).reverse := by
  rw [rev_take (List.getElem?_eq_getElem h), dn, List.length_reverse, List.length_take, Nat.min_eq_left (Nat.le_of_lt h)]

/-- What a round leaves as it was: what lay below n₀, and the box of the iterator. -/
def Kp (n₀ B1 : Nat) (W W' : World) : Prop := Below n₀ W W' ∧ W'.heap[B1]? = W.heap[B1]?
theorem Kp.t {n₀ B1 : Nat} {A B C : World} (h : Kp n₀ B1 A B) (k : Kp n₀ B1 B C) : Kp n₀ B1 A C := ⟨h.1.trans k.1, k.2.trans h.2⟩
theorem Kp.r {n₀ B1 : Nat} (A : World) : Kp n₀ B1 A A := ⟨Below.refl _ _, rfl⟩
theorem Kp.b {n₀ B1 : Nat} {w : World} (hn : n₀ ≤ w.heap.size) (h1 : B1 < w.heap.size) (W : World) (l : Nat) (o o' : Obj) (hl : w.heap.size ≤ l) (h : W.heap[l]? = some o) (hc : o.isCells = false) (hw : o.isWalk = false) : Kp n₀ B1 W (W.putObj l o') :=
  ⟨belowK_b hn W l o o' hl h hc hw, World.putObj_heap_other (by omega)⟩
theorem boxB {W : World} {B : Nat} {t : TypeId} {v : Value} {W' : World} (h : Boxed W B t v) (hk : W'.heap[B]? = W.heap[B]?) : Boxed W' B t v := hk.trans h

set_option maxRecDepth 100000 in
set_option maxHeartbeats 2000000 in
theorem from1_in (n : Nat) (hn : 1 ≤ n) (lp B1 n₀ : Nat) (A : Option Addr) (c : Nat) (l : List ByteArray) (J Jx : List (Nat × ByteArray) → World → Prop) (hm : l.length ≤ 1000000)
    (hY : ∀ pre (x : Nat × ByteArray) W, J pre W → pre.length < l.length → YieldAt Fence.wide (n - 1) Try.prog lp #[.int .i64 (x.1 : Nat), .string x.2] W fun e W' =>
      (e = .returned (.bool true) ∧ J (pre ++ [x]) W' ∧ Kp n₀ B1 W W') ∨ (e = .returned (.bool false) ∧ Jx (pre ++ [x]) W'))
    (W : World) (hn₀ : n₀ ≤ W.heap.size) (hb1 : Boxed W B1 43 (.slice A l.length c)) (hr : Rd W n₀ A l) (h0 : J [] W) :
    CallsIn Fence.wide n Try.prog 81 #[.func (.yield lp) #[] #[], .pointer (some ⟨B1, 0, none⟩)] W fun e W' => (∃ v, e = .returned v) ∧
      ((∃ ys, ys = dn l.reverse ∧ J ys W') ∨ (∃ pre, pre <+: dn l.reverse ∧ Jx pre W')) := by
  have c1 := hb1.cell
  obtain ⟨xs, hxs⟩ : ∃ xs, dn l.reverse = xs := ⟨_, rfl⟩
  have hx0 : dn (l.take l.length).reverse = xs := by rw [List.take_length]; exact hxs
  have hlen0 : xs.length = l.length := by
    have : ∀ s : List ByteArray, (dn s).length = s.length := fun s => by
      induction s with
      | nil => rfl
      | cons x r ih => rw [dn, List.length_cons, List.length_cons, ih]
    rw [← hxs, this, List.length_reverse]
  rw [hxs]
  obtain ⟨F, hF⟩ : ∃ F, Fence.wide = F := ⟨_, rfl⟩
  rw [hF] at hY ⊢
  have hfn : ∀ f, F.fn f := hF ▸ fun _ => trivial
  have hro : F.round = none := hF ▸ rfl
  have h52 := hfn 81
  clear hF hfn
  have HX0 := Lib.hid hx0; have HXS := Lib.hid hxs; have HY := Lib.hid hY; have HL := Lib.hid hlen0
  clear hx0 hxs hY hlen0
  refine callsIn_of_wp Try.func81 rfl h52 ?_ hro
  simp only [Try.ntmps81, List.size_toArray, List.length_cons, List.length_nil, Nat.reduceAdd, Nat.reduceSub, Array.replicate_succ, Array.replicate_zero, List.push_toArray, List.append_toArray, List.nil_append, List.cons_append]
  gi_wp2
  gi_loopw [3] (fun v wr => ∃ (k : Nat) (i : Int) (pre : List (Nat × ByteArray)), v = .int .i64 i ∧ i + 1 = k ∧ k ≤ l.length ∧ xs = pre ++ dn (l.take k).reverse ∧ J pre wr ∧ n₀ ≤ wr.heap.size ∧ Boxed wr B1 43 (.slice A l.length c) ∧ Rd wr n₀ A l) (fun v _ => (intOf v + 1).toNat)
  case atStart => exact ⟨l.length, _, [], rfl, by omega, Nat.le_refl _, HX0.out.symm, h0, hn₀, hb1, hr⟩
  case round =>
    clear HX0 c1 hb1 hr h0
    obtain ⟨k, i, pre, rfl, hi, hk, hxp, hJs, hnw, hb1, hr⟩ := hrel
    have c1 := hb1.cell
    by_cases hp : 0 < k
    · obtain ⟨m, rfl⟩ : ∃ m, k = m + 1 := ⟨k - 1, by omega⟩
      obtain rfl : i = (m : Int) := by omega
      obtain ⟨b, off, rfl, hb, hc⟩ := hr (by omega)
      have hcell := hc m (by omega)
      rw [dn_take (by omega)] at hxp
      have hlen : pre.length < l.length := by rw [← HL.out, hxp]; simp
      obtain ⟨fn, tmps, assign, body, hy, hR⟩ := HY.out pre (m, l[m]) wr hJs hlen
      have HXP := Lib.hid hxp
      have hge : decide ((0 : Int) ≤ (m : Int)) = true := decide_eq_true (by omega)
      clear hxp hlen
      gi_wp2
      refine hR.mono ?_
      rintro e W3 (⟨rfl, hJ3, hk3⟩ | ⟨rfl, hJx3⟩)
      · gi_wp2
        go_roundw
        case rel => exact ⟨m, _, pre ++ [(m, l[m])], rfl, by omega, by omega, by rw [HXP.out, List.append_assoc]; rfl, hJ3, Nat.le_trans hnw hk3.1.size, boxB hb1 hk3.2, hr.below hk3.1 (Nat.le_refl _)⟩
        case measure => simp [intOf]
      · gi_wp2
        refine bodyPost_ret (results_none rfl _ _ _) rfl ?_
        exact ⟨⟨_, rfl⟩, .inr ⟨pre ++ [(m, l[m])], ⟨dn (l.take m).reverse, by rw [HXP.out, List.append_assoc]; rfl⟩, hJx3⟩⟩
    · obtain rfl : k = 0 := by omega
      obtain rfl : i = -1 := by omega
      have HXP := Lib.hid hxp
      clear hxp
      gi_wp2
      go_end0
      exact ⟨⟨_, rfl⟩, .inl ⟨pre, by rw [HXP.out]; exact (List.append_nil _).symm, hJs⟩⟩

theorem fromEnd_any (A : Option Addr) (n c : Nat) (w : World) :
    Calls Try.prog 79 #[.slice A n c] w fun e w' => e = .returned (.func (.func 81) #[] #[.pointer (some ⟨w.heap.size, 0, none⟩)]) ∧ w' = w.alloc (.cells #[.slice A n c] 43) := by
  go_enter Try.func79, Try.ntmps79
  go_wp2
  go_ret
  exact ⟨rfl, rfl⟩

theorem from_stops (n : Nat) (hn : 1 ≤ n) (B1 n₀ : Nat) (A : Option Addr) (c : Nat) (l : List ByteArray) (hm : l.length ≤ 1000000) (w : World) (hn₀ : n₀ ≤ w.heap.size) (hb1 : Boxed w B1 43 (.slice A l.length c)) (hr : Rd w n₀ A l) :
    SeqStopsK Fence.wide n Try.prog 81 #[.pointer (some ⟨B1, 0, none⟩)] (fun x : Nat × ByteArray => #[.int .i64 (x.1 : Nat), .string x.2]) (Kp n₀ B1) (fun ys => ys = dn l.reverse) (fun pre => pre <+: dn l.reverse) l.length w := fun lp J Jx W hW hJ _ hY h0 =>
  from1_in n hn lp B1 n₀ A c l J Jx hm hY W (Nat.le_trans hn₀ hW.size) (boxB hb1 (hW.block B1 hb1.lt)) (hr.below hW hn₀) h0

/-- Where the search ends: below 0: nothing. -/
def idx (ns ws o : List ByteArray) : Int := match findS ns ws o.reverse with | some r => (r.length : Nat) | none => -1
def past (ns ws : List ByteArray) (p : Nat × ByteArray) : Prop := isIn p.2 ns = false ∧ isIn p.2 ws = false
theorem dn_split {ns ws : List ByteArray} : ∀ {s : List ByteArray} {q t : List (Nat × ByteArray)}, dn s = q ++ t → (∀ p ∈ q, past ns ws p) → ∃ r, dn r = t ∧ findS ns ws s = findS ns ws r
  | s, [], t, h, _ => ⟨s, h, rfl⟩
  | [], p :: q, t, h, _ => by cases h
  | x :: s, p :: q, t, h, hp => by
    rw [dn, List.cons_append] at h
    injection h with h1 h2
    obtain ⟨r, e1, e2⟩ := dn_split h2 fun y hy => hp y (List.mem_cons_of_mem _ hy)
    have hx := hp p List.mem_cons_self
    rw [← h1] at hx
    exact ⟨r, e1, by rw [findS_past s hx.1 hx.2, e2]⟩
theorem idx_none {ns ws o : List ByteArray} (h : ∀ p ∈ dn o.reverse, past ns ws p) : idx ns ws o = -1 := by
  obtain ⟨r, e1, e2⟩ := dn_split (ns := ns) (ws := ws) (s := o.reverse) (q := dn o.reverse) (t := []) (by rw [List.append_nil]) h
  unfold idx
  rw [e2]
  cases r with
  | nil => rfl
  | cons x r => cases e1
theorem idx_stop {ns ws o : List ByteArray} {q t : List (Nat × ByteArray)} {x : Nat × ByteArray} (h : dn o.reverse = q ++ x :: t) (hq : ∀ p ∈ q, past ns ws p) (hx : isIn x.2 ns = false → isIn x.2 ws = true) :
    idx ns ws o = if isIn x.2 ns = true then (x.1 : Int) else -1 := by
  obtain ⟨r, e1, e2⟩ := dn_split h hq
  unfold idx
  rw [e2]
  cases r with
  | nil => cases e1
  | cons y r =>
    rw [dn] at e1
    injection e1 with e1 _
    subst e1
    cases hn : isIn y ns with
    | true => rw [findS_hit r hn]; rfl
    | false => rw [findS_wall r hn (hx hn)]; rfl

theorem box_own {W W' : World} {B n : Nat} {t : TypeId} {v : Value} {row : Option Nat} (h : Boxed W B t v) (hg : W.grownBy W' row) (hr : ∀ r, row = some r → n ≤ r ∧ ∃ o : Obj, W.heap[r]? = some o ∧ o.isCells = false) : Boxed W' B t v :=
  h.kept hg fun e => by
    obtain ⟨_, o, ho, hc⟩ := hr B e.symm
    rw [show W.heap[B]? = _ from h] at ho
    cases ho
    cases hc
/-- What the rounds leave. -/
def Fl (w : World) (ns ws : List ByteArray) (v1 v2 : Value) (pre : List (Nat × ByteArray)) (W : World) : Prop :=
  Boxed W w.heap.size 43 v1 ∧ Boxed W (w.heap.size + 1) 43 v2 ∧ Boxed W (w.heap.size + 1 + 1) 3 (.int .i64 0) ∧ Below w.heap.size w W ∧ w.heap.size + 1 + 1 + 1 + 1 ≤ W.heap.size ∧ ∀ p ∈ pre, past ns ws p
def Fx (w : World) (ns ws : List ByteArray) (c : Code) (pre : List (Nat × ByteArray)) (W : World) : Prop :=
  c = .ret ∧ ∃ q x, pre = q ++ [x] ∧ (∀ p ∈ q, past ns ws p) ∧ (isIn x.2 ns = false → isIn x.2 ws = true) ∧ Boxed W (w.heap.size + 1 + 1) 3 (.int .i64 (if isIn x.2 ns = true then (x.1 : Int) else -1)) ∧ Below w.heap.size w W
theorem Fl.own (w : World) (ns ws : List ByteArray) (v1 v2 : Value) (n : Nat) (hn : w.heap.size ≤ n) : OwnFrom n (Fl w ns ws v1 v2) := fun s W W' row hs hg hr =>
  ⟨box_own hs.1 hg hr, box_own hs.2.1 hg hr, box_own hs.2.2.1 hg hr, hs.2.2.2.1.grown hg hs.2.2.2.1.size (fun k hk => Nat.le_trans hn (hr k hk).1), Nat.le_trans hs.2.2.2.2.1 hg.size, hs.2.2.2.2.2⟩
theorem Fx.own (w : World) (ns ws : List ByteArray) (c : Code) (n : Nat) (hn : w.heap.size ≤ n) : OwnFrom n (Fx w ns ws c) := fun s W W' row hs hg hr => by
  obtain ⟨hc, q, x, e1, e2, e3, h2, h3⟩ := hs
  exact ⟨hc, q, x, e1, e2, e3, box_own h2 hg hr, h3.grown hg h3.size (fun k hk => Nat.le_trans hn (hr k hk).1)⟩

theorem among1 (A : Option Addr) (c N n : Nat) (l : List ByteArray) (s : ByteArray) (w : World) (hr : Rd w N A l) (hl : l.length ≤ 1000) (q : Bool) (hq : isIn s l = q) (hn : n = l.length) :
    Calls Try.prog 80 #[.string s, .slice A n c] w fun e w' => e = .returned (.bool q) ∧ w = w' := by
  subst hq; subst hn
  exact among_any A c N l s w hr (by omega)

set_option maxRecDepth 100000 in
set_option maxHeartbeats 4000000 in
theorem find_any (A A1 A2 : Option Addr) (c c1 c2 : Nat) (l ns ws : List ByteArray) (w : World) (hm : l.length ≤ 1000000) (hr : Rd w w.heap.size A l) (hr1 : Rd w w.heap.size A1 ns) (hr2 : Rd w w.heap.size A2 ws) (hn1 : ns.length ≤ 1000) (hn2 : ws.length ≤ 1000) :
    Calls Try.prog 77 #[.slice A l.length c, .slice A1 ns.length c1, .slice A2 ws.length c2] w fun e w' => e = .returned (.int .i64 (idx ns ws l)) ∧ Below w.heap.size w w' := by
  have x0 := Boxed.new w 43 (.slice A1 ns.length c1)
  replace x0 := Lib.hid (((x0.alloc (.cells #[.slice A2 ws.length c2] 43)).alloc (.cells #[.int .i64 0] 3)).alloc (.cells #[.slice A l.length c] 43))
  have x1 := Boxed.new (w.alloc (.cells #[.slice A1 ns.length c1] 43)) 43 (.slice A2 ws.length c2)
  rw [World.size_alloc] at x1
  replace x1 := Lib.hid ((x1.alloc (.cells #[.int .i64 0] 3)).alloc (.cells #[.slice A l.length c] 43))
  have x2 := Boxed.new ((w.alloc (.cells #[.slice A1 ns.length c1] 43)).alloc (.cells #[.slice A2 ws.length c2] 43)) 3 (.int .i64 0)
  rw [World.size_alloc, World.size_alloc] at x2
  replace x2 := Lib.hid (x2.alloc (.cells #[.slice A l.length c] 43))
  have x3 := Boxed.new (((w.alloc (.cells #[.slice A1 ns.length c1] 43)).alloc (.cells #[.slice A2 ws.length c2] 43)).alloc (.cells #[.int .i64 0] 3)) 43 (.slice A l.length c)
  rw [World.size_alloc, World.size_alloc, World.size_alloc] at x3
  replace x3 := Lib.hid x3
  have hB0 := ((((below_one w (.cells #[.slice A1 ns.length c1] 43)).alloc (by simp <;> omega) (.cells #[.slice A2 ws.length c2] 43)).alloc (by simp <;> omega) (.cells #[.int .i64 0] 3)).alloc (by simp <;> omega) (.cells #[.slice A l.length c] 43))
  have HR := Lib.hid (hr.below hB0 (Nat.le_refl _))
  have HR1 := Lib.hid hr1; have HR2 := Lib.hid hr2
  have HB0 := Lib.hid hB0
  clear hB0 hr hr1 hr2
  refine (callsIn_wide (n := 4)).1 ?_
  refine callsIn_of_wp_marks Try.func77 rfl trivial ?_ rfl
  simp only [Try.ntmps77, List.size_toArray, List.length_cons, List.length_nil, Nat.reduceAdd, Nat.reduceSub, Array.replicate_succ, Array.replicate_zero, List.push_toArray, List.append_toArray, List.nil_append, List.cons_append]
  gi_wp2_with (refine ⟨trivial, ?_⟩; gi_at_call 79; refine (callsIn_wide.2 (fromEnd_any A _ c _)).mono ?_; rintro e w' ⟨rfl, rfl⟩)
  refine wpIn_rangeFunc_ownG rfl (by omega) (gf := 81) (lb := #[.pointer (some ⟨w.heap.size + 1 + 1 + 1, 0, none⟩)]) rfl trivial (enters_of Try.func81 (by kernel_rfl) rfl)
    (from_stops (4 - 1) (by omega) (w.heap.size + 1 + 1 + 1) w.heap.size A c l hm _ (by simp <;> omega) x3.out HR.out) Kp.t (Kp.b (by simp <;> omega) (by simp <;> omega)) (Below.refl _ _) (fun _ => rfl)
    (Fl w ns ws (.slice A1 ns.length c1) (.slice A2 ws.length c2)) (Fx w ns ws) (Fl.own w ns ws _ _ _ (by simp <;> omega)) (fun c => Fx.own w ns ws c _ (by simp <;> omega))
    ⟨x0.out, x1.out, x2.out, HB0.out, by simp, fun p hp => by cases hp⟩
    (fun x => { tmps := #[.slice A l.length c, .slice A1 ns.length c1, .slice A2 ws.length c2, undef, .pointer (some ⟨w.heap.size, 0, none⟩), .pointer (some ⟨w.heap.size + 1, 0, none⟩), .pointer (some ⟨w.heap.size + 1 + 1, 0, none⟩), .int .i64 (x.1 : Nat), .string x.2, .slice A l.length c, .func (.func 81) #[] #[.pointer (some ⟨w.heap.size + 1 + 1 + 1, 0, none⟩)], .int .i64 (x.1 : Nat), .string x.2, undef, undef, undef, undef, undef, undef, undef, undef, undef], defers := [] }) ?assign ?body ?done ?stop
  case assign =>
    intro l x W K hK
    gi_wp2
    exact hK
  case body =>
    rintro lp pre x W ⟨b0, b1, b2, hB, hsz, hps⟩ hlt
    have k0 := b0.cell
    have k1 := b1.cell
    have k2 := b2.cell
    have f2 := b2.frozen
    have hw1 := HR1.out.below hB (Nat.le_refl _)
    have hw2 := HR2.out.below hB (Nat.le_refl _)
    have HW1 := Lib.hid hw1; have HW2 := Lib.hid hw2
    clear hw1 hw2
    cases hx : isIn x.2 ns with
    | true =>
      have HX := Lib.hid hx
      clear hx
      gi_wp2_with (refine ⟨trivial, ?_⟩; gi_at_call 80; refine (CallsIn.inRound lp (callsIn_wide.2 (among1 A1 c1 _ _ ns x.2 W HW1.out hn1 true HX.out rfl))).mono ?_; rintro e w' ⟨rfl, rfl⟩)
      exact ⟨(KeepsOthers.setCell _ _ _).from _, rfl, pre, x, rfl, hps, (fun e => by rw [HX.out] at e; cases e), by rw [HX.out, if_pos rfl]; exact b2.set _, hB.setCell (p := ⟨w.heap.size + 1 + 1, 0, none⟩) (by show w.heap.size ≤ w.heap.size + 1 + 1; omega) _⟩
    | false =>
    cases hy : isIn x.2 ws with
    | true =>
      have HX := Lib.hid hx; have HY := Lib.hid hy
      clear hx hy
      gi_wp2_with fail
      refine ⟨trivial, ?_⟩
      gi_at_call 80
      refine (CallsIn.inRound lp (callsIn_wide.2 (among1 A1 c1 _ _ ns x.2 W HW1.out hn1 false HX.out rfl))).mono ?_
      rintro e w' ⟨rfl, rfl⟩
      gi_wp2_with fail
      refine ⟨trivial, ?_⟩
      gi_at_call 80
      refine (CallsIn.inRound lp (callsIn_wide.2 (among1 A2 c2 _ _ ws x.2 W HW2.out hn2 true HY.out rfl))).mono ?_
      rintro e w' ⟨rfl, rfl⟩
      gi_wp2
      exact ⟨(KeepsOthers.setCell _ _ _).from _, rfl, pre, x, rfl, hps, (fun _ => HY.out), by rw [HX.out, if_neg (by simp)]; exact b2.set _, hB.setCell (p := ⟨w.heap.size + 1 + 1, 0, none⟩) (by show w.heap.size ≤ w.heap.size + 1 + 1; omega) _⟩
    | false =>
      have HX := Lib.hid hx; have HY := Lib.hid hy
      clear hx hy
      gi_wp2_with fail
      refine ⟨trivial, ?_⟩
      gi_at_call 80
      refine (CallsIn.inRound lp (callsIn_wide.2 (among1 A1 c1 _ _ ns x.2 W HW1.out hn1 false HX.out rfl))).mono ?_
      rintro e w' ⟨rfl, rfl⟩
      gi_wp2_with fail
      refine ⟨trivial, ?_⟩
      gi_at_call 80
      refine (CallsIn.inRound lp (callsIn_wide.2 (among1 A2 c2 _ _ ws x.2 W HW2.out hn2 false HY.out rfl))).mono ?_
      rintro e w' ⟨rfl, rfl⟩
      gi_wp2
      exact ⟨KeepsFrom.refl _ _, Kp.r _, b0, b1, b2, hB, hsz, fun p hp => by
        rcases List.mem_append.1 hp with e | e
        · exact hps p e
        · rw [List.mem_singleton.1 e]; exact ⟨HX.out, HY.out⟩⟩
  case done =>
    rintro D ys W hD rfl ⟨b0, b1, b2, hB, hsz, hps⟩ hK
    have k2 := b2.cell
    have f2 := b2.frozen
    have HI := Lib.hid (idx_none hps)
    gi_wp2
    refine ⟨by simp, .inl ⟨_, _, rfl, run_takeDeferred (show (W.setCell ⟨w.heap.size + 1 + 1, 0, none⟩ _).heap[D]? = _ from (Below.heap_setCell W ⟨w.heap.size + 1 + 1, 0, none⟩ _ D (by have := hD; simp at this; show D ≠ w.heap.size + 1 + 1; omega)).trans hK), ?_⟩⟩
    have hK' : (W.setCell ⟨w.heap.size + 1 + 1, 0, none⟩ (.int .i64 (-1))).heap[D]? = some (.deferred (some [])) := (Below.heap_setCell W ⟨w.heap.size + 1 + 1, 0, none⟩ _ D (by have := hD; simp at this; show D ≠ w.heap.size + 1 + 1; omega)).trans hK
    have q2 := cell_kept (b2.set (.int .i64 (-1))).cell (grownBy_putObj' _ D (.deferred none)) (fun r e => by cases e; exact ⟨_, hK', rfl⟩)
    refine ⟨.int .i64 (-1), ?_, by rw [HI.out], (hB.setCell (p := ⟨w.heap.size + 1 + 1, 0, none⟩) (by show w.heap.size ≤ w.heap.size + 1 + 1; omega) _).trans (belowK_b (w := w) (Nat.le_refl _) _ D _ _ (by have := hD; simp at this; omega) hK' rfl rfl)⟩
    simp [results, Try.f77, go_sem, q2]
  case stop =>
    rintro D c pre W hD hpre ⟨rfl, q, x, rfl, hq, hx, b2, hB⟩ hK
    obtain ⟨t, ht⟩ := hpre
    have HI := Lib.hid (idx_stop (o := l) (t := t) (by rw [← ht, List.append_assoc]; rfl) hq hx)
    gi_wp2
    refine ⟨by simp, .inl ⟨_, _, rfl, run_takeDeferred hK, ?_⟩⟩
    have q2 := cell_kept b2.cell (grownBy_putObj' _ D (.deferred none)) (fun r e => by cases e; exact ⟨_, hK, rfl⟩)
    refine ⟨.int .i64 (if isIn x.2 ns = true then (x.1 : Int) else -1), ?_, by rw [HI.out], hB.trans (belowK_b (w := w) (Nat.le_refl _) W D _ _ (by have := hD; simp at this; omega) hK rfl rfl)⟩
    simp [results, Try.f77, go_sem, q2]

end Go.Proofs.Ytenmlpfjeohkiaa.Bu
