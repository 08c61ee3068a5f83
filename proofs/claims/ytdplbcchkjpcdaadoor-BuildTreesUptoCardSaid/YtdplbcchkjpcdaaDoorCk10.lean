/-
  Stage 7: walks of the reference: Tree.
  Stage 7: bound (as stage 6's, of 60 tokens).
  The laws of stage 7, walked: Trees.
  Arguments that are slices of structs, or structs, as a statement's row reads them: for rows, tokens and whatever has attributes.
  Arguments that are tokens, or a token, as a statement's row reads them, and their bulk.
-/
import Derived.Test.YtdplbcchkjpcdaaDoorCk09
import Derived.Test.YtdplbcchkjpcdaaDoorCk06
import Derived.Deep.CutBlock
import Derived.Deep.DeepCutAuto
import Derived.Deep.RegionHeld3
import Derived.Test.YtdplbcchkjpcdaaDoorCk08
import Derived.Test.YtdplbcchkjpcdaaDoorRows
import Derived.Test.YtdplbcchkjpcdaaDoorCk03
import Derived.Deep.Slices
import Derived.Deep.Fields
import Derived.ChangeSame
import Derived.ProofKit
import Derived.Carry
import Derived.Lib.SmallJoins
namespace Go.Proofs.YtdplbcchkjpcdaaDoor.Bu
set_option maxRecDepth 100000
set_option linter.unusedVariables false
set_option linter.unusedSimpArgs false
open Go.RowKit Ba Fm Fo Nm Bm
open Ro (At Ro Cw ros Fr Ow Rv bare cells rowO)
open Tm (Tk)
open To (Tw Tb tks tokO)
/-- append of one row, whatever its attributes, onto rows of one's own, at a step of a region. -/
theorem step_app_rowY {ops : Array Oper} {o : Oper} {a : Act} {K : Act → World → Prop} {Q : Exit → Act → World → Prop} {E : Prop} (W : World) (hgd : o.guard = none) (s x : Operand)
    (ho : o.op = .call { callee := .builtin .append, args := #[s, x], argTypes := #[24, 24] })
    (W0 : World) (N : Nat) (v : Value) (l : List Cw) (z : Cw) (hr : Ow N W0 v l) (hz1 : Ro.Att W0 W0.heap.size z) (hz2 : Ro.Ap W0 N z) (hg : W0.grownBy W none) (hN : N ≤ W0.heap.size) (hl : l.length ≤ 2000000)
    (hs : a.eval s = v) (g0 : Nat) (hx : a.eval x = .slice (some ⟨g0, 0, none⟩) 1 1) (hz : W.heap[g0]? = some (rowO z))
    (h : ∀ v' w', Ow N w' v' (l ++ [z]) → W0.grownBy w' v.ownBlock → K (a.put o.dst v') w') :
    if Region.wanted o (yielded ops a.tmps) = true then Oper.wp Tryd.prog o a W K Q else E := by
  obtain ⟨i0, hi, hz0, hz1', hz2'⟩ := info_parts Ro.info_row
  have hown : W.ownsRow N 31 5 v l.length (l.flatMap cells) := World.ownsRow.kept hr.1 hg (by cases hv : v.ownBlock with
    | none => exact .inl rfl
    | some k => right; simp)
  refine step_append_lies W hgd s x 24 ho N 31 i0 _ 5 72 Tryd.underlying24 hi hz0 hz1' hz2' rfl (by decide) v l.length (l.flatMap cells) hs hown ⟨g0, 0, none⟩ 1 1 (cells z) hx rfl (fun j u hu => World.news_of_block hz j u hu) (Ro.cells_one z) (by decide) (by unfold maxLen; omega) (by omega) (Nat.le_trans hN hg.size) _ rfl ?_
  intro g cap w1 h1 h2 _ _
  have hgw : W0.grownBy w1 v.ownBlock := by
    have hlt : ∀ k, v.ownBlock = some k → N ≤ k := fun k hk => (World.ownsRow.lt hr.1 k hk).1
    exact ⟨h2.os.trans hg.os, h2.tape.trans hg.tape, h2.output.trans hg.output, Nat.le_trans hg.size h2.size, fun i hi hne => (h2.block i (Nat.lt_of_lt_of_le hi hg.size) hne).trans (hg.block i hi (by simp))⟩
  refine h _ w1 ⟨by rw [List.length_append, List.flatMap_append]; simpa using h1, fun y hy => ?_⟩ hgw
  rcases List.mem_append.1 hy with hy | hy
  · exact ⟨(hr.2 y hy).1.grown hr.1 hgw (hr.2 y hy).2, (hr.2 y hy).2.grown hr.1 hgw⟩
  · obtain rfl := List.mem_singleton.1 hy
    exact ⟨hz1.grown hr.1 hgw hz2, hz2.grown hr.1 hgw⟩

theorem ap_fr {N K : Nat} {w : World} {x : Cw} (h : Fr N w x) : Ro.Ap w K x := fun h0 => by
  obtain ⟨⟨hl, h⟩, hs⟩ := h
  rcases h with ⟨hv, hn⟩ | ⟨g, cap, cur, hv, hg, hh, _⟩
  · omega
  · injection hv with e1 e2 e3
    exact ⟨g, 0, e1, .inr ⟨_, _, hh⟩⟩
theorem fr_of {N : Nat} {w : World} {A : Option Addr} {c : Nat} {l : List At} (h : To.Aw N w (.slice A l.length c) l) (d k : Int) (n : ByteArray) : Fr N w ⟨⟨d, k, n, ⟨#[]⟩, l⟩, A, c⟩ := ⟨h.1, h.2⟩
theorem refOnce1 (A : Option Addr) (c : Nat) (l ats : List At) (w : World) (hr : Ro.Ra w w.heap.size A l) (hsh : Ro.Sh l) (hc : l.length ≤ c) (hl : l.length ≤ 1000000) (ha : once l = ats) :
    Calls Tryd.prog 13 #[.slice A l.length c] w fun e w' => ∃ A' c', e = .returned (.slice A' ats.length c') ∧ To.Aw w.heap.size w' (.slice A' ats.length c') ats ∧ Below w.heap.size w w' := by
  subst ha
  refine (refOnce_any A c l w hr hsh hc hl).mono ?_
  rintro e w' ⟨v, rfl, h, hb⟩
  obtain ⟨A', c', rfl⟩ := h.form
  exact ⟨A', c', rfl, h, hb⟩
theorem below_drew {w w' : World} (h : Below w.drew.heap.size w.drew w') : Below w.heap.size w w' := bt (show Below w.heap.size w w.drew from below_dN (Below.refl _ _) 1) h
theorem ros_one (y : List Cw) (x : Cw) : ros (y ++ [x]) = ros y ++ [x.ro] := by unfold ros; rw [List.map_append]; rfl

/-- What the reference's Tree keeps from token to token. -/
structure Tr (N : Nat) (w wr : World) (vo vr : Value) (k T : Nat) (stk : List ByteArray) (y : List Cw) : Prop where
  opens : Sown N wr vo stk.reverse
  rows : Ow N wr vr y
  below : Below N w wr
  stkL : stk.length ≤ k
  rowsL : y.length ≤ 4 * k
  data : ∀ z ∈ ros y, z.data.size ≤ T

/-- append of one string onto one's own: nothing else changes. -/
theorem app_strG {ops : Array Oper} {rest : List Oper} {o : Oper} {a : Act} {Q : Exit → Act → World → Prop} (w : World) (hgd : o.guard = none) (s x : Operand)
    (ho : o.op = .call { callee := .builtin .append, args := #[s, x], argTypes := #[38, 38] })
    (N : Nat) (v : Value) (l : List ByteArray) (y : ByteArray) (hs : a.eval s = v) (hown : Sown N w v l) (hx : a.eval x = .slice (some ⟨w.heap.size, 0, none⟩) 1 1)
    (hl : (l.length + 1) * 16 ≤ 140737488355328) (hN : N ≤ w.heap.size)
    (h : ∀ v' w', Sown N w' v' (l ++ [y]) → w.grownBy w' v.ownBlock → wpList Tryd.prog ops Q rest (a.put o.dst v') w') :
    wpList Tryd.prog ops Q (o :: rest) a (w.alloc (.cells #[.string y] 9)) := by
  obtain ⟨i0, hi, hz0, hz1, hz2⟩ := info_parts info_str
  have hown' : Sown N (w.alloc (.cells #[.string y] 9)) v l := hown.alloc _
  have hsz : (w.alloc (.cells #[.string y] 9)).heap.size = w.heap.size + 1 := by simp
  refine wpList_append_own _ hgd s x 38 ho N 9 i0 (.string .empty) 1 16 Tryd.underlying38 hi hz0 hz1 hz2 rfl (by decide) v l.length (l.map sc) hs hown' ⟨w.heap.size, 0, none⟩ 1 1 [.string y] hx rfl (cell_one_new _ _ _) (by intro u hu; simp at hu; subst hu; rfl) (by unfold maxLen; omega) hl (by omega) ?_
  intro v' w' ho2 hg2 _
  exact h v' w' (Sown.appended (m := [y]) ho2 rfl) ((World.grownBy_alloc _ _ _).trans hg2)

theorem p_eq (n : ByteArray) : (n.toList == [112]) = decide (n = n_p) := by
  have e1 : n_p.toList = [112] := by rw [toList_L]
  rw [← e1, eq_of_toList]
/-- What the four parts of a round come to is a step. -/
theorem step_all {x : Tk} {stk stk3 stk4 : List ByteArray} {o o1 o2 o3 o4 : List Ro} (h1 : o1 = if (x.kind == 0 && !x.data.toList.isEmpty) = true then addText o stk.length x.data else o)
    (h2 : o2 = if (x.kind == 3) = true then o1 ++ [⟨stk.length, 2, ⟨#[]⟩, x.data, []⟩] else o1)
    (h3 : if (x.kind == 1 && !noName x.name) = true then stk3 = (if isIn x.name voidL = true then openedS x.name stk else x.name :: openedS x.name stk) ∧ o3 = o2 ++ [⟨(openedS x.name stk).length, 0, x.name, ⟨#[]⟩, once x.attrs⟩] else stk3 = stk ∧ o3 = o2)
    (h4 : if (x.kind == 2 && !noName x.name && !isIn x.name voidL) = true then (match findS [x.name] (endWalls x.name) stk3 with | some r => stk4 = r ∧ o4 = o3 | none => stk4 = stk3 ∧ o4 = if x.name = n_p then o3 ++ [⟨stk3.length, 0, n_p, ⟨#[]⟩, []⟩] else o3) else stk4 = stk3 ∧ o4 = o3) :
    (⟨stk4, o4⟩ : St) = stepB ⟨stk, o⟩ x := by
  unfold stepB
  have be : ∀ k : Int, (x.kind == k) = decide (x.kind = k) := fun k => rfl
  simp only [be] at h1 h2 h3 h4
  by_cases k0 : x.kind = 0
  · have k1 : ¬ x.kind = 1 := by omega
    have k2 : ¬ x.kind = 2 := by omega
    have k3 : ¬ x.kind = 3 := by omega
    simp only [k0, decide_true, Bool.true_and] at h1
    simp only [k1, k2, k3, decide_false, Bool.false_and, Bool.false_eq_true, if_false] at h2 h3 h4
    obtain ⟨rfl, rfl⟩ := h4
    obtain ⟨rfl, rfl⟩ := h3
    subst h2
    rw [if_pos k0, h1, empty_eq]
    by_cases hd : x.data = ⟨#[]⟩
    · rw [if_pos hd, decide_eq_true hd, if_neg (by simp)]
    · rw [if_neg hd, decide_eq_false hd, if_pos (by simp)]
  simp only [k0, decide_false, Bool.false_and, Bool.false_eq_true, if_false] at h1
  rw [if_neg k0]
  subst h1
  by_cases k3 : x.kind = 3
  · have k1 : ¬ x.kind = 1 := by omega
    have k2 : ¬ x.kind = 2 := by omega
    simp only [k3, decide_true, if_true] at h2
    simp only [k1, k2, decide_false, Bool.false_and, Bool.false_eq_true, if_false] at h3 h4
    obtain ⟨rfl, rfl⟩ := h4
    obtain ⟨rfl, rfl⟩ := h3
    rw [if_pos k3, h2]
  simp only [k3, decide_false, Bool.false_eq_true, if_false] at h2
  rw [if_neg k3]
  subst h2
  by_cases k1 : x.kind = 1
  · have k2 : ¬ x.kind = 2 := by omega
    simp only [k2, decide_false, Bool.false_and, Bool.false_eq_true, if_false] at h4
    obtain ⟨rfl, rfl⟩ := h4
    rw [if_pos k1]
    simp only [k1, decide_true, Bool.true_and] at h3
    by_cases hn : noName x.name = true
    · rw [if_pos hn]
      rw [hn, if_neg (by simp)] at h3
      obtain ⟨rfl, rfl⟩ := h3
      rfl
    · rw [if_neg hn]
      rw [if_pos (by simpa using hn)] at h3
      obtain ⟨rfl, rfl⟩ := h3
      rfl
  simp only [k1, decide_false, Bool.false_and, Bool.false_eq_true, if_false] at h3
  rw [if_neg k1]
  obtain ⟨rfl, rfl⟩ := h3
  by_cases k2 : x.kind = 2
  · rw [if_pos k2]
    simp only [k2, decide_true, Bool.true_and] at h4
    by_cases hn : noName x.name = true ∨ isIn x.name voidL = true
    · rw [if_pos hn]
      rw [if_neg (by rcases hn with e | e <;> simp [e])] at h4
      obtain ⟨rfl, rfl⟩ := h4
      rfl
    · rw [if_neg hn]
      rw [if_pos (by rw [Bool.and_eq_true, Bool.not_eq_true', Bool.not_eq_true']; exact ⟨by simpa using fun e => hn (.inl e), by simpa using fun e => hn (.inr e)⟩)] at h4
      cases hf : findS [x.name] (endWalls x.name) stk3 with
      | some r =>
        rw [hf] at h4
        obtain ⟨rfl, rfl⟩ := h4
        rfl
      | none =>
        rw [hf] at h4
        obtain ⟨rfl, rfl⟩ := h4
        show _ = if x.name = n_p then _ else _
        by_cases e : x.name = n_p
        · rw [if_pos e, if_pos e]
        · rw [if_neg e, if_neg e]
  · simp only [k2, decide_false, Bool.false_and, Bool.false_eq_true, if_false] at h4
    obtain ⟨rfl, rfl⟩ := h4
    rw [if_neg k2]

theorem add_data {T : Nat} {o : List Ro} {d : Int} {t : ByteArray} (h : ∀ z ∈ o, z.data.size ≤ T) : ∀ z ∈ addText o d t, z.data.size ≤ T + t.size := by
  intro z hz
  unfold addText at hz
  have hsnoc : ∀ {u : Ro}, z ∈ o ++ [u] → u.data.size ≤ T + t.size → z.data.size ≤ T + t.size := fun {u} hm hu => by
    rcases List.mem_append.1 hm with e | e
    · have := h z e; omega
    · rw [List.mem_singleton.1 e]; exact hu
  cases hl : o.getLast? with
  | none =>
    rw [hl] at hz
    exact hsnoc hz (by show t.size ≤ _; omega)
  | some y =>
    rw [hl] at hz
    have hy := h y (List.mem_of_getLast? hl)
    change z ∈ (if y.kind = 1 ∧ y.depth = d then _ else _) at hz
    split at hz
    · rcases List.mem_append.1 hz with e | e
      · have := h z (List.dropLast_subset _ e); omega
      · rw [List.mem_singleton.1 e]
        show (y.data ++ t).size ≤ _
        rw [ByteArray.size_append]; omega
    · exact hsnoc hz (by show t.size ≤ _; omega)
theorem data_step {T : Nat} {st : St} {t : Tk} (h : ∀ z ∈ st.out, z.data.size ≤ T) : ∀ z ∈ (stepB st t).out, z.data.size ≤ T + t.data.size := by
  have hsame : ∀ z ∈ st.out, z.data.size ≤ T + t.data.size := fun z hz => by have := h z hz; omega
  have hsnoc : ∀ u : Ro, u.data.size ≤ T + t.data.size → ∀ z ∈ st.out ++ [u], z.data.size ≤ T + t.data.size := fun u hu z hm => by
    rcases List.mem_append.1 hm with e | e
    · exact hsame z e
    · rw [List.mem_singleton.1 e]; exact hu
  have h0 : (⟨#[]⟩ : ByteArray).size ≤ T + t.data.size := Nat.zero_le _
  unfold stepB
  split
  · split
    · exact hsame
    · exact add_data h
  split
  · exact hsnoc _ (Nat.le_add_left _ _)
  split
  · split
    · exact hsame
    · exact hsnoc _ h0
  split
  · split
    · exact hsame
    · split
      · exact hsame
      · split
        · exact hsnoc _ h0
        · exact hsame
  · exact hsame
theorem add_len (o : List Ro) (d : Int) (t : ByteArray) : (addText o d t).length ≤ o.length + 1 := (add_mem (P := fun _ => True) (fun _ _ => trivial) trivial).2
theorem len_if {b : Bool} {o a : List Ro} {q : List Ro} (h : q = if b = true then a else o) {n : Nat} (ha : a.length ≤ n) (ho : o.length ≤ n) : q.length ≤ n := by
  rw [h]; split <;> assumption

/-- What the reference's Tree comes to. -/
def RefSays (w : World) (t : List Tk) (e : Ending) (w' : World) : Prop :=
  (match treeB ⟨[], []⟩ t with
  | none => e = .returned (.tuple #[.slice none 0 0, .int .i64 2])
  | some o => ∃ v y, e = .returned (.tuple #[v, .int .i64 0]) ∧ Ow w.heap.size w' v y ∧ ros y = o) ∧ Below w.heap.size w w'
theorem RefSays.no {w w' : World} {t : List Tk} {e : Ending} (h : treeB ⟨[], []⟩ t = none) (he : e = .returned (.tuple #[.slice none 0 0, .int .i64 2])) (hb : Below w.heap.size w w') : RefSays w t e w' := by
  refine ⟨?_, hb⟩
  rw [h]
  exact he
theorem RefSays.yes {w w' : World} {t : List Tk} {e : Ending} {o : List Ro} (h : treeB ⟨[], []⟩ t = some o) (he : ∃ v y, e = .returned (.tuple #[v, .int .i64 0]) ∧ Ow w.heap.size w' v y ∧ ros y = o) (hb : Below w.heap.size w w') : RefSays w t e w' := by
  refine ⟨?_, hb⟩
  rw [h]
  exact he

set_option maxRecDepth 100000 in
set_option maxHeartbeats 4000000 in
theorem refTree_any (A : Option Addr) (c : Nat) (l : List Tw) (w : World) (hr : To.Rr w w.heap.size A l) (hc : l.length ≤ c) (hl : l.length ≤ 200000) (hd : dsum (tks l) ≤ 1000000000) (hat : ∀ x ∈ l, x.tk.attrs.length ≤ 1000000) :
    Calls Tryd.prog 5 #[.slice A l.length c] w fun e w' => RefSays w (tks l) e w' := by
  have HR := Lib.hid hr
  have HM1 := Lib.hid (Sown.made w)
  have HM2 := Lib.hid (show Ow w.heap.size ((w.alloc (.cells #[] 9)).alloc (.cells #[] 31)) (.slice (some ⟨w.heap.size + 1, 0, none⟩) 0 0) [] from by
    have h := Ro.Ow.made (w.alloc (.cells #[] 9))
    have e : (w.alloc (.cells #[] 9)).heap.size = w.heap.size + 1 := by simp
    rw [e] at h
    exact h.mono (Nat.le_succ _) (fun _ h => by cases h))
  clear hr
  go_enter Tryd.func5, Tryd.ntmps5
  go_wp2
  go_loopw [4, 5, 6] (fun vo vr i wr => ∃ (k T : Nat) (stk : List ByteArray) (y : List Cw), i = .int .i64 k ∧ k ≤ l.length ∧ Tr w.heap.size w wr vo vr k T stk y ∧ treeB ⟨[], []⟩ (tks l) = treeB ⟨stk, ros y⟩ ((tks l).drop k) ∧ T + dsum ((tks l).drop k) ≤ 1000000000) (fun _ _ i _ => l.length - (intOf i).toNat)
  case atStart =>
    refine ⟨0, 0, [], [], rfl, Nat.zero_le _, ⟨HM1.out.alloc _, HM2.out, (below_one w _).trans ((below_one (w.alloc (.cells #[] 9)) _).mono (Nat.le_of_lt (by simp))), Nat.le_refl _, Nat.zero_le _, (fun z h => by cases h)⟩, by rw [List.drop_zero]; rfl, by rw [List.drop_zero]; omega⟩
  case round =>
    obtain ⟨k, T, stk, y, rfl, hk, htr, heq, hT⟩ := hrel
    by_cases hp : k < l.length
    · obtain ⟨b, off, x, rfl, hb, hdx, hx, hxa, hxm⟩ := (HR.out.below htr.below).at_ k hp
      obtain ⟨x0, x1, x2, x3, x4⟩ := Ro.range5 hx
      have hbx := Tb.new wr x
      obtain ⟨Ao, co, hvo, hco, hmo, hro⟩ := Sown.form htr.opens
      rw [List.length_reverse] at hvo hco
      subst hvo
      have hsl := htr.stkL; have hrl := htr.rowsL
      have hdr : (tks l).drop k = x.tk :: (tks l).drop (k + 1) := by rw [To.tks_drop, hdx, To.tks_cons, ← To.tks_drop]
      have HDR := Lib.hid hdr
      have hal := hat x hxm
      have hTx : T + x.tk.data.size ≤ 1000000000 := by
        rw [hdr] at hT
        have : dsum (x.tk :: (tks l).drop (k + 1)) = x.tk.data.size + dsum ((tks l).drop (k + 1)) := rfl
        omega
      have hjs : ∀ z, (ros y).getLast? = some z → z.data.size + x.tk.data.size ≤ 140737488351232 := fun z hz => by
        have := htr.data z (List.mem_of_getLast? hz)
        omega
      have HS0 := Lib.hid hjs
      have HOLD0 := Lib.hid (show ∀ W, wr.alloc (tokO x) = W → Hold w.heap.size w W (.slice Ao stk.length co) u5 wr.heap.size x stk y from fun W e => by
        subst e
        exact ⟨Sown.alloc htr.opens _, htr.rows.alloc _, hbx, htr.below.trans ((below_one wr _).mono htr.below.size), htr.below.size⟩)
      clear hdr hjs
      have HTR := Lib.hid htr; have HEQ := Lib.hid heq; have HT := Lib.hid hT; have HDX := Lib.hid hdx; have HXA := Lib.hid hxa; have HXM := Lib.hid hxm
      obtain ⟨q0, q1, q2, q3, q4⟩ := hbx.c
      have HBX := Lib.hid hbx
      clear htr heq hT hdx hx hxa hxm hbx hb
      go_upto_region 6 with fail
      have hwz : wr.heap.size < (wr.alloc (tokO x)).heap.size := by simp
      obtain ⟨W, hW⟩ : ∃ W, wr.alloc (.cells #[.int .i64 x.tk.kind, .string x.tk.name, .string x.tk.data, .slice x.A x.tk.attrs.length x.c, .bool x.tk.self] 37) = W := ⟨_, rfl⟩
      rw [hW] at q0 q1 q2 q3 q4 hwz
      rw [hW]
      have HW := Lib.hid (HOLD0.out W hW)
      clear hW
      have HQ1 := Lib.hid q1
      have hnn : noName x.tk.name = (x.tk.name.toList.isEmpty || isIn x.tk.name goneL) := by rw [empty_eq]; rfl
      have HNN := Lib.hid hnn
      clear hnn
      go_cut [8] from 23 to 31 (fun s8 wx => s8 = .bool (noName x.tk.name) ∧ Below W.heap.size W wx)
      case first =>
        cases gE : x.tk.name.toList.isEmpty with
        | true =>
          go_quiet (fail)
          go_wp2
          go_meet
          exact ⟨by rw [HNN.out, gE]; rfl, below_dN (Below.refl _ _) _⟩
        | false =>
          obtain ⟨q, hq⟩ : ∃ q, isIn x.tk.name goneL = q := ⟨_, rfl⟩
          have HQ := Lib.hid hq
          clear hq
          go_region_held3 (fun w' => w'.cell? ⟨wr.heap.size, 1, none⟩ = some (.string x.tk.name)) (first | exact d1 | exact HQ1.out | go_keep) (first
            | (go_at_call 10; refine (Na.refGone_any _).mono ?_; rintro e w2 ⟨v2, rfl, s2, b2⟩; have d1 := (b2.cell (p := ⟨wr.heap.size, 1, none⟩) hwz).trans HQ1.out; have HS2 := Lib.hid s2; have HB2 := Lib.hid b2; clear s2 b2)
            | (go_at_call 9; refine (refHas1 _ goneL _ _ (sv_own HS2.out) (by decide) q HQ.out).mono ?_; rintro e w3 ⟨rfl, rfl⟩))
          all_goals (go_wp2; go_meet; exact ⟨by rw [HNN.out, gE, HQ.out]; rfl, by first | exact HB2.out | exact below_dN HB2.out _ | exact ⟨HB2.out.os, HB2.out.tape, HB2.out.output, HB2.out.size, HB2.out.block⟩⟩)
      case rest =>
        obtain ⟨rfl, hb2⟩ := hcut
        have HH := Lib.hid (HW.out.calls hb2)
        clear hb2 HQ1 q0 q1 q2 q3 q4 x0 x1 x2 x3 x4 hwz
        obtain ⟨q0, q1, q2, q3, q4⟩ := HH.out.box.c
        have HS1 := HS0
        go_upto_region 7 with fail
        rename World => W2
        go_cut [39] from 32 to 39 (fun s wx => s = .bool ((x.tk.kind == 0) && !x.tk.data.toList.isEmpty) ∧ wx = W2)
        case first =>
          cases g0 : x.tk.kind == 0 with
          | false =>
            go_wp2
            go_meet
            exact ⟨by rw [g0]; rfl, rfl⟩
          | true =>
            cases gd : x.tk.data.toList.isEmpty with
            | true =>
              go_wp2
              go_meet
              exact ⟨by rw [g0, gd]; rfl, rfl⟩
            | false =>
              go_wp2
              go_meet
              exact ⟨by rw [g0, gd]; rfl, rfl⟩
        case rest =>
        obtain ⟨rfl, rfl⟩ := hcut
        obtain ⟨g7, hg7⟩ : ∃ g7, ((x.tk.kind == 0) && !x.tk.data.toList.isEmpty) = g7 := ⟨_, rfl⟩
        rw [hg7]
        have HG7 := Lib.hid hg7
        clear hg7
        go_upto_if 39 with (fail)
        go_cut [5] from 40 to 46 (fun v5 wx => ∃ y', Hold w.heap.size w wx (.slice Ao stk.length co) v5 wr.heap.size x stk y' ∧ ros y' = if g7 = true then addText (ros y) stk.length x.tk.data else ros y)
        case first =>
          cases g7 with
          | false =>
            go_wp2
            go_meet
            exact ⟨y, HH.out, rfl⟩
          | true =>
            go_wp2_with fail
            refine (refJoined_any w.heap.size u5 y stk.length x.tk.data _ HH.out.rows HH.out.size (by omega) HS1.out).mono ?_
            rintro e w3 ⟨v3, y3, rfl, ho3, hr3, hg3⟩
            have H3 := Lib.hid (HH.out.more_rows hg3 ho3); have HR3 := Lib.hid hr3
            clear ho3 hr3 hg3
            go_wp2
            go_meet
            exact ⟨y3, H3.out, HR3.out⟩
        case rest =>
        obtain ⟨y1, hh1, hr1⟩ := hcut
        have hl1 : y1.length ≤ 4 * k + 1 := by
          rw [← Ro.len_ros]
          exact len_if hr1 (Nat.le_trans (add_len _ _ _) (by rw [Ro.len_ros]; omega)) (by rw [Ro.len_ros]; omega)
        have HH1 := Lib.hid hh1; have HR1 := Lib.hid hr1
        clear hh1 hr1 q0 q1 q2 q3 q4
        obtain ⟨q0, q1, q2, q3, q4⟩ := HH1.out.box.c
        obtain ⟨g9, hg9⟩ : ∃ g9, (x.tk.kind == 3) = g9 := ⟨_, rfl⟩
        go_upto_if 49 with (fail)
        have HG9 := Lib.hid hg9
        clear hg9
        go_cut [5] from 50 to 57 (fun v5 wx => ∃ y2, Hold w.heap.size w wx (.slice Ao stk.length co) v5 wr.heap.size x stk y2 ∧ ros y2 = if g9 = true then ros y1 ++ [⟨stk.length, 2, ⟨#[]⟩, x.tk.data, []⟩] else ros y1)
        case first =>
          cases g9 with
          | false =>
            go_wp2
            go_meet
            exact ⟨y1, HH1.out, rfl⟩
          | true =>
            go_wp2_with (at_builtin; go_loud (refine app_keepY _ rfl (.tmp 50) (.tmp 56) rfl w.heap.size _ y1 (bare ⟨stk.length, 2, ⟨#[]⟩, x.tk.data, []⟩) rfl HH1.out.rows (Ro.bare_att _ _ rfl) (Ro.bare_ap _ _ rfl) _ rfl rfl (by omega) HH1.out.size ?_); intro v4 w4 hown4 hg4)
            go_meet
            exact ⟨_, HH1.out.more_rows hg4 hown4, ros_bare1 _ _⟩
        case rest =>
        obtain ⟨y2, hh2, hr2⟩ := hcut
        have hl2 : y2.length ≤ 4 * k + 2 := by
          rw [← Ro.len_ros]
          exact len_if hr2 (by rw [List.length_append, Ro.len_ros]; simp only [List.length_cons, List.length_nil]; omega) (by rw [Ro.len_ros]; omega)
        have HH2 := Lib.hid hh2; have HR2 := Lib.hid hr2
        clear hh2 hr2 q0 q1 q2 q3 q4
        obtain ⟨q0, q1, q2, q3, q4⟩ := HH2.out.box.c
        obtain ⟨nn, hnn2⟩ : ∃ nn, noName x.tk.name = nn := ⟨_, rfl⟩
        rw [hnn2]
        have HN2 := Lib.hid hnn2
        clear hnn2
        go_upto_region 11 with fail
        rename World => W3
        go_cut [64] from 61 to 64 (fun s wx => s = .bool ((x.tk.kind == 1) && !nn) ∧ wx = W3)
        case first =>
          cases g0 : x.tk.kind == 1 with
          | false =>
            go_wp2
            go_meet
            exact ⟨by rw [g0]; rfl, rfl⟩
          | true =>
            go_wp2
            go_meet
            exact ⟨by rw [g0]; rfl, rfl⟩
        case rest =>
        obtain ⟨rfl, rfl⟩ := hcut
        obtain ⟨g11, hg11⟩ : ∃ g11, ((x.tk.kind == 1) && !nn) = g11 := ⟨_, rfl⟩
        rw [hg11]
        have HG11 := Lib.hid hg11
        clear hg11
        go_upto_if 64 with (fail)
        go_cut [4, 5] from 65 to 89 (fun v4 v5 wx => ∃ stk3 y3, Hold w.heap.size w wx v4 v5 wr.heap.size x stk3 y3 ∧ (if g11 = true then stk3 = (if isIn x.tk.name voidL = true then openedS x.tk.name stk else x.tk.name :: openedS x.tk.name stk) ∧ ros y3 = ros y2 ++ [⟨(openedS x.tk.name stk).length, 0, x.tk.name, ⟨#[]⟩, once x.tk.attrs⟩] else stk3 = stk ∧ ros y3 = ros y2))
        case first =>
          cases g11 with
          | false =>
            go_wp2
            go_meet
            exact ⟨stk, y2, HH2.out, rfl, rfl⟩
          | true =>
            go_wp2_with fail
            refine (refOpened_any _ stk.reverse x.tk.name _ (by rw [List.length_reverse]; omega) (sv_own HH2.out.opens)).mono ?_
            rintro e w3 ⟨v3, rfl, s3, b3⟩
            rw [List.reverse_reverse] at s3
            obtain ⟨s4, hs4⟩ : ∃ s4, openedS x.tk.name stk = s4 := ⟨_, rfl⟩
            have hs4l : s4.length ≤ k := by rw [← hs4]; exact Nat.le_trans (openedS_suffix _ _).length_le hsl
            rw [hs4] at s3
            have HH3 := Lib.hid (HH2.out.new_opens b3 s3)
            obtain ⟨A3, c3, hv3, hc3, _, _⟩ := Sown.form s3
            rw [List.length_reverse] at hv3
            subst hv3
            have HS4 := Lib.hid hs4
            clear s3 b3 hs4 q0 q1 q2 q3 q4
            obtain ⟨q0, q1, q2, q3, q4⟩ := HH3.out.box.c
            have HXW := Lib.hid ((HR.out.2 x HXM.out).below HH3.out.below)
            have HQ13 := Lib.hid (show w3.cell? ⟨wr.heap.size, 1, none⟩ = some (.string x.tk.name) ∧ w3.cell? ⟨wr.heap.size, 3, none⟩ = some (.slice x.A x.tk.attrs.length x.c) from ⟨q1, q3⟩)
            have hbl := HH3.out.box.lt
            obtain ⟨ats, has⟩ : ∃ ats, once x.tk.attrs = ats := ⟨_, rfl⟩
            have HAS := Lib.hid has
            clear has
            go_upto_region 13 with fail
            go_cut [5] from 69 to 79 (fun v5 wx => ∃ y3, Hold w.heap.size w wx (.slice A3 s4.length c3) v5 wr.heap.size x s4 y3 ∧ ros y3 = ros y2 ++ [⟨(s4.length : Nat), 0, x.tk.name, ⟨#[]⟩, ats⟩])
            case first =>
              go_region_held3 (fun w' => w'.cell? ⟨wr.heap.size, 1, none⟩ = some (.string x.tk.name) ∧ w'.cell? ⟨wr.heap.size, 3, none⟩ = some (.slice x.A x.tk.attrs.length x.c)) (first | exact d13 | exact HQ13.out | go_keep) (first
                | (go_at_call 13; refine (refOnce1 x.A x.c x.tk.attrs ats w3.drew (by exact HXW.out.2.2.2.1.more HH3.out.size) HXW.out.2.2.2.2 HXW.out.1 hal HAS.out).mono ?_; rintro e w5 ⟨A5, c5, rfl, ha5, b5⟩; have d13 : w5.cell? ⟨wr.heap.size, 1, none⟩ = some (.string x.tk.name) ∧ w5.cell? ⟨wr.heap.size, 3, none⟩ = some (.slice x.A x.tk.attrs.length x.c) := ⟨(b5.cell (p := ⟨wr.heap.size, 1, none⟩) hbl).trans HQ13.out.1, (b5.cell (p := ⟨wr.heap.size, 3, none⟩) hbl).trans HQ13.out.2⟩; have HA5 := Lib.hid ha5; have HH5 := Lib.hid (HH3.out.calls (below_drew b5)); clear ha5 b5)
                | (refine step_app_rowY _ (by rfl) (.tmp 69) (.tmp 78) (by rfl) w5 w.heap.size _ y2 ⟨⟨(s4.length : Nat), 0, x.tk.name, ⟨#[]⟩, ats⟩, A5, c5⟩ HH5.out.rows (fr_of HA5.out _ _ _).att (ap_fr (fr_of HA5.out _ _ _)) (by first | exact World.grownBy_alloc w5 _ _ | exact (g_dN w5 1 _).trans (World.grownBy_alloc _ _ _) | exact (World.grownBy_alloc w5 _ _).trans (g_dN _ 1 _)) HH5.out.size (by omega) (by simp [Act.eval, Act.put]) _ (by simp [Act.eval, Act.put]) (World.alloc_heap_new _ _) ?_; intro v6 w6 ho6 hg6; have h6 := HH5.out.more_rows hg6 ho6; have d13 : w6.cell? ⟨wr.heap.size, 1, none⟩ = some (.string x.tk.name) ∧ w6.cell? ⟨wr.heap.size, 3, none⟩ = some (.slice x.A x.tk.attrs.length x.c) := ⟨h6.box.c.2.1, h6.box.c.2.2.2.1⟩; have HH6 := Lib.hid h6; clear h6 ho6 hg6))
              all_goals go_wp2
              all_goals go_meet
              all_goals exact ⟨_, HH6.out, ros_one _ _⟩
            case rest =>
              obtain ⟨y3, hh13, hr13⟩ := hcut
              rename World => W13
              have HH13 := Lib.hid hh13; have HR13 := Lib.hid hr13
              clear hh13 hr13 q0 q1 q2 q3 q4 HQ13 HXW
              obtain ⟨q0, q1, q2, q3, q4⟩ := HH13.out.box.c
              obtain ⟨vq, hvq⟩ : ∃ vq, isIn x.tk.name voidL = vq := ⟨_, rfl⟩
              have HV := Lib.hid hvq; have HQ1b := Lib.hid q1
              have hwz := HH13.out.box.lt
              clear hvq
              go_upto_region 14 with fail
              go_cut [84] from 80 to 84 (fun s wx => s = .bool (!vq) ∧ Below W13.heap.size W13 wx)
              case first =>
                go_region_held3 (fun w' => w'.cell? ⟨wr.heap.size, 1, none⟩ = some (.string x.tk.name)) (first | exact d1 | exact HQ1b.out | go_keep) (first
                  | (go_at_call 14; refine (Na.refVoid_any _).mono ?_; rintro e w5 ⟨v5, rfl, s5, b5⟩; have d1 := (b5.cell (p := ⟨wr.heap.size, 1, none⟩) hwz).trans HQ1b.out; have HS5 := Lib.hid s5; have HB5 := Lib.hid (below_drew b5); clear s5 b5)
                  | (go_at_call 9; refine (refHas1 _ voidL _ _ (sv_own HS5.out) (by decide) vq HV.out).mono ?_; rintro e w6 ⟨rfl, rfl⟩))
                all_goals (go_wp2; go_meet; exact ⟨rfl, by first | exact HB5.out | exact below_dN HB5.out _⟩)
              case rest =>
                obtain ⟨rfl, hb14⟩ := hcut
                rename World => W14
                have HH14 := Lib.hid (HH13.out.calls hb14)
                clear hb14 q0 q1 q2 q3 q4 HQ1b
                obtain ⟨q0, q1, q2, q3, q4⟩ := HH14.out.box.c
                cases vq with
                | true =>
                  go_wp2
                  go_meet
                  exact ⟨s4, y3, HH14.out, by rw [if_pos HV.out]; exact HS4.out.symm, by rw [HR13.out, HAS.out, HS4.out]⟩
                | false =>
                  go_wp2_with (at_builtin; go_loud (refine app_strG _ rfl (.tmp 85) (.tmp 88) rfl w.heap.size _ s4.reverse x.tk.name rfl HH14.out.opens rfl (by rw [List.length_reverse]; omega) HH14.out.size ?_); intro v6 w6 ho6 hg6)
                  go_meet
                  exact ⟨x.tk.name :: s4, y3, HH14.out.more_opens hg6 (by rw [List.reverse_cons]; exact ho6), by rw [if_neg (by rw [HV.out]; simp)]; exact congrArg _ HS4.out.symm, by rw [HR13.out, HAS.out, HS4.out]⟩
        case rest =>
        obtain ⟨stk3, y3, hh3, hif3⟩ := hcut
        rename World => W15
        have hs3 : stk3.length ≤ k + 1 := by
          cases g11 with
          | false => rw [if_neg (by simp)] at hif3; rw [hif3.1]; omega
          | true =>
            rw [if_pos rfl] at hif3
            have := (openedS_suffix x.tk.name stk).length_le
            rw [hif3.1]
            split
            · omega
            · rw [List.length_cons]; omega
        have hl3 : y3.length ≤ 4 * k + 3 := by
          rw [← Ro.len_ros]
          cases g11 with
          | false => rw [if_neg (by simp)] at hif3; rw [hif3.2, Ro.len_ros]; omega
          | true =>
            rw [if_pos rfl] at hif3
            rw [hif3.2, List.length_append, Ro.len_ros]
            simp only [List.length_cons, List.length_nil]
            omega
        have HH3 := Lib.hid hh3; have HIF3 := Lib.hid hif3
        clear hh3 hif3 q0 q1 q2 q3 q4
        obtain ⟨q0, q1, q2, q3, q4⟩ := HH3.out.box.c
        obtain ⟨A3, c3, hv3, hc3, _, _⟩ := Sown.form HH3.out.opens
        rw [List.length_reverse] at hv3
        subst hv3
        obtain ⟨vq, hvq⟩ : ∃ vq, isIn x.tk.name voidL = vq := ⟨_, rfl⟩
        have HV := Lib.hid hvq; have HQ1c := Lib.hid q1
        have hwz := HH3.out.box.lt
        clear hvq
        go_upto_region 16 with fail
        go_cut [103] from 90 to 103 (fun s wx => s = .bool ((x.tk.kind == 2) && !nn && !vq) ∧ Below W15.heap.size W15 wx)
        case first =>
          cases g0 : x.tk.kind == 2 with
          | false =>
            go_quiet (fail)
            go_wp2
            go_meet
            exact ⟨by rw [g0]; rfl, below_dN (Below.refl _ _) _⟩
          | true =>
            cases nn with
            | true =>
              go_quiet (fail)
              go_wp2
              go_meet
              exact ⟨by rw [g0]; rfl, below_dN (Below.refl _ _) _⟩
            | false =>
              go_region_held3 (fun w' => w'.cell? ⟨wr.heap.size, 1, none⟩ = some (.string x.tk.name) ∧ w'.cell? ⟨wr.heap.size, 0, none⟩ = some (.int .i64 x.tk.kind)) (first | exact d1 | exact ⟨HQ1c.out, q0⟩ | go_keep) (first
                | (go_at_call 14; refine (Na.refVoid_any _).mono ?_; rintro e w5 ⟨v5, rfl, s5, b5⟩; have d1 : w5.cell? ⟨wr.heap.size, 1, none⟩ = some (.string x.tk.name) ∧ w5.cell? ⟨wr.heap.size, 0, none⟩ = some (.int .i64 x.tk.kind) := ⟨(b5.cell (p := ⟨wr.heap.size, 1, none⟩) hwz).trans HQ1c.out, (b5.cell (p := ⟨wr.heap.size, 0, none⟩) hwz).trans q0⟩; have HS5 := Lib.hid s5; have HB5 := Lib.hid (below_drew b5); clear s5 b5)
                | (go_at_call 9; refine (refHas1 _ voidL _ _ (sv_own HS5.out) (by decide) vq HV.out).mono ?_; rintro e w6 ⟨rfl, rfl⟩))
              all_goals (go_wp2; go_meet; exact ⟨by rw [g0]; rfl, by first | exact HB5.out | exact below_dN HB5.out _⟩)
        case rest =>
        obtain ⟨rfl, hb16⟩ := hcut
        rename World => W16
        have HH16 := Lib.hid (HH3.out.calls hb16)
        clear hb16 q0 q1 q2 q3 q4 HQ1c
        obtain ⟨q0, q1, q2, q3, q4⟩ := HH16.out.box.c
        obtain ⟨g12, hg12⟩ : ∃ g12, ((x.tk.kind == 2) && !nn && !vq) = g12 := ⟨_, rfl⟩
        rw [hg12]
        have HG12 := Lib.hid hg12
        clear hg12
        go_upto_if 103 with (fail)
        go_cut [4, 5] from 104 to 124 (fun v4 v5 wx => ∃ stk5 y5, Hold w.heap.size w wx v4 v5 wr.heap.size x stk5 y5 ∧ (if g12 = true then (match findS [x.tk.name] (endWalls x.tk.name) stk3 with | some r => stk5 = r ∧ ros y5 = ros y3 | none => stk5 = stk3 ∧ ros y5 = if x.tk.name = n_p then ros y3 ++ [⟨stk3.length, 0, n_p, ⟨#[]⟩, []⟩] else ros y3) else stk5 = stk3 ∧ ros y5 = ros y3))
        case first =>
          cases g12 with
          | false =>
            go_wp2
            go_meet
            exact ⟨stk3, y3, HH16.out, rfl, rfl⟩
          | true =>
            have gp : (x.tk.name.toList == [112]) = decide (x.tk.name = n_p) := p_eq _
            cases hf : findS [x.tk.name] (endWalls x.tk.name) stk3 with
            | some r =>
              go_wp2_with fail
              refine (refEnded_any _ stk3.reverse x.tk.name _ (by rw [List.length_reverse]; omega) (sv_own HH16.out.opens)).mono ?_
              rintro e w5 he
              rw [EndSays, List.reverse_reverse, hf] at he
              obtain ⟨⟨v5, rfl, s5⟩, b5⟩ := he
              have h5 := HH16.out.new_opens b5 s5
              have c5 := h5.box.c
              have HH5 := Lib.hid h5
              clear h5 b5 s5
              go_wp2
              go_meet
              exact ⟨r, y3, HH5.out, by rw [hf]; exact ⟨rfl, rfl⟩⟩
            | none =>
              go_wp2_with fail
              refine (refEnded_any _ stk3.reverse x.tk.name _ (by rw [List.length_reverse]; omega) (sv_own HH16.out.opens)).mono ?_
              rintro e w5 he
              rw [EndSays, List.reverse_reverse, hf] at he
              obtain ⟨rfl, b5⟩ := he
              have h5 := HH16.out.calls b5
              clear q0 q1 q2 q3 q4
              obtain ⟨q0, q1, q2, q3, q4⟩ := h5.box.c
              have HH5 := Lib.hid h5
              clear h5 b5
              by_cases hp0 : x.tk.name = n_p
              · rw [decide_eq_true hp0] at gp
                have HP0 := Lib.hid hp0
                clear hp0
                go_wp2_with (at_builtin; go_loud (refine app_keepY _ rfl (.tmp 119) (.tmp 123) rfl w.heap.size _ y3 (bare ⟨stk3.length, 0, n_p, ⟨#[]⟩, []⟩) rfl HH5.out.rows (Ro.bare_att _ _ rfl) (Ro.bare_ap _ _ rfl) _ rfl rfl (by omega) HH5.out.size ?_); intro v6 w6 ho6 hg6)
                go_meet
                exact ⟨stk3, _, HH5.out.more_rows hg6 ho6, by rw [hf]; exact ⟨rfl, by rw [if_pos HP0.out]; exact ros_bare1 _ _⟩⟩
              · rw [decide_eq_false hp0] at gp
                have HP0 := Lib.hid hp0
                clear hp0
                go_wp2
                go_meet
                exact ⟨stk3, y3, HH5.out, by rw [hf]; exact ⟨rfl, by rw [if_neg HP0.out]⟩⟩
        case rest =>
        obtain ⟨stk5, y5, hh5, hif5⟩ := hcut
        rename World => W20
        have hl5 : y5.length ≤ 4 * k + 4 ∧ stk5.length ≤ k + 1 := by
          rw [← Ro.len_ros]
          cases g12 with
          | false => rw [if_neg (by simp)] at hif5; rw [hif5.1, hif5.2, Ro.len_ros]; omega
          | true =>
            rw [if_pos rfl] at hif5
            cases hf : findS [x.tk.name] (endWalls x.tk.name) stk3 with
            | some r =>
              rw [hf] at hif5
              have := findS_len hf
              rw [hif5.1, hif5.2, Ro.len_ros]
              omega
            | none =>
              rw [hf] at hif5
              have h2 : ros y5 = if x.tk.name = n_p then ros y3 ++ [⟨stk3.length, 0, n_p, ⟨#[]⟩, []⟩] else ros y3 := hif5.2
              have h1 : stk5 = stk3 := hif5.1
              rw [h1, h2]
              split
              · rw [List.length_append, Ro.len_ros]
                simp only [List.length_cons, List.length_nil]
                omega
              · rw [Ro.len_ros]; omega
        have hst : (⟨stk5, ros y5⟩ : St) = stepB ⟨stk, ros y⟩ x.tk := by
          have h1 := HR1.out; have h2 := HR2.out; have h3 := HIF3.out; have h4 := hif5
          rw [← HG7.out] at h1; rw [← HG9.out] at h2; rw [← HG11.out, ← HN2.out] at h3; rw [← HG12.out, ← HN2.out, ← HV.out] at h4
          exact step_all h1 h2 h3 h4
        have hdt : ∀ z ∈ ros y5, z.data.size ≤ T + x.tk.data.size := by
          have := data_step (t := x.tk) (st := ⟨stk, ros y⟩) HTR.out.data
          rw [← hst] at this
          exact this
        have heq2 : treeB ⟨[], []⟩ (tks l) = if tooBig (ros y5) = true then none else treeB ⟨stk5, ros y5⟩ ((tks l).drop (k + 1)) := by
          rw [HEQ.out, HDR.out, tree_cons, ← hst]
        have HH5 := Lib.hid hh5; have HEQ2 := Lib.hid heq2; have HDT := Lib.hid hdt
        clear hh5 hif5 hst hdt heq2 q0 q1 q2 q3 q4 HIF3 HR1 HR2 HG7 HG9 HG11 HG12 hl1 hl2 hl3
        obtain ⟨hl51, hl52⟩ := hl5
        obtain ⟨A5, c5, hv5, hc5, hm5, _, _⟩ := HH5.out.rows.form
        obtain ⟨n5, hn5⟩ : ∃ n5, y5.length = n5 := ⟨_, rfl⟩
        subst hv5
        rw [hn5]
        unfold maxLen at hm5
        go_upto_region 21 with fail
        go_cut [142] from 125 to 142 (fun s wx => s = .bool (tooBig (ros y5)) ∧ wx = W20)
        case first =>
          rcases List.eq_nil_or_concat y5 with e | ⟨init, z, e⟩
          · subst e
            have e0 : n5 = 0 := hn5.symm
            subst e0
            go_wp2
            go_meet
            exact ⟨rfl, rfl⟩
          · rw [List.concat_eq_append] at e
            subst e
            obtain ⟨g, cap, hv, hcap, hcm, hg1, hg2, hyc⟩ := HH5.out.rows.pos
            obtain ⟨f0, f1, f2, f3, f4⟩ := Ro.range5 (v0 := .int .i64 z.ro.depth) (v1 := .int .i64 z.ro.kind) (v2 := .string z.ro.name) (v3 := .string z.ro.data) (v4 := .slice z.A z.ro.attrs.length z.c) hyc
            injection hv with hv1 hv2 hv3
            have hi5 : n5 = init.length + 1 := by rw [← hn5]; simp
            subst hv1 hv3 hi5
            have htb : tooBig (ros (init ++ [z])) = (decide (4096 < (init.length : Int) + 1) || decide (60 ≤ z.ro.depth)) := by
              rw [ros_one]
              unfold tooBig
              rw [List.getLast?_concat, List.length_append, Ro.len_ros]
              show (decide (4096 < init.length + 1) || decide (60 ≤ z.ro.depth)) = _
              congr 1
              rw [decide_eq_decide]
              omega
            have i1 : (0 : Int) ≤ (init.length : Int) := by omega
            have i2 : (init.length : Int) < (init.length : Int) + 1 := by omega
            have i0 : IntKind.i64.wrap (init.length : Int) = (init.length : Nat) := IntWalk.i64_in _ (by omega)
            have i3 : (0 : Int) < (init.length : Int) + 1 := by omega
            have HTB := Lib.hid htb
            clear htb hyc hn5 f1 f2 f3 f4
            cases hd : decide (4096 < (init.length : Int) + 1) with
            | true =>
              go_wp2
              go_meet
              exact ⟨by rw [HTB.out, hd]; rfl, rfl⟩
            | false =>
              go_wp2
              go_meet
              exact ⟨by rw [HTB.out, hd, Bool.false_or], rfl⟩
        case rest =>
        obtain ⟨rfl, rfl⟩ := hcut
        obtain ⟨q5, hq5⟩ : ∃ q5, tooBig (ros y5) = q5 := ⟨_, rfl⟩
        rw [hq5]
        have HQ5 := Lib.hid hq5
        clear hq5
        cases q5 with
        | true =>
          go_wp2
          go_ret2
          exact RefSays.no (by rw [HEQ2.out, if_pos HQ5.out]) rfl HH5.out.below
        | false =>
          go_wp2
          go_roundw
          case rel =>
            have hT1 := HT.out
            rw [HDR.out] at hT1
            have : dsum (x.tk :: (tks l).drop (k + 1)) = x.tk.data.size + dsum ((tks l).drop (k + 1)) := rfl
            exact ⟨k + 1, T + x.tk.data.size, stk5, y5, by go_num, by omega, ⟨HH5.out.opens, hn5 ▸ HH5.out.rows, HH5.out.below, by omega, by omega, HDT.out⟩, by rw [HEQ2.out, if_neg (by rw [HQ5.out]; simp)], by omega⟩
          case measure => simp [intOf]; omega
    · rw [List.drop_eq_nil_of_le (by rw [To.len_tks]; omega)] at heq hT
      obtain ⟨A5, c5, hv5, hc5, hm5, _, _⟩ := htr.rows.form
      subst hv5
      have HTR := Lib.hid htr; have HEQ := Lib.hid heq
      clear htr heq
      go_wp2
      go_ret2
      exact RefSays.yes HEQ.out ⟨_, y, rfl, HTR.out.rows, rfl⟩ HTR.out.below

end Go.Proofs.YtdplbcchkjpcdaaDoor.Bu

namespace Go.Proofs.YtdplbcchkjpcdaaDoor.To
set_option maxRecDepth 100000
set_option linter.unusedSimpArgs false
set_option linter.unusedVariables false
open Go.RowKit Ba Fm Fo Tm Sm Nm Na
open Ro (below_new At acells len_acells Sh Ra range2 range5)
open Re (Tab)
open Rm (dec esc)
theorem Ra.take {w : World} {N : Nat} {A : Option Addr} {l : List At} (h : Ra w N A l) (m : Nat) : Ra w N A (l.take m) := fun h0 => by
  rw [List.length_take] at h0
  obtain ⟨b, off, e, hb, hc⟩ := h (by omega)
  refine ⟨b, off, e, hb, fun j hj => ?_⟩
  rw [List.length_take] at hj
  have := hc j (by omega)
  rw [List.getElem_take]
  exact this
theorem bulkA_take (l : List At) (m : Nat) : bulkA (l.take m) ≤ bulkA l := by
  have h : bulkA l = bulkA (l.take m) + bulkA (l.drop m) := by
    unfold bulkA
    rw [← List.sum_append, ← List.map_append, List.take_append_drop]
  omega
/-- A token with its first attributes alone. -/
def cutA (x : Tw) (m : Nat) : Tw := ⟨⟨x.tk.kind, x.tk.name, x.tk.data, x.tk.attrs.take m, x.tk.self⟩, x.A, x.c⟩
theorem Att.cutA {w : World} {N : Nat} {x : Tw} (h : Att w N x) (m : Nat) : Att w N (cutA x m) :=
  ⟨Nat.le_trans (by show (x.tk.attrs.take m).length ≤ x.tk.attrs.length; rw [List.length_take]; omega) h.1, h.2.1, h.2.2.1, Ra.take h.2.2.2.1 m, fun a ha => h.2.2.2.2 a (List.mem_of_mem_take ha)⟩
theorem bulk_cutA (x : Tw) (m : Nat) : bulkT (cutA x m).tk ≤ bulkT x.tk := by
  have h1 := bulkA_take x.tk.attrs m
  have h2 : (x.tk.attrs.take m).length ≤ x.tk.attrs.length := by rw [List.length_take]; omega
  show x.tk.name.size + x.tk.data.size + bulkA (x.tk.attrs.take m) + (x.tk.attrs.take m).length ≤ x.tk.name.size + x.tk.data.size + bulkA x.tk.attrs + x.tk.attrs.length
  omega

theorem bulk_take (l : List Tw) (k : Nat) : bulk (tks (l.take k)) ≤ bulk (tks l) := by
  have h : bulk (tks l) = bulk (tks (l.take k)) + bulk (tks (l.drop k)) := by
    rw [← bulk_append, ← tks_append, List.take_append_drop]
  omega
/-- What bound answers. -/
def Bound (w : World) (l : List Tw) (V : Value) : Prop := ∃ A c y, V = .slice A y.length c ∧ y.length ≤ c ∧ Rr w w.heap.size A y ∧ y.length ≤ 60 ∧ bulk (tks y) ≤ bulk (tks l) ∧ ∀ z ∈ y, z.tk.attrs.length ≤ 6
theorem bound_fin {N k : Nat} {w : World} {v : Value} {l o : List Tw} (ho : Ow N w v o) (hl : o.length ≤ 60) (hb : bulk (tks o) ≤ bulk (tks (l.take k))) (ha : ∀ z ∈ o, z.tk.attrs.length ≤ 6) : Bound w l v := by
  obtain ⟨A, c, e, hc, _, _, hr⟩ := ho.form
  exact ⟨A, c, o, e, hc, hr, hl, Nat.le_trans hb (bulk_take l k), ha⟩

set_option maxRecDepth 100000 in
set_option maxHeartbeats 8000000 in
theorem bound_any (A : Option Addr) (c : Nat) (l : List Tw) (w : World) (hc : l.length ≤ c) (hcm : c ≤ maxLen) (hr : Rr w w.heap.size A l) :
    Calls Tryd.prog 4 #[.slice A l.length c] w fun e w' => ∃ V, e = .returned V ∧ Bound w' l V ∧ Below w.heap.size w w' := by
  have hll : l.length ≤ 9223372036854775807 := by unfold maxLen at hcm; omega
  have hmade := Ow.made w
  have hb0 := below_new w (.cells #[] 37)
  have HR := Lib.hid hr; have HM := Lib.hid hmade; have HB0 := Lib.hid hb0; clear hr hmade hb0
  go_enter Tryd.func4, Tryd.ntmps4
  go_wp2_with fail
  go_loopw [3, 4, 5] (fun v3 v4 _ wr => ∃ k o, v4 = .int .i64 ((k : Nat) : Int) ∧ k ≤ l.length ∧ k ≤ 60 ∧ Ow w.heap.size wr v3 o ∧ o.length ≤ k ∧ bulk (tks o) ≤ bulk (tks (l.take k)) ∧ (∀ z ∈ o, z.tk.attrs.length ≤ 6) ∧ Below w.heap.size w wr) (fun _ v4 _ _ => 60 - (intOf v4).toNat)
  case atStart => exact ⟨0, [], rfl, Nat.zero_le _, Nat.zero_le _, HM.out, Nat.le_refl _, Nat.le_refl _, (fun z hz => by cases hz), HB0.out⟩
  case round =>
    clear HM HB0
    obtain ⟨k, o, rfl, hkl, hk30, ho, hol, hbk, ha6, hb⟩ := hrel
    have HA6 := Lib.hid ha6; clear ha6
    by_cases hp : k < l.length
    · have hlt : decide ((k : Int) < l.length) = true := decide_eq_true (by omega)
      by_cases hp3 : k < 60
      · have hlt3 : decide ((k : Int) < 60) = true := decide_eq_true (by omega)
        obtain ⟨bb, off, x, hA, hbN, hdrop, hrange, hatt, _⟩ := (HR.out.below hb).at_ k hp
        obtain ⟨f0, f1, f2, f3, f4⟩ := range5 hrange
        obtain ⟨m, hm1, hm2, hm3, -⟩ := min_any x.tk.attrs.length 6 6 rfl w
        have hmin : ∀ W ts t, (Builtin.min_ ts t #[.int .i64 x.tk.attrs.length, .int .i64 6]).run Tryd.prog W = .ok (.int .i64 m) W := fun W ts t => by
          obtain ⟨m', _, _, hm', h⟩ := min_any x.tk.attrs.length 6 6 rfl W
          obtain rfl : m' = m := by omega
          exact h ts t
        subst hA
        have hac := hatt.1
        have hat0 := hatt.cutA m
        have hbl0 := bulk_cutA x m
        obtain ⟨ys, hys⟩ : ∃ ys, x.tk.attrs.take m = ys := ⟨_, rfl⟩
        obtain rfl : m = ys.length := by rw [← hys, List.length_take]; omega
        have hat1 : Att wr w.heap.size ⟨⟨x.tk.kind, x.tk.name, x.tk.data, ys, x.tk.self⟩, x.A, x.c⟩ := by rw [← hys]; exact hat0
        have hbl1 : bulkT (⟨x.tk.kind, x.tk.name, x.tk.data, ys, x.tk.self⟩ : Tk) ≤ bulkT x.tk := by rw [← hys]; exact hbl0
        have i1 : (0 : Int) ≤ (ys.length : Int) := by omega
        have i2 : (ys.length : Int) ≤ (x.c : Int) := by omega
        have hx5 : Tb (wr.alloc (.cells #[.int .i64 x.tk.kind, .string x.tk.name, .string x.tk.data, .slice x.A ys.length x.c, .bool x.tk.self] 37)) wr.heap.size ⟨⟨x.tk.kind, x.tk.name, x.tk.data, ys, x.tk.self⟩, x.A, x.c⟩ := Tb.new wr ⟨⟨x.tk.kind, x.tk.name, x.tk.data, ys, x.tk.self⟩, x.A, x.c⟩
        have hb5 := below_new wr (.cells #[.int .i64 x.tk.kind, .string x.tk.name, .string x.tk.data, .slice x.A ys.length x.c, .bool x.tk.self] 37)
        have ho5 := ho.below hb5
        have hat5 : Att (wr.alloc (.cells #[.int .i64 x.tk.kind, .string x.tk.name, .string x.tk.data, .slice x.A ys.length x.c, .bool x.tk.self] 37)) w.heap.size ⟨⟨x.tk.kind, x.tk.name, x.tk.data, ys, x.tk.self⟩, x.A, x.c⟩ := hat1.below hb5 hb.size
        have hbw5 := bt hb hb5
        have hol2 : o.length ≤ 4000000000 := by omega
        have htk : bulk (tks (l.take (k + 1))) = bulk (tks (l.take k)) + bulkT x.tk := by
          have hgk : l[k]? = some x := Ro.getElem_of_drop hdrop
          have : l.take (k + 1) = l.take k ++ [x] := by
            rw [List.take_succ_eq_append_getElem hp]
            congr 2
            rw [List.getElem?_eq_getElem hp] at hgk
            exact Option.some.inj hgk
          rw [this, tks_append]
          unfold bulk
          rw [List.map_append, List.sum_append]
          simp [tks]
        have HO := Lib.hid ho5; have HBK := Lib.hid hbk; have HB := Lib.hid hbw5; have HX5 := Lib.hid hx5; have HAT5 := Lib.hid hat5; have HBL := Lib.hid hbl1; have HTK := Lib.hid htk
        clear ho hbk hb hatt hdrop hrange hm3 hat0 hbl0 hys hat1 hbl1 hx5 hb5 ho5 hat5 hbw5 htk
        obtain ⟨q0, q1, q2, q3, q4⟩ := HX5.out.c
        go_upto_region 7 with fail
        generalize wr.alloc (.cells #[.int .i64 x.tk.kind, .string x.tk.name, .string x.tk.data, .slice x.A ys.length x.c, .bool x.tk.self] 37) = W5 at *
        have hZ5 : w.heap.size ≤ W5.heap.size := HB.out.size
        go_wp2_with (at_builtin; go_loud (refine app_tok2 W5 rfl (.tmp 29) (.tmp 31) rfl w.heap.size u3 o ⟨⟨x.tk.kind, x.tk.name, x.tk.data, ys, x.tk.self⟩, x.A, x.c⟩ rfl HO.out (HAT5.out.more hZ5) (HAT5.out.apart) W5.heap.size rfl rfl hol2 hZ5 ?_); intro v6 w6 how hk hf hg; obtain ⟨A6, c6, rfl⟩ := form1 how; have HK6 := Lib.hid hk; have HO6 := Lib.hid how; clear hk hf hg how q0 q1 q2 q3 q4)
        go_roundw
        case rel =>
          refine ⟨k + 1, _, by go_num, by omega, by omega, HO6.out, by rw [List.length_append]; simp only [List.length_cons, List.length_nil]; omega, ?_, (fun z hz => (List.mem_append.1 hz).elim (HA6.out z) (fun e => (List.mem_singleton.1 e).symm ▸ hm2)), HK6.out _ HB.out⟩
          rw [HTK.out, tks_append, bulk_append, show tks [(⟨⟨x.tk.kind, x.tk.name, x.tk.data, ys, x.tk.self⟩, x.A, x.c⟩ : Tw)] = [⟨x.tk.kind, x.tk.name, x.tk.data, ys, x.tk.self⟩] from rfl, bulk_one]
          exact Nat.add_le_add HBK.out HBL.out
        case measure => simp [intOf]; omega
      · have hlt3 : decide ((k : Int) < 60) = false := decide_eq_false (by omega)
        have hfin : Bound wr l u3 := bound_fin ho (by omega) hbk HA6.out
        have HF := Lib.hid hfin; have HB := Lib.hid hb; clear ho hb hbk hfin
        go_wp2
        go_ret
        exact ⟨_, rfl, HF.out, HB.out⟩
    · have hlt : decide ((k : Int) < l.length) = false := decide_eq_false (by omega)
      have hfin : Bound wr l u3 := bound_fin ho (by omega) hbk HA6.out
      have HF := Lib.hid hfin; have HB := Lib.hid hb; clear ho hb hbk hfin
      go_wp2
      go_ret
      exact ⟨_, rfl, HF.out, HB.out⟩

end Go.Proofs.YtdplbcchkjpcdaaDoor.To

namespace Go.Proofs.YtdplbcchkjpcdaaDoor.Bu
set_option maxRecDepth 100000
set_option linter.unusedVariables false
set_option linter.unusedSimpArgs false
open Go.RowKit Ba Fm Fo Nm Bm
open Ro (At Ro Cw ros Fr Ow Rv rowO)
open Tm (Tk bulk)
open To (Tw tks)
open Re (Tab)
/-- What Tree tells, as rows and a number. -/
def rowsO (r : Option (List Ro)) : List Ro := r.getD []
def numO (r : Option (List Ro)) : Int := match r with | some _ => 0 | none => 2
theorem rows_small {t : List Tk} : (rowsO (treeB ⟨[], []⟩ t)).length ≤ 4096 ∧ Ro.Held (rowsO (treeB ⟨[], []⟩ t)) := by
  cases h : treeB ⟨[], []⟩ t with
  | none => exact ⟨Nat.zero_le _, fun x hx => by cases hx⟩
  | some o => exact ⟨(tree_all h).2.2.2.1, tree_held h⟩
theorem refTree1 (A : Option Addr) (c : Nat) (l : List Tw) (w : World) (hr : To.Rr w w.heap.size A l) (hc : l.length ≤ c) (hl : l.length ≤ 200000) (hd : dsum (tks l) ≤ 1000000000) (hat : ∀ x ∈ l, x.tk.attrs.length ≤ 1000000) (O : List Ro) (F : Int) (hO : rowsO (treeB ⟨[], []⟩ (tks l)) = O) (hF : numO (treeB ⟨[], []⟩ (tks l)) = F) :
    Calls Tryd.prog 5 #[.slice A l.length c] w fun e w' => ∃ v y, e = .returned (.tuple #[v, .int .i64 F]) ∧ Rv w' v y ∧ ros y = O ∧ Below w.heap.size w w' := by
  have hs := rows_small (t := tks l)
  refine (refTree_any A c l w hr hc hl hd hat).mono ?_
  rintro e w1 ⟨h, hb⟩
  cases ht : treeB ⟨[], []⟩ (tks l) with
  | none =>
    rw [ht] at h hO hF
    subst hO hF
    exact ⟨_, [], h, (Ow.nil 0 w1).rv (fun x hx => by cases hx), rfl, hb⟩
  | some o =>
    rw [ht] at h hO hF hs
    obtain ⟨v, y, rfl, ho, hr⟩ := h
    subst hO hF
    exact ⟨v, y, rfl, ho.rv (by rw [hr]; exact hs.2), hr, hb⟩
theorem Tree1 (A : Option Addr) (c : Nat) (l : List Tw) (w : World) (hr : To.Rr w w.heap.size A l) (hc : l.length ≤ c) (hl : l.length ≤ 200000) (hd : dsum (tks l) ≤ 1000000000) (hat : ∀ x ∈ l, x.tk.attrs.length ≤ 1000000) (O : List Ro) (F : Int) (hO : rowsO (treeB ⟨[], []⟩ (tks l)) = O) (hF : numO (treeB ⟨[], []⟩ (tks l)) = F) :
    Calls Tryd.prog 6 #[.slice A l.length c] w fun e w' => ∃ A' c' y, e = .returned (.tuple #[.slice A' y.length c', .int .i64 F]) ∧ Ow w.heap.size w' (.slice A' y.length c') y ∧ (∀ z ∈ y, Fr w.heap.size w' z) ∧ ros y = O ∧ Below w.heap.size w w' := by
  refine (Tree_any A c l w hr hc hl hd hat).mono ?_
  rintro e w1 ⟨h, hb⟩
  cases ht : treeB ⟨[], []⟩ (tks l) with
  | none =>
    rw [ht] at h hO hF
    subst hO hF
    exact ⟨none, 0, [], h, Ow.nil _ w1, (fun z hz => by cases hz), rfl, hb⟩
  | some o =>
    rw [ht] at h hO hF
    obtain ⟨v, y, rfl, ho, hf, hr, _⟩ := h
    subst hO hF
    obtain ⟨A', c', rfl, _⟩ := ho.form
    exact ⟨A', c', y, rfl, ho, hf, hr, hb⟩

/-- Rows of one's own, whose data and attributes' names can be written over. -/
def Soft (N : Nat) (A : Option Addr) (y : List Cw) (w : World) : Prop :=
  ∀ j (h : j < y.length), ∃ g, A = some ⟨g, 0, none⟩ ∧ N ≤ g ∧ w.cell? ⟨g, j * 5 + 4, none⟩ = some (.slice y[j].A y[j].ro.attrs.length y[j].c) ∧ (∃ u, w.cell? ⟨g, j * 5 + 3, none⟩ = some u) ∧ w.frozen? ⟨g, j * 5 + 3, none⟩ = false ∧
    ∀ m, m < y[j].ro.attrs.length → ∃ g', y[j].A = some ⟨g', 0, none⟩ ∧ N ≤ g' ∧ g' ≠ g ∧ (∃ u, w.cell? ⟨g', m * 2, none⟩ = some u) ∧ w.frozen? ⟨g', m * 2, none⟩ = false
theorem cell_some {w : World} {p q : Addr} {v : Value} (h : ∃ u, w.cell? q = some u) : ∃ u, (w.setCell p v).cell? q = some u := by
  obtain ⟨u, hu⟩ := h
  by_cases e : p = q
  · subst e; exact ⟨v, World.cell?_setCell_same w _ _ hu⟩
  · exact ⟨u, (World.cell?_setCell_other w _ _ _ e).trans hu⟩
theorem Soft.set {N : Nat} {A : Option Addr} {y : List Cw} {w : World} (h : Soft N A y w) (p : Addr) (v : Value) (hp : ∀ j g, j < y.length → A = some ⟨g, 0, none⟩ → p ≠ ⟨g, j * 5 + 4, none⟩) : Soft N A y (w.setCell p v) := fun j hj => by
  obtain ⟨g, e, hN, h4, h3, hf, ha⟩ := h j hj
  refine ⟨g, e, hN, (World.cell?_setCell_other w _ _ _ (hp j g hj e)).trans h4, cell_some h3, by rw [World.frozen?_setCell]; exact hf, fun m hm => ?_⟩
  obtain ⟨g', e', hN', hne, hc, hf'⟩ := ha m hm
  exact ⟨g', e', hN', hne, cell_some hc, by rw [World.frozen?_setCell]; exact hf'⟩
theorem own_cells {N n s : Nat} {e : TypeId} {w : World} {A : Option Addr} {c : Nat} {xs : List Value} (h : w.ownsRow N e s (.slice A n c) n xs) (k : Nat) (hk : k < n * s) (hn : 0 < n) :
    ∃ g, A = some ⟨g, 0, none⟩ ∧ N ≤ g ∧ (∃ u, w.cell? ⟨g, k, none⟩ = some u) ∧ w.frozen? ⟨g, k, none⟩ = false := by
  rcases h.2 with ⟨_, h0⟩ | ⟨g, cap, _, hv, _⟩
  · omega
  · injection hv with hv1 hv2 hv3
    subst hv1
    have hl : xs.length = n * s := h.1
    refine ⟨g, rfl, (World.ownsRow.lt h g rfl).1, ⟨xs[k]'(by omega), ?_⟩, World.ownsRow.frozenAt h _⟩
    rw [World.ownsRow.cellAt h k hk, List.getElem?_eq_getElem (by omega)]
theorem soft_of {N : Nat} {w : World} {A : Option Addr} {c : Nat} {y : List Cw} (h : Ow N w (.slice A y.length c) y) (hf : ∀ z ∈ y, Fr N w z) : Soft N A y w := fun j hj => by
  obtain ⟨g, e, hN, hc, hz⟩ := own_cells h.1 (j * 5 + 3) (by omega) (by omega)
  subst e
  obtain ⟨A', c', hv, _, _, _, hr⟩ := h.form
  injection hv with hv1 hv2 hv3
  subst hv1
  obtain ⟨b, off, e2, hlt, hra⟩ := hr.1 (by omega)
  injection e2 with e2
  injection e2 with e3 e4
  subst e3 e4
  have h4 := hra j hj 4 (.slice y[j].A y[j].ro.attrs.length y[j].c) rfl
  rw [show 0 + j * 5 + 4 = j * 5 + 4 by omega] at h4
  refine ⟨g, rfl, hN, h4, hc, hz, fun m hm => ?_⟩
  have hfj := (hf y[j] (List.getElem_mem hj)).1
  obtain ⟨g', e', hN', hc', hz'⟩ := own_cells hfj (m * 2) (by omega) (by omega)
  refine ⟨g', e', hN', fun e5 => ?_, hc', hz'⟩
  subst e5
  have hap := own_apart hfj h.1 (by decide)
  rw [e'] at hap
  rcases hap with hap | hap
  · cases hap
  · exact hap rfl

set_option maxRecDepth 100000 in
set_option maxHeartbeats 8000000 in
theorem law_trees (A : Option Addr) (c : Nat) (l : List Tw) (w : World) (hlc : l.length ≤ c) (hcm : c ≤ maxLen) (hr : To.Rr w w.heap.size A l) (hbk : bulk (tks l) ≤ 1048576) (hT : Tab w) :
    Calls Tryd.prog 3 #[.slice A l.length c] w fun e w' => e = .returned (.bool true) ∧ Below w.heap.size w w' := by
  have HT := Lib.hid hT; have HR := Lib.hid hr; have HBK := Lib.hid hbk; clear hT hr hbk
  go_enter Tryd.func3, Tryd.ntmps3
  go_wp2_with fail
  refine (To.bound_any A c l w hlc hcm HR.out).mono ?_
  rintro e w1 ⟨V, rfl, ⟨A1, c1, l1, rfl, hc1, hr1, hl1, hb1, ha1⟩, b1⟩
  obtain ⟨O, hO⟩ : ∃ O, rowsO (treeB ⟨[], []⟩ (tks l1)) = O := ⟨_, rfl⟩
  obtain ⟨F, hF⟩ : ∃ F, numO (treeB ⟨[], []⟩ (tks l1)) = F := ⟨_, rfl⟩
  have hd1 : dsum (tks l1) ≤ 1000000000 := by have := dsum_bulk (tks l1); have := HBK.out; omega
  have hal : ∀ x ∈ l1, x.tk.attrs.length ≤ 1000000 := fun x hx => by have := ha1 x hx; omega
  have hol : O.length ≤ 4096 ∧ Ro.Held O := by rw [← hO]; exact rows_small
  have HR1 := Lib.hid hr1; have HO := Lib.hid hO; have HF := Lib.hid hF; have HAL := Lib.hid hal; have B1 := Lib.hid b1; have HOL := Lib.hid hol
  clear hr1 hO hF ha1 hal hb1 b1 hol
  go_wp2_with fail
  refine (refTree1 A1 c1 l1 w1 HR1.out hc1 (by omega) hd1 HAL.out O F HO.out HF.out).mono ?_
  rintro e w2 ⟨v3, y3, rfl, hv3, hy3, b2⟩
  have hyl : y3.length ≤ 4096 := by rw [← Ro.len_ros, hy3]; exact HOL.out.1
  have HV3 := Lib.hid hv3; have HY3 := Lib.hid hy3; have HR2 := Lib.hid ((HR1.out.below b2).more b2.size); have B2 := Lib.hid (bt B1.out b2)
  clear hv3 hy3 b2
  go_wp2
  go_loopw [5] (fun i wr => ∃ k : Nat, i = .int .i64 k ∧ k ≤ 2 ∧ Below w2.heap.size w2 wr) (fun i _ => 2 - (intOf i).toNat)
  case atStart => exact ⟨0, rfl, by omega, Below.refl _ _⟩
  case round =>
    rename World => wO
    obtain ⟨k, rfl, hk, hbel⟩ := hrel
    have HBEL := Lib.hid hbel
    clear hbel
    by_cases hp : k < 2
    · have hlt : decide ((k : Int) < 2) = true := decide_eq_true (by omega)
      have HR3 := Lib.hid ((HR2.out.below HBEL.out).more HBEL.out.size)
      go_wp2_with fail
      refine (Tree1 A1 c1 l1 wO HR3.out hc1 (by omega) hd1 HAL.out O F HO.out HF.out).mono ?_
      rintro e w4 ⟨A4, c4, y4, rfl, ho4, hf4, hy4, b4⟩
      have hyl4 : y4.length ≤ 4096 := by rw [← Ro.len_ros, hy4]; exact HOL.out.1
      have HO4 := Lib.hid ho4; have HF4 := Lib.hid hf4; have HY4 := Lib.hid hy4; have B4 := Lib.hid b4
      have HV4 := Lib.hid (show Rv w4 (.slice A4 y4.length c4) y4 from ho4.rv (by rw [hy4]; exact HOL.out.2))
      have HV34 := Lib.hid (HV3.out.below (HBEL.out.trans (b4.mono HBEL.out.size)))
      clear ho4 hf4 hy4 b4
      have hne : (F != F) = false := by simp
      go_wp2_with fail
      refine (Ro.refSame1 _ v3 y4 y3 w4 true HV4.out HV34.out (by omega) (by omega) (decide_eq_true (HY4.out.trans HY3.out.symm))).mono ?_
      rintro e w5 ⟨rfl, b5⟩
      have HSO := Lib.hid (soft_of (HO4.out.below b5) (fun z hz => (HF4.out z hz).below b5))
      have HB5 := Lib.hid (bt B4.out b5)
      have HCP := Lib.hid (show ∀ z ∈ y4, z.ro.attrs.length ≤ 9223372036854775807 from fun z hz => by have h1 := (HO4.out.2 z hz).1.1; have h2 := (HO4.out.2 z hz).1.2.2.1; unfold maxLen at h2; omega)
      clear b5 HO4 HF4 HV4 HV34
      go_wp2
      go_loopw [8] (fun i wq => ∃ j : Nat, i = .int .i64 j ∧ j ≤ y4.length ∧ Soft wO.heap.size A4 y4 wq ∧ Below wO.heap.size wO wq) (fun i _ => y4.length - (intOf i).toNat)
      case atStart => exact ⟨0, rfl, Nat.zero_le _, HSO.out, HB5.out⟩
      case round =>
        clear HSO HB5
        obtain ⟨j, rfl, hj, hso, hbq⟩ := hrel
        have HSO := Lib.hid hso; have HBQ := Lib.hid hbq
        clear hso hbq
        by_cases hpj : j < y4.length
        · have hltj : decide ((j : Int) < y4.length) = true := decide_eq_true (by omega)
          obtain ⟨g, rfl, hN, h4, ⟨u3, h3⟩, hf3, -⟩ := HSO.out j hpj
          have HSO2 := Lib.hid (HSO.out.set ⟨g, j * 5 + 3, none⟩ (.string ⟨#[120]⟩) (fun i g' hi e e2 => by injection e2 with _ e3; omega))
          have HBQ2 := Lib.hid (HBQ.out.setCell (p := ⟨g, j * 5 + 3, none⟩) hN (.string ⟨#[120]⟩))
          clear HSO HBQ h4
          go_wp2
          go_loopw [9] (fun i wq => ∃ m : Nat, i = .int .i64 m ∧ m ≤ y4[j].ro.attrs.length ∧ Soft wO.heap.size (some ⟨g, 0, none⟩) y4 wq ∧ Below wO.heap.size wO wq) (fun i _ => y4[j].ro.attrs.length - (intOf i).toNat)
          case atStart => exact ⟨0, rfl, Nat.zero_le _, HSO2.out, HBQ2.out⟩
          case round =>
            clear HSO2 HBQ2 h3 hf3
            obtain ⟨m, rfl, hm, hso, hbq⟩ := hrel
            have HSO := Lib.hid hso; have HBQ := Lib.hid hbq
            clear hso hbq
            obtain ⟨g2, e2, _, h4, _, _, hat⟩ := HSO.out j hpj
            injection e2 with e2
            injection e2 with e2
            subst e2
            obtain ⟨nA, hnA⟩ : ∃ nA, y4[j].ro.attrs.length = nA := ⟨_, rfl⟩
            obtain ⟨aA, haA⟩ : ∃ aA, y4[j].A = aA := ⟨_, rfl⟩
            have hcp := HCP.out y4[j] (List.getElem_mem hpj)
            rw [hnA] at hm h4 hat hcp ⊢
            rw [haA] at h4 hat
            by_cases hpm : m < nA
            · have hltm : decide ((m : Int) < nA) = true := decide_eq_true (by omega)
              obtain ⟨g3, rfl, hN3, hne3, ⟨u5, h5⟩, hf5⟩ := hat m hpm
              have HSO2 := Lib.hid (HSO.out.set ⟨g3, m * 2, none⟩ (.string ⟨#[]⟩) (fun i g' hi e e2 => by
                injection e with e; injection e with e; injection e2 with e3; exact hne3 (e3.trans e.symm)))
              have HBQ2 := Lib.hid (HBQ.out.setCell (p := ⟨g3, m * 2, none⟩) hN3 (.string ⟨#[]⟩))
              clear HSO HBQ hat
              go_wp2
              go_roundw
              case rel => exact ⟨m + 1, by go_num, by omega, HSO2.out, HBQ2.out⟩
              case measure => simp [intOf, hnA]; omega
            · have hltm : decide ((m : Int) < nA) = false := decide_eq_false (by omega)
              clear hat
              go_wp2
              go_roundw
              case rel => exact ⟨j + 1, by go_num, by omega, HSO.out, HBQ.out⟩
              case measure => simp [intOf]; omega
        · have hltj : decide ((j : Int) < y4.length) = false := decide_eq_false (by omega)
          go_wp2
          go_roundw
          case rel => exact ⟨k + 1, by go_num, by omega, HBEL.out.trans (HBQ.out.mono HBEL.out.size)⟩
          case measure => simp [intOf]; omega
    · have hlt : decide ((k : Int) < 2) = false := decide_eq_false (by omega)
      go_wp2_with fail
      refine (fixed_any wO (HT.out.below (bt B2.out HBEL.out))).mono ?_
      rintro e w9 ⟨rfl, b9⟩
      go_wp2
      go_ret
      exact ⟨rfl, bt (bt B2.out HBEL.out) b9⟩

end Go.Proofs.YtdplbcchkjpcdaaDoor.Bu

namespace Go.Proofs.YtdplbcchkjpcdaaDoor.Ro
set_option maxRecDepth 100000
set_option linter.unusedVariables false
set_option linter.unusedSimpArgs false
open Go.RowKit Ba Go.ChangeShapes Go.WideShapes Go.Deep
section
variable {H : Type} {enc : TypeId × Value → H} {P : Program} {w : World} {base : Nat} {spare : Nat → Bool} {held : Bool}
/-- A slice of structs of one-cell fields: its parts. -/
theorem open_rows_of {t e : TypeId} {fs : Array Field} {fuel : Nat} {cs : List Value} {x : DataW H × List MemPlace} (ht : P.underlying t = some (.slice e)) (he : P.underlying e = some (.struct fs))
    (hone : oneCellFields P fs = true) (hC : P.cellsOf e = fs.size) (h : DataW.trod enc P w base spare held fuel t cs = some x) :
    cs = [.slice none 0 0] ∨
    ∃ (a : Addr) (len cap m : Nat) (Pl : Nat → List MemPlace), cs = [.slice (some a) len cap] ∧ len ≤ cap ∧ cap ≤ maxLen ∧ m = (if spare a.block then cap else len) ∧
      x.2 = MemPlace.row a (m * fs.size) ++ (List.range m).flatMap Pl ∧
      ∀ i, i < m → ∀ (j : Nat) (f : Field), fs[j]? = some f → ∃ (v : Value) (y : DataW H × List MemPlace) (n : Nat), w.cell? (a.add (i * fs.size + j)) = some v ∧ (∀ z ∈ y.2, z ∈ Pl i) ∧ DataW.trod enc P w base spare held n f.type [v] = some y := by
  rcases open_slice ht h with ⟨h0, _⟩ | ⟨a, len, cap, m, n, D, Pl, hcs, hb, hl, hm, hmm, hx, hi⟩
  · exact .inl h0
  · refine .inr ⟨a, len, cap, m, Pl, hcs, hl, hm, hmm, by rw [hx, hC], fun i him j f hj => ?_⟩
    obtain ⟨cs', hc, ht'⟩ := hi i him
    rw [hC] at hc
    obtain ⟨ys, n', hn', hy, hlen, hyl, hf⟩ := DataW.trod_struct he ht'
    obtain ⟨_, hcl, hat⟩ := World.cells?_some hc
    simp only [Prod.mk.injEq] at hy
    obtain ⟨ho, hk⟩ := hone_of hone j f hj
    have hjl : j < fs.size := (Array.getElem?_eq_some_iff.1 hj).1
    have hcell := hat j hjl
    have hv : cs'[j]? = some (cs'[j]'(by omega)) := List.getElem?_eq_getElem (by omega)
    have h1 := hf j f hj
    rw [ho, hk] at h1
    have hone' : (cs'.drop j).take 1 = [cs'[j]'(by omega)] := by
      rw [List.drop_eq_getElem_cons (by omega)]
      rfl
    rw [hone'] at h1
    have hys : ys[j]? = some (ys[j]'(by omega)) := List.getElem?_eq_getElem (by omega)
    refine ⟨_, _, n', ?_, fun z hz => ?_, h1.trans hys⟩
    · rw [← Go.Deep.add_add, hcell, hv]
    · rw [hy.2]
      exact List.mem_flatMap.2 ⟨_, List.getElem_mem _, hz⟩
end

theorem list_of {α : Type} (Q : Nat → α → Prop) : ∀ n : Nat, (∀ i < n, ∃ x, Q i x) → ∃ l : List α, l.length = n ∧ ∀ i (h : i < l.length), Q i l[i]
  | 0, _ => ⟨[], rfl, fun i h => absurd h (by simp)⟩
  | n + 1, h => by
    obtain ⟨l, hl, hq⟩ := list_of Q n fun i hi => h i (by omega)
    obtain ⟨x, hx⟩ := h n (by omega)
    refine ⟨l ++ [x], by rw [List.length_append, hl]; rfl, fun i hi => ?_⟩
    rw [List.length_append, List.length_singleton] at hi
    by_cases e : i < l.length
    · rw [List.getElem_append_left e]
      exact hq i e
    · have : i = l.length := by omega
      subst this
      rw [List.getElem_append_right (Nat.le_refl _)]
      simp only [Nat.sub_self, List.getElem_cons_zero]
      rw [hl]; exact hx

section
variable {H : Type} {enc : TypeId × Value → H} {w : World} {base : Nat}
theorem open_attrs {fuel : Nat} {v : Value} {x : DataW H × List MemPlace} (h : DataW.trod enc Tryd.prog w base (fun _ => true) true fuel 29 [v] = some x) (N : Nat) (hlt : ∀ z ∈ x.2, z.block < N) :
    ∃ A c l, v = .slice A l.length c ∧ l.length ≤ c ∧ (A = none → c = 0) ∧ c ≤ maxLen ∧ Ra w N A l ∧ Sh l := by
  rcases open_rows_of Tryd.underlying29 Tryd.underlying33 (by kernel_rfl) (by kernel_rfl) h with hcs | ⟨a, len, cap, m, Pl, hcs, hl, hm, hmm, hx, hi⟩
  · obtain rfl : v = .slice none 0 0 := by simpa using hcs
    exact ⟨none, 0, [], rfl, Nat.le_refl _, fun _ => rfl, Nat.zero_le _, fun h => absurd h (by simp), fun _ h => by simp at h⟩
  · obtain rfl : v = .slice (some a) len cap := by simpa using hcs
    simp only [if_true] at hmm
    subst hmm
    obtain ⟨b, off, spot⟩ := a
    have hrow : ∀ i < len, ∃ t : At, w.cell? ((⟨b, off, spot⟩ : Addr).add (i * 2)) = some (.string t.name) ∧ w.cell? ((⟨b, off, spot⟩ : Addr).add (i * 2 + 1)) = some (.string t.value) ∧ t.name.size ≤ maxLen := fun i hil => by
      obtain ⟨v0, y0, n0, hc0, _, ht0⟩ := hi i (by omega) 0 _ rfl
      obtain ⟨v1, y1, n1, hc1, _, ht1⟩ := hi i (by omega) 1 _ rfl
      obtain ⟨s0, e0, _, hs0⟩ := DataW.trod_string Tryd.underlying9 ht0
      obtain ⟨s1, e1, _, _⟩ := DataW.trod_string Tryd.underlying9 ht1
      obtain rfl : v0 = .string s0 := by simpa using e0
      obtain rfl : v1 = .string s1 := by simpa using e1
      exact ⟨⟨s0, s1⟩, hc0, hc1, hs0⟩
    obtain ⟨l, hll, hq⟩ := list_of _ len hrow
    refine ⟨some ⟨b, off, spot⟩, m, l, by rw [hll], by omega, (fun e => by cases e), hm, fun h0 => ?_, fun t ht => ?_⟩
    · have hspot : spot = none := by
        have := World.cell?_spot (hq 0 h0).1
        simpa [Addr.add] using this
      subst hspot
      refine ⟨b, off, rfl, hlt (.cell b off) (by rw [hx]; exact List.mem_append_left _ (MemPlace.mem_row.2 ⟨0, by show 0 < m * 2; omega, by simp⟩)), fun j hj => ?_⟩
      obtain ⟨h1, h2, _⟩ := hq j hj
      rw [add_plain] at h1 h2
      intro k u hu
      match k, hu with
      | 0, hu => exact h1.trans hu
      | 1, hu => exact (show w.cell? ⟨b, off + j * 2 + 1, none⟩ = _ from h2).trans hu
      | k + 2, hu => exact absurd hu (by simp [acells])
    · obtain ⟨j, hj, rfl⟩ := List.getElem_of_mem ht
      exact (hq j hj).2.2
end

section
variable {H : Type} {enc : TypeId × Value → H} {P : Program} {w : World} {base : Nat} {spare : Nat → Bool} {held : Bool}
theorem open_rows_parts {t e : TypeId} {fs : Array Field} {fuel : Nat} {cs : List Value} {x : DataW H × List MemPlace} (ht : P.underlying t = some (.slice e)) (he : P.underlying e = some (.struct fs))
    (hone : oneCellFields P fs = true) (hC : P.cellsOf e = fs.size) (h : DataW.trod enc P w base spare held fuel t cs = some x) :
    cs = [.slice none 0 0] ∨
    ∃ (a : Addr) (len cap : Nat) (D : Nat → DataW H) (sp : List (DataW H)), cs = [.slice (some a) len cap] ∧ x.1 = .slice ((List.range len).map D) sp ∧
      ∀ i, i < len → ∀ (j : Nat) (f : Field), fs[j]? = some f → ∃ (v : Value) (y : DataW H × List MemPlace) (n : Nat) (parts : List (DataW H)), w.cell? (a.add (i * fs.size + j)) = some v ∧ D i = .agg parts ∧ parts[j]? = some y.1 ∧ DataW.trod enc P w base spare held n f.type [v] = some y := by
  rcases open_slice ht h with ⟨h0, _⟩ | ⟨a, len, cap, m, n, D, Pl, hcs, hb, hl, hm, hmm, hx, hi⟩
  · exact .inl h0
  · refine .inr ⟨a, len, cap, D, _, hcs, by rw [hx], fun i hil j f hj => ?_⟩
    have him : i < m := by rw [hmm]; split <;> omega
    obtain ⟨cs', hc, ht'⟩ := hi i him
    rw [hC] at hc
    obtain ⟨ys, n', hn', hy, hlen, hyl, hf⟩ := DataW.trod_struct he ht'
    obtain ⟨_, hcl, hat⟩ := World.cells?_some hc
    simp only [Prod.mk.injEq] at hy
    obtain ⟨ho, hk⟩ := hone_of hone j f hj
    have hjl : j < fs.size := (Array.getElem?_eq_some_iff.1 hj).1
    have hcell := hat j hjl
    have hv : cs'[j]? = some (cs'[j]'(by omega)) := List.getElem?_eq_getElem (by omega)
    have h1 := hf j f hj
    rw [ho, hk] at h1
    have hone' : (cs'.drop j).take 1 = [cs'[j]'(by omega)] := by
      rw [List.drop_eq_getElem_cons (by omega)]
      rfl
    rw [hone'] at h1
    have hys : ys[j]? = some (ys[j]'(by omega)) := List.getElem?_eq_getElem (by omega)
    refine ⟨_, _, n', _, ?_, hy.1, by rw [List.getElem?_map, hys]; rfl, h1.trans hys⟩
    rw [← Go.Deep.add_add, hcell, hv]
end

section
variable {H : Type} {enc : TypeId × Value → H} {P : Program} {w : World} {base : Nat} {spare : Nat → Bool} {held : Bool}
end

theorem mem_bulk {H : Type} {d : DataW H} : ∀ {ds : List (DataW H)}, d ∈ ds → Rows.uptoBulk d ≤ Rows.uptoBulkAll ds
  | [], h => by cases h
  | e :: r, h => by
    rw [Rows.uptoBulkAll]
    rcases List.mem_cons.1 h with rfl | h
    · omega
    · have := mem_bulk h
      omega
theorem bulk2 {H : Type} {a b : DataW H} : ∀ {l : List (DataW H)}, l[0]? = some a → l[1]? = some b → Rows.uptoBulk a + Rows.uptoBulk b ≤ Rows.uptoBulkAll l
  | [], h, _ => by cases h
  | [_], _, h => by cases h
  | x :: y :: r, h1, h2 => by
    obtain rfl : x = a := by simpa using h1
    obtain rfl : y = b := by simpa using h2
    rw [Rows.uptoBulkAll, Rows.uptoBulkAll]
    omega
theorem bulk123 {H : Type} {a b c : DataW H} : ∀ {l : List (DataW H)}, l[1]? = some a → l[2]? = some b → l[3]? = some c → Rows.uptoBulk a + (Rows.uptoBulk b + Rows.uptoBulk c) ≤ Rows.uptoBulkAll l
  | [], h, _, _ => by cases h
  | [_], h, _, _ => by cases h
  | [_, _], _, h, _ => by cases h
  | [_, _, _], _, _, h => by cases h
  | x :: y :: z :: u :: r, h1, h2, h3 => by
    obtain rfl : y = a := by simpa using h1
    obtain rfl : z = b := by simpa using h2
    obtain rfl : u = c := by simpa using h3
    rw [Rows.uptoBulkAll, Rows.uptoBulkAll, Rows.uptoBulkAll, Rows.uptoBulkAll]
    omega
/-- A sum over the parts of a slice. -/
theorem sum_bulk {α H : Type} (f : α → Nat) (D : Nat → DataW H) : ∀ (l : List α) (o : Nat), (∀ i (h : i < l.length), f l[i] ≤ Rows.uptoBulk (D (o + i))) → (l.map f).sum ≤ Rows.uptoBulkAll ((List.range' o l.length).map D)
  | [], o, _ => by simp
  | x :: r, o, h => by
    have h0 := h 0 (by simp)
    have ih := sum_bulk f D r (o + 1) fun i hi => by
      have := h (i + 1) (by simp; omega)
      rw [show o + 1 + i = o + (i + 1) by omega]
      exact this
    rw [List.map_cons, List.sum_cons, List.length_cons, List.range'_succ, List.map_cons, Rows.uptoBulkAll]
    have h1 : f x ≤ Rows.uptoBulk (D o) := h0
    omega
theorem lit_bulk {H : Type} (s : ByteArray) : Rows.uptoBulk (DataW.lit (.string s.data.toList) : DataW H) = s.size + 1 := by
  rw [Rows.uptoBulk, Array.length_toList]; rfl
section
variable {H : Type} {enc : TypeId × Value → H} {w : World}
/-- What attributes hold is no more than the reading's bulk. -/
theorem attrs_bulk {fuel N c : Nat} {v : Value} {x : DataW H × List MemPlace} {A : Option Addr} {l : List At} (h : DataW.trod enc Tryd.prog w 0 (fun _ => true) true fuel 29 [v] = some x) (hv : v = .slice A l.length c) (hr : Ra w N A l) :
    (l.map fun a => a.name.size + a.value.size + 1).sum ≤ Rows.uptoBulk x.1 := by
  subst hv
  rcases open_rows_parts Tryd.underlying29 Tryd.underlying33 (by kernel_rfl) (by kernel_rfl) h with hcs | ⟨a, len, cap, D, sp, hcs, hx, hi⟩
  · simp at hcs
    obtain ⟨_, hl, _⟩ := hcs
    have : l = [] := hl
    subst this
    simp
  · simp at hcs
    obtain ⟨hA, hl, _⟩ := hcs
    rw [hx, Rows.uptoBulk]
    have := sum_bulk (fun a : At => a.name.size + a.value.size + 1) D l 0 fun i hil => by
      obtain ⟨b, off, e, _, hc⟩ := hr (by omega)
      rw [hA] at e
      injection e with e
      subst e
      obtain ⟨u0, y0, n0, p0, hc0, hD0, hy0, ht0⟩ := hi i (by omega) 0 _ rfl
      obtain ⟨u1, y1, n1, p1, hc1, hD1, hy1, ht1⟩ := hi i (by omega) 1 _ rfl
      obtain rfl : p0 = p1 := by rw [hD0] at hD1; injection hD1
      obtain ⟨s0, e0, g0, _⟩ := DataW.trod_string Tryd.underlying9 ht0
      obtain ⟨s1, e1, g1, _⟩ := DataW.trod_string Tryd.underlying9 ht1
      rw [add_plain] at hc0 hc1
      have k0 := hc i hil 0 (.string l[i].name) rfl
      have k1 := hc i hil 1 (.string l[i].value) rfl
      have q0 : s0 = l[i].name := by
        obtain rfl : u0 = .string s0 := by simpa using e0
        rw [show off + i * 2 + 0 = off + (i * 2 + 0) by omega] at k0
        have := hc0.symm.trans k0
        injection this with this
        injection this
      have q1 : s1 = l[i].value := by
        obtain rfl : u1 = .string s1 := by simpa using e1
        rw [show off + i * 2 + 1 = off + (i * 2 + 1) by omega] at k1
        have := hc1.symm.trans k1
        injection this with this
        injection this
      rw [Nat.zero_add, hD0, Rows.uptoBulk]
      have h3 := bulk2 hy0 hy1
      have h4 : Rows.uptoBulk y0.1 = s0.size + 1 := by rw [g0]; exact lit_bulk s0
      have h5 : Rows.uptoBulk y1.1 = s1.size + 1 := by rw [g1]; exact lit_bulk s1
      rw [← q0, ← q1]
      omega
    rw [← List.range_eq_range', hl] at this
    omega
end

end Go.Proofs.YtdplbcchkjpcdaaDoor.Ro

namespace Go.Proofs.YtdplbcchkjpcdaaDoor.To
set_option maxRecDepth 100000
set_option linter.unusedVariables false
set_option linter.unusedSimpArgs false
open Go.RowKit Ba Tm Go.ChangeShapes Go.WideShapes Go.Deep
open Ro (At acells Ra Sh open_rows_of open_rows_parts open_attrs attrs_bulk sum_bulk bulk123 lit_bulk mem_bulk list_of)
theorem bulkA_le (l : List At) : bulkA l + l.length ≤ (l.map fun a => a.name.size + a.value.size + 1).sum := by
  induction l with
  | nil => simp [bulkA]
  | cons a r ih =>
    have e : bulkA (a :: r) = a.name.size + a.value.size + bulkA r := by simp [bulkA]
    rw [e, List.map_cons, List.sum_cons, List.length_cons]
    omega
section
variable {H : Type} {enc : TypeId × Value → H} {w : World} {base : Nat}
/-- An argument []api.Token, as the statement's row reads it. -/
theorem open_toks {v : Value} {d : DataW H} {p : List MemPlace} (hv : Value.okWide Tryd.prog w .any base 22 v)
    (h : ∃ fuel, DataW.trod enc Tryd.prog w 0 (fun _ => true) true fuel 22 v.cells.toList = some (d, p)) (hlt : ∀ z ∈ p, z.block < w.heap.size) :
    ∃ A c l, v = .slice A l.length c ∧ l.length ≤ c ∧ c ≤ maxLen ∧ Rr w w.heap.size A l ∧ bulk (tks l) ≤ Rows.uptoBulk d := by
  obtain ⟨a0, len, cap, rfl⟩ := okWide_slice Tryd.underlying22 hv
  obtain ⟨fuel, hf⟩ := h
  rcases open_rows_of Tryd.underlying22 Tryd.underlying37 (by kernel_rfl) (by kernel_rfl) hf with hcs | ⟨a, len', cap', m, Pl, hcs, hl, hm, hmm, hx, hi⟩
  · simp [Value.cells] at hcs
    obtain ⟨rfl, rfl, rfl⟩ := hcs
    exact ⟨none, 0, [], rfl, Nat.le_refl _, Nat.zero_le _, Rr.nil _ _ _, Nat.zero_le _⟩
  · simp [Value.cells] at hcs
    obtain ⟨rfl, rfl, rfl⟩ := hcs
    simp only [if_true] at hmm
    subst hmm
    obtain ⟨b, off, spot⟩ := a
    have hx : p = _ := hx
    rcases open_rows_parts Tryd.underlying22 Tryd.underlying37 (by kernel_rfl) (by kernel_rfl) hf with hcs2 | ⟨a2, len2, cap2, D, sp, hcs2, hx2, hi2⟩
    · simp [Value.cells] at hcs2
    simp [Value.cells] at hcs2
    obtain ⟨ha2, hl2, _⟩ := hcs2
    subst ha2
    subst hl2
    have hx2 : d = _ := hx2
    have hrow : ∀ i < len, ∃ r : Tw, (∀ (j : Nat) (u : Value), (cells r)[j]? = some u → w.cell? ((⟨b, off, spot⟩ : Addr).add (i * 5 + j)) = some u) ∧ Att w w.heap.size r ∧ bulkT r.tk ≤ Rows.uptoBulk (D i) := fun i hil => by
      obtain ⟨v0, y0, n0, hc0, _, ht0⟩ := hi i (by omega) 0 _ rfl
      obtain ⟨v1, y1, n1, p1, hc1, hD1, g1, ht1⟩ := hi2 i (by omega) 1 _ rfl
      obtain ⟨v2, y2, n2, p2, hc2, hD2, g2, ht2⟩ := hi2 i (by omega) 2 _ rfl
      obtain ⟨v3', y3', n3', p3, hc3', hD3, g3, ht3'⟩ := hi2 i (by omega) 3 _ rfl
      obtain ⟨v3, y3, n3, hc3, hp3, ht3⟩ := hi i (by omega) 3 _ rfl
      obtain ⟨v4, y4, n4, hc4, _, ht4⟩ := hi i (by omega) 4 _ rfl
      obtain rfl : p1 = p2 := by rw [hD1] at hD2; injection hD2
      obtain rfl : p1 = p3 := by rw [hD1] at hD3; injection hD3
      obtain ⟨s0, e0, _, _⟩ := DataW.trod_int Tryd.underlying3 ht0
      obtain ⟨s1, e1, b1, _⟩ := DataW.trod_string Tryd.underlying9 ht1
      obtain ⟨s2, e2, b2, _⟩ := DataW.trod_string Tryd.underlying9 ht2
      obtain ⟨s4, e4, _⟩ := DataW.trod_bool Tryd.underlying4 ht4
      obtain rfl : v0 = .int .i64 s0 := by simpa using e0
      obtain rfl : v1 = .string s1 := by simpa using e1
      obtain rfl : v2 = .string s2 := by simpa using e2
      obtain rfl : v4 = .bool s4 := by simpa using e4
      obtain ⟨A, c, al, rfl, hac, hA, hcm, hra, hsh⟩ := open_attrs ht3 w.heap.size fun z hz => hlt z (by
        rw [hx]
        exact List.mem_append_right _ (List.mem_flatMap.2 ⟨i, List.mem_range.2 (by omega), hp3 z hz⟩))
      obtain rfl : v3' = .slice A al.length c := Option.some.inj (hc3'.symm.trans hc3)
      have hb := attrs_bulk ht3' rfl hra
      refine ⟨⟨⟨s0, s1, s2, al, s4⟩, A, c⟩, fun j u hu => ?_, ⟨hac, hA, hcm, hra, hsh⟩, ?_⟩
      · match j, hu with
        | 0, hu => exact hc0.trans hu
        | 1, hu => exact hc1.trans hu
        | 2, hu => exact hc2.trans hu
        | 3, hu => exact hc3.trans hu
        | 4, hu => exact hc4.trans hu
        | j + 5, hu => exact absurd hu (by simp [cells])
      · rw [hD1, Rows.uptoBulk]
        have h3 := bulk123 g1 g2 g3
        have h4 : Rows.uptoBulk y1.1 = s1.size + 1 := by rw [b1]; exact lit_bulk s1
        have h5 : Rows.uptoBulk y2.1 = s2.size + 1 := by rw [b2]; exact lit_bulk s2
        have h6 := bulkA_le al
        show s1.size + s2.size + bulkA al + al.length ≤ _
        omega
    obtain ⟨l, hll, hq⟩ := list_of _ len hrow
    refine ⟨some ⟨b, off, spot⟩, _, l, by rw [hll], by omega, hm, ⟨fun h0 => ?_, fun r hr => ?_⟩, ?_⟩
    · have hspot : spot = none := by
        have := World.cell?_spot ((hq 0 h0).1 0 _ rfl)
        simpa [Addr.add] using this
      subst hspot
      refine ⟨b, off, rfl, hlt (.cell b off) (by rw [hx]; exact List.mem_append_left _ (MemPlace.mem_row.2 ⟨0, by show 0 < _ * 5; omega, by simp⟩)), fun j hj k u hu => ?_⟩
      have := (hq j hj).1 k u hu
      rw [add_plain] at this
      rw [show off + j * 5 + k = off + (j * 5 + k) by omega]
      exact this
    · obtain ⟨j, hj, rfl⟩ := List.getElem_of_mem hr
      exact (hq j hj).2.1
    · rw [hx2, Rows.uptoBulk]
      have h1 := sum_bulk (fun r : Tw => bulkT r.tk) D l 0 fun i hil => by
        rw [Nat.zero_add]
        exact (hq i hil).2.2
      rw [← List.range_eq_range', hll] at h1
      have h2 : bulk (tks l) = (l.map fun r : Tw => bulkT r.tk).sum := by
        unfold bulk tks
        rw [List.map_map]
        rfl
      omega
theorem laidOutT : laidOutB Tryd.prog = true := by kernel_rfl
end

end Go.Proofs.YtdplbcchkjpcdaaDoor.To
