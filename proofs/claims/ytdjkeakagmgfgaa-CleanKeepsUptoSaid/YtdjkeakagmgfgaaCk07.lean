/-
  append within a region that draws its order: of one api.Per, of names.
  Walk of stage 12: remade, with fold.Sorted and with copied.
  Groups of api.Per: slices of them in a slice, each of the call's own, no two in one block.
  Walk of stage 12: grouped.
  Walks of stage 12: Canon, All, Plain.
  Walks of stage 12: Strip.
  Walks of stage 12: All, Plain, the document's Plain.
  Walks of stage 5: names.inElement, inAttr, every, Right, Attr, and the document's bad, May.
  Walks of stage 12: the document's may, once, meet, of.
  boltingref02.Equal, of slices that read as one list.
  Walk of stage 12: the document's Same, for values that read as one configuration.
  Walk of stage 12: the calls whose answers the document fixes.
  Stage 13: what the law asks ahead: calls whose answers are fixed.
  Stage 13: the law's bound: forty rows of eight attributes.
  Arguments that are slices of structs: their parts, and what is read of each.
  An argument that is a slice of strings, as the row reads it: a list of strings, nil or not.
  An argument api.Conf, as a statement's row reads it.
  Walk of stage 12: the law's Bound.
  Stage 12: what the laws have in common: a configuration bounded, in a box of the law's own.
-/
import Derived.Test.YtdjkeakagmgfgaaCk04
import Derived.Deep.RegionHeld3
import Derived.Deep.RegionLaw
import Derived.Deep.AppendLies
import Derived.BigRegion
import Derived.Test.YtdjkeakagmgfgaaCk06
import Derived.Deep.Cut
import Derived.Deep.OwnRows
import Derived.Test.YtdjkeakagmgfgaaCk03
import Derived.Test.YtdjkeakagmgfgaaCk05
import Derived.Test.YtdjkeakagmgfgaaCk01
import Derived.Test.YtdjkeakagmgfgaaCk02
import Derived.Deep.Slices
import Derived.Deep.Fields
import Derived.ChangeSame
import Derived.ProofKit
import Derived.Carry
import Derived.Lib.SmallJoins
import Derived.SliceStrings
import Derived.Laws.Small
namespace Go.Proofs.Ytdjkeakagmgfgaa.Co
set_option maxRecDepth 100000
set_option linter.unusedVariables false
set_option linter.unusedSimpArgs false
open Go.RowKit Ba Fm Fo
/-- app_one, the new string's block named. -/
theorem app_oneG {ops : Array Oper} {rest : List Oper} {o : Oper} {a : Act} {Q : Exit → Act → World → Prop} (w : World) (hgd : o.guard = none) (s x : Operand)
    (ho : o.op = .call { callee := .builtin .append, args := #[s, x], argTypes := #[23, 23] })
    (N : Nat) (v : Value) (l : List ByteArray) (y : ByteArray) (hs : a.eval s = v) (hown : Sown N w v l) (g : Nat) (hgz : g = w.heap.size) (hx : a.eval x = .slice (some ⟨g, 0, none⟩) 1 1)
    (hl : (l.length + 1) * 16 ≤ 140737488355328) (hN : N ≤ w.heap.size)
    (h : ∀ v' w', Sown N w' v' (l ++ [y]) → (∀ w0, Below N w0 w → Below N w0 w') → wpList Try.prog ops Q rest (a.put o.dst v') w') :
    wpList Try.prog ops Q (o :: rest) a (w.alloc (.cells #[.string y] 9)) := by
  subst hgz
  exact app_one w hgd s x ho N v l y hs hown hx hl hN fun v' w' h1 h2 _ => h v' w' h1 h2
theorem grown_none {w0 w w1 : World} {row : Option Nat} (hg : w0.grownBy w none) (h2 : w.grownBy w1 row) : w0.grownBy w1 row :=
  ⟨h2.os.trans hg.os, h2.tape.trans hg.tape, h2.output.trans hg.output, Nat.le_trans hg.size h2.size, fun i hi hne => (h2.block i (Nat.lt_of_lt_of_le hi hg.size) hne).trans (hg.block i hi (by simp))⟩
theorem grown_drew (w : World) (n : Nat) (row : Option Nat) : w.grownBy (w.drewN n) row := ⟨rfl, rfl, rfl, Nat.le_refl _, fun _ _ _ => rfl⟩
theorem step_app_per {ops : Array Oper} {o : Oper} {a : Act} {K : Act → World → Prop} {Q : Exit → Act → World → Prop} {E : Prop} (W : World) (hgd : o.guard = none) (s x : Operand)
    (ho : o.op = .call { callee := .builtin .append, args := #[s, x], argTypes := #[24, 24] })
    (W0 : World) (N : Nat) (v : Value) (l : List Pw) (z : Pw) (hr : Po N W0 v l) (hz1 : Sx W0 W0.heap.size z) (hz2 : Ap W0 N z) (hg : W0.grownBy W none) (hN : N ≤ W0.heap.size) (hl : l.length ≤ 2000000)
    (hs : a.eval s = v) (g0 : Nat) (hx : a.eval x = .slice (some ⟨g0, 0, none⟩) 1 1) (hz : W.heap[g0]? = some (perO z))
    (h : ∀ v' w', Po N w' v' (l ++ [z]) → W0.grownBy w' v.ownBlock → K (a.put o.dst v') w') :
    if Region.wanted o (yielded ops a.tmps) = true then Oper.wp Try.prog o a W K Q else E := by
  obtain ⟨i0, hi, hz0, hz1', hz2'⟩ := info_parts info_per
  have hown : W.ownsRow N 52 2 v l.length (l.flatMap pcells) := World.ownsRow.kept hr.1 hg (by cases hv : v.ownBlock with
    | none => exact .inl rfl
    | some k => right; simp)
  refine step_append_lies W hgd s x 24 ho N 52 i0 _ 2 40 Try.underlying24 hi hz0 hz1' hz2' rfl (by decide) v l.length (l.flatMap pcells) hs hown ⟨g0, 0, none⟩ 1 1 (pcells z) hx rfl (fun j u hu => World.news_of_block hz j u hu) (pcells_one z) (by decide) (by unfold maxLen; omega) (by omega) (Nat.le_trans hN hg.size) _ rfl ?_
  intro g cap w1 h1 h2 _ _
  have hgw : W0.grownBy w1 v.ownBlock := grown_none hg h2
  refine h _ w1 ⟨by rw [List.length_append, List.flatMap_append]; simpa using h1, fun y hy => ?_⟩ hgw
  rcases List.mem_append.1 hy with hy | hy
  · exact ⟨(hr.2 y hy).1.grown hr.1 hgw (hr.2 y hy).2, (hr.2 y hy).2.grown hr.1 hgw⟩
  · obtain rfl := List.mem_singleton.1 hy
    exact ⟨hz1.grown hr.1 hgw hz2, hz2.grown hr.1 hgw⟩

/-- append of names that lie somewhere, in whatever order, onto names of the call's own. -/
theorem step_app_strs {ops : Array Oper} {o : Oper} {a : Act} {K : Act → World → Prop} {Q : Exit → Act → World → Prop} {E : Prop} (W : World) (hgd : o.guard = none) (s x : Operand)
    (ho : o.op = .call { callee := .builtin .append, args := #[s, x], argTypes := #[23, 23] })
    (N : Nat) (v u : Value) (l m : List ByteArray) (hr : Sown N W v l) (hu : Sv W W.heap.size u m) (hN : N ≤ W.heap.size) (hl : l.length + m.length ≤ 2000000)
    (hs : a.eval s = v) (hx : a.eval x = u)
    (h : ∀ v' w', Sown N w' v' (l ++ m) → W.grownBy w' v.ownBlock → K (a.put o.dst v') w') :
    if Region.wanted o (yielded ops a.tmps) = true then Oper.wp Try.prog o a W K Q else E := by
  rw [if_pos (show Region.wanted o (yielded ops a.tmps) = true by simp [Region.wanted, hgd])]
  obtain ⟨i0, hi, hz0, hz1, hz2⟩ := info_parts info_str
  obtain ⟨A, c, rfl, hc, hn, hrd⟩ := hu
  cases A with
  | none =>
    have hm : m = [] := by
      rcases Nat.eq_zero_or_pos m.length with h0 | h0
      · exact List.eq_nil_of_length_eq_zero h0
      · obtain ⟨b, off, e, _⟩ := hrd h0
        cases e
    subst hm
    have hc0 := hn rfl
    subst hc0
    have hrun := run_append_owned_none (P := Try.prog) (w := W) N 23 o.type 9 i0 1 Try.underlying23 hi v l.length (l.map sc) hr
    have hx' : a.eval x = .slice none 0 0 := hx
    have hk := h v W (by rw [List.append_nil]; exact hr) (World.grownBy.refl _ _)
    unfold Oper.wp
    simp [execOp, ho, resolve, invoke, builtin, hs, hx', hrun, Result.andThen]
    exact hk
  | some ad =>
    have hcells : ∀ j w, (m.map sc)[j]? = some w → W.cell? (ad.add j) = some w := by
      intro j u hu
      have hj : j < m.length := by
        have := (List.getElem?_eq_some_iff.1 hu).1
        rwa [List.length_map] at this
      obtain ⟨b, off, e, _, hcc⟩ := hrd (by omega)
      injection e with e
      subst e
      rw [WideShapes.add_plain, hcc j hj]
      rw [List.getElem?_map, List.getElem?_eq_getElem hj] at hu
      exact hu
    obtain ⟨v', w', hrun, h2, h3, _⟩ := run_append_own_at (P := Try.prog) W N 23 o.type 9 i0 (.string .empty) 1 16 Try.underlying23 hi hz0 hz1 hz2 rfl (by decide) v l.length (l.map sc) hr ad m.length c (m.map sc) (by simp) hcells (fun u hu => by obtain ⟨y, _, rfl⟩ := List.mem_map.1 hu; rfl) (by unfold maxLen; omega) (by omega) hN
    have hk := h v' w' (Sown.appended h2 rfl) h3
    unfold Oper.wp
    simp [execOp, ho, resolve, invoke, builtin, hs, hx, hrun, Result.andThen]
    exact hk

end Go.Proofs.Ytdjkeakagmgfgaa.Co

namespace Go.Proofs.Ytdjkeakagmgfgaa.Co
set_option maxRecDepth 100000
set_option linter.unusedVariables false
set_option linter.unusedSimpArgs false
open Go.RowKit Ba Fm Fo Nm Rk
theorem pes_succ {l : List Pw} {k : Nat} {x : Pw} (h : l[k]? = some x) : pes (l.take (k + 1)) = pes (l.take k) ++ [x.pe] := by
  have hk : k < l.length := (List.getElem?_eq_some_iff.1 h).1
  have hx : l[k] = x := (List.getElem?_eq_some_iff.1 h).2
  rw [List.take_succ_eq_append_getElem hk, pes_append, hx]
  rfl
/-- The zero configuration, in a box. -/
abbrev zeroO : Obj := .cells #[.bool false, .bool false, .slice none 0 0, .slice none 0 0, .slice none 0 0, .slice none 0 0, .bool false, .bool false] 26
/-- What a box ahead of an append holds stays, where the slice that grows is not that box. -/
theorem kept_per {N z : Nat} {w7 w8 w9 : World} {v : Value} {l : List Pw} {u0 u1 : Value} (h : Po N w7 v l) (hb : Below w7.heap.size w7 w8) (hg : w8.grownBy w9 v.ownBlock) (hz : w7.heap.size = z + 1) (hn : v.ownBlock ≠ some z) (hc : w8.cell? ⟨z, 0, none⟩ = some u0 ∧ w8.cell? ⟨z, 1, none⟩ = some u1) :
    w9.cell? ⟨z, 0, none⟩ = some u0 ∧ w9.cell? ⟨z, 1, none⟩ = some u1 := by
  have hzl : z < w8.heap.size := Nat.lt_of_lt_of_le (by omega) hb.size
  have e : w9.heap[z]? = w8.heap[z]? := hg.block z hzl (fun e => hn e.symm)
  exact ⟨(World.cell?_of_block (a := ⟨z, 0, none⟩) e).trans hc.1, (World.cell?_of_block (a := ⟨z, 1, none⟩) e).trans hc.2⟩

set_option maxRecDepth 100000 in
set_option maxHeartbeats 4000000 in
theorem remade_S (v : Value) (c : Cf) (w : World) (h : Cv w w.heap.size v c) (hs : Sm c) :
    Calls Try.prog 43 #[v, .func (.func 44) #[] #[]] w fun r w' => ∃ vE vR vA vP l M, r = .returned (confV c vE vR vA vP) ∧ w.heap.size ≤ M ∧ (∀ b, vE.ownBlock = some b → b < M) ∧ Sown w.heap.size w' vE (srt lt c.els) ∧ Sown M w' vR (srt lt c.reps) ∧ Sown M w' vA (srt lt c.ats) ∧ Po M w' vP l ∧ (∀ x ∈ l, Fp M w' x) ∧ pes l = c.per.map (fun p => ⟨p.el, srt lt p.at_⟩) ∧ Below w.heap.size w w' := by
  obtain ⟨vE, vR, vA, vP, l, rfl, h⟩ := h
  obtain ⟨w0, hw0⟩ : ∃ w0, (w.alloc (confO c vE vR vA vP)).alloc zeroO = w0 := ⟨_, rfl⟩
  have hba : Below w.heap.size w (w.alloc (confO c vE vR vA vP)) := below_new12 w _
  have hb1 : Below w.heap.size w w0 := hw0 ▸ hba.trans ((below_new12 _ _).mono hba.size)
  have hbx : Bx w0 w.heap.size c vE vR vA vP := hw0 ▸ (Bx.new w c vE vR vA vP).below (below_new12 _ _) (by simp)
  have hz : w0.heap.size = w.heap.size + 2 := by rw [← hw0]; simp
  have h0 := h.on hb1
  obtain ⟨A, cp, rfl, hcp, hna, hr⟩ := h.p
  have hpl : c.per.length = l.length := by rw [← h.m, len_pes]
  have hl : l.length ≤ 1000 := by have := hs.p; omega
  have hlen : ∀ x ∈ l, x.pe.at_.length ≤ 1000000 := fun x hx => Nat.le_trans (hs.pa _ (by rw [← h.m]; exact List.mem_map.2 ⟨x, hx, rfl⟩)) (by omega)
  have HLEN := Lib.hid hlen; have HW := Lib.hid hw0; have HB1 := Lib.hid hb1; have HR := Lib.hid hr; have HM := Lib.hid h0.m
  have HE := Lib.hid (fun wx hb => sorted_any vE c.els wx (sv_on h0.e hb) (by have := hs.e; omega))
  have HRR := Lib.hid (fun wx hb => sorted_any vR c.reps wx (sv_on h0.r hb) (by have := hs.r; omega))
  have HAA := Lib.hid (fun wx hb => sorted_any vA c.ats wx (sv_on h0.a hb) (by have := hs.a; omega))
  have HS := Lib.hid (fun wx (hb : Below w0.heap.size w0 wx) => show wx.cell? ⟨w.heap.size, 2, none⟩ = some vE ∧ wx.cell? ⟨w.heap.size, 3, none⟩ = some vR ∧ wx.cell? ⟨w.heap.size, 4, none⟩ = some vA from by
    have := (hbx.below hb (by omega)).at_
    exact ⟨this.2.2.1, this.2.2.2.1, this.2.2.2.2.1⟩)
  have hblk : w0.heap[w.heap.size]? = some (confO c vE vR vA (.slice A l.length cp)) := by
    rw [← hw0]
    exact ((below_new12 (w.alloc (confO c vE vR vA (.slice A l.length cp))) zeroO).block _ (by simp)).trans (heap_alloc_new w _)
  have HF := Lib.hid (fun wx (hb : Below w0.heap.size w0 wx) => show wx.frozen? ⟨w.heap.size, 2, none⟩ = false ∧ wx.frozen? ⟨w.heap.size, 3, none⟩ = false ∧ wx.frozen? ⟨w.heap.size, 4, none⟩ = false from by
    have := (hb.block w.heap.size (by omega)).trans hblk
    simp [World.frozen?, this])
  have HBK := Lib.hid hblk
  have hzb : Hb w0 (w.heap.size + 1) #[.bool false, .bool false, .slice none 0 0, .slice none 0 0, .slice none 0 0, .slice none 0 0, .bool false, .bool false] := by
    rw [← hw0]
    have := Hb.new (w.alloc (confO c vE vR vA (.slice A l.length cp))) #[.bool false, .bool false, .slice none 0 0, .slice none 0 0, .slice none 0 0, .slice none 0 0, .bool false, .bool false]
    rwa [World.size_alloc] at this
  have HZB := Lib.hid hzb
  clear hlen hs h h0 hpl hr hb1 hbx hw0 hba hblk hzb
  go_enter Try.func43, Try.ntmps43
  go_upto_region 1 with (fail)
  rw [HW.out]
  refine wp_region_noPanic ?_
  refine Ph.T_begin (fun w' => w'.cell? ⟨w.heap.size, 2, none⟩ = some vE ∧ w'.cell? ⟨w.heap.size, 3, none⟩ = some vR ∧ w'.cell? ⟨w.heap.size, 4, none⟩ = some vA) 13 (by kernel_rfl) ?_ (fun hHeld => ?_)
  · exact HS.out _ (bel_eq12 (Below.refl _ w0) rfl rfl rfl rfl)
  refine Ph.T_pure (i := 0) (oi := _) (v := ?_) rfl (by kernel_rfl) (by kernel_rfl) (by kernel_rfl) (by kernel_rfl) (fun _ _ _ h => h) (Or.inl ⟨by rfl, ?_⟩) (by assumption) (fun hHeld => ?_)
  rotate_left
  · intro w hSw; (try dsimp only at hSw); go_simp; all_goals with_reducible rfl
  try simp only [Act.put, List.getElem_toArray, List.getElem_cons_zero, List.getElem_cons_succ, List.setIfInBounds_toArray, List.set_cons_zero, List.set_cons_succ]
  refine Ph.T_pure (i := 1) (oi := _) (v := ?_) rfl (by kernel_rfl) (by kernel_rfl) (by kernel_rfl) (by kernel_rfl) (fun _ _ _ h => h) (Or.inl ⟨by rfl, ?_⟩) (by assumption) (fun hHeld => ?_)
  rotate_left
  · intro w hSw; (try dsimp only at hSw); go_simp; all_goals with_reducible rfl
  try simp only [Act.put, List.getElem_toArray, List.getElem_cons_zero, List.getElem_cons_succ, List.setIfInBounds_toArray, List.set_cons_zero, List.set_cons_succ]
  refine Ph.T_take (i := 2) (oi := _) (v := ?_) rfl (by kernel_rfl) (by kernel_rfl) (by kernel_rfl) (by kernel_rfl) (fun _ _ _ h => h) (Or.inl ⟨by rfl, ?_⟩) (by assumption) (fun hHeld => ?_)
  rotate_left
  · intro w hSw; (try dsimp only at hSw); go_simp; all_goals with_reducible rfl
  try simp only [Act.put, List.getElem_toArray, List.getElem_cons_zero, List.getElem_cons_succ, List.setIfInBounds_toArray, List.set_cons_zero, List.set_cons_succ]
  refine Ph.T_pure (i := 4) (oi := _) (v := ?_) rfl (by kernel_rfl) (by kernel_rfl) (by kernel_rfl) (by kernel_rfl) (fun _ _ _ h => h) (Or.inl ⟨by rfl, ?_⟩) (by assumption) (fun hHeld => ?_)
  rotate_left
  · intro w hSw; (try dsimp only at hSw); go_simp; all_goals with_reducible rfl
  try simp only [Act.put, List.getElem_toArray, List.getElem_cons_zero, List.getElem_cons_succ, List.setIfInBounds_toArray, List.set_cons_zero, List.set_cons_succ]
  refine Ph.T_pure (i := 5) (oi := _) (v := ?_) rfl (by kernel_rfl) (by kernel_rfl) (by kernel_rfl) (by kernel_rfl) (fun _ _ _ h => h) (Or.inl ⟨by rfl, ?_⟩) (by assumption) (fun hHeld => ?_)
  rotate_left
  · intro w hSw; (try dsimp only at hSw); go_simp; all_goals with_reducible rfl
  try simp only [Act.put, List.getElem_toArray, List.getElem_cons_zero, List.getElem_cons_succ, List.setIfInBounds_toArray, List.set_cons_zero, List.set_cons_succ]
  refine Ph.T_take (i := 6) (oi := _) (v := ?_) rfl (by kernel_rfl) (by kernel_rfl) (by kernel_rfl) (by kernel_rfl) (fun _ _ _ h => h) (Or.inl ⟨by rfl, ?_⟩) (by assumption) (fun hHeld => ?_)
  rotate_left
  · intro w hSw; (try dsimp only at hSw); go_simp; all_goals with_reducible rfl
  try simp only [Act.put, List.getElem_toArray, List.getElem_cons_zero, List.getElem_cons_succ, List.setIfInBounds_toArray, List.set_cons_zero, List.set_cons_succ]
  refine Ph.T_pure (i := 8) (oi := _) (v := ?_) rfl (by kernel_rfl) (by kernel_rfl) (by kernel_rfl) (by kernel_rfl) (fun _ _ _ h => h) (Or.inl ⟨by rfl, ?_⟩) (by assumption) (fun hHeld => ?_)
  rotate_left
  · intro w hSw; (try dsimp only at hSw); go_simp; all_goals with_reducible rfl
  try simp only [Act.put, List.getElem_toArray, List.getElem_cons_zero, List.getElem_cons_succ, List.setIfInBounds_toArray, List.set_cons_zero, List.set_cons_succ]
  refine Ph.T_pure (i := 9) (oi := _) (v := ?_) rfl (by kernel_rfl) (by kernel_rfl) (by kernel_rfl) (by kernel_rfl) (fun _ _ _ h => h) (Or.inl ⟨by rfl, ?_⟩) (by assumption) (fun hHeld => ?_)
  rotate_left
  · intro w hSw; (try dsimp only at hSw); go_simp; all_goals with_reducible rfl
  try simp only [Act.put, List.getElem_toArray, List.getElem_cons_zero, List.getElem_cons_succ, List.setIfInBounds_toArray, List.set_cons_zero, List.set_cons_succ]
  refine Ph.T_take (i := 10) (oi := _) (v := ?_) rfl (by kernel_rfl) (by kernel_rfl) (by kernel_rfl) (by kernel_rfl) (fun _ _ _ h => h) (Or.inl ⟨by rfl, ?_⟩) (by assumption) (fun hHeld => ?_)
  rotate_left
  · intro w hSw; (try dsimp only at hSw); go_simp; all_goals with_reducible rfl
  try simp only [Act.put, List.getElem_toArray, List.getElem_cons_zero, List.getElem_cons_succ, List.setIfInBounds_toArray, List.set_cons_zero, List.set_cons_succ]
  refine Ph.T_one (i := 3) (o := _) (by kernel_rfl) rfl (fun K hK => ?_)
  go_simp
  go_at_call 44
  refine (HE.out _ (by exact bel_eq12 (Below.refl _ w0) rfl rfl rfl rfl)).mono ?_
  rintro e w1 ⟨v1, rfl, ho1, hc1⟩
  have HC1 := Lib.hid (show Below w0.heap.size w0 w1 from ⟨hc1.os, hc1.tape, hc1.output, hc1.size, hc1.block⟩)
  obtain ⟨A1, n1, k1, rfl⟩ := own_shape ho1
  have HL1 := Lib.hid (show ∀ b, (Value.slice A1 n1 k1).ownBlock = some b → b < w1.heap.size from fun b hb => (World.ownsRow.lt ho1 b hb).2)
  have HO1 := Lib.hid ho1
  clear hc1 ho1
  go_wp2_with fail
  refine hK.out _ _ ?_ (fun hHeld => ?_)
  · exact HS.out _ HC1.out
  clear hK K
  try simp only [Act.put, List.getElem_toArray, List.getElem_cons_zero, List.getElem_cons_succ, List.setIfInBounds_toArray, List.set_cons_zero, List.set_cons_succ]
  refine Ph.T_pure (i := 12) (oi := _) (v := ?_) rfl (by kernel_rfl) (by kernel_rfl) (by kernel_rfl) (by kernel_rfl) (fun _ _ _ h => h) (Or.inl ⟨by rfl, ?_⟩) (by assumption) (fun hHeld => ?_)
  rotate_left
  · intro w hSw; (try dsimp only at hSw); go_simp; all_goals with_reducible rfl
  try simp only [Act.put, List.getElem_toArray, List.getElem_cons_zero, List.getElem_cons_succ, List.setIfInBounds_toArray, List.set_cons_zero, List.set_cons_succ]
  refine Ph.T_one (i := 7) (o := _) (by kernel_rfl) rfl (fun K hK => ?_)
  go_simp
  go_at_call 44
  refine (HRR.out _ (by exact HC1.out)).mono ?_
  rintro e w2 ⟨v2, rfl, ho2, hc2⟩
  have HC2 := Lib.hid (show Below w0.heap.size w0 w2 from HC1.out.trans (hc2.mono HC1.out.size))
  have HD2 := Lib.hid hc2
  obtain ⟨A2, n2, k2, rfl⟩ := own_shape ho2
  have HO2 := Lib.hid ho2
  clear hc2 ho2
  go_wp2_with fail
  refine hK.out _ _ ?_ (fun hHeld => ?_)
  · exact HS.out _ HC2.out
  clear hK K
  try simp only [Act.put, List.getElem_toArray, List.getElem_cons_zero, List.getElem_cons_succ, List.setIfInBounds_toArray, List.set_cons_zero, List.set_cons_succ]
  refine Ph.T_one (i := 11) (o := _) (by kernel_rfl) rfl (fun K hK => ?_)
  go_simp
  go_at_call 44
  refine (HAA.out _ (by exact HC2.out)).mono ?_
  rintro e w3 ⟨v3, rfl, ho3, hc3⟩
  have HC3 := Lib.hid (show Below w0.heap.size w0 w3 from HC2.out.trans (hc3.mono HC2.out.size))
  have HD3 := Lib.hid hc3
  obtain ⟨A3, n3, k3, rfl⟩ := own_shape ho3
  have HO3 := Lib.hid ho3
  clear hc3 ho3
  go_wp2_with fail
  refine hK.out _ _ ?_ (fun hHeld => ?_)
  · exact HS.out _ HC3.out
  clear hK K
  try simp only [Act.put, List.getElem_toArray, List.getElem_cons_zero, List.getElem_cons_succ, List.setIfInBounds_toArray, List.set_cons_zero, List.set_cons_succ]
  obtain ⟨f2, f3, f4⟩ := HF.out _ HC3.out
  obtain ⟨g2, g3, g4⟩ := HS.out _ HC3.out
  refine Ph.T_last (i := 13) (o := _) (by kernel_rfl) (by kernel_rfl) rfl (fun K hK => ?_)
  go_simp
  go_wp2_with fail
  refine hK.out _ _ ?_
  clear hK K
  try simp only [Act.put, List.getElem_toArray, List.getElem_cons_zero, List.getElem_cons_succ, List.setIfInBounds_toArray, List.set_cons_zero, List.set_cons_succ]
  refine Ph.T_free (i := 14) (oi := _) (v := ?_) (by kernel_rfl) (by kernel_rfl) rfl (Or.inl ⟨by rfl, ?_⟩) ?_
  rotate_left
  · intro w; go_simp; all_goals with_reducible rfl
  try simp only [Act.put, List.getElem_toArray, List.getElem_cons_zero, List.getElem_cons_succ, List.setIfInBounds_toArray, List.set_cons_zero, List.set_cons_succ]
  refine Ph.T_last (i := 15) (o := _) (by kernel_rfl) (by kernel_rfl) rfl (fun K hK => ?_)
  go_simp
  go_wp2_with fail
  refine hK.out _ _ ?_
  clear hK K
  try simp only [Act.put, List.getElem_toArray, List.getElem_cons_zero, List.getElem_cons_succ, List.setIfInBounds_toArray, List.set_cons_zero, List.set_cons_succ]
  refine Ph.T_free (i := 16) (oi := _) (v := ?_) (by kernel_rfl) (by kernel_rfl) rfl (Or.inl ⟨by rfl, ?_⟩) ?_
  rotate_left
  · intro w; go_simp; all_goals with_reducible rfl
  try simp only [Act.put, List.getElem_toArray, List.getElem_cons_zero, List.getElem_cons_succ, List.setIfInBounds_toArray, List.set_cons_zero, List.set_cons_succ]
  refine Ph.T_last (i := 17) (o := _) (by kernel_rfl) (by kernel_rfl) rfl (fun K hK => ?_)
  go_simp
  go_wp2_with fail
  refine hK.out _ _ ?_
  clear hK K
  try simp only [Act.put, List.getElem_toArray, List.getElem_cons_zero, List.getElem_cons_succ, List.setIfInBounds_toArray, List.set_cons_zero, List.set_cons_succ]
  refine Ph.T_done (by kernel_rfl) ?_ _
  refine NoPanic.normal ?_
  have hb3 : Hb w3 w.heap.size #[.bool c.allow, .bool c.attrsAllow, vE, vR, vA, .slice A l.length cp, .bool c.comments, .bool c.dataAttrs] := Hb.below (HBK.out : Hb w0 _ _) HC3.out (by omega)
  have hz3 : Hb w3 (w.heap.size + 1) #[.bool false, .bool false, .slice none 0 0, .slice none 0 0, .slice none 0 0, .slice none 0 0, .bool false, .bool false] := Hb.below HZB.out HC3.out (by omega)
  obtain ⟨W4, hW4⟩ : ∃ W4, ((w3.setCell ⟨w.heap.size, 2, none⟩ (.slice A1 n1 k1)).setCell ⟨w.heap.size, 3, none⟩ (.slice A2 n2 k2)).setCell ⟨w.heap.size, 4, none⟩ (.slice A3 n3 k3) = W4 := ⟨_, rfl⟩
  have hgr : w3.grownBy W4 (some w.heap.size) := hW4 ▸ ((gcell12 w3 _ 2 _).trans (gcell12 _ _ 3 _)).trans (gcell12 _ _ 4 _)
  have hb4 : Hb W4 w.heap.size #[.bool c.allow, .bool c.attrsAllow, .slice A1 n1 k1, .slice A2 n2 k2, .slice A3 n3 k3, .slice A l.length cp, .bool c.comments, .bool c.dataAttrs] := hW4 ▸ ((hb3.set 2 (.slice A1 n1 k1)).set 3 (.slice A2 n2 k2)).set 4 (.slice A3 n3 k3)
  have hz4 : Hb W4 (w.heap.size + 1) #[.bool false, .bool false, .slice none 0 0, .slice none 0 0, .slice none 0 0, .slice none 0 0, .bool false, .bool false] := hz3.keep (hgr.block _ hz3.lt (by simp))
  have hbel4 : Below w.heap.size w W4 := (HB1.out.trans (HC3.out.mono HB1.out.size)).grown hgr (Nat.le_trans HB1.out.size HC3.out.size) (fun k hk => by injection hk with hk; omega)
  have hs1 : Sown w.heap.size W4 (.slice A1 n1 k1) (srt lt c.els) := by
    rw [← hW4]
    exact (own_other (own_other (own_other ((HO1.out.below HD2.out (Nat.le_refl _)).below HD3.out (Nat.le_refl _)) (by show w.heap.size < w0.heap.size; omega) _) (by show w.heap.size < w0.heap.size; omega) _) (by show w.heap.size < w0.heap.size; omega) _).mono (by show w.heap.size ≤ w0.heap.size; omega)
  have hs2 : Sown w1.heap.size W4 (.slice A2 n2 k2) (srt lt c.reps) := by
    have := HC1.out.size
    rw [← hW4]
    exact (own_other (own_other (own_other (HO2.out.below HD3.out (Nat.le_refl _)) (by show w.heap.size < w1.heap.size; omega) _) (by show w.heap.size < w1.heap.size; omega) _) (by show w.heap.size < w1.heap.size; omega) _)
  have hs3 : Sown w1.heap.size W4 (.slice A3 n3 k3) (srt lt c.ats) := by
    have := HC2.out.size
    rw [← hW4]
    exact (own_other (own_other (own_other HO3.out (by show w.heap.size < w2.heap.size; omega) _) (by show w.heap.size < w2.heap.size; omega) _) (by show w.heap.size < w2.heap.size; omega) _).mono HD2.out.size
  rw [hW4]
  have HW14 := Lib.hid (Nat.le_trans (Nat.le_trans HD2.out.size HD3.out.size) hgr.size)
  have HBL4 := Lib.hid hbel4; have HS1 := Lib.hid hs1; have HS2 := Lib.hid hs2; have HS3 := Lib.hid hs3; have HB4 := Lib.hid hb4; have HZ4 := Lib.hid hz4
  have c5 := hb4.cell 5 _ rfl
  clear hbel4 hs1 hs2 hs3 hb4 hz4 hgr hW4 hb3 hz3 f2 f3 f4 g2 g3 g4
  obtain ⟨i0, hi, hz0, hz1, hz2⟩ := info_parts info_per
  go_wp2_with (at_make; refine wpList_make_own _ rfl (.const (.int .i64 0)) (.tmp 25) 24 rfl W4.heap.size 52 i0 _ 2 Try.underlying24 hi hz0 hz1 .i64 .i64 _ l.length rfl rfl (by simp) (by rw [hz2]; omega) (by unfold maxLen; omega) (Nat.le_refl _) ?_; intro w6 hown hgrow; have hb6 : Below W4.heap.size W4 w6 := (Below.refl W4.heap.size W4).grown hgrow (Nat.le_refl _) (by simp); have c56 := (HB4.out.on hb6).cell 5 _ rfl)
  have ho0 : Po W4.heap.size w6 (.slice (some ⟨W4.heap.size, 0, none⟩) 0 l.length) [] := ⟨hown, fun _ h => by simp at h⟩
  clear hown hgrow c5 c56
  have HB6 := Lib.hid hb6
  go_loopw [5, 7, 30] (fun v _ i wr => ∃ (k : Nat) (acc : List Pw), i = .int .i64 k ∧ k ≤ l.length ∧ acc.length = k ∧ Po W4.heap.size wr v acc ∧ (∀ y ∈ acc, Fp W4.heap.size wr y) ∧ pes acc = (pes (l.take k)).map (fun p => ⟨p.el, srt lt p.at_⟩) ∧ Below W4.heap.size W4 wr) (fun _ _ i _ => l.length - (intOf i).toNat)
  case atStart => exact ⟨0, [], rfl, Nat.zero_le _, rfl, ho0, (fun y hy => by cases hy), rfl, hb6⟩
  case round =>
    clear ho0 hb6
    obtain ⟨k, acc, rfl, hks, hal, hown, hfp, hpe, hbel⟩ := hrel
    by_cases hk : k < l.length
    · have hbw : Below w.heap.size w wr := HBL4.out.trans (hbel.mono HBL4.out.size)
      obtain ⟨b, off, x, rfl, hb, hx, hcs, hsx, hxm⟩ := (HR.out.below hbw).at_ k hk
      obtain ⟨g0, g1⟩ := range2p hcs
      have hxl := HLEN.out x hxm
      obtain ⟨w7, hw7⟩ : ∃ w7, wr.alloc (perO x) = w7 := ⟨_, rfl⟩
      have hb7 : Below wr.heap.size wr w7 := hw7 ▸ below_new12 wr (perO x)
      have hz7 : w7.heap.size = wr.heap.size + 1 := by rw [← hw7]; simp
      have hbk : ∀ w3, Below w7.heap.size w7 w3 → w3.cell? ⟨wr.heap.size, 0, none⟩ = some (.string x.pe.el) ∧ w3.cell? ⟨wr.heap.size, 1, none⟩ = some (.slice x.A x.pe.at_.length x.c) := fun w3 h => by subst hw7; exact ⟨pbox_kept h 0, pbox_kept h 1⟩
      have hsx7 : Sx w7 w7.heap.size x := (((hsx.more hbw.size).below hb7).more hb7.size)
      have HC := Lib.hid (fun wx (hb : Below w7.heap.size w7 wx) => sorted_any (.slice x.A x.pe.at_.length x.c) x.pe.at_ wx (sv_on hsx7 hb) hxl)
      have hown7 := hown.below hb7
      have hfp7 : ∀ y ∈ acc, Fp W4.heap.size w7 y := fun y hy => (hfp y hy).below hb7
      have hbel7 : Below W4.heap.size W4 w7 := hbel.trans (hb7.mono hbel.size)
      have HBK := Lib.hid hbk; have HO7 := Lib.hid hown7; have HF7 := Lib.hid hfp7; have HL7 := Lib.hid hbel7; have HPE := Lib.hid hpe; have HW7 := Lib.hid hw7; have HX := Lib.hid hx; have HZ7 := Lib.hid hz7
      have hNz : W4.heap.size ≤ wr.heap.size := hbel.size
      have HNE := Lib.hid (show Value.ownBlock _ ≠ some wr.heap.size from fun e => Nat.lt_irrefl _ (World.ownsRow.lt hown.1 _ e).2)
      clear hb7 hbk hsx7 hown7 hfp7 hbel7 hpe hown hfp hbel hbw hcs hsx hw7 hx hz7
      go_upto_region 6 with (fail)
      rw [HW7.out]
      obtain ⟨m8, hm8⟩ : ∃ m8, srt lt x.pe.at_ = m8 := ⟨_, rfl⟩
      have HM8 := Lib.hid hm8; clear hm8
      go_region_held3 (fun w' => w'.cell? ⟨wr.heap.size, 0, none⟩ = some (.string x.pe.el) ∧ w'.cell? ⟨wr.heap.size, 1, none⟩ = some (.slice x.A x.pe.at_.length x.c)) (first | exact HBK.out _ (bel_eq12 (Below.refl _ w7) rfl rfl rfl rfl) | exact HBK.out _ HC8.out | exact HBK.out _ (HC8.out.trans ((below_new12 w8 _).mono HC8.out.size)) | exact HK9.out | go_keep) (first
        | (go_at_call 44; refine (HC.out _ (by exact bel_eq12 (Below.refl _ w7) rfl rfl rfl rfl)).mono ?_; rintro e w8 ⟨v8, rfl, ho8, hc8⟩; have HC8 := Lib.hid (show Below w7.heap.size w7 w8 from ⟨hc8.os, hc8.tape, hc8.output, hc8.size, hc8.block⟩); rw [HM8.out] at ho8; obtain ⟨A8, k8, rfl, -, -, -⟩ := sv_own ho8; have HO8 := Lib.hid (show Fp w7.heap.size w8 ⟨⟨x.pe.el, m8⟩, A8, k8⟩ from ho8); clear hc8 ho8)
        | (refine step_app_per _ (by rfl) (.tmp 34) (.tmp 42) (by rfl) w8 W4.heap.size _ acc ⟨⟨x.pe.el, m8⟩, A8, k8⟩ (HO7.out.below HC8.out) HO8.out.sx HO8.out.ap (World.grownBy_alloc w8 _ _) (Nat.le_trans HL7.out.size HC8.out.size) (by omega) (by simp [Act.eval, Act.put]) _ (by simp [Act.eval, Act.put]) (heap_alloc_new _ _) ?_; intro v9 w9 ho9 hg9; have HO9 := Lib.hid ho9; have HG9 := Lib.hid hg9; have HK9 := Lib.hid (kept_per HO7.out HC8.out hg9 HZ7.out HNE.out (HBK.out _ HC8.out)); clear ho9 hg9))
      go_wp2
      have ho8' := HO7.out.below HC8.out
      have hn1 : ∀ y ∈ acc ++ [(⟨⟨x.pe.el, m8⟩, A8, k8⟩ : Pw)], Fp W4.heap.size w9 y := fun y hy => by
        rcases List.mem_append.1 hy with hy | hy
        · exact Sown.grownP ho8'.1 HG9.out ((HF7.out y hy).below HC8.out)
        · rw [List.mem_singleton] at hy
          subst hy
          exact Sown.grownP ho8'.1 HG9.out (HO8.out.mono HL7.out.size)
      have hn2 : pes (acc ++ [(⟨⟨x.pe.el, m8⟩, A8, k8⟩ : Pw)]) = (pes (l.take (k + 1))).map (fun p => ⟨p.el, srt lt p.at_⟩) := by
        rw [pes_append, HPE.out, pes_succ HX.out, List.map_append, ← HM8.out]
        rfl
      have hn3 : Below W4.heap.size W4 w9 := (HL7.out.trans (HC8.out.mono HL7.out.size)).grown HG9.out (Nat.le_trans HL7.out.size HC8.out.size) (fun q hq => (World.ownsRow.lt ho8'.1 q hq).1)
      go_roundw
      case rel => exact ⟨k + 1, acc ++ [⟨⟨x.pe.el, m8⟩, A8, k8⟩], by go_num, by omega, by simp; omega, HO9.out, hn1, hn2, hn3⟩
      case measure => simp [intOf]; omega
    · rw [List.take_of_length_le (by omega)] at hpe
      have HAL := Lib.hid hal; clear hal
      obtain ⟨A9, c9, rfl, -⟩ := hown.form
      have hbe := HB4.out.on hbel
      have hze := HZ4.out.on hbel
      have e5 := hbe.cell 5 _ rfl; have f5 := hbe.f 5
      have HBE := Lib.hid hbe; have HZE := Lib.hid hze; have HO := Lib.hid hown; have HF := Lib.hid hfp; have HPE := Lib.hid hpe; have HBL := Lib.hid hbel
      clear hbe hze hown hfp hpe hbel
      go_upto_region 9 with (fail)
      obtain ⟨W9, hW9⟩ : ∃ W9, wr.setCell ⟨w.heap.size, 5, none⟩ (.slice A9 acc.length c9) = W9 := ⟨_, rfl⟩
      have hg9 : wr.grownBy W9 (some w.heap.size) := hW9 ▸ gcell12 wr _ 5 _
      have hb9 : Hb W9 w.heap.size #[.bool c.allow, .bool c.attrsAllow, .slice A1 n1 k1, .slice A2 n2 k2, .slice A3 n3 k3, .slice A9 acc.length c9, .bool c.comments, .bool c.dataAttrs] := hW9 ▸ HBE.out.set 5 (.slice A9 acc.length c9)
      have hz9 : Hb W9 (w.heap.size + 1) #[.bool false, .bool false, .slice none 0 0, .slice none 0 0, .slice none 0 0, .slice none 0 0, .bool false, .bool false] := HZE.out.keep (hg9.block _ HZE.out.lt (by simp))
      rw [hW9]
      have HRG := Lib.hid hb9.range
      have HTH := Lib.hid (hz9.there 8 rfl)
      go_wp2_with (first
        | (show wpList _ _ _ (⟨_, Op.load 26 (.tmp 2), _, _, _, _⟩ :: _) _ _; refine wpList_load_mid rfl 26 (.tmp 2) rfl w.heap.size 0 rfl _ _ HRG.out Try.underlying26 rfl size_conf ?_)
        | (show wpList _ _ _ (⟨none, Op.store 26 (.tmp 4) (.tmp 47), _, _, _, _⟩ :: _) _ _; refine wpList_store_mid rfl 26 (.tmp 4) (.tmp 47) rfl (w.heap.size + 1) 0 #[.bool c.allow, .bool c.attrsAllow, .slice A1 n1 k1, .slice A2 n2 k2, .slice A3 n3 k3, .slice A9 acc.length c9, .bool c.comments, .bool c.dataAttrs] rfl rfl HTH.out size_conf (by simp [Value.oneCell']) ?_))
      obtain ⟨W, hW⟩ : ∃ W, W9.setCells (w.heap.size + 1) 0 [.bool c.allow, .bool c.attrsAllow, .slice A1 n1 k1, .slice A2 n2 k2, .slice A3 n3 k3, .slice A9 acc.length c9, .bool c.comments, .bool c.dataAttrs] = W := ⟨_, rfl⟩
      have hgW : W9.grownBy W (some (w.heap.size + 1)) := hW ▸ gcells12 (w.heap.size + 1) _ 0 W9
      have hbW : Bx W (w.heap.size + 1) c (.slice A1 n1 k1) (.slice A2 n2 k2) (.slice A3 n3 k3) (.slice A9 acc.length c9) := hW ▸ World.rangeAt_setCells_same W9 (w.heap.size + 1) 0 [.bool c.allow, .bool c.attrsAllow, .slice A1 n1 k1, .slice A2 n2 k2, .slice A3 n3 k3, .slice A9 acc.length c9, .bool c.comments, .bool c.dataAttrs] (HTH.out)
      obtain ⟨z0, z1, z2, z3, z4, z5, z6, z7⟩ := hbW.at_
      rw [hW]
      have hst : ∀ {N : Nat} {v : Value} {m : List ByteArray}, Sown N wr v m → Sown N W v m := fun h => own_boxed (own_boxed h HBE.out hg9) hz9 hgW
      have hbW' : Below w.heap.size w W := (((HBL4.out.trans (HBL.out.mono HBL4.out.size)).grown hg9 (Nat.le_trans HBL4.out.size HBL.out.size) (fun q hq => by injection hq with hq; omega)).grown hgW (Nat.le_trans (Nat.le_trans HBL4.out.size HBL.out.size) hg9.size) (fun q hq => by injection hq with hq; omega))
      have hw14 : w1.heap.size ≤ W4.heap.size := HW14.out
      have hfW : ∀ y ∈ acc, Fp w1.heap.size W y := fun y hy => hst ((HF.out y hy).mono hw14)
      have hrow := row_boxed (row_boxed (World.ownsRow.mono HO.out.1 hw14) (by decide) HBE.out hg9) (by decide) hz9 hgW
      go_wp2
      refine bodyPost_ret (v := confV c (.slice A1 n1 k1) (.slice A2 n2 k2) (.slice A3 n3 k3) (.slice A9 acc.length c9)) (by simp [results, Try.f43, go_sem, z0, z1, z2, z3, z4, z5, z6, z7]) rfl ⟨_, _, _, _, rfl, acc, w1.heap.size, Nat.le_trans HB1.out.size HC1.out.size, HL1.out, hst (HS1.out.below HBL.out (Nat.le_refl _)), hst (HS2.out.below HBL.out (Nat.le_refl _)), hst (HS3.out.below HBL.out (Nat.le_refl _)), po_of hrow hfW, hfW, ?_, hbW'⟩
      rw [HPE.out, HM.out]

end Go.Proofs.Ytdjkeakagmgfgaa.Co

namespace Go.Proofs.Ytdjkeakagmgfgaa.Co
set_option maxRecDepth 100000
set_option linter.unusedVariables false
set_option linter.unusedSimpArgs false
open Go.RowKit Ba Fm Fo
def pickW (l : List Pw) (e : ByteArray) : List Pw := l.filter fun x => decide (x.pe.el = e) && decide (x.pe.at_ ≠ [])
theorem pes_pickW (l : List Pw) (e : ByteArray) : pes (pickW l e) = pickP (pes l) e := by
  unfold pes pickW pickP
  rw [List.filter_map]
  rfl
theorem pickW_snoc {l : List Pw} {k : Nat} {x : Pw} (h : l[k]? = some x) (e : ByteArray) : pickW (l.take (k + 1)) e = pickW (l.take k) e ++ if x.pe.el = e ∧ x.pe.at_ ≠ [] then [x] else [] := by
  have hk : k < l.length := (List.getElem?_eq_some_iff.1 h).1
  have hx : l[k] = x := (List.getElem?_eq_some_iff.1 h).2
  unfold pickW
  rw [List.take_succ_eq_append_getElem hk, List.filter_append, hx]
  congr 1
  by_cases h1 : x.pe.el = e <;> by_cases h2 : x.pe.at_ = [] <;> simp [h1, h2]
theorem mem_pickW {l : List Pw} {e : ByteArray} {x : Pw} (h : x ∈ pickW l e) : x ∈ l := (List.mem_filter.1 h).1
theorem len_pickW (l : List Pw) (e : ByteArray) : (pickW l e).length ≤ l.length := List.length_filter_le _ _
def groupW (l : List Pw) (es : List ByteArray) : List Pw := es.flatMap (pickW l)
theorem pes_groupW (l : List Pw) : ∀ es : List ByteArray, pes (groupW l es) = groupL (pes l) es
  | [] => rfl
  | e :: es => by
    show pes (pickW l e ++ groupW l es) = pickP (pes l) e ++ groupL (pes l) es
    rw [pes_append, pes_pickW, pes_groupW l es]
theorem mem_groupW {l : List Pw} {x : Pw} : ∀ {es : List ByteArray}, x ∈ groupW l es → x ∈ l
  | [], h => by cases h
  | e :: es, h => by
    rcases List.mem_append.1 (show x ∈ pickW l e ++ groupW l es from h) with h | h
    · exact mem_pickW h
    · exact mem_groupW h
theorem len_groupW (l : List Pw) : ∀ es : List ByteArray, (groupW l es).length ≤ es.length * l.length
  | [] => by simp [groupW]
  | e :: es => by
    have h1 := len_pickW l e
    have h2 := len_groupW l es
    show (pickW l e ++ groupW l es).length ≤ _
    rw [List.length_append, List.length_cons, Nat.add_mul]
    omega
theorem groupW_snoc (l : List Pw) {es : List ByteArray} {k : Nat} (h : k < es.length) : groupW l (es.take (k + 1)) = groupW l (es.take k) ++ pickW l es[k] := by
  unfold groupW
  rw [List.take_succ_eq_append_getElem h, List.flatMap_append]
  simp

/-- What is the call's own stays where another block is written that holds neither. -/
theorem po_aside {N g : Nat} {w w' : World} {v : Value} {l : List Pw} (h : Po N w v l) (hg : w.grownBy w' (some g)) (hN : N ≤ g) (hp : ∀ cs fr, w.heap[g]? ≠ some (.cells cs 52 fr)) (hs : ∀ cs fr, w.heap[g]? ≠ some (.cells cs 9 fr)) : Po N w' v l := by
  refine ⟨⟨h.1.1, ?_⟩, fun x hx => ⟨?_, ?_⟩⟩
  · rcases h.1.2 with hn | ⟨b, cap, cur, hv, hb, hh, rest⟩
    · exact .inl hn
    · refine .inr ⟨b, cap, cur, hv, hb, ?_, rest⟩
      have hne : b ≠ g := fun e => hp _ _ (e ▸ hh)
      rw [hg.block b (Array.getElem?_eq_some_iff.1 hh).1 (by simpa using hne)]
      exact hh
  · obtain ⟨h1, h2⟩ := h.2 x hx
    obtain ⟨A, c, e, h3, h4, h5⟩ := h1
    refine ⟨A, c, e, h3, h4, fun h0 => ?_⟩
    obtain ⟨b, off, e2, hb, hc⟩ := h5 h0
    obtain ⟨b', off', e3, ha⟩ := h2 h0
    injection e with e4 e5 e6
    rw [e4, e2] at e3
    injection e3 with e3
    injection e3 with e7 e8
    subst e7
    have hne : b ≠ g := by
      rcases ha with ha | ⟨cs, fr, ha⟩
      · omega
      · exact fun e => hs _ _ (e ▸ ha)
    exact ⟨b, off, e2, Nat.lt_of_lt_of_le hb hg.size, fun j hj => (World.cell?_of_block (a := ⟨b, off + j, none⟩) (hg.block b hb (by simpa using hne))).trans (hc j hj)⟩
  · intro h0
    obtain ⟨b, off, e, ha⟩ := (h.2 x hx).2 h0
    refine ⟨b, off, e, ha.imp id ?_⟩
    rintro ⟨cs, fr, ha⟩
    have hne : b ≠ g := fun e => hs _ _ (e ▸ ha)
    exact ⟨cs, fr, (hg.block b (Array.getElem?_eq_some_iff.1 ha).1 (by simpa using hne)).trans ha⟩
/-- And where another one of the call's own grows. -/
theorem po_beside {N : Nat} {w w' : World} {v u : Value} {l m : List Pw} (h : Po N w u m) (hv : Po N w v l) (hg : w.grownBy w' v.ownBlock) (hne : ∀ b, u.ownBlock = some b → v.ownBlock ≠ some b) : Po N w' u m := by
  refine ⟨⟨h.1.1, ?_⟩, fun x hx => ⟨(h.2 x hx).1.grown hv.1 hg (h.2 x hx).2, (h.2 x hx).2.grown hv.1 hg⟩⟩
  rcases h.1.2 with hn | ⟨b, cap, cur, e, hb, hh, rest⟩
  · exact .inl hn
  · refine .inr ⟨b, cap, cur, e, hb, ?_, rest⟩
    subst e
    rw [hg.block b (Array.getElem?_eq_some_iff.1 hh).1 (fun e => hne b rfl e.symm)]
    exact hh

/-- Groups. -/
structure Gr (N : Nat) (w : World) (g : Nat) (gs : Array Value) (ps : List (List Pw)) : Prop where
  heap : w.heap[g]? = some (.cells gs 24)
  size : gs.size = ps.length
  low : N ≤ g
  own : ∀ (i : Nat) v p, gs[i]? = some v → ps[i]? = some p → Po N w v p
  apart : ∀ (i j : Nat) v u b, gs[i]? = some v → gs[j]? = some u → i ≠ j → v.ownBlock = some b → u.ownBlock ≠ some b
theorem Gr.lt {N g : Nat} {w : World} {gs : Array Value} {ps : List (List Pw)} (h : Gr N w g gs ps) : g < w.heap.size := (Array.getElem?_eq_some_iff.1 h.heap).1
theorem Gr.below {N g : Nat} {w w' : World} {gs : Array Value} {ps : List (List Pw)} (h : Gr N w g gs ps) (hb : Below w.heap.size w w') : Gr N w' g gs ps :=
  ⟨(hb.block g h.lt).trans h.heap, h.size, h.low, fun i v p h1 h2 => (h.own i v p h1 h2).below hb, h.apart⟩
theorem Gr.cell {N g : Nat} {w : World} {gs : Array Value} {ps : List (List Pw)} (h : Gr N w g gs ps) {j : Nat} {v : Value} (hj : gs[j]? = some v) : w.cell? ⟨g, j, none⟩ = some v ∧ w.frozen? ⟨g, j, none⟩ = false := by
  refine ⟨by rw [cell_of_row w g j _ _ _ h.heap]; exact hj, ?_⟩
  have := h.heap
  simp [World.frozen?, this]
theorem Gr.ne {N g : Nat} {w : World} {gs : Array Value} {ps : List (List Pw)} (h : Gr N w g gs ps) : (∀ cs fr, w.heap[g]? ≠ some (.cells cs 52 fr)) ∧ ∀ cs fr, w.heap[g]? ≠ some (.cells cs 9 fr) := by
  refine ⟨fun cs fr e => ?_, fun cs fr e => ?_⟩ <;>
  · rw [h.heap] at e
    injection e with e
    injection e with _ ht
    exact absurd ht (by decide)
theorem Gr.put {N g j : Nat} {w w1 : World} {gs : Array Value} {ps : List (List Pw)} {v v' : Value} {p : List Pw} {x : Pw} (h : Gr N w g gs ps) (hv : gs[j]? = some v) (hp : ps[j]? = some p) (hg : w.grownBy w1 v.ownBlock) (ho : Po N w1 v' (p ++ [x]))
    (hb : ∀ b, v'.ownBlock = some b → v.ownBlock = some b ∨ w.heap.size ≤ b) : Gr N (w1.setCell ⟨g, j, none⟩ v') g (gs.setIfInBounds j v') (ps.set j (p ++ [x])) := by
  have hjl : j < gs.size := (Array.getElem?_eq_some_iff.1 hv).1
  have hov := h.own j v p hv hp
  have hgne : some g ≠ v.ownBlock := fun e => by
    rcases hov.1.2 with ⟨e1, _⟩ | ⟨b, cap, cur, e1, _, hh, _⟩
    · subst e1
      simp [Value.ownBlock] at e
    · subst e1
      have e : g = b := by simpa [Value.ownBlock] using e
      subst e
      exact h.ne.1 _ _ hh
  have h1 : w1.heap[g]? = some (.cells gs 24) := (hg.block g h.lt hgne).trans h.heap
  have hne1 : (∀ cs fr, w1.heap[g]? ≠ some (.cells cs 52 fr)) ∧ ∀ cs fr, w1.heap[g]? ≠ some (.cells cs 9 fr) := by
    rw [h1, ← h.heap]
    exact h.ne
  refine ⟨?_, by rw [Array.size_setIfInBounds, List.length_set]; exact h.size, h.low, fun i u q hu hq => ?_, fun i i2 u u2 b hu hu2 hii hub => ?_⟩
  · simp [World.setCell, Array.getElem?_modify, h1, Array.setIfInBounds, hjl]
  · refine po_aside ?_ (gcell12 w1 g j v') h.low hne1.1 hne1.2
    by_cases hij : i = j
    · subst hij
      rw [Array.getElem?_setIfInBounds_self_of_lt hjl] at hu
      rw [List.getElem?_set_self (by rw [← h.size]; exact hjl)] at hq
      injection hu with hu
      injection hq with hq
      subst hu hq
      exact ho
    · rw [Array.getElem?_setIfInBounds_ne (Ne.symm hij)] at hu
      rw [List.getElem?_set_ne (Ne.symm hij)] at hq
      exact po_beside (h.own i u q hu hq) hov hg fun b hb => h.apart i j u v b hu hv hij hb
  · by_cases hij : i = j
    · subst hij
      rw [Array.getElem?_setIfInBounds_self_of_lt hjl] at hu
      injection hu with hu
      subst hu
      rw [Array.getElem?_setIfInBounds_ne hii] at hu2
      rcases hb b hub with e | e
      · exact h.apart i i2 v u2 b hv hu2 hii e
      · intro e2
        have hlt : i2 < ps.length := by rw [← h.size]; exact (Array.getElem?_eq_some_iff.1 hu2).1
        have := (World.ownsRow.lt (h.own i2 u2 _ hu2 (List.getElem?_eq_getElem hlt)).1 b e2).2
        omega
    · rw [Array.getElem?_setIfInBounds_ne (Ne.symm hij)] at hu
      by_cases hij2 : i2 = j
      · subst hij2
        rw [Array.getElem?_setIfInBounds_self_of_lt hjl] at hu2
        injection hu2 with hu2
        subst hu2
        intro e2
        rcases hb b e2 with e | e
        · exact h.apart i i2 u v b hu hv hii hub e
        · have hlt : i < ps.length := by rw [← h.size]; exact (Array.getElem?_eq_some_iff.1 hu).1
          have := (World.ownsRow.lt (h.own i u _ hu (List.getElem?_eq_getElem hlt)).1 b hub).2
          omega
      · rw [Array.getElem?_setIfInBounds_ne (Ne.symm hij2)] at hu2
        exact h.apart i i2 u u2 b hu hu2 hii hub

/-- append of one, in whatever order; where the result lies. -/
theorem step_app_perL {ops : Array Oper} {o : Oper} {a : Act} {K : Act → World → Prop} {Q : Exit → Act → World → Prop} {E : Prop} (W : World) (hgd : o.guard = none) (s x : Operand)
    (ho : o.op = .call { callee := .builtin .append, args := #[s, x], argTypes := #[24, 24] })
    (W0 : World) (N : Nat) (v : Value) (l : List Pw) (z : Pw) (hr : Po N W0 v l) (hz1 : Sx W0 W0.heap.size z) (hz2 : Ap W0 N z) (hg : W0.grownBy W none) (hN : N ≤ W0.heap.size) (hl : l.length ≤ 2000000)
    (hs : a.eval s = v) (g0 : Nat) (hx : a.eval x = .slice (some ⟨g0, 0, none⟩) 1 1) (hz : W.heap[g0]? = some (perO z))
    (h : ∀ g cap w', Po N w' (.slice (some ⟨g, 0, none⟩) (l.length + 1) cap) (l ++ [z]) → W0.grownBy w' v.ownBlock → (v.ownBlock = some g ∨ W0.heap.size ≤ g) → K (a.put o.dst (.slice (some ⟨g, 0, none⟩) (l.length + 1) cap)) w') :
    if Region.wanted o (yielded ops a.tmps) = true then Oper.wp Try.prog o a W K Q else E := by
  obtain ⟨i0, hi, hz0, hz1', hz2'⟩ := info_parts info_per
  have hown : W.ownsRow N 52 2 v l.length (l.flatMap pcells) := World.ownsRow.kept hr.1 hg (by cases hv : v.ownBlock with
    | none => exact .inl rfl
    | some k => right; simp)
  refine step_append_lies W hgd s x 24 ho N 52 i0 _ 2 40 Try.underlying24 hi hz0 hz1' hz2' rfl (by decide) v l.length (l.flatMap pcells) hs hown ⟨g0, 0, none⟩ 1 1 (pcells z) hx rfl (fun j u hu => World.news_of_block hz j u hu) (pcells_one z) (by decide) (by unfold maxLen; omega) (by omega) (Nat.le_trans hN hg.size) _ rfl ?_
  intro g cap w1 h1 h2 h3 _
  have hgw : W0.grownBy w1 v.ownBlock := grown_none hg h2
  refine h g cap w1 ⟨by rw [List.length_append, List.flatMap_append]; simpa using h1, fun y hy => ?_⟩ hgw (h3.imp id fun e => by rw [e]; exact hg.size)
  rcases List.mem_append.1 hy with hy | hy
  · exact ⟨(hr.2 y hy).1.grown hr.1 hgw (hr.2 y hy).2, (hr.2 y hy).2.grown hr.1 hgw⟩
  · obtain rfl := List.mem_singleton.1 hy
    exact ⟨hz1.grown hr.1 hgw hz2, hz2.grown hr.1 hgw⟩

end Go.Proofs.Ytdjkeakagmgfgaa.Co

namespace Go.Proofs.Ytdjkeakagmgfgaa.Co
set_option maxRecDepth 100000
set_option linter.unusedVariables false
set_option linter.unusedSimpArgs false
open Go.RowKit Ba Fm Fo Nm Rk
theorem info_pers : (Try.prog.info? 24).map (fun i => (i.zero, i.size, i.bytes)) = some (some (.slice none 0 0), 1, 24) := by kernel_rfl
theorem made_at (n i : Nat) (h : i < n) : (madeCells #[Value.slice none 0 0] n)[i]? = some (.slice none 0 0) := by
  unfold madeCells
  rw [Array.getElem?_map, Array.getElem?_range, if_pos h]
  simp [Nat.mod_one]
theorem Gr.made (N : Nat) (w : World) (hN : N ≤ w.heap.size) (es : List ByteArray) : Gr N (w.alloc (.cells (madeCells #[.slice none 0 0] es.length) 24)) w.heap.size (madeCells #[.slice none 0 0] es.length) (es.map (pickW [])) := by
  have hz : ∀ (i : Nat) v, (madeCells #[Value.slice none 0 0] es.length)[i]? = some v → v = .slice none 0 0 := fun i v hv => by
    have hi : i < es.length := by
      have := (Array.getElem?_eq_some_iff.1 hv).1
      rwa [size_madeCells] at this
    rw [made_at _ _ hi] at hv
    injection hv with hv
    exact hv.symm
  refine ⟨heap_alloc_new w _, by rw [size_madeCells, List.length_map], hN, fun i v p hv hp => ?_, fun i j v u b hv _ _ hb => ?_⟩
  · have := hz i v hv
    subst this
    rw [List.getElem?_map] at hp
    obtain ⟨e, _, rfl⟩ := Option.map_eq_some_iff.1 hp
    exact Po.nil _ _
  · have := hz i v hv
    subst this
    simp [Value.ownBlock] at hb
theorem find_at {es : List ByteArray} (ha : Asc lt es) {s : ByteArray} (hs : s ∈ es) : ∃ h : below lt es s < es.length, es[below lt es s] = s := by
  obtain ⟨k, hk, rfl⟩ := List.getElem_of_mem hs
  have := below_at ord_lt ha hk
  exact ⟨by rw [this]; exact hk, by simp [this]⟩
theorem els_succ {l : List Pw} {k : Nat} {x : Pw} (h : l[k]? = some x) : (pes (l.take (k + 1))).map Pe.el = (pes (l.take k)).map Pe.el ++ [x.pe.el] := by
  have hk : k < l.length := (List.getElem?_eq_some_iff.1 h).1
  have hx : l[k] = x := (List.getElem?_eq_some_iff.1 h).2
  rw [List.take_succ_eq_append_getElem hk, pes_append, hx, List.map_append]
  rfl
/-- The groups behind one more. -/
theorem picks_put {es : List ByteArray} (ha : Asc lt es) {l : List Pw} {k j : Nat} {x : Pw} (h : l[k]? = some x) (hx : x.pe.at_ ≠ []) (hj : j < es.length) (he : es[j] = x.pe.el) :
    es.map (pickW (l.take (k + 1))) = (es.map (pickW (l.take k))).set j (pickW (l.take k) es[j] ++ [x]) := by
  apply List.ext_getElem?
  intro i
  by_cases hij : i = j
  · subst hij
    rw [List.getElem?_set_self (by rw [List.length_map]; exact hj), List.getElem?_map, List.getElem?_eq_getElem hj, Option.map_some, pickW_snoc h, if_pos ⟨he.symm, hx⟩]
  · rw [List.getElem?_set_ne (Ne.symm hij), List.getElem?_map, List.getElem?_map]
    by_cases hi : i < es.length
    · rw [List.getElem?_eq_getElem hi, Option.map_some, Option.map_some, pickW_snoc h, if_neg, List.append_nil]
      rintro ⟨e, _⟩
      have : es[i] = es[j] := e.symm.trans he.symm
      exact hij (List.getElem_inj (asc_nodup ha) |>.1 this)
    · rw [List.getElem?_eq_none (by omega)]
      rfl
theorem picks_same (es : List ByteArray) {l : List Pw} {k : Nat} {x : Pw} (h : l[k]? = some x) (hx : x.pe.at_ = []) : es.map (pickW (l.take (k + 1))) = es.map (pickW (l.take k)) := by
  refine List.map_congr_left fun e _ => ?_
  rw [pickW_snoc h, if_neg (fun hc => hc.2 hx), List.append_nil]

set_option maxRecDepth 100000 in
set_option maxHeartbeats 4000000 in
theorem grouped1 (v : Value) (l : List Pw) (w : World) (h : Pv w w.heap.size v l) (hl : l.length ≤ 1000) :
    Calls Try.prog 45 #[v] w fun r w' => ∃ v', r = .returned v' ∧ Po w.heap.size w' v' (groupW l (srt lt ((pes l).map Pe.el))) ∧ Below w.heap.size w w' := by
  obtain ⟨A, cp, rfl, hcp, hna, hr⟩ := h
  obtain ⟨els, hels⟩ : ∃ els, (pes l).map Pe.el = els := ⟨_, rfl⟩
  have hell : els.length = l.length := by rw [← hels, List.length_map, len_pes]
  have hmem : ∀ x ∈ l, x.pe.el ∈ els := fun x hx => by
    rw [← hels]
    exact List.mem_map.2 ⟨x.pe, List.mem_map.2 ⟨x, hx, rfl⟩, rfl⟩
  rw [hels]
  obtain ⟨es, hes⟩ : ∃ es, srt lt els = es := ⟨_, rfl⟩
  have hel2 : es.length ≤ l.length := by rw [← hes, ← hell]; exact len_srt lt els
  have hasc : Asc lt es := by rw [← hes]; exact (srt_is ord_lt els).1
  have hmem2 : ∀ x ∈ l, x.pe.el ∈ es := fun x hx => by rw [← hes]; exact mem_srt.2 (hmem x hx)
  have HELL := Lib.hid hell; have HASC := Lib.hid hasc; have HMEM := Lib.hid hmem2; have HELS := Lib.hid hels; have HES := Lib.hid hes
  rw [hes]
  clear hell hasc hmem hmem2 hes hels
  have HR := Lib.hid hr; clear hr
  go_enter Try.func45, Try.ntmps45
  go_wp2
  go_loopw [3, 5, 16] (fun v _ i wr => ∃ k : Nat, i = .int .i64 k ∧ k ≤ l.length ∧ Sown w.heap.size wr v ((pes (l.take k)).map Pe.el) ∧ Below w.heap.size w wr) (fun _ _ i _ => l.length - (intOf i).toNat)
  case atStart => exact ⟨0, rfl, Nat.zero_le _, Sown.nil _ _, Below.refl _ _⟩
  case round =>
    obtain ⟨k, rfl, hks, hown, hbel⟩ := hrel
    by_cases hk : k < l.length
    · obtain ⟨b, off, x, rfl, hb, hx, hcs, hsx, hxm⟩ := (HR.out.below hbel).at_ k hk
      obtain ⟨g0, g1⟩ := range2p hcs
      have hbd : (((pes (l.take k)).map Pe.el).length + 1) * 16 ≤ 140737488355328 := by
        rw [List.length_map, len_pes, List.length_take]
        omega
      have hbel7 := hbel.trans ((below_new12 wr (perO x)).mono hbel.size)
      have hown7 := hown.below (below_new12 wr (perO x)) (Nat.le_refl _)
      have HE := Lib.hid (els_succ hx); have HO7 := Lib.hid hown7; have HB7 := Lib.hid hbel7
      clear hcs hsx hown hbel hown7 hbel7 hx
      go_wp2_with (at_builtin; refine app_oneG (wr.alloc (perO x)) rfl (.tmp 20) (.tmp 23) rfl w.heap.size _ _ x.pe.el rfl HO7.out (wr.heap.size + 1) (by simp) rfl hbd HB7.out.size ?_; intro v3 w3 hown3 hk3)
      go_roundw
      case rel => exact ⟨k + 1, by go_num, by omega, by rw [HE.out]; exact hown3, hk3 _ HB7.out⟩
      case measure => simp [intOf]; omega
    · rw [List.take_of_length_le (by omega)] at hown
      rw [HELS.out] at hown
      have HBL := Lib.hid hbel
      have hsrt := sorted_any _ els wr (sv_own hown) (by have := HELL.out; omega)
      rw [HES.out] at hsrt
      have HSRT := Lib.hid hsrt
      clear hown hbel hks hsrt
      go_wp2_with fail
      refine HSRT.out.mono ?_
      rintro r w4 ⟨v4, rfl, ho4, hb4⟩
      obtain ⟨D, cd, rfl, hcd, hnd, hrd⟩ := sv_own ho4
      have hbel4 := HBL.out.trans (hb4.mono HBL.out.size)
      have hgm := Gr.made w4.heap.size w4 (Nat.le_refl _) es
      have HRD := Lib.hid hrd; have HB4 := Lib.hid hbel4; have HGM := Lib.hid hgm
      obtain ⟨i0, hi, hz0, hz1, hz2⟩ := info_parts info_pers
      clear ho4 hb4 hrd hbel4 hgm HSRT HBL
      go_wp2_with (at_make; refine wpList_make_row w4 rfl (.tmp 29) (.tmp 29) 84 rfl 24 i0 (.slice none 0 0) Try.underlying84 hi hz0 hz1 rfl .i64 .i64 es.length rfl rfl (by rw [hz2]; omega) (by omega) ?_)
      obtain ⟨w5, hw5⟩ : ∃ w5, w4.alloc (.cells (madeCells #[.slice none 0 0] es.length) 24) = w5 := ⟨_, rfl⟩
      have hgm5 : Gr w4.heap.size w5 w4.heap.size (madeCells #[.slice none 0 0] es.length) (es.map (pickW [])) := hw5 ▸ HGM.out
      have hb5 : Below w4.heap.size w4 w5 := hw5 ▸ below_new12 w4 _
      rw [hw5]
      have HGM5 := Lib.hid hgm5; have HB5 := Lib.hid hb5
      clear hgm5 hb5 hw5 HGM hz0 hz1 hz2 hi
      go_loopw [8, 9, 10, 33] (fun _ _ _ i wr => ∃ (k : Nat) (gs : Array Value), i = .int .i64 k ∧ k ≤ l.length ∧ Gr w4.heap.size wr w4.heap.size gs (es.map (pickW (l.take k))) ∧ Below w4.heap.size w4 wr) (fun _ _ _ i _ => l.length - (intOf i).toNat)
      case atStart => exact ⟨0, _, rfl, Nat.zero_le _, HGM5.out, HB5.out⟩
      case round =>
        clear HGM5 HB5
        obtain ⟨k, gs, rfl, hks, hgr, hbel⟩ := hrel
        have hbw : Below w.heap.size w wr := HB4.out.trans (hbel.mono HB4.out.size)
        by_cases hk : k < l.length
        · obtain ⟨b, off, x, rfl, hb, hx, hcs, hsx, hxm⟩ := (HR.out.below hbw).at_ k hk
          obtain ⟨g0, g1⟩ := range2p hcs
          have hb7 : Below wr.heap.size wr (wr.alloc (perO x)) := below_new12 wr (perO x)
          have hgr7 := hgr.below hb7
          have hbel7 := hbel.trans (hb7.mono hbel.size)
          have hsx7 : Sx (wr.alloc (perO x)) (wr.alloc (perO x)).heap.size x := ((hsx.more hbw.size).below hb7).more hb7.size
          have HX := Lib.hid hx; have HGR := Lib.hid hgr7; have HBL := Lib.hid hbel7; have HSX := Lib.hid hsx7; have HXM := Lib.hid hxm; have HBW := Lib.hid hbw; have HAP := Lib.hid (hsx.apart)
          clear hcs hsx hgr hbel hbw hgr7 hbel7 hsx7 hb7 hx hxm
          by_cases he : x.pe.at_ = []
          · have hl0 : x.pe.at_.length = 0 := by rw [he]; rfl
            have HP := Lib.hid (picks_same es HX.out he)
            have hd : decide (0 < x.pe.at_.length) = false := decide_eq_false (by omega)
            clear he hl0
            go_wp2
            go_roundw
            case rel => exact ⟨k + 1, gs, by go_num, by omega, by rw [HP.out]; exact HGR.out, HBL.out⟩
            case measure => simp [intOf]; omega
          · have hl0 : 0 < x.pe.at_.length := List.length_pos_iff.2 he
            have hd : decide (0 < x.pe.at_.length) = true := decide_eq_true hl0
            obtain ⟨hj, hje⟩ := find_at HASC.out (HMEM.out x HXM.out)
            have hfind := find_any D cd es x.pe.el (wr.alloc (perO x)) ((HRD.out.below HBL.out (Nat.le_refl _)).more HBL.out.size) (by omega) HASC.out
            have hje2 : es[below lt es x.pe.el]? = some x.pe.el := by rw [List.getElem?_eq_getElem hj, hje]
            clear hje
            obtain ⟨j, hjj⟩ : ∃ j, below lt es x.pe.el = j := ⟨_, rfl⟩
            rw [hjj] at hfind hj hje2
            have HFI := Lib.hid hfind; have HJE := Lib.hid hje2; have HNE := Lib.hid he
            clear hfind hje2 hjj he
            go_wp2_with fail
            refine HFI.out.mono ?_
            rintro r w8 ⟨rfl, hb8⟩
            have hgr8 := HGR.out.below hb8
            have hjg : j < gs.size := by rw [hgr8.size, List.length_map]; exact hj
            obtain ⟨vj, hvj⟩ : ∃ v, gs[j]? = some v := ⟨_, Array.getElem?_eq_getElem hjg⟩
            obtain ⟨pj, hpj⟩ : ∃ p, (es.map (pickW (l.take k)))[j]? = some p := ⟨_, List.getElem?_eq_getElem (by rw [List.length_map]; exact hj)⟩
            have hown8 := hgr8.own j vj pj hvj hpj
            have hpl : pj.length ≤ 2000000 := by
              rw [List.getElem?_map] at hpj
              obtain ⟨e, _, rfl⟩ := Option.map_eq_some_iff.1 hpj
              have := len_pickW (l.take k) e
              rw [List.length_take] at this
              omega
            obtain ⟨gc, gf⟩ := hgr8.cell hvj
            have e0 : w8.cell? ⟨wr.heap.size, 0, none⟩ = some (.string x.pe.el) := pbox_kept hb8 0
            have e1 : w8.cell? ⟨wr.heap.size, 1, none⟩ = some (.slice x.A x.pe.at_.length x.c) := pbox_kept hb8 1
            have hsx8 := (HSX.out.below hb8).more hb8.size
            have hap8 : Ap w8 w4.heap.size x := (((show Ap wr w.heap.size x from HAP.out).below (below_new12 wr (perO x))).below hb8).more HB4.out.size
            have HB8 := Lib.hid (HBL.out.trans (hb8.mono HBL.out.size)); have HGR8 := Lib.hid hgr8; have HO8 := Lib.hid hown8; have HS8 := Lib.hid hsx8; have HA8 := Lib.hid hap8; have HVJ := Lib.hid hvj; have HPJ := Lib.hid hpj
            have HGC := Lib.hid (fun W (hg : w8.grownBy W vj.ownBlock) => (show W.frozen? ⟨w4.heap.size, j, none⟩ = false ∧ W.cell? ⟨w4.heap.size, j, none⟩ = some vj from by
              have hne : some w4.heap.size ≠ vj.ownBlock := fun e => by
                rcases hown8.1.2 with ⟨e1, _⟩ | ⟨b1, cap1, cur1, e1, _, hh1, _⟩
                · subst e1
                  simp [Value.ownBlock] at e
                · subst e1
                  have e : w4.heap.size = b1 := by simpa [Value.ownBlock] using e
                  subst e
                  exact hgr8.ne.1 _ _ hh1
              have e := hg.block _ hgr8.lt hne
              exact ⟨(World.frozen?_of_block (a := ⟨w4.heap.size, j, none⟩) e).trans gf, (World.cell?_of_block (a := ⟨w4.heap.size, j, none⟩) e).trans gc⟩))
            have hpk := picks_put HASC.out HX.out HNE.out hj (by have := HJE.out; rw [List.getElem?_eq_getElem hj] at this; injection this)
            have hpj2 : pickW (l.take k) es[j] = pj := by rw [List.getElem?_map, List.getElem?_eq_getElem hj] at hpj; injection hpj
            rw [hpj2] at hpk
            have HPK := Lib.hid hpk
            clear hpk hpj2
            have hj0 : (0 : Int) ≤ (j : Int) := by omega
            have hj1 : (j : Int) < (es.length : Int) := by omega
            have gc2 : (w8.alloc (perO x)).cell? ⟨w4.heap.size, j, none⟩ = some vj := (World.cell?_alloc_lt w8 (perO x) ⟨w4.heap.size, j, none⟩ hgr8.lt).trans gc
            clear hb8 hgr8 hown8 hsx8 hap8 hvj hpj
            go_wp2_with fail
            go_region_law (refine step_app_perL _ (by rfl) (.tmp 53) (.tmp 55) (by rfl) w8 w4.heap.size vj pj x HO8.out HS8.out HA8.out (by first | exact (World.grownBy_alloc w8 _ _).trans (grown_drew _ 1 _) | exact (grown_drew w8 1 _).trans (World.grownBy_alloc _ _ _)) HB8.out.size hpl (by simp [Act.eval, Act.put]) _ (by simp [Act.eval, Act.put]) (heap_alloc_new _ _) ?_; intro g9 c9 w9 ho9 hg9 hl9; obtain ⟨gf9, gc9⟩ := HGC.out _ hg9)
            all_goals go_wp2
            all_goals go_roundw
            all_goals first
              | (refine ⟨k + 1, _, by go_num, by omega, HPK.out ▸ HGR8.out.put HVJ.out HPJ.out hg9 ho9 (fun b hb => ?_), (HB8.out.grown hg9 HB8.out.size (fun q hq => (World.ownsRow.lt HO8.out.1 q hq).1)).grown (gcell12 _ _ _ _) (Nat.le_trans HB8.out.size hg9.size) (fun q hq => by injection hq with hq; omega)⟩
                 injection hb with hb
                 exact hb ▸ hl9)
              | (simp [intOf]; omega)
        · rw [List.take_of_length_le (by omega)] at hgr
          have HG := Lib.hid hgr; have HBL := Lib.hid hbel; have HBW := Lib.hid hbw
          have hzz : w4.heap.size < wr.heap.size := hgr.lt
          clear hgr hbel hbw hks
          obtain ⟨W, hW⟩ : ∃ W, W = wr := ⟨_, rfl⟩
          subst hW
          go_wp2
          clear hk
          go_loopw [11, 13, 61] (fun v _ i wr => ∃ (k : Nat) (acc : List Pw), i = .int .i64 k ∧ k ≤ es.length ∧ acc = groupW l (es.take k) ∧ Po W.heap.size wr v acc ∧ Below W.heap.size W wr) (fun _ _ i _ => es.length - (intOf i).toNat)
          case atStart => exact ⟨0, [], rfl, Nat.zero_le _, rfl, Po.nil _ _, Below.refl _ _⟩
          case round =>
            obtain ⟨k, acc, rfl, hks, hacc, hown, hbel⟩ := hrel
            have hal : acc.length ≤ 1000000 := by
              have h1 := len_groupW l (es.take k)
              rw [← hacc, List.length_take] at h1
              have h2 : min k es.length * l.length ≤ 1000 * 1000 := Nat.mul_le_mul (by omega) hl
              omega
            by_cases hk : k < es.length
            · have hg := HG.out
              obtain ⟨u, hu⟩ : ∃ v, gs[k]? = some v := ⟨_, Array.getElem?_eq_getElem (by rw [hg.size, List.length_map]; exact hk)⟩
              have hp : (es.map (pickW l))[k]? = some (pickW l es[k]) := by rw [List.getElem?_map, List.getElem?_eq_getElem hk]; rfl
              have how := hg.own k u _ hu hp
              have hac2 := groupW_snoc l hk
              rw [← hacc] at hac2
              generalize pickW l es[k] = pk at *
              have hpkl : pk.length ≤ 1000000 := by
                have h1 := len_groupW l (es.take (k + 1))
                rw [hac2, List.length_append, List.length_take] at h1
                have h2 : min (k + 1) es.length * l.length ≤ 1000 * 1000 := Nat.mul_le_mul (by omega) hl
                omega
              obtain ⟨A9, c9, rfl, _, _, hn9, hr9⟩ := how.form
              have gc := ((hg.below hbel).cell hu).1
              have HO := Lib.hid hown; have HB := Lib.hid hbel; have HR9 := Lib.hid ((hr9.below hbel).more hbel.size); have HA9 := Lib.hid (fun y (hy : y ∈ pk) => (((how.2 y hy).1.apart).below hbel : Ap wr W.heap.size y)); have HAC := Lib.hid hac2
              clear how hown hbel hr9 hacc hac2 hg hp hu
              go_wp2_with (at_builtin; refine app_pers wr rfl (.tmp 65) (.tmp 66) rfl W.heap.size _ acc pk A9 c9 rfl HO.out rfl hn9 HR9.out HA9.out (by omega) HB.out.size ?_; intro v3 w3 hown3 hk3 hs3 hg3)
              go_roundw
              case rel => exact ⟨k + 1, acc ++ pk, by go_num, by omega, HAC.out.symm, hown3, hk3 _ HB.out⟩
              case measure => simp [intOf]; omega
            · rw [List.take_of_length_le (by omega)] at hacc
              subst hacc
              have hbe := HBW.out.trans (hbel.mono HBW.out.size)
              have hfin : Po w.heap.size wr u11 (groupW l es) := ⟨World.ownsRow.mono hown.1 HBW.out.size, fun x hx => ⟨(hown.2 x hx).1, ((HR.out.below hbe).2 x (mem_groupW hx)).apart⟩⟩
              have HF := Lib.hid hfin; have HBE := Lib.hid hbe
              clear hown hbel hfin hbe hal
              go_wp2
              go_ret
              exact ⟨_, rfl, HF.out, HBE.out⟩

end Go.Proofs.Ytdjkeakagmgfgaa.Co

namespace Go.Proofs.Ytdjkeakagmgfgaa.Co
set_option maxRecDepth 100000
set_option linter.unusedVariables false
set_option linter.unusedSimpArgs false
open Go.RowKit Ba Fm Fo Nm Rk
set_option maxRecDepth 100000 in
set_option maxHeartbeats 4000000 in
theorem canon1 (v : Value) (c : Cf) (w : World) (h : Cv w w.heap.size v c) (hs : Sm c) :
    Calls Try.prog 24 #[v] w fun r w' => ∃ v', r = .returned v' ∧ Cow w.heap.size w' v' (canonC c) ∧ Below w.heap.size w w' := by
  obtain ⟨vE, vR, vA, vP, l, rfl, h⟩ := h
  obtain ⟨w0, hw0⟩ : ∃ w0, (w.alloc (confO c vE vR vA vP)).alloc zeroO = w0 := ⟨_, rfl⟩
  have hba : Below w.heap.size w (w.alloc (confO c vE vR vA vP)) := below_new12 w _
  have hb1 : Below w.heap.size w w0 := hw0 ▸ hba.trans ((below_new12 _ _).mono hba.size)
  have hz : w0.heap.size = w.heap.size + 2 := by rw [← hw0]; simp
  have hzb : Hb w0 (w.heap.size + 1) zeroA := by
    rw [← hw0]
    have := Hb.new (w.alloc (confO c vE vR vA vP)) zeroA
    rwa [World.size_alloc] at this
  have hcv : Cv w0 w0.heap.size (confV c vE vR vA vP) c := ⟨vE, vR, vA, vP, l, rfl, h.on hb1⟩
  have hbx : Bx w0 w.heap.size c vE vR vA vP := hw0 ▸ (Bx.new w c vE vR vA vP).below (below_new12 _ _) (by simp)
  have HRG := Lib.hid (hbx : w0.rangeAt w.heap.size 0 _)
  have HRM := Lib.hid (remade_S (confV c vE vR vA vP) c w0 hcv hs)
  have HW := Lib.hid hw0; have HB1 := Lib.hid hb1; have HZB := Lib.hid hzb
  have hpl := hs.p
  clear hs h hb1 hw0 hba hzb hcv hbx
  go_enter Try.func24, Try.ntmps24
  go_upto_region 1 with (fail)
  rw [HW.out]
  go_wp2_with (first
    | (show wpList _ _ _ (⟨_, Op.load 26 (.tmp 1), _, _, _, _⟩ :: _) _ _; refine wpList_load_mid rfl 26 (.tmp 1) rfl w.heap.size 0 rfl _ _ HRG.out Try.underlying26 rfl size_conf ?_)
    | (go_at_call 43; refine HRM.out.mono ?_; rintro r w1 ⟨x1, x2, x3, x4, l1, M, rfl, hM, -, ho1, ho2, ho3, ho4, hf4, hm4, hb4⟩; replace ho2 := ho2.mono hM; replace ho3 := ho3.mono hM; replace hf4 := fun x hx => (hf4 x hx).mono hM; clear hM; obtain ⟨A1, n1, k1, rfl⟩ := own_shape ho1; obtain ⟨A2, n2, k2, rfl⟩ := own_shape ho2; obtain ⟨A3, n3, k3, rfl⟩ := own_shape ho3; obtain ⟨A4, k4, rfl, -⟩ := ho4.form; have HO1 := Lib.hid ho1; have HO2 := Lib.hid ho2; have HO3 := Lib.hid ho3; have HO4 := Lib.hid ho4; have HF4 := Lib.hid hf4; have HM4 := Lib.hid hm4; have HB4 := Lib.hid hb4; clear ho1 ho2 ho3 ho4 hf4 hm4 hb4)
    | fail)
  obtain ⟨w2, hw2⟩ : ∃ w2, w1.alloc (confO c (.slice A1 n1 k1) (.slice A2 n2 k2) (.slice A3 n3 k3) (.slice A4 l1.length k4)) = w2 := ⟨_, rfl⟩
  have hb2 : Below w1.heap.size w1 w2 := hw2 ▸ below_new12 w1 _
  have hx2 : Hb w2 w1.heap.size #[.bool c.allow, .bool c.attrsAllow, .slice A1 n1 k1, .slice A2 n2 k2, .slice A3 n3 k3, .slice A4 l1.length k4, .bool c.comments, .bool c.dataAttrs] := hw2 ▸ Hb.new w1 _
  have hl1 : l1.length ≤ 1000 := by
    have := congrArg List.length HM4.out
    rw [len_pes, List.length_map] at this
    omega
  have hbel1 : Below w.heap.size w w1 := HB1.out.trans (HB4.out.mono HB1.out.size)
  have hz1 : w.heap.size + 1 < w1.heap.size := Nat.lt_of_lt_of_le (by omega) HB4.out.size
  have HB2 := Lib.hid hb2; have HX2 := Lib.hid hx2; have HBL1 := Lib.hid hbel1
  rw [hw2]
  clear hb2 hx2 hw2 hbel1
  refine (grouped1 _ l1 w2 ((Po.pv HO4.out).on HB2.out) hl1).mono ?_
  rintro r w3 ⟨v5, rfl, ho5, hb5⟩
  obtain ⟨A5, n5, k5, rfl⟩ := po_shape ho5
  have hx3 := HX2.out.on hb5
  have c5 := hx3.cell 5 _ rfl; have f5 := hx3.f 5
  have hz3 : Hb w3 (w.heap.size + 1) zeroA := ((HZB.out.on HB4.out).on HB2.out).on hb5
  have hm5 : pes (groupW l1 (srt lt ((pes l1).map Pe.el))) = (canonC c).per := by
    rw [pes_groupW, HM4.out]
    show groupL (c.per.map sortP) (srt lt ((c.per.map sortP).map Pe.el)) = _
    rw [map_el]
    rfl
  have hsz : w.heap.size ≤ w0.heap.size := by omega
  have hst : ∀ {v : Value} {m : List ByteArray}, Sown w0.heap.size w1 v m → Sown w.heap.size w3 v m := fun h => ((h.mono hsz).below HB2.out (Nat.le_refl _)).below hb5 (Nat.le_refl _)
  have hf5 : ∀ x ∈ groupW l1 (srt lt ((pes l1).map Pe.el)), Fp w.heap.size w3 x := fun x hx => hst (HF4.out x (mem_groupW hx))
  have ho12 : Own12 w.heap.size w3 (canonC c) (.slice A1 n1 k1) (.slice A2 n2 k2) (.slice A3 n3 k3) (.slice A5 n5 k5) (groupW l1 (srt lt ((pes l1).map Pe.el))) := ⟨hst HO1.out, hst HO2.out, hst HO3.out, po_of (World.ownsRow.mono ho5.1 (Nat.le_trans HBL1.out.size HB2.out.size)) hf5, hf5, hm5⟩
  have hbel3 : Below w.heap.size w w3 := (HBL1.out.trans (HB2.out.mono HBL1.out.size)).trans (hb5.mono (Nat.le_trans HBL1.out.size HB2.out.size))
  have HX3 := Lib.hid hx3; have HZ3 := Lib.hid hz3; have HO12 := Lib.hid ho12; have HBL3 := Lib.hid hbel3
  clear hx3 hz3 hm5 hsz hst hf5 ho12 hbel3 ho5 hb5
  go_upto_region 3 with (fail)
  obtain ⟨W9, hW9⟩ : ∃ W9, w3.setCell ⟨w1.heap.size, 5, none⟩ (.slice A5 n5 k5) = W9 := ⟨_, rfl⟩
  have hg9 : w3.grownBy W9 (some w1.heap.size) := hW9 ▸ gcell12 w3 _ 5 _
  have hx9 : Hb W9 w1.heap.size #[.bool c.allow, .bool c.attrsAllow, .slice A1 n1 k1, .slice A2 n2 k2, .slice A3 n3 k3, .slice A5 n5 k5, .bool c.comments, .bool c.dataAttrs] := hW9 ▸ HX3.out.set 5 (.slice A5 n5 k5)
  have hz9 : Hb W9 (w.heap.size + 1) zeroA := HZ3.out.keep (hg9.block _ HZ3.out.lt (by simp; omega))
  rw [hW9]
  have HRG9 := Lib.hid hx9.range; have HTH := Lib.hid (hz9.there 8 rfl)
  clear hW9
  go_wp2_with (first
    | (show wpList _ _ _ (⟨_, Op.load 26 (.tmp 3), _, _, _, _⟩ :: _) _ _; refine wpList_load_mid rfl 26 (.tmp 3) rfl w1.heap.size 0 rfl _ _ HRG9.out Try.underlying26 rfl size_conf ?_)
    | (show wpList _ _ _ (⟨none, Op.store 26 (.tmp 2) (.tmp 10), _, _, _, _⟩ :: _) _ _; refine wpList_store_mid rfl 26 (.tmp 2) (.tmp 10) rfl (w.heap.size + 1) 0 #[.bool c.allow, .bool c.attrsAllow, .slice A1 n1 k1, .slice A2 n2 k2, .slice A3 n3 k3, .slice A5 n5 k5, .bool c.comments, .bool c.dataAttrs] rfl rfl HTH.out size_conf (by simp [Value.oneCell']) ?_))
  obtain ⟨W, hW, hgW, hbW⟩ := res_box (c := c) (vE := .slice A1 n1 k1) (vR := .slice A2 n2 k2) (vA := .slice A3 n3 k3) (vP := .slice A5 n5 k5) hz9 rfl
  obtain ⟨z0, z1, z2, z3, z4, z5, z6, z7⟩ := hbW.at_
  rw [← hW]
  have hoW := (HO12.out.boxed HX3.out hg9).boxed hz9 hgW
  have hbelW : Below w.heap.size w W := ((HBL3.out.grown hg9 HBL3.out.size (fun q hq => by injection hq with hq; omega)).grown hgW (Nat.le_trans HBL3.out.size hg9.size) (fun q hq => by injection hq with hq; omega))
  clear HX3 HZ3 hx9 hz9 HRG9 HTH hgW hW hg9 HRM HRG HO12
  go_wp2
  exact bodyPost_ret (v := confV c (.slice A1 n1 k1) (.slice A2 n2 k2) (.slice A3 n3 k3) (.slice A5 n5 k5)) (by simp [results, Try.f24, go_sem, z0, z1, z2, z3, z4, z5, z6, z7]) rfl ⟨_, rfl, ⟨_, _, _, _, _, rfl, hoW⟩, hbelW⟩

end Go.Proofs.Ytdjkeakagmgfgaa.Co

namespace Go.Proofs.Ytdjkeakagmgfgaa.Co
set_option linter.unusedVariables false
set_option linter.unusedSimpArgs false
open Go.RowKit Ba Fm Fo Nm Rk
end Go.Proofs.Ytdjkeakagmgfgaa.Co

namespace Go.Proofs.Ytdjkeakagmgfgaa.Co
set_option maxRecDepth 100000
set_option linter.unusedVariables false
set_option linter.unusedSimpArgs false
open Go.RowKit Ba Fm Fo Nm Rk
theorem all1 (w : World) : Calls Try.prog 22 #[] w fun r w' => ∃ v', r = .returned v' ∧ Cow w.heap.size w' v' allC ∧ Below w.heap.size w w' := by
  have hb := below_new12 w (.cells #[.bool false, .bool false, .slice none 0 0, .slice none 0 0, .slice none 0 0, .slice none 0 0, .bool true, .bool false] 26)
  have ho : ∀ w', Own12 w.heap.size w' allC (.slice none 0 0) (.slice none 0 0) (.slice none 0 0) (.slice none 0 0) [] := fun w' => ⟨Sown.nil _ _, Sown.nil _ _, Sown.nil _ _, Po.nil _ _, (fun x hx => by cases hx), rfl⟩
  have hc : ∀ w', Cow w.heap.size w' (.agg #[.bool false, .bool false, .slice none 0 0, .slice none 0 0, .slice none 0 0, .slice none 0 0, .bool true, .bool false]) allC := fun w' => ⟨_, _, _, _, _, rfl, ho w'⟩
  have HC := Lib.hid hc; have HB := Lib.hid hb
  clear ho hc hb
  go_enter Try.func22, Try.ntmps22
  go_wp2
  exact bodyPost_ret (v := .agg #[.bool false, .bool false, .slice none 0 0, .slice none 0 0, .slice none 0 0, .slice none 0 0, .bool true, .bool false]) (by simp [results, Try.f22, go_sem]) rfl ⟨_, rfl, HC.out _, HB.out⟩

end Go.Proofs.Ytdjkeakagmgfgaa.Co

namespace Go.Proofs.Ytdjkeakagmgfgaa.Na
set_option maxRecDepth 100000
set_option linter.unusedSimpArgs false
set_option linter.unusedVariables false
open Go.RowKit Ba Fm Fo Nm
end Go.Proofs.Ytdjkeakagmgfgaa.Na

namespace Go.Proofs.Ytdjkeakagmgfgaa.Co
set_option maxRecDepth 100000
set_option linter.unusedVariables false
set_option linter.unusedSimpArgs false
open Go.RowKit Ba Fm Fo Nm Rk
end Go.Proofs.Ytdjkeakagmgfgaa.Co

namespace Go.Proofs.Ytdjkeakagmgfgaa.Fo
set_option linter.unusedSimpArgs false
set_option linter.unusedVariables false
open Go.RowKit Ba Fm
end Go.Proofs.Ytdjkeakagmgfgaa.Fo

namespace Go.Proofs.Ytdjkeakagmgfgaa.Co
set_option linter.unusedVariables false
set_option linter.unusedSimpArgs false
open Go.RowKit Ba Fm Fo Nm Rk
theorem below_two (w : World) (o p : Obj) : Below w.heap.size w ((w.alloc o).alloc p) := (below_new12 w o).trans ((below_new12 (w.alloc o) p).mono (below_new12 w o).size)
end Go.Proofs.Ytdjkeakagmgfgaa.Co

namespace Go.Proofs.Ytdjkeakagmgfgaa.Co
set_option linter.unusedVariables false
set_option linter.unusedSimpArgs false
open Go.RowKit Ba Fm Fo Nm Rk
theorem sv_nil12 (w : World) (N : Nat) : Sv w N (.slice none 0 0) [] := ⟨none, 0, rfl, Nat.le_refl _, fun _ => rfl, Rd.nil _ _ _⟩
theorem sv_lit12 {w : World} {g : Nat} {l : List ByteArray} (h : w.heap[g]? = some (.cells (l.map sc).toArray 9)) : Sv w w.heap.size (.slice (some ⟨g, 0, none⟩) l.length l.length) l :=
  ⟨some ⟨g, 0, none⟩, l.length, rfl, Nat.le_refl _, (fun e => by cases e), fun h0 => ⟨g, 0, rfl, (Array.getElem?_eq_some_iff.1 h).1, fun j hj => by
    rw [Nat.zero_add, cell_of_row w g j _ _ _ h]
    simp [List.getElem?_eq_getElem hj, sc]⟩⟩
theorem heap_lit12 {w X : World} {o : Obj} {g : Nat} (h : w.heap = (X.alloc o).heap) (hg : g = X.heap.size := by rfl) : w.heap[g]? = some o := by rw [h, hg]; exact heap_alloc_new X o
theorem sm_few {c : Cf} (h : c.els.length ≤ 1000 ∧ c.reps.length ≤ 1000 ∧ c.ats.length ≤ 1000 ∧ c.per.length ≤ 1000 ∧ c.els.all (·.size ≤ 1000) ∧ c.reps.all (·.size ≤ 1000) ∧ c.ats.all (·.size ≤ 1000) ∧ c.per.all (fun p => decide (p.at_.length ≤ 1000) && decide (p.el.size ≤ 1000) && p.at_.all (·.size ≤ 1000)) = true) : Sm c := by
  obtain ⟨h1, h2, h3, h4, h5, h6, h7, h8⟩ := h
  have hb : ∀ {l : List ByteArray}, l.all (·.size ≤ 1000) = true → ∀ s ∈ l, s.size ≤ 140737488355328 := fun h s hs => Nat.le_trans (by simpa using List.all_eq_true.1 h s hs) (show 1000 ≤ 140737488355328 by omega)
  have h9 := fun p hp => List.all_eq_true.1 h8 p hp
  simp only [Bool.and_eq_true, decide_eq_true_eq] at h9
  exact ⟨h1, h2, h3, h4, fun p hp => (h9 p hp).1.1, hb h5, hb h6, hb h7, fun p hp => ⟨Nat.le_trans (h9 p hp).1.2 (by omega), hb (h9 p hp).2⟩⟩
theorem sm_all : Sm allC := sm_few (by decide +kernel)
end Go.Proofs.Ytdjkeakagmgfgaa.Co

namespace Go.Proofs.Ytdjkeakagmgfgaa.Cn
set_option maxRecDepth 100000
set_option linter.unusedVariables false
set_option linter.unusedSimpArgs false
open Go.RowKit Ba Ro
open Co (Cf Cv Sm confV confO attrB12 elementN checkN bel_eq12 allC heap_lit12 sv_lit12 sv_nil12)
def treeL : List Ro := [⟨0, 0, ⟨#[98]⟩, .empty, [⟨⟨#[111, 110, 99, 108, 105, 99, 107]⟩, ⟨#[120]⟩⟩, ⟨⟨#[105, 100]⟩, .empty⟩]⟩, ⟨1, 1, .empty, ⟨#[97]⟩, []⟩, ⟨1, 0, ⟨#[115, 99, 114, 105, 112, 116]⟩, .empty, []⟩, ⟨2, 1, .empty, ⟨#[121]⟩, []⟩]
def X1 : List Ro := [⟨0, 0, ⟨#[98]⟩, .empty, [⟨⟨#[105, 100]⟩, .empty⟩]⟩, ⟨1, 1, .empty, ⟨#[97]⟩, []⟩]
def X2 : List Ro := [⟨0, 1, .empty, ⟨#[97]⟩, []⟩]
def cRep : Cf := ⟨false, false, [], [⟨#[98]⟩], [], [], false, false⟩
def cDat : Cf := ⟨false, false, [], [], [], [], false, true⟩
theorem tree_check : check treeL = 0 := by decide +kernel
theorem tree_right : right treeL = true := by decide +kernel
theorem err1 : errI allC treeL = 0 := by decide +kernel
theorem err2 : errI cRep treeL = 0 := by decide +kernel
theorem err4 : errI cDat treeL = 120 := by decide +kernel
theorem err5 : errI allC (treeL.drop 1) = 40 := by decide +kernel
theorem out1 : outL allC true treeL = X1 := by
  unfold outL
  rw [if_pos err1, clean_nr allC true tree_right]
  decide +kernel
theorem out2 : outL cRep true treeL = X2 := by
  unfold outL
  rw [if_pos err2, clean_nr cRep true tree_right]
  decide +kernel
theorem out3 : outL allC false treeL = treeL := by
  unfold outL
  rw [if_pos err1, clean_nr allC false tree_right]
  decide +kernel
theorem out4 : outL cDat true treeL = [] := by
  unfold outL
  rw [if_neg (by rw [err4]; decide)]
theorem out5 : outL allC true (treeL.drop 1) = [] := by
  unfold outL
  rw [if_neg (by rw [err5]; decide)]
theorem sm_rep : Sm cRep := Co.sm_few (by decide +kernel)
theorem sm_dat : Sm cDat := Co.sm_few (by decide +kernel)
theorem small_dec {l : List Ro} (h : (l.all fun x => decide (x.name.size ≤ 1000) && decide (x.data.size ≤ 1000) && x.attrs.all fun a => decide (a.name.size ≤ 1000) && decide (a.value.size ≤ 1000)) = true) : Rz.Small l := fun x hx => by
  have := List.all_eq_true.1 h x hx
  simp only [Bool.and_eq_true, decide_eq_true_eq, List.all_eq_true] at this
  exact ⟨by omega, by omega, fun a ha => by have := this.2 a ha; omega⟩
theorem tree_small : Rz.Small treeL := small_dec (by decide +kernel)
theorem few_dec {l : List Ro} (h : (l.all fun x => decide (x.attrs.length ≤ 1000000)) = true) : Few l := fun x hx => of_decide_eq_true (List.all_eq_true.1 h x hx)
theorem tree_few : Few treeL := few_dec (by decide +kernel)
theorem tree_txt : (txt treeL).length ≤ 1000000000 := by decide +kernel
theorem tree_txt1 : (txt (treeL.drop 1)).length ≤ 1000000000 := by decide +kernel
theorem tree_small1 : Rz.Small (treeL.drop 1) := small_dec (by decide +kernel)
theorem tree_few1 : Few (treeL.drop 1) := few_dec (by decide +kernel)
theorem tree_held : Held treeL := held_check tree_check

/-- Rows freshly written down, with their attributes. -/
theorem rows_lit (w : World) (l : List Cw) (cs : Array Value) (n : Nat) (hn : l.length = n) (hm : n ≤ maxLen) (hcs : cs.toList = l.flatMap cells) (hl : ∀ x ∈ l, Att (w.alloc (.cells cs 36)) (w.alloc (.cells cs 36)).heap.size x ∧ Ap (w.alloc (.cells cs 36)) w.heap.size x) :
    Ow w.heap.size (w.alloc (.cells cs 36)) (.slice (some ⟨w.heap.size, 0, none⟩) n n) l := by
  have hfl : (l.flatMap cells).length = n * 5 := by rw [flat_len cells 5 len_cells, hn]
  have hsz : cs.size = n * 5 := by rw [← Array.length_toList, hcs, hfl]
  refine ⟨⟨by rw [hn, hfl], .inr ⟨w.heap.size, n, cs, by rw [hn], Nat.le_refl _, heap_alloc_new w _, by rw [hn]; exact Nat.le_refl _, hm, hsz, ?_⟩⟩, hl⟩
  rw [hn, hcs, ← hfl, List.take_length]
/-- A row whose attributes fill block g. -/
theorem att_lit {w : World} {g : Nat} (d k : Int) (nm dt : ByteArray) (l : List At) (h : w.heap[g]? = some (.cells (l.flatMap acells).toArray 40)) (hm : l.length ≤ maxLen) (hs : Sh l) : Att w w.heap.size ⟨⟨d, k, nm, dt, l⟩, some ⟨g, 0, none⟩, l.length⟩ := by
  refine ⟨Nat.le_refl _, (fun e => by cases e), hm, fun _ => ⟨g, 0, rfl, (Array.getElem?_eq_some_iff.1 h).1, fun j hj i u hu => ?_⟩, hs⟩
  have hi : i < 2 := (List.getElem?_eq_some_iff.1 hu).1
  rw [cell_of_row w g (0 + j * 2 + i) _ _ _ h]
  rw [List.getElem?_toArray, show 0 + j * 2 + i = j * 2 + i by omega, flat_at acells 2 len_acells _ _ _ hj hi]
  exact hu
def aX1 (g : Nat) : List Cw := [⟨⟨0, 0, ⟨#[98]⟩, .empty, [⟨⟨#[105, 100]⟩, .empty⟩]⟩, some ⟨g, 0, none⟩, 1⟩, bare ⟨1, 1, .empty, ⟨#[97]⟩, []⟩]
theorem lit_rv (w : World) (g : Nat) (x : Cw) (l : List Ro) (cs : Array Value) (n : Nat) (hn : l.length + 1 = n) (hm : n ≤ 1000) (hcs : cs.toList = (x :: l.map bare).flatMap cells) (hx : Att w w.heap.size x) (hl : ∀ r ∈ l, r.attrs = []) (hh : Held (ros (x :: l.map bare))) :
    Rv (w.alloc (.cells cs 36)) (.slice (some ⟨w.heap.size, 0, none⟩) n n) (x :: l.map bare) := by
  refine (rows_lit w (x :: l.map bare) cs n (by rw [List.length_cons, List.length_map, hn]) (by unfold maxLen; omega) hcs fun y hy => ?_).rv hh
  rcases List.mem_cons.1 hy with rfl | hy
  · exact ⟨(hx.below (below_new w _)).more (below_new w _).size, (hx.below (below_new w _)).apart⟩
  · obtain ⟨r, hr, rfl⟩ := List.mem_map.1 hy
    exact ⟨bare_att _ _ (hl r hr), bare_ap _ _ (hl r hr)⟩
theorem bel_drew {n : Nat} {w v : World} (h : Below n w.drew v) : Below n w v := ⟨h.os, h.tape, h.output, h.size, h.block⟩
theorem tree1 (w : World) : Calls Try.prog 39 #[] w fun r w' => ∃ g y, r = .returned (.slice (some ⟨g, 0, none⟩) 4 4) ∧ Rv w' (.slice (some ⟨g, 0, none⟩) 4 4) y ∧ ros y = treeL ∧ Below w.heap.size w w' := by
  have h0 : (w.alloc (.cells #[.string ⟨#[111, 110, 99, 108, 105, 99, 107]⟩, .string ⟨#[120]⟩, .string ⟨#[105, 100]⟩, .string .empty] 40)).heap[w.heap.size]? = some (.cells #[.string ⟨#[111, 110, 99, 108, 105, 99, 107]⟩, .string ⟨#[120]⟩, .string ⟨#[105, 100]⟩, .string .empty] 40) := heap_alloc_new w _
  have ha := att_lit 0 0 ⟨#[98]⟩ .empty [⟨⟨#[111, 110, 99, 108, 105, 99, 107]⟩, ⟨#[120]⟩⟩, ⟨⟨#[105, 100]⟩, .empty⟩] h0 (by decide) (fun a ha => by
    have : a.name.size ≤ 7 := by
      rcases List.mem_cons.1 ha with rfl | ha
      · decide
      · rw [List.mem_singleton.1 ha]; decide
    unfold maxLen; omega)
  have hv := lit_rv _ w.heap.size _ [⟨1, 1, .empty, ⟨#[97]⟩, []⟩, ⟨1, 0, ⟨#[115, 99, 114, 105, 112, 116]⟩, .empty, []⟩, ⟨2, 1, .empty, ⟨#[121]⟩, []⟩] #[.int .i64 0, .int .i64 0, .string ⟨#[98]⟩, .string .empty, .slice (some ⟨w.heap.size, 0, none⟩) 2 2, .int .i64 1, .int .i64 1, .string .empty, .string ⟨#[97]⟩, .slice none 0 0, .int .i64 1, .int .i64 0, .string ⟨#[115, 99, 114, 105, 112, 116]⟩, .string .empty, .slice none 0 0, .int .i64 2, .int .i64 1, .string .empty, .string ⟨#[121]⟩, .slice none 0 0] 4 rfl (by decide) rfl ha (by decide) tree_held
  rw [World.size_alloc] at hv
  have hb := below_two w (.cells #[.string ⟨#[111, 110, 99, 108, 105, 99, 107]⟩, .string ⟨#[120]⟩, .string ⟨#[105, 100]⟩, .string .empty] 40) (.cells #[.int .i64 0, .int .i64 0, .string ⟨#[98]⟩, .string .empty, .slice (some ⟨w.heap.size, 0, none⟩) 2 2, .int .i64 1, .int .i64 1, .string .empty, .string ⟨#[97]⟩, .slice none 0 0, .int .i64 1, .int .i64 0, .string ⟨#[115, 99, 114, 105, 112, 116]⟩, .string .empty, .slice none 0 0, .int .i64 2, .int .i64 1, .string .empty, .string ⟨#[121]⟩, .slice none 0 0] 36)
  have HV := Lib.hid hv; have HB := Lib.hid hb
  clear h0 ha hv hb
  go_enter Try.func39, Try.ntmps39
  go_wp2
  go_ret
  exact ⟨_, _, rfl, HV.out, rfl, HB.out⟩
theorem rows_of (V v : Value) (y : List Cw) (T : List Ro) (c : Cf) (s : Bool) (w : World) (hV : Rv w V y) (hy : ros y = T) (hl : T.length ≤ 1000) (hz : Rz.Small T) (hf : Few T) (ht : (txt T).length ≤ 1000000000) (hc : Cv w w.heap.size v c) (hs : Sm c) (E : Int) (q : List Ro) (hE : errI c T = E) (hq : outL c s T = q) :
    Calls Try.prog 14 #[V, v, .bool s] w fun r w' => ∃ V y, r = .returned (.tuple #[V, .int .i64 E]) ∧ ros y = q ∧ Rv w' V y ∧ Below w.heap.size w w' := by
  subst hy
  refine (rows13 V v y c s w hV (by rw [← len_ros]; omega) hz hf ht hc hs E q hE hq).mono ?_
  rintro r w' ⟨V', y', h1, h2, h3, h4, h5⟩
  exact ⟨V', y', h1, h3, h4, h5⟩
theorem cut_rv {w : World} {g : Nat} {y : List Cw} (h : Rv w (.slice (some ⟨g, 0, none⟩) 4 4) y) : Rv w (.slice (some ⟨g, 5, none⟩) 3 3) (y.drop 1) := by
  obtain ⟨A, c, e, h1, h2, h3, h4⟩ := h
  injection e with e1 e2 e3
  subst e1 e3
  have hp := h3.mid 1 y.length 4 (by omega) (by omega) (by omega) (by decide)
  rw [List.take_length] at hp
  refine ⟨_, 3, by rw [List.length_drop, ← e2]; rfl, by rw [List.length_drop]; omega, by decide, hp, fun x hx => ?_⟩
  rw [← ros_drop] at hx
  exact h4 x (List.mem_of_mem_drop hx)
theorem conf_rep {w : World} {g : Nat} (h : w.heap[g]? = some (.cells #[.string ⟨#[98]⟩] 9)) : Cv w w.heap.size (.agg #[.bool false, .bool false, .slice none 0 0, .slice (some ⟨g, 0, none⟩) 1 1, .slice none 0 0, .slice none 0 0, .bool false, .bool false]) cRep :=
  ⟨_, _, _, _, [], rfl, ⟨sv_nil12 _ _, sv_lit12 (l := [⟨#[98]⟩]) h, sv_nil12 _ _, ⟨none, 0, rfl, Nat.le_refl _, fun _ => rfl, Co.Pr.nil _ _ _⟩, rfl⟩⟩
theorem conf_dat (w : World) : Cv w w.heap.size (.agg #[.bool false, .bool false, .slice none 0 0, .slice none 0 0, .slice none 0 0, .slice none 0 0, .bool false, .bool true]) cDat :=
  ⟨_, _, _, _, [], rfl, ⟨sv_nil12 _ _, sv_nil12 _ _, sv_nil12 _ _, ⟨none, 0, rfl, Nat.le_refl _, fun _ => rfl, Co.Pr.nil _ _ _⟩, rfl⟩⟩
theorem x1_rv (w : World) : Rv ((w.alloc (.cells #[.string ⟨#[105, 100]⟩, .string .empty] 40)).alloc (.cells #[.int .i64 0, .int .i64 0, .string ⟨#[98]⟩, .string .empty, .slice (some ⟨w.heap.size, 0, none⟩) 1 1, .int .i64 1, .int .i64 1, .string .empty, .string ⟨#[97]⟩, .slice none 0 0] 36)) (.slice (some ⟨w.heap.size + 1, 0, none⟩) 2 2) (aX1 w.heap.size) := by
  have h0 : (w.alloc (.cells #[.string ⟨#[105, 100]⟩, .string .empty] 40)).heap[w.heap.size]? = some (.cells #[.string ⟨#[105, 100]⟩, .string .empty] 40) := heap_alloc_new w _
  have ha := att_lit 0 0 ⟨#[98]⟩ .empty [⟨⟨#[105, 100]⟩, .empty⟩] h0 (by decide) (fun a ha => by rw [List.mem_singleton.1 ha]; decide)
  have hv := lit_rv _ w.heap.size _ [⟨1, 1, .empty, ⟨#[97]⟩, []⟩] #[.int .i64 0, .int .i64 0, .string ⟨#[98]⟩, .string .empty, .slice (some ⟨w.heap.size, 0, none⟩) 1 1, .int .i64 1, .int .i64 1, .string .empty, .string ⟨#[97]⟩, .slice none 0 0] 2 rfl (by decide) rfl ha (by decide) (fun x hx => by
    have hx : x ∈ X1 := hx
    rcases List.mem_cons.1 hx with rfl | hx
    · exact ⟨by decide, by decide⟩
    · rw [List.mem_singleton.1 hx]; exact ⟨by decide, by decide⟩)
  rwa [World.size_alloc] at hv
theorem x2_rv (w : World) : Rv (w.alloc (.cells #[.int .i64 0, .int .i64 1, .string .empty, .string ⟨#[97]⟩, .slice none 0 0] 36)) (.slice (some ⟨w.heap.size, 0, none⟩) 1 1) [bare ⟨0, 1, .empty, ⟨#[97]⟩, []⟩] :=
  (rows_new w [bare ⟨0, 1, .empty, ⟨#[97]⟩, []⟩] _ 1 rfl (by decide) rfl (fun x hx => ⟨_, List.mem_singleton.1 hx, rfl⟩)).rv (fun x hx => by
    have := List.mem_singleton.1 hx
    subst this
    exact ⟨by decide, by decide⟩)

set_option maxRecDepth 100000 in
set_option maxHeartbeats 40000000 in
theorem fixed13 (w : World) : Calls Try.prog 19 #[] w fun e w' => e = .returned (.bool true) ∧ Below w.heap.size w w' := by
  go_enter Try.func19, Try.ntmps19
  go_upto_region 2 with (first
    | (go_at_call 39; refine (tree1 _).mono ?_; rintro r a1 ⟨g1, y1, rfl, hv1, hy1, hb⟩; have HV1 := Lib.hid hv1; have HY1 := Lib.hid hy1; have HA1 := Lib.hid (hb); clear hv1 hy1 hb)
    | (go_at_call 22; refine (Co.all1 _).mono ?_; rintro r b1 ⟨vA1, rfl, ho, hb⟩; have HBA1 := Lib.hid hb; have HO1 := Lib.hid ho.cv; have HB1 := Lib.hid (HA1.out.trans (hb.mono HA1.out.size)); clear ho hb)
    | (go_at_call 14; refine (rows_of _ vA1 y1 treeL allC true b1 (HV1.out.below HBA1.out) HY1.out (by decide) tree_small tree_few tree_txt HO1.out Co.sm_all 0 X1 err1 out1).mono ?_; rintro r c1 ⟨V1, z1, rfl, hz1, hr1, hb⟩; have HZ1 := Lib.hid hz1; have HR1 := Lib.hid hr1; have HC1 := Lib.hid (HB1.out.trans (hb.mono HB1.out.size)); clear hz1 hr1 hb)
    | fail)
  go_upto_region 3 with (first
    | (go_at_call 39; refine (tree1 _).mono ?_; rintro r a2 ⟨g2, y2, rfl, hv2, hy2, hb⟩; have HV2 := Lib.hid hv2; have HY2 := Lib.hid hy2; have HA2 := Lib.hid (HC1.out.trans (hb.mono HC1.out.size)); have HR1 := Lib.hid (HR1.out.below (hb)); clear hv2 hy2 hb)
    | (go_at_call 14; refine (rows_of _ _ y2 treeL cRep true _ (HV2.out.below (below_new a2 _)) HY2.out (by decide) tree_small tree_few tree_txt (conf_rep (heap_alloc_new a2 _)) sm_rep 0 X2 err2 out2).mono ?_; rintro r c2 ⟨V2, z2, rfl, hz2, hr2, hb⟩; have HZ2 := Lib.hid hz2; have HR2 := Lib.hid hr2; have HC2 := Lib.hid (HA2.out.trans (((below_new a2 _).trans (hb.mono (by simp))).mono HA2.out.size)); have HR1 := Lib.hid (HR1.out.below ((below_new a2 _).trans (hb.mono (by simp)))); clear hz2 hr2 hb)
    | fail)
  go_upto_region 4 with (first
    | (go_at_call 39; refine (tree1 _).mono ?_; rintro r a3 ⟨g3, y3, rfl, hv3, hy3, hb⟩; have HV3 := Lib.hid hv3; have HY3 := Lib.hid hy3; have HA3 := Lib.hid (HC2.out.trans (hb.mono HC2.out.size)); have HR1 := Lib.hid (HR1.out.below (hb)); have HR2 := Lib.hid (HR2.out.below (hb)); clear hv3 hy3 hb)
    | (go_at_call 22; refine (Co.all1 _).mono ?_; rintro r b3 ⟨vA3, rfl, ho, hb⟩; have HBA3 := Lib.hid hb; have HO3 := Lib.hid ho.cv; have HB3 := Lib.hid (HA3.out.trans (hb.mono HA3.out.size)); have HR1 := Lib.hid (HR1.out.below (hb)); have HR2 := Lib.hid (HR2.out.below (hb)); clear ho hb)
    | (go_at_call 14; refine (rows_of _ vA3 y3 treeL allC false b3 (HV3.out.below HBA3.out) HY3.out (by decide) tree_small tree_few tree_txt HO3.out Co.sm_all 0 treeL err1 out3).mono ?_; rintro r c3 ⟨V3, z3, rfl, hz3, hr3, hb⟩; have HZ3 := Lib.hid hz3; have HR3 := Lib.hid hr3; have HC3 := Lib.hid (HB3.out.trans (hb.mono HB3.out.size)); have HR1 := Lib.hid (HR1.out.below (hb)); have HR2 := Lib.hid (HR2.out.below (hb)); clear hz3 hr3 hb)
    | fail)
  go_upto_region 5 with (first
    | (go_at_call 39; refine (tree1 _).mono ?_; rintro r a4 ⟨g4, y4, rfl, hv4, hy4, hb⟩; have HV4 := Lib.hid hv4; have HY4 := Lib.hid hy4; have HA4 := Lib.hid (HC3.out.trans (hb.mono HC3.out.size)); have HR1 := Lib.hid (HR1.out.below (hb)); have HR2 := Lib.hid (HR2.out.below (hb)); have HR3 := Lib.hid (HR3.out.below (hb)); clear hv4 hy4 hb)
    | (go_at_call 14; refine (rows_of _ _ y4 treeL cDat true a4 HV4.out HY4.out (by decide) tree_small tree_few tree_txt (conf_dat _) sm_dat 120 [] err4 out4).mono ?_; rintro r c4 ⟨V4, z4, rfl, hz4, hr4, hb⟩; have HZ4 := Lib.hid hz4; have HR4 := Lib.hid hr4; have HC4 := Lib.hid (HA4.out.trans (hb.mono HA4.out.size)); have HR1 := Lib.hid (HR1.out.below (hb)); have HR2 := Lib.hid (HR2.out.below (hb)); have HR3 := Lib.hid (HR3.out.below (hb)); clear hz4 hr4 hb)
    | fail)
  go_region_held3 (fun wx => True) (first | exact trivial | go_keep) (first
    | (go_at_call 39; refine (tree1 _).mono ?_; rintro r a5 ⟨g5, y5, rfl, hv5, hy5, hb⟩; have HV5 := Lib.hid hv5; have HY5 := Lib.hid hy5; clear hv5 hy5; first | (have hq : Below c4.heap.size c4 a5 := bel_drew hb; have HA5 := Lib.hid (HC4.out.trans (hq.mono HC4.out.size)); have HR1 := Lib.hid (HR1.out.below hq); have HR2 := Lib.hid (HR2.out.below hq); have HR3 := Lib.hid (HR3.out.below hq); clear hq hb) | (have hq : Below b5.heap.size b5 a5 := hb; have HA5 := Lib.hid (HB5.out.trans (hq.mono HB5.out.size)); have HL := Lib.hid hq; have HR1 := Lib.hid (HR1.out.below hq); have HR2 := Lib.hid (HR2.out.below hq); have HR3 := Lib.hid (HR3.out.below hq); clear hq hb))
    | (go_at_call 22; refine (Co.all1 _).mono ?_; rintro r b5 ⟨vA5, rfl, ho, hb⟩; have HO5 := Lib.hid ho.cv; clear ho; first | (have hq : Below c4.heap.size c4 b5 := bel_drew hb; have HB5 := Lib.hid (HC4.out.trans (hq.mono HC4.out.size)); have HR1 := Lib.hid (HR1.out.below hq); have HR2 := Lib.hid (HR2.out.below hq); have HR3 := Lib.hid (HR3.out.below hq); clear hq hb) | (have hq : Below a5.heap.size a5 b5 := hb; have HB5 := Lib.hid (HA5.out.trans (hq.mono HA5.out.size)); have HL := Lib.hid hq; have HR1 := Lib.hid (HR1.out.below hq); have HR2 := Lib.hid (HR2.out.below hq); have HR3 := Lib.hid (HR3.out.below hq); clear hq hb))
    | (go_at_call 14; (with_reducible show Calls _ _ _ b5 _); refine (rows_of _ vA5 (y5.drop 1) (treeL.drop 1) allC true b5 (cut_rv (HV5.out.below HL.out)) (by rw [← ros_drop, HY5.out]) (by decide) tree_small1 tree_few1 tree_txt1 HO5.out Co.sm_all 40 [] err5 out5).mono ?_; rintro r c5 ⟨V5, z5, rfl, -, -, hq⟩; have HC5 := Lib.hid (HB5.out.trans (hq.mono HB5.out.size)); have HR1 := Lib.hid (HR1.out.below hq); have HR2 := Lib.hid (HR2.out.below hq); have HR3 := Lib.hid (HR3.out.below hq); clear hq)
    | (go_at_call 14; refine (rows_of _ vA5 (y5.drop 1) (treeL.drop 1) allC true a5 (cut_rv HV5.out) (by rw [← ros_drop, HY5.out]) (by decide) tree_small1 tree_few1 tree_txt1 (HO5.out.on HL.out) Co.sm_all 40 [] err5 out5).mono ?_; rintro r c5 ⟨V5, z5, rfl, -, -, hq⟩; have HC5 := Lib.hid (HA5.out.trans (hq.mono HA5.out.size)); have HR1 := Lib.hid (HR1.out.below hq); have HR2 := Lib.hid (HR2.out.below hq); have HR3 := Lib.hid (HR3.out.below hq); clear hq))
  all_goals go_wp2_with (first
    | (go_at_call 15; (with_reducible show Calls _ _ #[V1, _] _ _); refine (refSame1 V1 _ z1 (aX1 c5.heap.size) _ true (HR1.out.below (below_two c5 _ _)) (x1_rv c5) (by rw [← len_ros, HZ1.out]; decide) (show 2 ≤ 1000000 by omega) (decide_eq_true (HZ1.out.trans (show X1 = ros (aX1 c5.heap.size) from rfl)))).mono ?_; rintro r d1 ⟨rfl, hb⟩; have hq := (below_two c5 _ _).trans (hb.mono (below_two c5 _ _).size); have HD1 := Lib.hid (HC5.out.trans (hq.mono HC5.out.size)); have HR2 := Lib.hid (HR2.out.below hq); have HR3 := Lib.hid (HR3.out.below hq); clear hb hq)
    | (go_at_call 15; (with_reducible show Calls _ _ #[V2, _] _ _); refine (refSame1 V2 _ z2 [bare ⟨0, 1, .empty, ⟨#[97]⟩, []⟩] _ true (HR2.out.below (below_new d1 _)) (x2_rv d1) (by rw [← len_ros, HZ2.out]; decide) (show 1 ≤ 1000000 by omega) (decide_eq_true (HZ2.out.trans (show X2 = ros [bare ⟨0, 1, .empty, ⟨#[97]⟩, []⟩] from rfl)))).mono ?_; rintro r d2 ⟨rfl, hb⟩; have hq := (below_new d1 _).trans (hb.mono (below_new d1 _).size); have HD2 := Lib.hid (HD1.out.trans (hq.mono HD1.out.size)); have HR3 := Lib.hid (HR3.out.below hq); clear hb hq)
    | (go_at_call 39; refine (tree1 _).mono ?_; rintro r a6 ⟨g6, y6, rfl, hv6, hy6, hb⟩; have HV6 := Lib.hid hv6; have HY6 := Lib.hid hy6; have HA6 := Lib.hid (HD2.out.trans (hb.mono HD2.out.size)); have HR3 := Lib.hid (HR3.out.below hb); clear hv6 hy6 hb)
    | (go_at_call 15; (with_reducible show Calls _ _ #[V3, _] _ _); refine (refSame1 V3 _ z3 y6 a6 true HR3.out HV6.out (by rw [← len_ros, HZ3.out]; decide) (by rw [← len_ros, HY6.out]; decide) (decide_eq_true (HZ3.out.trans HY6.out.symm))).mono ?_; rintro r d3 ⟨rfl, hb⟩; have HD3 := Lib.hid (HA6.out.trans (hb.mono HA6.out.size)); clear hb)
    | fail)
  all_goals go_ret
  all_goals exact ⟨rfl, HD3.out⟩

end Go.Proofs.Ytdjkeakagmgfgaa.Cn

namespace Go.Proofs.Ytdjkeakagmgfgaa.Cn
set_option maxRecDepth 100000
set_option linter.unusedVariables false
set_option linter.unusedSimpArgs false
open Go.RowKit Ba Ro
/-- No more than 40 rows, of no more than 8 attributes. -/
def boundR (l : List Ro) : List Ro := (l.take 40).map fun x => { x with attrs := x.attrs.take 8 }
theorem AttR.cut {w : World} {N : Nat} {x : Cw} (h : Att w N x) : Att w N (cut x (x.ro.attrs.take 8)) :=
  ⟨Nat.le_trans (List.length_take_le' _ _) h.1, h.2.1, h.2.2.1, h.2.2.2.1.take 8, fun a ha => h.2.2.2.2 a (List.mem_of_mem_take ha)⟩
theorem boundR_at {l : List Cw} {k : Nat} {x : Cw} (h : l[k]? = some x) (hk : k < 40) : (boundR (ros l)).take (k + 1) = (boundR (ros l)).take k ++ [{ x.ro with attrs := x.ro.attrs.take 8 }] := by
  rw [List.take_add_one]
  congr 1
  rw [boundR, List.getElem?_map, List.getElem?_take_of_lt hk, ros, List.getElem?_map, h]
  rfl
theorem len_boundR (l : List Cw) : (boundR (ros l)).length = min 40 l.length := by rw [boundR, List.length_map, List.length_take, len_ros]
set_option maxRecDepth 100000 in
set_option maxHeartbeats 1000000 in
theorem boundR_any (A : Option Addr) (c : Nat) (l : List Cw) (w : World) (hr : Rr w w.heap.size A l) (hc : l.length ≤ c) (hm : c ≤ maxLen) :
    Calls Try.prog 10 #[.slice A l.length c] w fun e w' => ∃ v l', e = .returned v ∧ Ow w.heap.size w' v l' ∧ (∀ x ∈ l', Att w' w.heap.size x) ∧ ros l' = boundR (ros l) ∧ Below w.heap.size w w' := by
  unfold maxLen at hm
  go_enter Try.func10, Try.ntmps10
  go_wp2
  go_loopw [3, 4] (fun v i wr => ∃ (k : Nat) (acc : List Cw), i = .int .i64 k ∧ k ≤ l.length ∧ k ≤ 40 ∧ acc.length = k ∧ Ow w.heap.size wr v acc ∧ (∀ x ∈ acc, Att wr w.heap.size x) ∧ ros acc = (boundR (ros l)).take k ∧ Below w.heap.size w wr) (fun _ i _ => l.length - (intOf i).toNat)
  case atStart => exact ⟨0, [], rfl, by omega, by omega, rfl, Ow.made w, fun _ h => by simp at h, rfl, below_new w _⟩
  case round =>
    obtain ⟨k, acc, rfl, hk, hk6, hal, hown, hatt, hros, hbel⟩ := hrel
    have hsz := hbel.size
    by_cases hp : k < l.length
    · by_cases hp6 : k < 40
      · obtain ⟨b, off, x, rfl, hb, hdx, hx, hxa, hxm⟩ := (hr.below hbel).at_ k hp
        have hs : ros acc ++ [{ x.ro with attrs := x.ro.attrs.take 8 }] = (boundR (ros l)).take (k + 1) := by rw [hros, boundR_at (getElem_of_drop hdx) hp6]
        have hca := AttR.cut hxa
        obtain ⟨ys, hys⟩ : ∃ ys, x.ro.attrs.take 8 = ys := ⟨_, rfl⟩
        have hyl : ys.length = min x.ro.attrs.length 8 := by rw [← hys, List.length_take, Nat.min_comm]
        rw [hys] at hs hca
        have hmin := fun w => min_any x.ro.attrs.length 8 8 rfl ys.length hyl w
        have hyc : ys.length ≤ x.c := hca.1
        have hxc := hxa.1
        have hxm2 := hxa.2.2.1
        unfold maxLen at hxm2
        have HS := Lib.hid hs; have HOW := Lib.hid hown; have HATT := Lib.hid hatt; have HAL := Lib.hid hal; have HCA := Lib.hid hca
        have HC1 : Hid (Att wr wr.heap.size (cut x ys)) := Lib.hid (hca.more hsz)
        have HC2 : Hid (Ap wr w.heap.size (cut x ys)) := Lib.hid hca.apart
        have HC3 : Hid (Att (wr.alloc (rowO (cut x ys))) (wr.alloc (rowO (cut x ys))).heap.size (cut x ys)) := Lib.hid (HC1.out.boxed (Below.refl _ _) _)
        have hacc : acc.length ≤ 2000000 := by omega
        clear hros hdx hs hown hatt hxa hal hca hys hyl
        go_wp2_with (first
          | (refine wpList_load_mid rfl 36 (.tmp 19) rfl b (off + k * 5) rfl _ _ hx Try.underlying36 rfl size_row ?_)
          | (at_builtin; refine app_row _ rfl (.tmp 29) (.tmp 31) rfl w.heap.size _ acc (cut x ys) rfl (HOW.out.alloc _) HC3.out (HC2.out.below (below_new _ _)) (wr.heap.size + 1) (by simp) rfl hacc (by simp; omega) ?_; intro v3 w3 ho3 hk3 hf3))
        go_roundw
        case rel =>
          have hb3 := hk3 w (hbel.alloc hsz _)
          refine ⟨k + 1, acc ++ [cut x ys], by go_num, by omega, by omega, by rw [List.length_append, HAL.out]; rfl, ho3, fun z hz => ?_, by rw [ros_append]; exact HS.out, hb3⟩
          have hbw : Below w.heap.size wr w3 := hk3 wr (below_new wr _ |>.mono hsz)
          rcases List.mem_append.1 hz with h | h
          · exact (HATT.out z h).below hbw
          · obtain rfl := List.mem_singleton.1 h
            exact HCA.out.below hbw
        case measure => simp [intOf]; omega
      · obtain rfl : k = 40 := by omega
        have hrs : ros acc = boundR (ros l) := by rw [hros, List.take_of_length_le]; rw [len_boundR]; omega
        have HR := Lib.hid hrs
        clear hros hrs
        go_wp2
        go_ret
        exact ⟨_, acc, rfl, hown, hatt, HR.out, hbel⟩
    · have hrs : ros acc = boundR (ros l) := by rw [hros, List.take_of_length_le]; rw [len_boundR]; omega
      have HR := Lib.hid hrs
      clear hros hrs
      go_wp2
      go_ret
      exact ⟨_, acc, rfl, hown, hatt, HR.out, hbel⟩

/-- What is bounded is no greater. -/
theorem small_bound {l : List Ro} (h : Rz.Small l) : Rz.Small (boundR l) := fun x hx => by
  obtain ⟨y, hy, rfl⟩ := List.mem_map.1 hx
  obtain ⟨h1, h2, h3⟩ := h y (List.mem_of_mem_take hy)
  exact ⟨h1, h2, fun a ha => h3 a (List.mem_of_mem_take ha)⟩
theorem held_bound {l : List Ro} (h : Held l) : Held (boundR l) := fun x hx => by
  obtain ⟨y, hy, rfl⟩ := List.mem_map.1 hx
  exact h y (List.mem_of_mem_take hy)
theorem len_bound40 (l : List Ro) : (boundR l).length ≤ 40 := by
  unfold boundR
  rw [List.length_map, List.length_take]
  omega
theorem attrs_bound8 {l : List Ro} : ∀ x ∈ boundR l, x.attrs.length ≤ 8 := fun x hx => by
  obtain ⟨y, hy, rfl⟩ := List.mem_map.1 hx
  show (y.attrs.take 8).length ≤ 8
  rw [List.length_take]
  omega
end Go.Proofs.Ytdjkeakagmgfgaa.Cn

namespace Go.Proofs.Ytdjkeakagmgfgaa.Oq
set_option linter.unusedVariables false
set_option linter.unusedSimpArgs false
open Go.RowKit Go.ChangeShapes Go.WideShapes Go.Deep
section
variable {H : Type} {enc : TypeId × Value → H} {P : Program} {w : World} {base : Nat} {spare : Nat → Bool} {held : Bool}
end
section
variable {H : Type} {enc : TypeId × Value → H} {P : Program} {w : World} {base : Nat} {spare : Nat → Bool} {held : Bool}
theorem list_of {α : Type} (Q : Nat → α → Prop) : ∀ n : Nat, (∀ i < n, ∃ x, Q i x) → ∃ l : List α, l.length = n ∧ ∀ i (h : i < l.length), Q i l[i]
  | 0, _ => ⟨[], rfl, fun i h => absurd h (by simp)⟩
  | n + 1, h => by
    obtain ⟨l, hl, hq⟩ := list_of Q n fun i hi => h i (by omega)
    obtain ⟨x, hx⟩ := h n (by omega)
    refine ⟨l ++ [x], by rw [List.length_append, hl]; rfl, fun i hi => ?_⟩
    rw [List.length_append, List.length_singleton] at hi
    by_cases e : i < l.length
    · rw [List.getElem_append_left e]
      exact hq i e
    · have : i = l.length := by omega
      subst this
      rw [List.getElem_append_right (Nat.le_refl _)]
      simp only [Nat.sub_self, List.getElem_cons_zero]
      rw [hl]; exact hx

end
end Go.Proofs.Ytdjkeakagmgfgaa.Oq

namespace Go.Proofs.Ytdjkeakagmgfgaa.Fo
set_option maxRecDepth 100000
set_option linter.unusedSimpArgs false
set_option linter.unusedVariables false
open Go.RowKit Ba Go.ChangeShapes Go.WideShapes Go.ChangeAt
theorem laidOut : laidOutB Try.prog = true := by kernel_rfl

end Go.Proofs.Ytdjkeakagmgfgaa.Fo

namespace Go.Proofs.Ytdjkeakagmgfgaa.Co
set_option maxRecDepth 100000
set_option linter.unusedVariables false
set_option linter.unusedSimpArgs false
open Go.RowKit Ba Fm Fo Nm Rk Go.ChangeShapes Go.WideShapes Go.ChangeAt Go.Deep
open Rz (Within reach_le)
open Oq (list_of)
section
variable {H : Type} {enc : TypeId × Value → H} {w : World}
end

end Go.Proofs.Ytdjkeakagmgfgaa.Co

namespace Go.Proofs.Ytdjkeakagmgfgaa.Co
set_option maxRecDepth 100000
set_option linter.unusedVariables false
set_option linter.unusedSimpArgs false
open Go.RowKit Ba Fm Fo Nm Rk
end Go.Proofs.Ytdjkeakagmgfgaa.Co

namespace Go.Proofs.Ytdjkeakagmgfgaa.Co
set_option linter.unusedVariables false
set_option linter.unusedSimpArgs false
open Go.RowKit Ba Fm Fo Nm Rk
/-- No string lies there. -/
def noStr (cs : Array Value) : Prop := ∀ (i : Nat) (s : ByteArray), cs[i]? ≠ some (Value.string s)
theorem noStr8 (a b m d : Bool) (A1 A2 A3 A4 : Option Addr) (n1 n2 n3 n4 c1 c2 c3 c4 : Nat) : noStr #[.bool a, .bool b, .slice A1 n1 c1, .slice A2 n2 c2, .slice A3 n3 c3, .slice A4 n4 c4, .bool m, .bool d] := fun i s => by
  match i with
  | 0 | 1 | 2 | 3 | 4 | 5 | 6 | 7 => simp
  | i + 8 => simp
theorem sv_boxed {w w' : World} {b N : Nat} {cs : Array Value} {v : Value} {l : List ByteArray} (h : Sv w N v l) (hb : Hb w b cs) (hn : noStr cs) (hg : w.grownBy w' (some b)) (hN : N ≤ w.heap.size) : Sv w' N v l := by
  obtain ⟨A, c, e, h1, h2, h3⟩ := h
  refine ⟨A, c, e, h1, h2, fun h0 => ?_⟩
  obtain ⟨b', off, eA, hb', hc⟩ := h3 h0
  have hne : b' ≠ b := by
    rintro rfl
    have := hc 0 h0
    rw [cell_of_row w b' (off + 0) _ _ _ hb] at this
    exact hn _ _ this
  exact ⟨b', off, eA, hb', fun j hj => (World.cell?_of_block (a := ⟨b', off + j, none⟩) (hg.block b' (by omega) (by simpa using hne))).trans (hc j hj)⟩
theorem pv_boxed {w w' : World} {b N : Nat} {cs : Array Value} {v : Value} {l : List Pw} (h : Pv w N v l) (hb : Hb w b cs) (hn : noStr cs) (hg : w.grownBy w' (some b)) (hN : N ≤ w.heap.size) : Pv w' N v l := by
  obtain ⟨A, c, e, h1, h2, h3, h4⟩ := h
  refine ⟨A, c, e, h1, h2, fun h0 => ?_, fun x hx => sv_boxed (h4 x hx) hb hn hg hN⟩
  obtain ⟨b', off, eA, hb', hc⟩ := h3 h0
  have hne : b' ≠ b := by
    rintro rfl
    have := hc 0 h0 0 (.string l[0].pe.el) rfl
    rw [cell_of_row w b' _ _ _ _ hb] at this
    exact hn _ _ this
  exact ⟨b', off, eA, hb', fun j hj => range_keep12 (hc j hj) fun o => World.cell?_of_block (a := ⟨b', o, none⟩) (hg.block b' (by omega) (by simpa using hne))⟩
theorem cp_boxed {w w' : World} {b : Nat} {cs : Array Value} {c : Cf} {vE vR vA vP : Value} {l : List Pw} (h : Cp w w.heap.size c vE vR vA vP l) (hb : Hb w b cs) (hn : noStr cs) (hg : w.grownBy w' (some b)) : Cp w' w'.heap.size c vE vR vA vP l :=
  (⟨sv_boxed h.e hb hn hg (Nat.le_refl _), sv_boxed h.r hb hn hg (Nat.le_refl _), sv_boxed h.a hb hn hg (Nat.le_refl _), pv_boxed h.p hb hn hg (Nat.le_refl _), h.m⟩ : Cp w' w.heap.size c vE vR vA vP l).more hg.size
/-- A configuration is stored in a box. -/
theorem res_hb {w : World} {g : Nat} {cs : Array Value} (h : Hb w g cs) (hc : cs.size = 8) (v0 v1 v2 v3 v4 v5 v6 v7 : Value) :
    ∃ W, W = w.setCells g 0 [v0, v1, v2, v3, v4, v5, v6, v7] ∧ w.grownBy W (some g) ∧ Hb W g #[v0, v1, v2, v3, v4, v5, v6, v7] := by
  refine ⟨_, rfl, gcells12 g _ 0 w, ?_⟩
  match cs, hc with
  | ⟨[x0, x1, x2, x3, x4, x5, x6, x7]⟩, _ =>
    exact (((((((h.set 0 v0 (by simp)).set 1 v1 (by simp)).set 2 v2 (by simp)).set 3 v3 (by simp)).set 4 v4 (by simp)).set 5 v5 (by simp)).set 6 v6 (by simp)).set 7 v7 (by simp)
/-- A contract, as it is asked for behind a beginning. -/
theorem on_base {P : Program} {f : FuncId} {args : Array Value} {w0 w : World} {T : Ending → Prop} (h : Calls P f args w fun e w' => T e ∧ Below w.heap.size w w') (hb : Below w0.heap.size w0 w) : Calls P f args w fun e w' => T e ∧ Below w0.heap.size w0 w' :=
  h.mono fun e w' ⟨he, hw⟩ => ⟨he, hb.trans (hw.mono hb.size)⟩

end Go.Proofs.Ytdjkeakagmgfgaa.Co
