/-
  Walk of stage 12: remade, with fold.Sorted and with copied.
  Walk of stage 12: grouped.
  Walks of stage 12: Canon, All, Plain.
  Walks of stage 12: Strip.
  Walks of stage 12: All, Plain, the document's Plain.
  Walks of stage 12: exceeds, misnames and its closure.
  Walks of stage 12: misnames, repeats, contradicts, Check.
  Walks of stage 12: contradicts, Check.
-/
import Derived.Test.YtgjlfcamgkeibaaCk02
import Derived.Test.YtgjlfcamgkeibaaCk01
import Derived.Deep.Cut
import Derived.Deep.RegionHeld3
import Derived.Deep.RegionLaw
import Derived.Deep.AppendLies
import Derived.BigRegion
namespace Go.Proofs.Ytgjlfcamgkeibaa.Co
set_option maxRecDepth 100000
set_option linter.unusedVariables false
set_option linter.unusedSimpArgs false
open Go.RowKit Ba Fm Fo Nm Rk
theorem pes_succ {l : List Pw} {k : Nat} {x : Pw} (h : l[k]? = some x) : pes (l.take (k + 1)) = pes (l.take k) ++ [x.pe] := by
  have hk : k < l.length := (List.getElem?_eq_some_iff.1 h).1
  have hx : l[k] = x := (List.getElem?_eq_some_iff.1 h).2
  rw [List.take_succ_eq_append_getElem hk, pes_append, hx]
  rfl
def sameL (l : List ByteArray) : List ByteArray := l
theorem copied_id (v : Value) (l : List ByteArray) (w : World) (hv : Sv w w.heap.size v l) (hl : l.length ≤ 1000000) :
    Calls Try.prog 43 #[v] w fun e w' => ∃ v', e = .returned v' ∧ Sown w.heap.size w' v' (sameL l) ∧ Below w.heap.size w w' := copied1 v l w hv hl
abbrev zeroO : Obj := .cells #[.bool false, .bool false, .slice none 0 0, .slice none 0 0, .slice none 0 0, .slice none 0 0, .bool false, .bool false] 26
theorem kept_per {N z : Nat} {w7 w8 w9 : World} {v : Value} {l : List Pw} {u0 u1 : Value} (h : Po N w7 v l) (hb : Below w7.heap.size w7 w8) (hg : w8.grownBy w9 v.ownBlock) (hz : w7.heap.size = z + 1) (hn : v.ownBlock ≠ some z) (hc : w8.cell? ⟨z, 0, none⟩ = some u0 ∧ w8.cell? ⟨z, 1, none⟩ = some u1) :
    w9.cell? ⟨z, 0, none⟩ = some u0 ∧ w9.cell? ⟨z, 1, none⟩ = some u1 := by
  have hzl : z < w8.heap.size := Nat.lt_of_lt_of_le (by omega) hb.size
  have e : w9.heap[z]? = w8.heap[z]? := hg.block z hzl (fun e => hn e.symm)
  exact ⟨(World.cell?_of_block (a := ⟨z, 0, none⟩) e).trans hc.1, (World.cell?_of_block (a := ⟨z, 1, none⟩) e).trans hc.2⟩

set_option maxRecDepth 100000 in
set_option maxHeartbeats 4000000 in
theorem remade_S (v : Value) (c : Cf) (w : World) (h : Cv w w.heap.size v c) (hs : Sm c) :
    Calls Try.prog 40 #[v, .func (.func 41) #[] #[]] w fun r w' => ∃ vE vR vA vP l M, r = .returned (confV c vE vR vA vP) ∧ w.heap.size ≤ M ∧ (∀ b, vE.ownBlock = some b → b < M) ∧ Sown w.heap.size w' vE (srt lt c.els) ∧ Sown M w' vR (srt lt c.reps) ∧ Sown M w' vA (srt lt c.ats) ∧ Po M w' vP l ∧ (∀ x ∈ l, Fp M w' x) ∧ pes l = c.per.map (fun p => ⟨p.el, srt lt p.at_⟩) ∧ Below w.heap.size w w' := by
  obtain ⟨vE, vR, vA, vP, l, rfl, h⟩ := h
  obtain ⟨w0, hw0⟩ : ∃ w0, (w.alloc (confO c vE vR vA vP)).alloc zeroO = w0 := ⟨_, rfl⟩
  have hba : Below w.heap.size w (w.alloc (confO c vE vR vA vP)) := below_new12 w _
  have hb1 : Below w.heap.size w w0 := hw0 ▸ hba.trans ((below_new12 _ _).mono hba.size)
  have hbx : Bx w0 w.heap.size c vE vR vA vP := hw0 ▸ (Bx.new w c vE vR vA vP).below (below_new12 _ _) (by simp)
  have hz : w0.heap.size = w.heap.size + 2 := by rw [← hw0]; simp
  have h0 := h.on hb1
  obtain ⟨A, cp, rfl, hcp, hna, hr⟩ := h.p
  have hpl : c.per.length = l.length := by rw [← h.m, len_pes]
  have hl : l.length ≤ 1000 := by have := hs.p; omega
  have hlen : ∀ x ∈ l, x.pe.at_.length ≤ 1000000 := fun x hx => Nat.le_trans (hs.pa _ (by rw [← h.m]; exact List.mem_map.2 ⟨x, hx, rfl⟩)) (by omega)
  have HLEN := Lib.hid hlen; have HW := Lib.hid hw0; have HB1 := Lib.hid hb1; have HR := Lib.hid hr; have HM := Lib.hid h0.m
  have HE := Lib.hid (fun wx hb => sorted_any vE c.els wx (sv_on h0.e hb) (by have := hs.e; omega))
  have HRR := Lib.hid (fun wx hb => sorted_any vR c.reps wx (sv_on h0.r hb) (by have := hs.r; omega))
  have HAA := Lib.hid (fun wx hb => sorted_any vA c.ats wx (sv_on h0.a hb) (by have := hs.a; omega))
  have HS := Lib.hid (fun wx (hb : Below w0.heap.size w0 wx) => show wx.cell? ⟨w.heap.size, 2, none⟩ = some vE ∧ wx.cell? ⟨w.heap.size, 3, none⟩ = some vR ∧ wx.cell? ⟨w.heap.size, 4, none⟩ = some vA from by
    have := (hbx.below hb (by omega)).at_
    exact ⟨this.2.2.1, this.2.2.2.1, this.2.2.2.2.1⟩)
  have hblk : w0.heap[w.heap.size]? = some (confO c vE vR vA (.slice A l.length cp)) := by
    rw [← hw0]
    exact ((below_new12 (w.alloc (confO c vE vR vA (.slice A l.length cp))) zeroO).block _ (by simp)).trans (heap_alloc_new w _)
  have HF := Lib.hid (fun wx (hb : Below w0.heap.size w0 wx) => show wx.frozen? ⟨w.heap.size, 2, none⟩ = false ∧ wx.frozen? ⟨w.heap.size, 3, none⟩ = false ∧ wx.frozen? ⟨w.heap.size, 4, none⟩ = false from by
    have := (hb.block w.heap.size (by omega)).trans hblk
    simp [World.frozen?, this])
  have HBK := Lib.hid hblk
  have hzb : Hb w0 (w.heap.size + 1) #[.bool false, .bool false, .slice none 0 0, .slice none 0 0, .slice none 0 0, .slice none 0 0, .bool false, .bool false] := by
    rw [← hw0]
    have := Hb.new (w.alloc (confO c vE vR vA (.slice A l.length cp))) #[.bool false, .bool false, .slice none 0 0, .slice none 0 0, .slice none 0 0, .slice none 0 0, .bool false, .bool false]
    rwa [World.size_alloc] at this
  have HZB := Lib.hid hzb
  clear hlen hs h h0 hpl hr hb1 hbx hw0 hba hblk hzb
  go_enter Try.func40, Try.ntmps40
  go_upto_region 1 with (fail)
  rw [HW.out]
  refine wp_region_noPanic ?_
  refine Ph.T_begin (fun w' => w'.cell? ⟨w.heap.size, 2, none⟩ = some vE ∧ w'.cell? ⟨w.heap.size, 3, none⟩ = some vR ∧ w'.cell? ⟨w.heap.size, 4, none⟩ = some vA) 13 (by kernel_rfl) ?_ (fun hHeld => ?_)
  · exact HS.out _ (bel_eq12 (Below.refl _ w0) rfl rfl rfl rfl)
  refine Ph.T_pure (i := 0) (oi := _) (v := ?_) rfl (by kernel_rfl) (by kernel_rfl) (by kernel_rfl) (by kernel_rfl) (fun _ _ _ h => h) (Or.inl ⟨by rfl, ?_⟩) (by assumption) (fun hHeld => ?_)
  rotate_left
  · intro w hSw; (try dsimp only at hSw); go_simp; all_goals with_reducible rfl
  try simp only [Act.put, List.getElem_toArray, List.getElem_cons_zero, List.getElem_cons_succ, List.setIfInBounds_toArray, List.set_cons_zero, List.set_cons_succ]
  refine Ph.T_pure (i := 1) (oi := _) (v := ?_) rfl (by kernel_rfl) (by kernel_rfl) (by kernel_rfl) (by kernel_rfl) (fun _ _ _ h => h) (Or.inl ⟨by rfl, ?_⟩) (by assumption) (fun hHeld => ?_)
  rotate_left
  · intro w hSw; (try dsimp only at hSw); go_simp; all_goals with_reducible rfl
  try simp only [Act.put, List.getElem_toArray, List.getElem_cons_zero, List.getElem_cons_succ, List.setIfInBounds_toArray, List.set_cons_zero, List.set_cons_succ]
  refine Ph.T_take (i := 2) (oi := _) (v := ?_) rfl (by kernel_rfl) (by kernel_rfl) (by kernel_rfl) (by kernel_rfl) (fun _ _ _ h => h) (Or.inl ⟨by rfl, ?_⟩) (by assumption) (fun hHeld => ?_)
  rotate_left
  · intro w hSw; (try dsimp only at hSw); go_simp; all_goals with_reducible rfl
  try simp only [Act.put, List.getElem_toArray, List.getElem_cons_zero, List.getElem_cons_succ, List.setIfInBounds_toArray, List.set_cons_zero, List.set_cons_succ]
  refine Ph.T_pure (i := 4) (oi := _) (v := ?_) rfl (by kernel_rfl) (by kernel_rfl) (by kernel_rfl) (by kernel_rfl) (fun _ _ _ h => h) (Or.inl ⟨by rfl, ?_⟩) (by assumption) (fun hHeld => ?_)
  rotate_left
  · intro w hSw; (try dsimp only at hSw); go_simp; all_goals with_reducible rfl
  try simp only [Act.put, List.getElem_toArray, List.getElem_cons_zero, List.getElem_cons_succ, List.setIfInBounds_toArray, List.set_cons_zero, List.set_cons_succ]
  refine Ph.T_pure (i := 5) (oi := _) (v := ?_) rfl (by kernel_rfl) (by kernel_rfl) (by kernel_rfl) (by kernel_rfl) (fun _ _ _ h => h) (Or.inl ⟨by rfl, ?_⟩) (by assumption) (fun hHeld => ?_)
  rotate_left
  · intro w hSw; (try dsimp only at hSw); go_simp; all_goals with_reducible rfl
  try simp only [Act.put, List.getElem_toArray, List.getElem_cons_zero, List.getElem_cons_succ, List.setIfInBounds_toArray, List.set_cons_zero, List.set_cons_succ]
  refine Ph.T_take (i := 6) (oi := _) (v := ?_) rfl (by kernel_rfl) (by kernel_rfl) (by kernel_rfl) (by kernel_rfl) (fun _ _ _ h => h) (Or.inl ⟨by rfl, ?_⟩) (by assumption) (fun hHeld => ?_)
  rotate_left
  · intro w hSw; (try dsimp only at hSw); go_simp; all_goals with_reducible rfl
  try simp only [Act.put, List.getElem_toArray, List.getElem_cons_zero, List.getElem_cons_succ, List.setIfInBounds_toArray, List.set_cons_zero, List.set_cons_succ]
  refine Ph.T_pure (i := 8) (oi := _) (v := ?_) rfl (by kernel_rfl) (by kernel_rfl) (by kernel_rfl) (by kernel_rfl) (fun _ _ _ h => h) (Or.inl ⟨by rfl, ?_⟩) (by assumption) (fun hHeld => ?_)
  rotate_left
  · intro w hSw; (try dsimp only at hSw); go_simp; all_goals with_reducible rfl
  try simp only [Act.put, List.getElem_toArray, List.getElem_cons_zero, List.getElem_cons_succ, List.setIfInBounds_toArray, List.set_cons_zero, List.set_cons_succ]
  refine Ph.T_pure (i := 9) (oi := _) (v := ?_) rfl (by kernel_rfl) (by kernel_rfl) (by kernel_rfl) (by kernel_rfl) (fun _ _ _ h => h) (Or.inl ⟨by rfl, ?_⟩) (by assumption) (fun hHeld => ?_)
  rotate_left
  · intro w hSw; (try dsimp only at hSw); go_simp; all_goals with_reducible rfl
  try simp only [Act.put, List.getElem_toArray, List.getElem_cons_zero, List.getElem_cons_succ, List.setIfInBounds_toArray, List.set_cons_zero, List.set_cons_succ]
  refine Ph.T_take (i := 10) (oi := _) (v := ?_) rfl (by kernel_rfl) (by kernel_rfl) (by kernel_rfl) (by kernel_rfl) (fun _ _ _ h => h) (Or.inl ⟨by rfl, ?_⟩) (by assumption) (fun hHeld => ?_)
  rotate_left
  · intro w hSw; (try dsimp only at hSw); go_simp; all_goals with_reducible rfl
  try simp only [Act.put, List.getElem_toArray, List.getElem_cons_zero, List.getElem_cons_succ, List.setIfInBounds_toArray, List.set_cons_zero, List.set_cons_succ]
  refine Ph.T_one (i := 3) (o := _) (by kernel_rfl) rfl (fun K hK => ?_)
  go_simp
  go_at_call 41
  refine (HE.out _ (by exact bel_eq12 (Below.refl _ w0) rfl rfl rfl rfl)).mono ?_
  rintro e w1 ⟨v1, rfl, ho1, hc1⟩
  have HC1 := Lib.hid (show Below w0.heap.size w0 w1 from ⟨hc1.os, hc1.tape, hc1.output, hc1.size, hc1.block⟩)
  obtain ⟨A1, n1, k1, rfl⟩ := own_shape ho1
  have HL1 := Lib.hid (show ∀ b, (Value.slice A1 n1 k1).ownBlock = some b → b < w1.heap.size from fun b hb => (World.ownsRow.lt ho1 b hb).2)
  have HO1 := Lib.hid ho1
  clear hc1 ho1
  go_wp2_with fail
  refine hK.out _ _ ?_ (fun hHeld => ?_)
  · exact HS.out _ HC1.out
  clear hK K
  try simp only [Act.put, List.getElem_toArray, List.getElem_cons_zero, List.getElem_cons_succ, List.setIfInBounds_toArray, List.set_cons_zero, List.set_cons_succ]
  refine Ph.T_pure (i := 12) (oi := _) (v := ?_) rfl (by kernel_rfl) (by kernel_rfl) (by kernel_rfl) (by kernel_rfl) (fun _ _ _ h => h) (Or.inl ⟨by rfl, ?_⟩) (by assumption) (fun hHeld => ?_)
  rotate_left
  · intro w hSw; (try dsimp only at hSw); go_simp; all_goals with_reducible rfl
  try simp only [Act.put, List.getElem_toArray, List.getElem_cons_zero, List.getElem_cons_succ, List.setIfInBounds_toArray, List.set_cons_zero, List.set_cons_succ]
  refine Ph.T_one (i := 7) (o := _) (by kernel_rfl) rfl (fun K hK => ?_)
  go_simp
  go_at_call 41
  refine (HRR.out _ (by exact HC1.out)).mono ?_
  rintro e w2 ⟨v2, rfl, ho2, hc2⟩
  have HC2 := Lib.hid (show Below w0.heap.size w0 w2 from HC1.out.trans (hc2.mono HC1.out.size))
  have HD2 := Lib.hid hc2
  obtain ⟨A2, n2, k2, rfl⟩ := own_shape ho2
  have HO2 := Lib.hid ho2
  clear hc2 ho2
  go_wp2_with fail
  refine hK.out _ _ ?_ (fun hHeld => ?_)
  · exact HS.out _ HC2.out
  clear hK K
  try simp only [Act.put, List.getElem_toArray, List.getElem_cons_zero, List.getElem_cons_succ, List.setIfInBounds_toArray, List.set_cons_zero, List.set_cons_succ]
  refine Ph.T_one (i := 11) (o := _) (by kernel_rfl) rfl (fun K hK => ?_)
  go_simp
  go_at_call 41
  refine (HAA.out _ (by exact HC2.out)).mono ?_
  rintro e w3 ⟨v3, rfl, ho3, hc3⟩
  have HC3 := Lib.hid (show Below w0.heap.size w0 w3 from HC2.out.trans (hc3.mono HC2.out.size))
  have HD3 := Lib.hid hc3
  obtain ⟨A3, n3, k3, rfl⟩ := own_shape ho3
  have HO3 := Lib.hid ho3
  clear hc3 ho3
  go_wp2_with fail
  refine hK.out _ _ ?_ (fun hHeld => ?_)
  · exact HS.out _ HC3.out
  clear hK K
  try simp only [Act.put, List.getElem_toArray, List.getElem_cons_zero, List.getElem_cons_succ, List.setIfInBounds_toArray, List.set_cons_zero, List.set_cons_succ]
  obtain ⟨f2, f3, f4⟩ := HF.out _ HC3.out
  obtain ⟨g2, g3, g4⟩ := HS.out _ HC3.out
  refine Ph.T_last (i := 13) (o := _) (by kernel_rfl) (by kernel_rfl) rfl (fun K hK => ?_)
  go_simp
  go_wp2_with fail
  refine hK.out _ _ ?_
  clear hK K
  try simp only [Act.put, List.getElem_toArray, List.getElem_cons_zero, List.getElem_cons_succ, List.setIfInBounds_toArray, List.set_cons_zero, List.set_cons_succ]
  refine Ph.T_free (i := 14) (oi := _) (v := ?_) (by kernel_rfl) (by kernel_rfl) rfl (Or.inl ⟨by rfl, ?_⟩) ?_
  rotate_left
  · intro w; go_simp; all_goals with_reducible rfl
  try simp only [Act.put, List.getElem_toArray, List.getElem_cons_zero, List.getElem_cons_succ, List.setIfInBounds_toArray, List.set_cons_zero, List.set_cons_succ]
  refine Ph.T_last (i := 15) (o := _) (by kernel_rfl) (by kernel_rfl) rfl (fun K hK => ?_)
  go_simp
  go_wp2_with fail
  refine hK.out _ _ ?_
  clear hK K
  try simp only [Act.put, List.getElem_toArray, List.getElem_cons_zero, List.getElem_cons_succ, List.setIfInBounds_toArray, List.set_cons_zero, List.set_cons_succ]
  refine Ph.T_free (i := 16) (oi := _) (v := ?_) (by kernel_rfl) (by kernel_rfl) rfl (Or.inl ⟨by rfl, ?_⟩) ?_
  rotate_left
  · intro w; go_simp; all_goals with_reducible rfl
  try simp only [Act.put, List.getElem_toArray, List.getElem_cons_zero, List.getElem_cons_succ, List.setIfInBounds_toArray, List.set_cons_zero, List.set_cons_succ]
  refine Ph.T_last (i := 17) (o := _) (by kernel_rfl) (by kernel_rfl) rfl (fun K hK => ?_)
  go_simp
  go_wp2_with fail
  refine hK.out _ _ ?_
  clear hK K
  try simp only [Act.put, List.getElem_toArray, List.getElem_cons_zero, List.getElem_cons_succ, List.setIfInBounds_toArray, List.set_cons_zero, List.set_cons_succ]
  refine Ph.T_done (by kernel_rfl) ?_ _
  refine NoPanic.normal ?_
  have hb3 : Hb w3 w.heap.size #[.bool c.allow, .bool c.attrsAllow, vE, vR, vA, .slice A l.length cp, .bool c.comments, .bool c.dataAttrs] := Hb.below (HBK.out : Hb w0 _ _) HC3.out (by omega)
  have hz3 : Hb w3 (w.heap.size + 1) #[.bool false, .bool false, .slice none 0 0, .slice none 0 0, .slice none 0 0, .slice none 0 0, .bool false, .bool false] := Hb.below HZB.out HC3.out (by omega)
  obtain ⟨W4, hW4⟩ : ∃ W4, ((w3.setCell ⟨w.heap.size, 2, none⟩ (.slice A1 n1 k1)).setCell ⟨w.heap.size, 3, none⟩ (.slice A2 n2 k2)).setCell ⟨w.heap.size, 4, none⟩ (.slice A3 n3 k3) = W4 := ⟨_, rfl⟩
  have hgr : w3.grownBy W4 (some w.heap.size) := hW4 ▸ ((gcell12 w3 _ 2 _).trans (gcell12 _ _ 3 _)).trans (gcell12 _ _ 4 _)
  have hb4 : Hb W4 w.heap.size #[.bool c.allow, .bool c.attrsAllow, .slice A1 n1 k1, .slice A2 n2 k2, .slice A3 n3 k3, .slice A l.length cp, .bool c.comments, .bool c.dataAttrs] := hW4 ▸ ((hb3.set 2 (.slice A1 n1 k1)).set 3 (.slice A2 n2 k2)).set 4 (.slice A3 n3 k3)
  have hz4 : Hb W4 (w.heap.size + 1) #[.bool false, .bool false, .slice none 0 0, .slice none 0 0, .slice none 0 0, .slice none 0 0, .bool false, .bool false] := hz3.keep (hgr.block _ hz3.lt (by simp))
  have hbel4 : Below w.heap.size w W4 := (HB1.out.trans (HC3.out.mono HB1.out.size)).grown hgr (Nat.le_trans HB1.out.size HC3.out.size) (fun k hk => by injection hk with hk; omega)
  have hs1 : Sown w.heap.size W4 (.slice A1 n1 k1) (srt lt c.els) := by
    rw [← hW4]
    exact (own_other (own_other (own_other ((HO1.out.below HD2.out (Nat.le_refl _)).below HD3.out (Nat.le_refl _)) (by show w.heap.size < w0.heap.size; omega) _) (by show w.heap.size < w0.heap.size; omega) _) (by show w.heap.size < w0.heap.size; omega) _).mono (by show w.heap.size ≤ w0.heap.size; omega)
  have hs2 : Sown w1.heap.size W4 (.slice A2 n2 k2) (srt lt c.reps) := by
    have := HC1.out.size
    rw [← hW4]
    exact (own_other (own_other (own_other (HO2.out.below HD3.out (Nat.le_refl _)) (by show w.heap.size < w1.heap.size; omega) _) (by show w.heap.size < w1.heap.size; omega) _) (by show w.heap.size < w1.heap.size; omega) _)
  have hs3 : Sown w1.heap.size W4 (.slice A3 n3 k3) (srt lt c.ats) := by
    have := HC2.out.size
    rw [← hW4]
    exact (own_other (own_other (own_other HO3.out (by show w.heap.size < w2.heap.size; omega) _) (by show w.heap.size < w2.heap.size; omega) _) (by show w.heap.size < w2.heap.size; omega) _).mono HD2.out.size
  rw [hW4]
  have HW14 := Lib.hid (Nat.le_trans (Nat.le_trans HD2.out.size HD3.out.size) hgr.size)
  have HBL4 := Lib.hid hbel4; have HS1 := Lib.hid hs1; have HS2 := Lib.hid hs2; have HS3 := Lib.hid hs3; have HB4 := Lib.hid hb4; have HZ4 := Lib.hid hz4
  have c5 := hb4.cell 5 _ rfl
  clear hbel4 hs1 hs2 hs3 hb4 hz4 hgr hW4 hb3 hz3 f2 f3 f4 g2 g3 g4
  obtain ⟨i0, hi, hz0, hz1, hz2⟩ := info_parts info_per
  go_wp2_with (at_make; refine wpList_make_own _ rfl (.const (.int .i64 0)) (.tmp 25) 24 rfl W4.heap.size 48 i0 _ 2 Try.underlying24 hi hz0 hz1 .i64 .i64 _ l.length rfl rfl (by simp) (by rw [hz2]; omega) (by unfold maxLen; omega) (Nat.le_refl _) ?_; intro w6 hown hgrow; have hb6 : Below W4.heap.size W4 w6 := (Below.refl W4.heap.size W4).grown hgrow (Nat.le_refl _) (by simp); have c56 := (HB4.out.on hb6).cell 5 _ rfl)
  have ho0 : Po W4.heap.size w6 (.slice (some ⟨W4.heap.size, 0, none⟩) 0 l.length) [] := ⟨hown, fun _ h => by simp at h⟩
  clear hown hgrow c5 c56
  have HB6 := Lib.hid hb6
  go_loopw [5, 7, 30] (fun v _ i wr => ∃ (k : Nat) (acc : List Pw), i = .int .i64 k ∧ k ≤ l.length ∧ acc.length = k ∧ Po W4.heap.size wr v acc ∧ (∀ y ∈ acc, Fp W4.heap.size wr y) ∧ pes acc = (pes (l.take k)).map (fun p => ⟨p.el, srt lt p.at_⟩) ∧ Below W4.heap.size W4 wr) (fun _ _ i _ => l.length - (intOf i).toNat)
  case atStart => exact ⟨0, [], rfl, Nat.zero_le _, rfl, ho0, (fun y hy => by cases hy), rfl, hb6⟩
  case round =>
    clear ho0 hb6
    obtain ⟨k, acc, rfl, hks, hal, hown, hfp, hpe, hbel⟩ := hrel
    by_cases hk : k < l.length
    · have hbw : Below w.heap.size w wr := HBL4.out.trans (hbel.mono HBL4.out.size)
      obtain ⟨b, off, x, rfl, hb, hx, hcs, hsx, hxm⟩ := (HR.out.below hbw).at_ k hk
      obtain ⟨g0, g1⟩ := range2p hcs
      have hxl := HLEN.out x hxm
      obtain ⟨w7, hw7⟩ : ∃ w7, wr.alloc (perO x) = w7 := ⟨_, rfl⟩
      have hb7 : Below wr.heap.size wr w7 := hw7 ▸ below_new12 wr (perO x)
      have hz7 : w7.heap.size = wr.heap.size + 1 := by rw [← hw7]; simp
      have hbk : ∀ w3, Below w7.heap.size w7 w3 → w3.cell? ⟨wr.heap.size, 0, none⟩ = some (.string x.pe.el) ∧ w3.cell? ⟨wr.heap.size, 1, none⟩ = some (.slice x.A x.pe.at_.length x.c) := fun w3 h => by subst hw7; exact ⟨pbox_kept h 0, pbox_kept h 1⟩
      have hsx7 : Sx w7 w7.heap.size x := (((hsx.more hbw.size).below hb7).more hb7.size)
      have HC := Lib.hid (fun wx (hb : Below w7.heap.size w7 wx) => sorted_any (.slice x.A x.pe.at_.length x.c) x.pe.at_ wx (sv_on hsx7 hb) hxl)
      have hown7 := hown.below hb7
      have hfp7 : ∀ y ∈ acc, Fp W4.heap.size w7 y := fun y hy => (hfp y hy).below hb7
      have hbel7 : Below W4.heap.size W4 w7 := hbel.trans (hb7.mono hbel.size)
      have HBK := Lib.hid hbk; have HO7 := Lib.hid hown7; have HF7 := Lib.hid hfp7; have HL7 := Lib.hid hbel7; have HPE := Lib.hid hpe; have HW7 := Lib.hid hw7; have HX := Lib.hid hx; have HZ7 := Lib.hid hz7
      have hNz : W4.heap.size ≤ wr.heap.size := hbel.size
      have HNE := Lib.hid (show Value.ownBlock _ ≠ some wr.heap.size from fun e => Nat.lt_irrefl _ (World.ownsRow.lt hown.1 _ e).2)
      clear hb7 hbk hsx7 hown7 hfp7 hbel7 hpe hown hfp hbel hbw hcs hsx hw7 hx hz7
      go_upto_region 6 with (fail)
      rw [HW7.out]
      obtain ⟨m8, hm8⟩ : ∃ m8, srt lt x.pe.at_ = m8 := ⟨_, rfl⟩
      have HM8 := Lib.hid hm8; clear hm8
      go_region_held3 (fun w' => w'.cell? ⟨wr.heap.size, 0, none⟩ = some (.string x.pe.el) ∧ w'.cell? ⟨wr.heap.size, 1, none⟩ = some (.slice x.A x.pe.at_.length x.c)) (first | exact HBK.out _ (bel_eq12 (Below.refl _ w7) rfl rfl rfl rfl) | exact HBK.out _ HC8.out | exact HBK.out _ (HC8.out.trans ((below_new12 w8 _).mono HC8.out.size)) | exact HK9.out | go_keep) (first
        | (go_at_call 41; refine (HC.out _ (by exact bel_eq12 (Below.refl _ w7) rfl rfl rfl rfl)).mono ?_; rintro e w8 ⟨v8, rfl, ho8, hc8⟩; have HC8 := Lib.hid (show Below w7.heap.size w7 w8 from ⟨hc8.os, hc8.tape, hc8.output, hc8.size, hc8.block⟩); rw [HM8.out] at ho8; obtain ⟨A8, k8, rfl, -, -, -⟩ := sv_own ho8; have HO8 := Lib.hid (show Fp w7.heap.size w8 ⟨⟨x.pe.el, m8⟩, A8, k8⟩ from ho8); clear hc8 ho8)
        | (refine step_app_per _ (by rfl) (.tmp 34) (.tmp 42) (by rfl) w8 W4.heap.size _ acc ⟨⟨x.pe.el, m8⟩, A8, k8⟩ (HO7.out.below HC8.out) HO8.out.sx HO8.out.ap (World.grownBy_alloc w8 _ _) (Nat.le_trans HL7.out.size HC8.out.size) (by omega) (by simp [Act.eval, Act.put]) _ (by simp [Act.eval, Act.put]) (heap_alloc_new _ _) ?_; intro v9 w9 ho9 hg9; have HO9 := Lib.hid ho9; have HG9 := Lib.hid hg9; have HK9 := Lib.hid (kept_per HO7.out HC8.out hg9 HZ7.out HNE.out (HBK.out _ HC8.out)); clear ho9 hg9))
      go_wp2
      have ho8' := HO7.out.below HC8.out
      have hn1 : ∀ y ∈ acc ++ [(⟨⟨x.pe.el, m8⟩, A8, k8⟩ : Pw)], Fp W4.heap.size w9 y := fun y hy => by
        rcases List.mem_append.1 hy with hy | hy
        · exact Sown.grownP ho8'.1 HG9.out ((HF7.out y hy).below HC8.out)
        · rw [List.mem_singleton] at hy
          subst hy
          exact Sown.grownP ho8'.1 HG9.out (HO8.out.mono HL7.out.size)
      have hn2 : pes (acc ++ [(⟨⟨x.pe.el, m8⟩, A8, k8⟩ : Pw)]) = (pes (l.take (k + 1))).map (fun p => ⟨p.el, srt lt p.at_⟩) := by
        rw [pes_append, HPE.out, pes_succ HX.out, List.map_append, ← HM8.out]
        rfl
      have hn3 : Below W4.heap.size W4 w9 := (HL7.out.trans (HC8.out.mono HL7.out.size)).grown HG9.out (Nat.le_trans HL7.out.size HC8.out.size) (fun q hq => (World.ownsRow.lt ho8'.1 q hq).1)
      go_roundw
      case rel => exact ⟨k + 1, acc ++ [⟨⟨x.pe.el, m8⟩, A8, k8⟩], by go_num, by omega, by simp; omega, HO9.out, hn1, hn2, hn3⟩
      case measure => simp [intOf]; omega
    · rw [List.take_of_length_le (by omega)] at hpe
      have HAL := Lib.hid hal; clear hal
      obtain ⟨A9, c9, rfl, -⟩ := hown.form
      have hbe := HB4.out.on hbel
      have hze := HZ4.out.on hbel
      have e5 := hbe.cell 5 _ rfl; have f5 := hbe.f 5
      have HBE := Lib.hid hbe; have HZE := Lib.hid hze; have HO := Lib.hid hown; have HF := Lib.hid hfp; have HPE := Lib.hid hpe; have HBL := Lib.hid hbel
      clear hbe hze hown hfp hpe hbel
      go_upto_region 9 with (fail)
      obtain ⟨W9, hW9⟩ : ∃ W9, wr.setCell ⟨w.heap.size, 5, none⟩ (.slice A9 acc.length c9) = W9 := ⟨_, rfl⟩
      have hg9 : wr.grownBy W9 (some w.heap.size) := hW9 ▸ gcell12 wr _ 5 _
      have hb9 : Hb W9 w.heap.size #[.bool c.allow, .bool c.attrsAllow, .slice A1 n1 k1, .slice A2 n2 k2, .slice A3 n3 k3, .slice A9 acc.length c9, .bool c.comments, .bool c.dataAttrs] := hW9 ▸ HBE.out.set 5 (.slice A9 acc.length c9)
      have hz9 : Hb W9 (w.heap.size + 1) #[.bool false, .bool false, .slice none 0 0, .slice none 0 0, .slice none 0 0, .slice none 0 0, .bool false, .bool false] := HZE.out.keep (hg9.block _ HZE.out.lt (by simp))
      rw [hW9]
      have HRG := Lib.hid hb9.range
      have HTH := Lib.hid (hz9.there 8 rfl)
      go_wp2_with (first
        | (show wpList _ _ _ (⟨_, Op.load 26 (.tmp 2), _, _, _, _⟩ :: _) _ _; refine wpList_load_mid rfl 26 (.tmp 2) rfl w.heap.size 0 rfl _ _ HRG.out Try.underlying26 rfl size_conf ?_)
        | (show wpList _ _ _ (⟨none, Op.store 26 (.tmp 4) (.tmp 47), _, _, _, _⟩ :: _) _ _; refine wpList_store_mid rfl 26 (.tmp 4) (.tmp 47) rfl (w.heap.size + 1) 0 #[.bool c.allow, .bool c.attrsAllow, .slice A1 n1 k1, .slice A2 n2 k2, .slice A3 n3 k3, .slice A9 acc.length c9, .bool c.comments, .bool c.dataAttrs] rfl rfl HTH.out size_conf (by simp [Value.oneCell']) ?_))
      obtain ⟨W, hW⟩ : ∃ W, W9.setCells (w.heap.size + 1) 0 [.bool c.allow, .bool c.attrsAllow, .slice A1 n1 k1, .slice A2 n2 k2, .slice A3 n3 k3, .slice A9 acc.length c9, .bool c.comments, .bool c.dataAttrs] = W := ⟨_, rfl⟩
      have hgW : W9.grownBy W (some (w.heap.size + 1)) := hW ▸ gcells12 (w.heap.size + 1) _ 0 W9
      have hbW : Bx W (w.heap.size + 1) c (.slice A1 n1 k1) (.slice A2 n2 k2) (.slice A3 n3 k3) (.slice A9 acc.length c9) := hW ▸ World.rangeAt_setCells_same W9 (w.heap.size + 1) 0 [.bool c.allow, .bool c.attrsAllow, .slice A1 n1 k1, .slice A2 n2 k2, .slice A3 n3 k3, .slice A9 acc.length c9, .bool c.comments, .bool c.dataAttrs] (HTH.out)
      obtain ⟨z0, z1, z2, z3, z4, z5, z6, z7⟩ := hbW.at_
      rw [hW]
      have hst : ∀ {N : Nat} {v : Value} {m : List ByteArray}, Sown N wr v m → Sown N W v m := fun h => own_boxed (own_boxed h HBE.out hg9) hz9 hgW
      have hbW' : Below w.heap.size w W := (((HBL4.out.trans (HBL.out.mono HBL4.out.size)).grown hg9 (Nat.le_trans HBL4.out.size HBL.out.size) (fun q hq => by injection hq with hq; omega)).grown hgW (Nat.le_trans (Nat.le_trans HBL4.out.size HBL.out.size) hg9.size) (fun q hq => by injection hq with hq; omega))
      have hw14 : w1.heap.size ≤ W4.heap.size := HW14.out
      have hfW : ∀ y ∈ acc, Fp w1.heap.size W y := fun y hy => hst ((HF.out y hy).mono hw14)
      have hrow := row_boxed (row_boxed (World.ownsRow.mono HO.out.1 hw14) (by decide) HBE.out hg9) (by decide) hz9 hgW
      go_wp2
      refine bodyPost_ret (v := confV c (.slice A1 n1 k1) (.slice A2 n2 k2) (.slice A3 n3 k3) (.slice A9 acc.length c9)) (by simp [results, Try.f40, go_sem, z0, z1, z2, z3, z4, z5, z6, z7]) rfl ⟨_, _, _, _, rfl, acc, w1.heap.size, Nat.le_trans HB1.out.size HC1.out.size, HL1.out, hst (HS1.out.below HBL.out (Nat.le_refl _)), hst (HS2.out.below HBL.out (Nat.le_refl _)), hst (HS3.out.below HBL.out (Nat.le_refl _)), po_of hrow hfW, hfW, ?_, hbW'⟩
      rw [HPE.out, HM.out]

set_option maxRecDepth 100000 in
set_option maxHeartbeats 4000000 in
theorem remade_C (v : Value) (c : Cf) (w : World) (h : Cv w w.heap.size v c) (hs : Sm c) :
    Calls Try.prog 40 #[v, .func (.func 43) #[] #[]] w fun r w' => ∃ vE vR vA vP l M, r = .returned (confV c vE vR vA vP) ∧ w.heap.size ≤ M ∧ (∀ b, vE.ownBlock = some b → b < M) ∧ Sown w.heap.size w' vE (sameL c.els) ∧ Sown M w' vR (sameL c.reps) ∧ Sown M w' vA (sameL c.ats) ∧ Po M w' vP l ∧ (∀ x ∈ l, Fp M w' x) ∧ pes l = c.per.map (fun p => ⟨p.el, sameL p.at_⟩) ∧ Below w.heap.size w w' := by
  obtain ⟨vE, vR, vA, vP, l, rfl, h⟩ := h
  obtain ⟨w0, hw0⟩ : ∃ w0, (w.alloc (confO c vE vR vA vP)).alloc zeroO = w0 := ⟨_, rfl⟩
  have hba : Below w.heap.size w (w.alloc (confO c vE vR vA vP)) := below_new12 w _
  have hb1 : Below w.heap.size w w0 := hw0 ▸ hba.trans ((below_new12 _ _).mono hba.size)
  have hbx : Bx w0 w.heap.size c vE vR vA vP := hw0 ▸ (Bx.new w c vE vR vA vP).below (below_new12 _ _) (by simp)
  have hz : w0.heap.size = w.heap.size + 2 := by rw [← hw0]; simp
  have h0 := h.on hb1
  obtain ⟨A, cp, rfl, hcp, hna, hr⟩ := h.p
  have hpl : c.per.length = l.length := by rw [← h.m, len_pes]
  have hl : l.length ≤ 1000 := by have := hs.p; omega
  have hlen : ∀ x ∈ l, x.pe.at_.length ≤ 1000000 := fun x hx => Nat.le_trans (hs.pa _ (by rw [← h.m]; exact List.mem_map.2 ⟨x, hx, rfl⟩)) (by omega)
  have HLEN := Lib.hid hlen; have HW := Lib.hid hw0; have HB1 := Lib.hid hb1; have HR := Lib.hid hr; have HM := Lib.hid h0.m
  have HE := Lib.hid (fun wx hb => copied_id vE c.els wx (sv_on h0.e hb) (by have := hs.e; omega))
  have HRR := Lib.hid (fun wx hb => copied_id vR c.reps wx (sv_on h0.r hb) (by have := hs.r; omega))
  have HAA := Lib.hid (fun wx hb => copied_id vA c.ats wx (sv_on h0.a hb) (by have := hs.a; omega))
  have HS := Lib.hid (fun wx (hb : Below w0.heap.size w0 wx) => show wx.cell? ⟨w.heap.size, 2, none⟩ = some vE ∧ wx.cell? ⟨w.heap.size, 3, none⟩ = some vR ∧ wx.cell? ⟨w.heap.size, 4, none⟩ = some vA from by
    have := (hbx.below hb (by omega)).at_
    exact ⟨this.2.2.1, this.2.2.2.1, this.2.2.2.2.1⟩)
  have hblk : w0.heap[w.heap.size]? = some (confO c vE vR vA (.slice A l.length cp)) := by
    rw [← hw0]
    exact ((below_new12 (w.alloc (confO c vE vR vA (.slice A l.length cp))) zeroO).block _ (by simp)).trans (heap_alloc_new w _)
  have HF := Lib.hid (fun wx (hb : Below w0.heap.size w0 wx) => show wx.frozen? ⟨w.heap.size, 2, none⟩ = false ∧ wx.frozen? ⟨w.heap.size, 3, none⟩ = false ∧ wx.frozen? ⟨w.heap.size, 4, none⟩ = false from by
    have := (hb.block w.heap.size (by omega)).trans hblk
    simp [World.frozen?, this])
  have HBK := Lib.hid hblk
  have hzb : Hb w0 (w.heap.size + 1) #[.bool false, .bool false, .slice none 0 0, .slice none 0 0, .slice none 0 0, .slice none 0 0, .bool false, .bool false] := by
    rw [← hw0]
    have := Hb.new (w.alloc (confO c vE vR vA (.slice A l.length cp))) #[.bool false, .bool false, .slice none 0 0, .slice none 0 0, .slice none 0 0, .slice none 0 0, .bool false, .bool false]
    rwa [World.size_alloc] at this
  have HZB := Lib.hid hzb
  clear hlen hs h h0 hpl hr hb1 hbx hw0 hba hblk hzb
  go_enter Try.func40, Try.ntmps40
  go_upto_region 1 with (fail)
  rw [HW.out]
  refine wp_region_noPanic ?_
  refine Ph.T_begin (fun w' => w'.cell? ⟨w.heap.size, 2, none⟩ = some vE ∧ w'.cell? ⟨w.heap.size, 3, none⟩ = some vR ∧ w'.cell? ⟨w.heap.size, 4, none⟩ = some vA) 13 (by kernel_rfl) ?_ (fun hHeld => ?_)
  · exact HS.out _ (bel_eq12 (Below.refl _ w0) rfl rfl rfl rfl)
  refine Ph.T_pure (i := 0) (oi := _) (v := ?_) rfl (by kernel_rfl) (by kernel_rfl) (by kernel_rfl) (by kernel_rfl) (fun _ _ _ h => h) (Or.inl ⟨by rfl, ?_⟩) (by assumption) (fun hHeld => ?_)
  rotate_left
  · intro w hSw; (try dsimp only at hSw); go_simp; all_goals with_reducible rfl
  try simp only [Act.put, List.getElem_toArray, List.getElem_cons_zero, List.getElem_cons_succ, List.setIfInBounds_toArray, List.set_cons_zero, List.set_cons_succ]
  refine Ph.T_pure (i := 1) (oi := _) (v := ?_) rfl (by kernel_rfl) (by kernel_rfl) (by kernel_rfl) (by kernel_rfl) (fun _ _ _ h => h) (Or.inl ⟨by rfl, ?_⟩) (by assumption) (fun hHeld => ?_)
  rotate_left
  · intro w hSw; (try dsimp only at hSw); go_simp; all_goals with_reducible rfl
  try simp only [Act.put, List.getElem_toArray, List.getElem_cons_zero, List.getElem_cons_succ, List.setIfInBounds_toArray, List.set_cons_zero, List.set_cons_succ]
  refine Ph.T_take (i := 2) (oi := _) (v := ?_) rfl (by kernel_rfl) (by kernel_rfl) (by kernel_rfl) (by kernel_rfl) (fun _ _ _ h => h) (Or.inl ⟨by rfl, ?_⟩) (by assumption) (fun hHeld => ?_)
  rotate_left
  · intro w hSw; (try dsimp only at hSw); go_simp; all_goals with_reducible rfl
  try simp only [Act.put, List.getElem_toArray, List.getElem_cons_zero, List.getElem_cons_succ, List.setIfInBounds_toArray, List.set_cons_zero, List.set_cons_succ]
  refine Ph.T_pure (i := 4) (oi := _) (v := ?_) rfl (by kernel_rfl) (by kernel_rfl) (by kernel_rfl) (by kernel_rfl) (fun _ _ _ h => h) (Or.inl ⟨by rfl, ?_⟩) (by assumption) (fun hHeld => ?_)
  rotate_left
  · intro w hSw; (try dsimp only at hSw); go_simp; all_goals with_reducible rfl
  try simp only [Act.put, List.getElem_toArray, List.getElem_cons_zero, List.getElem_cons_succ, List.setIfInBounds_toArray, List.set_cons_zero, List.set_cons_succ]
  refine Ph.T_pure (i := 5) (oi := _) (v := ?_) rfl (by kernel_rfl) (by kernel_rfl) (by kernel_rfl) (by kernel_rfl) (fun _ _ _ h => h) (Or.inl ⟨by rfl, ?_⟩) (by assumption) (fun hHeld => ?_)
  rotate_left
  · intro w hSw; (try dsimp only at hSw); go_simp; all_goals with_reducible rfl
  try simp only [Act.put, List.getElem_toArray, List.getElem_cons_zero, List.getElem_cons_succ, List.setIfInBounds_toArray, List.set_cons_zero, List.set_cons_succ]
  refine Ph.T_take (i := 6) (oi := _) (v := ?_) rfl (by kernel_rfl) (by kernel_rfl) (by kernel_rfl) (by kernel_rfl) (fun _ _ _ h => h) (Or.inl ⟨by rfl, ?_⟩) (by assumption) (fun hHeld => ?_)
  rotate_left
  · intro w hSw; (try dsimp only at hSw); go_simp; all_goals with_reducible rfl
  try simp only [Act.put, List.getElem_toArray, List.getElem_cons_zero, List.getElem_cons_succ, List.setIfInBounds_toArray, List.set_cons_zero, List.set_cons_succ]
  refine Ph.T_pure (i := 8) (oi := _) (v := ?_) rfl (by kernel_rfl) (by kernel_rfl) (by kernel_rfl) (by kernel_rfl) (fun _ _ _ h => h) (Or.inl ⟨by rfl, ?_⟩) (by assumption) (fun hHeld => ?_)
  rotate_left
  · intro w hSw; (try dsimp only at hSw); go_simp; all_goals with_reducible rfl
  try simp only [Act.put, List.getElem_toArray, List.getElem_cons_zero, List.getElem_cons_succ, List.setIfInBounds_toArray, List.set_cons_zero, List.set_cons_succ]
  refine Ph.T_pure (i := 9) (oi := _) (v := ?_) rfl (by kernel_rfl) (by kernel_rfl) (by kernel_rfl) (by kernel_rfl) (fun _ _ _ h => h) (Or.inl ⟨by rfl, ?_⟩) (by assumption) (fun hHeld => ?_)
  rotate_left
  · intro w hSw; (try dsimp only at hSw); go_simp; all_goals with_reducible rfl
  try simp only [Act.put, List.getElem_toArray, List.getElem_cons_zero, List.getElem_cons_succ, List.setIfInBounds_toArray, List.set_cons_zero, List.set_cons_succ]
  refine Ph.T_take (i := 10) (oi := _) (v := ?_) rfl (by kernel_rfl) (by kernel_rfl) (by kernel_rfl) (by kernel_rfl) (fun _ _ _ h => h) (Or.inl ⟨by rfl, ?_⟩) (by assumption) (fun hHeld => ?_)
  rotate_left
  · intro w hSw; (try dsimp only at hSw); go_simp; all_goals with_reducible rfl
  try simp only [Act.put, List.getElem_toArray, List.getElem_cons_zero, List.getElem_cons_succ, List.setIfInBounds_toArray, List.set_cons_zero, List.set_cons_succ]
  refine Ph.T_one (i := 3) (o := _) (by kernel_rfl) rfl (fun K hK => ?_)
  go_simp
  go_at_call 43
  refine (HE.out _ (by exact bel_eq12 (Below.refl _ w0) rfl rfl rfl rfl)).mono ?_
  rintro e w1 ⟨v1, rfl, ho1, hc1⟩
  have HC1 := Lib.hid (show Below w0.heap.size w0 w1 from ⟨hc1.os, hc1.tape, hc1.output, hc1.size, hc1.block⟩)
  obtain ⟨A1, n1, k1, rfl⟩ := own_shape ho1
  have HL1 := Lib.hid (show ∀ b, (Value.slice A1 n1 k1).ownBlock = some b → b < w1.heap.size from fun b hb => (World.ownsRow.lt ho1 b hb).2)
  have HO1 := Lib.hid ho1
  clear hc1 ho1
  go_wp2_with fail
  refine hK.out _ _ ?_ (fun hHeld => ?_)
  · exact HS.out _ HC1.out
  clear hK K
  try simp only [Act.put, List.getElem_toArray, List.getElem_cons_zero, List.getElem_cons_succ, List.setIfInBounds_toArray, List.set_cons_zero, List.set_cons_succ]
  refine Ph.T_pure (i := 12) (oi := _) (v := ?_) rfl (by kernel_rfl) (by kernel_rfl) (by kernel_rfl) (by kernel_rfl) (fun _ _ _ h => h) (Or.inl ⟨by rfl, ?_⟩) (by assumption) (fun hHeld => ?_)
  rotate_left
  · intro w hSw; (try dsimp only at hSw); go_simp; all_goals with_reducible rfl
  try simp only [Act.put, List.getElem_toArray, List.getElem_cons_zero, List.getElem_cons_succ, List.setIfInBounds_toArray, List.set_cons_zero, List.set_cons_succ]
  refine Ph.T_one (i := 7) (o := _) (by kernel_rfl) rfl (fun K hK => ?_)
  go_simp
  go_at_call 43
  refine (HRR.out _ (by exact HC1.out)).mono ?_
  rintro e w2 ⟨v2, rfl, ho2, hc2⟩
  have HC2 := Lib.hid (show Below w0.heap.size w0 w2 from HC1.out.trans (hc2.mono HC1.out.size))
  have HD2 := Lib.hid hc2
  obtain ⟨A2, n2, k2, rfl⟩ := own_shape ho2
  have HO2 := Lib.hid ho2
  clear hc2 ho2
  go_wp2_with fail
  refine hK.out _ _ ?_ (fun hHeld => ?_)
  · exact HS.out _ HC2.out
  clear hK K
  try simp only [Act.put, List.getElem_toArray, List.getElem_cons_zero, List.getElem_cons_succ, List.setIfInBounds_toArray, List.set_cons_zero, List.set_cons_succ]
  refine Ph.T_one (i := 11) (o := _) (by kernel_rfl) rfl (fun K hK => ?_)
  go_simp
  go_at_call 43
  refine (HAA.out _ (by exact HC2.out)).mono ?_
  rintro e w3 ⟨v3, rfl, ho3, hc3⟩
  have HC3 := Lib.hid (show Below w0.heap.size w0 w3 from HC2.out.trans (hc3.mono HC2.out.size))
  have HD3 := Lib.hid hc3
  obtain ⟨A3, n3, k3, rfl⟩ := own_shape ho3
  have HO3 := Lib.hid ho3
  clear hc3 ho3
  go_wp2_with fail
  refine hK.out _ _ ?_ (fun hHeld => ?_)
  · exact HS.out _ HC3.out
  clear hK K
  try simp only [Act.put, List.getElem_toArray, List.getElem_cons_zero, List.getElem_cons_succ, List.setIfInBounds_toArray, List.set_cons_zero, List.set_cons_succ]
  obtain ⟨f2, f3, f4⟩ := HF.out _ HC3.out
  obtain ⟨g2, g3, g4⟩ := HS.out _ HC3.out
  refine Ph.T_last (i := 13) (o := _) (by kernel_rfl) (by kernel_rfl) rfl (fun K hK => ?_)
  go_simp
  go_wp2_with fail
  refine hK.out _ _ ?_
  clear hK K
  try simp only [Act.put, List.getElem_toArray, List.getElem_cons_zero, List.getElem_cons_succ, List.setIfInBounds_toArray, List.set_cons_zero, List.set_cons_succ]
  refine Ph.T_free (i := 14) (oi := _) (v := ?_) (by kernel_rfl) (by kernel_rfl) rfl (Or.inl ⟨by rfl, ?_⟩) ?_
  rotate_left
  · intro w; go_simp; all_goals with_reducible rfl
  try simp only [Act.put, List.getElem_toArray, List.getElem_cons_zero, List.getElem_cons_succ, List.setIfInBounds_toArray, List.set_cons_zero, List.set_cons_succ]
  refine Ph.T_last (i := 15) (o := _) (by kernel_rfl) (by kernel_rfl) rfl (fun K hK => ?_)
  go_simp
  go_wp2_with fail
  refine hK.out _ _ ?_
  clear hK K
  try simp only [Act.put, List.getElem_toArray, List.getElem_cons_zero, List.getElem_cons_succ, List.setIfInBounds_toArray, List.set_cons_zero, List.set_cons_succ]
  refine Ph.T_free (i := 16) (oi := _) (v := ?_) (by kernel_rfl) (by kernel_rfl) rfl (Or.inl ⟨by rfl, ?_⟩) ?_
  rotate_left
  · intro w; go_simp; all_goals with_reducible rfl
  try simp only [Act.put, List.getElem_toArray, List.getElem_cons_zero, List.getElem_cons_succ, List.setIfInBounds_toArray, List.set_cons_zero, List.set_cons_succ]
  refine Ph.T_last (i := 17) (o := _) (by kernel_rfl) (by kernel_rfl) rfl (fun K hK => ?_)
  go_simp
  go_wp2_with fail
  refine hK.out _ _ ?_
  clear hK K
  try simp only [Act.put, List.getElem_toArray, List.getElem_cons_zero, List.getElem_cons_succ, List.setIfInBounds_toArray, List.set_cons_zero, List.set_cons_succ]
  refine Ph.T_done (by kernel_rfl) ?_ _
  refine NoPanic.normal ?_
  have hb3 : Hb w3 w.heap.size #[.bool c.allow, .bool c.attrsAllow, vE, vR, vA, .slice A l.length cp, .bool c.comments, .bool c.dataAttrs] := Hb.below (HBK.out : Hb w0 _ _) HC3.out (by omega)
  have hz3 : Hb w3 (w.heap.size + 1) #[.bool false, .bool false, .slice none 0 0, .slice none 0 0, .slice none 0 0, .slice none 0 0, .bool false, .bool false] := Hb.below HZB.out HC3.out (by omega)
  obtain ⟨W4, hW4⟩ : ∃ W4, ((w3.setCell ⟨w.heap.size, 2, none⟩ (.slice A1 n1 k1)).setCell ⟨w.heap.size, 3, none⟩ (.slice A2 n2 k2)).setCell ⟨w.heap.size, 4, none⟩ (.slice A3 n3 k3) = W4 := ⟨_, rfl⟩
  have hgr : w3.grownBy W4 (some w.heap.size) := hW4 ▸ ((gcell12 w3 _ 2 _).trans (gcell12 _ _ 3 _)).trans (gcell12 _ _ 4 _)
  have hb4 : Hb W4 w.heap.size #[.bool c.allow, .bool c.attrsAllow, .slice A1 n1 k1, .slice A2 n2 k2, .slice A3 n3 k3, .slice A l.length cp, .bool c.comments, .bool c.dataAttrs] := hW4 ▸ ((hb3.set 2 (.slice A1 n1 k1)).set 3 (.slice A2 n2 k2)).set 4 (.slice A3 n3 k3)
  have hz4 : Hb W4 (w.heap.size + 1) #[.bool false, .bool false, .slice none 0 0, .slice none 0 0, .slice none 0 0, .slice none 0 0, .bool false, .bool false] := hz3.keep (hgr.block _ hz3.lt (by simp))
  have hbel4 : Below w.heap.size w W4 := (HB1.out.trans (HC3.out.mono HB1.out.size)).grown hgr (Nat.le_trans HB1.out.size HC3.out.size) (fun k hk => by injection hk with hk; omega)
  have hs1 : Sown w.heap.size W4 (.slice A1 n1 k1) (sameL c.els) := by
    rw [← hW4]
    exact (own_other (own_other (own_other ((HO1.out.below HD2.out (Nat.le_refl _)).below HD3.out (Nat.le_refl _)) (by show w.heap.size < w0.heap.size; omega) _) (by show w.heap.size < w0.heap.size; omega) _) (by show w.heap.size < w0.heap.size; omega) _).mono (by show w.heap.size ≤ w0.heap.size; omega)
  have hs2 : Sown w1.heap.size W4 (.slice A2 n2 k2) (sameL c.reps) := by
    have := HC1.out.size
    rw [← hW4]
    exact (own_other (own_other (own_other (HO2.out.below HD3.out (Nat.le_refl _)) (by show w.heap.size < w1.heap.size; omega) _) (by show w.heap.size < w1.heap.size; omega) _) (by show w.heap.size < w1.heap.size; omega) _)
  have hs3 : Sown w1.heap.size W4 (.slice A3 n3 k3) (sameL c.ats) := by
    have := HC2.out.size
    rw [← hW4]
    exact (own_other (own_other (own_other HO3.out (by show w.heap.size < w2.heap.size; omega) _) (by show w.heap.size < w2.heap.size; omega) _) (by show w.heap.size < w2.heap.size; omega) _).mono HD2.out.size
  rw [hW4]
  have HW14 := Lib.hid (Nat.le_trans (Nat.le_trans HD2.out.size HD3.out.size) hgr.size)
  have HBL4 := Lib.hid hbel4; have HS1 := Lib.hid hs1; have HS2 := Lib.hid hs2; have HS3 := Lib.hid hs3; have HB4 := Lib.hid hb4; have HZ4 := Lib.hid hz4
  have c5 := hb4.cell 5 _ rfl
  clear hbel4 hs1 hs2 hs3 hb4 hz4 hgr hW4 hb3 hz3 f2 f3 f4 g2 g3 g4
  obtain ⟨i0, hi, hz0, hz1, hz2⟩ := info_parts info_per
  go_wp2_with (at_make; refine wpList_make_own _ rfl (.const (.int .i64 0)) (.tmp 25) 24 rfl W4.heap.size 48 i0 _ 2 Try.underlying24 hi hz0 hz1 .i64 .i64 _ l.length rfl rfl (by simp) (by rw [hz2]; omega) (by unfold maxLen; omega) (Nat.le_refl _) ?_; intro w6 hown hgrow; have hb6 : Below W4.heap.size W4 w6 := (Below.refl W4.heap.size W4).grown hgrow (Nat.le_refl _) (by simp); have c56 := (HB4.out.on hb6).cell 5 _ rfl)
  have ho0 : Po W4.heap.size w6 (.slice (some ⟨W4.heap.size, 0, none⟩) 0 l.length) [] := ⟨hown, fun _ h => by simp at h⟩
  clear hown hgrow c5 c56
  have HB6 := Lib.hid hb6
  go_loopw [5, 7, 30] (fun v _ i wr => ∃ (k : Nat) (acc : List Pw), i = .int .i64 k ∧ k ≤ l.length ∧ acc.length = k ∧ Po W4.heap.size wr v acc ∧ (∀ y ∈ acc, Fp W4.heap.size wr y) ∧ pes acc = (pes (l.take k)).map (fun p => ⟨p.el, sameL p.at_⟩) ∧ Below W4.heap.size W4 wr) (fun _ _ i _ => l.length - (intOf i).toNat)
  case atStart => exact ⟨0, [], rfl, Nat.zero_le _, rfl, ho0, (fun y hy => by cases hy), rfl, hb6⟩
  case round =>
    clear ho0 hb6
    obtain ⟨k, acc, rfl, hks, hal, hown, hfp, hpe, hbel⟩ := hrel
    by_cases hk : k < l.length
    · have hbw : Below w.heap.size w wr := HBL4.out.trans (hbel.mono HBL4.out.size)
      obtain ⟨b, off, x, rfl, hb, hx, hcs, hsx, hxm⟩ := (HR.out.below hbw).at_ k hk
      obtain ⟨g0, g1⟩ := range2p hcs
      have hxl := HLEN.out x hxm
      obtain ⟨w7, hw7⟩ : ∃ w7, wr.alloc (perO x) = w7 := ⟨_, rfl⟩
      have hb7 : Below wr.heap.size wr w7 := hw7 ▸ below_new12 wr (perO x)
      have hz7 : w7.heap.size = wr.heap.size + 1 := by rw [← hw7]; simp
      have hbk : ∀ w3, Below w7.heap.size w7 w3 → w3.cell? ⟨wr.heap.size, 0, none⟩ = some (.string x.pe.el) ∧ w3.cell? ⟨wr.heap.size, 1, none⟩ = some (.slice x.A x.pe.at_.length x.c) := fun w3 h => by subst hw7; exact ⟨pbox_kept h 0, pbox_kept h 1⟩
      have hsx7 : Sx w7 w7.heap.size x := (((hsx.more hbw.size).below hb7).more hb7.size)
      have HC := Lib.hid (fun wx (hb : Below w7.heap.size w7 wx) => copied_id (.slice x.A x.pe.at_.length x.c) x.pe.at_ wx (sv_on hsx7 hb) hxl)
      have hown7 := hown.below hb7
      have hfp7 : ∀ y ∈ acc, Fp W4.heap.size w7 y := fun y hy => (hfp y hy).below hb7
      have hbel7 : Below W4.heap.size W4 w7 := hbel.trans (hb7.mono hbel.size)
      have HBK := Lib.hid hbk; have HO7 := Lib.hid hown7; have HF7 := Lib.hid hfp7; have HL7 := Lib.hid hbel7; have HPE := Lib.hid hpe; have HW7 := Lib.hid hw7; have HX := Lib.hid hx; have HZ7 := Lib.hid hz7
      have hNz : W4.heap.size ≤ wr.heap.size := hbel.size
      have HNE := Lib.hid (show Value.ownBlock _ ≠ some wr.heap.size from fun e => Nat.lt_irrefl _ (World.ownsRow.lt hown.1 _ e).2)
      clear hb7 hbk hsx7 hown7 hfp7 hbel7 hpe hown hfp hbel hbw hcs hsx hw7 hx hz7
      go_upto_region 6 with (fail)
      rw [HW7.out]
      obtain ⟨m8, hm8⟩ : ∃ m8, sameL x.pe.at_ = m8 := ⟨_, rfl⟩
      have HM8 := Lib.hid hm8; clear hm8
      go_region_held3 (fun w' => w'.cell? ⟨wr.heap.size, 0, none⟩ = some (.string x.pe.el) ∧ w'.cell? ⟨wr.heap.size, 1, none⟩ = some (.slice x.A x.pe.at_.length x.c)) (first | exact HBK.out _ (bel_eq12 (Below.refl _ w7) rfl rfl rfl rfl) | exact HBK.out _ HC8.out | exact HBK.out _ (HC8.out.trans ((below_new12 w8 _).mono HC8.out.size)) | exact HK9.out | go_keep) (first
        | (go_at_call 43; refine (HC.out _ (by exact bel_eq12 (Below.refl _ w7) rfl rfl rfl rfl)).mono ?_; rintro e w8 ⟨v8, rfl, ho8, hc8⟩; have HC8 := Lib.hid (show Below w7.heap.size w7 w8 from ⟨hc8.os, hc8.tape, hc8.output, hc8.size, hc8.block⟩); rw [HM8.out] at ho8; obtain ⟨A8, k8, rfl, -, -, -⟩ := sv_own ho8; have HO8 := Lib.hid (show Fp w7.heap.size w8 ⟨⟨x.pe.el, m8⟩, A8, k8⟩ from ho8); clear hc8 ho8)
        | (refine step_app_per _ (by rfl) (.tmp 34) (.tmp 42) (by rfl) w8 W4.heap.size _ acc ⟨⟨x.pe.el, m8⟩, A8, k8⟩ (HO7.out.below HC8.out) HO8.out.sx HO8.out.ap (World.grownBy_alloc w8 _ _) (Nat.le_trans HL7.out.size HC8.out.size) (by omega) (by simp [Act.eval, Act.put]) _ (by simp [Act.eval, Act.put]) (heap_alloc_new _ _) ?_; intro v9 w9 ho9 hg9; have HO9 := Lib.hid ho9; have HG9 := Lib.hid hg9; have HK9 := Lib.hid (kept_per HO7.out HC8.out hg9 HZ7.out HNE.out (HBK.out _ HC8.out)); clear ho9 hg9))
      go_wp2
      have ho8' := HO7.out.below HC8.out
      have hn1 : ∀ y ∈ acc ++ [(⟨⟨x.pe.el, m8⟩, A8, k8⟩ : Pw)], Fp W4.heap.size w9 y := fun y hy => by
        rcases List.mem_append.1 hy with hy | hy
        · exact Sown.grownP ho8'.1 HG9.out ((HF7.out y hy).below HC8.out)
        · rw [List.mem_singleton] at hy
          subst hy
          exact Sown.grownP ho8'.1 HG9.out (HO8.out.mono HL7.out.size)
      have hn2 : pes (acc ++ [(⟨⟨x.pe.el, m8⟩, A8, k8⟩ : Pw)]) = (pes (l.take (k + 1))).map (fun p => ⟨p.el, sameL p.at_⟩) := by
        rw [pes_append, HPE.out, pes_succ HX.out, List.map_append, ← HM8.out]
        rfl
      have hn3 : Below W4.heap.size W4 w9 := (HL7.out.trans (HC8.out.mono HL7.out.size)).grown HG9.out (Nat.le_trans HL7.out.size HC8.out.size) (fun q hq => (World.ownsRow.lt ho8'.1 q hq).1)
      go_roundw
      case rel => exact ⟨k + 1, acc ++ [⟨⟨x.pe.el, m8⟩, A8, k8⟩], by go_num, by omega, by simp; omega, HO9.out, hn1, hn2, hn3⟩
      case measure => simp [intOf]; omega
    · rw [List.take_of_length_le (by omega)] at hpe
      have HAL := Lib.hid hal; clear hal
      obtain ⟨A9, c9, rfl, -⟩ := hown.form
      have hbe := HB4.out.on hbel
      have hze := HZ4.out.on hbel
      have e5 := hbe.cell 5 _ rfl; have f5 := hbe.f 5
      have HBE := Lib.hid hbe; have HZE := Lib.hid hze; have HO := Lib.hid hown; have HF := Lib.hid hfp; have HPE := Lib.hid hpe; have HBL := Lib.hid hbel
      clear hbe hze hown hfp hpe hbel
      go_upto_region 9 with (fail)
      obtain ⟨W9, hW9⟩ : ∃ W9, wr.setCell ⟨w.heap.size, 5, none⟩ (.slice A9 acc.length c9) = W9 := ⟨_, rfl⟩
      have hg9 : wr.grownBy W9 (some w.heap.size) := hW9 ▸ gcell12 wr _ 5 _
      have hb9 : Hb W9 w.heap.size #[.bool c.allow, .bool c.attrsAllow, .slice A1 n1 k1, .slice A2 n2 k2, .slice A3 n3 k3, .slice A9 acc.length c9, .bool c.comments, .bool c.dataAttrs] := hW9 ▸ HBE.out.set 5 (.slice A9 acc.length c9)
      have hz9 : Hb W9 (w.heap.size + 1) #[.bool false, .bool false, .slice none 0 0, .slice none 0 0, .slice none 0 0, .slice none 0 0, .bool false, .bool false] := HZE.out.keep (hg9.block _ HZE.out.lt (by simp))
      rw [hW9]
      have HRG := Lib.hid hb9.range
      have HTH := Lib.hid (hz9.there 8 rfl)
      go_wp2_with (first
        | (show wpList _ _ _ (⟨_, Op.load 26 (.tmp 2), _, _, _, _⟩ :: _) _ _; refine wpList_load_mid rfl 26 (.tmp 2) rfl w.heap.size 0 rfl _ _ HRG.out Try.underlying26 rfl size_conf ?_)
        | (show wpList _ _ _ (⟨none, Op.store 26 (.tmp 4) (.tmp 47), _, _, _, _⟩ :: _) _ _; refine wpList_store_mid rfl 26 (.tmp 4) (.tmp 47) rfl (w.heap.size + 1) 0 #[.bool c.allow, .bool c.attrsAllow, .slice A1 n1 k1, .slice A2 n2 k2, .slice A3 n3 k3, .slice A9 acc.length c9, .bool c.comments, .bool c.dataAttrs] rfl rfl HTH.out size_conf (by simp [Value.oneCell']) ?_))
      obtain ⟨W, hW⟩ : ∃ W, W9.setCells (w.heap.size + 1) 0 [.bool c.allow, .bool c.attrsAllow, .slice A1 n1 k1, .slice A2 n2 k2, .slice A3 n3 k3, .slice A9 acc.length c9, .bool c.comments, .bool c.dataAttrs] = W := ⟨_, rfl⟩
      have hgW : W9.grownBy W (some (w.heap.size + 1)) := hW ▸ gcells12 (w.heap.size + 1) _ 0 W9
      have hbW : Bx W (w.heap.size + 1) c (.slice A1 n1 k1) (.slice A2 n2 k2) (.slice A3 n3 k3) (.slice A9 acc.length c9) := hW ▸ World.rangeAt_setCells_same W9 (w.heap.size + 1) 0 [.bool c.allow, .bool c.attrsAllow, .slice A1 n1 k1, .slice A2 n2 k2, .slice A3 n3 k3, .slice A9 acc.length c9, .bool c.comments, .bool c.dataAttrs] (HTH.out)
      obtain ⟨z0, z1, z2, z3, z4, z5, z6, z7⟩ := hbW.at_
      rw [hW]
      have hst : ∀ {N : Nat} {v : Value} {m : List ByteArray}, Sown N wr v m → Sown N W v m := fun h => own_boxed (own_boxed h HBE.out hg9) hz9 hgW
      have hbW' : Below w.heap.size w W := (((HBL4.out.trans (HBL.out.mono HBL4.out.size)).grown hg9 (Nat.le_trans HBL4.out.size HBL.out.size) (fun q hq => by injection hq with hq; omega)).grown hgW (Nat.le_trans (Nat.le_trans HBL4.out.size HBL.out.size) hg9.size) (fun q hq => by injection hq with hq; omega))
      have hw14 : w1.heap.size ≤ W4.heap.size := HW14.out
      have hfW : ∀ y ∈ acc, Fp w1.heap.size W y := fun y hy => hst ((HF.out y hy).mono hw14)
      have hrow := row_boxed (row_boxed (World.ownsRow.mono HO.out.1 hw14) (by decide) HBE.out hg9) (by decide) hz9 hgW
      go_wp2
      refine bodyPost_ret (v := confV c (.slice A1 n1 k1) (.slice A2 n2 k2) (.slice A3 n3 k3) (.slice A9 acc.length c9)) (by simp [results, Try.f40, go_sem, z0, z1, z2, z3, z4, z5, z6, z7]) rfl ⟨_, _, _, _, rfl, acc, w1.heap.size, Nat.le_trans HB1.out.size HC1.out.size, HL1.out, hst (HS1.out.below HBL.out (Nat.le_refl _)), hst (HS2.out.below HBL.out (Nat.le_refl _)), hst (HS3.out.below HBL.out (Nat.le_refl _)), po_of hrow hfW, hfW, ?_, hbW'⟩
      rw [HPE.out, HM.out]

end Go.Proofs.Ytgjlfcamgkeibaa.Co

namespace Go.Proofs.Ytgjlfcamgkeibaa.Co
set_option maxRecDepth 100000
set_option linter.unusedVariables false
set_option linter.unusedSimpArgs false
open Go.RowKit Ba Fm Fo Nm Rk
theorem info_pers : (Try.prog.info? 24).map (fun i => (i.zero, i.size, i.bytes)) = some (some (.slice none 0 0), 1, 24) := by kernel_rfl
theorem made_at (n i : Nat) (h : i < n) : (madeCells #[Value.slice none 0 0] n)[i]? = some (.slice none 0 0) := by
  unfold madeCells
  rw [Array.getElem?_map, Array.getElem?_range, if_pos h]
  simp [Nat.mod_one]
theorem Gr.made (N : Nat) (w : World) (hN : N ≤ w.heap.size) (es : List ByteArray) : Gr N (w.alloc (.cells (madeCells #[.slice none 0 0] es.length) 24)) w.heap.size (madeCells #[.slice none 0 0] es.length) (es.map (pickW [])) := by
  have hz : ∀ (i : Nat) v, (madeCells #[Value.slice none 0 0] es.length)[i]? = some v → v = .slice none 0 0 := fun i v hv => by
    have hi : i < es.length := by
      have := (Array.getElem?_eq_some_iff.1 hv).1
      rwa [size_madeCells] at this
    rw [made_at _ _ hi] at hv
    injection hv with hv
    exact hv.symm
  refine ⟨heap_alloc_new w _, by rw [size_madeCells, List.length_map], hN, fun i v p hv hp => ?_, fun i j v u b hv _ _ hb => ?_⟩
  · have := hz i v hv
    subst this
    rw [List.getElem?_map] at hp
    obtain ⟨e, _, rfl⟩ := Option.map_eq_some_iff.1 hp
    exact Po.nil _ _
  · have := hz i v hv
    subst this
    simp [Value.ownBlock] at hb
theorem find_at {es : List ByteArray} (ha : Asc lt es) {s : ByteArray} (hs : s ∈ es) : ∃ h : below lt es s < es.length, es[below lt es s] = s := by
  obtain ⟨k, hk, rfl⟩ := List.getElem_of_mem hs
  have := below_at ord_lt ha hk
  exact ⟨by rw [this]; exact hk, by simp [this]⟩
theorem els_succ {l : List Pw} {k : Nat} {x : Pw} (h : l[k]? = some x) : (pes (l.take (k + 1))).map Pe.el = (pes (l.take k)).map Pe.el ++ [x.pe.el] := by
  have hk : k < l.length := (List.getElem?_eq_some_iff.1 h).1
  have hx : l[k] = x := (List.getElem?_eq_some_iff.1 h).2
  rw [List.take_succ_eq_append_getElem hk, pes_append, hx, List.map_append]
  rfl
theorem picks_put {es : List ByteArray} (ha : Asc lt es) {l : List Pw} {k j : Nat} {x : Pw} (h : l[k]? = some x) (hx : x.pe.at_ ≠ []) (hj : j < es.length) (he : es[j] = x.pe.el) :
    es.map (pickW (l.take (k + 1))) = (es.map (pickW (l.take k))).set j (pickW (l.take k) es[j] ++ [x]) := by
  apply List.ext_getElem?
  intro i
  by_cases hij : i = j
  · subst hij
    rw [List.getElem?_set_self (by rw [List.length_map]; exact hj), List.getElem?_map, List.getElem?_eq_getElem hj, Option.map_some, pickW_snoc h, if_pos ⟨he.symm, hx⟩]
  · rw [List.getElem?_set_ne (Ne.symm hij), List.getElem?_map, List.getElem?_map]
    by_cases hi : i < es.length
    · rw [List.getElem?_eq_getElem hi, Option.map_some, Option.map_some, pickW_snoc h, if_neg, List.append_nil]
      rintro ⟨e, _⟩
      have : es[i] = es[j] := e.symm.trans he.symm
      exact hij (List.getElem_inj (asc_nodup ha) |>.1 this)
    · rw [List.getElem?_eq_none (by omega)]
      rfl
theorem picks_same (es : List ByteArray) {l : List Pw} {k : Nat} {x : Pw} (h : l[k]? = some x) (hx : x.pe.at_ = []) : es.map (pickW (l.take (k + 1))) = es.map (pickW (l.take k)) := by
  refine List.map_congr_left fun e _ => ?_
  rw [pickW_snoc h, if_neg (fun hc => hc.2 hx), List.append_nil]

set_option maxRecDepth 100000 in
set_option maxHeartbeats 4000000 in
theorem grouped1 (v : Value) (l : List Pw) (w : World) (h : Pv w w.heap.size v l) (hl : l.length ≤ 1000) :
    Calls Try.prog 42 #[v] w fun r w' => ∃ v', r = .returned v' ∧ Po w.heap.size w' v' (groupW l (srt lt ((pes l).map Pe.el))) ∧ Below w.heap.size w w' := by
  obtain ⟨A, cp, rfl, hcp, hna, hr⟩ := h
  obtain ⟨els, hels⟩ : ∃ els, (pes l).map Pe.el = els := ⟨_, rfl⟩
  have hell : els.length = l.length := by rw [← hels, List.length_map, len_pes]
  have hmem : ∀ x ∈ l, x.pe.el ∈ els := fun x hx => by
    rw [← hels]
    exact List.mem_map.2 ⟨x.pe, List.mem_map.2 ⟨x, hx, rfl⟩, rfl⟩
  rw [hels]
  obtain ⟨es, hes⟩ : ∃ es, srt lt els = es := ⟨_, rfl⟩
  have hel2 : es.length ≤ l.length := by rw [← hes, ← hell]; exact len_srt lt els
  have hasc : Asc lt es := by rw [← hes]; exact (srt_is ord_lt els).1
  have hmem2 : ∀ x ∈ l, x.pe.el ∈ es := fun x hx => by rw [← hes]; exact mem_srt.2 (hmem x hx)
  have HELL := Lib.hid hell; have HASC := Lib.hid hasc; have HMEM := Lib.hid hmem2; have HELS := Lib.hid hels; have HES := Lib.hid hes
  rw [hes]
  clear hell hasc hmem hmem2 hes hels
  have HR := Lib.hid hr; clear hr
  go_enter Try.func42, Try.ntmps42
  go_wp2
  go_loopw [3, 5, 16] (fun v _ i wr => ∃ k : Nat, i = .int .i64 k ∧ k ≤ l.length ∧ Sown w.heap.size wr v ((pes (l.take k)).map Pe.el) ∧ Below w.heap.size w wr) (fun _ _ i _ => l.length - (intOf i).toNat)
  case atStart => exact ⟨0, rfl, Nat.zero_le _, Sown.nil _ _, Below.refl _ _⟩
  case round =>
    obtain ⟨k, rfl, hks, hown, hbel⟩ := hrel
    by_cases hk : k < l.length
    · obtain ⟨b, off, x, rfl, hb, hx, hcs, hsx, hxm⟩ := (HR.out.below hbel).at_ k hk
      obtain ⟨g0, g1⟩ := range2p hcs
      have hbd : (((pes (l.take k)).map Pe.el).length + 1) * 16 ≤ 140737488355328 := by
        rw [List.length_map, len_pes, List.length_take]
        omega
      have hbel7 := hbel.trans ((below_new12 wr (perO x)).mono hbel.size)
      have hown7 := hown.below (below_new12 wr (perO x)) (Nat.le_refl _)
      have HE := Lib.hid (els_succ hx); have HO7 := Lib.hid hown7; have HB7 := Lib.hid hbel7
      clear hcs hsx hown hbel hown7 hbel7 hx
      go_wp2_with (at_builtin; refine app_oneG (wr.alloc (perO x)) rfl (.tmp 20) (.tmp 23) rfl w.heap.size _ _ x.pe.el rfl HO7.out (wr.heap.size + 1) (by simp) rfl hbd HB7.out.size ?_; intro v3 w3 hown3 hk3)
      go_roundw
      case rel => exact ⟨k + 1, by go_num, by omega, by rw [HE.out]; exact hown3, hk3 _ HB7.out⟩
      case measure => simp [intOf]; omega
    · rw [List.take_of_length_le (by omega)] at hown
      rw [HELS.out] at hown
      have HBL := Lib.hid hbel
      have hsrt := sorted_any _ els wr (sv_own hown) (by have := HELL.out; omega)
      rw [HES.out] at hsrt
      have HSRT := Lib.hid hsrt
      clear hown hbel hks hsrt
      go_wp2_with fail
      refine HSRT.out.mono ?_
      rintro r w4 ⟨v4, rfl, ho4, hb4⟩
      obtain ⟨D, cd, rfl, hcd, hnd, hrd⟩ := sv_own ho4
      have hbel4 := HBL.out.trans (hb4.mono HBL.out.size)
      have hgm := Gr.made w4.heap.size w4 (Nat.le_refl _) es
      have HRD := Lib.hid hrd; have HB4 := Lib.hid hbel4; have HGM := Lib.hid hgm
      obtain ⟨i0, hi, hz0, hz1, hz2⟩ := info_parts info_pers
      clear ho4 hb4 hrd hbel4 hgm HSRT HBL
      go_wp2_with (at_make; refine wpList_make_row w4 rfl (.tmp 29) (.tmp 29) 81 rfl 24 i0 (.slice none 0 0) Try.underlying81 hi hz0 hz1 rfl .i64 .i64 es.length rfl rfl (by rw [hz2]; omega) (by omega) ?_)
      obtain ⟨w5, hw5⟩ : ∃ w5, w4.alloc (.cells (madeCells #[.slice none 0 0] es.length) 24) = w5 := ⟨_, rfl⟩
      have hgm5 : Gr w4.heap.size w5 w4.heap.size (madeCells #[.slice none 0 0] es.length) (es.map (pickW [])) := hw5 ▸ HGM.out
      have hb5 : Below w4.heap.size w4 w5 := hw5 ▸ below_new12 w4 _
      rw [hw5]
      have HGM5 := Lib.hid hgm5; have HB5 := Lib.hid hb5
      clear hgm5 hb5 hw5 HGM hz0 hz1 hz2 hi
      go_loopw [8, 9, 10, 33] (fun _ _ _ i wr => ∃ (k : Nat) (gs : Array Value), i = .int .i64 k ∧ k ≤ l.length ∧ Gr w4.heap.size wr w4.heap.size gs (es.map (pickW (l.take k))) ∧ Below w4.heap.size w4 wr) (fun _ _ _ i _ => l.length - (intOf i).toNat)
      case atStart => exact ⟨0, _, rfl, Nat.zero_le _, HGM5.out, HB5.out⟩
      case round =>
        clear HGM5 HB5
        obtain ⟨k, gs, rfl, hks, hgr, hbel⟩ := hrel
        have hbw : Below w.heap.size w wr := HB4.out.trans (hbel.mono HB4.out.size)
        by_cases hk : k < l.length
        · obtain ⟨b, off, x, rfl, hb, hx, hcs, hsx, hxm⟩ := (HR.out.below hbw).at_ k hk
          obtain ⟨g0, g1⟩ := range2p hcs
          have hb7 : Below wr.heap.size wr (wr.alloc (perO x)) := below_new12 wr (perO x)
          have hgr7 := hgr.below hb7
          have hbel7 := hbel.trans (hb7.mono hbel.size)
          have hsx7 : Sx (wr.alloc (perO x)) (wr.alloc (perO x)).heap.size x := ((hsx.more hbw.size).below hb7).more hb7.size
          have HX := Lib.hid hx; have HGR := Lib.hid hgr7; have HBL := Lib.hid hbel7; have HSX := Lib.hid hsx7; have HXM := Lib.hid hxm; have HBW := Lib.hid hbw; have HAP := Lib.hid (hsx.apart)
          clear hcs hsx hgr hbel hbw hgr7 hbel7 hsx7 hb7 hx hxm
          by_cases he : x.pe.at_ = []
          · have hl0 : x.pe.at_.length = 0 := by rw [he]; rfl
            have HP := Lib.hid (picks_same es HX.out he)
            have hd : decide (0 < x.pe.at_.length) = false := decide_eq_false (by omega)
            clear he hl0
            go_wp2
            go_roundw
            case rel => exact ⟨k + 1, gs, by go_num, by omega, by rw [HP.out]; exact HGR.out, HBL.out⟩
            case measure => simp [intOf]; omega
          · have hl0 : 0 < x.pe.at_.length := List.length_pos_iff.2 he
            have hd : decide (0 < x.pe.at_.length) = true := decide_eq_true hl0
            obtain ⟨hj, hje⟩ := find_at HASC.out (HMEM.out x HXM.out)
            have hfind := find_any D cd es x.pe.el (wr.alloc (perO x)) ((HRD.out.below HBL.out (Nat.le_refl _)).more HBL.out.size) (by omega) HASC.out
            have hje2 : es[below lt es x.pe.el]? = some x.pe.el := by rw [List.getElem?_eq_getElem hj, hje]
            clear hje
            obtain ⟨j, hjj⟩ : ∃ j, below lt es x.pe.el = j := ⟨_, rfl⟩
            rw [hjj] at hfind hj hje2
            have HFI := Lib.hid hfind; have HJE := Lib.hid hje2; have HNE := Lib.hid he
            clear hfind hje2 hjj he
            go_wp2_with fail
            refine HFI.out.mono ?_
            rintro r w8 ⟨rfl, hb8⟩
            have hgr8 := HGR.out.below hb8
            have hjg : j < gs.size := by rw [hgr8.size, List.length_map]; exact hj
            obtain ⟨vj, hvj⟩ : ∃ v, gs[j]? = some v := ⟨_, Array.getElem?_eq_getElem hjg⟩
            obtain ⟨pj, hpj⟩ : ∃ p, (es.map (pickW (l.take k)))[j]? = some p := ⟨_, List.getElem?_eq_getElem (by rw [List.length_map]; exact hj)⟩
            have hown8 := hgr8.own j vj pj hvj hpj
            have hpl : pj.length ≤ 2000000 := by
              rw [List.getElem?_map] at hpj
              obtain ⟨e, _, rfl⟩ := Option.map_eq_some_iff.1 hpj
              have := len_pickW (l.take k) e
              rw [List.length_take] at this
              omega
            obtain ⟨gc, gf⟩ := hgr8.cell hvj
            have e0 : w8.cell? ⟨wr.heap.size, 0, none⟩ = some (.string x.pe.el) := pbox_kept hb8 0
            have e1 : w8.cell? ⟨wr.heap.size, 1, none⟩ = some (.slice x.A x.pe.at_.length x.c) := pbox_kept hb8 1
            have hsx8 := (HSX.out.below hb8).more hb8.size
            have hap8 : Ap w8 w4.heap.size x := (((show Ap wr w.heap.size x from HAP.out).below (below_new12 wr (perO x))).below hb8).more HB4.out.size
            have HB8 := Lib.hid (HBL.out.trans (hb8.mono HBL.out.size)); have HGR8 := Lib.hid hgr8; have HO8 := Lib.hid hown8; have HS8 := Lib.hid hsx8; have HA8 := Lib.hid hap8; have HVJ := Lib.hid hvj; have HPJ := Lib.hid hpj
            have HGC := Lib.hid (fun W (hg : w8.grownBy W vj.ownBlock) => (show W.frozen? ⟨w4.heap.size, j, none⟩ = false ∧ W.cell? ⟨w4.heap.size, j, none⟩ = some vj from by
              have hne : some w4.heap.size ≠ vj.ownBlock := fun e => by
                rcases hown8.1.2 with ⟨e1, _⟩ | ⟨b1, cap1, cur1, e1, _, hh1, _⟩
                · subst e1
                  simp [Value.ownBlock] at e
                · subst e1
                  have e : w4.heap.size = b1 := by simpa [Value.ownBlock] using e
                  subst e
                  exact hgr8.ne.1 _ _ hh1
              have e := hg.block _ hgr8.lt hne
              exact ⟨(World.frozen?_of_block (a := ⟨w4.heap.size, j, none⟩) e).trans gf, (World.cell?_of_block (a := ⟨w4.heap.size, j, none⟩) e).trans gc⟩))
            have hpk := picks_put HASC.out HX.out HNE.out hj (by have := HJE.out; rw [List.getElem?_eq_getElem hj] at this; injection this)
            have hpj2 : pickW (l.take k) es[j] = pj := by rw [List.getElem?_map, List.getElem?_eq_getElem hj] at hpj; injection hpj
            rw [hpj2] at hpk
            have HPK := Lib.hid hpk
            clear hpk hpj2
            have hj0 : (0 : Int) ≤ (j : Int) := by omega
            have hj1 : (j : Int) < (es.length : Int) := by omega
            have gc2 : (w8.alloc (perO x)).cell? ⟨w4.heap.size, j, none⟩ = some vj := (World.cell?_alloc_lt w8 (perO x) ⟨w4.heap.size, j, none⟩ hgr8.lt).trans gc
            clear hb8 hgr8 hown8 hsx8 hap8 hvj hpj
            go_wp2_with fail
            go_region_law (refine step_app_perL _ (by rfl) (.tmp 53) (.tmp 55) (by rfl) w8 w4.heap.size vj pj x HO8.out HS8.out HA8.out (by first | exact (World.grownBy_alloc w8 _ _).trans (grown_drew _ 1 _) | exact (grown_drew w8 1 _).trans (World.grownBy_alloc _ _ _)) HB8.out.size hpl (by simp [Act.eval, Act.put]) _ (by simp [Act.eval, Act.put]) (heap_alloc_new _ _) ?_; intro g9 c9 w9 ho9 hg9 hl9; obtain ⟨gf9, gc9⟩ := HGC.out _ hg9)
            all_goals go_wp2
            all_goals go_roundw
            all_goals first
              | (refine ⟨k + 1, _, by go_num, by omega, HPK.out ▸ HGR8.out.put HVJ.out HPJ.out hg9 ho9 (fun b hb => ?_), (HB8.out.grown hg9 HB8.out.size (fun q hq => (World.ownsRow.lt HO8.out.1 q hq).1)).grown (gcell12 _ _ _ _) (Nat.le_trans HB8.out.size hg9.size) (fun q hq => by injection hq with hq; omega)⟩
                 injection hb with hb
                 exact hb ▸ hl9)
              | (simp [intOf]; omega)
        · rw [List.take_of_length_le (by omega)] at hgr
          have HG := Lib.hid hgr; have HBL := Lib.hid hbel; have HBW := Lib.hid hbw
          have hzz : w4.heap.size < wr.heap.size := hgr.lt
          clear hgr hbel hbw hks
          obtain ⟨W, hW⟩ : ∃ W, W = wr := ⟨_, rfl⟩
          subst hW
          go_wp2
          clear hk
          go_loopw [11, 13, 61] (fun v _ i wr => ∃ (k : Nat) (acc : List Pw), i = .int .i64 k ∧ k ≤ es.length ∧ acc = groupW l (es.take k) ∧ Po W.heap.size wr v acc ∧ Below W.heap.size W wr) (fun _ _ i _ => es.length - (intOf i).toNat)
          case atStart => exact ⟨0, [], rfl, Nat.zero_le _, rfl, Po.nil _ _, Below.refl _ _⟩
          case round =>
            obtain ⟨k, acc, rfl, hks, hacc, hown, hbel⟩ := hrel
            have hal : acc.length ≤ 1000000 := by
              have h1 := len_groupW l (es.take k)
              rw [← hacc, List.length_take] at h1
              have h2 : min k es.length * l.length ≤ 1000 * 1000 := Nat.mul_le_mul (by omega) hl
              omega
            by_cases hk : k < es.length
            · have hg := HG.out
              obtain ⟨u, hu⟩ : ∃ v, gs[k]? = some v := ⟨_, Array.getElem?_eq_getElem (by rw [hg.size, List.length_map]; exact hk)⟩
              have hp : (es.map (pickW l))[k]? = some (pickW l es[k]) := by rw [List.getElem?_map, List.getElem?_eq_getElem hk]; rfl
              have how := hg.own k u _ hu hp
              have hac2 := groupW_snoc l hk
              rw [← hacc] at hac2
              generalize pickW l es[k] = pk at *
              have hpkl : pk.length ≤ 1000000 := by
                have h1 := len_groupW l (es.take (k + 1))
                rw [hac2, List.length_append, List.length_take] at h1
                have h2 : min (k + 1) es.length * l.length ≤ 1000 * 1000 := Nat.mul_le_mul (by omega) hl
                omega
              obtain ⟨A9, c9, rfl, _, _, hn9, hr9⟩ := how.form
              have gc := ((hg.below hbel).cell hu).1
              have HO := Lib.hid hown; have HB := Lib.hid hbel; have HR9 := Lib.hid ((hr9.below hbel).more hbel.size); have HA9 := Lib.hid (fun y (hy : y ∈ pk) => (((how.2 y hy).1.apart).below hbel : Ap wr W.heap.size y)); have HAC := Lib.hid hac2
              clear how hown hbel hr9 hacc hac2 hg hp hu
              go_wp2_with (at_builtin; refine app_pers wr rfl (.tmp 65) (.tmp 66) rfl W.heap.size _ acc pk A9 c9 rfl HO.out rfl hn9 HR9.out HA9.out (by omega) HB.out.size ?_; intro v3 w3 hown3 hk3 hs3 hg3)
              go_roundw
              case rel => exact ⟨k + 1, acc ++ pk, by go_num, by omega, HAC.out.symm, hown3, hk3 _ HB.out⟩
              case measure => simp [intOf]; omega
            · rw [List.take_of_length_le (by omega)] at hacc
              subst hacc
              have hbe := HBW.out.trans (hbel.mono HBW.out.size)
              have hfin : Po w.heap.size wr u11 (groupW l es) := ⟨World.ownsRow.mono hown.1 HBW.out.size, fun x hx => ⟨(hown.2 x hx).1, ((HR.out.below hbe).2 x (mem_groupW hx)).apart⟩⟩
              have HF := Lib.hid hfin; have HBE := Lib.hid hbe
              clear hown hbel hfin hbe hal
              go_wp2
              go_ret
              exact ⟨_, rfl, HF.out, HBE.out⟩

end Go.Proofs.Ytgjlfcamgkeibaa.Co

namespace Go.Proofs.Ytgjlfcamgkeibaa.Co
set_option maxRecDepth 100000
set_option linter.unusedVariables false
set_option linter.unusedSimpArgs false
open Go.RowKit Ba Fm Fo Nm Rk
set_option maxRecDepth 100000 in
set_option maxHeartbeats 4000000 in
theorem canon1 (v : Value) (c : Cf) (w : World) (h : Cv w w.heap.size v c) (hs : Sm c) :
    Calls Try.prog 17 #[v] w fun r w' => ∃ v', r = .returned v' ∧ Cow w.heap.size w' v' (canonC c) ∧ Below w.heap.size w w' := by
  obtain ⟨vE, vR, vA, vP, l, rfl, h⟩ := h
  obtain ⟨w0, hw0⟩ : ∃ w0, (w.alloc (confO c vE vR vA vP)).alloc zeroO = w0 := ⟨_, rfl⟩
  have hba : Below w.heap.size w (w.alloc (confO c vE vR vA vP)) := below_new12 w _
  have hb1 : Below w.heap.size w w0 := hw0 ▸ hba.trans ((below_new12 _ _).mono hba.size)
  have hz : w0.heap.size = w.heap.size + 2 := by rw [← hw0]; simp
  have hzb : Hb w0 (w.heap.size + 1) zeroA := by
    rw [← hw0]
    have := Hb.new (w.alloc (confO c vE vR vA vP)) zeroA
    rwa [World.size_alloc] at this
  have hcv : Cv w0 w0.heap.size (confV c vE vR vA vP) c := ⟨vE, vR, vA, vP, l, rfl, h.on hb1⟩
  have hbx : Bx w0 w.heap.size c vE vR vA vP := hw0 ▸ (Bx.new w c vE vR vA vP).below (below_new12 _ _) (by simp)
  have HRG := Lib.hid (hbx : w0.rangeAt w.heap.size 0 _)
  have HRM := Lib.hid (remade_S (confV c vE vR vA vP) c w0 hcv hs)
  have HW := Lib.hid hw0; have HB1 := Lib.hid hb1; have HZB := Lib.hid hzb
  have hpl := hs.p
  clear hs h hb1 hw0 hba hzb hcv hbx
  go_enter Try.func17, Try.ntmps17
  go_upto_region 1 with (fail)
  rw [HW.out]
  go_wp2_with (first
    | (show wpList _ _ _ (⟨_, Op.load 26 (.tmp 1), _, _, _, _⟩ :: _) _ _; refine wpList_load_mid rfl 26 (.tmp 1) rfl w.heap.size 0 rfl _ _ HRG.out Try.underlying26 rfl size_conf ?_)
    | (go_at_call 40; refine HRM.out.mono ?_; rintro r w1 ⟨x1, x2, x3, x4, l1, M, rfl, hM, -, ho1, ho2, ho3, ho4, hf4, hm4, hb4⟩; replace ho2 := ho2.mono hM; replace ho3 := ho3.mono hM; replace hf4 := fun x hx => (hf4 x hx).mono hM; clear hM; obtain ⟨A1, n1, k1, rfl⟩ := own_shape ho1; obtain ⟨A2, n2, k2, rfl⟩ := own_shape ho2; obtain ⟨A3, n3, k3, rfl⟩ := own_shape ho3; obtain ⟨A4, k4, rfl, -⟩ := ho4.form; have HO1 := Lib.hid ho1; have HO2 := Lib.hid ho2; have HO3 := Lib.hid ho3; have HO4 := Lib.hid ho4; have HF4 := Lib.hid hf4; have HM4 := Lib.hid hm4; have HB4 := Lib.hid hb4; clear ho1 ho2 ho3 ho4 hf4 hm4 hb4)
    | fail)
  obtain ⟨w2, hw2⟩ : ∃ w2, w1.alloc (confO c (.slice A1 n1 k1) (.slice A2 n2 k2) (.slice A3 n3 k3) (.slice A4 l1.length k4)) = w2 := ⟨_, rfl⟩
  have hb2 : Below w1.heap.size w1 w2 := hw2 ▸ below_new12 w1 _
  have hx2 : Hb w2 w1.heap.size #[.bool c.allow, .bool c.attrsAllow, .slice A1 n1 k1, .slice A2 n2 k2, .slice A3 n3 k3, .slice A4 l1.length k4, .bool c.comments, .bool c.dataAttrs] := hw2 ▸ Hb.new w1 _
  have hl1 : l1.length ≤ 1000 := by
    have := congrArg List.length HM4.out
    rw [len_pes, List.length_map] at this
    omega
  have hbel1 : Below w.heap.size w w1 := HB1.out.trans (HB4.out.mono HB1.out.size)
  have hz1 : w.heap.size + 1 < w1.heap.size := Nat.lt_of_lt_of_le (by omega) HB4.out.size
  have HB2 := Lib.hid hb2; have HX2 := Lib.hid hx2; have HBL1 := Lib.hid hbel1
  rw [hw2]
  clear hb2 hx2 hw2 hbel1
  refine (grouped1 _ l1 w2 ((Po.pv HO4.out).on HB2.out) hl1).mono ?_
  rintro r w3 ⟨v5, rfl, ho5, hb5⟩
  obtain ⟨A5, n5, k5, rfl⟩ := po_shape ho5
  have hx3 := HX2.out.on hb5
  have c5 := hx3.cell 5 _ rfl; have f5 := hx3.f 5
  have hz3 : Hb w3 (w.heap.size + 1) zeroA := ((HZB.out.on HB4.out).on HB2.out).on hb5
  have hm5 : pes (groupW l1 (srt lt ((pes l1).map Pe.el))) = (canonC c).per := by
    rw [pes_groupW, HM4.out]
    show groupL (c.per.map sortP) (srt lt ((c.per.map sortP).map Pe.el)) = _
    rw [map_el]
    rfl
  have hsz : w.heap.size ≤ w0.heap.size := by omega
  have hst : ∀ {v : Value} {m : List ByteArray}, Sown w0.heap.size w1 v m → Sown w.heap.size w3 v m := fun h => ((h.mono hsz).below HB2.out (Nat.le_refl _)).below hb5 (Nat.le_refl _)
  have hf5 : ∀ x ∈ groupW l1 (srt lt ((pes l1).map Pe.el)), Fp w.heap.size w3 x := fun x hx => hst (HF4.out x (mem_groupW hx))
  have ho12 : Own12 w.heap.size w3 (canonC c) (.slice A1 n1 k1) (.slice A2 n2 k2) (.slice A3 n3 k3) (.slice A5 n5 k5) (groupW l1 (srt lt ((pes l1).map Pe.el))) := ⟨hst HO1.out, hst HO2.out, hst HO3.out, po_of (World.ownsRow.mono ho5.1 (Nat.le_trans HBL1.out.size HB2.out.size)) hf5, hf5, hm5⟩
  have hbel3 : Below w.heap.size w w3 := (HBL1.out.trans (HB2.out.mono HBL1.out.size)).trans (hb5.mono (Nat.le_trans HBL1.out.size HB2.out.size))
  have HX3 := Lib.hid hx3; have HZ3 := Lib.hid hz3; have HO12 := Lib.hid ho12; have HBL3 := Lib.hid hbel3
  clear hx3 hz3 hm5 hsz hst hf5 ho12 hbel3 ho5 hb5
  go_upto_region 3 with (fail)
  obtain ⟨W9, hW9⟩ : ∃ W9, w3.setCell ⟨w1.heap.size, 5, none⟩ (.slice A5 n5 k5) = W9 := ⟨_, rfl⟩
  have hg9 : w3.grownBy W9 (some w1.heap.size) := hW9 ▸ gcell12 w3 _ 5 _
  have hx9 : Hb W9 w1.heap.size #[.bool c.allow, .bool c.attrsAllow, .slice A1 n1 k1, .slice A2 n2 k2, .slice A3 n3 k3, .slice A5 n5 k5, .bool c.comments, .bool c.dataAttrs] := hW9 ▸ HX3.out.set 5 (.slice A5 n5 k5)
  have hz9 : Hb W9 (w.heap.size + 1) zeroA := HZ3.out.keep (hg9.block _ HZ3.out.lt (by simp; omega))
  rw [hW9]
  have HRG9 := Lib.hid hx9.range; have HTH := Lib.hid (hz9.there 8 rfl)
  clear hW9
  go_wp2_with (first
    | (show wpList _ _ _ (⟨_, Op.load 26 (.tmp 3), _, _, _, _⟩ :: _) _ _; refine wpList_load_mid rfl 26 (.tmp 3) rfl w1.heap.size 0 rfl _ _ HRG9.out Try.underlying26 rfl size_conf ?_)
    | (show wpList _ _ _ (⟨none, Op.store 26 (.tmp 2) (.tmp 10), _, _, _, _⟩ :: _) _ _; refine wpList_store_mid rfl 26 (.tmp 2) (.tmp 10) rfl (w.heap.size + 1) 0 #[.bool c.allow, .bool c.attrsAllow, .slice A1 n1 k1, .slice A2 n2 k2, .slice A3 n3 k3, .slice A5 n5 k5, .bool c.comments, .bool c.dataAttrs] rfl rfl HTH.out size_conf (by simp [Value.oneCell']) ?_))
  obtain ⟨W, hW, hgW, hbW⟩ := res_box (c := c) (vE := .slice A1 n1 k1) (vR := .slice A2 n2 k2) (vA := .slice A3 n3 k3) (vP := .slice A5 n5 k5) hz9 rfl
  obtain ⟨z0, z1, z2, z3, z4, z5, z6, z7⟩ := hbW.at_
  rw [← hW]
  have hoW := (HO12.out.boxed HX3.out hg9).boxed hz9 hgW
  have hbelW : Below w.heap.size w W := ((HBL3.out.grown hg9 HBL3.out.size (fun q hq => by injection hq with hq; omega)).grown hgW (Nat.le_trans HBL3.out.size hg9.size) (fun q hq => by injection hq with hq; omega))
  clear HX3 HZ3 hx9 hz9 HRG9 HTH hgW hW hg9 HRM HRG HO12
  go_wp2
  exact bodyPost_ret (v := confV c (.slice A1 n1 k1) (.slice A2 n2 k2) (.slice A3 n3 k3) (.slice A5 n5 k5)) (by simp [results, Try.f17, go_sem, z0, z1, z2, z3, z4, z5, z6, z7]) rfl ⟨_, rfl, ⟨_, _, _, _, _, rfl, hoW⟩, hbelW⟩

end Go.Proofs.Ytgjlfcamgkeibaa.Co

namespace Go.Proofs.Ytgjlfcamgkeibaa.Co
set_option maxRecDepth 100000
set_option linter.unusedVariables false
set_option linter.unusedSimpArgs false
open Go.RowKit Ba Fm Fo Nm Rk
theorem row_below {w w' : World} {N size n : Nat} {e : TypeId} {v : Value} {xs : List Value} (h : w.ownsRow N e size v n xs) (hb : Below w.heap.size w w') : w'.ownsRow N e size v n xs := by
  refine ⟨h.1, ?_⟩
  rcases h.2 with hn | ⟨b, cap, cur, hv, hN, hh, rest⟩
  · exact .inl hn
  · exact .inr ⟨b, cap, cur, hv, hN, (hb.block b (Array.getElem?_eq_some_iff.1 hh).1).trans hh, rest⟩
theorem strip_yes {c : Cf} (h : c.allow = true) : (stripC c).els = mns c.els unsafeL := by
  show (if c.allow = true then mns c.els unsafeL else c.els ++ mns unsafeL c.els) = _
  rw [if_pos h]
theorem strip_no {c : Cf} (h : c.allow = false) : (stripC c).els = c.els ++ mns unsafeL c.els := by
  show (if c.allow = true then mns c.els unsafeL else c.els ++ mns unsafeL c.els) = _
  rw [if_neg (by simp [h])]
theorem strip_own {N0 N1 M M2 : Nat} {w w' : World} {c : Cf} {s1 vE vR vA vP : Value} {l : List Pw} (hal : c.allow = false) (hg : w.grownBy w' s1.ownBlock) (hlow : ∀ b, s1.ownBlock = some b → b < M) (hlow2 : ∀ b, s1.ownBlock = some b → b < M2)
    (hM : N0 ≤ M) (hM2 : N0 ≤ M2) (hN : N0 ≤ N1) (he : Sown N1 w' vE (sameL c.els ++ mns unsafeL c.els)) (hr : Sown M2 w vR (mns c.reps unsafeL)) (ha : Sown M w vA (sameL c.ats)) (hp : w.ownsRow M 48 2 vP l.length (l.flatMap pcells)) (hf : ∀ x ∈ l, Fp M w x) (hm : pes l = c.per) : Own12 N0 w' (stripC c) vE vR vA vP l :=
  have hf' : ∀ x ∈ l, Fp N0 w' x := fun x hx => World.ownsRow.mono (row_elder (hf x hx) hg hlow) hM
  ⟨by rw [strip_no hal]; exact he.mono hN, World.ownsRow.mono (row_elder hr hg hlow2) hM2, World.ownsRow.mono (row_elder ha hg hlow) hM, po_of (World.ownsRow.mono (row_elder hp hg hlow) hM) hf', hf', hm⟩
theorem same_per (l : List Pe) : l.map (fun p => (⟨p.el, sameL p.at_⟩ : Pe)) = l := (List.map_congr_left (g := id) fun p _ => rfl).trans (List.map_id l)
set_option maxRecDepth 100000 in
set_option maxHeartbeats 4000000 in
theorem strip1 (v : Value) (c : Cf) (w : World) (h : Cv w w.heap.size v c) (hs : Sm c) :
    Calls Try.prog 18 #[v] w fun r w' => ∃ v', r = .returned v' ∧ Cow w.heap.size w' v' (stripC c) ∧ Below w.heap.size w w' := by
  obtain ⟨vE, vR, vA, vP, l, rfl, h⟩ := h
  obtain ⟨w0, hw0⟩ : ∃ w0, (w.alloc (confO c vE vR vA vP)).alloc zeroO = w0 := ⟨_, rfl⟩
  have hba : Below w.heap.size w (w.alloc (confO c vE vR vA vP)) := below_new12 w _
  have hb1 : Below w.heap.size w w0 := hw0 ▸ hba.trans ((below_new12 _ _).mono hba.size)
  have hz : w0.heap.size = w.heap.size + 2 := by rw [← hw0]; simp
  have hzb : Hb w0 (w.heap.size + 1) zeroA := by
    rw [← hw0]
    have := Hb.new (w.alloc (confO c vE vR vA vP)) zeroA
    rwa [World.size_alloc] at this
  have hcv : Cv w0 w0.heap.size (confV c vE vR vA vP) c := ⟨vE, vR, vA, vP, l, rfl, h.on hb1⟩
  have hbx : Bx w0 w.heap.size c vE vR vA vP := hw0 ▸ (Bx.new w c vE vR vA vP).below (below_new12 _ _) (by simp)
  have HRG := Lib.hid (hbx : w0.rangeAt w.heap.size 0 _)
  have HRM := Lib.hid (remade_C (confV c vE vR vA vP) c w0 hcv hs)
  have HW := Lib.hid hw0; have HB1 := Lib.hid hb1; have HZB := Lib.hid hzb; have HBX := Lib.hid hbx; have HP := Lib.hid h
  have hel := hs.e; have hrl := hs.r
  clear hs h hb1 hw0 hba hzb hcv hbx
  go_enter Try.func18, Try.ntmps18
  go_upto_region 1 with (fail)
  rw [HW.out]
  go_upto_region 2 with (first
    | (show wpList _ _ _ (⟨_, Op.load 26 (.tmp 1), _, _, _, _⟩ :: _) _ _; refine wpList_load_mid rfl 26 (.tmp 1) rfl w.heap.size 0 rfl _ _ HRG.out Try.underlying26 rfl size_conf ?_)
    | (go_at_call 40; refine HRM.out.mono ?_; rintro r w1 ⟨x1, x2, x3, x4, l1, M, rfl, hM, hlow, ho1, ho2, ho3, ho4, hf4, hm4, hb4⟩; obtain ⟨A1, n1, k1, rfl⟩ := own_shape ho1; obtain ⟨A2, n2, k2, rfl⟩ := own_shape ho2; obtain ⟨A3, n3, k3, rfl⟩ := own_shape ho3; obtain ⟨A4, n4, k4, rfl⟩ := po_shape ho4; have HO1 := Lib.hid ho1; have HO2 := Lib.hid ho2; have HO3 := Lib.hid ho3; have HO4 := Lib.hid ho4; have HF4 := Lib.hid hf4; have HM4 := Lib.hid hm4; have HB4 := Lib.hid hb4; have HMM := Lib.hid hM; have HLOW := Lib.hid hlow; have HLOW1 := Lib.hid (show ∀ b, (Value.slice A1 n1 k1).ownBlock = some b → b < w1.heap.size from fun b hb => (World.ownsRow.lt ho1 b hb).2); clear ho1 ho2 ho3 ho4 hf4 hm4 hb4 hM hlow)
    | fail)
  obtain ⟨w2, hw2⟩ : ∃ w2, w1.alloc (confO c (.slice A1 n1 k1) (.slice A2 n2 k2) (.slice A3 n3 k3) (.slice A4 n4 k4)) = w2 := ⟨_, rfl⟩
  have hb2 : Below w1.heap.size w1 w2 := hw2 ▸ below_new12 w1 _
  have hx2 : Hb w2 w1.heap.size #[.bool c.allow, .bool c.attrsAllow, .slice A1 n1 k1, .slice A2 n2 k2, .slice A3 n3 k3, .slice A4 n4 k4, .bool c.comments, .bool c.dataAttrs] := hw2 ▸ Hb.new w1 _
  have hbel1 : Below w.heap.size w w1 := HB1.out.trans (HB4.out.mono HB1.out.size)
  have hz1 : w.heap.size + 1 < w1.heap.size := Nat.lt_of_lt_of_le (by omega) HB4.out.size
  have hb02 : Below w0.heap.size w0 w2 := HB4.out.trans (hb2.mono HB4.out.size)
  have g3 := (HBX.out.below hb02 (by omega)).at_.2.2.2.1
  have HB02 := Lib.hid hb02; have HB2 := Lib.hid hb2; have HX2 := Lib.hid hx2; have HBL1 := Lib.hid hbel1
  have HBL2 := Lib.hid (HBL1.out.trans (hb2.mono HBL1.out.size))
  have HLOW2 := Lib.hid (fun b hb => Nat.lt_of_lt_of_le (HLOW1.out b hb) hb2.size)
  rw [hw2]
  clear hb2 hx2 hw2 hbel1 hb02
  go_wp2_with fail
  refine (safe12 vR c.reps w2 (sv_on HP.out.r HBL2.out) (by omega)).mono ?_
  rintro r w3 ⟨v6, rfl, ho6, hb3⟩
  obtain ⟨A6, n6, k6, rfl⟩ := own_shape ho6
  have hx3 := HX2.out.on hb3
  have t3 := hx3.cell 3 _ rfl; have f3 := hx3.f 3
  have HO6 := Lib.hid ho6; have HB3 := Lib.hid hb3; have HX3 := Lib.hid hx3
  clear hx3 ho6 hb3 g3
  go_upto_region 3 with (fail)
  obtain ⟨W3, hW3⟩ : ∃ W3, w3.setCell ⟨w1.heap.size, 3, none⟩ (.slice A6 n6 k6) = W3 := ⟨_, rfl⟩
  have hg3 : w3.grownBy W3 (some w1.heap.size) := hW3 ▸ gcell12 w3 _ 3 _
  have hx4 : Hb W3 w1.heap.size #[.bool c.allow, .bool c.attrsAllow, .slice A1 n1 k1, .slice A6 n6 k6, .slice A3 n3 k3, .slice A4 n4 k4, .bool c.comments, .bool c.dataAttrs] := hW3 ▸ HX3.out.set 3 (.slice A6 n6 k6)
  have hb03 : Below w0.heap.size w0 W3 := (HB02.out.trans (HB3.out.mono HB02.out.size)).grown hg3 (Nat.le_trans HB02.out.size HB3.out.size) (fun q hq => by injection hq with hq; have := HB4.out.size; omega)
  have hbelW : Below w.heap.size w W3 := HB1.out.trans (hb03.mono HB1.out.size)
  have hst : ∀ {N : Nat} {v : Value} {m : List ByteArray}, Sown N w1 v m → Sown N W3 v m := fun h => own_boxed ((h.below HB2.out (Nat.le_refl _)).below HB3.out (Nat.le_refl _)) HX3.out hg3
  have hr6 : Sown w2.heap.size W3 (.slice A6 n6 k6) (mns c.reps unsafeL) := own_boxed HO6.out HX3.out hg3
  have hfM : ∀ x ∈ l1, Fp M W3 x := fun x hx => hst (HF4.out x hx)
  have hpM := row_boxed (row_below (row_below (show w1.ownsRow M 48 2 (.slice A4 n4 k4) l1.length (l1.flatMap pcells) from HO4.out.1) HB2.out) HB3.out) (by decide) HX3.out hg3
  have hzW := (((HZB.out.on HB4.out).on HB2.out).on HB3.out).keep (hg3.block _ (Nat.lt_of_lt_of_le (by omega) (Nat.le_trans HB2.out.size HB3.out.size)) (by simp; omega))
  obtain ⟨b0, b1, b2, b3, b4, b5, b6, b7⟩ := (HBX.out.below hb03 (by omega)).at_
  have HWM := Lib.hid (Nat.le_trans HB1.out.size HMM.out); have HW0 := Lib.hid (show w.heap.size ≤ w0.heap.size by omega)
  have HX4 := Lib.hid hx4; have HB03 := Lib.hid hb03; have HBW := Lib.hid hbelW; have HE1 := Lib.hid (hst HO1.out); have HR6 := Lib.hid hr6; have HA3 := Lib.hid (hst HO3.out); have HFM := Lib.hid hfM; have HPM := Lib.hid hpM; have HZW := Lib.hid hzW
  have t2 := hx4.cell 2 _ rfl; have f2 := hx4.f 2
  rw [hW3]
  clear hx4 hb03 hbelW hst hr6 hfM hpM hzW hW3 hg3 t3 f3 b1 b3 b4 b5 b6 b7
  cases hal : c.allow with
  | true =>
    rw [hal] at b0
    have HAL := Lib.hid hal; clear hal
    go_wp2_with fail
    refine (safe12 vE c.els W3 (sv_on HP.out.e HBW.out) (by omega)).mono ?_
    rintro r w4 ⟨v7, rfl, ho7, hb4⟩
    obtain ⟨A7, n7, k7, rfl⟩ := own_shape ho7
    have hx5 := HX4.out.on hb4
    have t2 := hx5.cell 2 _ rfl; have f2 := hx5.f 2
    have ho12 : Own12 w.heap.size w4 (stripC c) (.slice A7 n7 k7) (.slice A6 n6 k6) (.slice A3 n3 k3) (.slice A4 n4 k4) l1 := Own12.mono (N := w.heap.size) ⟨by rw [strip_yes HAL.out]; exact ho7.mono HBW.out.size, (HR6.out.mono HBL2.out.size).below hb4 (Nat.le_refl _), (HA3.out.mono HWM.out).below hb4 (Nat.le_refl _), (po_of (World.ownsRow.mono HPM.out HWM.out) (fun x hx => (HFM.out x hx).mono HWM.out)).below hb4, fun x hx => ((HFM.out x hx).mono HWM.out).below hb4, HM4.out.trans (same_per _)⟩ (Nat.le_refl _)
    have hz5 := HZW.out.on hb4
    have hbel5 := HBW.out.trans (hb4.mono HBW.out.size)
    clear b0 b2
    have HX5 := Lib.hid hx5; have HZ5 := Lib.hid hz5; have HO12 := Lib.hid ho12; have HBL5 := Lib.hid hbel5
    clear hx5 hz5 ho12 hbel5
    go_upto_region 6 with (fail)
    obtain ⟨W9, hW9⟩ : ∃ W9, w4.setCell ⟨w1.heap.size, 2, none⟩ (.slice A7 n7 k7) = W9 := ⟨_, rfl⟩
    have hg9 : w4.grownBy W9 (some w1.heap.size) := hW9 ▸ gcell12 w4 _ 2 _
    have hx9 : Hb W9 w1.heap.size #[.bool c.allow, .bool c.attrsAllow, .slice A7 n7 k7, .slice A6 n6 k6, .slice A3 n3 k3, .slice A4 n4 k4, .bool c.comments, .bool c.dataAttrs] := hW9 ▸ HX5.out.set 2 (.slice A7 n7 k7)
    have hz9 : Hb W9 (w.heap.size + 1) zeroA := HZ5.out.keep (hg9.block _ HZ5.out.lt (by simp; omega))
    rw [hW9]
    have HRG9 := Lib.hid hx9.range; have HTH := Lib.hid (hz9.there 8 rfl)
    clear hW9
    go_wp2_with (first
      | (show wpList _ _ _ (⟨_, Op.load 26 (.tmp 3), _, _, _, _⟩ :: _) _ _; refine wpList_load_mid rfl 26 (.tmp 3) rfl w1.heap.size 0 rfl _ _ HRG9.out Try.underlying26 rfl size_conf ?_)
      | (show wpList _ _ _ (⟨none, Op.store 26 (.tmp 2) (.tmp 24), _, _, _, _⟩ :: _) _ _; refine wpList_store_mid rfl 26 (.tmp 2) (.tmp 24) rfl (w.heap.size + 1) 0 #[.bool c.allow, .bool c.attrsAllow, .slice A7 n7 k7, .slice A6 n6 k6, .slice A3 n3 k3, .slice A4 n4 k4, .bool c.comments, .bool c.dataAttrs] rfl rfl HTH.out size_conf (by simp [Value.oneCell']) ?_))
    obtain ⟨W, hW, hgW, hbW⟩ := res_box (c := c) (vE := .slice A7 n7 k7) (vR := .slice A6 n6 k6) (vA := .slice A3 n3 k3) (vP := .slice A4 n4 k4) hz9 rfl
    obtain ⟨z0, z1, z2, z3, z4, z5, z6, z7⟩ := hbW.at_
    rw [← hW]
    have hoW := (HO12.out.boxed HX5.out hg9).boxed hz9 hgW
    have hbelW : Below w.heap.size w W := ((HBL5.out.grown hg9 HBL5.out.size (fun q hq => by injection hq with hq; omega)).grown hgW (Nat.le_trans HBL5.out.size hg9.size) (fun q hq => by injection hq with hq; omega))
    clear hx9 hz9 HRG9 HTH hgW hW hg9 HRM HRG HO12
    go_wp2
    exact bodyPost_ret (v := confV c (.slice A7 n7 k7) (.slice A6 n6 k6) (.slice A3 n3 k3) (.slice A4 n4 k4)) (by simp [results, Try.f18, go_sem, z0, z1, z2, z3, z4, z5, z6, z7]) rfl ⟨_, rfl, ⟨_, _, _, _, _, rfl, hoW⟩, hbelW⟩
  | false =>
    rw [hal] at b0
    have HAL := Lib.hid hal; clear hal
    go_upto_region 5 with (fail)
    have HS := Lib.hid (fun wx (hb : Below W3.heap.size W3 wx) => show wx.cell? ⟨w1.heap.size, 2, none⟩ = some (.slice A1 n1 k1) ∧ wx.cell? ⟨w.heap.size, 2, none⟩ = some vE from ⟨(HX4.out.on hb).cell 2 _ rfl, (hb.cell (p := ⟨w.heap.size, 2, none⟩) (by have := HX4.out.lt; show w.heap.size < _; omega)).trans b2⟩)
    refine wp_region_noPanic ?_
    refine Ph.T_begin (fun w' => w'.cell? ⟨w1.heap.size, 2, none⟩ = some (.slice A1 n1 k1) ∧ w'.cell? ⟨w.heap.size, 2, none⟩ = some vE) 8 (by kernel_rfl) ?_ (fun hHeld => ?_)
    · exact HS.out _ (bel_eq12 (Below.refl _ W3) rfl rfl rfl rfl)
    refine Ph.T_pure (i := 0) (oi := _) (v := ?_) rfl (by kernel_rfl) (by kernel_rfl) (by kernel_rfl) (by kernel_rfl) (fun _ _ _ h => h) (Or.inl ⟨by rfl, ?_⟩) (by assumption) (fun hHeld => ?_)
    rotate_left
    · intro w hSw; (try dsimp only at hSw); go_simp; all_goals with_reducible rfl
    try simp only [Act.put, List.getElem_toArray, List.getElem_cons_zero, List.getElem_cons_succ, List.setIfInBounds_toArray, List.set_cons_zero, List.set_cons_succ]
    refine Ph.T_pure (i := 3) (oi := _) (v := ?_) rfl (by kernel_rfl) (by kernel_rfl) (by kernel_rfl) (by kernel_rfl) (fun _ _ _ h => h) (Or.inl ⟨by rfl, ?_⟩) (by assumption) (fun hHeld => ?_)
    rotate_left
    · intro w hSw; (try dsimp only at hSw); go_simp; all_goals with_reducible rfl
    try simp only [Act.put, List.getElem_toArray, List.getElem_cons_zero, List.getElem_cons_succ, List.setIfInBounds_toArray, List.set_cons_zero, List.set_cons_succ]
    refine Ph.T_take (i := 1) (oi := _) (v := ?_) rfl (by kernel_rfl) (by kernel_rfl) (by kernel_rfl) (by kernel_rfl) (fun _ _ _ h => h) (Or.inl ⟨by rfl, ?_⟩) (by assumption) (fun hHeld => ?_)
    rotate_left
    · intro w hSw; (try dsimp only at hSw); go_simp; all_goals with_reducible rfl
    try simp only [Act.put, List.getElem_toArray, List.getElem_cons_zero, List.getElem_cons_succ, List.setIfInBounds_toArray, List.set_cons_zero, List.set_cons_succ]
    refine Ph.T_take (i := 4) (oi := _) (v := ?_) rfl (by kernel_rfl) (by kernel_rfl) (by kernel_rfl) (by kernel_rfl) (fun _ _ _ h => h) (Or.inl ⟨by rfl, ?_⟩) (by assumption) (fun hHeld => ?_)
    rotate_left
    · intro w hSw; (try dsimp only at hSw); go_simp; all_goals with_reducible rfl
    try simp only [Act.put, List.getElem_toArray, List.getElem_cons_zero, List.getElem_cons_succ, List.setIfInBounds_toArray, List.set_cons_zero, List.set_cons_succ]
    refine Ph.T_one (i := 2) (o := _) (by kernel_rfl) rfl (fun K hK => ?_)
    go_simp
    go_at_call 46
    refine (neverSafe1 _).mono ?_
    rintro r w4 ⟨v8, rfl, ho8, hc4⟩
    have HC4 := Lib.hid (show Below W3.heap.size W3 w4 from ⟨hc4.os, hc4.tape, hc4.output, hc4.size, hc4.block⟩)
    have HO8 := Lib.hid ho8
    clear hc4 ho8
    go_wp2_with fail
    refine hK.out _ _ ?_ (fun hHeld => ?_)
    · exact HS.out _ HC4.out
    clear hK K
    try simp only [Act.put, List.getElem_toArray, List.getElem_cons_zero, List.getElem_cons_succ, List.setIfInBounds_toArray, List.set_cons_zero, List.set_cons_succ]
    refine Ph.T_one (i := 5) (o := _) (by kernel_rfl) rfl (fun K hK => ?_)
    go_simp
    go_at_call 45
    refine (minus_any v8 vE unsafeL c.els w4 (sv_own HO8.out) (sv_on HP.out.e (HBW.out.trans (HC4.out.mono HBW.out.size))) (by decide) (by omega)).mono ?_
    rintro r w5 ⟨v9, rfl, ho9, hc5⟩
    have HC5 := Lib.hid (show Below W3.heap.size W3 w5 from HC4.out.trans (hc5.mono HC4.out.size))
    have HO9 := Lib.hid ho9
    clear hc5 ho9
    go_wp2_with fail
    refine hK.out _ _ ?_ (fun hHeld => ?_)
    · exact HS.out _ HC5.out
    clear hK K
    try simp only [Act.put, List.getElem_toArray, List.getElem_cons_zero, List.getElem_cons_succ, List.setIfInBounds_toArray, List.set_cons_zero, List.set_cons_succ]
    have hE5 := HE1.out.below HC5.out (Nat.le_refl _)
    have hb15 := (HX4.out.on HC5.out)
    refine Ph.T_one (i := 6) (o := _) (by kernel_rfl) rfl (fun K hK => ?_)
    refine step_app_strs w5 (by rfl) (.tmp 17) (.tmp 21) (by rfl) w0.heap.size (.slice A1 n1 k1) v9 (sameL c.els) (mns unsafeL c.els) hE5 (sv_own HO9.out) (Nat.le_trans HB03.out.size HC5.out.size) (by have := len_mns unsafeL c.els; have : unsafeL.length = 8 := rfl; show c.els.length + _ ≤ _; omega) (by simp [Act.eval, Act.put]) (by simp [Act.eval, Act.put]) ?_
    intro v10 w6 ho10 hg6
    obtain ⟨A9, n9, k9, rfl⟩ := own_shape ho10
    have hx5 := hb_beside hb15 hE5 hg6
    refine hK.out _ _ ?_ (fun hHeld => ?_)
    · exact ⟨hx5.cell 2 _ rfl, (World.cell?_of_block (a := ⟨w.heap.size, 2, none⟩) (hg6.block w.heap.size (by have := HX4.out.lt; have := HC5.out.size; omega) (fun e => by have := (World.ownsRow.lt hE5 _ e.symm).1; omega))).trans (HS.out _ HC5.out).2⟩
    clear hK K
    try simp only [Act.put, List.getElem_toArray, List.getElem_cons_zero, List.getElem_cons_succ, List.setIfInBounds_toArray, List.set_cons_zero, List.set_cons_succ]
    have t2 := hx5.cell 2 _ rfl
    have f2 := hx5.f 2
    refine Ph.T_pure (i := 7) (oi := _) (v := ?_) rfl (by kernel_rfl) (by kernel_rfl) (by kernel_rfl) (by kernel_rfl) (fun _ _ _ h => h) (Or.inl ⟨by rfl, ?_⟩) (by assumption) (fun hHeld => ?_)
    rotate_left
    · intro w hSw; (try dsimp only at hSw); go_simp; all_goals with_reducible rfl
    try simp only [Act.put, List.getElem_toArray, List.getElem_cons_zero, List.getElem_cons_succ, List.setIfInBounds_toArray, List.set_cons_zero, List.set_cons_succ]
    have ho12 : Own12 w.heap.size w6 (stripC c) (.slice A9 n9 k9) (.slice A6 n6 k6) (.slice A3 n3 k3) (.slice A4 n4 k4) l1 := strip_own HAL.out hg6 HLOW.out HLOW2.out HWM.out HBL2.out.size HW0.out ho10 (HR6.out.below HC5.out (Nat.le_refl _)) (HA3.out.below HC5.out (Nat.le_refl _)) (row_below HPM.out HC5.out) (fun x hx => (HFM.out x hx).below HC5.out) (HM4.out.trans (same_per _))
    have hz5 := hb_beside (HZW.out.on HC5.out) hE5 hg6
    have hbel5 := (HBW.out.trans (HC5.out.mono HBW.out.size)).grown hg6 (Nat.le_trans HBW.out.size HC5.out.size) (fun q hq => Nat.le_trans HW0.out (World.ownsRow.lt hE5 q hq).1)
    clear hE5 hb15 ho10 hg6 b0 b2
    refine Ph.T_last (i := 8) (o := _) (by kernel_rfl) (by kernel_rfl) rfl (fun K hK => ?_)
    go_simp
    go_wp2_with fail
    refine hK.out _ _ ?_
    clear hK K
    try simp only [Act.put, List.getElem_toArray, List.getElem_cons_zero, List.getElem_cons_succ, List.setIfInBounds_toArray, List.set_cons_zero, List.set_cons_succ]
    refine Ph.T_done (by kernel_rfl) ?_ _
    refine NoPanic.normal ?_
    have HX5 := Lib.hid hx5; have HZ5 := Lib.hid hz5; have HO12 := Lib.hid ho12; have HBL5 := Lib.hid hbel5
    clear hx5 hz5 ho12 hbel5
    go_upto_region 6 with (fail)
    obtain ⟨W9, hW9⟩ : ∃ W9, w6.setCell ⟨w1.heap.size, 2, none⟩ (.slice A9 n9 k9) = W9 := ⟨_, rfl⟩
    have hg9 : w6.grownBy W9 (some w1.heap.size) := hW9 ▸ gcell12 w6 _ 2 _
    have hx9 : Hb W9 w1.heap.size #[.bool c.allow, .bool c.attrsAllow, .slice A9 n9 k9, .slice A6 n6 k6, .slice A3 n3 k3, .slice A4 n4 k4, .bool c.comments, .bool c.dataAttrs] := hW9 ▸ HX5.out.set 2 (.slice A9 n9 k9)
    have hz9 : Hb W9 (w.heap.size + 1) zeroA := HZ5.out.keep (hg9.block _ HZ5.out.lt (by simp; omega))
    rw [hW9]
    have HRG9 := Lib.hid hx9.range; have HTH := Lib.hid (hz9.there 8 rfl)
    clear hW9
    go_wp2_with (first
      | (show wpList _ _ _ (⟨_, Op.load 26 (.tmp 3), _, _, _, _⟩ :: _) _ _; refine wpList_load_mid rfl 26 (.tmp 3) rfl w1.heap.size 0 rfl _ _ HRG9.out Try.underlying26 rfl size_conf ?_)
      | (show wpList _ _ _ (⟨none, Op.store 26 (.tmp 2) (.tmp 24), _, _, _, _⟩ :: _) _ _; refine wpList_store_mid rfl 26 (.tmp 2) (.tmp 24) rfl (w.heap.size + 1) 0 #[.bool c.allow, .bool c.attrsAllow, .slice A9 n9 k9, .slice A6 n6 k6, .slice A3 n3 k3, .slice A4 n4 k4, .bool c.comments, .bool c.dataAttrs] rfl rfl HTH.out size_conf (by simp [Value.oneCell']) ?_))
    obtain ⟨W, hW, hgW, hbW⟩ := res_box (c := c) (vE := .slice A9 n9 k9) (vR := .slice A6 n6 k6) (vA := .slice A3 n3 k3) (vP := .slice A4 n4 k4) hz9 rfl
    obtain ⟨z0, z1, z2, z3, z4, z5, z6, z7⟩ := hbW.at_
    rw [← hW]
    have hoW := (HO12.out.boxed HX5.out hg9).boxed hz9 hgW
    have hbelW : Below w.heap.size w W := ((HBL5.out.grown hg9 HBL5.out.size (fun q hq => by injection hq with hq; omega)).grown hgW (Nat.le_trans HBL5.out.size hg9.size) (fun q hq => by injection hq with hq; omega))
    clear hx9 hz9 HRG9 HTH hgW hW hg9 HRM HRG HO12
    go_wp2
    exact bodyPost_ret (v := confV c (.slice A9 n9 k9) (.slice A6 n6 k6) (.slice A3 n3 k3) (.slice A4 n4 k4)) (by simp [results, Try.f18, go_sem, z0, z1, z2, z3, z4, z5, z6, z7]) rfl ⟨_, rfl, ⟨_, _, _, _, _, rfl, hoW⟩, hbelW⟩

end Go.Proofs.Ytgjlfcamgkeibaa.Co

namespace Go.Proofs.Ytgjlfcamgkeibaa.Co
set_option maxRecDepth 100000
set_option linter.unusedVariables false
set_option linter.unusedSimpArgs false
open Go.RowKit Ba Fm Fo Nm Rk
theorem all1 (w : World) : Calls Try.prog 35 #[] w fun r w' => ∃ v', r = .returned v' ∧ Cow w.heap.size w' v' allC ∧ Below w.heap.size w w' := by
  have hb := below_new12 w (.cells #[.bool false, .bool false, .slice none 0 0, .slice none 0 0, .slice none 0 0, .slice none 0 0, .bool true, .bool false] 26)
  have ho : ∀ w', Own12 w.heap.size w' allC (.slice none 0 0) (.slice none 0 0) (.slice none 0 0) (.slice none 0 0) [] := fun w' => ⟨Sown.nil _ _, Sown.nil _ _, Sown.nil _ _, Po.nil _ _, (fun x hx => by cases hx), rfl⟩
  have hc : ∀ w', Cow w.heap.size w' (.agg #[.bool false, .bool false, .slice none 0 0, .slice none 0 0, .slice none 0 0, .slice none 0 0, .bool true, .bool false]) allC := fun w' => ⟨_, _, _, _, _, rfl, ho w'⟩
  have HC := Lib.hid hc; have HB := Lib.hid hb
  clear ho hc hb
  go_enter Try.func35, Try.ntmps35
  go_wp2
  exact bodyPost_ret (v := .agg #[.bool false, .bool false, .slice none 0 0, .slice none 0 0, .slice none 0 0, .slice none 0 0, .bool true, .bool false]) (by simp [results, Try.f35, go_sem]) rfl ⟨_, rfl, HC.out _, HB.out⟩

theorem lit_own (w u : World) (l : List ByteArray) (N k : Nat) (hl : l.length ≤ 1000) (hk : k = w.heap.size) (hN : N ≤ k) (hb : Below (w.alloc (.cells (l.map sc).toArray 9)).heap.size (w.alloc (.cells (l.map sc).toArray 9)) u) : Sown N u (.slice (some ⟨k, 0, none⟩) l.length l.length) l := by
  subst hk
  exact ((own_lit12 w l hl).below hb (Nat.le_refl _)).mono hN
def pHref : List ByteArray := [⟨#[104, 114, 101, 102]⟩]
def pSrc : List ByteArray := [⟨#[115, 114, 99]⟩]
def pSpan : List ByteArray := [⟨#[99, 111, 108, 115, 112, 97, 110]⟩, ⟨#[114, 111, 119, 115, 112, 97, 110]⟩]
def pList (k : Nat) : List Pw := [⟨⟨⟨#[97]⟩, pHref⟩, some ⟨k + 1 + 1, 0, none⟩, 1⟩, ⟨⟨⟨#[105, 109, 103]⟩, pSrc⟩, some ⟨k + 1 + 1 + 1, 0, none⟩, 1⟩, ⟨⟨⟨#[116, 100]⟩, pSpan⟩, some ⟨k + 1 + 1 + 1 + 1, 0, none⟩, 2⟩]
def plainW (u : World) (k : Nat) : World := (((((u.alloc (.cells (plainEls.map sc).toArray 9)).alloc (.cells (plainAts.map sc).toArray 9)).alloc (.cells (pHref.map sc).toArray 9)).alloc (.cells (pSrc.map sc).toArray 9)).alloc (.cells (pSpan.map sc).toArray 9)).alloc (.cells ((pList k).flatMap pcells).toArray 48)
theorem below_step {w u : World} {o : Obj} (h : Below (w.alloc o).heap.size (w.alloc o) u) : Below w.heap.size w u := (below_new12 w o).trans (h.mono (below_new12 w o).size)
theorem plain_own (u : World) (N k : Nat) (hk : k = u.heap.size) (hN : N ≤ k) : Own12 N (plainW u k) plainC (.slice (some ⟨k, 0, none⟩) 36 36) (.slice none 0 0) (.slice (some ⟨k + 1, 0, none⟩) 8 8) (.slice (some ⟨k + 1 + 1 + 1 + 1 + 1, 0, none⟩) 3 3) (pList k) ∧ Below u.heap.size u (plainW u k) := by
  unfold plainW
  have h6 : Below ((((((u.alloc (.cells (plainEls.map sc).toArray 9)).alloc (.cells (plainAts.map sc).toArray 9)).alloc (.cells (pHref.map sc).toArray 9)).alloc (.cells (pSrc.map sc).toArray 9)).alloc (.cells (pSpan.map sc).toArray 9)).alloc (.cells ((pList k).flatMap pcells).toArray 48)).heap.size ((((((u.alloc (.cells (plainEls.map sc).toArray 9)).alloc (.cells (plainAts.map sc).toArray 9)).alloc (.cells (pHref.map sc).toArray 9)).alloc (.cells (pSrc.map sc).toArray 9)).alloc (.cells (pSpan.map sc).toArray 9)).alloc (.cells ((pList k).flatMap pcells).toArray 48)) ((((((u.alloc (.cells (plainEls.map sc).toArray 9)).alloc (.cells (plainAts.map sc).toArray 9)).alloc (.cells (pHref.map sc).toArray 9)).alloc (.cells (pSrc.map sc).toArray 9)).alloc (.cells (pSpan.map sc).toArray 9)).alloc (.cells ((pList k).flatMap pcells).toArray 48)) := Below.refl _ _
  have h5 := below_step h6
  have h4 := below_step h5
  have h3 := below_step h4
  have h2 := below_step h3
  have h1 := below_step h2
  have hf : ∀ x ∈ pList k, Fp N ((((((u.alloc (.cells (plainEls.map sc).toArray 9)).alloc (.cells (plainAts.map sc).toArray 9)).alloc (.cells (pHref.map sc).toArray 9)).alloc (.cells (pSrc.map sc).toArray 9)).alloc (.cells (pSpan.map sc).toArray 9)).alloc (.cells ((pList k).flatMap pcells).toArray 48)) x := fun x hx => by
    simp only [pList, List.mem_cons, List.not_mem_nil, or_false] at hx
    rcases hx with rfl | rfl | rfl
    · exact lit_own _ _ pHref N (k + 1 + 1) (by decide) (by simp [hk]) (by omega) h3
    · exact lit_own _ _ pSrc N (k + 1 + 1 + 1) (by decide) (by simp [hk]) (by omega) h4
    · exact lit_own _ _ pSpan N (k + 1 + 1 + 1 + 1) (by decide) (by simp [hk]) (by omega) h5
  refine ⟨⟨lit_own _ _ plainEls N k (by decide) hk hN h1, Sown.nil _ _, lit_own _ _ plainAts N (k + 1) (by decide) (by simp [hk]) (by omega) h2, po_of ?_ hf, hf, rfl⟩, below_step h1⟩
  have := World.ownsRow_lit (e := 48) (size := 2) (base := N) ((((((u.alloc (.cells (plainEls.map sc).toArray 9)).alloc (.cells (plainAts.map sc).toArray 9)).alloc (.cells (pHref.map sc).toArray 9)).alloc (.cells (pSrc.map sc).toArray 9)).alloc (.cells (pSpan.map sc).toArray 9))) ((pList k).flatMap pcells).toArray 3 (by simp; omega) (by decide) rfl
  simp only [World.size_alloc, ← hk] at this
  exact this
set_option maxRecDepth 100000 in
theorem plain1 (w : World) : Calls Try.prog 55 #[] w fun r w' => ∃ v', r = .returned v' ∧ Cow w.heap.size w' v' plainC ∧ Below w.heap.size w w' := by
  have hp := fun O => plain_own (w.alloc O) w.heap.size (w.heap.size + 1) (by simp) (by omega)
  have hb := fun O => below_new12 w O
  have HP := Lib.hid hp; have HB := Lib.hid hb
  clear hp hb
  go_enter Try.func55, Try.ntmps55
  go_wp2
  refine bodyPost_ret (v := .agg #[.bool true, .bool true, .slice (some ⟨w.heap.size + 1, 0, none⟩) 36 36, .slice none 0 0, .slice (some ⟨w.heap.size + 1 + 1, 0, none⟩) 8 8, .slice (some ⟨w.heap.size + 1 + 1 + 1 + 1 + 1 + 1, 0, none⟩) 3 3, .bool false, .bool false]) ?_ rfl ⟨_, rfl, ⟨_, _, _, _, _, rfl, (HP.out _).1⟩, (HB.out _).trans ((HP.out _).2.mono (HB.out _).size)⟩
  simp [results, Try.f55, go_sem]
set_option maxRecDepth 100000 in
theorem refPlain1 (w : World) : Calls Try.prog 56 #[] w fun r w' => ∃ v', r = .returned v' ∧ Cow w.heap.size w' v' plainC ∧ Below w.heap.size w w' := by
  have hp := fun O O2 => plain_own ((w.alloc O).alloc O2) w.heap.size (w.heap.size + 1 + 1) (by simp) (by omega)
  have hb := fun O O2 => (below_new12 w O).trans ((below_new12 (w.alloc O) O2).mono (below_new12 w O).size)
  have HP := Lib.hid hp; have HB := Lib.hid hb
  clear hp hb
  go_enter Try.func56, Try.ntmps56
  go_wp2
  refine bodyPost_ret (v := .agg #[.bool true, .bool true, .slice (some ⟨w.heap.size + 1 + 1, 0, none⟩) 36 36, .slice none 0 0, .slice (some ⟨w.heap.size + 1 + 1 + 1, 0, none⟩) 8 8, .slice (some ⟨w.heap.size + 1 + 1 + 1 + 1 + 1 + 1 + 1, 0, none⟩) 3 3, .bool false, .bool false]) ?_ rfl ⟨_, rfl, ⟨_, _, _, _, _, rfl, (HP.out _ _).1⟩, (HB.out _ _).trans ((HP.out _ _).2.mono (HB.out _ _).size)⟩
  simp [results, Try.f56, go_sem]

end Go.Proofs.Ytgjlfcamgkeibaa.Co

namespace Go.Proofs.Ytgjlfcamgkeibaa.Co
set_option maxRecDepth 100000
set_option linter.unusedVariables false
set_option linter.unusedSimpArgs false
open Go.RowKit Ba Fm Fo Nm Rk
theorem max_any (x y : Nat) : ∃ m : Nat, (∀ n : Nat, n < m ↔ n < x ∨ n < y) ∧ ∀ ts t (w : World), (Builtin.max_ ts t #[.int .i64 x, .int .i64 y]).run Try.prog w = .ok (.int .i64 m) w := by
  refine ⟨max x y, fun n => by omega, fun ts t w => ?_⟩
  rw [run_max_int2]
  congr 2
  split <;> omega
theorem max_any4 (x y z u : Nat) : ∃ m : Nat, (∀ n : Nat, n < m ↔ ((n < x ∨ n < y) ∨ n < z) ∨ n < u) ∧ ∀ ts t (w : World), (Builtin.max_ ts t #[.int .i64 x, .int .i64 y, .int .i64 z, .int .i64 u]).run Try.prog w = .ok (.int .i64 m) w := by
  refine ⟨max (max (max x y) z) u, fun n => by omega, fun ts t w => ?_⟩
  simp only [Builtin.max_, Builtin.max2, List.foldlM, List.toList_toArray, pure_bind]
  show Result.ok _ _ = _
  congr 2
  split <;> split <;> split <;> omega
set_option maxRecDepth 100000 in
set_option maxHeartbeats 2000000 in
theorem exceeds1 (v : Value) (c : Cf) (w : World) (q : Bool) (h : Cv w w.heap.size v c) (hs : Sm c) (hq : bigB c = q) :
    Calls Try.prog 48 #[v] w fun r w' => r = .returned (.bool q) ∧ Below w.heap.size w w' := by
  obtain ⟨vE, vR, vA, vP, l, rfl, h⟩ := h
  obtain ⟨w0, hw0⟩ : ∃ w0, w.alloc (confO c vE vR vA vP) = w0 := ⟨_, rfl⟩
  have hb1 : Below w.heap.size w w0 := hw0 ▸ below_new12 w (confO c vE vR vA vP)
  obtain ⟨E, ce, rfl, _, _, _⟩ := h.e
  obtain ⟨R, cr, rfl, _, _, _⟩ := h.r
  obtain ⟨T, ct, rfl, _, _, _⟩ := h.a
  obtain ⟨A, cp, rfl, hcp, hna, hr⟩ := h.p
  have hpl : c.per.length = l.length := by rw [← h.m, len_pes]
  have hl : l.length ≤ 1000 := by have := hs.p; omega
  have hlen : ∀ x ∈ l, x.pe.at_.length ≤ 1000 := fun x hx => hs.pa _ (by rw [← h.m]; exact List.mem_map.2 ⟨x, hx, rfl⟩)
  have hel := hs.e; have hrl := hs.r; have hal := hs.a
  obtain ⟨m0, hm0, hmax⟩ := max_any4 c.els.length c.reps.length c.ats.length l.length
  have hbig : (decide (64 < m0) || l.any fun x => decide (64 < x.pe.at_.length)) = q := by
    rw [← hq]
    unfold bigB
    rw [hpl, ← h.m]
    unfold pes
    rw [List.any_map]
    congr 1
    rw [Bool.eq_iff_iff]
    simp only [decide_eq_true_eq, Bool.or_eq_true]
    exact hm0 64
  have hm00 : m0 ≤ 1000 := by have := (hm0 1000); omega
  have HQ := Lib.hid hbig; have HLEN := Lib.hid hlen; have HW := Lib.hid hw0; have HB1 := Lib.hid hb1; have HR := Lib.hid hr
  have hz : w.heap.size < w0.heap.size := by rw [← hw0]; simp
  have hcp0 : c.per.length = l.length := hpl
  clear hq hbig hlen hw0 hs h hm0 hpl hr hb1
  obtain ⟨n1, hn1⟩ : ∃ n, c.els.length = n := ⟨_, rfl⟩
  obtain ⟨n2, hn2⟩ : ∃ n, c.reps.length = n := ⟨_, rfl⟩
  obtain ⟨n3, hn3⟩ : ∃ n, c.ats.length = n := ⟨_, rfl⟩
  rw [hn1] at hmax hel HW
  rw [hn2] at hmax hrl HW
  rw [hn3] at hmax hal HW
  simp only [hn1, hn2, hn3]
  clear hn1 hn2 hn3 hcp0
  go_enter Try.func48, Try.ntmps48
  go_wp2
  rw [HW.out]
  clear hmax
  go_loopw [3, 5, 22] (fun n _ i wr => ∃ k m : Nat, i = .int .i64 k ∧ k ≤ l.length ∧ n = .int .i64 m ∧ m ≤ 1000 ∧ decide (64 < m) = (decide (64 < m0) || (l.take k).any fun x => decide (64 < x.pe.at_.length)) ∧ Below w0.heap.size w0 wr) (fun _ _ i _ => l.length - (intOf i).toNat)
  case atStart => exact ⟨0, m0, rfl, Nat.zero_le _, rfl, hm00, by simp, Below.refl _ _⟩
  case round =>
    obtain ⟨k, m, rfl, hks, rfl, hm1, hn, hbel⟩ := hrel
    by_cases hk : k < l.length
    · obtain ⟨b, off, x, rfl, hb, hx, hcs, hsx, hxm⟩ := (HR.out.below (HB1.out.trans (hbel.mono (Nat.le_of_lt hz)))).at_ k hk
      obtain ⟨g0, g1⟩ := range2p hcs
      have hxl := HLEN.out x hxm
      have hsn := any_snoc (fun x : Pw => decide (64 < x.pe.at_.length)) l k x hx
      obtain ⟨m2, hm2, hmax⟩ := max_any m x.pe.at_.length
      have hm3 : m2 ≤ 1000 := by have := hm2 1000; omega
      have hn2 : decide (64 < m2) = (decide (64 < m0) || (l.take (k + 1)).any fun x => decide (64 < x.pe.at_.length)) := by
        rw [hsn, ← Bool.or_assoc, ← hn, Bool.eq_iff_iff]
        simp only [decide_eq_true_eq, Bool.or_eq_true]
        exact hm2 64
      have HN := Lib.hid hn2; have HBL := Lib.hid (hbel.trans ((below_new12 wr (perO x)).mono hbel.size))
      clear hn hn2 hsn hm2 hcs hsx
      go_wp2
      go_roundw
      case rel => exact ⟨k + 1, m2, by go_num, by omega, rfl, hm3, HN.out, HBL.out⟩
      case measure => simp [intOf]; omega
    · rw [List.take_of_length_le (by omega), HQ.out] at hn
      have HN := Lib.hid hn
      have HBL := Lib.hid (HB1.out.trans (hbel.mono (Nat.le_of_lt hz)))
      clear hn hbel
      go_wp2
      go_ret
      exact ⟨ret_bool (by rw [← HN.out, Bool.eq_iff_iff]; simp only [decide_eq_true_eq]; omega), HBL.out⟩

def Bb (w : World) (g : Nat) (b : Bool) : Prop := w.heap[g]? = some (.cells #[.bool b] 4)
section
variable {w w' : World} {g : Nat} {b : Bool}
theorem Bb.cell (h : Bb w g b) : w.cell? ⟨g, 0, none⟩ = some (.bool b) := by rw [cell_of_row w g 0 _ _ _ h]; rfl
theorem Bb.f (h : Bb w g b) : w.frozen? ⟨g, 0, none⟩ = false := by
  unfold Bb at h
  simp [World.frozen?, h]
theorem Bb.lt (h : Bb w g b) : g < w.heap.size := (Array.getElem?_eq_some_iff.1 h).1
theorem Bb.set (h : Bb w g b) (u : Bool) : Bb (w.setCell ⟨g, 0, none⟩ (.bool u)) g u := by
  unfold Bb at h ⊢
  simp [World.setCell, Array.getElem?_modify, h]
theorem Bb.below (h : Bb w g b) (hb : Below w.heap.size w w') : Bb w' g b := (hb.block g h.lt).trans h
end
theorem gset12 (w : World) (b j : Nat) (u : Value) : w.grownBy (w.setCell ⟨b, j, none⟩ u) (some b) :=
  ⟨rfl, rfl, rfl, by simp [World.setCell], fun k _ hk => Below.heap_setCell _ _ _ _ (fun e => hk (by simp [e]))⟩
theorem all_snoc12 (p : ByteArray → Bool) (l : List ByteArray) (k : Nat) (h : k < l.length) : (l.take (k + 1)).all p = ((l.take k).all p && p l[k]) := by
  rw [List.take_succ_eq_append_getElem h, List.all_append]
  simp
set_option maxRecDepth 100000 in
set_option maxHeartbeats 2000000 in
theorem mis_R (A : Option Addr) (c : Nat) (l : List ByteArray) (w : World) (g : Nat) (b : Bool) (hr : 0 < l.length → ∃ b0 off, A = some ⟨b0, off, none⟩ ∧ b0 < w.heap.size ∧ b0 ≠ g ∧ ∀ j (h : j < l.length), w.cell? ⟨b0, off + j, none⟩ = some (.string l[j])) (hl : l.length ≤ 1000000)
    (hsz : ∀ s ∈ l, s.size ≤ 140737488355328) (hg : Bb w g b) :
    Calls Try.prog 81 #[.func (.func 82) #[] #[], .slice A l.length c, .pointer (some ⟨g, 0, none⟩)] w fun r w' => r = .returned (.tuple #[]) ∧ Bb w' g (b || !l.all rightB) ∧ w.grownBy w' (some g) := by
  have HSZ := Lib.hid hsz; clear hsz
  go_enter Try.func81, Try.ntmps81
  go_wp2
  go_loopw [6, 9] (fun _ i wr => ∃ k : Nat, i = .int .i64 k ∧ k ≤ l.length ∧ Bb wr g (b || !(l.take k).all rightB) ∧ w.grownBy wr (some g)) (fun _ i _ => l.length - (intOf i).toNat)
  case atStart => exact ⟨0, rfl, Nat.zero_le _, by simpa using hg, World.grownBy.refl _ _⟩
  case round =>
    clear hg
    obtain ⟨k, rfl, hks, hg, hgr⟩ := hrel
    by_cases hk : k < l.length
    · obtain ⟨b0, off, rfl, hb0, hne, hc⟩ := hr (by omega)
      have hcell := (World.cell?_of_block (a := ⟨b0, off + k, none⟩) (hgr.block b0 hb0 (by simpa using hne))).trans (hc k hk)
      have hsn := all_snoc12 rightB l k hk
      have hxs := HSZ.out _ (List.getElem_mem hk)
      obtain ⟨t, ht⟩ : ∃ t, (b || !(l.take k).all rightB) = t := ⟨_, rfl⟩
      have hsn2 : (b || !(l.take (k + 1)).all rightB) = (t || !rightB l[k]) := by
        rw [hsn, ← ht]
        cases b <;> cases (l.take k).all rightB <;> cases rightB l[k] <;> rfl
      rw [ht] at hg
      have g0 := hg.cell; have f0 := hg.f
      have HSN := Lib.hid hsn2; have HG := Lib.hid hg; have HGR := Lib.hid hgr
      clear hc hr hsn hsn2 hg hgr ht
      cases t with
      | true =>
        go_wp2
        go_roundw
        case rel => exact ⟨k + 1, by go_num, by omega, by rw [HSN.out]; exact HG.out.set true, HGR.out.trans (gset12 wr g 0 _)⟩
        case measure => simp [intOf]; omega
      | false =>
        obtain ⟨u, hu⟩ : ∃ u, rightB l[k] = u := ⟨_, rfl⟩
        have HU := Lib.hid hu; clear hu
        go_wp2_with (go_at_call 82; refine (Na.right_any l[k] _ hxs).mono ?_; rw [HU.out]; rintro r w3 ⟨rfl, rfl⟩)
        go_roundw
        case rel => exact ⟨k + 1, by go_num, by omega, by rw [HSN.out, HU.out]; exact HG.out.set (!u), HGR.out.trans (gset12 wr g 0 _)⟩
        case measure => simp [intOf]; omega
    · rw [List.take_of_length_le (by omega)] at hg
      have HG := Lib.hid hg; have HGR := Lib.hid hgr
      clear hg hgr
      go_wp2
      go_end0
      exact ⟨rfl, HG.out, HGR.out⟩
set_option maxRecDepth 100000 in
set_option maxHeartbeats 2000000 in
theorem mis_T (A : Option Addr) (c : Nat) (l : List ByteArray) (w : World) (g : Nat) (b : Bool) (hr : 0 < l.length → ∃ b0 off, A = some ⟨b0, off, none⟩ ∧ b0 < w.heap.size ∧ b0 ≠ g ∧ ∀ j (h : j < l.length), w.cell? ⟨b0, off + j, none⟩ = some (.string l[j])) (hl : l.length ≤ 1000000)
    (hsz : ∀ s ∈ l, s.size ≤ 140737488355328) (hg : Bb w g b) :
    Calls Try.prog 81 #[.func (.func 83) #[] #[], .slice A l.length c, .pointer (some ⟨g, 0, none⟩)] w fun r w' => r = .returned (.tuple #[]) ∧ Bb w' g (b || !l.all Nm.attrB) ∧ w.grownBy w' (some g) := by
  have HSZ := Lib.hid hsz; clear hsz
  go_enter Try.func81, Try.ntmps81
  go_wp2
  go_loopw [6, 9] (fun _ i wr => ∃ k : Nat, i = .int .i64 k ∧ k ≤ l.length ∧ Bb wr g (b || !(l.take k).all Nm.attrB) ∧ w.grownBy wr (some g)) (fun _ i _ => l.length - (intOf i).toNat)
  case atStart => exact ⟨0, rfl, Nat.zero_le _, by simpa using hg, World.grownBy.refl _ _⟩
  case round =>
    clear hg
    obtain ⟨k, rfl, hks, hg, hgr⟩ := hrel
    by_cases hk : k < l.length
    · obtain ⟨b0, off, rfl, hb0, hne, hc⟩ := hr (by omega)
      have hcell := (World.cell?_of_block (a := ⟨b0, off + k, none⟩) (hgr.block b0 hb0 (by simpa using hne))).trans (hc k hk)
      have hsn := all_snoc12 Nm.attrB l k hk
      have hxs := HSZ.out _ (List.getElem_mem hk)
      obtain ⟨t, ht⟩ : ∃ t, (b || !(l.take k).all Nm.attrB) = t := ⟨_, rfl⟩
      have hsn2 : (b || !(l.take (k + 1)).all Nm.attrB) = (t || !Nm.attrB l[k]) := by
        rw [hsn, ← ht]
        cases b <;> cases (l.take k).all Nm.attrB <;> cases Nm.attrB l[k] <;> rfl
      rw [ht] at hg
      have g0 := hg.cell; have f0 := hg.f
      have HSN := Lib.hid hsn2; have HG := Lib.hid hg; have HGR := Lib.hid hgr
      clear hc hr hsn hsn2 hg hgr ht
      cases t with
      | true =>
        go_wp2
        go_roundw
        case rel => exact ⟨k + 1, by go_num, by omega, by rw [HSN.out]; exact HG.out.set true, HGR.out.trans (gset12 wr g 0 _)⟩
        case measure => simp [intOf]; omega
      | false =>
        obtain ⟨u, hu⟩ : ∃ u, Nm.attrB l[k] = u := ⟨_, rfl⟩
        have HU := Lib.hid hu; clear hu
        go_wp2_with (go_at_call 83; refine (Na.attr_any l[k] _ hxs).mono ?_; rw [HU.out]; rintro r w3 ⟨rfl, rfl⟩)
        go_roundw
        case rel => exact ⟨k + 1, by go_num, by omega, by rw [HSN.out, HU.out]; exact HG.out.set (!u), HGR.out.trans (gset12 wr g 0 _)⟩
        case measure => simp [intOf]; omega
    · rw [List.take_of_length_le (by omega)] at hg
      have HG := Lib.hid hg; have HGR := Lib.hid hgr
      clear hg hgr
      go_wp2
      go_end0
      exact ⟨rfl, HG.out, HGR.out⟩

end Go.Proofs.Ytgjlfcamgkeibaa.Co

namespace Go.Proofs.Ytgjlfcamgkeibaa.Co
set_option maxRecDepth 100000
set_option linter.unusedVariables false
set_option linter.unusedSimpArgs false
open Go.RowKit Ba Fm Fo Nm Rk
theorem rd_ne {w : World} {N g : Nat} {A : Option Addr} {l : List ByteArray} (h : Rd w N A l) (h1 : N ≤ w.heap.size) (h2 : N ≤ g) :
    0 < l.length → ∃ b0 off, A = some ⟨b0, off, none⟩ ∧ b0 < w.heap.size ∧ b0 ≠ g ∧ ∀ j (h : j < l.length), w.cell? ⟨b0, off + j, none⟩ = some (.string l[j]) := fun h0 => by
  obtain ⟨b, off, e, hb, hc⟩ := h h0
  exact ⟨b, off, e, by omega, by omega, hc⟩
theorem mis_R1 (v : Value) (N : Nat) (l : List ByteArray) (w : World) (g : Nat) (b q : Bool) (h : Sv w N v l) (hN : N ≤ w.heap.size) (hg0 : N ≤ g) (hl : l.length ≤ 1000000) (hsz : ∀ s ∈ l, s.size ≤ 140737488355328) (hg : Bb w g b) (hq : (b || !l.all rightB) = q) :
    Calls Try.prog 81 #[.func (.func 82) #[] #[], v, .pointer (some ⟨g, 0, none⟩)] w fun r w' => r = .returned (.tuple #[]) ∧ Bb w' g q ∧ w.grownBy w' (some g) := by
  obtain ⟨A, c, rfl, _, _, hr⟩ := h
  subst hq
  exact mis_R A c l w g b (rd_ne hr hN hg0) hl hsz hg
theorem mis_T1 (v : Value) (N : Nat) (l : List ByteArray) (w : World) (g : Nat) (b q : Bool) (h : Sv w N v l) (hN : N ≤ w.heap.size) (hg0 : N ≤ g) (hl : l.length ≤ 1000000) (hsz : ∀ s ∈ l, s.size ≤ 140737488355328) (hg : Bb w g b) (hq : (b || !l.all Nm.attrB) = q) :
    Calls Try.prog 81 #[.func (.func 83) #[] #[], v, .pointer (some ⟨g, 0, none⟩)] w fun r w' => r = .returned (.tuple #[]) ∧ Bb w' g q ∧ w.grownBy w' (some g) := by
  obtain ⟨A, c, rfl, _, _, hr⟩ := h
  subst hq
  exact mis_T A c l w g b (rd_ne hr hN hg0) hl hsz hg
theorem mis_R2 (s : ByteArray) (w : World) (g : Nat) (b q : Bool) (hsz : s.size ≤ 140737488355328) (hg : Bb w g b) (hq : (b || !rightB s) = q) :
    Calls Try.prog 81 #[.func (.func 82) #[] #[], .slice (some ⟨w.heap.size, 0, none⟩) 1 1, .pointer (some ⟨g, 0, none⟩)] (w.alloc (.cells #[.string s] 9)) fun r w' => r = .returned (.tuple #[]) ∧ Bb w' g q ∧ w.grownBy w' (some g) := by
  subst hq
  have hgl := hg.lt
  refine (mis_R (some ⟨w.heap.size, 0, none⟩) 1 [s] (w.alloc (.cells #[.string s] 9)) g b (fun _ => ⟨w.heap.size, 0, rfl, by simp, by omega, fun j hj => ?_⟩) (by simp) (fun t ht => by rw [List.mem_singleton] at ht; rw [ht]; exact hsz) (hg.below (below_new12 w _))).mono ?_
  · have : j = 0 := by simpa using hj
    subst this
    rw [World.cell?_alloc_mark]
    rfl
  · rintro r w' ⟨rfl, h1, h2⟩
    refine ⟨rfl, by simpa using h1, (World.grownBy_alloc w _ _).trans h2⟩
theorem all_snocP (p : Pw → Bool) (l : List Pw) (k : Nat) (x : Pw) (h : l[k]? = some x) : (l.take (k + 1)).all p = ((l.take k).all p && p x) := by
  have hk : k < l.length := (List.getElem?_eq_some_iff.1 h).1
  have hx : l[k] = x := (List.getElem?_eq_some_iff.1 h).2
  rw [List.take_succ_eq_append_getElem hk, List.all_append, hx]
  simp
set_option maxRecDepth 100000 in
set_option maxHeartbeats 4000000 in
theorem misnames1 (v : Value) (c : Cf) (w : World) (q : Bool) (h : Cv w w.heap.size v c) (hs : Sm c) (hq : (!namesB c) = q) :
    Calls Try.prog 49 #[v] w fun r w' => r = .returned (.bool q) ∧ Below w.heap.size w w' := by
  have hmf : ∀ (fn : Fn) (first cap : Array Value) (w : World), (Instr.makeFunc fn first cap).run Try.prog w = .ok (.func fn first cap) w := fun _ _ _ _ => rfl
  obtain ⟨vE, vR, vA, vP, l, rfl, h⟩ := h
  obtain ⟨w0, hw0⟩ : ∃ w0, (w.alloc (confO c vE vR vA vP)).alloc (.cells #[.bool false] 4) = w0 := ⟨_, rfl⟩
  have hba : Below w.heap.size w (w.alloc (confO c vE vR vA vP)) := below_new12 w _
  have hb1 : Below w.heap.size w w0 := hw0 ▸ hba.trans ((below_new12 _ _).mono hba.size)
  have hbx : Bx w0 w.heap.size c vE vR vA vP := hw0 ▸ (Bx.new w c vE vR vA vP).below (below_new12 _ _) (by simp)
  have hbb : Bb w0 (w.heap.size + 1) false := by
    rw [← hw0]
    unfold Bb
    have := heap_alloc_new (w.alloc (confO c vE vR vA vP)) (.cells #[.bool false] 4)
    rwa [World.size_alloc] at this
  have hz : w0.heap.size = w.heap.size + 2 := by rw [← hw0]; simp
  obtain ⟨A, cp, rfl, hcp, hna, hr⟩ := h.p
  have hpl : c.per.length = l.length := by rw [← h.m, len_pes]
  have hl : l.length ≤ 1000 := by have := hs.p; omega
  have hlen : ∀ x ∈ l, x.pe.at_.length ≤ 1000 ∧ x.pe.el.size ≤ 140737488355328 ∧ ∀ s ∈ x.pe.at_, s.size ≤ 140737488355328 := fun x hx => by
    have hm : x.pe ∈ c.per := by rw [← h.m]; exact List.mem_map.2 ⟨x, hx, rfl⟩
    exact ⟨hs.pa _ hm, hs.ps _ hm⟩
  obtain ⟨b1, hb1'⟩ : ∃ b, (false || !c.els.all rightB) = b := ⟨_, rfl⟩
  obtain ⟨b2, hb2'⟩ : ∃ b, (b1 || !c.reps.all rightB) = b := ⟨_, rfl⟩
  obtain ⟨b3, hb3'⟩ : ∃ b, (b2 || !c.ats.all Nm.attrB) = b := ⟨_, rfl⟩
  have hfin : (b3 || !l.all fun x => rightB x.pe.el && x.pe.at_.all Nm.attrB) = q := by
    rw [← hq, ← hb3', ← hb2', ← hb1']
    unfold namesB
    rw [← h.m]
    unfold pes
    rw [List.all_map]
    simp only [Bool.not_and, Bool.false_or]
    rfl
  have HQ := Lib.hid hfin; have HLEN := Lib.hid hlen; have HW := Lib.hid hw0; have HB1 := Lib.hid hb1; have HR := Lib.hid hr
  -- what stays under a growth of the truth's block
  have hst : ∀ wx, w0.grownBy wx (some (w.heap.size + 1)) → Below w.heap.size w wx := fun wx hg => hb1.grown hg (by omega) (fun k hk => by injection hk with hk; omega)
  have hbox : ∀ wx, w0.grownBy wx (some (w.heap.size + 1)) → Bx wx w.heap.size c vE vR vA (.slice A l.length cp) := fun wx hg j u hu => (World.cell?_of_block (a := ⟨w.heap.size, 0 + j, none⟩) (hg.block _ (by show w.heap.size < _; omega) (by simp))).trans (hbx j u hu)
  have HST := Lib.hid hst; have HBX := Lib.hid hbox; have HBB := Lib.hid hbb
  have HE := Lib.hid (fun wx hg hb => mis_R1 vE w.heap.size c.els wx (w.heap.size + 1) false b1 (h.e.below (hst wx hg) (Nat.le_refl _)) (hst wx hg).size (Nat.le_succ _) (by have := hs.e; omega) hs.es hb hb1')
  have HRR := Lib.hid (fun wx hg hb => mis_R1 vR w.heap.size c.reps wx (w.heap.size + 1) b1 b2 (h.r.below (hst wx hg) (Nat.le_refl _)) (hst wx hg).size (Nat.le_succ _) (by have := hs.r; omega) hs.rs hb hb2')
  have HAA := Lib.hid (fun wx hg hb => mis_T1 vA w.heap.size c.ats wx (w.heap.size + 1) b2 b3 (h.a.below (hst wx hg) (Nat.le_refl _)) (hst wx hg).size (Nat.le_succ _) (by have := hs.a; omega) hs.as_ hb hb3')
  have g2 := (hbox w0 (World.grownBy.refl _ _)).at_.2.2.1
  clear hq hfin hlen hs h hpl hr hb1 hbx hbb hst hbox hb1' hb2' hb3' hba hw0
  go_enter Try.func49, Try.ntmps49
  go_upto_region 3 with (fail)
  rw [HW.out]
  go_wp2_with fail
  refine (HE.out w0 (World.grownBy.refl _ _) HBB.out).mono ?_
  rintro r w1 ⟨rfl, hbb1, hg1⟩
  have g3 := (HBX.out w1 hg1).at_.2.2.2.1
  clear g2
  have HBB1 := Lib.hid hbb1; have HG1 := Lib.hid hg1; clear hbb1 hg1
  go_wp2_with fail
  refine (HRR.out w1 HG1.out HBB1.out).mono ?_
  rintro r w2 ⟨rfl, hbb2, hg2⟩
  have HBB2 := Lib.hid hbb2; have HG2 := Lib.hid (HG1.out.trans hg2); clear hbb2 hg2 g3
  have g4 := (HBX.out w2 HG2.out).at_.2.2.2.2.1
  go_wp2_with fail
  refine (HAA.out w2 HG2.out HBB2.out).mono ?_
  rintro r w3 ⟨rfl, hbb3, hg3⟩
  have HBB3 := Lib.hid hbb3; have HG3 := Lib.hid (HG2.out.trans hg3); clear hbb3 hg3 g4
  have g5 := (HBX.out w3 HG3.out).at_.2.2.2.2.2.1
  clear hmf
  go_wp2
  clear g5
  go_loopw [6, 23] (fun _ i wr => ∃ k : Nat, i = .int .i64 k ∧ k ≤ l.length ∧ Bb wr (w.heap.size + 1) (b3 || !(l.take k).all fun x => rightB x.pe.el && x.pe.at_.all Nm.attrB) ∧ w0.grownBy wr (some (w.heap.size + 1))) (fun _ i _ => l.length - (intOf i).toNat)
  case atStart => exact ⟨0, rfl, Nat.zero_le _, by simpa using HBB3.out, HG3.out⟩
  case round =>
    obtain ⟨k, rfl, hks, hn, hgr⟩ := hrel
    by_cases hk : k < l.length
    · have hbel := HST.out wr hgr
      obtain ⟨b, off, x, rfl, hb, hx, hcs, hsx, hxm⟩ := (HR.out.below hbel).at_ k hk
      obtain ⟨k0, k1⟩ := range2p hcs
      obtain ⟨hx1, hx2, hx3⟩ := HLEN.out x hxm
      have hsn := all_snocP (fun x => rightB x.pe.el && x.pe.at_.all Nm.attrB) l k x hx
      obtain ⟨t, ht⟩ : ∃ t, (b3 || !(l.take k).all fun x => rightB x.pe.el && x.pe.at_.all Nm.attrB) = t := ⟨_, rfl⟩
      rw [ht] at hn
      obtain ⟨t1, ht1⟩ : ∃ t1, (t || !rightB x.pe.el) = t1 := ⟨_, rfl⟩
      obtain ⟨t2, ht2⟩ : ∃ t2, (t1 || !x.pe.at_.all Nm.attrB) = t2 := ⟨_, rfl⟩
      have hsn2 : (b3 || !(l.take (k + 1)).all fun x => rightB x.pe.el && x.pe.at_.all Nm.attrB) = t2 := by
        rw [hsn, ← ht2, ← ht1, ← ht]
        cases b3 <;> cases ((l.take k).all fun x => rightB x.pe.el && x.pe.at_.all Nm.attrB) <;> cases rightB x.pe.el <;> cases x.pe.at_.all Nm.attrB <;> rfl
      have hgr1 := hgr.trans (World.grownBy_alloc wr (perO x) (some (w.heap.size + 1)))
      have hz1 : w.heap.size ≤ wr.heap.size := hbel.size
      have hgne : ¬ wr.heap.size = w.heap.size + 1 := by have := hgr.size; omega
      have hpx : ∀ wx, (wr.alloc (perO x)).grownBy wx (some (w.heap.size + 1)) → wx.cell? ⟨wr.heap.size, 1, none⟩ = some (.slice x.A x.pe.at_.length x.c) := fun wx hg => (World.cell?_of_block (a := ⟨wr.heap.size, 1, none⟩) (hg.block _ (by simp) (by simpa using hgne))).trans (pbox_at wr x 1)
      have HPX := Lib.hid hpx
      have hR2 := mis_R2 x.pe.el (wr.alloc (perO x)) (w.heap.size + 1) t t1 hx2 (hn.below (below_new12 wr (perO x))) ht1
      rw [World.size_alloc] at hR2
      have HR2 := Lib.hid hR2
      clear hR2
      have hbw : ∀ wx, (wr.alloc (perO x)).grownBy wx (some (w.heap.size + 1)) → Below w.heap.size wr wx := fun wx hg => ((Below.refl w.heap.size wr).alloc hz1 _).grown hg (by simp; omega) (fun k hk => by injection hk with hk; omega)
      have HT2 := Lib.hid (fun wx (hg : (wr.alloc (perO x)).grownBy wx (some (w.heap.size + 1))) hb => mis_T1 (.slice x.A x.pe.at_.length x.c) w.heap.size x.pe.at_ wx (w.heap.size + 1) t1 t2 (hsx.below (hbw wx hg) (Nat.le_refl _)) (HST.out wx (hgr1.trans hg)).size (Nat.le_succ _) (by omega) hx3 hb ht2)
      have HSN := Lib.hid hsn2; have HGR := Lib.hid hgr1
      clear hcs hsx hsn hsn2 hgr hgr1 hn ht ht1 ht2 hbel hpx hx3 hx2 hbw
      go_wp2_with fail
      refine HR2.out.mono ?_
      rintro r w4 ⟨rfl, hbb4, hg4⟩
      have p1 := HPX.out w4 hg4
      have HB4 := Lib.hid hbb4; have HG4 := Lib.hid hg4
      clear hbb4 hg4
      go_wp2_with fail
      refine (HT2.out w4 HG4.out HB4.out).mono ?_
      rintro r w5 ⟨rfl, hbb5, hg5⟩
      have HB5 := Lib.hid hbb5; have HG5 := Lib.hid (HGR.out.trans (HG4.out.trans hg5))
      clear hbb5 hg5
      go_wp2
      go_roundw
      case rel => exact ⟨k + 1, by go_num, by omega, by rw [HSN.out]; exact HB5.out, HG5.out⟩
      case measure => simp [intOf]; omega
    · rw [List.take_of_length_le (by omega), HQ.out] at hn
      have g0 := hn.cell
      have HBL := Lib.hid (HST.out wr hgr)
      clear hn hgr
      go_wp2
      go_ret
      exact ⟨rfl, HBL.out⟩

set_option maxRecDepth 100000 in
set_option maxHeartbeats 4000000 in
theorem repeats1 (v : Value) (c : Cf) (w : World) (q : Bool) (h : Cv w w.heap.size v c) (hs : Sm c) (hq : (!singleB c) = q) :
    Calls Try.prog 50 #[v] w fun r w' => r = .returned (.bool q) ∧ Below w.heap.size w w' := by
  obtain ⟨vE, vR, vA, vP, l, rfl, h⟩ := h
  obtain ⟨w0, hw0⟩ : ∃ w0, w.alloc (confO c vE vR vA vP) = w0 := ⟨_, rfl⟩
  have hb1 : Below w.heap.size w w0 := hw0 ▸ below_new12 w (confO c vE vR vA vP)
  have hbx : Bx w0 w.heap.size c vE vR vA vP := hw0 ▸ Bx.new w c vE vR vA vP
  have hz : w.heap.size < w0.heap.size := by rw [← hw0]; simp
  have h0 := h.on hb1
  obtain ⟨A, cp, rfl, hcp, hna, hr⟩ := h0.p
  have hpl : c.per.length = l.length := by rw [← h.m, len_pes]
  have hl : l.length ≤ 1000 := by have := hs.p; omega
  have hlen : ∀ x ∈ l, x.pe.at_.length ≤ 1000 := fun x hx => hs.pa _ (by rw [← h.m]; exact List.mem_map.2 ⟨x, hx, rfl⟩)
  obtain ⟨e1, he1⟩ : ∃ b, (!onceB c.els) = b := ⟨_, rfl⟩
  obtain ⟨e2, he2⟩ : ∃ b, (!onceB c.reps) = b := ⟨_, rfl⟩
  obtain ⟨e3, he3⟩ : ∃ b, (!onceB c.ats) = b := ⟨_, rfl⟩
  obtain ⟨e4, he4⟩ : ∃ b, (!onceB ((pes l).map Pe.el)) = b := ⟨_, rfl⟩
  have hfin : ((l.any fun x => !onceB x.pe.at_) || (e1 || e2 || e3 || e4)) = q := by
    rw [← hq, ← he1, ← he2, ← he3, ← he4]
    unfold singleB
    rw [← h.m]
    unfold pes
    rw [List.all_map, List.any_eq_not_all_not, show (l.all ((fun p => onceB p.at_) ∘ Pw.pe)) = l.all fun x => onceB x.pe.at_ from rfl]
    simp only [Bool.not_not]
    cases onceB c.els <;> cases onceB c.reps <;> cases onceB c.ats <;> cases onceB ((l.map Pw.pe).map Pe.el) <;> cases (l.all fun x => onceB x.pe.at_) <;> rfl
  have HQ := Lib.hid hfin; have HLEN := Lib.hid hlen; have HW := Lib.hid hw0; have HB1 := Lib.hid hb1; have HR := Lib.hid hr
  have HBX := Lib.hid (fun wx (hb : Below w0.heap.size w0 wx) => hbx.below hb hz)
  have HE := Lib.hid (fun wx hb => twiceS vE c.els wx e1 (sv_on h0.e hb) (by have := hs.e; omega) he1)
  have HRR := Lib.hid (fun wx hb => twiceS vR c.reps wx e2 (sv_on h0.r hb) (by have := hs.r; omega) he2)
  have HAA := Lib.hid (fun wx hb => twiceS vA c.ats wx e3 (sv_on h0.a hb) (by have := hs.a; omega) he3)
  have HPP := Lib.hid (fun wx hb => twiceP (.slice A l.length cp) l wx e4 (h0.p.on hb) (by omega) he4)
  clear hq hfin hlen hs h h0 hpl hr hb1 hbx he1 he2 he3 he4 hw0
  go_enter Try.func50, Try.ntmps50
  go_wp2
  rw [HW.out]
  go_loopw [5, 9] (fun _ i wr => ∃ k : Nat, i = .int .i64 k ∧ k ≤ l.length ∧ ((l.take k).any fun x => !onceB x.pe.at_) = false ∧ Below w0.heap.size w0 wr) (fun _ i _ => l.length - (intOf i).toNat)
  case atStart => exact ⟨0, rfl, Nat.zero_le _, rfl, Below.refl _ _⟩
  case round =>
    obtain ⟨k, rfl, hks, hn, hbel⟩ := hrel
    by_cases hk : k < l.length
    · obtain ⟨b, off, x, rfl, hb, hx, hcs, hsx, hxm⟩ := (HR.out.below hbel).at_ k hk
      obtain ⟨k0, k1⟩ := range2p hcs
      have hx1 := HLEN.out x hxm
      have hsn := any_snoc (fun x : Pw => !onceB x.pe.at_) l k x hx
      rw [hn, Bool.false_or] at hsn
      obtain ⟨t, ht⟩ : ∃ t, (!onceB x.pe.at_) = t := ⟨_, rfl⟩
      rw [ht] at hsn
      have hsx1 : Sx (wr.alloc (perO x)) (wr.alloc (perO x)).heap.size x := Sx.boxed hsx hbel (perO x)
      have HT := Lib.hid (twiceS (.slice x.A x.pe.at_.length x.c) x.pe.at_ _ t hsx1 (by omega) ht)
      have HSN := Lib.hid hsn; have HBL := Lib.hid (hbel.trans ((below_new12 wr (perO x)).mono hbel.size))
      clear hcs hsx hsx1 hsn hn hbel
      cases t with
      | true =>
        have HM := Lib.hid (any_yes (fun x : Pw => !onceB x.pe.at_) l x hxm ht)
        clear ht
        go_wp2_with fail
        refine HT.out.mono ?_
        rintro r w3 ⟨rfl, hb3⟩
        go_wp2
        go_ret
        exact ⟨ret_bool (by rw [← HQ.out, HM.out]; rfl), HB1.out.trans ((HBL.out.trans (hb3.mono HBL.out.size)).mono HB1.out.size)⟩
      | false =>
        clear ht
        go_wp2_with fail
        refine HT.out.mono ?_
        rintro r w3 ⟨rfl, hb3⟩
        go_wp2
        go_roundw
        case rel => exact ⟨k + 1, by go_num, by omega, HSN.out, HBL.out.trans (hb3.mono HBL.out.size)⟩
        case measure => simp [intOf]; omega
    · rw [List.take_of_length_le (by omega)] at hn
      have hq := HQ.out
      rw [hn, Bool.false_or] at hq
      have g2 := (HBX.out wr hbel).at_.2.2.1
      have HBL := Lib.hid hbel; have HQ2 := Lib.hid hq
      clear hn hbel hq
      cases e1 with
      | true =>
        go_wp2_with (go_at_call 85; refine (HE.out _ HBL.out).mono ?_; rintro r w3 ⟨rfl, hb3⟩)
        go_ret
        exact ⟨ret_bool (by rw [← HQ2.out]; rfl), HB1.out.trans ((HBL.out.trans (hb3.mono HBL.out.size)).mono (Nat.le_of_lt hz))⟩
      | false =>
        go_wp2_with fail
        refine (HE.out _ HBL.out).mono ?_
        rintro r w3 ⟨rfl, hb3⟩
        have HBL3 := Lib.hid (HBL.out.trans (hb3.mono HBL.out.size))
        clear hb3 g2
        have g3 := (HBX.out w3 HBL3.out).at_.2.2.2.1
        cases e2 with
        | true =>
          go_wp2_with (go_at_call 85; refine (HRR.out _ HBL3.out).mono ?_; rintro r w4 ⟨rfl, hb4⟩)
          go_ret
          exact ⟨ret_bool (by rw [← HQ2.out]; rfl), HB1.out.trans ((HBL3.out.trans (hb4.mono HBL3.out.size)).mono (Nat.le_of_lt hz))⟩
        | false =>
          go_wp2_with fail
          refine (HRR.out _ HBL3.out).mono ?_
          rintro r w4 ⟨rfl, hb4⟩
          have HBL4 := Lib.hid (HBL3.out.trans (hb4.mono HBL3.out.size))
          clear hb4 g3
          have g4 := (HBX.out w4 HBL4.out).at_.2.2.2.2.1
          cases e3 with
          | true =>
            go_wp2_with (go_at_call 85; refine (HAA.out _ HBL4.out).mono ?_; rintro r w5 ⟨rfl, hb5⟩)
            go_ret
            exact ⟨ret_bool (by rw [← HQ2.out]; rfl), HB1.out.trans ((HBL4.out.trans (hb5.mono HBL4.out.size)).mono (Nat.le_of_lt hz))⟩
          | false =>
            go_wp2_with fail
            refine (HAA.out _ HBL4.out).mono ?_
            rintro r w5 ⟨rfl, hb5⟩
            have HBL5 := Lib.hid (HBL4.out.trans (hb5.mono HBL4.out.size))
            clear hb5 g4
            have g5 := (HBX.out w5 HBL5.out).at_.2.2.2.2.2.1
            go_wp2_with (go_at_call 87; refine (HPP.out _ HBL5.out).mono ?_; rintro r w6 ⟨rfl, hb6⟩)
            go_ret
            exact ⟨ret_bool (by rw [← HQ2.out]; rfl), HB1.out.trans ((HBL5.out.trans (hb6.mono HBL5.out.size)).mono (Nat.le_of_lt hz))⟩

end Go.Proofs.Ytgjlfcamgkeibaa.Co

namespace Go.Proofs.Ytgjlfcamgkeibaa.Co
set_option maxRecDepth 100000
set_option linter.unusedVariables false
set_option linter.unusedSimpArgs false
open Go.RowKit Ba Fm Fo Nm Rk
theorem meetSP_eq (a : List ByteArray) (l : List Pe) : meetSPB a l = l.any fun p => meetB p.at_ a := by
  unfold meetSPB
  rw [Bool.eq_iff_iff, List.any_eq_true, List.any_eq_true]
  constructor
  · rintro ⟨x, hx, h⟩
    obtain ⟨p, hp, hi⟩ := List.any_eq_true.1 h
    exact ⟨p, hp, meet_iff.2 ⟨x, isIn_of hi, hx⟩⟩
  · rintro ⟨p, hp, h⟩
    obtain ⟨x, h1, h2⟩ := meet_iff.1 h
    exact ⟨x, h2, any_yes _ _ p hp (isIn_yes h1)⟩
set_option maxRecDepth 100000 in
set_option maxHeartbeats 4000000 in
theorem contradicts1 (v : Value) (c : Cf) (w : World) (q : Bool) (h : Cv w w.heap.size v c) (hs : Sm c) (hq : bothB c = q) :
    Calls Try.prog 51 #[v] w fun r w' => r = .returned (.bool q) ∧ Below w.heap.size w w' := by
  obtain ⟨vE, vR, vA, vP, l, rfl, h⟩ := h
  obtain ⟨al, aa, els, reps, ats, per, cm, da⟩ := c
  obtain ⟨O, hO⟩ : ∃ O : Obj, O = .cells #[.bool al, .bool aa, vE, vR, vA, vP, .bool cm, .bool da] 26 := ⟨_, rfl⟩
  have hb1 : Below w.heap.size w (w.alloc O) := below_new12 w O
  have hz : w.heap.size < (w.alloc O).heap.size := by simp
  have hbx : Bx (w.alloc O) w.heap.size ⟨al, aa, els, reps, ats, per, cm, da⟩ vE vR vA vP := by rw [hO]; exact Bx.new w ⟨al, aa, els, reps, ats, per, cm, da⟩ vE vR vA vP
  have h0 := h.on hb1
  have hpl : per.length = l.length := by have := h.m; simp only at this; rw [← this, len_pes]
  have hl : l.length ≤ 1000 := by have := hs.p; simp only at this; omega
  have hlen : ∀ x ∈ l, x.pe.at_.length ≤ 1000000 := fun x hx => Nat.le_trans (hs.pa x.pe (by rw [← h.m]; exact List.mem_map.2 ⟨x, hx, rfl⟩)) (by omega)
  obtain ⟨e1, he1⟩ : ∃ b, meetB els reps = b := ⟨_, rfl⟩
  obtain ⟨e2, he2⟩ : ∃ b, meetSPB ats (pes l) = b := ⟨_, rfl⟩
  have hfin : (e1 || e2 || (da && !aa)) = q := by
    rw [← hq, ← he1, ← he2, meetSP_eq, h.m]
    show (meetB els reps || (per.any fun p => meetB p.at_ ats) || (da && !aa)) = (meetB els reps || (da && !aa) || per.any fun p => meetB p.at_ ats)
    rw [Bool.or_assoc, Bool.or_assoc, Bool.or_comm (per.any _)]
  have hls := hs.e; have hlr := hs.r; have hla := hs.a
  simp only at hls hlr hla
  have HE := Lib.hid (fun wx (hw : w.alloc O = wx) => meetSS vE vR wx.heap.size wx.heap.size els reps wx e1 (by subst hw; exact h0.e) (by subst hw; exact h0.r) (by omega) (by omega) he1)
  have HP := Lib.hid (fun wx (hw : w.alloc O = wx) => meetSP vA vP ats l wx e2 (by subst hw; exact h0.a) (by subst hw; exact h0.p) (by omega) (by omega) hlen he2)
  have H1 := Lib.hid (fun (wx : World) (hb : Below (w.alloc O).heap.size (w.alloc O) wx) => show wx.cell? ⟨w.heap.size, 1, none⟩ = some (.bool aa) ∧ wx.cell? ⟨w.heap.size, 7, none⟩ = some (.bool da) from ⟨(hbx.below hb hz).at_.2.1, (hbx.below hb hz).at_.2.2.2.2.2.2.2⟩)
  have HB1 := Lib.hid hb1; have HQ := Lib.hid hfin
  clear hq hfin hlen hs h h0 hpl hb1 hbx he1 he2 hls hlr hla
  subst hO
  cases e1 with
  | true =>
    go_enter Try.func51, Try.ntmps51
    go_wp2_with (go_at_call 90; refine (HE.out _ rfl).mono ?_; rintro r w3 ⟨rfl, rfl⟩)
    go_ret
    exact ⟨ret_bool (by rw [← HQ.out]; rfl), HB1.out⟩
  | false =>
    cases e2 with
    | true =>
      go_enter Try.func51, Try.ntmps51
      go_wp2_with (first
        | (go_at_call 90; refine (HE.out _ rfl).mono ?_; rintro r w3 ⟨rfl, rfl⟩)
        | (go_at_call 91; refine (HP.out _ rfl).mono ?_; rintro r w3 ⟨rfl, hb3⟩))
      go_ret
      exact ⟨ret_bool (by rw [← HQ.out]; rfl), bt HB1.out hb3⟩
    | false =>
      cases da with
      | true =>
        go_enter Try.func51, Try.ntmps51
        go_wp2_with (first
          | (go_at_call 90; refine (HE.out _ rfl).mono ?_; rintro r w3 ⟨rfl, rfl⟩)
          | (go_at_call 91; refine (HP.out _ rfl).mono ?_; rintro r w3 ⟨rfl, hb3⟩; obtain ⟨g1, g7⟩ := H1.out _ hb3))
        go_ret
        exact ⟨ret_bool (by rw [← HQ.out]; simp), bt HB1.out hb3⟩
      | false =>
        go_enter Try.func51, Try.ntmps51
        go_wp2_with (first
          | (go_at_call 90; refine (HE.out _ rfl).mono ?_; rintro r w3 ⟨rfl, rfl⟩)
          | (go_at_call 91; refine (HP.out _ rfl).mono ?_; rintro r w3 ⟨rfl, hb3⟩; obtain ⟨g1, g7⟩ := H1.out _ hb3))
        go_ret
        exact ⟨ret_bool (by rw [← HQ.out]; rfl), bt HB1.out hb3⟩
set_option maxRecDepth 100000 in
set_option maxHeartbeats 4000000 in
theorem check12 (v : Value) (c : Cf) (w : World) (q : Nat) (h : Cv w w.heap.size v c) (hs : Sm c) (hq : checkN c = q) :
    Calls Try.prog 21 #[v] w fun r w' => r = .returned (.int .i64 q) ∧ Below w.heap.size w w' := by
  obtain ⟨vE, vR, vA, vP, l, rfl, h⟩ := h
  obtain ⟨w0, hw0⟩ : ∃ w0, w.alloc (confO c vE vR vA vP) = w0 := ⟨_, rfl⟩
  have hb1 : Below w.heap.size w w0 := hw0 ▸ below_new12 w (confO c vE vR vA vP)
  have hbx : Bx w0 w.heap.size c vE vR vA vP := hw0 ▸ Bx.new w c vE vR vA vP
  have hz : w.heap.size < w0.heap.size := by rw [← hw0]; simp
  have hcv : Cv w0 w0.heap.size (confV c vE vR vA vP) c := ⟨vE, vR, vA, vP, l, rfl, h.on hb1⟩
  obtain ⟨e1, he1⟩ : ∃ b, bigB c = b := ⟨_, rfl⟩
  obtain ⟨e2, he2⟩ : ∃ b, (!namesB c) = b := ⟨_, rfl⟩
  obtain ⟨e3, he3⟩ : ∃ b, (!singleB c) = b := ⟨_, rfl⟩
  obtain ⟨e4, he4⟩ : ∃ b, bothB c = b := ⟨_, rfl⟩
  have hfin : (if e1 = true then 2 else if e2 = true then 121 else if e3 = true then 122 else if e4 = true then 120 else 0) = q := by
    rw [← hq, ← he1, ← he2, ← he3, ← he4]
    unfold checkN
    cases namesB c <;> cases singleB c <;> rfl
  have HBX := Lib.hid (fun wx (hb : Below w0.heap.size w0 wx) => (hbx.below hb hz).at_)
  have H1 := Lib.hid (fun wx hb => exceeds1 (confV c vE vR vA vP) c wx e1 (hcv.on hb) hs he1)
  have H2 := Lib.hid (fun wx hb => misnames1 (confV c vE vR vA vP) c wx e2 (hcv.on hb) hs he2)
  have H3 := Lib.hid (fun wx hb => repeats1 (confV c vE vR vA vP) c wx e3 (hcv.on hb) hs he3)
  have H4 := Lib.hid (fun wx hb => contradicts1 (confV c vE vR vA vP) c wx e4 (hcv.on hb) hs he4)
  have HW := Lib.hid hw0; have HB1 := Lib.hid hb1
  clear hq hs h hb1 hbx he1 he2 he3 he4 hw0 hcv
  go_enter Try.func21, Try.ntmps21
  go_wp2_with fail
  rw [HW.out]
  refine (H1.out _ (Below.refl _ _)).mono ?_
  rintro r w1 ⟨rfl, hb1⟩
  have HL1 := Lib.hid hb1
  obtain ⟨g0, g1, g2, g3, g4, g5, g6, g7⟩ := HBX.out w1 hb1
  clear hb1
  cases e1 with
  | true =>
    rw [if_pos rfl] at hfin
    subst hfin
    go_wp2
    go_ret
    exact ⟨rfl, HB1.out.trans (HL1.out.mono (Nat.le_of_lt hz))⟩
  | false =>
  rw [if_neg (by simp)] at hfin
  go_wp2_with fail
  refine (H2.out _ HL1.out).mono ?_
  rintro r w2 ⟨rfl, hb2⟩
  have HL2 := Lib.hid (HL1.out.trans (hb2.mono HL1.out.size))
  clear g0 g1 g2 g3 g4 g5 g6 g7 hb2
  obtain ⟨g0, g1, g2, g3, g4, g5, g6, g7⟩ := HBX.out w2 HL2.out
  cases e2 with
  | true =>
    rw [if_pos rfl] at hfin
    subst hfin
    go_wp2
    go_ret
    exact ⟨rfl, HB1.out.trans (HL2.out.mono (Nat.le_of_lt hz))⟩
  | false =>
  rw [if_neg (by simp)] at hfin
  go_wp2_with fail
  refine (H3.out _ HL2.out).mono ?_
  rintro r w3 ⟨rfl, hb3⟩
  have HL3 := Lib.hid (HL2.out.trans (hb3.mono HL2.out.size))
  clear g0 g1 g2 g3 g4 g5 g6 g7 hb3
  obtain ⟨g0, g1, g2, g3, g4, g5, g6, g7⟩ := HBX.out w3 HL3.out
  cases e3 with
  | true =>
    rw [if_pos rfl] at hfin
    subst hfin
    go_wp2
    go_ret
    exact ⟨rfl, HB1.out.trans (HL3.out.mono (Nat.le_of_lt hz))⟩
  | false =>
  rw [if_neg (by simp)] at hfin
  go_wp2_with fail
  refine (H4.out _ HL3.out).mono ?_
  rintro r w4 ⟨rfl, hb4⟩
  have HL4 := Lib.hid (HL3.out.trans (hb4.mono HL3.out.size))
  clear g0 g1 g2 g3 g4 g5 g6 g7 hb4
  cases e4 with
  | true =>
    rw [if_pos rfl] at hfin
    subst hfin
    go_wp2
    go_ret
    exact ⟨rfl, HB1.out.trans (HL4.out.mono (Nat.le_of_lt hz))⟩
  | false =>
    rw [if_neg (by simp)] at hfin
    subst hfin
    go_wp2
    go_ret
    exact ⟨rfl, HB1.out.trans (HL4.out.mono (Nat.le_of_lt hz))⟩

end Go.Proofs.Ytgjlfcamgkeibaa.Co
