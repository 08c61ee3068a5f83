/-
  Stage 11: a call of a script in memory; the laws' tells, for one kind of call.
  Stage 11: the laws' tells: Make, Clone, Load, and what is no call.
  Stage 11: the laws' tells: Make, Clone, Load, and what is no call.
  Stage 11: the program's document alone, among the blocks that are new since a world.
  Stage 11: calls whose answers the document fixes.
  Stage 11: the laws' fixed, walked.
  Stage 11: a script in memory; a document on which it was played.
  Stage 11: the program's document with its blocks named; rows of one's own are kept.
  Stage 11: the program's document and the reference's of the same nodes.
  Stage 11, in plain words: what a move leaves.
  Stage 11: ArenaMoves, walked.
  Stage 11, in plain words: what stands in the root is told by Rows once.
  Stage 11: ArenaWithin, walked.
  Stage 11: what answers an error changes no node.
  Stage 11: ArenaRefuses, walked.
  Stage 11: the laws' same, walked.
  Stage 11: ArenaDoes, walked.
  What a statement's row says of the sizes of strings that lie within slices of structs: each is no greater than the reach.
-/
import Derived.Test.YtmlchbohijolaaaCk05
import Derived.Test.YtmlchbohijolaaaCk07
import Derived.Test.YtmlchbohijolaaaCk03
import Derived.Test.YtmlchbohijolaaaCk02
import Derived.Deep.DeepCutAuto
import Derived.Deep.CutBlock
import Derived.Deep.RegionHeld3
import Derived.Test.YtmlchbohijolaaaCk04
import Derived.SizedLaws
namespace Go.Proofs.Ytmlchbohijolaaa.Ar
set_option maxRecDepth 100000
set_option linter.unusedSimpArgs false
set_option linter.unusedVariables false
open Go.RowKit Ba
open Ro (At Ro Cw ros Rr Ow Nw Fr Att Ap Sh Ra Rv Held cells acells below_new infoI info_row len_cells rowV rowO Few check right)
abbrev opV (o : Op11) : Value := .agg #[.int .i64 o.kind, .int .i64 o.node, .int .i64 o.other, .int .i64 o.at_, .int .i64 o.what, .string o.name, .string o.value, .slice o.A o.x.length o.c]
abbrev opO (o : Op11) : Obj := .cells #[.int .i64 o.kind, .int .i64 o.node, .int .i64 o.other, .int .i64 o.at_, .int .i64 o.what, .string o.name, .string o.value, .slice o.A o.x.length o.c] 33
/-- A call that can be read, its rows below block K. -/
structure OpOk (w : World) (K : Nat) (o : Op11) : Prop where
  cap : o.x.length ≤ o.c ∧ o.c ≤ maxLen
  rows : Rr w K o.A o.x
  held : Held (ros o.x)
  name : o.name.size ≤ 140737488355328
  what : -9223372036854775808 ≤ o.what ∧ o.what ≤ 9223372036854775807
def FU (F1 F2 : Nat → Prop) (b : Nat) : Prop := F1 b ∨ F2 b
section
variable {w w0 w1 w2 : World} {N p1 p2 : Nat} {F1 F2 F1' F2' : Nat → Prop} {M M2 M' M2' : List Nd}
theorem doc_mid (D1 : Doc12 w0 N F1 p1 M) (D2 : Doc11 w0 N F2 p2 M2) (hd : ∀ b, F1 b → ¬ F2 b) (n1 : Next w0 w1 F1 F1') : Doc11 w1 N F2 p2 M2 ∧ ∀ b, F1' b → ¬ F2 b := by
  refine ⟨?_, fun b hb hf => ?_⟩
  · obtain ⟨rk, gX, cX, gU, cU, gR, cR, lX, D⟩ := D2
    exact ⟨rk, gX, cX, gU, cU, gR, cR, lX, D.touch n1.1 fun b hf h1 => hd b h1 hf⟩
  · rcases n1.2.2 b hb with h | h
    · exact hd b h hf
    · have := D2.bd b hf
      omega
theorem doc_end (hb : Below w.heap.size w w0) (D2 : Doc11 w1 N F2 p2 M2) (n1 : Next w0 w1 F1 F1') (hd : ∀ b, F1' b → ¬ F2 b) (E1 : Doc12 w1 N F1' p1 M') (n2 : Next w1 w2 F2 F2') : Doc12 w2 N F1' p1 M' ∧ (∀ b, F1' b → ¬ F2' b) ∧ Next w w2 (FU F1 F2) (FU F1' F2') := by
  have hs1 := n1.1.size
  have hs2 := n2.1.size
  have hs0 := hb.size
  refine ⟨E1.touch n2.1 hd, fun b hb1 hf => ?_, ⟨⟨n2.1.os.trans (n1.1.os.trans hb.os), n2.1.tape.trans (n1.1.tape.trans hb.tape), n2.1.output.trans (n1.1.output.trans hb.output), by omega, fun b hlt hn => ?_⟩, fun b h => ?_, fun b h => ?_⟩⟩
  · rcases n2.2.2 b hf with h | h
    · exact hd b hb1 h
    · have := E1.bd b hb1
      omega
  · exact (n2.1.block b (by omega) fun h => hn (.inr h)).trans ((n1.1.block b (by omega) fun h => hn (.inl h)).trans (hb.block b hlt))
  · exact h.elim (fun h => .inl (n1.2.1 b h)) (fun h => .inr (n2.2.1 b h))
  · rcases h with h | h
    · rcases n1.2.2 b h with h | h
      · exact .inl (.inl h)
      · exact .inr (by omega)
    · rcases n2.2.2 b h with h | h
      · exact .inl (.inr h)
      · exact .inr (by omega)
end
def TellsSays (N p1 p2 : Nat) (F1 F2 : Nat → Prop) (M M2 : List Nd) (o : Op11) (w : World) : Prop :=
  Calls Try.prog 17 #[.pointer (some ⟨p1, 0, none⟩), .pointer (some ⟨p2, 0, none⟩), opV o] w fun e w' => ∃ b, e = .returned (.bool b) ∧ (M = M2 → b = true) ∧ ∃ F1' F2', Doc12 w' N F1' p1 (opM M o) ∧ Doc11 w' N F2' p2 (opM M2 o) ∧ (∀ b, F1' b → ¬ F2' b) ∧ Next w w' (FU F1 F2) (FU F1' F2')
/-- Two documents, apart. -/
structure Two (w : World) (N K p1 p2 : Nat) (F1 F2 : Nat → Prop) (B : Nat) (M M2 : List Nd) : Prop where
  d1 : Doc12 w N F1 p1 M
  d2 : Doc11 w N F2 p2 M2
  apart : ∀ b, F1 b → ¬ F2 b
  low1 : ∀ b, F1 b → K ≤ b
  low2 : ∀ b, F2 b → K ≤ b
  i1 : Inv B M
  i2 : Inv B M2
  l1 : M.length ≤ 1000
  l2 : M2.length ≤ 1000
  few : B ≤ 1000000
  hK : K ≤ w.heap.size
section
variable {w : World} {N K p1 p2 B : Nat} {F1 F2 : Nat → Prop} {M M2 : List Nd} {o : Op11}
theorem op_cells {w' : World} {h : Nat} (hb : w'.heap[h]? = some (opO o)) : w'.cell? ⟨h, 0, none⟩ = some (.int .i64 o.kind) ∧ w'.cell? ⟨h, 1, none⟩ = some (.int .i64 o.node) ∧ w'.cell? ⟨h, 2, none⟩ = some (.int .i64 o.other) ∧ w'.cell? ⟨h, 3, none⟩ = some (.int .i64 o.at_) ∧ w'.cell? ⟨h, 4, none⟩ = some (.int .i64 o.what) ∧ w'.cell? ⟨h, 5, none⟩ = some (.string o.name) ∧ w'.cell? ⟨h, 6, none⟩ = some (.string o.value) ∧ w'.cell? ⟨h, 7, none⟩ = some (.slice o.A o.x.length o.c) :=
  ⟨cell_of_row w' h 0 _ _ _ hb, cell_of_row w' h 1 _ _ _ hb, cell_of_row w' h 2 _ _ _ hb, cell_of_row w' h 3 _ _ _ hb, cell_of_row w' h 4 _ _ _ hb, cell_of_row w' h 5 _ _ _ hb, cell_of_row w' h 6 _ _ _ hb, cell_of_row w' h 7 _ _ _ hb⟩
set_option maxRecDepth 100000 in
set_option maxHeartbeats 4000000 in
theorem tells_ins (T : Two w N K p1 p2 F1 F2 B M M2) (O : OpOk w K o) (hk : o.kind = 2) : TellsSays N p1 p2 F1 F2 M M2 o w := by
  have e1 : ∀ L, opM L o = insM L o.node o.at_ o.other := fun L => by unfold opM; simp [hk]
  have hb0 := below_new w (opO o)
  have hbx := heap_alloc_new w (opO o)
  have hsz : w.heap.size < (w.alloc (opO o)).heap.size := by simp
  obtain ⟨w0, hw0⟩ : ∃ w0, w.alloc (opO o) = w0 := ⟨_, rfl⟩
  rw [hw0] at hb0 hbx hsz
  obtain ⟨c0, c1, c2, c3, c4, c5, c6, c7⟩ := op_cells hbx
  rw [hk] at c0
  have hnm := O.name
  have D1 := T.d1.below hb0
  have D2 := T.d2.below hb0
  have HP := Lib.hid (insertP1 o.node o.at_ o.other _ D1 T.i1.wf (by have := T.l1; omega))
  have HR := Lib.hid (fun (w1 : World) (F1' : Nat → Prop) (n1 : Next w0 w1 F1 F1') => refInsert1 o.node o.at_ o.other w1 (doc_mid D1 D2 T.apart n1).1 T.i2.wf (by have := T.l2; omega))
  have HX := Lib.hid (fun (w1 : World) (F1' : Nat → Prop) (n1 : Next w0 w1 F1 F1') => op_cells ((nx_block n1 (b := w.heap.size) hsz (fun h => Nat.lt_irrefl _ (T.d1.bd _ h))).1.trans hbx))
  have HT := Lib.hid T; have HD1 := Lib.hid D1; have HD2 := Lib.hid D2; have HB0 := Lib.hid hb0; have HE := Lib.hid e1
  have HW0 := Lib.hid hw0; have HKN := Lib.hid hk
  clear D1 D2 hb0 hbx e1 hw0 hk
  unfold TellsSays
  go_enter Try.func17, Try.ntmps17
  go_upto_region 1 with (fail)
  rw [HW0.out]
  go_wp2_with fail
  refine HP.out.mono ?_
  rintro e w1 ⟨rfl, F1', E1, N1⟩
  obtain ⟨_, d1, d2, d3, d4, d5, d6, d7⟩ := HX.out w1 F1' N1
  have HRR := Lib.hid (HR.out w1 F1' N1)
  obtain ⟨E2, hap⟩ := doc_mid HD1.out HD2.out HT.out.apart N1
  have HE1 := Lib.hid E1; have HN1 := Lib.hid N1; have HE2 := Lib.hid E2; have HAP := Lib.hid hap
  clear E1 N1 E2 hap c0 c1 c2 c3 c4 c5 c6 c7
  go_wp2_with fail
  refine HRR.out.mono ?_
  rintro e w2 ⟨rfl, F2', G2, N2⟩
  obtain ⟨G1, hap2, N12⟩ := doc_end HB0.out HE2.out HN1.out HAP.out HE1.out N2
  have HG1 := Lib.hid G1; have HG2 := Lib.hid G2; have HA2 := Lib.hid hap2; have HN12 := Lib.hid N12
  clear G1 G2 hap2 N12 N2
  go_wp2
  go_ret
  exact ⟨_, rfl, fun h => by subst h; simp, F1', F2', by rw [HE.out]; exact HG1.out, by rw [HE.out]; exact HG2.out, HA2.out, HN12.out⟩
set_option maxRecDepth 100000 in
set_option maxHeartbeats 4000000 in
theorem tells_rem (T : Two w N K p1 p2 F1 F2 B M M2) (O : OpOk w K o) (hk : o.kind = 3) : TellsSays N p1 p2 F1 F2 M M2 o w := by
  have e1 : ∀ L, opM L o = remM L o.node := fun L => by unfold opM; simp [hk]
  have hb0 := below_new w (opO o)
  have hbx := heap_alloc_new w (opO o)
  have hsz : w.heap.size < (w.alloc (opO o)).heap.size := by simp
  obtain ⟨w0, hw0⟩ : ∃ w0, w.alloc (opO o) = w0 := ⟨_, rfl⟩
  rw [hw0] at hb0 hbx hsz
  obtain ⟨c0, c1, c2, c3, c4, c5, c6, c7⟩ := op_cells hbx
  rw [hk] at c0
  obtain ⟨qa, hqa⟩ : ∃ qa : Int, (if 1 ≤ o.node ∧ o.node < M.length then (0 : Int) else 110) = qa := ⟨_, rfl⟩
  obtain ⟨qb, hqb⟩ : ∃ qb : Int, (if 1 ≤ o.node ∧ o.node < M2.length then (0 : Int) else 110) = qb := ⟨_, rfl⟩
  have HQA := Lib.hid hqa; have HQB := Lib.hid hqb
  have hnm := O.name
  have D1 := T.d1.below hb0
  have D2 := T.d2.below hb0
  have HP := Lib.hid (removeP1 o.node _ D1 T.i1.wf (by have := T.l1; omega) qa hqa)
  have HR := Lib.hid (fun (w1 : World) (F1' : Nat → Prop) (n1 : Next w0 w1 F1 F1') => refRemove1 o.node w1 (doc_mid D1 D2 T.apart n1).1 T.i2.wf (by have := T.l2; omega) qb hqb)
  have HX := Lib.hid (fun (w1 : World) (F1' : Nat → Prop) (n1 : Next w0 w1 F1 F1') => op_cells ((nx_block n1 (b := w.heap.size) hsz (fun h => Nat.lt_irrefl _ (T.d1.bd _ h))).1.trans hbx))
  have HT := Lib.hid T; have HD1 := Lib.hid D1; have HD2 := Lib.hid D2; have HB0 := Lib.hid hb0; have HE := Lib.hid e1
  have HW0 := Lib.hid hw0; have HKN := Lib.hid hk
  clear D1 D2 hb0 hbx e1 hw0 hk hqa hqb
  unfold TellsSays
  go_enter Try.func17, Try.ntmps17
  go_upto_region 1 with (fail)
  rw [HW0.out]
  go_wp2_with fail
  refine HP.out.mono ?_
  rintro e w1 ⟨rfl, F1', E1, N1⟩
  obtain ⟨_, d1, d2, d3, d4, d5, d6, d7⟩ := HX.out w1 F1' N1
  have HRR := Lib.hid (HR.out w1 F1' N1)
  obtain ⟨E2, hap⟩ := doc_mid HD1.out HD2.out HT.out.apart N1
  have HE1 := Lib.hid E1; have HN1 := Lib.hid N1; have HE2 := Lib.hid E2; have HAP := Lib.hid hap
  clear E1 N1 E2 hap c0 c1 c2 c3 c4 c5 c6 c7
  go_wp2_with fail
  refine HRR.out.mono ?_
  rintro e w2 ⟨rfl, F2', G2, N2⟩
  obtain ⟨G1, hap2, N12⟩ := doc_end HB0.out HE2.out HN1.out HAP.out HE1.out N2
  have HG1 := Lib.hid G1; have HG2 := Lib.hid G2; have HA2 := Lib.hid hap2; have HN12 := Lib.hid N12
  clear G1 G2 hap2 N12 N2
  go_wp2
  go_ret
  exact ⟨_, rfl, fun h => by subst h; (rw [← HQA.out, ← HQB.out]; simp), F1', F2', by rw [HE.out]; exact HG1.out, by rw [HE.out]; exact HG2.out, HA2.out, HN12.out⟩
set_option maxRecDepth 100000 in
set_option maxHeartbeats 4000000 in
theorem tells_attr (T : Two w N K p1 p2 F1 F2 B M M2) (O : OpOk w K o) (hk : o.kind = 5) : TellsSays N p1 p2 F1 F2 M M2 o w := by
  have e1 : ∀ L, opM L o = attrM11 L o.node o.name o.value := fun L => by unfold opM; simp [hk]
  have hb0 := below_new w (opO o)
  have hbx := heap_alloc_new w (opO o)
  have hsz : w.heap.size < (w.alloc (opO o)).heap.size := by simp
  obtain ⟨w0, hw0⟩ : ∃ w0, w.alloc (opO o) = w0 := ⟨_, rfl⟩
  rw [hw0] at hb0 hbx hsz
  obtain ⟨c0, c1, c2, c3, c4, c5, c6, c7⟩ := op_cells hbx
  rw [hk] at c0
  have hnm := O.name
  have D1 := T.d1.below hb0
  have D2 := T.d2.below hb0
  have HP := Lib.hid (attrP1 o.node o.name o.value _ D1 T.i1.good (T.i1.few T.few) hnm)
  have HR := Lib.hid (fun (w1 : World) (F1' : Nat → Prop) (n1 : Next w0 w1 F1 F1') => refAttr11 o.node o.name o.value w1 (doc_mid D1 D2 T.apart n1).1 T.i2.wf (by have := T.l2; omega) (T.i2.few T.few) hnm)
  have HX := Lib.hid (fun (w1 : World) (F1' : Nat → Prop) (n1 : Next w0 w1 F1 F1') => op_cells ((nx_block n1 (b := w.heap.size) hsz (fun h => Nat.lt_irrefl _ (T.d1.bd _ h))).1.trans hbx))
  have HT := Lib.hid T; have HD1 := Lib.hid D1; have HD2 := Lib.hid D2; have HB0 := Lib.hid hb0; have HE := Lib.hid e1
  have HW0 := Lib.hid hw0; have HKN := Lib.hid hk
  clear D1 D2 hb0 hbx e1 hw0 hk
  unfold TellsSays
  go_enter Try.func17, Try.ntmps17
  go_upto_region 1 with (fail)
  rw [HW0.out]
  go_wp2_with fail
  refine HP.out.mono ?_
  rintro e w1 ⟨rfl, F1', E1, N1⟩
  obtain ⟨_, d1, d2, d3, d4, d5, d6, d7⟩ := HX.out w1 F1' N1
  have HRR := Lib.hid (HR.out w1 F1' N1)
  obtain ⟨E2, hap⟩ := doc_mid HD1.out HD2.out HT.out.apart N1
  have HE1 := Lib.hid E1; have HN1 := Lib.hid N1; have HE2 := Lib.hid E2; have HAP := Lib.hid hap
  clear E1 N1 E2 hap c0 c1 c2 c3 c4 c5 c6 c7
  go_wp2_with fail
  refine HRR.out.mono ?_
  rintro e w2 ⟨rfl, F2', G2, N2⟩
  obtain ⟨G1, hap2, N12⟩ := doc_end HB0.out HE2.out HN1.out HAP.out HE1.out N2
  have HG1 := Lib.hid G1; have HG2 := Lib.hid G2; have HA2 := Lib.hid hap2; have HN12 := Lib.hid N12
  clear G1 G2 hap2 N12 N2
  go_wp2
  go_ret
  exact ⟨_, rfl, fun h => by subst h; simp, F1', F2', by rw [HE.out]; exact HG1.out, by rw [HE.out]; exact HG2.out, HA2.out, HN12.out⟩
set_option maxRecDepth 100000 in
set_option maxHeartbeats 4000000 in
theorem tells_drop (T : Two w N K p1 p2 F1 F2 B M M2) (O : OpOk w K o) (hk : o.kind = 6) : TellsSays N p1 p2 F1 F2 M M2 o w := by
  have e1 : ∀ L, opM L o = dropM11 L o.node o.name := fun L => by unfold opM; simp [hk]
  have hb0 := below_new w (opO o)
  have hbx := heap_alloc_new w (opO o)
  have hsz : w.heap.size < (w.alloc (opO o)).heap.size := by simp
  obtain ⟨w0, hw0⟩ : ∃ w0, w.alloc (opO o) = w0 := ⟨_, rfl⟩
  rw [hw0] at hb0 hbx hsz
  obtain ⟨c0, c1, c2, c3, c4, c5, c6, c7⟩ := op_cells hbx
  rw [hk] at c0
  have hnm := O.name
  have D1 := T.d1.below hb0
  have D2 := T.d2.below hb0
  have HP := Lib.hid (dropP1 o.node o.name _ D1 T.i1.good (T.i1.few T.few))
  have HR := Lib.hid (fun (w1 : World) (F1' : Nat → Prop) (n1 : Next w0 w1 F1 F1') => refDrop11 o.node o.name w1 (doc_mid D1 D2 T.apart n1).1 T.i2.wf (by have := T.l2; omega) (T.i2.few T.few))
  have HX := Lib.hid (fun (w1 : World) (F1' : Nat → Prop) (n1 : Next w0 w1 F1 F1') => op_cells ((nx_block n1 (b := w.heap.size) hsz (fun h => Nat.lt_irrefl _ (T.d1.bd _ h))).1.trans hbx))
  have HT := Lib.hid T; have HD1 := Lib.hid D1; have HD2 := Lib.hid D2; have HB0 := Lib.hid hb0; have HE := Lib.hid e1
  have HW0 := Lib.hid hw0; have HKN := Lib.hid hk
  clear D1 D2 hb0 hbx e1 hw0 hk
  unfold TellsSays
  go_enter Try.func17, Try.ntmps17
  go_upto_region 1 with (fail)
  rw [HW0.out]
  go_wp2_with fail
  refine HP.out.mono ?_
  rintro e w1 ⟨rfl, F1', E1, N1⟩
  obtain ⟨_, d1, d2, d3, d4, d5, d6, d7⟩ := HX.out w1 F1' N1
  have HRR := Lib.hid (HR.out w1 F1' N1)
  obtain ⟨E2, hap⟩ := doc_mid HD1.out HD2.out HT.out.apart N1
  have HE1 := Lib.hid E1; have HN1 := Lib.hid N1; have HE2 := Lib.hid E2; have HAP := Lib.hid hap
  clear E1 N1 E2 hap c0 c1 c2 c3 c4 c5 c6 c7
  go_wp2_with fail
  refine HRR.out.mono ?_
  rintro e w2 ⟨rfl, F2', G2, N2⟩
  obtain ⟨G1, hap2, N12⟩ := doc_end HB0.out HE2.out HN1.out HAP.out HE1.out N2
  have HG1 := Lib.hid G1; have HG2 := Lib.hid G2; have HA2 := Lib.hid hap2; have HN12 := Lib.hid N12
  clear G1 G2 hap2 N12 N2
  go_wp2
  go_ret
  exact ⟨_, rfl, fun h => by subst h; simp, F1', F2', by rw [HE.out]; exact HG1.out, by rw [HE.out]; exact HG2.out, HA2.out, HN12.out⟩
set_option maxRecDepth 100000 in
set_option maxHeartbeats 4000000 in
theorem tells_data (T : Two w N K p1 p2 F1 F2 B M M2) (O : OpOk w K o) (hk : o.kind = 7) : TellsSays N p1 p2 F1 F2 M M2 o w := by
  have e1 : ∀ L, opM L o = dataM L o.node o.value := fun L => by unfold opM; simp [hk]
  have hb0 := below_new w (opO o)
  have hbx := heap_alloc_new w (opO o)
  have hsz : w.heap.size < (w.alloc (opO o)).heap.size := by simp
  obtain ⟨w0, hw0⟩ : ∃ w0, w.alloc (opO o) = w0 := ⟨_, rfl⟩
  rw [hw0] at hb0 hbx hsz
  obtain ⟨c0, c1, c2, c3, c4, c5, c6, c7⟩ := op_cells hbx
  rw [hk] at c0
  have hnm := O.name
  have D1 := T.d1.below hb0
  have D2 := T.d2.below hb0
  have HP := Lib.hid (dataP1 o.node o.value _ D1)
  have HR := Lib.hid (fun (w1 : World) (F1' : Nat → Prop) (n1 : Next w0 w1 F1 F1') => refData1 o.node o.value w1 (doc_mid D1 D2 T.apart n1).1 T.i2.wf (by have := T.l2; omega) (T.i2.few T.few))
  have HX := Lib.hid (fun (w1 : World) (F1' : Nat → Prop) (n1 : Next w0 w1 F1 F1') => op_cells ((nx_block n1 (b := w.heap.size) hsz (fun h => Nat.lt_irrefl _ (T.d1.bd _ h))).1.trans hbx))
  have HT := Lib.hid T; have HD1 := Lib.hid D1; have HD2 := Lib.hid D2; have HB0 := Lib.hid hb0; have HE := Lib.hid e1
  have HW0 := Lib.hid hw0; have HKN := Lib.hid hk
  clear D1 D2 hb0 hbx e1 hw0 hk
  unfold TellsSays
  go_enter Try.func17, Try.ntmps17
  go_upto_region 1 with (fail)
  rw [HW0.out]
  go_wp2_with fail
  refine HP.out.mono ?_
  rintro e w1 ⟨rfl, F1', E1, N1⟩
  obtain ⟨_, d1, d2, d3, d4, d5, d6, d7⟩ := HX.out w1 F1' N1
  have HRR := Lib.hid (HR.out w1 F1' N1)
  obtain ⟨E2, hap⟩ := doc_mid HD1.out HD2.out HT.out.apart N1
  have HE1 := Lib.hid E1; have HN1 := Lib.hid N1; have HE2 := Lib.hid E2; have HAP := Lib.hid hap
  clear E1 N1 E2 hap c0 c1 c2 c3 c4 c5 c6 c7
  go_wp2_with fail
  refine HRR.out.mono ?_
  rintro e w2 ⟨rfl, F2', G2, N2⟩
  obtain ⟨G1, hap2, N12⟩ := doc_end HB0.out HE2.out HN1.out HAP.out HE1.out N2
  have HG1 := Lib.hid G1; have HG2 := Lib.hid G2; have HA2 := Lib.hid hap2; have HN12 := Lib.hid N12
  clear G1 G2 hap2 N12 N2
  go_wp2
  go_ret
  exact ⟨_, rfl, fun h => by subst h; simp, F1', F2', by rw [HE.out]; exact HG1.out, by rw [HE.out]; exact HG2.out, HA2.out, HN12.out⟩
end
end Go.Proofs.Ytmlchbohijolaaa.Ar

namespace Go.Proofs.Ytmlchbohijolaaa.Ar
set_option maxRecDepth 100000
set_option linter.unusedSimpArgs false
set_option linter.unusedVariables false
open Go.RowKit Ba
open Ro (At Ro Cw ros Rr Ow Nw Fr Att Ap Sh Ra Rv Held cells acells below_new infoI info_row len_cells rowV rowO Few check right)
section
variable {w : World} {N K p1 p2 B : Nat} {F1 F2 : Nat → Prop} {M M2 : List Nd} {o : Op11}
set_option maxRecDepth 100000 in
set_option maxHeartbeats 4000000 in
theorem tells_make (T : Two w N K p1 p2 F1 F2 B M M2) (O : OpOk w K o) (hk : o.kind = 0) : TellsSays N p1 p2 F1 F2 M M2 o w := by
  have e1 : ∀ L, opM L o = makeM L o.what o.name o.value := fun L => by unfold opM; simp [hk]
  have hb0 := below_new w (opO o)
  have hbx := heap_alloc_new w (opO o)
  have hsz : w.heap.size < (w.alloc (opO o)).heap.size := by simp
  obtain ⟨w0, hw0⟩ : ∃ w0, w.alloc (opO o) = w0 := ⟨_, rfl⟩
  rw [hw0] at hb0 hbx hsz
  obtain ⟨c0, c1, c2, c3, c4, c5, c6, c7⟩ := op_cells hbx
  rw [hk] at c0
  have hnm := O.name
  have D1 := T.d1.below hb0
  have D2 := T.d2.below hb0
  have hp := makeP1 o.what o.name o.value w0 D1 (by have := T.l1; omega) hnm
  have hr := fun (w1 : World) (F1' : Nat → Prop) (n1 : Next w0 w1 F1 F1') => refMake1 o.what o.name o.value w1 (doc_mid D1 D2 T.apart n1).1 T.i2.wf (by have := T.l2; omega) hnm O.what
  obtain ⟨ra, hra⟩ : ∃ ra, makeE M o.what o.name o.value = ra := ⟨_, rfl⟩
  obtain ⟨rb, hrb⟩ : ∃ rb, makeE M2 o.what o.name o.value = rb := ⟨_, rfl⟩
  rw [hra] at hp
  rw [hrb] at hr
  obtain ⟨a1, b1⟩ := ra
  obtain ⟨a2, b2⟩ := rb
  have HP := Lib.hid hp; have HR := Lib.hid hr; have HRA := Lib.hid hra; have HRB := Lib.hid hrb
  have HX := Lib.hid (fun (w1 : World) (F1' : Nat → Prop) (n1 : Next w0 w1 F1 F1') => op_cells ((nx_block n1 (b := w.heap.size) hsz (fun h => Nat.lt_irrefl _ (T.d1.bd _ h))).1.trans hbx))
  have HT := Lib.hid T; have HD1 := Lib.hid D1; have HD2 := Lib.hid D2; have HB0 := Lib.hid hb0; have HE := Lib.hid e1
  have HW0 := Lib.hid hw0; have HKN := Lib.hid hk
  clear D1 D2 hb0 hbx e1 hw0 hk hp hr hra hrb
  unfold TellsSays
  by_cases hab : a1 = a2
  · subst hab
    go_enter Try.func17, Try.ntmps17
    go_upto_region 1 with (fail)
    rw [HW0.out]
    go_wp2_with fail
    refine HP.out.mono ?_
    rintro e w1 ⟨rfl, F1', E1, N1⟩
    obtain ⟨_, d1, d2, d3, d4, d5, d6, d7⟩ := HX.out w1 F1' N1
    have HRR := Lib.hid (HR.out w1 F1' N1)
    obtain ⟨E2, hap⟩ := doc_mid HD1.out HD2.out HT.out.apart N1
    have HE1 := Lib.hid E1; have HN1 := Lib.hid N1; have HE2 := Lib.hid E2; have HAP := Lib.hid hap
    clear E1 N1 E2 hap c0 c1 c2 c3 c4 c5 c6 c7
    go_wp2_with fail
    refine HRR.out.mono ?_
    rintro e w2 ⟨rfl, F2', G2, N2⟩
    obtain ⟨G1, hap2, N12⟩ := doc_end HB0.out HE2.out HN1.out HAP.out HE1.out N2
    have HG1 := Lib.hid G1; have HG2 := Lib.hid G2; have HA2 := Lib.hid hap2; have HN12 := Lib.hid N12
    clear G1 G2 hap2 N12 N2
    go_wp2
    go_ret
    refine ⟨_, rfl, fun h => ?_, F1', F2', by rw [HE.out]; exact HG1.out, by rw [HE.out]; exact HG2.out, HA2.out, HN12.out⟩
    subst h
    have h3 := HRA.out.symm.trans HRB.out
    injection h3 with _ h3
    simp [h3]
  · have hbf : (a1 == a2) = false := by simpa using hab
    go_enter Try.func17, Try.ntmps17
    go_upto_region 1 with (fail)
    rw [HW0.out]
    go_wp2_with fail
    refine HP.out.mono ?_
    rintro e w1 ⟨rfl, F1', E1, N1⟩
    obtain ⟨_, d1, d2, d3, d4, d5, d6, d7⟩ := HX.out w1 F1' N1
    have HRR := Lib.hid (HR.out w1 F1' N1)
    obtain ⟨E2, hap⟩ := doc_mid HD1.out HD2.out HT.out.apart N1
    have HE1 := Lib.hid E1; have HN1 := Lib.hid N1; have HE2 := Lib.hid E2; have HAP := Lib.hid hap
    clear E1 N1 E2 hap c0 c1 c2 c3 c4 c5 c6 c7
    go_wp2_with fail
    refine HRR.out.mono ?_
    rintro e w2 ⟨rfl, F2', G2, N2⟩
    obtain ⟨G1, hap2, N12⟩ := doc_end HB0.out HE2.out HN1.out HAP.out HE1.out N2
    have HG1 := Lib.hid G1; have HG2 := Lib.hid G2; have HA2 := Lib.hid hap2; have HN12 := Lib.hid N12
    clear G1 G2 hap2 N12 N2
    go_wp2
    go_ret
    refine ⟨_, rfl, fun h => ?_, F1', F2', by rw [HE.out]; exact HG1.out, by rw [HE.out]; exact HG2.out, HA2.out, HN12.out⟩
    subst h
    have h3 := HRA.out.symm.trans HRB.out
    injection h3 with h3 _
    exact absurd h3 hab
set_option maxRecDepth 100000 in
set_option maxHeartbeats 4000000 in
theorem tells_clone (T : Two w N K p1 p2 F1 F2 B M M2) (O : OpOk w K o) (hk : o.kind = 4) : TellsSays N p1 p2 F1 F2 M M2 o w := by
  have e1 : ∀ L, opM L o = cloneM L o.node := fun L => by unfold opM; simp [hk]
  have hb0 := below_new w (opO o)
  have hbx := heap_alloc_new w (opO o)
  have hsz : w.heap.size < (w.alloc (opO o)).heap.size := by simp
  obtain ⟨w0, hw0⟩ : ∃ w0, w.alloc (opO o) = w0 := ⟨_, rfl⟩
  rw [hw0] at hb0 hbx hsz
  obtain ⟨c0, c1, c2, c3, c4, c5, c6, c7⟩ := op_cells hbx
  rw [hk] at c0
  have hnm := O.name
  have D1 := T.d1.below hb0
  have D2 := T.d2.below hb0
  have hp := cloneP1 o.node w0 D1 T.i1.wf T.l1 (T.i1.few T.few) (good_right T.i1.wf T.i1.good _)
  have hr := fun (w1 : World) (F1' : Nat → Prop) (n1 : Next w0 w1 F1 F1') => refClone11 o.node w1 (doc_mid D1 D2 T.apart n1).1 T.i2.wf T.l2 (T.i2.few T.few) (good_right T.i2.wf T.i2.good _)
  obtain ⟨ra, hra⟩ : ∃ ra, cloneE M o.node = ra := ⟨_, rfl⟩
  obtain ⟨rb, hrb⟩ : ∃ rb, cloneE M2 o.node = rb := ⟨_, rfl⟩
  rw [hra] at hp
  rw [hrb] at hr
  obtain ⟨a1, b1⟩ := ra
  obtain ⟨a2, b2⟩ := rb
  have HP := Lib.hid hp; have HR := Lib.hid hr; have HRA := Lib.hid hra; have HRB := Lib.hid hrb
  have HX := Lib.hid (fun (w1 : World) (F1' : Nat → Prop) (n1 : Next w0 w1 F1 F1') => op_cells ((nx_block n1 (b := w.heap.size) hsz (fun h => Nat.lt_irrefl _ (T.d1.bd _ h))).1.trans hbx))
  have HT := Lib.hid T; have HD1 := Lib.hid D1; have HD2 := Lib.hid D2; have HB0 := Lib.hid hb0; have HE := Lib.hid e1
  have HW0 := Lib.hid hw0; have HKN := Lib.hid hk
  clear D1 D2 hb0 hbx e1 hw0 hk hp hr hra hrb
  unfold TellsSays
  by_cases hab : a1 = a2
  · subst hab
    go_enter Try.func17, Try.ntmps17
    go_upto_region 1 with (fail)
    rw [HW0.out]
    go_wp2_with fail
    refine HP.out.mono ?_
    rintro e w1 ⟨rfl, F1', E1, N1⟩
    obtain ⟨_, d1, d2, d3, d4, d5, d6, d7⟩ := HX.out w1 F1' N1
    have HRR := Lib.hid (HR.out w1 F1' N1)
    obtain ⟨E2, hap⟩ := doc_mid HD1.out HD2.out HT.out.apart N1
    have HE1 := Lib.hid E1; have HN1 := Lib.hid N1; have HE2 := Lib.hid E2; have HAP := Lib.hid hap
    clear E1 N1 E2 hap c0 c1 c2 c3 c4 c5 c6 c7
    go_wp2_with fail
    refine HRR.out.mono ?_
    rintro e w2 ⟨rfl, F2', G2, N2⟩
    obtain ⟨G1, hap2, N12⟩ := doc_end HB0.out HE2.out HN1.out HAP.out HE1.out N2
    have HG1 := Lib.hid G1; have HG2 := Lib.hid G2; have HA2 := Lib.hid hap2; have HN12 := Lib.hid N12
    clear G1 G2 hap2 N12 N2
    go_wp2
    go_ret
    refine ⟨_, rfl, fun h => ?_, F1', F2', by rw [HE.out]; exact HG1.out, by rw [HE.out]; exact HG2.out, HA2.out, HN12.out⟩
    subst h
    have h3 := HRA.out.symm.trans HRB.out
    injection h3 with _ h3
    simp [h3]
  · have hbf : (a1 == a2) = false := by simpa using hab
    go_enter Try.func17, Try.ntmps17
    go_upto_region 1 with (fail)
    rw [HW0.out]
    go_wp2_with fail
    refine HP.out.mono ?_
    rintro e w1 ⟨rfl, F1', E1, N1⟩
    obtain ⟨_, d1, d2, d3, d4, d5, d6, d7⟩ := HX.out w1 F1' N1
    have HRR := Lib.hid (HR.out w1 F1' N1)
    obtain ⟨E2, hap⟩ := doc_mid HD1.out HD2.out HT.out.apart N1
    have HE1 := Lib.hid E1; have HN1 := Lib.hid N1; have HE2 := Lib.hid E2; have HAP := Lib.hid hap
    clear E1 N1 E2 hap c0 c1 c2 c3 c4 c5 c6 c7
    go_wp2_with fail
    refine HRR.out.mono ?_
    rintro e w2 ⟨rfl, F2', G2, N2⟩
    obtain ⟨G1, hap2, N12⟩ := doc_end HB0.out HE2.out HN1.out HAP.out HE1.out N2
    have HG1 := Lib.hid G1; have HG2 := Lib.hid G2; have HA2 := Lib.hid hap2; have HN12 := Lib.hid N12
    clear G1 G2 hap2 N12 N2
    go_wp2
    go_ret
    refine ⟨_, rfl, fun h => ?_, F1', F2', by rw [HE.out]; exact HG1.out, by rw [HE.out]; exact HG2.out, HA2.out, HN12.out⟩
    subst h
    have h3 := HRA.out.symm.trans HRB.out
    injection h3 with h3 _
    exact absurd h3 hab
set_option maxRecDepth 100000 in
set_option maxHeartbeats 4000000 in
theorem tells_other (T : Two w N K p1 p2 F1 F2 B M M2) (O : OpOk w K o) (hk : ¬ o.kind = 0 ∧ ¬ o.kind = 1 ∧ ¬ o.kind = 2 ∧ ¬ o.kind = 3 ∧ ¬ o.kind = 4 ∧ ¬ o.kind = 5 ∧ ¬ o.kind = 6 ∧ ¬ o.kind = 7) : TellsSays N p1 p2 F1 F2 M M2 o w := by
  obtain ⟨k0, k1, k2, k3, k4, k5, k6, k7⟩ := hk
  have e1 : ∀ L, opM L o = L := fun L => by unfold opM; simp [k0, k1, k2, k3, k4, k5, k6, k7]
  have hb0 := below_new w (opO o)
  have hbx := heap_alloc_new w (opO o)
  obtain ⟨w0, hw0⟩ : ∃ w0, w.alloc (opO o) = w0 := ⟨_, rfl⟩
  rw [hw0] at hb0 hbx
  obtain ⟨c0, _, _, _, _, _, _, _⟩ := op_cells hbx
  obtain ⟨kd, hkd⟩ : ∃ kd, o.kind = kd := ⟨_, rfl⟩
  rw [hkd] at c0 k0 k1 k2 k3 k4 k5 k6 k7
  have b0 : (kd == 0) = false := by simpa using k0
  have b1 : (kd == 1) = false := by simpa using k1
  have b2 : (kd == 2) = false := by simpa using k2
  have b3 : (kd == 3) = false := by simpa using k3
  have b4 : (kd == 4) = false := by simpa using k4
  have b5 : (kd == 5) = false := by simpa using k5
  have b6 : (kd == 6) = false := by simpa using k6
  have b7 : (kd == 7) = false := by simpa using k7
  have HB0 := Lib.hid hb0; have HE := Lib.hid e1; have HW0 := Lib.hid hw0; have HT := Lib.hid T
  clear hb0 hbx e1 hw0 hkd T
  unfold TellsSays
  go_enter Try.func17, Try.ntmps17
  go_upto_region 1 with (fail)
  rw [HW0.out]
  go_wp2
  go_ret
  exact ⟨_, rfl, fun _ => rfl, F1, F2, by rw [HE.out]; exact HT.out.d1.below HB0.out, by rw [HE.out]; exact HT.out.d2.below HB0.out, HT.out.apart, Next.of_below HB0.out⟩
end
end Go.Proofs.Ytmlchbohijolaaa.Ar

namespace Go.Proofs.Ytmlchbohijolaaa.Ar
set_option maxRecDepth 100000
set_option linter.unusedSimpArgs false
set_option linter.unusedVariables false
open Go.RowKit Ba
open Ro (At Ro Cw ros Rr Ow Nw Fr Att Ap Sh Ra Rv Held cells acells below_new infoI info_row len_cells rowV rowO Few check right)
section
variable {w : World} {N K p1 p2 B : Nat} {F1 F2 : Nat → Prop} {M M2 : List Nd} {o : Op11}
theorem op_rows {w' : World} (O : OpOk w K o) (hb : Below K w w') (hK : K ≤ w.heap.size) : Rr w' K o.A o.x := O.rows.below hb
/-- The call's trees stay as they are where only a document is touched. -/
theorem rv_trees {F : Nat → Prop} {L : Nat} {w1 w2 : World} {v : Value} {l : List Cw} (ho : Ow L w1 v l) (hat : ∀ x ∈ l, Att w1 K x) (hh : Held (ros l)) (hF : ∀ b, F b → K ≤ b ∧ b < L) (t : Touch F w1 w2) : Rv w2 v l := by
  obtain ⟨A, c, rfl, hc, hcm, _, hrr⟩ := ho.form
  refine ⟨A, c, rfl, hc, hcm, ⟨fun h0 => ?_, fun x hx => ?_⟩, hh⟩
  · obtain ⟨b, off, he, hb, hcell⟩ := hrr.1 h0
    have hLb : L ≤ b := own_blk ho.1 (by rw [he]; rfl)
    refine ⟨b, off, he, Nat.lt_of_lt_of_le hb t.size, fun j hj i u hu => ?_⟩
    rw [← hcell j hj i u hu]
    exact World.cell?_of_block (a := ⟨b, off + j * 5 + i, none⟩) (t.block b hb fun hf => by have := hF b hf; omega)
  · have h1 := hat x hx
    have h2 := hrr.2 x hx
    refine ⟨h1.1, h1.2.1, h1.2.2.1, fun h0 => ?_, h1.2.2.2.2⟩
    obtain ⟨b, off, he, hb, hcell⟩ := h1.2.2.2.1 h0
    obtain ⟨b', off', he', hb', _⟩ := h2.2.2.2.1 h0
    rw [he] at he'
    injection he' with he'
    injection he' with he1 _
    subst he1
    refine ⟨b, off, he, Nat.lt_of_lt_of_le hb' t.size, fun j hj i u hu => ?_⟩
    rw [← hcell j hj i u hu]
    exact World.cell?_of_block (a := ⟨b, off + j * 2 + i, none⟩) (t.block b hb' fun hf => by have := hF b hf; omega)
theorem held_cut {l : List Ro} (h : Held l) : Held (cut12 l) := fun x hx => by
  obtain ⟨y, hy, rfl⟩ := List.mem_map.1 hx
  exact h y (List.mem_of_mem_take hy)
theorem few_cut (l : List Ro) : Few (cut12 l) := fun x hx => Nat.le_trans (cut12_attrs l x hx) (by decide)
set_option maxRecDepth 100000 in
set_option maxHeartbeats 4000000 in
theorem tells_load (T : Two w N K p1 p2 F1 F2 B M M2) (O : OpOk w K o) (hk : o.kind = 1) : TellsSays N p1 p2 F1 F2 M M2 o w := by
  obtain ⟨R, hR⟩ : ∃ R, cut12 (ros o.x) = R := ⟨_, rfl⟩
  have e1 : ∀ L, opM L o = loadM L R := fun L => by unfold opM; simp [hk, hR]
  have hb0 := below_new w (opO o)
  have hbx := heap_alloc_new w (opO o)
  have hsz : w.heap.size < (w.alloc (opO o)).heap.size := by simp
  obtain ⟨w0, hw0⟩ : ∃ w0, w.alloc (opO o) = w0 := ⟨_, rfl⟩
  rw [hw0] at hb0 hbx hsz
  obtain ⟨c0, c1, c2, c3, c4, c5, c6, c7⟩ := op_cells hbx
  rw [hk] at c0
  have hRl : R.length ≤ 12 := by rw [← hR]; exact cut12_len _
  have hRh : Held R := by rw [← hR]; exact held_cut O.held
  have hRf : Few R := by rw [← hR]; exact few_cut _
  have htr1 := trees1 K o.A o.c o.x w0 (op_rows O (hb0.mono T.hK) T.hK) (Nat.le_trans T.hK hb0.size) O.cap.1 O.cap.2
  rw [hR] at htr1
  have HTR := Lib.hid htr1
  have HR := Lib.hid hR; have HRH := Lib.hid hRh; have HRF := Lib.hid hRf; have HBX := Lib.hid hbx; have HO := Lib.hid O
  have HT := Lib.hid T; have HB0 := Lib.hid hb0; have HE := Lib.hid e1
  have HW0 := Lib.hid hw0; have HKN := Lib.hid hk
  obtain ⟨ea, hea⟩ : ∃ ea, loadE M R = ea := ⟨_, rfl⟩
  obtain ⟨eb, heb⟩ : ∃ eb, loadE M2 R = eb := ⟨_, rfl⟩
  have HEA := Lib.hid hea; have HEB := Lib.hid heb
  clear hb0 hbx e1 hw0 hk htr1 hR hRh hRf O T hea heb
  unfold TellsSays
  go_enter Try.func17, Try.ntmps17
  go_upto_region 1 with (fail)
  rw [HW0.out]
  go_wp2_with fail
  refine HTR.out.mono ?_
  rintro e w1 ⟨v1, y1, rfl, ho1, ha1, hr1, hb1⟩
  have hF1 : ∀ b, F1 b → K ≤ b ∧ b < w0.heap.size := fun b hb => ⟨HT.out.low1 b hb, Nat.lt_of_lt_of_le (HT.out.d1.bd b hb) HB0.out.size⟩
  have hF2 : ∀ b, F2 b → K ≤ b ∧ b < w0.heap.size := fun b hb => ⟨HT.out.low2 b hb, Nat.lt_of_lt_of_le (HT.out.d2.bd b hb) HB0.out.size⟩
  have hl1 : y1.length ≤ 12 := by rw [← Ro.len_ros, hr1]; exact hRl
  have hld := loadP1 (p := p1) (N := N) (F := F1) (M := M) v1 y1 w1 (HT.out.d1.below (bt HB0.out hb1)) HT.out.i1.wf (by have := HT.out.l1; omega) (fun w' t => rv_trees ho1 ha1 (by rw [hr1]; exact HRH.out) hF1 t) (by omega) (by rw [hr1]; exact HRF.out)
  rw [hr1, HEA.out] at hld
  have hy1 : y1.length = R.length := by rw [← Ro.len_ros, hr1]
  rw [hy1] at hld
  have HLD := Lib.hid hld
  have HB1 := Lib.hid (bt HB0.out hb1); have HB01 := Lib.hid hb1
  clear hld ho1 ha1 hr1 hb1 HTR hy1 hl1
  go_wp2_with fail
  refine HLD.out.mono ?_
  rintro e w2 ⟨u1, rfl, hn1, F1', E1, N1, hf1⟩
  have hbx2 := ((nx_block N1 (b := w.heap.size) (by have := HB01.out.size; omega) (fun h => Nat.lt_irrefl _ (HT.out.d1.bd _ h))).1.trans ((HB01.out.block _ hsz).trans HBX.out))
  obtain ⟨_, d1, d2, d3, d4, d5, d6, d7⟩ := op_cells hbx2
  have D1w1 := HT.out.d1.below HB1.out
  have D2w1 := HT.out.d2.below HB1.out
  obtain ⟨E2, hap⟩ := doc_mid D1w1 D2w1 HT.out.apart N1
  have hbK2 : Below K w w2 := by
    have h1 := HB1.out
    refine ⟨N1.1.os.trans h1.os, N1.1.tape.trans h1.tape, N1.1.output.trans h1.output, Nat.le_trans h1.size N1.1.size, fun b hb => ?_⟩
    have := HT.out.hK
    exact (N1.1.block b (by have := h1.size; omega) (fun hf => by have := HT.out.low1 b hf; omega)).trans (h1.block b (by omega))
  have htr2 := trees1 K o.A o.c o.x w2 (op_rows HO.out hbK2 HT.out.hK) (Nat.le_trans HT.out.hK hbK2.size) HO.out.cap.1 HO.out.cap.2
  rw [HR.out] at htr2
  have HTR2 := Lib.hid htr2
  have HN1 := Lib.hid N1; have HE1 := Lib.hid E1; have HE2 := Lib.hid E2; have HAP := Lib.hid hap; have HU1 := Lib.hid hn1; have HF1 := Lib.hid hf1
  clear hbx2 N1 E1 E2 hap hn1 hf1 htr2 hbK2 D1w1 D2w1 HLD c0 c1 c2 c3 c4 c5 c6 c7
  go_wp2_with fail
  refine HTR2.out.mono ?_
  rintro e w3 ⟨v2, y2, rfl, ho2, ha2, hr2, hb2⟩
  have hl2 : y2.length ≤ 12 := by rw [← Ro.len_ros, hr2]; exact hRl
  have hs12 := HN1.out.1.size
  have hs01 := HB01.out.size
  have hld2 := refLoad11 (p := p2) (N := N) (F := F2) (M := M2) v2 y2 w3 (HE2.out.below hb2) HT.out.i2.wf (by have := HT.out.l2; omega) (fun w' t => rv_trees ho2 ha2 (by rw [hr2]; exact HRH.out) (fun b hb => ⟨(hF2 b hb).1, by have := (hF2 b hb).2; omega⟩) t) (by omega) (by rw [hr2]; exact HRF.out)
  rw [hr2, HEB.out] at hld2
  have hy2 : y2.length = R.length := by rw [← Ro.len_ros, hr2]
  rw [hy2] at hld2
  have HLD2 := Lib.hid hld2
  have HB2 := Lib.hid hb2
  clear hld2 ho2 ha2 hr2 hb2 HTR2 hy2 hl2
  go_wp2_with fail
  refine HLD2.out.mono ?_
  rintro e w4 ⟨u2, rfl, hn2, F2', G2, N2, hf2⟩
  obtain ⟨l1, hl1⟩ : ∃ l1, (if ea = 0 then rootsTo M.length (parI R) R.length else []) = l1 := ⟨_, rfl⟩
  obtain ⟨l2, hl2⟩ : ∃ l2, (if eb = 0 then rootsTo M2.length (parI R) R.length else []) = l2 := ⟨_, rfl⟩
  have hu1 := HU1.out
  rw [hl1] at hu1
  rw [hl2] at hn2
  have hu14 : Nw w1.heap.size w4 u1 l1 := nw_touch (hu1.below HB2.out) N2.1 fun b hb hf => by
    have h1 := (owns_lt hu1 hb).1
    have h2 := (hF2 b hf).2
    omega
  have hb3 := HB2.out.size
  have n13 := HN1.out.trans (Next.of_below HB2.out)
  obtain ⟨G1, hap2, N12⟩ := doc_end HB1.out (HE2.out.below HB2.out) n13 HAP.out (HE1.out.below HB2.out) N2
  have HG1 := Lib.hid G1; have HG2 := Lib.hid G2; have HA2 := Lib.hid hap2; have HN12 := Lib.hid N12
  obtain ⟨q, hq⟩ : ∃ q, decide (l1 = l2) = q := ⟨_, rfl⟩
  have HNU := Lib.hid (nums1 w4 hu14 hn2 q hq)
  have HQ := Lib.hid hq; have HL1 := Lib.hid hl1; have HL2 := Lib.hid hl2
  clear hu1 hn2 hu14 hb3 n13 G1 G2 hap2 N12 N2 hf2 hq hl1 hl2 HLD2 hF1 hF2 hs12 hs01
  have fin : ∀ (w5 : World), Below w4.heap.size w4 w5 → ∃ F1' F2', Doc12 w5 N F1' p1 (opM M o) ∧ Doc11 w5 N F2' p2 (opM M2 o) ∧ (∀ b, F1' b → ¬ F2' b) ∧ Next w w5 (FU F1 F2) (FU F1' F2') := fun w5 hb => by
    refine ⟨F1', F2', ?_, ?_, HA2.out, HN12.out.trans (Next.of_below hb)⟩
    · rw [HE.out]
      unfold loadM
      rw [HEA.out]
      exact HG1.out.below hb
    · rw [HE.out]
      unfold loadM
      rw [HEB.out]
      exact HG2.out.below hb
  have FIN := Lib.hid fin
  clear fin
  cases q with
  | true =>
    go_wp2_with fail
    refine HNU.out.mono ?_
    rintro e w5 ⟨rfl, hb5⟩
    have HB5 := Lib.hid hb5
    clear hb5
    go_wp2
    go_ret
    refine ⟨_, rfl, fun h => ?_, FIN.out _ HB5.out⟩
    subst h
    have h3 := HEA.out.symm.trans HEB.out
    simp [h3]
  | false =>
    go_wp2_with fail
    refine HNU.out.mono ?_
    rintro e w5 ⟨rfl, hb5⟩
    have HB5 := Lib.hid hb5
    clear hb5
    go_wp2
    go_ret
    refine ⟨_, rfl, fun h => ?_, FIN.out _ HB5.out⟩
    subst h
    have h3 := HEA.out.symm.trans HEB.out
    have h4 := of_decide_eq_false HQ.out
    exact absurd (by rw [← HL1.out, ← HL2.out, h3]) h4
theorem tells1 (T : Two w N K p1 p2 F1 F2 B M M2) (O : OpOk w K o) : TellsSays N p1 p2 F1 F2 M M2 o w := by
  by_cases k0 : o.kind = 0
  · exact tells_make T O k0
  by_cases k1 : o.kind = 1
  · exact tells_load T O k1
  by_cases k2 : o.kind = 2
  · exact tells_ins T O k2
  by_cases k3 : o.kind = 3
  · exact tells_rem T O k3
  by_cases k4 : o.kind = 4
  · exact tells_clone T O k4
  by_cases k5 : o.kind = 5
  · exact tells_attr T O k5
  by_cases k6 : o.kind = 6
  · exact tells_drop T O k6
  by_cases k7 : o.kind = 7
  · exact tells_data T O k7
  exact tells_other T O ⟨k0, k1, k2, k3, k4, k5, k6, k7⟩
end
end Go.Proofs.Ytmlchbohijolaaa.Ar

namespace Go.Proofs.Ytmlchbohijolaaa.Ar
set_option maxRecDepth 100000
set_option linter.unusedSimpArgs false
set_option linter.unusedVariables false
open Go.RowKit Ba
open Ro (At Ro Cw ros Rr Ow Nw Fr Att Ap Sh Ra Rv Held cells acells below_new infoI info_row len_cells rowV rowO Few check right)
/-- The program's document, in blocks that are new since w0. -/
def One (w0 w : World) (p : Nat) (M : List Nd) : Prop := ∃ F, Doc12 w w0.heap.size F p M ∧ (∀ b, F b → w0.heap.size ≤ b) ∧ Below w0.heap.size w0 w
theorem one_next {w0 w w' : World} {F F' : Nat → Prop} {p : Nat} {M' : List Nd} (hl : ∀ b, F b → w0.heap.size ≤ b) (hb : Below w0.heap.size w0 w) (D : Doc12 w' w0.heap.size F' p M') (n : Next w w' F F') : One w0 w' p M' := by
  have hs := hb.size
  have hs' := n.1.size
  refine ⟨F', D, fun b h => ?_, ⟨n.1.os.trans hb.os, n.1.tape.trans hb.tape, n.1.output.trans hb.output, by omega, fun b h => (n.1.block b (by omega) fun hf => by have := hl b hf; omega).trans (hb.block b h)⟩⟩
  rcases n.2.2 b h with h | h
  · exact hl b h
  · omega
section
variable {w0 w w' : World} {p : Nat} {M : List Nd}
theorem One.bel (S : One w0 w p M) : Below w0.heap.size w0 w := by
  obtain ⟨_, _, _, h⟩ := S
  exact h
theorem One.below (S : One w0 w p M) (hb : Below w.heap.size w w') : One w0 w' p M := by
  obtain ⟨F, D, hl, hB⟩ := S
  exact ⟨F, D.below hb, hl, bt hB hb⟩
theorem One.drew (S : One w0 w p M) : One w0 w.drew p M := S.below ⟨rfl, rfl, rfl, Nat.le_refl _, fun _ _ => rfl⟩
theorem One.new (w0 w : World) (hb : Below w0.heap.size w0 w) : Calls Try.prog 10 #[] w fun e w' => ∃ p, e = .returned (.pointer (some ⟨p, 0, none⟩)) ∧ One w0 w' p M0 := by
  refine (newP1 w).mono ?_
  rintro e w' ⟨p, F, rfl, D, hb', hl⟩
  have hs := hb.size
  obtain ⟨gE, cE, lE, D⟩ := D
  refine ⟨p, rfl, F, ⟨gE, cE, lE, ⟨D.box, World.ownsRow.mono D.ents hs, fun e he => ⟨⟨(D.attrs e he).1.1.mono hs, (D.attrs e he).1.2⟩, (D.attrs e he).2⟩, fun e he => ⟨Of.mono (D.kids e he).1 hs, (D.kids e he).2⟩, D.apA, D.apK, D.same, Nat.le_trans hs D.low, D.fp, D.fe, D.bd⟩⟩, fun b h => Nat.le_trans hs (hl b h), bt hb hb'⟩
theorem One.make (S : One w0 w p M) (hm : M.length ≤ 5000) (k : Int) (n d : ByteArray) (hs : n.size ≤ 140737488355328) : Calls Try.prog 14 #[.pointer (some ⟨p, 0, none⟩), .int .i64 k, .string n, .string d] w fun e w' => e = .returned (.tuple #[.int .i64 (makeE M k n d).1, .int .i64 (makeE M k n d).2]) ∧ One w0 w' p (makeM M k n d) := by
  obtain ⟨F, D, hl, hB⟩ := S
  refine (makeP1 k n d w D hm hs).mono ?_
  rintro e w' ⟨rfl, F', D', N'⟩
  exact ⟨rfl, one_next hl hB D' N'⟩
theorem One.insert (S : One w0 w p M) (W : Wf M) (hm : M.length ≤ 5000) (P A n : Int) : Calls Try.prog 27 #[.pointer (some ⟨p, 0, none⟩), .int .i64 P, .int .i64 A, .int .i64 n] w fun e w' => e = .returned (.int .i64 (insE M P A n)) ∧ One w0 w' p (insM M P A n) := by
  obtain ⟨F, D, hl, hB⟩ := S
  refine (insertP1 P A n w D W hm).mono ?_
  rintro e w' ⟨rfl, F', D', N'⟩
  exact ⟨rfl, one_next hl hB D' N'⟩
theorem One.remove (S : One w0 w p M) (W : Wf M) (hm : M.length ≤ 5000) (n : Int) (q : Int) (hq : (if 1 ≤ n ∧ n < M.length then (0 : Int) else 110) = q) : Calls Try.prog 15 #[.pointer (some ⟨p, 0, none⟩), .int .i64 n] w fun e w' => e = .returned (.int .i64 q) ∧ One w0 w' p (remM M n) := by
  obtain ⟨F, D, hl, hB⟩ := S
  refine (removeP1 n w D W hm q hq).mono ?_
  rintro e w' ⟨rfl, F', D', N'⟩
  exact ⟨rfl, one_next hl hB D' N'⟩
theorem One.clone {B : Nat} (S : One w0 w p M) (I : Inv B M) (hB : B ≤ 1000000) (hm : M.length ≤ 1000) (n : Int) : Calls Try.prog 30 #[.pointer (some ⟨p, 0, none⟩), .int .i64 n] w fun e w' => e = .returned (.tuple #[.int .i64 (cloneE M n).1, .int .i64 (cloneE M n).2]) ∧ One w0 w' p (cloneM M n) := by
  obtain ⟨F, D, hl, hB'⟩ := S
  refine (cloneP1 n w D I.wf hm (I.few hB) (good_right I.wf I.good n)).mono ?_
  rintro e w' ⟨rfl, F', D', N'⟩
  exact ⟨rfl, one_next hl hB' D' N'⟩
theorem One.attr {B : Nat} (S : One w0 w p M) (I : Inv B M) (hB : B ≤ 1000000) (n : Int) (nm v : ByteArray) (hs : nm.size ≤ 140737488355328) : Calls Try.prog 16 #[.pointer (some ⟨p, 0, none⟩), .int .i64 n, .string nm, .string v] w fun e w' => e = .returned (.int .i64 (attrE11 M n nm)) ∧ One w0 w' p (attrM11 M n nm v) := by
  obtain ⟨F, D, hl, hB'⟩ := S
  refine (attrP1 n nm v w D I.good (I.few hB) hs).mono ?_
  rintro e w' ⟨rfl, F', D', N'⟩
  exact ⟨rfl, one_next hl hB' D' N'⟩
theorem One.drop {B : Nat} (S : One w0 w p M) (I : Inv B M) (hB : B ≤ 1000000) (n : Int) (nm : ByteArray) : Calls Try.prog 33 #[.pointer (some ⟨p, 0, none⟩), .int .i64 n, .string nm] w fun e w' => e = .returned (.int .i64 (dropE11 M n nm)) ∧ One w0 w' p (dropM11 M n nm) := by
  obtain ⟨F, D, hl, hB'⟩ := S
  refine (dropP1 n nm w D I.good (I.few hB)).mono ?_
  rintro e w' ⟨rfl, F', D', N'⟩
  exact ⟨rfl, one_next hl hB' D' N'⟩
theorem One.data (S : One w0 w p M) (n : Int) (d : ByteArray) : Calls Try.prog 32 #[.pointer (some ⟨p, 0, none⟩), .int .i64 n, .string d] w fun e w' => e = .returned (.int .i64 (dataE M n)) ∧ One w0 w' p (dataM M n d) := by
  obtain ⟨F, D, hl, hB⟩ := S
  refine (dataP1 n d w D).mono ?_
  rintro e w' ⟨rfl, F', D', N'⟩
  exact ⟨rfl, one_next hl hB D' N'⟩
theorem One.len (S : One w0 w p M) : Calls Try.prog 24 #[.pointer (some ⟨p, 0, none⟩)] w fun e w' => e = .returned (.int .i64 M.length) ∧ w' = w := by
  obtain ⟨F, ⟨gE, cE, lE, D⟩, hl, hB⟩ := S
  exact len1 w D
theorem One.parent (S : One w0 w p M) (n : Int) (q : Int) (hq : (if 0 ≤ n ∧ n < M.length then (nd M n.toNat).up else -1) = q) : Calls Try.prog 31 #[.pointer (some ⟨p, 0, none⟩), .int .i64 n] w fun e w' => e = .returned (.int .i64 q) ∧ w' = w := by
  obtain ⟨F, ⟨gE, cE, lE, D⟩, hl, hB⟩ := S
  exact parent1 n w D q hq
theorem One.within (S : One w0 w p M) (W : Wf M) (hm : M.length ≤ 5000) (n o : Int) (q : Bool) (hq : q = true ↔ Win M n o) : Calls Try.prog 19 #[.pointer (some ⟨p, 0, none⟩), .int .i64 n, .int .i64 o] w fun e w' => e = .returned (.bool q) ∧ w' = w := by
  obtain ⟨F, ⟨gE, cE, lE, D⟩, hl, hB⟩ := S
  exact withinP1 n o w D W hm q hq
theorem One.kids (S : One w0 w p M) (W : Wf M) (hm : M.length ≤ 5000) (n : Int) : Calls Try.prog 28 #[.pointer (some ⟨p, 0, none⟩), .int .i64 n] w fun e w' => ∃ v, e = .returned v ∧ Nw w.heap.size w' v (kidsI M n) ∧ Below w.heap.size w w' := by
  obtain ⟨F, ⟨gE, cE, lE, D⟩, hl, hB⟩ := S
  exact kidsP1 n w D W hm
theorem One.row {B : Nat} (S : One w0 w p M) (I : Inv B M) (hB : B ≤ 1000000) (n : Int) (q : Int) (hq : (if hasB M n then (0 : Int) else 110) = q) : Calls Try.prog 34 #[.pointer (some ⟨p, 0, none⟩), .int .i64 n] w fun e w' => ∃ y : Cw, e = .returned (.tuple #[rowV y, .int .i64 q]) ∧ y.ro = rowAns M n ∧ Fr w.heap.size w' y ∧ Below w.heap.size w w' := by
  obtain ⟨F, ⟨gE, cE, lE, D⟩, hl, hB'⟩ := S
  exact rowP1 n w D (I.few hB) q hq
theorem rows_held {B : Nat} (I : Inv B M) (hm : M.length ≤ 5000) (n : Int) : Held (rowsM M n) := fun x hx => by
  have h2 := rows_short I.wf n
  have := right_held _ 0 (good_right I.wf I.good n) x hx
  omega
theorem One.rows {B : Nat} (S : One w0 w p M) (I : Inv B M) (hB : B ≤ 1000000) (hm : M.length ≤ 5000) (n : Int) : Calls Try.prog 21 #[.pointer (some ⟨p, 0, none⟩), .int .i64 n] w fun e w' => ∃ v l, e = .returned v ∧ Rv w' v l ∧ ros l = rowsM M n ∧ l.length ≤ M.length ∧ Ow w.heap.size w' v l ∧ (∀ x ∈ l, Fr w.heap.size w' x) ∧ Below w.heap.size w w' := by
  obtain ⟨F, D, hl, hB'⟩ := S
  refine (rowsP1 n w D I.wf hm (I.few hB)).mono ?_
  rintro e w' ⟨v, l, rfl, ho, hf, hr, hb⟩
  refine ⟨v, l, rfl, ho.rv (by rw [hr]; exact rows_held I hm n), hr, ?_, ho, hf, hb⟩
  rw [← Ro.len_ros, hr]
  exact rows_short I.wf n
end
end Go.Proofs.Ytmlchbohijolaaa.Ar

namespace Go.Proofs.Ytmlchbohijolaaa.Ar
set_option maxRecDepth 100000
set_option linter.unusedSimpArgs false
set_option linter.unusedVariables false
open Go.RowKit Ba
open Ro (At Ro Cw ros Rr Ow Nw Fr Att Ap Sh Ra Rv Held cells acells below_new infoI info_row len_cells rowV rowO Few check right refSame1)
def bP : ByteArray := ⟨#[112]⟩
def bX : ByteArray := ⟨#[120]⟩
def bId : ByteArray := ⟨#[105, 100]⟩
def bV : ByteArray := ⟨#[118]⟩
def b0 : ByteArray := ⟨#[]⟩
def rP : Ro := ⟨0, 0, bP, b0, []⟩
def rPa : Ro := ⟨0, 0, bP, b0, [⟨bId, bV⟩]⟩
def rT : Ro := ⟨0, 1, b0, bX, []⟩
def F1 : List Nd := [⟨ro00, -1, []⟩, ⟨rP, -1, []⟩]
def F2 : List Nd := [⟨ro00, -1, [1]⟩, ⟨rP, 0, []⟩]
def F3 : List Nd := [⟨ro00, -1, [1]⟩, ⟨rP, 0, []⟩, ⟨rT, -1, []⟩]
def F4 : List Nd := [⟨ro00, -1, [1]⟩, ⟨rP, 0, [2]⟩, ⟨rT, 1, []⟩]
def F5 : List Nd := [⟨ro00, -1, [1]⟩, ⟨rPa, 0, [2]⟩, ⟨rT, 1, []⟩]
def F6 : List Nd := [⟨ro00, -1, [1]⟩, ⟨rPa, 0, [2]⟩, ⟨rT, 1, []⟩, ⟨rPa, -1, [4]⟩, ⟨rT, 3, []⟩]
theorem f1_ans : makeE M0 0 bP b0 = (1, 0) := by kernel_rfl
theorem f1_doc : makeM M0 0 bP b0 = F1 := by kernel_rfl
theorem f3_ans : makeE F2 1 b0 bX = (2, 0) := by kernel_rfl
theorem f3_doc : makeM F2 1 b0 bX = F3 := by kernel_rfl
theorem f5_ans : attrE11 F4 1 bId = 0 := by kernel_rfl
theorem f5_doc : attrM11 F4 1 bId bV = F5 := by kernel_rfl
theorem f5_drop : dropE11 F5 1 bX = 1 := by kernel_rfl
theorem f5_dropM : dropM11 F5 1 bX = F5 := by kernel_rfl
theorem f6_ans : cloneE F5 1 = (3, 0) := by kernel_rfl
theorem f6_doc : cloneM F5 1 = F6 := by kernel_rfl
theorem f6_make : makeE F6 0 b0 b0 = (0, 1) := by kernel_rfl
theorem f6_makeM : makeM F6 0 b0 b0 = F6 := by kernel_rfl
theorem f2_doc : setM F1 0 0 1 = F2 := by kernel_rfl
theorem f4_doc : setM F3 1 0 2 = F4 := by kernel_rfl
theorem f6_rows0 : rowsM F6 0 = [rPa, { rT with depth := 1 }] := by kernel_rfl
theorem f6_rows3 : rowsM F6 3 = [rPa, { rT with depth := 1 }] := by kernel_rfl
theorem not_up {M : List Nd} {a b : Nat} (h : a ≠ b) (hu : (nd M a).up = -1) : ¬ Win M a b := by
  rw [win_nat, up_iff]
  rintro ⟨_, h1 | ⟨p, h1, _⟩⟩
  · exact h h1
  · omega
theorem i_M0 : Inv 4 M0 := inv_M0.more (by decide)
theorem i_F1 : Inv 4 F1 := f1_doc ▸ i_M0.make 0 bP b0
theorem f2_ins : insE F1 0 0 1 = 0 ∧ insM F1 0 0 1 = F2 := by
  have h := ins_0 (M := F1) (P := 0) (A := 0) (n := 1) (by decide) (fun h => by
    rcases h with h | h
    · omega
    · exact not_up (M := F1) (a := 0) (b := 1) (by decide) rfl h) (by decide)
  exact ⟨h.1, h.2.trans f2_doc⟩
theorem i_F2 : Inv 4 F2 := f2_ins.2 ▸ i_F1.ins 0 0 1
theorem f2_self : insE F2 1 0 1 = 111 ∧ insM F2 1 0 1 = F2 := ins_111 (by decide) (.inr (win_nat (a := 1) (b := 1) |>.2 (.refl (by decide))))
theorem i_F3 : Inv 4 F3 := f3_doc ▸ i_F2.make 1 b0 bX
theorem f4_ins : insE F3 1 0 2 = 0 ∧ insM F3 1 0 2 = F4 := by
  have h := ins_0 (M := F3) (P := 1) (A := 0) (n := 2) (by decide) (fun h => by
    rcases h with h | h
    · exact h.2 rfl
    · have h := (win_nat (M := F3) (a := 1) (b := 2)).1 h
      rw [up_iff] at h
      rcases h with ⟨_, h1 | ⟨p, h1, h2⟩⟩
      · exact absurd h1 (by decide)
      · have h1 : (0 : Int) = p := h1
        obtain rfl : p = 0 := by omega
        exact not_up (M := F3) (a := 0) (b := 2) (by decide) rfl (win_nat.2 h2)) (by decide)
  exact ⟨h.1, h.2.trans f4_doc⟩
theorem i_F4 : Inv 4 F4 := f4_ins.2 ▸ i_F3.ins 1 0 2
theorem f4_text : insE F4 2 0 1 = 111 ∧ insM F4 2 0 1 = F4 := ins_111 (by decide) (.inl ⟨by decide, by decide⟩)
theorem i_F5 : Inv 5 F5 := f5_doc ▸ i_F4.attr 1 bId bV
theorem i_F6 : Inv 5 F6 := f6_doc ▸ i_F5.clone 1
theorem f6_in : Win F6 2 0 := (win_nat (a := 2) (b := 0)).2 (.step (p := 1) (by decide) rfl (.step (p := 0) (by decide) rfl (.refl (by decide))))
theorem f6_out : ¬ Win F6 3 0 := not_up (M := F6) (a := 3) (b := 0) (by decide) rfl
/-- Rows freshly written down. -/
theorem rows_litA (w : World) (l : List Cw) (cs : Array Value) (n : Nat) (hn : l.length = n) (hm : n ≤ maxLen) (hcs : cs.toList = l.flatMap cells) (hl : ∀ x ∈ l, Att (w.alloc (.cells cs 65)) (w.alloc (.cells cs 65)).heap.size x ∧ Ap (w.alloc (.cells cs 65)) w.heap.size x) :
    Ow w.heap.size (w.alloc (.cells cs 65)) (.slice (some ⟨w.heap.size, 0, none⟩) n n) l := by
  have hfl : (l.flatMap cells).length = n * 5 := by
    rw [← hn]
    exact Ro.flat_len cells 5 len_cells l
  have hsz : cs.size = n * 5 := by rw [← Array.length_toList, hcs, hfl]
  refine ⟨⟨by rw [hn, hfl], .inr ⟨w.heap.size, n, cs, by rw [hn], Nat.le_refl _, heap_alloc_new w _, by rw [hn]; exact Nat.le_refl _, hm, hsz, ?_⟩⟩, hl⟩
  rw [hn, hcs, ← hfl, List.take_length]
def litL (g : Nat) : List Cw := [⟨rPa, some ⟨g, 0, none⟩, 1⟩, ⟨{ rT with depth := 1 }, none, 0⟩]
theorem lit_new (w : World) (cs : Array Value) (hcs : cs.toList = (litL w.heap.size).flatMap cells) :
    Rv ((w.alloc (.cells #[.string bId, .string bV] 63)).alloc (.cells cs 65)) (.slice (some ⟨w.heap.size + 1, 0, none⟩) 2 2) (litL w.heap.size) := by
  obtain ⟨w1, hw1⟩ : ∃ w1, w.alloc (.cells #[.string bId, .string bV] 63) = w1 := ⟨_, rfl⟩
  have hs1 : w1.heap.size = w.heap.size + 1 := by rw [← hw1]; simp
  have hg1 : w1.heap[w.heap.size]? = some (.cells #[.string bId, .string bV] 63) := hw1 ▸ heap_alloc_new w _
  have hlt : w.heap.size < w1.heap.size := by omega
  have hg2 : (w1.alloc (.cells cs 65)).heap[w.heap.size]? = some (.cells #[.string bId, .string bV] 63) := ((below_new w1 _).block _ hlt).trans hg1
  rw [hw1, ← hs1]
  refine (rows_litA w1 (litL w.heap.size) cs 2 rfl (by decide) hcs (fun x hx => ?_)).rv (fun x hx => ?_)
  · rcases List.mem_cons.1 hx with rfl | hx
    · refine ⟨⟨Nat.le_refl _, (fun h => by cases h), (by decide : (1 : Nat) ≤ maxLen), fun _ => ⟨w.heap.size, 0, rfl, by have := (below_new w1 (.cells cs 65)).size; omega, fun j hj => ?_⟩, fun a ha => ?_⟩, fun _ => ⟨w.heap.size, 0, rfl, .inl hlt⟩⟩
      · have hj0 : j = 0 := by
          have : j < 1 := hj
          omega
        subst hj0
        intro i u hu
        rw [cell_of_row _ w.heap.size (0 + 0 * 2 + i) _ _ _ hg2]
        match i, hu with
        | 0, hu => exact hu
        | 1, hu => exact hu
      · have ha : a ∈ [(⟨bId, bV⟩ : At)] := ha
        rw [List.mem_singleton.1 ha]
        exact (by decide : (2 : Nat) ≤ maxLen)
    · rw [List.mem_singleton.1 hx]
      exact ⟨att_none _ _ rfl, fun h => absurd h (by decide)⟩
  · have hx : x = rPa ∨ x = { rT with depth := 1 } := by
      have : x ∈ [rPa, ({ rT with depth := 1 } : Ro)] := hx
      simpa using this
    rcases hx with rfl | rfl
    · exact ⟨(by decide : (-9223372036854775808 : Int) ≤ 0), (by decide : (0 : Int) ≤ 9223372036854775807)⟩
    · exact ⟨(by decide : (-9223372036854775808 : Int) ≤ 1), (by decide : (1 : Int) ≤ 9223372036854775807)⟩
end Go.Proofs.Ytmlchbohijolaaa.Ar

namespace Go.Proofs.Ytmlchbohijolaaa.Ar
set_option maxRecDepth 100000
set_option linter.unusedSimpArgs false
set_option linter.unusedVariables false
open Go.RowKit Ba
open Ro (At Ro Cw ros Rr Ow Nw Fr Att Ap Sh Ra Rv Held cells acells below_new infoI info_row len_cells rowV rowO Few check right refSame1)
section
variable {w0 w : World} {p : Nat}
abbrev ptr (p : Nat) : Value := .pointer (some ⟨p, 0, none⟩)
theorem s_make {M M' : List Nd} {k : Int} {n d : ByteArray} {a b : Int} (S : One w0 w p M) (hm : M.length ≤ 5000) (hs : n.size ≤ 140737488355328) (h1 : makeE M k n d = (a, b)) (h2 : makeM M k n d = M') : Calls Try.prog 14 #[ptr p, .int .i64 k, .string n, .string d] w fun e w' => e = .returned (.tuple #[.int .i64 a, .int .i64 b]) ∧ One w0 w' p M' := by
  have h := S.make hm k n d hs
  rw [h1, h2] at h
  exact h
theorem s_ins {M M' : List Nd} {P A n : Int} {a : Int} (S : One w0 w p M) (W : Wf M) (hm : M.length ≤ 5000) (h : insE M P A n = a ∧ insM M P A n = M') : Calls Try.prog 27 #[ptr p, .int .i64 P, .int .i64 A, .int .i64 n] w fun e w' => e = .returned (.int .i64 a) ∧ One w0 w' p M' := by
  have h3 := S.insert W hm P A n
  rw [h.1, h.2] at h3
  exact h3
end
set_option maxRecDepth 100000 in
set_option maxHeartbeats 8000000 in
theorem fixed11 (w : World) : Calls Try.prog 12 #[] w fun e w' => e = .returned (.bool true) ∧ Below w.heap.size w w' := by
  go_enter Try.func12, Try.ntmps12
  go_wp2_with fail
  refine (One.new w w (Below.refl _ _)).mono ?_
  rintro e w1 ⟨p, rfl, S1⟩
  have H1 := Lib.hid (show Calls Try.prog 24 #[ptr p] w1 fun e w' => e = .returned (.int .i64 1) ∧ w' = w1 from S1.len)
  have H2 := Lib.hid (s_make S1 (by decide) (by decide) f1_ans f1_doc)
  clear S1
  go_wp2_with fail
  refine H1.out.mono ?_
  rintro e w1' ⟨rfl, rfl⟩
  go_wp2_with fail
  refine H2.out.mono ?_
  rintro e w2 ⟨rfl, S2⟩
  have H3 := Lib.hid (s_ins S2 i_F1.wf (by decide) f2_ins)
  clear S2 H1 H2
  go_wp2_with fail
  refine H3.out.mono ?_
  rintro e w3 ⟨rfl, S3⟩
  have H4 := Lib.hid (s_ins S3 i_F2.wf (by decide) f2_self)
  clear S3 H3
  go_wp2_with fail
  refine H4.out.mono ?_
  rintro e w4 ⟨rfl, S4⟩
  have H5 := Lib.hid (s_make S4 (by decide) (by decide) f3_ans f3_doc)
  clear S4 H4
  go_wp2_with fail
  refine H5.out.mono ?_
  rintro e w5 ⟨rfl, S5⟩
  have H6 := Lib.hid (s_ins S5 i_F3.wf (by decide) f4_ins)
  clear S5 H5
  go_wp2_with fail
  refine H6.out.mono ?_
  rintro e w6 ⟨rfl, S6⟩
  have H7 := Lib.hid (s_ins S6 i_F4.wf (by decide) f4_text)
  clear S6 H6
  go_wp2_with fail
  refine H7.out.mono ?_
  rintro e w7 ⟨rfl, S7⟩
  have h8 := S7.attr i_F4 (by decide) 1 bId bV (by decide)
  rw [f5_ans, f5_doc] at h8
  have H8 := Lib.hid h8
  clear S7 H7 h8
  go_wp2_with fail
  refine H8.out.mono ?_
  rintro e w8 ⟨rfl, S8⟩
  have h9 := S8.drop i_F5 (by decide) 1 bX
  rw [f5_drop, f5_dropM] at h9
  have H9 := Lib.hid h9
  clear S8 H8 h9
  go_wp2_with fail
  refine H9.out.mono ?_
  rintro e w9 ⟨rfl, S9⟩
  have h10 := S9.clone i_F5 (by decide) (by decide) 1
  rw [f6_ans, f6_doc] at h10
  have H10 := Lib.hid h10
  clear S9 H9 h10
  go_wp2_with fail
  refine H10.out.mono ?_
  rintro e w10 ⟨rfl, S10⟩
  have H11 := Lib.hid (s_make S10 (by decide) (by decide) f6_make f6_makeM)
  clear S10 H10
  go_wp2_with fail
  refine H11.out.mono ?_
  rintro e w11 ⟨rfl, S11⟩
  obtain ⟨w12, hw12⟩ : ∃ w12, (w11.alloc (.cells #[.string ⟨#[105, 100]⟩, .string ⟨#[118]⟩] 63)).alloc (.cells #[.int .i64 0, .int .i64 0, .string ⟨#[112]⟩, .string ⟨#[]⟩, .slice (some ⟨w11.heap.size, 0, none⟩) 1 1, .int .i64 1, .int .i64 1, .string ⟨#[]⟩, .string ⟨#[120]⟩, .slice none 0 0] 65) = w12 := ⟨_, rfl⟩
  have hlit : Rv w12 (.slice (some ⟨w11.heap.size + 1, 0, none⟩) 2 2) (litL w11.heap.size) := by
    rw [← hw12]
    exact lit_new w11 _ rfl
  have hb12 : Below w11.heap.size w11 w12 := hw12 ▸ bt (below_new w11 _) (below_new _ _)
  have S12 := S11.below hb12
  have HR0 := Lib.hid (S12.rows i_F6 (by decide) (by decide) 0)
  have HL := Lib.hid hlit; have HS := Lib.hid S12
  have HW12 := Lib.hid hw12
  clear S11 H11 hlit hb12 S12 hw12
  go_wp2_with fail
  rw [HW12.out]
  refine HR0.out.mono ?_
  rintro e w13 ⟨v0, l0, rfl, hv0, hr0, hl0, _, _, hb13⟩
  have S13 := HS.out.below hb13
  have HL13 := Lib.hid (HL.out.below hb13)
  have hlit0 : decide (ros l0 = ros (litL w11.heap.size)) = true := decide_eq_true (by rw [hr0, f6_rows0]; rfl)
  have HSA := Lib.hid (refSame1 v0 _ l0 (litL w11.heap.size) w13 true hv0 HL13.out (Nat.le_trans hl0 (by decide)) (show (2 : Nat) ≤ 1000000 by decide) hlit0)
  have HS13 := Lib.hid S13
  clear S13 hv0 hr0 hl0 hb13 hlit0 HR0
  go_wp2_with fail
  refine HSA.out.mono ?_
  rintro e w14 ⟨rfl, hb14⟩
  have S14 := HS13.out.below hb14
  have HL14 := Lib.hid (HL13.out.below hb14)
  have HR3 := Lib.hid (S14.rows i_F6 (by decide) (by decide) 3)
  have HS14 := Lib.hid S14
  clear S14 hb14 HSA
  go_wp2_with fail
  refine HR3.out.mono ?_
  rintro e w15 ⟨v3, l3, rfl, hv3, hr3, hl3, _, _, hb15⟩
  have S15 := HS14.out.below hb15
  have HL15 := Lib.hid (HL14.out.below hb15)
  have hlit3 : decide (ros l3 = ros (litL w11.heap.size)) = true := decide_eq_true (by rw [hr3, f6_rows3]; rfl)
  have HSB := Lib.hid (refSame1 v3 _ l3 (litL w11.heap.size) w15 true hv3 HL15.out (Nat.le_trans hl3 (by decide)) (show (2 : Nat) ≤ 1000000 by decide) hlit3)
  have HS15 := Lib.hid S15
  clear S15 hv3 hr3 hl3 hb15 hlit3 HR3
  go_wp2_with fail
  refine HSB.out.mono ?_
  rintro e w16 ⟨rfl, hb16⟩
  have S16 := HS15.out.below hb16
  have HP2 := Lib.hid (S16.parent 2 1 rfl)
  have HP3 := Lib.hid (S16.parent 3 (-1) rfl)
  have HI := Lib.hid (S16.within i_F6.wf (by decide) 2 0 true ⟨fun _ => f6_in, fun _ => rfl⟩)
  have HO := Lib.hid (S16.within i_F6.wf (by decide) 3 0 false ⟨fun h => (by cases h), fun h => absurd h f6_out⟩)
  have HRM := Lib.hid (S16.remove i_F6.wf (by decide) 0 110 rfl)
  clear S16 hb16 HSB
  go_wp2_with fail
  refine HP2.out.mono ?_
  rintro e w17 ⟨rfl, rfl⟩
  go_wp2_with fail
  refine HP3.out.mono ?_
  rintro e w17 ⟨rfl, rfl⟩
  go_wp2_with fail
  refine HI.out.mono ?_
  rintro e w17 ⟨rfl, rfl⟩
  go_wp2_with fail
  refine HO.out.mono ?_
  rintro e w17 ⟨rfl, rfl⟩
  go_wp2_with fail
  refine HRM.out.mono ?_
  rintro e w18 ⟨rfl, S18⟩
  have HS18 := Lib.hid S18.bel
  clear S18
  go_wp2
  go_ret
  exact ⟨rfl, HS18.out⟩
end Go.Proofs.Ytmlchbohijolaaa.Ar

namespace Go.Proofs.Ytmlchbohijolaaa.Ar
set_option maxRecDepth 100000
set_option linter.unusedSimpArgs false
set_option linter.unusedVariables false
open Go.RowKit Ba
open Ro (At Ro Cw ros Rr Ow Nw Fr Att Ap Sh Ra Rv Held cells acells below_new infoI info_row len_cells rowV rowO Few check right refSame1)
def ocells (o : Op11) : List Value := [.int .i64 o.kind, .int .i64 o.node, .int .i64 o.other, .int .i64 o.at_, .int .i64 o.what, .string o.name, .string o.value, .slice o.A o.x.length o.c]
/-- A value reads as a script, below block K. -/
def Script (w : World) (K : Nat) (v : Value) (os : List Op11) : Prop := ∃ A c, v = .slice A os.length c ∧ os.length ≤ c ∧ c ≤ maxLen ∧ (0 < os.length → ∃ b off, A = some ⟨b, off, none⟩ ∧ b < K ∧ ∀ j (h : j < os.length), w.rangeAt b (off + j * 8) (ocells os[j])) ∧ ∀ o ∈ os, OpOk w K o
theorem OpOk.below {w w' : World} {K : Nat} {o : Op11} (h : OpOk w K o) (hb : Below K w w') : OpOk w' K o := ⟨h.cap, h.rows.below hb, h.held, h.name, h.what⟩
theorem Doc11.mono {w : World} {N N' : Nat} {F : Nat → Prop} {p : Nat} {M : List Nd} (h : Doc11 w N F p M) (hN : N' ≤ N) : Doc11 w N' F p M := by
  obtain ⟨rk, gX, cX, gU, cU, gR, cR, lX, D⟩ := h
  exact ⟨rk, gX, cX, gU, cU, gR, cR, lX, D.box, World.ownsRow.mono D.rows hN, fun x hx => ⟨(D.attrs x hx).1.mono hN, (D.attrs x hx).2⟩, D.same, World.ownsRow.mono D.ups hN, World.ownsRow.mono D.ranks hN, D.apart, Nat.le_trans hN D.low, D.fp, D.fx, D.fu, D.fr, D.rf, D.bd⟩
end Go.Proofs.Ytmlchbohijolaaa.Ar

namespace Go.Proofs.Ytmlchbohijolaaa.Ar
set_option maxRecDepth 100000
set_option linter.unusedSimpArgs false
set_option linter.unusedVariables false
open Go.RowKit Ba
open Ro (At Ro Cw ros Rr Ow Nw Fr Att Ap Sh Ra Rv Held cells acells below_new infoI info_row len_cells rowV rowO Few check right)
structure OneF (w0 w : World) (F : Nat → Prop) (p : Nat) (M : List Nd) : Prop where
  doc : Doc12 w w0.heap.size F p M
  low : ∀ b, F b → w0.heap.size ≤ b
  bel : Below w0.heap.size w0 w
def StepF (w0 w w' : World) (F : Nat → Prop) (p : Nat) (M' : List Nd) : Prop := ∃ F', OneF w0 w' F' p M' ∧ Next w w' F F'
section
variable {w0 w w' : World} {p : Nat} {M : List Nd} {F : Nat → Prop}
theorem One.of (S : One w0 w p M) : ∃ F, OneF w0 w F p M := by
  obtain ⟨F, D, hl, hB⟩ := S
  exact ⟨F, D, hl, hB⟩
theorem OneF.one (S : OneF w0 w F p M) : One w0 w p M := ⟨F, S.doc, S.low, S.bel⟩
theorem OneF.bd (S : OneF w0 w F p M) : ∀ b, F b → b < w.heap.size := S.doc.bd
theorem OneF.below (S : OneF w0 w F p M) (hb : Below w.heap.size w w') : OneF w0 w' F p M := ⟨S.doc.below hb, S.low, bt S.bel hb⟩
theorem step_of {M' : List Nd} {F' : Nat → Prop} (S : OneF w0 w F p M) (D : Doc12 w' w0.heap.size F' p M') (n : Next w w' F F') : StepF w0 w w' F p M' := by
  have hs := S.bel.size
  have hs' := n.1.size
  refine ⟨F', ⟨D, fun b h => ?_, ⟨n.1.os.trans S.bel.os, n.1.tape.trans S.bel.tape, n.1.output.trans S.bel.output, by omega, fun b h => (n.1.block b (by omega) fun hf => by have := S.low b hf; omega).trans (S.bel.block b h)⟩⟩, n⟩
  rcases n.2.2 b h with h | h
  · exact S.low b h
  · omega
theorem OneF.insert (S : OneF w0 w F p M) (W : Wf M) (hm : M.length ≤ 5000) (P A n a : Int) (M' : List Nd) (ha : insE M P A n = a) (hM : insM M P A n = M') : Calls Try.prog 27 #[ptr p, .int .i64 P, .int .i64 A, .int .i64 n] w fun e w' => e = .returned (.int .i64 a) ∧ StepF w0 w w' F p M' := by
  subst ha hM
  refine (insertP1 P A n w S.doc W hm).mono ?_
  rintro e w' ⟨rfl, F', D', N'⟩
  exact ⟨rfl, step_of S D' N'⟩
theorem OneF.remove (S : OneF w0 w F p M) (W : Wf M) (hm : M.length ≤ 5000) (n : Int) (q : Int) (M' : List Nd) (hq : (if 1 ≤ n ∧ n < M.length then (0 : Int) else 110) = q) (hM : remM M n = M') : Calls Try.prog 15 #[ptr p, .int .i64 n] w fun e w' => e = .returned (.int .i64 q) ∧ StepF w0 w w' F p M' := by
  subst hM
  refine (removeP1 n w S.doc W hm q hq).mono ?_
  rintro e w' ⟨rfl, F', D', N'⟩
  exact ⟨rfl, step_of S D' N'⟩
theorem OneF.clone {B : Nat} (S : OneF w0 w F p M) (I : Inv B M) (hB : B ≤ 1000000) (hm : M.length ≤ 1000) (n a b : Int) (M' : List Nd) (ha : cloneE M n = (a, b)) (hM : cloneM M n = M') : Calls Try.prog 30 #[ptr p, .int .i64 n] w fun e w' => e = .returned (.tuple #[.int .i64 a, .int .i64 b]) ∧ StepF w0 w w' F p M' := by
  subst hM
  have h := cloneP1 n w S.doc I.wf hm (I.few hB) (good_right I.wf I.good n)
  rw [ha] at h
  refine h.mono ?_
  rintro e w' ⟨rfl, F', D', N'⟩
  exact ⟨rfl, step_of S D' N'⟩
theorem OneF.attr {B : Nat} (S : OneF w0 w F p M) (I : Inv B M) (hB : B ≤ 1000000) (n : Int) (nm v : ByteArray) (hs : nm.size ≤ 140737488355328) (q : Int) (M' : List Nd) (hq : attrE11 M n nm = q) (hM : attrM11 M n nm v = M') : Calls Try.prog 16 #[ptr p, .int .i64 n, .string nm, .string v] w fun e w' => e = .returned (.int .i64 q) ∧ StepF w0 w w' F p M' := by
  subst hq hM
  refine (attrP1 n nm v w S.doc I.good (I.few hB) hs).mono ?_
  rintro e w' ⟨rfl, F', D', N'⟩
  exact ⟨rfl, step_of S D' N'⟩
theorem OneF.drop {B : Nat} (S : OneF w0 w F p M) (I : Inv B M) (hB : B ≤ 1000000) (n : Int) (nm : ByteArray) (q : Int) (M' : List Nd) (hq : dropE11 M n nm = q) (hM : dropM11 M n nm = M') : Calls Try.prog 33 #[ptr p, .int .i64 n, .string nm] w fun e w' => e = .returned (.int .i64 q) ∧ StepF w0 w w' F p M' := by
  subst hq hM
  refine (dropP1 n nm w S.doc I.good (I.few hB)).mono ?_
  rintro e w' ⟨rfl, F', D', N'⟩
  exact ⟨rfl, step_of S D' N'⟩
theorem OneF.data (S : OneF w0 w F p M) (n : Int) (d : ByteArray) (q : Int) (M' : List Nd) (hq : dataE M n = q) (hM : dataM M n d = M') : Calls Try.prog 32 #[ptr p, .int .i64 n, .string d] w fun e w' => e = .returned (.int .i64 q) ∧ StepF w0 w w' F p M' := by
  subst hq hM
  refine (dataP1 n d w S.doc).mono ?_
  rintro e w' ⟨rfl, F', D', N'⟩
  exact ⟨rfl, step_of S D' N'⟩
theorem OneF.make (S : OneF w0 w F p M) (hm : M.length ≤ 5000) (k : Int) (n d : ByteArray) (hs : n.size ≤ 140737488355328) (a b : Int) (M' : List Nd) (ha : makeE M k n d = (a, b)) (hM : makeM M k n d = M') : Calls Try.prog 14 #[ptr p, .int .i64 k, .string n, .string d] w fun e w' => e = .returned (.tuple #[.int .i64 a, .int .i64 b]) ∧ StepF w0 w w' F p M' := by
  subst hM
  have h := makeP1 k n d w S.doc hm hs
  rw [ha] at h
  refine h.mono ?_
  rintro e w' ⟨rfl, F', D', N'⟩
  exact ⟨rfl, step_of S D' N'⟩
/-- Rows that were made behind a document are kept while only that is touched. -/
theorem rows_kept {w1 w2 : World} {K : Nat} {v : Value} {l : List Cw} (h : Rv w1 v l) (ho : Ow K w1 v l) (hf : ∀ x ∈ l, Fr K w1 x) (hK : ∀ b, F b → b < K) (t : Touch F w1 w2) : Rv w2 v l := by
  obtain ⟨A, c, rfl, hc, hm, hr, hh⟩ := h
  refine rv_keep hr hc hm hh hf (fun b hb => ?_) hK t
  exact own_blk ho.1 hb
end
/-- The answer of Rows and Same. -/
theorem OneF.rows {w0 w : World} {p : Nat} {M : List Nd} {F : Nat → Prop} {B : Nat} (S : OneF w0 w F p M) (I : Inv B M) (hB : B ≤ 1000000) (hm : M.length ≤ 5000) (n : Int) : Calls Try.prog 21 #[ptr p, .int .i64 n] w fun e w' => ∃ v l, e = .returned v ∧ ros l = rowsM M n ∧ l.length ≤ 5000 ∧ OneF w0 w' F p M ∧ (∀ w2 F', Next w' w2 F F' → Rv w2 v l) ∧ Below w.heap.size w w' := by
  refine (S.one.rows I hB hm n).mono ?_
  rintro e w' ⟨v, l, rfl, hv, hr, hl, ho, hf, hb⟩
  exact ⟨v, l, rfl, hr, by omega, S.below hb, fun w2 F' n => rows_kept hv ho hf S.bd n.1, hb⟩
end Go.Proofs.Ytmlchbohijolaaa.Ar

namespace Go.Proofs.Ytmlchbohijolaaa.Ar
set_option maxRecDepth 100000
set_option linter.unusedSimpArgs false
set_option linter.unusedVariables false
open Go.RowKit Ba
open Ro (At Ro Cw ros Rr Ow Nw Fr Att Ap Sh Ra Rv Held cells acells below_new infoI info_row len_cells rowV rowO Few check right)
def Pair (w0 w : World) (p1 p2 B : Nat) (M : List Nd) : Prop := ∃ F1 F2, Two w w0.heap.size w0.heap.size p1 p2 F1 F2 B M M ∧ Below w0.heap.size w0 w
section
variable {w0 w w' : World} {p1 p2 B : Nat} {M : List Nd}
theorem Pair.bel (S : Pair w0 w p1 p2 B M) : Below w0.heap.size w0 w := by
  obtain ⟨_, _, _, h⟩ := S
  exact h
theorem Pair.inv (S : Pair w0 w p1 p2 B M) : Inv B M := by
  obtain ⟨_, _, h, _⟩ := S
  exact h.i1
theorem Two.below {N K : Nat} {F1 F2 : Nat → Prop} {M2 : List Nd} (T : Two w N K p1 p2 F1 F2 B M M2) (hb : Below w.heap.size w w') : Two w' N K p1 p2 F1 F2 B M M2 := ⟨T.d1.below hb, T.d2.below hb, T.apart, T.low1, T.low2, T.i1, T.i2, T.l1, T.l2, T.few, Nat.le_trans T.hK hb.size⟩
theorem Pair.below (S : Pair w0 w p1 p2 B M) (hb : Below w.heap.size w w') : Pair w0 w' p1 p2 B M := by
  obtain ⟨F1, F2, T, h⟩ := S
  exact ⟨F1, F2, T.below hb, bt h hb⟩
theorem Pair.one (S : Pair w0 w p1 p2 B M) : One w0 w p1 M := by
  obtain ⟨F1, F2, T, h⟩ := S
  exact ⟨F1, T.d1, T.low1, h⟩
theorem Pair.x (S : Pair w0 w p1 p2 B M) : ∃ g c, w.cell? ⟨p2, 0, none⟩ = some (.slice (some ⟨g, 0, none⟩) M.length c) ∧ p2 < w.heap.size := by
  obtain ⟨F1, F2, T, h⟩ := S
  obtain ⟨rk, gX, cX, gU, cU, gR, cR, lX, D⟩ := T.d2
  exact ⟨gX, cX, D.rd.x, D.rd.lt⟩
theorem Pair.new {w1 w2 : World} {F1 F2 : Nat → Prop} (D1 : Doc12 w1 w0.heap.size F1 p1 M0) (h1 : Below w0.heap.size w0 w1) (l1 : ∀ b, F1 b → w0.heap.size ≤ b) (D2 : Doc11 w2 w1.heap.size F2 p2 M0) (h2 : Below w1.heap.size w1 w2) (l2 : ∀ b, F2 b → w1.heap.size ≤ b) : Pair w0 w2 p1 p2 4 M0 := by
  have hs := h1.size
  have hs2 := h2.size
  exact ⟨F1, F2, ⟨D1.below h2, D2.mono hs, fun b ha hb => by have := D1.bd b ha; have := l2 b hb; omega, l1, fun b h => Nat.le_trans hs (l2 b h), i_M0, i_M0, by decide, by decide, by decide, by omega⟩, bt h1 h2⟩
theorem Pair.tells (S : Pair w0 w p1 p2 B M) {o : Op11} (O : OpOk w0 w0.heap.size o) (h4 : 4 ≤ B) (hB : B ≤ 1000) (hl : M.length ≤ 300) : Calls Try.prog 17 #[ptr p1, ptr p2, opV o] w fun e w' => e = .returned (.bool true) ∧ Pair w0 w' p1 p2 (B + 1) (opM M o) := by
  obtain ⟨F1, F2, T, h⟩ := S
  refine (tells1 T (O.below h)).mono ?_
  rintro e w' ⟨b, rfl, hb, F1', F2', G1, G2, ha, n⟩
  have hop := (T.i1.op h4 o)
  have hlen := (opM_len T.i1.wf o)
  have hlen2 : (opM M o).length ≤ 1000 := by omega
  have hK := T.hK
  have hs := n.1.size
  refine ⟨by rw [hb rfl], F1', F2', ⟨G1, G2, ha, fun b hb => ?_, fun b hb => ?_, hop, hop, hlen2, hlen2, by omega, by omega⟩, ⟨n.1.os.trans h.os, n.1.tape.trans h.tape, n.1.output.trans h.output, by omega, fun b hb => (n.1.block b (by omega) fun hf => ?_).trans (h.block b hb)⟩⟩
  · rcases n.2.2 b (.inl hb) with h5 | h5
    · exact h5.elim (T.low1 b) (T.low2 b)
    · omega
  · rcases n.2.2 b (.inr hb) with h5 | h5
    · exact h5.elim (T.low1 b) (T.low2 b)
    · omega
  · have := hf.elim (T.low1 b) (T.low2 b)
    omega
end
end Go.Proofs.Ytmlchbohijolaaa.Ar

namespace Go.Proofs.Ytmlchbohijolaaa.Ar
set_option linter.unusedSimpArgs false
set_option linter.unusedVariables false
/-- All that the law asks of a node that was put in: P is its parent, i its place. -/
structure Moved (M M' : List Nd) (P i n : Nat) : Prop where
  len : M'.length = M.length
  hP : P < M.length
  h0 : n ≠ 0
  hn : n < M.length
  place : i < (nd M' P).kids.length
  there : (nd M' P).kids[i]? = some n
  up : (nd M' n).up = P
  rows : rowsM M' n = rowsM M n
  outRows : rowsM (takeOut M' n) n = rowsM M n
  outUp : (nd (takeOut M' n) n).up = -1
  outLen : (nd (takeOut M' n) P).kids.length + 1 = (nd M' P).kids.length
end Go.Proofs.Ytmlchbohijolaaa.Ar

namespace Go.Proofs.Ytmlchbohijolaaa.Ar
set_option maxRecDepth 100000
set_option linter.unusedSimpArgs false
set_option linter.unusedVariables false
open Go.RowKit Ba
open Ro (At Ro Cw ros Rr Ow Nw Fr Att Ap Sh Ra Rv Held cells acells below_new infoI info_row len_cells rowV rowO Few check right refSame1)
theorem Script.to {w w' : World} {v : Value} {os : List Op11} (h : Script w w.heap.size v os) (hb : Below w.heap.size w w') : Script w' w'.heap.size v os := by
  obtain ⟨A, c, rfl, hc, hm, hat, hok⟩ := h
  have hs := hb.size
  refine ⟨A, c, rfl, hc, hm, fun h0 => ?_, fun o ho => ?_⟩
  · obtain ⟨b, off, hA, hbl, hcell⟩ := hat h0
    exact ⟨b, off, hA, by omega, fun j hj i u hu => (hb.cell (p := ⟨b, _, none⟩) hbl).trans (hcell j hj i u hu)⟩
  · have h1 := (hok o ho).below hb
    exact ⟨h1.cap, h1.rows.more hs, h1.held, h1.name, h1.what⟩
theorem bel_eq {w w1 w2 : World} {n : Nat} (h : Below n w w1) (he : w2.heap = w1.heap) (ho : w2.os = w1.os) (ht : w2.tape = w1.tape) (hp : w2.output = w1.output) : Below n w w2 := ⟨ho.trans h.os, ht.trans h.tape, hp.trans h.output, by rw [he]; exact h.size, fun b hb => by rw [he]; exact h.block b hb⟩
end Go.Proofs.Ytmlchbohijolaaa.Ar

namespace Go.Proofs.Ytmlchbohijolaaa.Ar
set_option linter.unusedVariables false
end Go.Proofs.Ytmlchbohijolaaa.Ar

namespace Go.Proofs.Ytmlchbohijolaaa.Ar
set_option maxRecDepth 100000
set_option linter.unusedSimpArgs false
set_option linter.unusedVariables false
open Go.RowKit Ba
open Ro (At Ro Cw ros Rr Ow Nw Fr Att Ap Sh Ra Rv Held cells acells below_new infoI info_row len_cells rowV rowO Few check right refSame1)
/-- A call's eight cells, in a later world. -/
theorem Script.cells {w wr : World} {os : List Op11} {A : Option Addr} {c : Nat} (S : Script w w.heap.size (.slice A os.length c) os) (hb : Below w.heap.size w wr) {j : Nat} (hj : j < os.length) : ∃ b off, A = some ⟨b, off, none⟩ ∧ b < w.heap.size ∧ ∀ i u, (ocells os[j])[i]? = some u → wr.cell? ⟨b, off + j * 8 + i, none⟩ = some u := by
  obtain ⟨A', c', he, hc, hm, hat, hok⟩ := S
  injection he with h1 h2 h3
  subst h1 h3
  obtain ⟨b, off, hA, hbl, hcell⟩ := hat (by omega)
  exact ⟨b, off, hA, hbl, fun i u hu => (hb.cell (p := ⟨b, off + j * 8 + i, none⟩) hbl).trans (hcell j hj i u hu)⟩
theorem Script.form {w : World} {K : Nat} {v : Value} {os : List Op11} (S : Script w K v os) : ∃ A c, v = .slice A os.length c ∧ os.length ≤ c ∧ c ≤ maxLen ∧ ∀ o ∈ os, OpOk w K o := by
  obtain ⟨A, c, rfl, hc, hm, hat, hok⟩ := S
  exact ⟨A, c, rfl, hc, hm, hok⟩
end Go.Proofs.Ytmlchbohijolaaa.Ar

namespace Go.Proofs.Ytmlchbohijolaaa.Ar
set_option maxRecDepth 100000
set_option linter.unusedSimpArgs false
set_option linter.unusedVariables false
open Go.RowKit Ba
open Ro (At Ro Cw ros Rr Ow Nw Fr Att Ap Sh Ra Rv Held cells acells below_new infoI info_row len_cells rowV rowO Few check right)
section
variable {w0 w w' : World} {p B : Nat} {M : List Nd} {F : Nat → Prop} {o : Op11}
end
end Go.Proofs.Ytmlchbohijolaaa.Ar

namespace Go.Proofs.Ytmlchbohijolaaa.Ar
set_option maxRecDepth 100000
set_option linter.unusedSimpArgs false
set_option linter.unusedVariables false
open Go.RowKit Ba
open Ro (At Ro Cw ros Rr Ow Nw Fr Att Ap Sh Ra Rv Held cells acells below_new infoI info_row len_cells rowV rowO Few check right refSame1)
end Go.Proofs.Ytmlchbohijolaaa.Ar

namespace Go.Proofs.Ytmlchbohijolaaa.Ar
set_option maxRecDepth 100000
set_option linter.unusedSimpArgs false
set_option linter.unusedVariables false
open Go.RowKit Ba
open Ro (At Ro Cw ros Rr Ow Nw Fr Att Ap Sh Ra Rv Held cells acells below_new infoI info_row len_cells rowV rowO Few check right refSame1 refSame_any)
section
variable {w0 w w' : World} {p1 p2 B : Nat} {M : List Nd}
theorem Pair.len2 (S : Pair w0 w p1 p2 B M) : M.length ≤ 1000 ∧ B ≤ 1000000 := by
  obtain ⟨F1, F2, T, h⟩ := S
  exact ⟨T.l1, T.few⟩
theorem Pair.refRows (S : Pair w0 w p1 p2 B M) (n : Int) : Calls Try.prog 56 #[ptr p2, .int .i64 n] w fun e w' => ∃ v l, e = .returned v ∧ Rv w' v l ∧ ros l = rowsM M n ∧ l.length ≤ 5000 ∧ Below w.heap.size w w' := by
  obtain ⟨F1, F2, T, h⟩ := S
  have hI := T.i1
  have hl := T.l1
  refine (refRows11 n w T.d2 hI.wf (by omega) (hI.few T.few)).mono ?_
  rintro e w' ⟨A, c, l, rfl, hc, hm, hr, _, hrs, hb, _⟩
  have h2 := rows_short hI.wf n
  exact ⟨_, l, rfl, ⟨A, c, rfl, hc, hm, hr, by rw [hrs]; exact rows_held hI (by omega) n⟩, hrs, by rw [← Ro.len_ros, hrs]; omega, hb⟩
theorem Pair.refKids (S : Pair w0 w p1 p2 B M) (n : Int) : Calls Try.prog 57 #[ptr p2, .int .i64 n] w fun e w' => ∃ v, e = .returned v ∧ Nw w.heap.size w' v (kidsI M n) ∧ Below w.heap.size w w' := by
  obtain ⟨F1, F2, T, h⟩ := S
  obtain ⟨rk, gX, cX, gU, cU, gR, cR, lX, D⟩ := T.d2
  have := T.l1
  exact refKids1 n w D.rd T.i1.wf D.rf (by omega)
theorem kids_out11 (M : List Nd) : kidsI M M.length = [] := by rw [kidsI_nat, nd_out (Nat.lt_irrefl _)]; rfl
theorem cap_of {N n b c : Nat} {w : World} {xs : List Value} (h : w.ownsRow N 65 5 (.slice (some ⟨b, 0, none⟩) n c) n xs) : n ≤ c ∧ c ≤ maxLen := by
  rcases h.2 with ⟨hv, _⟩ | ⟨g, cap, cur, hv, _, _, hn, hm, _⟩
  · cases hv
  · injection hv with _ _ h3
    subst h3
    exact ⟨hn, hm⟩
/-- A node's row alone, and the reference's. -/
theorem same_one {w : World} {p k gX cX gU cU gR cR : Nat} {rk : List Int} {lX : List Cw} {y : Cw} (D : Rd11 w p M rk gX cX gU cU gR cR lX) (I : Inv B M) (hk : k < M.length) (hc : M.length ≤ cX) (hm : cX ≤ maxLen) (ha : Att w w.heap.size y) (hy : y.ro = rowAns M k) :
    Calls Try.prog 26 #[.slice (some ⟨w.heap.size, 0, none⟩) 1 1, .slice (some ⟨gX, k * 5, none⟩) 1 (cX - k)] (w.alloc (rowO y)) fun e w' => e = .returned (.bool true) ∧ Below w.heap.size w w' := by
  have hb := below_new w (rowO y)
  have hlX : lX.length = M.length := by
    have := congrArg List.length D.same
    rwa [Ro.len_ros, List.length_map] at this
  have hkX : k < lX.length := by omega
  have r1 : Rr (w.alloc (rowO y)) (w.alloc (rowO y)).heap.size (some ⟨w.heap.size, 0, none⟩) [y] := by
    refine ⟨fun _ => ⟨w.heap.size, 0, rfl, by simp, fun j hj i u hu => ?_⟩, fun x hx => ?_⟩
    · have hj0 : j = 0 := by
        have : j < 1 := hj
        omega
      subst hj0
      rw [show 0 + 0 * 5 + i = i from by omega, Ro.box_at]
      exact hu
    · rw [List.mem_singleton.1 hx]
      exact (ha.below hb).more hb.size
  have r2 : Rr (w.alloc (rowO y)) (w.alloc (rowO y)).heap.size (some ⟨gX, k * 5, none⟩) [lX[k]] := by
    have := (((D.rows.below hb).more hb.size)).mid k (k + 1) cX (by omega) (by omega) (by omega) (by omega)
    rw [mid_one lX k hkX] at this
    simpa [WideShapes.add_plain] using this
  have hro : ros [y] = ros [lX[k]] := by
    have h1 : (ros lX)[k]'(by rw [Ro.len_ros]; exact hkX) = (M.map Nd.ro)[k]'(by simpa using hk) := by simp [D.same]
    rw [Ro.ros_at lX k hkX, List.getElem_map] at h1
    show [y.ro] = [lX[k].ro]
    rw [h1, hy, ← nd_at hk]
    unfold rowAns
    rw [hasB_iff.2 ⟨by omega, by omega⟩, if_pos rfl, Int.toNat_natCast]
    have := I.wf.flat k
    congr 1
    cases hr : (nd M k).ro
    rw [hr] at this
    simp only at this
    subst this
    rfl
  have h := refSame_any (some ⟨w.heap.size, 0, none⟩) (some ⟨gX, k * 5, none⟩) 1 (cX - k) [y] [lX[k]] (w.alloc (rowO y)) r1 r2 (Nat.le_refl _) (by show 1 ≤ cX - k; omega) (by show (1 : Nat) ≤ _; decide) (by show (1 : Nat) ≤ _; decide)
  rw [decide_eq_true hro] at h
  refine h.mono ?_
  rintro e w' ⟨rfl, hb'⟩
  exact ⟨rfl, bt hb hb'⟩
theorem wrap_less {n : Int} (h1 : 0 ≤ n) (h2 : n ≤ 1000000) : IntKind.i64.wrap n = n := by
  rw [IntKind.wrap_i64]
  omega
theorem rows_neg (M : List Nd) : rowsM M (-1) = [] := by unfold rowsM; rw [if_neg (by omega)]
end
set_option maxRecDepth 100000 in
set_option maxHeartbeats 8000000 in
theorem same11 {w0 w : World} {p1 p2 B : Nat} {M : List Nd} (S : Pair w0 w p1 p2 B M) : Calls Try.prog 18 #[ptr p1, ptr p2] w fun e w' => e = .returned (.bool true) ∧ Below w.heap.size w w' := by
  obtain ⟨gX, cX, hx, hpl⟩ := S.x
  have HS := Lib.hid S
  have HI := Lib.hid S.inv; have HLN := Lib.hid S.len2
  have HL := Lib.hid S.one.len
  clear S
  go_enter Try.func18, Try.ntmps18
  go_wp2_with fail
  refine HL.out.mono ?_
  rintro e w1 ⟨rfl, rfl⟩
  have HR := Lib.hid (HS.out.one.rows HI.out HLN.out.2 (by have := HLN.out.1; omega) 0)
  go_wp2_with fail
  refine HR.out.mono ?_
  rintro e w2 ⟨v2, l2, rfl, hv2, hr2, hl2, _, _, hb2⟩
  have S2 := HS.out.below hb2
  have HR2 := Lib.hid (S2.refRows 0)
  have HV2 := Lib.hid hv2; have HRR2 := Lib.hid hr2; have HLL2 := Lib.hid hl2; have HB2 := Lib.hid hb2
  clear S2 hv2 hr2 hl2 hb2 HR
  go_wp2_with fail
  refine HR2.out.mono ?_
  rintro e w3 ⟨v3, l3, rfl, hv3, hr3, hl3, hb3⟩
  have hv23 : Rv w3 v2 l2 := HV2.out.below hb3
  have HSA := Lib.hid (refSame1 v2 v3 l2 l3 w3 true hv23 hv3 (by have := HLL2.out; have := HLN.out.1; omega) (by omega) (decide_eq_true (by rw [HRR2.out, hr3])))
  have HB3 := Lib.hid (bt HB2.out hb3)
  clear hv3 hr3 hl3 hb3 hv23 HR2
  go_wp2_with fail
  refine HSA.out.mono ?_
  rintro e w4 ⟨rfl, hb4⟩
  have hb04 := bt HB3.out hb4
  have S4 := HS.out.below hb04
  have HP4 := Lib.hid (S4.one.parent M.length (-1) (by rw [if_neg (by omega)]))
  have HK4 := Lib.hid (S4.one.kids HI.out.wf (by have := HLN.out.1; omega) M.length)
  have HB4 := Lib.hid hb04
  clear S4 hb04 hb4 HSA
  go_wp2_with fail
  refine HP4.out.mono ?_
  rintro e w5 ⟨rfl, rfl⟩
  go_wp2_with fail
  refine HK4.out.mono ?_
  rintro e w6 ⟨v6, rfl, hn6, hb6⟩
  rw [kids_out11] at hn6
  obtain ⟨A6, c6, rfl, _, _, _⟩ := nw_rn hn6
  have hb06 := bt HB4.out hb6
  have S6 := HS.out.below hb06
  have HR6 := Lib.hid (S6.one.rows HI.out HLN.out.2 (by have := HLN.out.1; omega) (-1))
  have HB6 := Lib.hid hb06
  clear S6 hb06 hb6 hn6 HK4 HP4
  go_wp2_with fail
  refine HR6.out.mono ?_
  rintro e w7 ⟨v7, l7, rfl, hv7, hr7, hl7, _, _, hb7⟩
  have hl70 : l7 = [] := by
    have h1 : (ros l7).length = 0 := by rw [hr7, rows_neg]; rfl
    rw [Ro.len_ros] at h1
    exact List.eq_nil_of_length_eq_zero h1
  subst hl70
  obtain ⟨A7, c7, rfl, _, _, _, _⟩ := hv7
  have HS7 := Lib.hid (HS.out.below (bt HB6.out hb7)); have HB7 := Lib.hid (bt HB6.out hb7)
  clear hr7 hl7 hb7 HR6
  go_upto_region 5 with (fail)
  go_wp2_with fail
  go_loopw [6] (fun i wx => ∃ (k : Nat), i = .int .i64 k ∧ k ≤ M.length ∧ Pair w0 wx p1 p2 B M ∧ Below w1.heap.size w1 wx) (fun i _ => M.length - (intOf i).toNat)
  case atStart => exact ⟨0, rfl, Nat.zero_le _, HS7.out, HB7.out⟩
  case round =>
    obtain ⟨k, rfl, hk, S, hb⟩ := hrel
    have HSK := Lib.hid S; have HBK := Lib.hid hb
    clear hb
    by_cases hkl : k < M.length
    · have hki : (k : Int) < M.length := by omega
      have HRW := Lib.hid (S.one.row HI.out HLN.out.2 k 0 (by rw [hasB_iff.2 ⟨by omega, by omega⟩]; rfl))
      clear S
      go_wp2_with fail
      refine HRW.out.mono ?_
      rintro e w8 ⟨y, rfl, hy, hfr, hb8⟩
      have HY := Lib.hid hy
      have hY := Ro.Fr.att hfr
      obtain ⟨w9, hw9⟩ : ∃ w9, w8.alloc (rowO y) = w9 := ⟨_, rfl⟩
      have hb9 : Below w8.heap.size w8 w9 := hw9 ▸ below_new w8 _
      have hbx : w9.heap[w8.heap.size]? = some (rowO y) := hw9 ▸ heap_alloc_new w8 _
      have hlt9 : w8.heap.size < w9.heap.size := by rw [← hw9]; simp
      have hfr9 : Att w9 w9.heap.size y := (hY.below hb9).more hb9.size
      have hb19 := bt hb8 hb9
      have S9 := HSK.out.below hb19
      have HB9 := Lib.hid (bt HBK.out hb19)
      have HS9 := Lib.hid S9
      obtain ⟨F1, F2, T9, _⟩ := S9
      obtain ⟨rk, gX9, cX9, gU, cU, gR, cR, lX, D9⟩ := T9.d2
      have HD9 := Lib.hid D9.rd
      have HBL := Lib.hid (fun (wx : World) (hb : Below w9.heap.size w9 wx) => show wx.cell? ⟨p2, 0, none⟩ = some (.slice (some ⟨gX9, 0, none⟩) M.length cX9) ∧ wx.cell? ⟨p2, 1, none⟩ = some (.slice (some ⟨gU, 0, none⟩) M.length cU) ∧ wx.cell? ⟨gU, k, none⟩ = some (.int .i64 (nd M k).up) ∧ wx.cell? ⟨w8.heap.size, 0, none⟩ = some (.int .i64 y.ro.depth) ∧ wx.cell? ⟨w8.heap.size, 1, none⟩ = some (.int .i64 y.ro.kind) ∧ wx.cell? ⟨w8.heap.size, 2, none⟩ = some (.string y.ro.name) ∧ wx.cell? ⟨w8.heap.size, 3, none⟩ = some (.string y.ro.data) ∧ wx.cell? ⟨w8.heap.size, 4, none⟩ = some (.slice y.A y.ro.attrs.length y.c) from
        have hbx' := (hb.block _ hlt9).trans hbx
        ⟨(HD9.out.below hb).x, (HD9.out.below hb).u, ups_at (HD9.out.below hb).ups hkl, cell_of_row _ _ 0 _ _ _ hbx', cell_of_row _ _ 1 _ _ _ hbx', cell_of_row _ _ 2 _ _ _ hbx', cell_of_row _ _ 3 _ _ _ hbx', cell_of_row _ _ 4 _ _ _ hbx'⟩)
      have HPA := Lib.hid (fun (wx : World) (hb : Below w9.heap.size w9 wx) => (HS9.out.below hb).one.parent k (nd M k).up (by rw [if_pos ⟨by omega, by omega⟩, Int.toNat_natCast]))
      have HKI := Lib.hid (fun (wx : World) (hb : Below w9.heap.size w9 wx) => (HS9.out.below hb).one.kids HI.out.wf (by have := HLN.out.1; omega) k)
      have HRK := Lib.hid (fun (wx : World) (hb : Below w9.heap.size w9 wx) => (HS9.out.below hb).refKids k)
      have HW9 := Lib.hid hw9; have HAY := Lib.hid hfr9
      obtain ⟨z0, z1, z2, z3, z4, z5, z6, z7⟩ := HBL.out w9 (Below.refl _ _)
      have hk1 : (k : Int) + 1 ≤ M.length := by omega
      obtain ⟨hcX, hcXm⟩ := cap_of D9.rows
      have hkc : (M.length : Int) ≤ cX9 := by omega
      have hk00 : (0 : Int) ≤ k := by omega
      have hk2 : (k : Int) ≤ (k : Int) + 1 := by omega
      have hkc2 : (k : Int) + 1 ≤ cX9 := by omega
      have hne9 : ¬ cX9 = k := by omega
      have HSM := Lib.hid (fun (wx : World) (hb : Below w9.heap.size w9 wx) => same_one (D := HD9.out.below hb) HI.out hkl hcX hcXm (hfr9.below hb |>.more hb.size) hy)
      have hkw : IntKind.i64.wrap ((k : Int) + 1) = (k : Int) + 1 := by
        have := HLN.out.1
        exact wrap_less (by omega) (by omega)
      clear hy hfr hY hb8 hb9 hbx hlt9 hfr9 hb19 T9 D9 hw9 HRW HBK
      go_upto_region 8 with (fail)
      rw [HW9.out]
      go_region_held3 (fun w' => w'.cell? ⟨p2, 0, none⟩ = some (.slice (some ⟨gX9, 0, none⟩) M.length cX9) ∧ w'.cell? ⟨p2, 1, none⟩ = some (.slice (some ⟨gU, 0, none⟩) M.length cU) ∧ w'.cell? ⟨gU, k, none⟩ = some (.int .i64 (nd M k).up) ∧ w'.cell? ⟨w8.heap.size, 0, none⟩ = some (.int .i64 y.ro.depth) ∧ w'.cell? ⟨w8.heap.size, 1, none⟩ = some (.int .i64 y.ro.kind) ∧ w'.cell? ⟨w8.heap.size, 2, none⟩ = some (.string y.ro.name) ∧ w'.cell? ⟨w8.heap.size, 3, none⟩ = some (.string y.ro.data) ∧ w'.cell? ⟨w8.heap.size, 4, none⟩ = some (.slice y.A y.ro.attrs.length y.c)) (first | exact HBL.out _ (bel_eq (Below.refl _ w9) rfl rfl rfl rfl) | exact HBL.out _ (bel_eq HBA.out rfl rfl rfl rfl) | exact HBL.out _ (bel_eq HBB.out rfl rfl rfl rfl) | exact HBL.out _ (bel_eq HBC.out rfl rfl rfl rfl) | exact HBL.out _ (bel_eq HBD.out rfl rfl rfl rfl) | exact HBL.out _ (bel_eq (bt HBC.out (below_new _ _)) rfl rfl rfl rfl) | go_keep) (first
        | (go_at_call 31; refine (HPA.out _ (by exact bel_eq (Below.refl _ w9) rfl rfl rfl rfl)).mono ?_; rintro e5 w5 ⟨rfl, rfl⟩)
        | (go_at_call 28; refine (HKI.out _ (by exact bel_eq (Below.refl _ w9) rfl rfl rfl rfl)).mono ?_; rintro ea wA ⟨va, rfl, hna, hba⟩; have hba' : Below w9.heap.size w9 wA := ⟨hba.os, hba.tape, hba.output, hba.size, hba.block⟩; have HBA := Lib.hid hba'; have HNA := Lib.hid hna; clear hna hba hba')
        | (go_at_call 57; refine (HRK.out _ (by exact bel_eq HBA.out rfl rfl rfl rfl)).mono ?_; rintro eb wB ⟨vb, rfl, hnb, hbb⟩; have hbb' : Below wA.heap.size wA wB := ⟨hbb.os, hbb.tape, hbb.output, hbb.size, hbb.block⟩; have HBB := Lib.hid (bt HBA.out hbb'); have HNB := Lib.hid hnb; have HNAB := Lib.hid (HNA.out.below hbb'); clear hnb hbb hbb')
        | (go_at_call 49; refine (nums1 _ (by exact HNAB.out) (by exact HNB.out) true (decide_eq_true rfl)).mono ?_; rintro ec wC ⟨rfl, hbc⟩; have hbc' : Below wB.heap.size wB wC := ⟨hbc.os, hbc.tape, hbc.output, hbc.size, hbc.block⟩; have HBC := Lib.hid (bt HBB.out hbc'); clear hbc hbc')
        | (go_at_call 26; go_loud (refine (HSM.out wC HBC.out).mono ?_); rintro ed wD ⟨rfl, hbd⟩; have HBD := Lib.hid (bt HBC.out hbd); clear hbd))
      go_simp
      go_wp2_with fail
      go_roundw
      case rel => exact ⟨k + 1, by go_num, by omega, HS9.out.below (bel_eq HBD.out rfl rfl rfl rfl), bt HB9.out (bel_eq HBD.out rfl rfl rfl rfl)⟩
      case measure => simp [intOf]; omega
    · have hki : ¬ (k : Int) < M.length := by omega
      have hke : k = M.length := by omega
      subst hke
      have HRW := Lib.hid (S.one.row HI.out HLN.out.2 (M.length : Nat) 110 (by rw [show hasB M (M.length : Nat) = false from by rw [← Bool.not_eq_true, hasB_iff]; omega]; rfl))
      clear S
      go_wp2_with fail
      refine HRW.out.mono ?_
      rintro e w8 ⟨y, rfl, hy, hfr, hb8⟩
      have HB8 := Lib.hid (bt HBK.out hb8)
      clear hy hfr hb8
      go_wp2
      go_ret
      exact ⟨rfl, bt HB8.out (below_new _ _)⟩
end Go.Proofs.Ytmlchbohijolaaa.Ar

namespace Go.Proofs.Ytmlchbohijolaaa.Ar
set_option maxRecDepth 100000
set_option linter.unusedSimpArgs false
set_option linter.unusedVariables false
open Go.RowKit Ba
open Ro (At Ro Cw ros Rr Ow Nw Fr Att Ap Sh Ra Rv Held cells acells below_new infoI info_row len_cells rowV rowO Few check right refSame1)
theorem Doc12.mono {w : World} {N N' : Nat} {F : Nat → Prop} {p : Nat} {M : List Nd} (h : Doc12 w N F p M) (hN : N' ≤ N) : Doc12 w N' F p M := by
  obtain ⟨gE, cE, lE, D⟩ := h
  exact ⟨gE, cE, lE, ⟨D.box, World.ownsRow.mono D.ents hN, fun e he => ⟨⟨(D.attrs e he).1.1.mono hN, (D.attrs e he).1.2⟩, (D.attrs e he).2⟩, fun e he => ⟨Of.mono (D.kids e he).1 hN, (D.kids e he).2⟩, D.apA, D.apK, D.same, Nat.le_trans hN D.low, D.fp, D.fe, D.bd⟩⟩
/-- A copy: the old document alone, and what holds of the new one whatever is done to the old one. -/
theorem Pair.copy {w0 w : World} {p1 p2 B : Nat} {M : List Nd} (S : Pair w0 w p1 p2 B M) : Calls Try.prog 13 #[ptr p1] w fun e w' => ∃ p3 F1, e = .returned (ptr p3) ∧ OneF w0 w' F1 p1 M ∧ ∀ w2 F1', Next w' w2 F1 F1' → Pair w0 w2 p3 p2 B M := by
  obtain ⟨F1, F2, T, h⟩ := S
  have hl1 := T.l1
  refine (copyP1 w T.d1 T.i1.wf (by omega) (T.i1.few T.few)).mono ?_
  rintro e w' ⟨p3, F3, rfl, D3, hb, hl⟩
  have hs := h.size
  have hs1 := hb.size
  refine ⟨p3, F1, rfl, ⟨T.d1.below hb, T.low1, bt h hb⟩, fun w2 F1' n => ?_⟩
  have hs2 := n.1.size
  have e1 : Doc12 w2 w0.heap.size F3 p3 M := (D3.mono hs).touch n.1 fun b hf h1 => by
    have := T.d1.bd b h1
    have := hl b hf
    omega
  have e2 : Doc11 w2 w0.heap.size F2 p2 M := by
    obtain ⟨rk, gX, cX, gU, cU, gR, cR, lX, D⟩ := T.d2.below hb
    exact ⟨rk, gX, cX, gU, cU, gR, cR, lX, D.touch n.1 fun b hf h1 => T.apart b h1 hf⟩
  have hbb := bt h hb
  refine ⟨F3, F2, ⟨e1, e2, fun b h3 h2 => ?_, fun b h3 => Nat.le_trans hs (hl b h3), T.low2, T.i1, T.i2, T.l1, T.l2, T.few, by omega⟩, ⟨n.1.os.trans hbb.os, n.1.tape.trans hbb.tape, n.1.output.trans hbb.output, by omega, fun b hlt => (n.1.block b (by omega) fun hf => ?_).trans (hbb.block b hlt)⟩⟩
  · have := T.d2.bd b h2
    have := hl b h3
    omega
  · have := T.low1 b hf
    omega
def bLeft : ByteArray := ⟨#[108, 101, 102, 116]⟩
set_option maxRecDepth 100000 in
set_option maxHeartbeats 8000000 in
theorem law_does (v : Value) (os : List Op11) (w : World) (S : Script w w.heap.size v os) (_ : True) : Calls Try.prog 3 #[v] w fun e w' => e = .returned (.bool true) ∧ Below w.heap.size w w' := by
  have HSC := Lib.hid S
  obtain ⟨A, c, rfl, hc, hcm, hok⟩ := S.form
  have HOK := Lib.hid hok
  clear S hok
  go_enter Try.func3, Try.ntmps3
  go_wp2_with fail
  refine (newP1 w).mono ?_
  rintro e w1 ⟨p1, F1, rfl, D1, hb1, hl1⟩
  have HD1 := Lib.hid D1; have HB1 := Lib.hid hb1; have HL1 := Lib.hid hl1
  clear D1 hb1 hl1
  go_wp2_with fail
  refine (refNew1 w1).mono ?_
  rintro e w2 ⟨p2, F2, rfl, D2, hb2, hl2⟩
  have HS2 := Lib.hid (Pair.new HD1.out HB1.out HL1.out D2 hb2 hl2)
  clear D2 hb2 hl2 HD1 HB1 HL1
  go_upto_region 2 with (fail)
  go_wp2_with fail
  go_loopw [3, 5] (fun s3 i wr => ∃ (j q1 : Nat) (M : List Nd), s3 = ptr q1 ∧ i = .int .i64 j ∧ j ≤ 40 ∧ Pair w wr q1 p2 (4 + j) M ∧ M.length ≤ 612) (fun _ i _ => 40 - (intOf i).toNat)
  case atStart => exact ⟨0, p1, M0, rfl, rfl, by omega, HS2.out, by decide⟩
  case round =>
    clear HS2
    obtain ⟨j, q1, M, rfl, rfl, hj, S, hm⟩ := hrel
    obtain ⟨gx, cx, hx, hplt⟩ := S.x
    have HS := Lib.hid S; have HM := Lib.hid hm; have HPL := Lib.hid hplt
    clear S hplt
    by_cases h1 : j < os.length
    · by_cases h2 : j < 40
      · have hj1 : (j : Int) < os.length := by omega
        have hj2 : (j : Int) < 40 := by omega
        by_cases h3 : 300 < M.length
        · have hm3 : (300 : Int) < M.length := by omega
          have HB := Lib.hid HS.out.bel
          go_wp2_with fail
          refine (fixed11 _).mono ?_
          rintro e w6 ⟨rfl, hb6⟩
          have HB6 := Lib.hid (bt HB.out hb6)
          clear hb6
          go_wp2
          go_ret
          exact ⟨rfl, HB6.out⟩
        · have hm3 : ¬ (300 : Int) < M.length := by omega
          obtain ⟨b0, off, hA, hbl, hk⟩ := HSC.out.cells HS.out.bel h1
          subst hA
          obtain ⟨o, ho⟩ : ∃ o, os[j] = o := ⟨_, rfl⟩
          have HOO := Lib.hid (HOK.out o (ho ▸ List.getElem_mem h1))
          rw [ho] at hk
          have d0 := hk 0 _ rfl
          have d1 := hk 1 _ rfl
          have d2 := hk 2 _ rfl
          have d3 := hk 3 _ rfl
          have d4 := hk 4 _ rfl
          have d5 := hk 5 _ rfl
          have d6 := hk 6 _ rfl
          have d7 := hk 7 _ rfl
          rw [Nat.add_zero] at d0
          clear ho hk
          go_upto_region 8 with (fail)
          rename World => wr
          obtain ⟨w3, hw3⟩ : ∃ w3, wr.alloc (opO o) = w3 := ⟨_, rfl⟩
          have hb3 : Below wr.heap.size wr w3 := hw3 ▸ below_new wr _
          have hbx : w3.heap[wr.heap.size]? = some (opO o) := hw3 ▸ heap_alloc_new wr _
          have HS3 := Lib.hid (HS.out.below hb3)
          obtain ⟨z0, z1, z2, z3, z4, z5, z6, z7⟩ := op_cells hbx
          have HW3 := Lib.hid hw3
          clear hb3 hbx hw3 d0 d1 d2 d3 d4 d5 d6 d7 hx
          rw [HW3.out]
          by_cases hk8 : o.kind = 8
          · rw [hk8] at z0
            have HCP := Lib.hid HS3.out.copy
            clear hk8
            go_wp2_with fail
            refine HCP.out.mono ?_
            rintro e w4 ⟨p3, Fo, rfl, So, hkeep⟩
            have HKP := Lib.hid hkeep
            have hI := HS.out.inv
            have hml : M.length ≤ 300 := by omega
            have HI1 := Lib.hid (hI.make 0 bLeft ⟨#[]⟩)
            have hl1 := makeM_len M 0 bLeft ⟨#[]⟩
            have HI2 := Lib.hid (HI1.out.rem 1)
            have HL1 := Lib.hid hl1
            have HMK := Lib.hid (So.make (by omega) 0 bLeft ⟨#[]⟩ (by decide) _ _ _ rfl rfl)
            clear So hkeep hI hl1 HCP
            go_wp2_with fail
            refine HMK.out.mono ?_
            rintro e w5 ⟨rfl, F5, S5, N5⟩
            obtain ⟨qr, hqr⟩ : ∃ qr : Int, (if 1 ≤ (1 : Int) ∧ (1 : Int) < (makeM M 0 bLeft ⟨#[]⟩).length then (0 : Int) else 110) = qr := ⟨_, rfl⟩
            have HRM := Lib.hid (S5.remove HI1.out.wf (by have := HL1.out; omega) 1 qr _ hqr rfl)
            clear hqr
            have HN5 := Lib.hid N5
            clear S5 N5 HMK
            go_wp2_with fail
            refine HRM.out.mono ?_
            rintro e w6 ⟨rfl, F6, S6, N6⟩
            have HAT := Lib.hid (S6.attr HI2.out (by omega) 1 bLeft ⟨#[]⟩ (by decide) _ _ rfl rfl)
            have HN6 := Lib.hid (HN5.out.trans N6)
            clear S6 N6 HRM
            go_wp2_with fail
            refine HAT.out.mono ?_
            rintro e w7 ⟨rfl, F7, S7, N7⟩
            have HP7 := Lib.hid (HKP.out w7 F7 (HN6.out.trans N7))
            clear S7 N7 HAT
            go_wp2_with fail
            go_roundw
            case rel => exact ⟨j + 1, p3, M, rfl, by go_num, by omega, by obtain ⟨F1, F2, T, h⟩ := HP7.out; exact ⟨F1, F2, ⟨T.d1, T.d2, T.apart, T.low1, T.low2, T.i1.more (by omega), T.i2.more (by omega), T.l1, T.l2, by omega, T.hK⟩, h⟩, HM.out⟩
            case measure => simp [intOf]; omega
          · have hkb : (o.kind == 8) = false := beq_eq_false_iff_ne.2 hk8
            have HTL := Lib.hid (HS3.out.tells HOO.out (by omega) (by omega) (by omega))
            have HOL := Lib.hid (opM_len HS.out.inv.wf o)
            clear hk8
            go_wp2_with fail
            refine HTL.out.mono ?_
            rintro e wt ⟨rfl, St⟩
            have HST := Lib.hid St
            have HSA := Lib.hid (same11 St)
            clear St z0 z1 z2 z3 z4 z5 z6 z7
            go_wp2_with fail
            refine HSA.out.mono ?_
            rintro e wu ⟨rfl, hbu⟩
            have HSU := Lib.hid (HST.out.below hbu)
            clear hbu
            go_wp2_with fail
            go_roundw
            case rel => exact ⟨j + 1, q1, opM M o, rfl, by go_num, by omega, by rw [show 4 + (j + 1) = 4 + j + 1 from rfl]; exact HSU.out, by have := HOL.out; omega⟩
            case measure => simp [intOf]; omega
      · have hj1 : (j : Int) < os.length := by omega
        have hj2 : ¬ (j : Int) < 40 := by omega
        have HB := Lib.hid HS.out.bel
        go_wp2_with fail
        refine (fixed11 _).mono ?_
        rintro e w6 ⟨rfl, hb6⟩
        have HB6 := Lib.hid (bt HB.out hb6)
        clear hb6
        go_wp2
        go_ret
        exact ⟨rfl, HB6.out⟩
    · have hj1 : ¬ (j : Int) < os.length := by omega
      have HB := Lib.hid HS.out.bel
      go_wp2_with fail
      refine (fixed11 _).mono ?_
      rintro e w6 ⟨rfl, hb6⟩
      have HB6 := Lib.hid (bt HB.out hb6)
      clear hb6
      go_wp2
      go_ret
      exact ⟨rfl, HB6.out⟩
end Go.Proofs.Ytmlchbohijolaaa.Ar

namespace Go.Proofs.Ytmlchbohijolaaa.Rz
set_option maxRecDepth 100000
set_option linter.unusedVariables false
set_option linter.unusedSimpArgs false
open Go.RowKit Ba Go.ChangeShapes Go.WideShapes Go.Deep
open Ro (At Ro Cw ros Rv Rr Att Held cells acells Ra Sh)
/-- Each string that is read there, and each row of memory, is within the reach. -/
def Within {H : Type} (P : Program) (t : TypeId) (d : DataW H) : Prop := ∀ m ∈ d.weights P t, m ≤ reachBytes
theorem within_all {H : Type} {P : Program} {e : TypeId} {d : DataW H} {m : Nat} : ∀ {l : List (DataW H)}, d ∈ l → m ∈ d.weights P e → m ∈ DataW.weightsAll P e l
  | [], h, _ => by cases h
  | x :: r, h, hm => by
    rw [DataW.weightsAll, List.mem_append]
    rcases List.mem_cons.1 h with rfl | h
    · exact .inl hm
    · exact .inr (within_all h hm)
theorem Within.elem {H : Type} {P : Program} {t e : TypeId} {l sp : List (DataW H)} {d : DataW H} (h : Within P t (.slice l sp)) (ht : P.underlying t = some (.slice e)) (hd : d ∈ l) : Within P e d := fun m hm => h m (by
  simp only [DataW.weights, ht, List.mem_cons, List.mem_append]
  exact .inr (.inl (within_all hd hm)))
theorem Within.part {H : Type} {P : Program} {t : TypeId} {fs : Array Field} {l : List (DataW H)} {d : DataW H} {j : Nat} {f : Field} (h : Within P t (.agg l)) (ht : P.underlying t = some (.struct fs)) (hf : fs[j]? = some f) (hd : l[j]? = some d) : Within P f.type d := fun m hm => h m (by
  simp only [DataW.weights, ht]
  exact DataW.weights_mem_each (j := j) (by rw [List.getElem?_map, Array.getElem?_toList, hf]; rfl) hd m hm)
theorem Within.str {H : Type} {P : Program} {t : TypeId} {s : ByteArray} (h : Within P t (.lit (.string s.data.toList) : DataW H)) : s.size ≤ reachBytes := by
  have := h s.data.toList.length (by simp [DataW.weights])
  rw [Array.length_toList] at this
  exact this
theorem sized_all {H : Type} {P : Program} {ts : List TypeId} {ds : List (DataW H)} (h : (DataW.weightsEach P ts ds).all (· ≤ reachBytes) = true) {j : Nat} {t : TypeId} {d : DataW H} (ht : ts[j]? = some t) (hd : ds[j]? = some d) : Within P t d := fun m hm => by
  have := List.all_eq_true.1 h m (DataW.weights_mem_each ht hd m hm)
  simpa using this

theorem reach_le {n : Nat} (h : n ≤ reachBytes) : n ≤ 140737488355328 := Nat.le_trans h (by decide)
section
variable {H : Type} {enc : TypeId × Value → H} {w : World} {base : Nat}
end
end Go.Proofs.Ytmlchbohijolaaa.Rz
