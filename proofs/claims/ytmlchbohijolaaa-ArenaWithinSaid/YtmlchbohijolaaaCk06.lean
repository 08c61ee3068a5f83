/-
  Stage 11: a call of a script in memory; the laws' tells, for one kind of call.
  Stage 11: the laws' tells: Make, Clone, Load, and what is no call.
  Stage 11: the laws' tells: Make, Clone, Load, and what is no call.
  Stage 11: the program's document alone, among the blocks that are new since a world.
  Stage 11: calls whose answers the document fixes.
  Stage 11: the laws' fixed, walked.
  Stage 11: a script in memory; a document on which it was played.
  Stage 11: the program's document with its blocks named; rows of one's own are kept.
  Stage 11, in plain words: what a move leaves.
  Stage 11: ArenaMoves, walked.
  What a statement's row says of the sizes of strings that lie within slices of structs: each is no greater than the reach.
  Stage 11: arguments that are calls of a script, as the statement's row reads them.
  Stage 11: the program's document and the reference's of the same nodes.
  Stage 11, in plain words: what stands in the root is told by Rows once.
  Stage 11: ArenaWithin, walked.
  Stage 11: what answers an error changes no node.
-/
import Derived.Test.YtmlchbohijolaaaCk04
import Derived.Test.YtmlchbohijolaaaCk05
import Derived.Test.YtmlchbohijolaaaCk02
import Derived.Test.YtmlchbohijolaaaCk03
import Derived.SizedLaws
import Derived.Test.YtmlchbohijolaaaCk01
namespace Go.Proofs.Ytmlchbohijolaaa.Ar
set_option maxRecDepth 100000
set_option linter.unusedSimpArgs false
set_option linter.unusedVariables false
open Go.RowKit Ba
open Ro (At Ro Cw ros Rr Ow Nw Fr Att Ap Sh Ra Rv Held cells acells below_new infoI info_row len_cells rowV rowO Few check right)
abbrev opV (o : Op11) : Value := .agg #[.int .i64 o.kind, .int .i64 o.node, .int .i64 o.other, .int .i64 o.at_, .int .i64 o.what, .string o.name, .string o.value, .slice o.A o.x.length o.c]
abbrev opO (o : Op11) : Obj := .cells #[.int .i64 o.kind, .int .i64 o.node, .int .i64 o.other, .int .i64 o.at_, .int .i64 o.what, .string o.name, .string o.value, .slice o.A o.x.length o.c] 33
/-- A call that can be read, its rows below block K. -/
structure OpOk (w : World) (K : Nat) (o : Op11) : Prop where
  cap : o.x.length ≤ o.c ∧ o.c ≤ maxLen
  rows : Rr w K o.A o.x
  held : Held (ros o.x)
  name : o.name.size ≤ 140737488355328
  what : -9223372036854775808 ≤ o.what ∧ o.what ≤ 9223372036854775807
def FU (F1 F2 : Nat → Prop) (b : Nat) : Prop := F1 b ∨ F2 b
section
variable {w w0 w1 w2 : World} {N p1 p2 : Nat} {F1 F2 F1' F2' : Nat → Prop} {M M2 M' M2' : List Nd}
theorem doc_mid (D1 : Doc12 w0 N F1 p1 M) (D2 : Doc11 w0 N F2 p2 M2) (hd : ∀ b, F1 b → ¬ F2 b) (n1 : Next w0 w1 F1 F1') : Doc11 w1 N F2 p2 M2 ∧ ∀ b, F1' b → ¬ F2 b := by
  refine ⟨?_, fun b hb hf => ?_⟩
  · obtain ⟨rk, gX, cX, gU, cU, gR, cR, lX, D⟩ := D2
    exact ⟨rk, gX, cX, gU, cU, gR, cR, lX, D.touch n1.1 fun b hf h1 => hd b h1 hf⟩
  · rcases n1.2.2 b hb with h | h
    · exact hd b h hf
    · have := D2.bd b hf
      omega
theorem doc_end (hb : Below w.heap.size w w0) (D2 : Doc11 w1 N F2 p2 M2) (n1 : Next w0 w1 F1 F1') (hd : ∀ b, F1' b → ¬ F2 b) (E1 : Doc12 w1 N F1' p1 M') (n2 : Next w1 w2 F2 F2') : Doc12 w2 N F1' p1 M' ∧ (∀ b, F1' b → ¬ F2' b) ∧ Next w w2 (FU F1 F2) (FU F1' F2') := by
  have hs1 := n1.1.size
  have hs2 := n2.1.size
  have hs0 := hb.size
  refine ⟨E1.touch n2.1 hd, fun b hb1 hf => ?_, ⟨⟨n2.1.os.trans (n1.1.os.trans hb.os), n2.1.tape.trans (n1.1.tape.trans hb.tape), n2.1.output.trans (n1.1.output.trans hb.output), by omega, fun b hlt hn => ?_⟩, fun b h => ?_, fun b h => ?_⟩⟩
  · rcases n2.2.2 b hf with h | h
    · exact hd b hb1 h
    · have := E1.bd b hb1
      omega
  · exact (n2.1.block b (by omega) fun h => hn (.inr h)).trans ((n1.1.block b (by omega) fun h => hn (.inl h)).trans (hb.block b hlt))
  · exact h.elim (fun h => .inl (n1.2.1 b h)) (fun h => .inr (n2.2.1 b h))
  · rcases h with h | h
    · rcases n1.2.2 b h with h | h
      · exact .inl (.inl h)
      · exact .inr (by omega)
    · rcases n2.2.2 b h with h | h
      · exact .inl (.inr h)
      · exact .inr (by omega)
end
def TellsSays (N p1 p2 : Nat) (F1 F2 : Nat → Prop) (M M2 : List Nd) (o : Op11) (w : World) : Prop :=
  Calls Try.prog 17 #[.pointer (some ⟨p1, 0, none⟩), .pointer (some ⟨p2, 0, none⟩), opV o] w fun e w' => ∃ b, e = .returned (.bool b) ∧ (M = M2 → b = true) ∧ ∃ F1' F2', Doc12 w' N F1' p1 (opM M o) ∧ Doc11 w' N F2' p2 (opM M2 o) ∧ (∀ b, F1' b → ¬ F2' b) ∧ Next w w' (FU F1 F2) (FU F1' F2')
/-- Two documents, apart. -/
structure Two (w : World) (N K p1 p2 : Nat) (F1 F2 : Nat → Prop) (B : Nat) (M M2 : List Nd) : Prop where
  d1 : Doc12 w N F1 p1 M
  d2 : Doc11 w N F2 p2 M2
  apart : ∀ b, F1 b → ¬ F2 b
  low1 : ∀ b, F1 b → K ≤ b
  low2 : ∀ b, F2 b → K ≤ b
  i1 : Inv B M
  i2 : Inv B M2
  l1 : M.length ≤ 1000
  l2 : M2.length ≤ 1000
  few : B ≤ 1000000
  hK : K ≤ w.heap.size
section
variable {w : World} {N K p1 p2 B : Nat} {F1 F2 : Nat → Prop} {M M2 : List Nd} {o : Op11}
theorem op_cells {w' : World} {h : Nat} (hb : w'.heap[h]? = some (opO o)) : w'.cell? ⟨h, 0, none⟩ = some (.int .i64 o.kind) ∧ w'.cell? ⟨h, 1, none⟩ = some (.int .i64 o.node) ∧ w'.cell? ⟨h, 2, none⟩ = some (.int .i64 o.other) ∧ w'.cell? ⟨h, 3, none⟩ = some (.int .i64 o.at_) ∧ w'.cell? ⟨h, 4, none⟩ = some (.int .i64 o.what) ∧ w'.cell? ⟨h, 5, none⟩ = some (.string o.name) ∧ w'.cell? ⟨h, 6, none⟩ = some (.string o.value) ∧ w'.cell? ⟨h, 7, none⟩ = some (.slice o.A o.x.length o.c) :=
  ⟨cell_of_row w' h 0 _ _ _ hb, cell_of_row w' h 1 _ _ _ hb, cell_of_row w' h 2 _ _ _ hb, cell_of_row w' h 3 _ _ _ hb, cell_of_row w' h 4 _ _ _ hb, cell_of_row w' h 5 _ _ _ hb, cell_of_row w' h 6 _ _ _ hb, cell_of_row w' h 7 _ _ _ hb⟩
set_option maxRecDepth 100000 in
set_option maxHeartbeats 4000000 in
theorem tells_ins (T : Two w N K p1 p2 F1 F2 B M M2) (O : OpOk w K o) (hk : o.kind = 2) : TellsSays N p1 p2 F1 F2 M M2 o w := by
  have e1 : ∀ L, opM L o = insM L o.node o.at_ o.other := fun L => by unfold opM; simp [hk]
  have hb0 := below_new w (opO o)
  have hbx := heap_alloc_new w (opO o)
  have hsz : w.heap.size < (w.alloc (opO o)).heap.size := by simp
  obtain ⟨w0, hw0⟩ : ∃ w0, w.alloc (opO o) = w0 := ⟨_, rfl⟩
  rw [hw0] at hb0 hbx hsz
  obtain ⟨c0, c1, c2, c3, c4, c5, c6, c7⟩ := op_cells hbx
  rw [hk] at c0
  have hnm := O.name
  have D1 := T.d1.below hb0
  have D2 := T.d2.below hb0
  have HP := Lib.hid (insertP1 o.node o.at_ o.other _ D1 T.i1.wf (by have := T.l1; omega))
  have HR := Lib.hid (fun (w1 : World) (F1' : Nat → Prop) (n1 : Next w0 w1 F1 F1') => refInsert1 o.node o.at_ o.other w1 (doc_mid D1 D2 T.apart n1).1 T.i2.wf (by have := T.l2; omega))
  have HX := Lib.hid (fun (w1 : World) (F1' : Nat → Prop) (n1 : Next w0 w1 F1 F1') => op_cells ((nx_block n1 (b := w.heap.size) hsz (fun h => Nat.lt_irrefl _ (T.d1.bd _ h))).1.trans hbx))
  have HT := Lib.hid T; have HD1 := Lib.hid D1; have HD2 := Lib.hid D2; have HB0 := Lib.hid hb0; have HE := Lib.hid e1
  have HW0 := Lib.hid hw0; have HKN := Lib.hid hk
  clear D1 D2 hb0 hbx e1 hw0 hk
  unfold TellsSays
  go_enter Try.func17, Try.ntmps17
  go_upto_region 1 with (fail)
  rw [HW0.out]
  go_wp2_with fail
  refine HP.out.mono ?_
  rintro e w1 ⟨rfl, F1', E1, N1⟩
  obtain ⟨_, d1, d2, d3, d4, d5, d6, d7⟩ := HX.out w1 F1' N1
  have HRR := Lib.hid (HR.out w1 F1' N1)
  obtain ⟨E2, hap⟩ := doc_mid HD1.out HD2.out HT.out.apart N1
  have HE1 := Lib.hid E1; have HN1 := Lib.hid N1; have HE2 := Lib.hid E2; have HAP := Lib.hid hap
  clear E1 N1 E2 hap c0 c1 c2 c3 c4 c5 c6 c7
  go_wp2_with fail
  refine HRR.out.mono ?_
  rintro e w2 ⟨rfl, F2', G2, N2⟩
  obtain ⟨G1, hap2, N12⟩ := doc_end HB0.out HE2.out HN1.out HAP.out HE1.out N2
  have HG1 := Lib.hid G1; have HG2 := Lib.hid G2; have HA2 := Lib.hid hap2; have HN12 := Lib.hid N12
  clear G1 G2 hap2 N12 N2
  go_wp2
  go_ret
  exact ⟨_, rfl, fun h => by subst h; simp, F1', F2', by rw [HE.out]; exact HG1.out, by rw [HE.out]; exact HG2.out, HA2.out, HN12.out⟩
set_option maxRecDepth 100000 in
set_option maxHeartbeats 4000000 in
theorem tells_rem (T : Two w N K p1 p2 F1 F2 B M M2) (O : OpOk w K o) (hk : o.kind = 3) : TellsSays N p1 p2 F1 F2 M M2 o w := by
  have e1 : ∀ L, opM L o = remM L o.node := fun L => by unfold opM; simp [hk]
  have hb0 := below_new w (opO o)
  have hbx := heap_alloc_new w (opO o)
  have hsz : w.heap.size < (w.alloc (opO o)).heap.size := by simp
  obtain ⟨w0, hw0⟩ : ∃ w0, w.alloc (opO o) = w0 := ⟨_, rfl⟩
  rw [hw0] at hb0 hbx hsz
  obtain ⟨c0, c1, c2, c3, c4, c5, c6, c7⟩ := op_cells hbx
  rw [hk] at c0
  obtain ⟨qa, hqa⟩ : ∃ qa : Int, (if 1 ≤ o.node ∧ o.node < M.length then (0 : Int) else 110) = qa := ⟨_, rfl⟩
  obtain ⟨qb, hqb⟩ : ∃ qb : Int, (if 1 ≤ o.node ∧ o.node < M2.length then (0 : Int) else 110) = qb := ⟨_, rfl⟩
  have HQA := Lib.hid hqa; have HQB := Lib.hid hqb
  have hnm := O.name
  have D1 := T.d1.below hb0
  have D2 := T.d2.below hb0
  have HP := Lib.hid (removeP1 o.node _ D1 T.i1.wf (by have := T.l1; omega) qa hqa)
  have HR := Lib.hid (fun (w1 : World) (F1' : Nat → Prop) (n1 : Next w0 w1 F1 F1') => refRemove1 o.node w1 (doc_mid D1 D2 T.apart n1).1 T.i2.wf (by have := T.l2; omega) qb hqb)
  have HX := Lib.hid (fun (w1 : World) (F1' : Nat → Prop) (n1 : Next w0 w1 F1 F1') => op_cells ((nx_block n1 (b := w.heap.size) hsz (fun h => Nat.lt_irrefl _ (T.d1.bd _ h))).1.trans hbx))
  have HT := Lib.hid T; have HD1 := Lib.hid D1; have HD2 := Lib.hid D2; have HB0 := Lib.hid hb0; have HE := Lib.hid e1
  have HW0 := Lib.hid hw0; have HKN := Lib.hid hk
  clear D1 D2 hb0 hbx e1 hw0 hk hqa hqb
  unfold TellsSays
  go_enter Try.func17, Try.ntmps17
  go_upto_region 1 with (fail)
  rw [HW0.out]
  go_wp2_with fail
  refine HP.out.mono ?_
  rintro e w1 ⟨rfl, F1', E1, N1⟩
  obtain ⟨_, d1, d2, d3, d4, d5, d6, d7⟩ := HX.out w1 F1' N1
  have HRR := Lib.hid (HR.out w1 F1' N1)
  obtain ⟨E2, hap⟩ := doc_mid HD1.out HD2.out HT.out.apart N1
  have HE1 := Lib.hid E1; have HN1 := Lib.hid N1; have HE2 := Lib.hid E2; have HAP := Lib.hid hap
  clear E1 N1 E2 hap c0 c1 c2 c3 c4 c5 c6 c7
  go_wp2_with fail
  refine HRR.out.mono ?_
  rintro e w2 ⟨rfl, F2', G2, N2⟩
  obtain ⟨G1, hap2, N12⟩ := doc_end HB0.out HE2.out HN1.out HAP.out HE1.out N2
  have HG1 := Lib.hid G1; have HG2 := Lib.hid G2; have HA2 := Lib.hid hap2; have HN12 := Lib.hid N12
  clear G1 G2 hap2 N12 N2
  go_wp2
  go_ret
  exact ⟨_, rfl, fun h => by subst h; (rw [← HQA.out, ← HQB.out]; simp), F1', F2', by rw [HE.out]; exact HG1.out, by rw [HE.out]; exact HG2.out, HA2.out, HN12.out⟩
set_option maxRecDepth 100000 in
set_option maxHeartbeats 4000000 in
theorem tells_attr (T : Two w N K p1 p2 F1 F2 B M M2) (O : OpOk w K o) (hk : o.kind = 5) : TellsSays N p1 p2 F1 F2 M M2 o w := by
  have e1 : ∀ L, opM L o = attrM11 L o.node o.name o.value := fun L => by unfold opM; simp [hk]
  have hb0 := below_new w (opO o)
  have hbx := heap_alloc_new w (opO o)
  have hsz : w.heap.size < (w.alloc (opO o)).heap.size := by simp
  obtain ⟨w0, hw0⟩ : ∃ w0, w.alloc (opO o) = w0 := ⟨_, rfl⟩
  rw [hw0] at hb0 hbx hsz
  obtain ⟨c0, c1, c2, c3, c4, c5, c6, c7⟩ := op_cells hbx
  rw [hk] at c0
  have hnm := O.name
  have D1 := T.d1.below hb0
  have D2 := T.d2.below hb0
  have HP := Lib.hid (attrP1 o.node o.name o.value _ D1 T.i1.good (T.i1.few T.few) hnm)
  have HR := Lib.hid (fun (w1 : World) (F1' : Nat → Prop) (n1 : Next w0 w1 F1 F1') => refAttr11 o.node o.name o.value w1 (doc_mid D1 D2 T.apart n1).1 T.i2.wf (by have := T.l2; omega) (T.i2.few T.few) hnm)
  have HX := Lib.hid (fun (w1 : World) (F1' : Nat → Prop) (n1 : Next w0 w1 F1 F1') => op_cells ((nx_block n1 (b := w.heap.size) hsz (fun h => Nat.lt_irrefl _ (T.d1.bd _ h))).1.trans hbx))
  have HT := Lib.hid T; have HD1 := Lib.hid D1; have HD2 := Lib.hid D2; have HB0 := Lib.hid hb0; have HE := Lib.hid e1
  have HW0 := Lib.hid hw0; have HKN := Lib.hid hk
  clear D1 D2 hb0 hbx e1 hw0 hk
  unfold TellsSays
  go_enter Try.func17, Try.ntmps17
  go_upto_region 1 with (fail)
  rw [HW0.out]
  go_wp2_with fail
  refine HP.out.mono ?_
  rintro e w1 ⟨rfl, F1', E1, N1⟩
  obtain ⟨_, d1, d2, d3, d4, d5, d6, d7⟩ := HX.out w1 F1' N1
  have HRR := Lib.hid (HR.out w1 F1' N1)
  obtain ⟨E2, hap⟩ := doc_mid HD1.out HD2.out HT.out.apart N1
  have HE1 := Lib.hid E1; have HN1 := Lib.hid N1; have HE2 := Lib.hid E2; have HAP := Lib.hid hap
  clear E1 N1 E2 hap c0 c1 c2 c3 c4 c5 c6 c7
  go_wp2_with fail
  refine HRR.out.mono ?_
  rintro e w2 ⟨rfl, F2', G2, N2⟩
  obtain ⟨G1, hap2, N12⟩ := doc_end HB0.out HE2.out HN1.out HAP.out HE1.out N2
  have HG1 := Lib.hid G1; have HG2 := Lib.hid G2; have HA2 := Lib.hid hap2; have HN12 := Lib.hid N12
  clear G1 G2 hap2 N12 N2
  go_wp2
  go_ret
  exact ⟨_, rfl, fun h => by subst h; simp, F1', F2', by rw [HE.out]; exact HG1.out, by rw [HE.out]; exact HG2.out, HA2.out, HN12.out⟩
set_option maxRecDepth 100000 in
set_option maxHeartbeats 4000000 in
theorem tells_drop (T : Two w N K p1 p2 F1 F2 B M M2) (O : OpOk w K o) (hk : o.kind = 6) : TellsSays N p1 p2 F1 F2 M M2 o w := by
  have e1 : ∀ L, opM L o = dropM11 L o.node o.name := fun L => by unfold opM; simp [hk]
  have hb0 := below_new w (opO o)
  have hbx := heap_alloc_new w (opO o)
  have hsz : w.heap.size < (w.alloc (opO o)).heap.size := by simp
  obtain ⟨w0, hw0⟩ : ∃ w0, w.alloc (opO o) = w0 := ⟨_, rfl⟩
  rw [hw0] at hb0 hbx hsz
  obtain ⟨c0, c1, c2, c3, c4, c5, c6, c7⟩ := op_cells hbx
  rw [hk] at c0
  have hnm := O.name
  have D1 := T.d1.below hb0
  have D2 := T.d2.below hb0
  have HP := Lib.hid (dropP1 o.node o.name _ D1 T.i1.good (T.i1.few T.few))
  have HR := Lib.hid (fun (w1 : World) (F1' : Nat → Prop) (n1 : Next w0 w1 F1 F1') => refDrop11 o.node o.name w1 (doc_mid D1 D2 T.apart n1).1 T.i2.wf (by have := T.l2; omega) (T.i2.few T.few))
  have HX := Lib.hid (fun (w1 : World) (F1' : Nat → Prop) (n1 : Next w0 w1 F1 F1') => op_cells ((nx_block n1 (b := w.heap.size) hsz (fun h => Nat.lt_irrefl _ (T.d1.bd _ h))).1.trans hbx))
  have HT := Lib.hid T; have HD1 := Lib.hid D1; have HD2 := Lib.hid D2; have HB0 := Lib.hid hb0; have HE := Lib.hid e1
  have HW0 := Lib.hid hw0; have HKN := Lib.hid hk
  clear D1 D2 hb0 hbx e1 hw0 hk
  unfold TellsSays
  go_enter Try.func17, Try.ntmps17
  go_upto_region 1 with (fail)
  rw [HW0.out]
  go_wp2_with fail
  refine HP.out.mono ?_
  rintro e w1 ⟨rfl, F1', E1, N1⟩
  obtain ⟨_, d1, d2, d3, d4, d5, d6, d7⟩ := HX.out w1 F1' N1
  have HRR := Lib.hid (HR.out w1 F1' N1)
  obtain ⟨E2, hap⟩ := doc_mid HD1.out HD2.out HT.out.apart N1
  have HE1 := Lib.hid E1; have HN1 := Lib.hid N1; have HE2 := Lib.hid E2; have HAP := Lib.hid hap
  clear E1 N1 E2 hap c0 c1 c2 c3 c4 c5 c6 c7
  go_wp2_with fail
  refine HRR.out.mono ?_
  rintro e w2 ⟨rfl, F2', G2, N2⟩
  obtain ⟨G1, hap2, N12⟩ := doc_end HB0.out HE2.out HN1.out HAP.out HE1.out N2
  have HG1 := Lib.hid G1; have HG2 := Lib.hid G2; have HA2 := Lib.hid hap2; have HN12 := Lib.hid N12
  clear G1 G2 hap2 N12 N2
  go_wp2
  go_ret
  exact ⟨_, rfl, fun h => by subst h; simp, F1', F2', by rw [HE.out]; exact HG1.out, by rw [HE.out]; exact HG2.out, HA2.out, HN12.out⟩
set_option maxRecDepth 100000 in
set_option maxHeartbeats 4000000 in
theorem tells_data (T : Two w N K p1 p2 F1 F2 B M M2) (O : OpOk w K o) (hk : o.kind = 7) : TellsSays N p1 p2 F1 F2 M M2 o w := by
  have e1 : ∀ L, opM L o = dataM L o.node o.value := fun L => by unfold opM; simp [hk]
  have hb0 := below_new w (opO o)
  have hbx := heap_alloc_new w (opO o)
  have hsz : w.heap.size < (w.alloc (opO o)).heap.size := by simp
  obtain ⟨w0, hw0⟩ : ∃ w0, w.alloc (opO o) = w0 := ⟨_, rfl⟩
  rw [hw0] at hb0 hbx hsz
  obtain ⟨c0, c1, c2, c3, c4, c5, c6, c7⟩ := op_cells hbx
  rw [hk] at c0
  have hnm := O.name
  have D1 := T.d1.below hb0
  have D2 := T.d2.below hb0
  have HP := Lib.hid (dataP1 o.node o.value _ D1)
  have HR := Lib.hid (fun (w1 : World) (F1' : Nat → Prop) (n1 : Next w0 w1 F1 F1') => refData1 o.node o.value w1 (doc_mid D1 D2 T.apart n1).1 T.i2.wf (by have := T.l2; omega) (T.i2.few T.few))
  have HX := Lib.hid (fun (w1 : World) (F1' : Nat → Prop) (n1 : Next w0 w1 F1 F1') => op_cells ((nx_block n1 (b := w.heap.size) hsz (fun h => Nat.lt_irrefl _ (T.d1.bd _ h))).1.trans hbx))
  have HT := Lib.hid T; have HD1 := Lib.hid D1; have HD2 := Lib.hid D2; have HB0 := Lib.hid hb0; have HE := Lib.hid e1
  have HW0 := Lib.hid hw0; have HKN := Lib.hid hk
  clear D1 D2 hb0 hbx e1 hw0 hk
  unfold TellsSays
  go_enter Try.func17, Try.ntmps17
  go_upto_region 1 with (fail)
  rw [HW0.out]
  go_wp2_with fail
  refine HP.out.mono ?_
  rintro e w1 ⟨rfl, F1', E1, N1⟩
  obtain ⟨_, d1, d2, d3, d4, d5, d6, d7⟩ := HX.out w1 F1' N1
  have HRR := Lib.hid (HR.out w1 F1' N1)
  obtain ⟨E2, hap⟩ := doc_mid HD1.out HD2.out HT.out.apart N1
  have HE1 := Lib.hid E1; have HN1 := Lib.hid N1; have HE2 := Lib.hid E2; have HAP := Lib.hid hap
  clear E1 N1 E2 hap c0 c1 c2 c3 c4 c5 c6 c7
  go_wp2_with fail
  refine HRR.out.mono ?_
  rintro e w2 ⟨rfl, F2', G2, N2⟩
  obtain ⟨G1, hap2, N12⟩ := doc_end HB0.out HE2.out HN1.out HAP.out HE1.out N2
  have HG1 := Lib.hid G1; have HG2 := Lib.hid G2; have HA2 := Lib.hid hap2; have HN12 := Lib.hid N12
  clear G1 G2 hap2 N12 N2
  go_wp2
  go_ret
  exact ⟨_, rfl, fun h => by subst h; simp, F1', F2', by rw [HE.out]; exact HG1.out, by rw [HE.out]; exact HG2.out, HA2.out, HN12.out⟩
end
end Go.Proofs.Ytmlchbohijolaaa.Ar

namespace Go.Proofs.Ytmlchbohijolaaa.Ar
set_option maxRecDepth 100000
set_option linter.unusedSimpArgs false
set_option linter.unusedVariables false
open Go.RowKit Ba
open Ro (At Ro Cw ros Rr Ow Nw Fr Att Ap Sh Ra Rv Held cells acells below_new infoI info_row len_cells rowV rowO Few check right)
section
variable {w : World} {N K p1 p2 B : Nat} {F1 F2 : Nat → Prop} {M M2 : List Nd} {o : Op11}
set_option maxRecDepth 100000 in
set_option maxHeartbeats 4000000 in
theorem tells_make (T : Two w N K p1 p2 F1 F2 B M M2) (O : OpOk w K o) (hk : o.kind = 0) : TellsSays N p1 p2 F1 F2 M M2 o w := by
  have e1 : ∀ L, opM L o = makeM L o.what o.name o.value := fun L => by unfold opM; simp [hk]
  have hb0 := below_new w (opO o)
  have hbx := heap_alloc_new w (opO o)
  have hsz : w.heap.size < (w.alloc (opO o)).heap.size := by simp
  obtain ⟨w0, hw0⟩ : ∃ w0, w.alloc (opO o) = w0 := ⟨_, rfl⟩
  rw [hw0] at hb0 hbx hsz
  obtain ⟨c0, c1, c2, c3, c4, c5, c6, c7⟩ := op_cells hbx
  rw [hk] at c0
  have hnm := O.name
  have D1 := T.d1.below hb0
  have D2 := T.d2.below hb0
  have hp := makeP1 o.what o.name o.value w0 D1 (by have := T.l1; omega) hnm
  have hr := fun (w1 : World) (F1' : Nat → Prop) (n1 : Next w0 w1 F1 F1') => refMake1 o.what o.name o.value w1 (doc_mid D1 D2 T.apart n1).1 T.i2.wf (by have := T.l2; omega) hnm O.what
  obtain ⟨ra, hra⟩ : ∃ ra, makeE M o.what o.name o.value = ra := ⟨_, rfl⟩
  obtain ⟨rb, hrb⟩ : ∃ rb, makeE M2 o.what o.name o.value = rb := ⟨_, rfl⟩
  rw [hra] at hp
  rw [hrb] at hr
  obtain ⟨a1, b1⟩ := ra
  obtain ⟨a2, b2⟩ := rb
  have HP := Lib.hid hp; have HR := Lib.hid hr; have HRA := Lib.hid hra; have HRB := Lib.hid hrb
  have HX := Lib.hid (fun (w1 : World) (F1' : Nat → Prop) (n1 : Next w0 w1 F1 F1') => op_cells ((nx_block n1 (b := w.heap.size) hsz (fun h => Nat.lt_irrefl _ (T.d1.bd _ h))).1.trans hbx))
  have HT := Lib.hid T; have HD1 := Lib.hid D1; have HD2 := Lib.hid D2; have HB0 := Lib.hid hb0; have HE := Lib.hid e1
  have HW0 := Lib.hid hw0; have HKN := Lib.hid hk
  clear D1 D2 hb0 hbx e1 hw0 hk hp hr hra hrb
  unfold TellsSays
  by_cases hab : a1 = a2
  · subst hab
    go_enter Try.func17, Try.ntmps17
    go_upto_region 1 with (fail)
    rw [HW0.out]
    go_wp2_with fail
    refine HP.out.mono ?_
    rintro e w1 ⟨rfl, F1', E1, N1⟩
    obtain ⟨_, d1, d2, d3, d4, d5, d6, d7⟩ := HX.out w1 F1' N1
    have HRR := Lib.hid (HR.out w1 F1' N1)
    obtain ⟨E2, hap⟩ := doc_mid HD1.out HD2.out HT.out.apart N1
    have HE1 := Lib.hid E1; have HN1 := Lib.hid N1; have HE2 := Lib.hid E2; have HAP := Lib.hid hap
    clear E1 N1 E2 hap c0 c1 c2 c3 c4 c5 c6 c7
    go_wp2_with fail
    refine HRR.out.mono ?_
    rintro e w2 ⟨rfl, F2', G2, N2⟩
    obtain ⟨G1, hap2, N12⟩ := doc_end HB0.out HE2.out HN1.out HAP.out HE1.out N2
    have HG1 := Lib.hid G1; have HG2 := Lib.hid G2; have HA2 := Lib.hid hap2; have HN12 := Lib.hid N12
    clear G1 G2 hap2 N12 N2
    go_wp2
    go_ret
    refine ⟨_, rfl, fun h => ?_, F1', F2', by rw [HE.out]; exact HG1.out, by rw [HE.out]; exact HG2.out, HA2.out, HN12.out⟩
    subst h
    have h3 := HRA.out.symm.trans HRB.out
    injection h3 with _ h3
    simp [h3]
  · have hbf : (a1 == a2) = false := by simpa using hab
    go_enter Try.func17, Try.ntmps17
    go_upto_region 1 with (fail)
    rw [HW0.out]
    go_wp2_with fail
    refine HP.out.mono ?_
    rintro e w1 ⟨rfl, F1', E1, N1⟩
    obtain ⟨_, d1, d2, d3, d4, d5, d6, d7⟩ := HX.out w1 F1' N1
    have HRR := Lib.hid (HR.out w1 F1' N1)
    obtain ⟨E2, hap⟩ := doc_mid HD1.out HD2.out HT.out.apart N1
    have HE1 := Lib.hid E1; have HN1 := Lib.hid N1; have HE2 := Lib.hid E2; have HAP := Lib.hid hap
    clear E1 N1 E2 hap c0 c1 c2 c3 c4 c5 c6 c7
    go_wp2_with fail
    refine HRR.out.mono ?_
    rintro e w2 ⟨rfl, F2', G2, N2⟩
    obtain ⟨G1, hap2, N12⟩ := doc_end HB0.out HE2.out HN1.out HAP.out HE1.out N2
    have HG1 := Lib.hid G1; have HG2 := Lib.hid G2; have HA2 := Lib.hid hap2; have HN12 := Lib.hid N12
    clear G1 G2 hap2 N12 N2
    go_wp2
    go_ret
    refine ⟨_, rfl, fun h => ?_, F1', F2', by rw [HE.out]; exact HG1.out, by rw [HE.out]; exact HG2.out, HA2.out, HN12.out⟩
    subst h
    have h3 := HRA.out.symm.trans HRB.out
    injection h3 with h3 _
    exact absurd h3 hab
set_option maxRecDepth 100000 in
set_option maxHeartbeats 4000000 in
theorem tells_clone (T : Two w N K p1 p2 F1 F2 B M M2) (O : OpOk w K o) (hk : o.kind = 4) : TellsSays N p1 p2 F1 F2 M M2 o w := by
  have e1 : ∀ L, opM L o = cloneM L o.node := fun L => by unfold opM; simp [hk]
  have hb0 := below_new w (opO o)
  have hbx := heap_alloc_new w (opO o)
  have hsz : w.heap.size < (w.alloc (opO o)).heap.size := by simp
  obtain ⟨w0, hw0⟩ : ∃ w0, w.alloc (opO o) = w0 := ⟨_, rfl⟩
  rw [hw0] at hb0 hbx hsz
  obtain ⟨c0, c1, c2, c3, c4, c5, c6, c7⟩ := op_cells hbx
  rw [hk] at c0
  have hnm := O.name
  have D1 := T.d1.below hb0
  have D2 := T.d2.below hb0
  have hp := cloneP1 o.node w0 D1 T.i1.wf T.l1 (T.i1.few T.few) (good_right T.i1.wf T.i1.good _)
  have hr := fun (w1 : World) (F1' : Nat → Prop) (n1 : Next w0 w1 F1 F1') => refClone11 o.node w1 (doc_mid D1 D2 T.apart n1).1 T.i2.wf T.l2 (T.i2.few T.few) (good_right T.i2.wf T.i2.good _)
  obtain ⟨ra, hra⟩ : ∃ ra, cloneE M o.node = ra := ⟨_, rfl⟩
  obtain ⟨rb, hrb⟩ : ∃ rb, cloneE M2 o.node = rb := ⟨_, rfl⟩
  rw [hra] at hp
  rw [hrb] at hr
  obtain ⟨a1, b1⟩ := ra
  obtain ⟨a2, b2⟩ := rb
  have HP := Lib.hid hp; have HR := Lib.hid hr; have HRA := Lib.hid hra; have HRB := Lib.hid hrb
  have HX := Lib.hid (fun (w1 : World) (F1' : Nat → Prop) (n1 : Next w0 w1 F1 F1') => op_cells ((nx_block n1 (b := w.heap.size) hsz (fun h => Nat.lt_irrefl _ (T.d1.bd _ h))).1.trans hbx))
  have HT := Lib.hid T; have HD1 := Lib.hid D1; have HD2 := Lib.hid D2; have HB0 := Lib.hid hb0; have HE := Lib.hid e1
  have HW0 := Lib.hid hw0; have HKN := Lib.hid hk
  clear D1 D2 hb0 hbx e1 hw0 hk hp hr hra hrb
  unfold TellsSays
  by_cases hab : a1 = a2
  · subst hab
    go_enter Try.func17, Try.ntmps17
    go_upto_region 1 with (fail)
    rw [HW0.out]
    go_wp2_with fail
    refine HP.out.mono ?_
    rintro e w1 ⟨rfl, F1', E1, N1⟩
    obtain ⟨_, d1, d2, d3, d4, d5, d6, d7⟩ := HX.out w1 F1' N1
    have HRR := Lib.hid (HR.out w1 F1' N1)
    obtain ⟨E2, hap⟩ := doc_mid HD1.out HD2.out HT.out.apart N1
    have HE1 := Lib.hid E1; have HN1 := Lib.hid N1; have HE2 := Lib.hid E2; have HAP := Lib.hid hap
    clear E1 N1 E2 hap c0 c1 c2 c3 c4 c5 c6 c7
    go_wp2_with fail
    refine HRR.out.mono ?_
    rintro e w2 ⟨rfl, F2', G2, N2⟩
    obtain ⟨G1, hap2, N12⟩ := doc_end HB0.out HE2.out HN1.out HAP.out HE1.out N2
    have HG1 := Lib.hid G1; have HG2 := Lib.hid G2; have HA2 := Lib.hid hap2; have HN12 := Lib.hid N12
    clear G1 G2 hap2 N12 N2
    go_wp2
    go_ret
    refine ⟨_, rfl, fun h => ?_, F1', F2', by rw [HE.out]; exact HG1.out, by rw [HE.out]; exact HG2.out, HA2.out, HN12.out⟩
    subst h
    have h3 := HRA.out.symm.trans HRB.out
    injection h3 with _ h3
    simp [h3]
  · have hbf : (a1 == a2) = false := by simpa using hab
    go_enter Try.func17, Try.ntmps17
    go_upto_region 1 with (fail)
    rw [HW0.out]
    go_wp2_with fail
    refine HP.out.mono ?_
    rintro e w1 ⟨rfl, F1', E1, N1⟩
    obtain ⟨_, d1, d2, d3, d4, d5, d6, d7⟩ := HX.out w1 F1' N1
    have HRR := Lib.hid (HR.out w1 F1' N1)
    obtain ⟨E2, hap⟩ := doc_mid HD1.out HD2.out HT.out.apart N1
    have HE1 := Lib.hid E1; have HN1 := Lib.hid N1; have HE2 := Lib.hid E2; have HAP := Lib.hid hap
    clear E1 N1 E2 hap c0 c1 c2 c3 c4 c5 c6 c7
    go_wp2_with fail
    refine HRR.out.mono ?_
    rintro e w2 ⟨rfl, F2', G2, N2⟩
    obtain ⟨G1, hap2, N12⟩ := doc_end HB0.out HE2.out HN1.out HAP.out HE1.out N2
    have HG1 := Lib.hid G1; have HG2 := Lib.hid G2; have HA2 := Lib.hid hap2; have HN12 := Lib.hid N12
    clear G1 G2 hap2 N12 N2
    go_wp2
    go_ret
    refine ⟨_, rfl, fun h => ?_, F1', F2', by rw [HE.out]; exact HG1.out, by rw [HE.out]; exact HG2.out, HA2.out, HN12.out⟩
    subst h
    have h3 := HRA.out.symm.trans HRB.out
    injection h3 with h3 _
    exact absurd h3 hab
set_option maxRecDepth 100000 in
set_option maxHeartbeats 4000000 in
theorem tells_other (T : Two w N K p1 p2 F1 F2 B M M2) (O : OpOk w K o) (hk : ¬ o.kind = 0 ∧ ¬ o.kind = 1 ∧ ¬ o.kind = 2 ∧ ¬ o.kind = 3 ∧ ¬ o.kind = 4 ∧ ¬ o.kind = 5 ∧ ¬ o.kind = 6 ∧ ¬ o.kind = 7) : TellsSays N p1 p2 F1 F2 M M2 o w := by
  obtain ⟨k0, k1, k2, k3, k4, k5, k6, k7⟩ := hk
  have e1 : ∀ L, opM L o = L := fun L => by unfold opM; simp [k0, k1, k2, k3, k4, k5, k6, k7]
  have hb0 := below_new w (opO o)
  have hbx := heap_alloc_new w (opO o)
  obtain ⟨w0, hw0⟩ : ∃ w0, w.alloc (opO o) = w0 := ⟨_, rfl⟩
  rw [hw0] at hb0 hbx
  obtain ⟨c0, _, _, _, _, _, _, _⟩ := op_cells hbx
  obtain ⟨kd, hkd⟩ : ∃ kd, o.kind = kd := ⟨_, rfl⟩
  rw [hkd] at c0 k0 k1 k2 k3 k4 k5 k6 k7
  have b0 : (kd == 0) = false := by simpa using k0
  have b1 : (kd == 1) = false := by simpa using k1
  have b2 : (kd == 2) = false := by simpa using k2
  have b3 : (kd == 3) = false := by simpa using k3
  have b4 : (kd == 4) = false := by simpa using k4
  have b5 : (kd == 5) = false := by simpa using k5
  have b6 : (kd == 6) = false := by simpa using k6
  have b7 : (kd == 7) = false := by simpa using k7
  have HB0 := Lib.hid hb0; have HE := Lib.hid e1; have HW0 := Lib.hid hw0; have HT := Lib.hid T
  clear hb0 hbx e1 hw0 hkd T
  unfold TellsSays
  go_enter Try.func17, Try.ntmps17
  go_upto_region 1 with (fail)
  rw [HW0.out]
  go_wp2
  go_ret
  exact ⟨_, rfl, fun _ => rfl, F1, F2, by rw [HE.out]; exact HT.out.d1.below HB0.out, by rw [HE.out]; exact HT.out.d2.below HB0.out, HT.out.apart, Next.of_below HB0.out⟩
end
end Go.Proofs.Ytmlchbohijolaaa.Ar

namespace Go.Proofs.Ytmlchbohijolaaa.Ar
set_option maxRecDepth 100000
set_option linter.unusedSimpArgs false
set_option linter.unusedVariables false
open Go.RowKit Ba
open Ro (At Ro Cw ros Rr Ow Nw Fr Att Ap Sh Ra Rv Held cells acells below_new infoI info_row len_cells rowV rowO Few check right)
section
variable {w : World} {N K p1 p2 B : Nat} {F1 F2 : Nat → Prop} {M M2 : List Nd} {o : Op11}
theorem op_rows {w' : World} (O : OpOk w K o) (hb : Below K w w') (hK : K ≤ w.heap.size) : Rr w' K o.A o.x := O.rows.below hb
/-- The call's trees stay as they are where only a document is touched. -/
theorem rv_trees {F : Nat → Prop} {L : Nat} {w1 w2 : World} {v : Value} {l : List Cw} (ho : Ow L w1 v l) (hat : ∀ x ∈ l, Att w1 K x) (hh : Held (ros l)) (hF : ∀ b, F b → K ≤ b ∧ b < L) (t : Touch F w1 w2) : Rv w2 v l := by
  obtain ⟨A, c, rfl, hc, hcm, _, hrr⟩ := ho.form
  refine ⟨A, c, rfl, hc, hcm, ⟨fun h0 => ?_, fun x hx => ?_⟩, hh⟩
  · obtain ⟨b, off, he, hb, hcell⟩ := hrr.1 h0
    have hLb : L ≤ b := own_blk ho.1 (by rw [he]; rfl)
    refine ⟨b, off, he, Nat.lt_of_lt_of_le hb t.size, fun j hj i u hu => ?_⟩
    rw [← hcell j hj i u hu]
    exact World.cell?_of_block (a := ⟨b, off + j * 5 + i, none⟩) (t.block b hb fun hf => by have := hF b hf; omega)
  · have h1 := hat x hx
    have h2 := hrr.2 x hx
    refine ⟨h1.1, h1.2.1, h1.2.2.1, fun h0 => ?_, h1.2.2.2.2⟩
    obtain ⟨b, off, he, hb, hcell⟩ := h1.2.2.2.1 h0
    obtain ⟨b', off', he', hb', _⟩ := h2.2.2.2.1 h0
    rw [he] at he'
    injection he' with he'
    injection he' with he1 _
    subst he1
    refine ⟨b, off, he, Nat.lt_of_lt_of_le hb' t.size, fun j hj i u hu => ?_⟩
    rw [← hcell j hj i u hu]
    exact World.cell?_of_block (a := ⟨b, off + j * 2 + i, none⟩) (t.block b hb' fun hf => by have := hF b hf; omega)
theorem held_cut {l : List Ro} (h : Held l) : Held (cut12 l) := fun x hx => by
  obtain ⟨y, hy, rfl⟩ := List.mem_map.1 hx
  exact h y (List.mem_of_mem_take hy)
theorem few_cut (l : List Ro) : Few (cut12 l) := fun x hx => Nat.le_trans (cut12_attrs l x hx) (by decide)
set_option maxRecDepth 100000 in
set_option maxHeartbeats 4000000 in
theorem tells_load (T : Two w N K p1 p2 F1 F2 B M M2) (O : OpOk w K o) (hk : o.kind = 1) : TellsSays N p1 p2 F1 F2 M M2 o w := by
  obtain ⟨R, hR⟩ : ∃ R, cut12 (ros o.x) = R := ⟨_, rfl⟩
  have e1 : ∀ L, opM L o = loadM L R := fun L => by unfold opM; simp [hk, hR]
  have hb0 := below_new w (opO o)
  have hbx := heap_alloc_new w (opO o)
  have hsz : w.heap.size < (w.alloc (opO o)).heap.size := by simp
  obtain ⟨w0, hw0⟩ : ∃ w0, w.alloc (opO o) = w0 := ⟨_, rfl⟩
  rw [hw0] at hb0 hbx hsz
  obtain ⟨c0, c1, c2, c3, c4, c5, c6, c7⟩ := op_cells hbx
  rw [hk] at c0
  have hRl : R.length ≤ 12 := by rw [← hR]; exact cut12_len _
  have hRh : Held R := by rw [← hR]; exact held_cut O.held
  have hRf : Few R := by rw [← hR]; exact few_cut _
  have htr1 := trees1 K o.A o.c o.x w0 (op_rows O (hb0.mono T.hK) T.hK) (Nat.le_trans T.hK hb0.size) O.cap.1 O.cap.2
  rw [hR] at htr1
  have HTR := Lib.hid htr1
  have HR := Lib.hid hR; have HRH := Lib.hid hRh; have HRF := Lib.hid hRf; have HBX := Lib.hid hbx; have HO := Lib.hid O
  have HT := Lib.hid T; have HB0 := Lib.hid hb0; have HE := Lib.hid e1
  have HW0 := Lib.hid hw0; have HKN := Lib.hid hk
  obtain ⟨ea, hea⟩ : ∃ ea, loadE M R = ea := ⟨_, rfl⟩
  obtain ⟨eb, heb⟩ : ∃ eb, loadE M2 R = eb := ⟨_, rfl⟩
  have HEA := Lib.hid hea; have HEB := Lib.hid heb
  clear hb0 hbx e1 hw0 hk htr1 hR hRh hRf O T hea heb
  unfold TellsSays
  go_enter Try.func17, Try.ntmps17
  go_upto_region 1 with (fail)
  rw [HW0.out]
  go_wp2_with fail
  refine HTR.out.mono ?_
  rintro e w1 ⟨v1, y1, rfl, ho1, ha1, hr1, hb1⟩
  have hF1 : ∀ b, F1 b → K ≤ b ∧ b < w0.heap.size := fun b hb => ⟨HT.out.low1 b hb, Nat.lt_of_lt_of_le (HT.out.d1.bd b hb) HB0.out.size⟩
  have hF2 : ∀ b, F2 b → K ≤ b ∧ b < w0.heap.size := fun b hb => ⟨HT.out.low2 b hb, Nat.lt_of_lt_of_le (HT.out.d2.bd b hb) HB0.out.size⟩
  have hl1 : y1.length ≤ 12 := by rw [← Ro.len_ros, hr1]; exact hRl
  have hld := loadP1 (p := p1) (N := N) (F := F1) (M := M) v1 y1 w1 (HT.out.d1.below (bt HB0.out hb1)) HT.out.i1.wf (by have := HT.out.l1; omega) (fun w' t => rv_trees ho1 ha1 (by rw [hr1]; exact HRH.out) hF1 t) (by omega) (by rw [hr1]; exact HRF.out)
  rw [hr1, HEA.out] at hld
  have hy1 : y1.length = R.length := by rw [← Ro.len_ros, hr1]
  rw [hy1] at hld
  have HLD := Lib.hid hld
  have HB1 := Lib.hid (bt HB0.out hb1); have HB01 := Lib.hid hb1
  clear hld ho1 ha1 hr1 hb1 HTR hy1 hl1
  go_wp2_with fail
  refine HLD.out.mono ?_
  rintro e w2 ⟨u1, rfl, hn1, F1', E1, N1, hf1⟩
  have hbx2 := ((nx_block N1 (b := w.heap.size) (by have := HB01.out.size; omega) (fun h => Nat.lt_irrefl _ (HT.out.d1.bd _ h))).1.trans ((HB01.out.block _ hsz).trans HBX.out))
  obtain ⟨_, d1, d2, d3, d4, d5, d6, d7⟩ := op_cells hbx2
  have D1w1 := HT.out.d1.below HB1.out
  have D2w1 := HT.out.d2.below HB1.out
  obtain ⟨E2, hap⟩ := doc_mid D1w1 D2w1 HT.out.apart N1
  have hbK2 : Below K w w2 := by
    have h1 := HB1.out
    refine ⟨N1.1.os.trans h1.os, N1.1.tape.trans h1.tape, N1.1.output.trans h1.output, Nat.le_trans h1.size N1.1.size, fun b hb => ?_⟩
    have := HT.out.hK
    exact (N1.1.block b (by have := h1.size; omega) (fun hf => by have := HT.out.low1 b hf; omega)).trans (h1.block b (by omega))
  have htr2 := trees1 K o.A o.c o.x w2 (op_rows HO.out hbK2 HT.out.hK) (Nat.le_trans HT.out.hK hbK2.size) HO.out.cap.1 HO.out.cap.2
  rw [HR.out] at htr2
  have HTR2 := Lib.hid htr2
  have HN1 := Lib.hid N1; have HE1 := Lib.hid E1; have HE2 := Lib.hid E2; have HAP := Lib.hid hap; have HU1 := Lib.hid hn1; have HF1 := Lib.hid hf1
  clear hbx2 N1 E1 E2 hap hn1 hf1 htr2 hbK2 D1w1 D2w1 HLD c0 c1 c2 c3 c4 c5 c6 c7
  go_wp2_with fail
  refine HTR2.out.mono ?_
  rintro e w3 ⟨v2, y2, rfl, ho2, ha2, hr2, hb2⟩
  have hl2 : y2.length ≤ 12 := by rw [← Ro.len_ros, hr2]; exact hRl
  have hs12 := HN1.out.1.size
  have hs01 := HB01.out.size
  have hld2 := refLoad11 (p := p2) (N := N) (F := F2) (M := M2) v2 y2 w3 (HE2.out.below hb2) HT.out.i2.wf (by have := HT.out.l2; omega) (fun w' t => rv_trees ho2 ha2 (by rw [hr2]; exact HRH.out) (fun b hb => ⟨(hF2 b hb).1, by have := (hF2 b hb).2; omega⟩) t) (by omega) (by rw [hr2]; exact HRF.out)
  rw [hr2, HEB.out] at hld2
  have hy2 : y2.length = R.length := by rw [← Ro.len_ros, hr2]
  rw [hy2] at hld2
  have HLD2 := Lib.hid hld2
  have HB2 := Lib.hid hb2
  clear hld2 ho2 ha2 hr2 hb2 HTR2 hy2 hl2
  go_wp2_with fail
  refine HLD2.out.mono ?_
  rintro e w4 ⟨u2, rfl, hn2, F2', G2, N2, hf2⟩
  obtain ⟨l1, hl1⟩ : ∃ l1, (if ea = 0 then rootsTo M.length (parI R) R.length else []) = l1 := ⟨_, rfl⟩
  obtain ⟨l2, hl2⟩ : ∃ l2, (if eb = 0 then rootsTo M2.length (parI R) R.length else []) = l2 := ⟨_, rfl⟩
  have hu1 := HU1.out
  rw [hl1] at hu1
  rw [hl2] at hn2
  have hu14 : Nw w1.heap.size w4 u1 l1 := nw_touch (hu1.below HB2.out) N2.1 fun b hb hf => by
    have h1 := (owns_lt hu1 hb).1
    have h2 := (hF2 b hf).2
    omega
  have hb3 := HB2.out.size
  have n13 := HN1.out.trans (Next.of_below HB2.out)
  obtain ⟨G1, hap2, N12⟩ := doc_end HB1.out (HE2.out.below HB2.out) n13 HAP.out (HE1.out.below HB2.out) N2
  have HG1 := Lib.hid G1; have HG2 := Lib.hid G2; have HA2 := Lib.hid hap2; have HN12 := Lib.hid N12
  obtain ⟨q, hq⟩ : ∃ q, decide (l1 = l2) = q := ⟨_, rfl⟩
  have HNU := Lib.hid (nums1 w4 hu14 hn2 q hq)
  have HQ := Lib.hid hq; have HL1 := Lib.hid hl1; have HL2 := Lib.hid hl2
  clear hu1 hn2 hu14 hb3 n13 G1 G2 hap2 N12 N2 hf2 hq hl1 hl2 HLD2 hF1 hF2 hs12 hs01
  have fin : ∀ (w5 : World), Below w4.heap.size w4 w5 → ∃ F1' F2', Doc12 w5 N F1' p1 (opM M o) ∧ Doc11 w5 N F2' p2 (opM M2 o) ∧ (∀ b, F1' b → ¬ F2' b) ∧ Next w w5 (FU F1 F2) (FU F1' F2') := fun w5 hb => by
    refine ⟨F1', F2', ?_, ?_, HA2.out, HN12.out.trans (Next.of_below hb)⟩
    · rw [HE.out]
      unfold loadM
      rw [HEA.out]
      exact HG1.out.below hb
    · rw [HE.out]
      unfold loadM
      rw [HEB.out]
      exact HG2.out.below hb
  have FIN := Lib.hid fin
  clear fin
  cases q with
  | true =>
    go_wp2_with fail
    refine HNU.out.mono ?_
    rintro e w5 ⟨rfl, hb5⟩
    have HB5 := Lib.hid hb5
    clear hb5
    go_wp2
    go_ret
    refine ⟨_, rfl, fun h => ?_, FIN.out _ HB5.out⟩
    subst h
    have h3 := HEA.out.symm.trans HEB.out
    simp [h3]
  | false =>
    go_wp2_with fail
    refine HNU.out.mono ?_
    rintro e w5 ⟨rfl, hb5⟩
    have HB5 := Lib.hid hb5
    clear hb5
    go_wp2
    go_ret
    refine ⟨_, rfl, fun h => ?_, FIN.out _ HB5.out⟩
    subst h
    have h3 := HEA.out.symm.trans HEB.out
    have h4 := of_decide_eq_false HQ.out
    exact absurd (by rw [← HL1.out, ← HL2.out, h3]) h4
theorem tells1 (T : Two w N K p1 p2 F1 F2 B M M2) (O : OpOk w K o) : TellsSays N p1 p2 F1 F2 M M2 o w := by
  by_cases k0 : o.kind = 0
  · exact tells_make T O k0
  by_cases k1 : o.kind = 1
  · exact tells_load T O k1
  by_cases k2 : o.kind = 2
  · exact tells_ins T O k2
  by_cases k3 : o.kind = 3
  · exact tells_rem T O k3
  by_cases k4 : o.kind = 4
  · exact tells_clone T O k4
  by_cases k5 : o.kind = 5
  · exact tells_attr T O k5
  by_cases k6 : o.kind = 6
  · exact tells_drop T O k6
  by_cases k7 : o.kind = 7
  · exact tells_data T O k7
  exact tells_other T O ⟨k0, k1, k2, k3, k4, k5, k6, k7⟩
end
end Go.Proofs.Ytmlchbohijolaaa.Ar

namespace Go.Proofs.Ytmlchbohijolaaa.Ar
set_option maxRecDepth 100000
set_option linter.unusedSimpArgs false
set_option linter.unusedVariables false
open Go.RowKit Ba
open Ro (At Ro Cw ros Rr Ow Nw Fr Att Ap Sh Ra Rv Held cells acells below_new infoI info_row len_cells rowV rowO Few check right)
/-- The program's document, in blocks that are new since w0. -/
def One (w0 w : World) (p : Nat) (M : List Nd) : Prop := ∃ F, Doc12 w w0.heap.size F p M ∧ (∀ b, F b → w0.heap.size ≤ b) ∧ Below w0.heap.size w0 w
theorem one_next {w0 w w' : World} {F F' : Nat → Prop} {p : Nat} {M' : List Nd} (hl : ∀ b, F b → w0.heap.size ≤ b) (hb : Below w0.heap.size w0 w) (D : Doc12 w' w0.heap.size F' p M') (n : Next w w' F F') : One w0 w' p M' := by
  have hs := hb.size
  have hs' := n.1.size
  refine ⟨F', D, fun b h => ?_, ⟨n.1.os.trans hb.os, n.1.tape.trans hb.tape, n.1.output.trans hb.output, by omega, fun b h => (n.1.block b (by omega) fun hf => by have := hl b hf; omega).trans (hb.block b h)⟩⟩
  rcases n.2.2 b h with h | h
  · exact hl b h
  · omega
section
variable {w0 w w' : World} {p : Nat} {M : List Nd}
theorem One.bel (S : One w0 w p M) : Below w0.heap.size w0 w := by
  obtain ⟨_, _, _, h⟩ := S
  exact h
theorem One.below (S : One w0 w p M) (hb : Below w.heap.size w w') : One w0 w' p M := by
  obtain ⟨F, D, hl, hB⟩ := S
  exact ⟨F, D.below hb, hl, bt hB hb⟩
theorem One.drew (S : One w0 w p M) : One w0 w.drew p M := S.below ⟨rfl, rfl, rfl, Nat.le_refl _, fun _ _ => rfl⟩
theorem One.new (w0 w : World) (hb : Below w0.heap.size w0 w) : Calls Try.prog 10 #[] w fun e w' => ∃ p, e = .returned (.pointer (some ⟨p, 0, none⟩)) ∧ One w0 w' p M0 := by
  refine (newP1 w).mono ?_
  rintro e w' ⟨p, F, rfl, D, hb', hl⟩
  have hs := hb.size
  obtain ⟨gE, cE, lE, D⟩ := D
  refine ⟨p, rfl, F, ⟨gE, cE, lE, ⟨D.box, World.ownsRow.mono D.ents hs, fun e he => ⟨⟨(D.attrs e he).1.1.mono hs, (D.attrs e he).1.2⟩, (D.attrs e he).2⟩, fun e he => ⟨Of.mono (D.kids e he).1 hs, (D.kids e he).2⟩, D.apA, D.apK, D.same, Nat.le_trans hs D.low, D.fp, D.fe, D.bd⟩⟩, fun b h => Nat.le_trans hs (hl b h), bt hb hb'⟩
theorem One.make (S : One w0 w p M) (hm : M.length ≤ 5000) (k : Int) (n d : ByteArray) (hs : n.size ≤ 140737488355328) : Calls Try.prog 14 #[.pointer (some ⟨p, 0, none⟩), .int .i64 k, .string n, .string d] w fun e w' => e = .returned (.tuple #[.int .i64 (makeE M k n d).1, .int .i64 (makeE M k n d).2]) ∧ One w0 w' p (makeM M k n d) := by
  obtain ⟨F, D, hl, hB⟩ := S
  refine (makeP1 k n d w D hm hs).mono ?_
  rintro e w' ⟨rfl, F', D', N'⟩
  exact ⟨rfl, one_next hl hB D' N'⟩
theorem One.insert (S : One w0 w p M) (W : Wf M) (hm : M.length ≤ 5000) (P A n : Int) : Calls Try.prog 27 #[.pointer (some ⟨p, 0, none⟩), .int .i64 P, .int .i64 A, .int .i64 n] w fun e w' => e = .returned (.int .i64 (insE M P A n)) ∧ One w0 w' p (insM M P A n) := by
  obtain ⟨F, D, hl, hB⟩ := S
  refine (insertP1 P A n w D W hm).mono ?_
  rintro e w' ⟨rfl, F', D', N'⟩
  exact ⟨rfl, one_next hl hB D' N'⟩
theorem One.remove (S : One w0 w p M) (W : Wf M) (hm : M.length ≤ 5000) (n : Int) (q : Int) (hq : (if 1 ≤ n ∧ n < M.length then (0 : Int) else 110) = q) : Calls Try.prog 15 #[.pointer (some ⟨p, 0, none⟩), .int .i64 n] w fun e w' => e = .returned (.int .i64 q) ∧ One w0 w' p (remM M n) := by
  obtain ⟨F, D, hl, hB⟩ := S
  refine (removeP1 n w D W hm q hq).mono ?_
  rintro e w' ⟨rfl, F', D', N'⟩
  exact ⟨rfl, one_next hl hB D' N'⟩
theorem One.clone {B : Nat} (S : One w0 w p M) (I : Inv B M) (hB : B ≤ 1000000) (hm : M.length ≤ 1000) (n : Int) : Calls Try.prog 30 #[.pointer (some ⟨p, 0, none⟩), .int .i64 n] w fun e w' => e = .returned (.tuple #[.int .i64 (cloneE M n).1, .int .i64 (cloneE M n).2]) ∧ One w0 w' p (cloneM M n) := by
  obtain ⟨F, D, hl, hB'⟩ := S
  refine (cloneP1 n w D I.wf hm (I.few hB) (good_right I.wf I.good n)).mono ?_
  rintro e w' ⟨rfl, F', D', N'⟩
  exact ⟨rfl, one_next hl hB' D' N'⟩
theorem One.attr {B : Nat} (S : One w0 w p M) (I : Inv B M) (hB : B ≤ 1000000) (n : Int) (nm v : ByteArray) (hs : nm.size ≤ 140737488355328) : Calls Try.prog 16 #[.pointer (some ⟨p, 0, none⟩), .int .i64 n, .string nm, .string v] w fun e w' => e = .returned (.int .i64 (attrE11 M n nm)) ∧ One w0 w' p (attrM11 M n nm v) := by
  obtain ⟨F, D, hl, hB'⟩ := S
  refine (attrP1 n nm v w D I.good (I.few hB) hs).mono ?_
  rintro e w' ⟨rfl, F', D', N'⟩
  exact ⟨rfl, one_next hl hB' D' N'⟩
theorem One.drop {B : Nat} (S : One w0 w p M) (I : Inv B M) (hB : B ≤ 1000000) (n : Int) (nm : ByteArray) : Calls Try.prog 33 #[.pointer (some ⟨p, 0, none⟩), .int .i64 n, .string nm] w fun e w' => e = .returned (.int .i64 (dropE11 M n nm)) ∧ One w0 w' p (dropM11 M n nm) := by
  obtain ⟨F, D, hl, hB'⟩ := S
  refine (dropP1 n nm w D I.good (I.few hB)).mono ?_
  rintro e w' ⟨rfl, F', D', N'⟩
  exact ⟨rfl, one_next hl hB' D' N'⟩
theorem One.data (S : One w0 w p M) (n : Int) (d : ByteArray) : Calls Try.prog 32 #[.pointer (some ⟨p, 0, none⟩), .int .i64 n, .string d] w fun e w' => e = .returned (.int .i64 (dataE M n)) ∧ One w0 w' p (dataM M n d) := by
  obtain ⟨F, D, hl, hB⟩ := S
  refine (dataP1 n d w D).mono ?_
  rintro e w' ⟨rfl, F', D', N'⟩
  exact ⟨rfl, one_next hl hB D' N'⟩
theorem One.len (S : One w0 w p M) : Calls Try.prog 24 #[.pointer (some ⟨p, 0, none⟩)] w fun e w' => e = .returned (.int .i64 M.length) ∧ w' = w := by
  obtain ⟨F, ⟨gE, cE, lE, D⟩, hl, hB⟩ := S
  exact len1 w D
theorem One.parent (S : One w0 w p M) (n : Int) (q : Int) (hq : (if 0 ≤ n ∧ n < M.length then (nd M n.toNat).up else -1) = q) : Calls Try.prog 31 #[.pointer (some ⟨p, 0, none⟩), .int .i64 n] w fun e w' => e = .returned (.int .i64 q) ∧ w' = w := by
  obtain ⟨F, ⟨gE, cE, lE, D⟩, hl, hB⟩ := S
  exact parent1 n w D q hq
theorem One.within (S : One w0 w p M) (W : Wf M) (hm : M.length ≤ 5000) (n o : Int) (q : Bool) (hq : q = true ↔ Win M n o) : Calls Try.prog 19 #[.pointer (some ⟨p, 0, none⟩), .int .i64 n, .int .i64 o] w fun e w' => e = .returned (.bool q) ∧ w' = w := by
  obtain ⟨F, ⟨gE, cE, lE, D⟩, hl, hB⟩ := S
  exact withinP1 n o w D W hm q hq
theorem One.kids (S : One w0 w p M) (W : Wf M) (hm : M.length ≤ 5000) (n : Int) : Calls Try.prog 28 #[.pointer (some ⟨p, 0, none⟩), .int .i64 n] w fun e w' => ∃ v, e = .returned v ∧ Nw w.heap.size w' v (kidsI M n) ∧ Below w.heap.size w w' := by
  obtain ⟨F, ⟨gE, cE, lE, D⟩, hl, hB⟩ := S
  exact kidsP1 n w D W hm
theorem One.row {B : Nat} (S : One w0 w p M) (I : Inv B M) (hB : B ≤ 1000000) (n : Int) (q : Int) (hq : (if hasB M n then (0 : Int) else 110) = q) : Calls Try.prog 34 #[.pointer (some ⟨p, 0, none⟩), .int .i64 n] w fun e w' => ∃ y : Cw, e = .returned (.tuple #[rowV y, .int .i64 q]) ∧ y.ro = rowAns M n ∧ Fr w.heap.size w' y ∧ Below w.heap.size w w' := by
  obtain ⟨F, ⟨gE, cE, lE, D⟩, hl, hB'⟩ := S
  exact rowP1 n w D (I.few hB) q hq
theorem rows_held {B : Nat} (I : Inv B M) (hm : M.length ≤ 5000) (n : Int) : Held (rowsM M n) := fun x hx => by
  have h2 := rows_short I.wf n
  have := right_held _ 0 (good_right I.wf I.good n) x hx
  omega
theorem One.rows {B : Nat} (S : One w0 w p M) (I : Inv B M) (hB : B ≤ 1000000) (hm : M.length ≤ 5000) (n : Int) : Calls Try.prog 21 #[.pointer (some ⟨p, 0, none⟩), .int .i64 n] w fun e w' => ∃ v l, e = .returned v ∧ Rv w' v l ∧ ros l = rowsM M n ∧ l.length ≤ M.length ∧ Ow w.heap.size w' v l ∧ (∀ x ∈ l, Fr w.heap.size w' x) ∧ Below w.heap.size w w' := by
  obtain ⟨F, D, hl, hB'⟩ := S
  refine (rowsP1 n w D I.wf hm (I.few hB)).mono ?_
  rintro e w' ⟨v, l, rfl, ho, hf, hr, hb⟩
  refine ⟨v, l, rfl, ho.rv (by rw [hr]; exact rows_held I hm n), hr, ?_, ho, hf, hb⟩
  rw [← Ro.len_ros, hr]
  exact rows_short I.wf n
end
end Go.Proofs.Ytmlchbohijolaaa.Ar

namespace Go.Proofs.Ytmlchbohijolaaa.Ar
set_option maxRecDepth 100000
set_option linter.unusedSimpArgs false
set_option linter.unusedVariables false
open Go.RowKit Ba
open Ro (At Ro Cw ros Rr Ow Nw Fr Att Ap Sh Ra Rv Held cells acells below_new infoI info_row len_cells rowV rowO Few check right refSame1)
def bP : ByteArray := ⟨#[112]⟩
def bX : ByteArray := ⟨#[120]⟩
def bId : ByteArray := ⟨#[105, 100]⟩
def bV : ByteArray := ⟨#[118]⟩
def b0 : ByteArray := ⟨#[]⟩
def rP : Ro := ⟨0, 0, bP, b0, []⟩
def rPa : Ro := ⟨0, 0, bP, b0, [⟨bId, bV⟩]⟩
def rT : Ro := ⟨0, 1, b0, bX, []⟩
def F1 : List Nd := [⟨ro00, -1, []⟩, ⟨rP, -1, []⟩]
def F2 : List Nd := [⟨ro00, -1, [1]⟩, ⟨rP, 0, []⟩]
def F3 : List Nd := [⟨ro00, -1, [1]⟩, ⟨rP, 0, []⟩, ⟨rT, -1, []⟩]
def F4 : List Nd := [⟨ro00, -1, [1]⟩, ⟨rP, 0, [2]⟩, ⟨rT, 1, []⟩]
def F5 : List Nd := [⟨ro00, -1, [1]⟩, ⟨rPa, 0, [2]⟩, ⟨rT, 1, []⟩]
def F6 : List Nd := [⟨ro00, -1, [1]⟩, ⟨rPa, 0, [2]⟩, ⟨rT, 1, []⟩, ⟨rPa, -1, [4]⟩, ⟨rT, 3, []⟩]
theorem f1_ans : makeE M0 0 bP b0 = (1, 0) := by kernel_rfl
theorem f1_doc : makeM M0 0 bP b0 = F1 := by kernel_rfl
theorem f3_ans : makeE F2 1 b0 bX = (2, 0) := by kernel_rfl
theorem f3_doc : makeM F2 1 b0 bX = F3 := by kernel_rfl
theorem f5_ans : attrE11 F4 1 bId = 0 := by kernel_rfl
theorem f5_doc : attrM11 F4 1 bId bV = F5 := by kernel_rfl
theorem f5_drop : dropE11 F5 1 bX = 1 := by kernel_rfl
theorem f5_dropM : dropM11 F5 1 bX = F5 := by kernel_rfl
theorem f6_ans : cloneE F5 1 = (3, 0) := by kernel_rfl
theorem f6_doc : cloneM F5 1 = F6 := by kernel_rfl
theorem f6_make : makeE F6 0 b0 b0 = (0, 1) := by kernel_rfl
theorem f6_makeM : makeM F6 0 b0 b0 = F6 := by kernel_rfl
theorem f2_doc : setM F1 0 0 1 = F2 := by kernel_rfl
theorem f4_doc : setM F3 1 0 2 = F4 := by kernel_rfl
theorem f6_rows0 : rowsM F6 0 = [rPa, { rT with depth := 1 }] := by kernel_rfl
theorem f6_rows3 : rowsM F6 3 = [rPa, { rT with depth := 1 }] := by kernel_rfl
theorem not_up {M : List Nd} {a b : Nat} (h : a ≠ b) (hu : (nd M a).up = -1) : ¬ Win M a b := by
  rw [win_nat, up_iff]
  rintro ⟨_, h1 | ⟨p, h1, _⟩⟩
  · exact h h1
  · omega
theorem i_M0 : Inv 4 M0 := inv_M0.more (by decide)
theorem i_F1 : Inv 4 F1 := f1_doc ▸ i_M0.make 0 bP b0
theorem f2_ins : insE F1 0 0 1 = 0 ∧ insM F1 0 0 1 = F2 := by
  have h := ins_0 (M := F1) (P := 0) (A := 0) (n := 1) (by decide) (fun h => by
    rcases h with h | h
    · omega
    · exact not_up (M := F1) (a := 0) (b := 1) (by decide) rfl h) (by decide)
  exact ⟨h.1, h.2.trans f2_doc⟩
theorem i_F2 : Inv 4 F2 := f2_ins.2 ▸ i_F1.ins 0 0 1
theorem f2_self : insE F2 1 0 1 = 111 ∧ insM F2 1 0 1 = F2 := ins_111 (by decide) (.inr (win_nat (a := 1) (b := 1) |>.2 (.refl (by decide))))
theorem i_F3 : Inv 4 F3 := f3_doc ▸ i_F2.make 1 b0 bX
theorem f4_ins : insE F3 1 0 2 = 0 ∧ insM F3 1 0 2 = F4 := by
  have h := ins_0 (M := F3) (P := 1) (A := 0) (n := 2) (by decide) (fun h => by
    rcases h with h | h
    · exact h.2 rfl
    · have h := (win_nat (M := F3) (a := 1) (b := 2)).1 h
      rw [up_iff] at h
      rcases h with ⟨_, h1 | ⟨p, h1, h2⟩⟩
      · exact absurd h1 (by decide)
      · have h1 : (0 : Int) = p := h1
        obtain rfl : p = 0 := by omega
        exact not_up (M := F3) (a := 0) (b := 2) (by decide) rfl (win_nat.2 h2)) (by decide)
  exact ⟨h.1, h.2.trans f4_doc⟩
theorem i_F4 : Inv 4 F4 := f4_ins.2 ▸ i_F3.ins 1 0 2
theorem f4_text : insE F4 2 0 1 = 111 ∧ insM F4 2 0 1 = F4 := ins_111 (by decide) (.inl ⟨by decide, by decide⟩)
theorem i_F5 : Inv 5 F5 := f5_doc ▸ i_F4.attr 1 bId bV
theorem i_F6 : Inv 5 F6 := f6_doc ▸ i_F5.clone 1
theorem f6_in : Win F6 2 0 := (win_nat (a := 2) (b := 0)).2 (.step (p := 1) (by decide) rfl (.step (p := 0) (by decide) rfl (.refl (by decide))))
theorem f6_out : ¬ Win F6 3 0 := not_up (M := F6) (a := 3) (b := 0) (by decide) rfl
/-- Rows freshly written down. -/
theorem rows_litA (w : World) (l : List Cw) (cs : Array Value) (n : Nat) (hn : l.length = n) (hm : n ≤ maxLen) (hcs : cs.toList = l.flatMap cells) (hl : ∀ x ∈ l, Att (w.alloc (.cells cs 65)) (w.alloc (.cells cs 65)).heap.size x ∧ Ap (w.alloc (.cells cs 65)) w.heap.size x) :
    Ow w.heap.size (w.alloc (.cells cs 65)) (.slice (some ⟨w.heap.size, 0, none⟩) n n) l := by
  have hfl : (l.flatMap cells).length = n * 5 := by
    rw [← hn]
    exact Ro.flat_len cells 5 len_cells l
  have hsz : cs.size = n * 5 := by rw [← Array.length_toList, hcs, hfl]
  refine ⟨⟨by rw [hn, hfl], .inr ⟨w.heap.size, n, cs, by rw [hn], Nat.le_refl _, heap_alloc_new w _, by rw [hn]; exact Nat.le_refl _, hm, hsz, ?_⟩⟩, hl⟩
  rw [hn, hcs, ← hfl, List.take_length]
def litL (g : Nat) : List Cw := [⟨rPa, some ⟨g, 0, none⟩, 1⟩, ⟨{ rT with depth := 1 }, none, 0⟩]
theorem lit_new (w : World) (cs : Array Value) (hcs : cs.toList = (litL w.heap.size).flatMap cells) :
    Rv ((w.alloc (.cells #[.string bId, .string bV] 63)).alloc (.cells cs 65)) (.slice (some ⟨w.heap.size + 1, 0, none⟩) 2 2) (litL w.heap.size) := by
  obtain ⟨w1, hw1⟩ : ∃ w1, w.alloc (.cells #[.string bId, .string bV] 63) = w1 := ⟨_, rfl⟩
  have hs1 : w1.heap.size = w.heap.size + 1 := by rw [← hw1]; simp
  have hg1 : w1.heap[w.heap.size]? = some (.cells #[.string bId, .string bV] 63) := hw1 ▸ heap_alloc_new w _
  have hlt : w.heap.size < w1.heap.size := by omega
  have hg2 : (w1.alloc (.cells cs 65)).heap[w.heap.size]? = some (.cells #[.string bId, .string bV] 63) := ((below_new w1 _).block _ hlt).trans hg1
  rw [hw1, ← hs1]
  refine (rows_litA w1 (litL w.heap.size) cs 2 rfl (by decide) hcs (fun x hx => ?_)).rv (fun x hx => ?_)
  · rcases List.mem_cons.1 hx with rfl | hx
    · refine ⟨⟨Nat.le_refl _, (fun h => by cases h), (by decide : (1 : Nat) ≤ maxLen), fun _ => ⟨w.heap.size, 0, rfl, by have := (below_new w1 (.cells cs 65)).size; omega, fun j hj => ?_⟩, fun a ha => ?_⟩, fun _ => ⟨w.heap.size, 0, rfl, .inl hlt⟩⟩
      · have hj0 : j = 0 := by
          have : j < 1 := hj
          omega
        subst hj0
        intro i u hu
        rw [cell_of_row _ w.heap.size (0 + 0 * 2 + i) _ _ _ hg2]
        match i, hu with
        | 0, hu => exact hu
        | 1, hu => exact hu
      · have ha : a ∈ [(⟨bId, bV⟩ : At)] := ha
        rw [List.mem_singleton.1 ha]
        exact (by decide : (2 : Nat) ≤ maxLen)
    · rw [List.mem_singleton.1 hx]
      exact ⟨att_none _ _ rfl, fun h => absurd h (by decide)⟩
  · have hx : x = rPa ∨ x = { rT with depth := 1 } := by
      have : x ∈ [rPa, ({ rT with depth := 1 } : Ro)] := hx
      simpa using this
    rcases hx with rfl | rfl
    · exact ⟨(by decide : (-9223372036854775808 : Int) ≤ 0), (by decide : (0 : Int) ≤ 9223372036854775807)⟩
    · exact ⟨(by decide : (-9223372036854775808 : Int) ≤ 1), (by decide : (1 : Int) ≤ 9223372036854775807)⟩
end Go.Proofs.Ytmlchbohijolaaa.Ar

namespace Go.Proofs.Ytmlchbohijolaaa.Ar
set_option maxRecDepth 100000
set_option linter.unusedSimpArgs false
set_option linter.unusedVariables false
open Go.RowKit Ba
open Ro (At Ro Cw ros Rr Ow Nw Fr Att Ap Sh Ra Rv Held cells acells below_new infoI info_row len_cells rowV rowO Few check right refSame1)
section
variable {w0 w : World} {p : Nat}
abbrev ptr (p : Nat) : Value := .pointer (some ⟨p, 0, none⟩)
theorem s_make {M M' : List Nd} {k : Int} {n d : ByteArray} {a b : Int} (S : One w0 w p M) (hm : M.length ≤ 5000) (hs : n.size ≤ 140737488355328) (h1 : makeE M k n d = (a, b)) (h2 : makeM M k n d = M') : Calls Try.prog 14 #[ptr p, .int .i64 k, .string n, .string d] w fun e w' => e = .returned (.tuple #[.int .i64 a, .int .i64 b]) ∧ One w0 w' p M' := by
  have h := S.make hm k n d hs
  rw [h1, h2] at h
  exact h
theorem s_ins {M M' : List Nd} {P A n : Int} {a : Int} (S : One w0 w p M) (W : Wf M) (hm : M.length ≤ 5000) (h : insE M P A n = a ∧ insM M P A n = M') : Calls Try.prog 27 #[ptr p, .int .i64 P, .int .i64 A, .int .i64 n] w fun e w' => e = .returned (.int .i64 a) ∧ One w0 w' p M' := by
  have h3 := S.insert W hm P A n
  rw [h.1, h.2] at h3
  exact h3
end
set_option maxRecDepth 100000 in
set_option maxHeartbeats 8000000 in
theorem fixed11 (w : World) : Calls Try.prog 12 #[] w fun e w' => e = .returned (.bool true) ∧ Below w.heap.size w w' := by
  go_enter Try.func12, Try.ntmps12
  go_wp2_with fail
  refine (One.new w w (Below.refl _ _)).mono ?_
  rintro e w1 ⟨p, rfl, S1⟩
  have H1 := Lib.hid (show Calls Try.prog 24 #[ptr p] w1 fun e w' => e = .returned (.int .i64 1) ∧ w' = w1 from S1.len)
  have H2 := Lib.hid (s_make S1 (by decide) (by decide) f1_ans f1_doc)
  clear S1
  go_wp2_with fail
  refine H1.out.mono ?_
  rintro e w1' ⟨rfl, rfl⟩
  go_wp2_with fail
  refine H2.out.mono ?_
  rintro e w2 ⟨rfl, S2⟩
  have H3 := Lib.hid (s_ins S2 i_F1.wf (by decide) f2_ins)
  clear S2 H1 H2
  go_wp2_with fail
  refine H3.out.mono ?_
  rintro e w3 ⟨rfl, S3⟩
  have H4 := Lib.hid (s_ins S3 i_F2.wf (by decide) f2_self)
  clear S3 H3
  go_wp2_with fail
  refine H4.out.mono ?_
  rintro e w4 ⟨rfl, S4⟩
  have H5 := Lib.hid (s_make S4 (by decide) (by decide) f3_ans f3_doc)
  clear S4 H4
  go_wp2_with fail
  refine H5.out.mono ?_
  rintro e w5 ⟨rfl, S5⟩
  have H6 := Lib.hid (s_ins S5 i_F3.wf (by decide) f4_ins)
  clear S5 H5
  go_wp2_with fail
  refine H6.out.mono ?_
  rintro e w6 ⟨rfl, S6⟩
  have H7 := Lib.hid (s_ins S6 i_F4.wf (by decide) f4_text)
  clear S6 H6
  go_wp2_with fail
  refine H7.out.mono ?_
  rintro e w7 ⟨rfl, S7⟩
  have h8 := S7.attr i_F4 (by decide) 1 bId bV (by decide)
  rw [f5_ans, f5_doc] at h8
  have H8 := Lib.hid h8
  clear S7 H7 h8
  go_wp2_with fail
  refine H8.out.mono ?_
  rintro e w8 ⟨rfl, S8⟩
  have h9 := S8.drop i_F5 (by decide) 1 bX
  rw [f5_drop, f5_dropM] at h9
  have H9 := Lib.hid h9
  clear S8 H8 h9
  go_wp2_with fail
  refine H9.out.mono ?_
  rintro e w9 ⟨rfl, S9⟩
  have h10 := S9.clone i_F5 (by decide) (by decide) 1
  rw [f6_ans, f6_doc] at h10
  have H10 := Lib.hid h10
  clear S9 H9 h10
  go_wp2_with fail
  refine H10.out.mono ?_
  rintro e w10 ⟨rfl, S10⟩
  have H11 := Lib.hid (s_make S10 (by decide) (by decide) f6_make f6_makeM)
  clear S10 H10
  go_wp2_with fail
  refine H11.out.mono ?_
  rintro e w11 ⟨rfl, S11⟩
  obtain ⟨w12, hw12⟩ : ∃ w12, (w11.alloc (.cells #[.string ⟨#[105, 100]⟩, .string ⟨#[118]⟩] 63)).alloc (.cells #[.int .i64 0, .int .i64 0, .string ⟨#[112]⟩, .string ⟨#[]⟩, .slice (some ⟨w11.heap.size, 0, none⟩) 1 1, .int .i64 1, .int .i64 1, .string ⟨#[]⟩, .string ⟨#[120]⟩, .slice none 0 0] 65) = w12 := ⟨_, rfl⟩
  have hlit : Rv w12 (.slice (some ⟨w11.heap.size + 1, 0, none⟩) 2 2) (litL w11.heap.size) := by
    rw [← hw12]
    exact lit_new w11 _ rfl
  have hb12 : Below w11.heap.size w11 w12 := hw12 ▸ bt (below_new w11 _) (below_new _ _)
  have S12 := S11.below hb12
  have HR0 := Lib.hid (S12.rows i_F6 (by decide) (by decide) 0)
  have HL := Lib.hid hlit; have HS := Lib.hid S12
  have HW12 := Lib.hid hw12
  clear S11 H11 hlit hb12 S12 hw12
  go_wp2_with fail
  rw [HW12.out]
  refine HR0.out.mono ?_
  rintro e w13 ⟨v0, l0, rfl, hv0, hr0, hl0, _, _, hb13⟩
  have S13 := HS.out.below hb13
  have HL13 := Lib.hid (HL.out.below hb13)
  have hlit0 : decide (ros l0 = ros (litL w11.heap.size)) = true := decide_eq_true (by rw [hr0, f6_rows0]; rfl)
  have HSA := Lib.hid (refSame1 v0 _ l0 (litL w11.heap.size) w13 true hv0 HL13.out (Nat.le_trans hl0 (by decide)) (show (2 : Nat) ≤ 1000000 by decide) hlit0)
  have HS13 := Lib.hid S13
  clear S13 hv0 hr0 hl0 hb13 hlit0 HR0
  go_wp2_with fail
  refine HSA.out.mono ?_
  rintro e w14 ⟨rfl, hb14⟩
  have S14 := HS13.out.below hb14
  have HL14 := Lib.hid (HL13.out.below hb14)
  have HR3 := Lib.hid (S14.rows i_F6 (by decide) (by decide) 3)
  have HS14 := Lib.hid S14
  clear S14 hb14 HSA
  go_wp2_with fail
  refine HR3.out.mono ?_
  rintro e w15 ⟨v3, l3, rfl, hv3, hr3, hl3, _, _, hb15⟩
  have S15 := HS14.out.below hb15
  have HL15 := Lib.hid (HL14.out.below hb15)
  have hlit3 : decide (ros l3 = ros (litL w11.heap.size)) = true := decide_eq_true (by rw [hr3, f6_rows3]; rfl)
  have HSB := Lib.hid (refSame1 v3 _ l3 (litL w11.heap.size) w15 true hv3 HL15.out (Nat.le_trans hl3 (by decide)) (show (2 : Nat) ≤ 1000000 by decide) hlit3)
  have HS15 := Lib.hid S15
  clear S15 hv3 hr3 hl3 hb15 hlit3 HR3
  go_wp2_with fail
  refine HSB.out.mono ?_
  rintro e w16 ⟨rfl, hb16⟩
  have S16 := HS15.out.below hb16
  have HP2 := Lib.hid (S16.parent 2 1 rfl)
  have HP3 := Lib.hid (S16.parent 3 (-1) rfl)
  have HI := Lib.hid (S16.within i_F6.wf (by decide) 2 0 true ⟨fun _ => f6_in, fun _ => rfl⟩)
  have HO := Lib.hid (S16.within i_F6.wf (by decide) 3 0 false ⟨fun h => (by cases h), fun h => absurd h f6_out⟩)
  have HRM := Lib.hid (S16.remove i_F6.wf (by decide) 0 110 rfl)
  clear S16 hb16 HSB
  go_wp2_with fail
  refine HP2.out.mono ?_
  rintro e w17 ⟨rfl, rfl⟩
  go_wp2_with fail
  refine HP3.out.mono ?_
  rintro e w17 ⟨rfl, rfl⟩
  go_wp2_with fail
  refine HI.out.mono ?_
  rintro e w17 ⟨rfl, rfl⟩
  go_wp2_with fail
  refine HO.out.mono ?_
  rintro e w17 ⟨rfl, rfl⟩
  go_wp2_with fail
  refine HRM.out.mono ?_
  rintro e w18 ⟨rfl, S18⟩
  have HS18 := Lib.hid S18.bel
  clear S18
  go_wp2
  go_ret
  exact ⟨rfl, HS18.out⟩
end Go.Proofs.Ytmlchbohijolaaa.Ar

namespace Go.Proofs.Ytmlchbohijolaaa.Ar
set_option maxRecDepth 100000
set_option linter.unusedSimpArgs false
set_option linter.unusedVariables false
open Go.RowKit Ba
open Ro (At Ro Cw ros Rr Ow Nw Fr Att Ap Sh Ra Rv Held cells acells below_new infoI info_row len_cells rowV rowO Few check right refSame1)
def ocells (o : Op11) : List Value := [.int .i64 o.kind, .int .i64 o.node, .int .i64 o.other, .int .i64 o.at_, .int .i64 o.what, .string o.name, .string o.value, .slice o.A o.x.length o.c]
/-- A value reads as a script, below block K. -/
def Script (w : World) (K : Nat) (v : Value) (os : List Op11) : Prop := ∃ A c, v = .slice A os.length c ∧ os.length ≤ c ∧ c ≤ maxLen ∧ (0 < os.length → ∃ b off, A = some ⟨b, off, none⟩ ∧ b < K ∧ ∀ j (h : j < os.length), w.rangeAt b (off + j * 8) (ocells os[j])) ∧ ∀ o ∈ os, OpOk w K o
theorem OpOk.below {w w' : World} {K : Nat} {o : Op11} (h : OpOk w K o) (hb : Below K w w') : OpOk w' K o := ⟨h.cap, h.rows.below hb, h.held, h.name, h.what⟩
theorem Doc11.mono {w : World} {N N' : Nat} {F : Nat → Prop} {p : Nat} {M : List Nd} (h : Doc11 w N F p M) (hN : N' ≤ N) : Doc11 w N' F p M := by
  obtain ⟨rk, gX, cX, gU, cU, gR, cR, lX, D⟩ := h
  exact ⟨rk, gX, cX, gU, cU, gR, cR, lX, D.box, World.ownsRow.mono D.rows hN, fun x hx => ⟨(D.attrs x hx).1.mono hN, (D.attrs x hx).2⟩, D.same, World.ownsRow.mono D.ups hN, World.ownsRow.mono D.ranks hN, D.apart, Nat.le_trans hN D.low, D.fp, D.fx, D.fu, D.fr, D.rf, D.bd⟩
theorem one_of {w0 w w' : World} {F' G G' : Nat → Prop} {p : Nat} {M' : List Nd} (hG : ∀ b, G b → w0.heap.size ≤ b) (hb : Below w0.heap.size w0 w) (D : Doc12 w' w0.heap.size F' p M') (n : Next w w' G G') (hs : ∀ b, F' b → G' b) : One w0 w' p M' := by
  have h1 := hb.size
  have h2 := n.1.size
  refine ⟨F', D, fun b h => ?_, ⟨n.1.os.trans hb.os, n.1.tape.trans hb.tape, n.1.output.trans hb.output, by omega, fun b h => (n.1.block b (by omega) fun hf => by have := hG b hf; omega).trans (hb.block b h)⟩⟩
  rcases n.2.2 b (hs b h) with h | h
  · exact hG b h
  · omega
set_option maxRecDepth 100000 in
set_option maxHeartbeats 8000000 in
theorem played11 (v : Value) (os : List Op11) (w : World) (S : Script w w.heap.size v os) : Calls Try.prog 22 #[v] w fun e w' => ∃ p M, e = .returned (ptr p) ∧ One w w' p M ∧ Inv 50 M ∧ M.length ≤ 612 := by
  obtain ⟨A, c, rfl, hc, hcm, hat, hok⟩ := S
  have HAT := Lib.hid hat; have HOK := Lib.hid hok
  clear hat hok
  go_enter Try.func22, Try.ntmps22
  go_wp2_with fail
  refine (One.new w w (Below.refl _ _)).mono ?_
  rintro e w1 ⟨p, rfl, S1⟩
  have HS1 := Lib.hid S1
  clear S1
  go_wp2
  go_loopw [4] (fun i wr => ∃ (j : Nat) (M : List Nd), i = .int .i64 j ∧ j ≤ 40 ∧ One w wr p M ∧ Inv (4 + j) M ∧ M.length ≤ 612) (fun i _ => 40 - (intOf i).toNat)
  case atStart => exact ⟨0, M0, rfl, by omega, HS1.out, i_M0, by decide⟩
  case round =>
    obtain ⟨j, M, rfl, hj, S, I, hm⟩ := hrel
    have HS := Lib.hid S; have HI := Lib.hid I; have HL := Lib.hid S.len
    clear S I
    by_cases h1 : j < os.length
    · by_cases h2 : j < 40
      · have hj1 : (j : Int) < os.length := by omega
        have hj2 : (j : Int) < 40 := by omega
        by_cases h3 : M.length < 300
        · have hm3 : (M.length : Int) < 300 := by omega
          obtain ⟨b, off, hA, hbl, hcell⟩ := HAT.out (by omega)
          subst hA
          obtain ⟨o, ho⟩ : ∃ o, os[j] = o := ⟨_, rfl⟩
          have hoo := HOK.out o (ho ▸ List.getElem_mem h1)
          have hbel := HS.out.bel
          have hk := fun i => (hbel.cell (p := ⟨b, off + j * 8 + i, none⟩) hbl)
          have d0 := (hk 0).trans (hcell j h1 0 _ rfl)
          have d1 := (hk 1).trans (hcell j h1 1 _ rfl)
          have d2 := (hk 2).trans (hcell j h1 2 _ rfl)
          have d3 := (hk 3).trans (hcell j h1 3 _ rfl)
          have d4 := (hk 4).trans (hcell j h1 4 _ rfl)
          have d5 := (hk 5).trans (hcell j h1 5 _ rfl)
          have d6 := (hk 6).trans (hcell j h1 6 _ rfl)
          have d7 := (hk 7).trans (hcell j h1 7 _ rfl)
          rw [ho] at d0 d1 d2 d3 d4 d5 d6 d7
          rw [Nat.add_zero] at d0
          have HOO := Lib.hid hoo
          have key : ∀ (wx wy : World) (p2 : Nat) (F2 : Nat → Prop), wx.heap = wr.heap → One w wx p M → Doc11 wy wx.heap.size F2 p2 M0 → Below wx.heap.size wx wy → (∀ b, F2 b → wx.heap.size ≤ b) → Calls Try.prog 17 #[ptr p, ptr p2, opV o] wy fun e w' => ∃ b, e = .returned (.bool b) ∧ One w w' p (opM M o) := fun wx wy p2 F2 hwx Sx D2 hb hl2 => by
            obtain ⟨F1, D1, hl1, hB1⟩ := Sx
            have hs1 := hB1.size
            have hs2 := hb.size
            have T : Two wy w.heap.size w.heap.size p p2 F1 F2 (4 + j) M M0 := ⟨D1.below hb, D2.mono hs1, fun b h1 h2 => by have := D1.bd b h1; have := hl2 b h2; omega, hl1, fun b h => Nat.le_trans hs1 (hl2 b h), HI.out, i_M0.more (by omega), by omega, by decide, by omega, by omega⟩
            have hby : Below w.heap.size w wy := bt hB1 hb
            refine (tells1 T (HOO.out.below hby)).mono ?_
            rintro e w' ⟨q, rfl, _, F1', F2', G1, _, _, n⟩
            exact ⟨q, rfl, one_of (fun b h => h.elim (hl1 b) fun h => Nat.le_trans hs1 (hl2 b h)) hby G1 n fun b h => .inl h⟩
          have HKEY := Lib.hid key
          clear hcell ho hoo hbel hk key
          go_wp2_with fail
          refine HL.out.mono ?_
          rintro e wr' ⟨rfl, rfl⟩
          have hblr : b < wr'.heap.size := by
            have := HS.out.bel.size
            omega
          have HOP := Lib.hid (HI.out.op (by omega) o); have HOL := Lib.hid (opM_len HI.out.wf o)
          go_wp2
          go_region_law (go_simp; first
            | (go_at_call 11; refine (refNew1 _).mono ?_; rintro en wn ⟨p2, F2, rfl, D2, hbn, hln⟩; have hbn' : Below wr'.heap.size wr' wn := ⟨hbn.os, hbn.tape, hbn.output, hbn.size, hbn.block⟩; have hlt := hblr; have e0 := (hbn'.cell (p := ⟨b, off + j * 8, none⟩) hlt).trans d0; have e1 := (hbn'.cell (p := ⟨b, off + j * 8 + 1, none⟩) hlt).trans d1; have e2 := (hbn'.cell (p := ⟨b, off + j * 8 + 2, none⟩) hlt).trans d2; have e3 := (hbn'.cell (p := ⟨b, off + j * 8 + 3, none⟩) hlt).trans d3; have e4 := (hbn'.cell (p := ⟨b, off + j * 8 + 4, none⟩) hlt).trans d4; have e5 := (hbn'.cell (p := ⟨b, off + j * 8 + 5, none⟩) hlt).trans d5; have e6 := (hbn'.cell (p := ⟨b, off + j * 8 + 6, none⟩) hlt).trans d6; have e7 := (hbn'.cell (p := ⟨b, off + j * 8 + 7, none⟩) hlt).trans d7; have HD2 := Lib.hid D2; have HBN := Lib.hid hbn'; have HLN := Lib.hid hln; clear D2 hbn hbn' hln)
            | (go_at_call 17; go_loud (refine (HKEY.out wr' wn p2 F2 rfl HS.out HD2.out HBN.out HLN.out).mono ?_; rintro et wt ⟨q, rfl, St⟩; have HST := Lib.hid St; clear St)))
          all_goals go_simp
          all_goals go_wp2_with fail
          all_goals go_roundw
          all_goals first
            | (have h5 := HOL.out; exact ⟨j + 1, opM M o, by go_num, by omega, HST.out, HOP.out, by omega⟩)
            | (simp [intOf]; try omega)
        · have hm3 : ¬ (M.length : Int) < 300 := by omega
          go_wp2_with fail
          refine HL.out.mono ?_
          rintro e wr' ⟨rfl, rfl⟩
          go_wp2
          go_ret
          first | exact ⟨p, M, rfl, HS.out, HI.out.more (by omega), hm⟩ | exact ⟨p, rfl, M, HS.out, HI.out.more (by omega), hm⟩
      · have hj1 : (j : Int) < os.length := by omega
        have hj2 : ¬ (j : Int) < 40 := by omega
        go_wp2
        go_ret
        first | exact ⟨p, M, rfl, HS.out, HI.out.more (by omega), hm⟩ | exact ⟨p, rfl, M, HS.out, HI.out.more (by omega), hm⟩
    · have hj1 : ¬ (j : Int) < os.length := by omega
      go_wp2
      go_ret
      first | exact ⟨p, M, rfl, HS.out, HI.out.more (by omega), hm⟩ | exact ⟨p, rfl, M, HS.out, HI.out.more (by omega), hm⟩
end Go.Proofs.Ytmlchbohijolaaa.Ar

namespace Go.Proofs.Ytmlchbohijolaaa.Ar
set_option maxRecDepth 100000
set_option linter.unusedSimpArgs false
set_option linter.unusedVariables false
open Go.RowKit Ba
open Ro (At Ro Cw ros Rr Ow Nw Fr Att Ap Sh Ra Rv Held cells acells below_new infoI info_row len_cells rowV rowO Few check right)
structure OneF (w0 w : World) (F : Nat → Prop) (p : Nat) (M : List Nd) : Prop where
  doc : Doc12 w w0.heap.size F p M
  low : ∀ b, F b → w0.heap.size ≤ b
  bel : Below w0.heap.size w0 w
def StepF (w0 w w' : World) (F : Nat → Prop) (p : Nat) (M' : List Nd) : Prop := ∃ F', OneF w0 w' F' p M' ∧ Next w w' F F'
section
variable {w0 w w' : World} {p : Nat} {M : List Nd} {F : Nat → Prop}
theorem One.of (S : One w0 w p M) : ∃ F, OneF w0 w F p M := by
  obtain ⟨F, D, hl, hB⟩ := S
  exact ⟨F, D, hl, hB⟩
theorem OneF.one (S : OneF w0 w F p M) : One w0 w p M := ⟨F, S.doc, S.low, S.bel⟩
theorem OneF.bd (S : OneF w0 w F p M) : ∀ b, F b → b < w.heap.size := S.doc.bd
theorem OneF.below (S : OneF w0 w F p M) (hb : Below w.heap.size w w') : OneF w0 w' F p M := ⟨S.doc.below hb, S.low, bt S.bel hb⟩
theorem step_of {M' : List Nd} {F' : Nat → Prop} (S : OneF w0 w F p M) (D : Doc12 w' w0.heap.size F' p M') (n : Next w w' F F') : StepF w0 w w' F p M' := by
  have hs := S.bel.size
  have hs' := n.1.size
  refine ⟨F', ⟨D, fun b h => ?_, ⟨n.1.os.trans S.bel.os, n.1.tape.trans S.bel.tape, n.1.output.trans S.bel.output, by omega, fun b h => (n.1.block b (by omega) fun hf => by have := S.low b hf; omega).trans (S.bel.block b h)⟩⟩, n⟩
  rcases n.2.2 b h with h | h
  · exact S.low b h
  · omega
theorem OneF.insert (S : OneF w0 w F p M) (W : Wf M) (hm : M.length ≤ 5000) (P A n a : Int) (M' : List Nd) (ha : insE M P A n = a) (hM : insM M P A n = M') : Calls Try.prog 27 #[ptr p, .int .i64 P, .int .i64 A, .int .i64 n] w fun e w' => e = .returned (.int .i64 a) ∧ StepF w0 w w' F p M' := by
  subst ha hM
  refine (insertP1 P A n w S.doc W hm).mono ?_
  rintro e w' ⟨rfl, F', D', N'⟩
  exact ⟨rfl, step_of S D' N'⟩
theorem OneF.remove (S : OneF w0 w F p M) (W : Wf M) (hm : M.length ≤ 5000) (n : Int) (q : Int) (M' : List Nd) (hq : (if 1 ≤ n ∧ n < M.length then (0 : Int) else 110) = q) (hM : remM M n = M') : Calls Try.prog 15 #[ptr p, .int .i64 n] w fun e w' => e = .returned (.int .i64 q) ∧ StepF w0 w w' F p M' := by
  subst hM
  refine (removeP1 n w S.doc W hm q hq).mono ?_
  rintro e w' ⟨rfl, F', D', N'⟩
  exact ⟨rfl, step_of S D' N'⟩
theorem OneF.clone {B : Nat} (S : OneF w0 w F p M) (I : Inv B M) (hB : B ≤ 1000000) (hm : M.length ≤ 1000) (n a b : Int) (M' : List Nd) (ha : cloneE M n = (a, b)) (hM : cloneM M n = M') : Calls Try.prog 30 #[ptr p, .int .i64 n] w fun e w' => e = .returned (.tuple #[.int .i64 a, .int .i64 b]) ∧ StepF w0 w w' F p M' := by
  subst hM
  have h := cloneP1 n w S.doc I.wf hm (I.few hB) (good_right I.wf I.good n)
  rw [ha] at h
  refine h.mono ?_
  rintro e w' ⟨rfl, F', D', N'⟩
  exact ⟨rfl, step_of S D' N'⟩
theorem OneF.attr {B : Nat} (S : OneF w0 w F p M) (I : Inv B M) (hB : B ≤ 1000000) (n : Int) (nm v : ByteArray) (hs : nm.size ≤ 140737488355328) (q : Int) (M' : List Nd) (hq : attrE11 M n nm = q) (hM : attrM11 M n nm v = M') : Calls Try.prog 16 #[ptr p, .int .i64 n, .string nm, .string v] w fun e w' => e = .returned (.int .i64 q) ∧ StepF w0 w w' F p M' := by
  subst hq hM
  refine (attrP1 n nm v w S.doc I.good (I.few hB) hs).mono ?_
  rintro e w' ⟨rfl, F', D', N'⟩
  exact ⟨rfl, step_of S D' N'⟩
theorem OneF.drop {B : Nat} (S : OneF w0 w F p M) (I : Inv B M) (hB : B ≤ 1000000) (n : Int) (nm : ByteArray) (q : Int) (M' : List Nd) (hq : dropE11 M n nm = q) (hM : dropM11 M n nm = M') : Calls Try.prog 33 #[ptr p, .int .i64 n, .string nm] w fun e w' => e = .returned (.int .i64 q) ∧ StepF w0 w w' F p M' := by
  subst hq hM
  refine (dropP1 n nm w S.doc I.good (I.few hB)).mono ?_
  rintro e w' ⟨rfl, F', D', N'⟩
  exact ⟨rfl, step_of S D' N'⟩
theorem OneF.data (S : OneF w0 w F p M) (n : Int) (d : ByteArray) (q : Int) (M' : List Nd) (hq : dataE M n = q) (hM : dataM M n d = M') : Calls Try.prog 32 #[ptr p, .int .i64 n, .string d] w fun e w' => e = .returned (.int .i64 q) ∧ StepF w0 w w' F p M' := by
  subst hq hM
  refine (dataP1 n d w S.doc).mono ?_
  rintro e w' ⟨rfl, F', D', N'⟩
  exact ⟨rfl, step_of S D' N'⟩
theorem OneF.make (S : OneF w0 w F p M) (hm : M.length ≤ 5000) (k : Int) (n d : ByteArray) (hs : n.size ≤ 140737488355328) (a b : Int) (M' : List Nd) (ha : makeE M k n d = (a, b)) (hM : makeM M k n d = M') : Calls Try.prog 14 #[ptr p, .int .i64 k, .string n, .string d] w fun e w' => e = .returned (.tuple #[.int .i64 a, .int .i64 b]) ∧ StepF w0 w w' F p M' := by
  subst hM
  have h := makeP1 k n d w S.doc hm hs
  rw [ha] at h
  refine h.mono ?_
  rintro e w' ⟨rfl, F', D', N'⟩
  exact ⟨rfl, step_of S D' N'⟩
/-- Rows that were made behind a document are kept while only that is touched. -/
theorem rows_kept {w1 w2 : World} {K : Nat} {v : Value} {l : List Cw} (h : Rv w1 v l) (ho : Ow K w1 v l) (hf : ∀ x ∈ l, Fr K w1 x) (hK : ∀ b, F b → b < K) (t : Touch F w1 w2) : Rv w2 v l := by
  obtain ⟨A, c, rfl, hc, hm, hr, hh⟩ := h
  refine rv_keep hr hc hm hh hf (fun b hb => ?_) hK t
  exact own_blk ho.1 hb
end
/-- The answer of Rows and Same. -/
theorem OneF.rows {w0 w : World} {p : Nat} {M : List Nd} {F : Nat → Prop} {B : Nat} (S : OneF w0 w F p M) (I : Inv B M) (hB : B ≤ 1000000) (hm : M.length ≤ 5000) (n : Int) : Calls Try.prog 21 #[ptr p, .int .i64 n] w fun e w' => ∃ v l, e = .returned v ∧ ros l = rowsM M n ∧ l.length ≤ 5000 ∧ OneF w0 w' F p M ∧ (∀ w2 F', Next w' w2 F F' → Rv w2 v l) ∧ Below w.heap.size w w' := by
  refine (S.one.rows I hB hm n).mono ?_
  rintro e w' ⟨v, l, rfl, hv, hr, hl, ho, hf, hb⟩
  exact ⟨v, l, rfl, hr, by omega, S.below hb, fun w2 F' n => rows_kept hv ho hf S.bd n.1, hb⟩
end Go.Proofs.Ytmlchbohijolaaa.Ar

namespace Go.Proofs.Ytmlchbohijolaaa.Ar
set_option linter.unusedSimpArgs false
set_option linter.unusedVariables false
theorem no_cycle {M : List Nd} (W : Wf M) {m n : Nat} (h : Up M m n) : n ∉ (nd M m).kids := fun hk => by
  obtain ⟨g, G⟩ := W.acyc
  obtain ⟨h1, h2⟩ := (W.kid m n).1 hk
  have := G n m h1 h2
  have := (h.height G).1
  omega
theorem filter_none11 {l : List Nat} {n : Nat} (h : n ∉ l) : l.filter (· != n) = l := by
  rw [List.filter_eq_self]
  intro x hx
  simp only [bne_iff_ne, ne_eq]
  rintro rfl
  exact h hx
theorem tr_taken {M : List Nd} (W : Wf M) {n : Nat} (hn : n < M.length) (d : Int) : tr (takeOut M n) n d = tr M n d :=
  tr_congr W (W.take n) hn (by rw [len_take]; exact hn) (fun m hu => by rw [nd_take]; exact ⟨rfl, filter_none11 (no_cycle W hu)⟩) d
theorem tr_moved {M : List Nd} (W : Wf M) {P n i : Nat} (hP : P < M.length) (hn : n < M.length) (h0 : n ≠ 0) (hu : ¬ Up M P n) (d : Int) : tr (setM M P i n) n d = tr M n d :=
  tr_congr W (W.set hP hn h0 hu i) hn (by rw [len_set]; exact hn) (fun m hm => by
    rw [nd_set hP hn, if_neg (show ¬ m = P from fun e => hu (e ▸ hm))]
    exact ⟨rfl, filter_none11 (no_cycle W hm)⟩) d
theorem rows_node {M : List Nd} {n : Nat} (h0 : n ≠ 0) (hn : n < M.length) : rowsM M n = tr M n 0 := by
  unfold rowsM
  rw [if_pos ⟨by omega, by omega⟩, if_neg (by omega), Int.toNat_natCast]
/-- All that the law asks of a node that was put in: P is its parent, i its place. -/
structure Moved (M M' : List Nd) (P i n : Nat) : Prop where
  len : M'.length = M.length
  hP : P < M.length
  h0 : n ≠ 0
  hn : n < M.length
  place : i < (nd M' P).kids.length
  there : (nd M' P).kids[i]? = some n
  up : (nd M' n).up = P
  rows : rowsM M' n = rowsM M n
  outRows : rowsM (takeOut M' n) n = rowsM M n
  outUp : (nd (takeOut M' n) n).up = -1
  outLen : (nd (takeOut M' n) P).kids.length + 1 = (nd M' P).kids.length
theorem moved_of {M : List Nd} (W : Wf M) {P A n : Int} (h : insE M P A n = 0) : ∃ P' i n' : Nat, P = P' ∧ A = i ∧ n = n' ∧ insM M P A n = setM M P' i n' ∧ Moved M (setM M P' i n') P' i n' := by
  by_cases c1 : P < 0 ∨ (M.length : Int) ≤ P ∨ n < 1 ∨ (M.length : Int) ≤ n
  · rw [(ins_110 c1).1] at h
    cases h
  by_cases c2 : (0 < P ∧ (nd M P.toNat).ro.kind ≠ 0) ∨ Win M P n
  · rw [(ins_111 c1 c2).1] at h
    cases h
  by_cases c3 : A < 0 ∨ (((nd M P.toNat).kids.filter (· != n.toNat)).length : Int) < A
  · rw [(ins_1 c1 c2 c3).1] at h
    cases h
  have hM := (ins_0 c1 c2 c3).2
  obtain ⟨P', rfl⟩ : ∃ P' : Nat, P = P' := ⟨P.toNat, by omega⟩
  obtain ⟨i, rfl⟩ : ∃ i : Nat, A = i := ⟨A.toNat, by omega⟩
  obtain ⟨n', rfl⟩ : ∃ n' : Nat, n = n' := ⟨n.toNat, by omega⟩
  rw [Int.toNat_natCast] at hM c3
  rw [Int.toNat_natCast] at hM c3
  rw [Int.toNat_natCast] at hM
  have hP : P' < M.length := by omega
  have hn : n' < M.length := by omega
  have h0 : n' ≠ 0 := by omega
  have hu : ¬ Up M P' n' := fun hu => c2 (.inr (win_nat.2 hu))
  have W' := W.set hP hn h0 hu i
  have hl := len_set M P' i n'
  have hk : (nd (setM M P' i n') P').kids = putAt10 ((nd M P').kids.filter (· != n')) i n' := by rw [nd_set hP hn, if_pos rfl]
  have hil : i ≤ ((nd M P').kids.filter (· != n')).length := by omega
  have hup : (nd (setM M P' i n') n').up = P' := by rw [nd_set hP hn, if_pos rfl]
  refine ⟨P', i, n', rfl, rfl, rfl, hM, hl, hP, h0, hn, ?_, ?_, hup, ?_, ?_, ?_, ?_⟩
  · rw [hk]
    unfold putAt10
    rw [List.length_append, List.length_cons, List.length_take, List.length_drop]
    omega
  · rw [hk]
    unfold putAt10
    rw [List.getElem?_append_right (by rw [List.length_take]; omega), List.length_take, Nat.min_eq_left hil, Nat.sub_self]
    rfl
  · rw [rows_node h0 (by omega), rows_node h0 hn]
    exact tr_moved W hP hn h0 hu 0
  · rw [rows_node h0 (by rw [len_take]; omega), rows_node h0 hn, tr_taken W' (by omega)]
    exact tr_moved W hP hn h0 hu 0
  · rw [nd_take]
    exact if_pos rfl
  · rw [nd_take, hk]
    show ((putAt10 ((nd M P').kids.filter (· != n')) i n').filter (· != n')).length + 1 = _
    have hf : ∀ l : List Nat, (l.filter (· != n')).filter (· != n') = l.filter (· != n') := fun l => by rw [List.filter_filter]; simp
    unfold putAt10
    rw [List.filter_append, List.filter_cons, if_neg (by simp)]
    have h1 : ∀ l : List Nat, n' ∉ l → l.filter (· != n') = l := fun l h => filter_none11 h
    have hno : n' ∉ (nd M P').kids.filter (· != n') := fun h => by
      have := (List.mem_filter.1 h).2
      simp at this
    rw [h1 _ (fun h => hno (List.mem_of_mem_take h)), h1 _ (fun h => hno (List.mem_of_mem_drop h)), List.length_append, List.length_append, List.length_cons]
    omega
end Go.Proofs.Ytmlchbohijolaaa.Ar

namespace Go.Proofs.Ytmlchbohijolaaa.Ar
set_option maxRecDepth 100000
set_option linter.unusedSimpArgs false
set_option linter.unusedVariables false
open Go.RowKit Ba
open Ro (At Ro Cw ros Rr Ow Nw Fr Att Ap Sh Ra Rv Held cells acells below_new infoI info_row len_cells rowV rowO Few check right refSame1)
theorem Script.to {w w' : World} {v : Value} {os : List Op11} (h : Script w w.heap.size v os) (hb : Below w.heap.size w w') : Script w' w'.heap.size v os := by
  obtain ⟨A, c, rfl, hc, hm, hat, hok⟩ := h
  have hs := hb.size
  refine ⟨A, c, rfl, hc, hm, fun h0 => ?_, fun o ho => ?_⟩
  · obtain ⟨b, off, hA, hbl, hcell⟩ := hat h0
    exact ⟨b, off, hA, by omega, fun j hj i u hu => (hb.cell (p := ⟨b, _, none⟩) hbl).trans (hcell j hj i u hu)⟩
  · have h1 := (hok o ho).below hb
    exact ⟨h1.cap, h1.rows.more hs, h1.held, h1.name, h1.what⟩
theorem bel_eq {w w1 w2 : World} {n : Nat} (h : Below n w w1) (he : w2.heap = w1.heap) (ho : w2.os = w1.os) (ht : w2.tape = w1.tape) (hp : w2.output = w1.output) : Below n w w2 := ⟨ho.trans h.os, ht.trans h.tape, hp.trans h.output, by rw [he]; exact h.size, fun b hb => by rw [he]; exact h.block b hb⟩
theorem less_wrap {a b : Nat} (h : b = a + 1) (hb : b ≤ 9223372036854775807) : (a : Int) = wrap64 ((b : Int) - 1) := by
  unfold wrap64
  omega
set_option maxRecDepth 100000 in
set_option maxHeartbeats 8000000 in
theorem law_moves (v : Value) (o : Op11) (os : List Op11) (w : World) (S : Script w w.heap.size v os) (_ : True) : Calls Try.prog 7 #[v, opV o] w fun e w' => e = .returned (.bool true) ∧ Below w.heap.size w w' := by
  have hb0 := below_new w (opO o)
  have hbx := heap_alloc_new w (opO o)
  have hsz : w.heap.size < (w.alloc (opO o)).heap.size := by simp
  obtain ⟨w0, hw0⟩ : ∃ w0, w.alloc (opO o) = w0 := ⟨_, rfl⟩
  rw [hw0] at hb0 hbx hsz
  have S0 := S.to hb0
  obtain ⟨c0, c1, c2, c3, c4, c5, c6, c7⟩ := op_cells hbx
  have HSZ := Lib.hid hsz; have HB0 := Lib.hid hb0; have HW0 := Lib.hid hw0
  have HPL := Lib.hid (played11 v os w0 S0)
  have HX := Lib.hid (fun (wi : World) (hb : Below w0.heap.size w0 wi) => op_cells ((hb.block w.heap.size hsz).trans hbx))
  have HE := Lib.hid (fun (wi w' : World) (hb : Below w0.heap.size w0 wi) (hb' : Below wi.heap.size wi w') => (bt hb0 (bt hb hb') : Below w.heap.size w w'))
  clear S S0 hb0 hbx hsz hw0
  go_enter Try.func7, Try.ntmps7
  go_upto_region 1 with (fail)
  rw [HW0.out]
  go_wp2_with fail
  refine HPL.out.mono ?_
  rintro e w1 ⟨p, M, rfl, So, I, hm⟩
  obtain ⟨F, S1⟩ := So.of
  have HI := Lib.hid I; have HM := Lib.hid hm
  obtain ⟨_, d1, d2, d3, _, _, _, _⟩ := HX.out w1 S1.bel
  have HR := Lib.hid (S1.rows I (by decide) (by omega) o.other)
  clear So S1 I hm c0 c1 c2 c3 c4 c5 c6 c7
  go_wp2_with fail
  refine HR.out.mono ?_
  rintro e w2 ⟨vl, l, rfl, hl, hll, S2, hkeep, hb2⟩
  obtain ⟨_, e1, e2, e3, _, _, _, _⟩ := HX.out w2 S2.bel
  have HL := Lib.hid hl; have HLL := Lib.hid hll; have HK := Lib.hid hkeep; have HS2 := Lib.hid S2
  clear d1 d2 d3 hb2 hl hll hkeep HR
  by_cases hins : insE M o.node o.at_ o.other = 0
  · obtain ⟨P, i, n, hP, hi, hn, hMM, V⟩ := moved_of HI.out.wf hins
    have HIN := Lib.hid (S2.insert HI.out.wf (by have := HM.out; omega) o.node o.at_ o.other 0 _ hins hMM)
    have I2 : Inv 51 (setM M P i n) := by rw [← hMM]; exact (HI.out.ins _ _ _).more (by omega)
    have HV := Lib.hid V; have HI2 := Lib.hid I2
    have HPP := Lib.hid hP; have HII := Lib.hid hi; have HNN := Lib.hid hn
    rw [hP] at e1
    rw [hi] at e3
    rw [hn] at e2
    obtain ⟨M2, hM2⟩ : ∃ M2, setM M P i n = M2 := ⟨_, rfl⟩
    rw [hP, hi, hn, hM2] at HIN
    rw [hM2] at HV HI2
    clear S2 V I2 hins hMM hM2 hP hi hn
    go_wp2_with fail
    refine HIN.out.mono ?_
    rintro e w3 ⟨rfl, F3, S3, N3⟩
    have hl3 : M2.length ≤ 5000 := by rw [HV.out.len]; have := HM.out; omega
    have HL3 := Lib.hid hl3
    obtain ⟨_, f1, f2, f3, _, _, _, _⟩ := HX.out w3 S3.bel
    rw [HPP.out] at f1
    rw [HII.out] at f3
    rw [HNN.out] at f2
    have HKI := Lib.hid (S3.one.kids HI2.out.wf hl3 P)
    have HS3 := Lib.hid S3; have HN3 := Lib.hid N3
    clear e1 e2 e3 S3 N3 hl3 HIN
    go_wp2_with fail
    refine HKI.out.mono ?_
    rintro e w4 ⟨vk, rfl, hnw, hb4⟩
    rw [kidsI_nat] at hnw
    obtain ⟨Ak, ck, rfl, hkc, hkm, hkat⟩ := nw_rn hnw
    have hpl := HV.out.place
    obtain ⟨bk, ok, rfl, hbk, hkat⟩ := hkat (by omega)
    have g0 := hkat i hpl
    have hget : (nd M2 P).kids[i]'hpl = n := by
      have := HV.out.there
      rw [List.getElem?_eq_getElem hpl] at this
      exact Option.some.inj this
    rw [hget] at g0
    have hS4 := HS3.out.below hb4
    obtain ⟨_, g1, g2, g3, _, _, _, _⟩ := HX.out w4 hS4.bel
    rw [HPP.out] at g1
    rw [HII.out] at g3
    rw [HNN.out] at g2
    have HS4 := Lib.hid hS4; have HN4 := Lib.hid (HN3.out.trans (Next.of_below (F := F3) hb4))
    have hx1 : (i : Int) < (nd M2 P).kids.length := by omega
    have hx0 : decide ((i : Int) < 0) = false := decide_eq_false (by omega)
    have hx2 : decide ((nd M2 P).kids.length ≤ (i : Int)) = false := decide_eq_false (by omega)
    have hx3 : decide ((nd M2 P).kids.length ≤ i) = false := decide_eq_false (by omega)
    have HPA := Lib.hid (fun (wx : World) (hb : Below w4.heap.size w4 wx) => (HS4.out.below hb).one.parent n P (by rw [if_pos ⟨by omega, by have := HV.out.hn; have := HV.out.len; omega⟩, Int.toNat_natCast]; exact HV.out.up))
    have HRO := Lib.hid (fun (wx : World) (hb : Below w4.heap.size w4 wx) => (HS4.out.below hb).rows HI2.out (by decide) HL3.out n)
    have HSA := Lib.hid (fun (wx : World) (F' : Nat → Prop) (v2 : Value) (l2 : List Cw) (h2 : ros l2 = rowsM M2 n) (hl2 : l2.length ≤ 5000) (hr2 : Rv wx v2 l2) (n1 : Next w2 wx F F') => refSame1 v2 vl l2 l wx true hr2 (HK.out wx F' n1) (by omega) (by have := HLL.out; omega) (decide_eq_true (by rw [h2, HL.out, HV.out.rows, HNN.out])))
    clear hb4 hnw hkat hget hS4 f1 f2 f3 HKI
    go_wp2_with fail
    have HBL := Lib.hid (fun (wx : World) (hb : Below w4.heap.size w4 wx) => show wx.cell? ⟨w.heap.size, 1, none⟩ = some (.int .i64 P) ∧ wx.cell? ⟨w.heap.size, 2, none⟩ = some (.int .i64 n) ∧ wx.cell? ⟨w.heap.size, 3, none⟩ = some (.int .i64 i) ∧ wx.cell? ⟨bk, ok + i, none⟩ = some (.int .i64 n) from ⟨(hb.cell (p := ⟨w.heap.size, 1, none⟩) (Nat.lt_of_lt_of_le HSZ.out HS4.out.bel.size)).trans g1, (hb.cell (p := ⟨w.heap.size, 2, none⟩) (Nat.lt_of_lt_of_le HSZ.out HS4.out.bel.size)).trans g2, (hb.cell (p := ⟨w.heap.size, 3, none⟩) (Nat.lt_of_lt_of_le HSZ.out HS4.out.bel.size)).trans g3, (hb.cell (p := ⟨bk, ok + i, none⟩) hbk).trans g0⟩)
    go_region_held3 (fun w' => w'.cell? ⟨w.heap.size, 1, none⟩ = some (.int .i64 P) ∧ w'.cell? ⟨w.heap.size, 2, none⟩ = some (.int .i64 n) ∧ w'.cell? ⟨w.heap.size, 3, none⟩ = some (.int .i64 i) ∧ w'.cell? ⟨bk, ok + i, none⟩ = some (.int .i64 n)) (first | exact HBL.out _ (bel_eq (Below.refl _ w4) rfl rfl rfl rfl) | exact HBL.out _ HB5.out | exact HBL.out _ (bel_eq HB5.out rfl rfl rfl rfl) | exact HBL.out _ (bel_eq HB6.out rfl rfl rfl rfl) | go_keep) (first
      | (go_at_call 31; refine (HPA.out _ (by exact bel_eq (Below.refl _ w4) rfl rfl rfl rfl)).mono ?_; rintro e5 w5 ⟨rfl, rfl⟩)
      | (go_at_call 21; refine (HRO.out _ (by exact bel_eq (Below.refl _ w4) rfl rfl rfl rfl)).mono ?_; rintro e5 w5 ⟨v5, l5, rfl, hl5, hll5, S5, hk5, hb5⟩; have HKP5 := Lib.hid (fun (wz : World) (h : Below w5.heap.size w5 wz) => hk5 wz F3 (Next.of_below h)); have hb5' : Below w4.heap.size w4 w5 := ⟨hb5.os, hb5.tape, hb5.output, hb5.size, hb5.block⟩; have HB5 := Lib.hid hb5'; have HS5 := Lib.hid S5; have HL5 := Lib.hid hl5; have HLL5 := Lib.hid hll5; clear hb5 hb5' S5 hl5 hll5 hk5)
      | (go_at_call 26; go_loud (refine (HSA.out _ F3 v5 l5 HL5.out HLL5.out (by exact HKP5.out _ (bel_eq (Below.refl _ w5) rfl rfl rfl rfl)) (by exact HN4.out.trans (Next.of_below (bel_eq HB5.out rfl rfl rfl rfl)))).mono ?_); rintro e6 w6 ⟨rfl, hb6⟩; have hb6' : Below w5.heap.size w5 w6 := ⟨hb6.os, hb6.tape, hb6.output, hb6.size, hb6.block⟩; have HB6 := Lib.hid (bt HB5.out hb6'); clear hb6 hb6'))
    go_simp
    have hq1 : (if 1 ≤ (n : Int) ∧ (n : Int) < M2.length then (0 : Int) else 110) = 0 := if_pos ⟨by have := HV.out.h0; omega, by have := HV.out.hn; have := HV.out.len; omega⟩
    have hM4 : remM M2 n = takeOut M2 n := by
      unfold remM
      rw [if_pos ⟨by have := HV.out.h0; omega, by have := HV.out.hn; have := HV.out.len; omega⟩, Int.toNat_natCast]
    have I4 : Inv 51 (takeOut M2 n) := hM4 ▸ HI2.out.rem n
    have HRM := Lib.hid (fun (wx : World) (hb : Below w4.heap.size w4 wx) => (HS4.out.below hb).remove HI2.out.wf HL3.out n 0 _ hq1 hM4)
    have HI4 := Lib.hid I4
    clear hq1 hM4 I4
    go_wp2_with fail
    refine (HRM.out _ (by exact bel_eq HB6.out rfl rfl rfl rfl)).mono ?_
    rintro e7 w7 ⟨rfl, F7, S7, N7⟩
    have n7 : Next w2 w7 F F7 := HN4.out.trans (Next.trans (Next.of_below (bel_eq HB6.out rfl rfl rfl rfl)) N7)
    have HN7 := Lib.hid n7; have HS7 := Lib.hid S7
    have hl7 : (takeOut M2 n).length ≤ 5000 := by rw [len_take]; exact HL3.out
    have HP7 := Lib.hid (S7.one.parent n (-1) (by rw [if_pos ⟨by omega, by rw [len_take]; have := HV.out.hn; have := HV.out.len; omega⟩, Int.toNat_natCast]; exact HV.out.outUp))
    have HR7 := Lib.hid (S7.rows HI4.out (by decide) hl7 n)
    have HL7 := Lib.hid hl7
    obtain ⟨_, f1, f2, f3, _, _, _, _⟩ := HX.out w7 S7.bel
    rw [HPP.out] at f1
    rw [HNN.out] at f2
    clear S7 N7 n7 hl7 g0 g1 g2 g3 f3
    go_wp2_with fail
    refine HP7.out.mono ?_
    rintro e8 w8 ⟨rfl, rfl⟩
    go_wp2_with fail
    refine HR7.out.mono ?_
    rintro e9 w9 ⟨v9, l9, rfl, hl9, hll9, S9, hk9, hb9⟩
    have HS9 := Lib.hid (refSame1 v9 vl l9 l w9 true (hk9 w9 F7 (Next.refl _ _)) (HK.out w9 F7 (HN7.out.trans (Next.of_below hb9))) (by omega) (by have := HLL.out; omega) (decide_eq_true (by rw [hl9, HL.out, HV.out.outRows, HNN.out])))
    have HT9 := Lib.hid S9
    obtain ⟨_, j1, j2, j3, _, _, _, _⟩ := HX.out w9 S9.bel
    rw [HPP.out] at j1
    rw [HNN.out] at j2
    clear hl9 hll9 S9 hk9 hb9 f1 f2 j3
    go_wp2_with fail
    refine HS9.out.mono ?_
    rintro e10 w10 ⟨rfl, hb10⟩
    have S10 := HT9.out.below hb10
    obtain ⟨_, f1, f2, f3, _, _, _, _⟩ := HX.out w10 S10.bel
    rw [HPP.out] at f1
    have HK10 := Lib.hid (S10.one.kids HI4.out.wf HL7.out P)
    have HS10 := Lib.hid S10.bel
    clear hb10 S10 j1 j2 f2 f3
    go_wp2_with fail
    refine HK10.out.mono ?_
    rintro e11 w11 ⟨v11, rfl, hk11, hb11⟩
    rw [kidsI_nat] at hk11
    obtain ⟨A11, c11, rfl, _, _, _⟩ := nw_rn hk11
    have HS11 := Lib.hid (bt HS10.out hb11)
    have hlen : ((nd M2 P).kids.length : Int) - 1 = (nd (takeOut M2 n) P).kids.length := by have := HV.out.outLen; omega
    have hlenb : (((nd M2 P).kids.length : Int) - 1 == ((nd M2 P).kids.length : Int) - 1) = true := by simp
    obtain ⟨b1, hb1⟩ : ∃ b1 : Nat, (nd (takeOut M2 n) P).kids.length = b1 := ⟨_, rfl⟩
    rw [hb1] at hlen ⊢
    obtain ⟨b2, hb2⟩ : ∃ b2 : Nat, (nd M2 P).kids.length = b2 := ⟨_, rfl⟩
    have hb3 : b2 = b1 + 1 := by omega
    have hlm : b2 ≤ 9223372036854775807 := by unfold maxLen at hkm; omega
    have hcmp : (b1 : Int) = wrap64 (((nd M2 P).kids.length : Int) - 1) := by
      rw [hb2]
      exact less_wrap hb3 hlm
    clear hk11 hb11 hlen hlenb hb1 hb2 hb3 hlm
    go_wp2_with fail
    refine (fixed11 _).mono ?_
    rintro e12 w12 ⟨rfl, hb12⟩
    have HB12 := Lib.hid (HE.out _ _ HS11.out hb12)
    clear hb12
    go_wp2
    go_ret
    exact ⟨rfl, HB12.out⟩
  · obtain ⟨a, ha⟩ : ∃ a, insE M o.node o.at_ o.other = a := ⟨_, rfl⟩
    have HIN := Lib.hid (S2.insert HI.out.wf (by have := HM.out; omega) o.node o.at_ o.other a _ ha rfl)
    have hne : (a != 0) = true := by rw [bne_iff_ne]; intro e; exact hins (ha.trans e)
    clear S2 hins ha
    go_wp2_with fail
    refine HIN.out.mono ?_
    rintro e w3 ⟨rfl, F3, S3, N3⟩
    have HS3 := Lib.hid S3.bel
    clear e1 e2 e3 S3 N3 HIN
    go_wp2_with fail
    refine (fixed11 _).mono ?_
    rintro e w4 ⟨rfl, hb4⟩
    have HB4 := Lib.hid (HE.out _ _ HS3.out hb4)
    clear hb4
    go_wp2
    go_ret
    exact ⟨rfl, HB4.out⟩
end Go.Proofs.Ytmlchbohijolaaa.Ar

namespace Go.Proofs.Ytmlchbohijolaaa.Rz
set_option maxRecDepth 100000
set_option linter.unusedVariables false
set_option linter.unusedSimpArgs false
open Go.RowKit Ba Go.ChangeShapes Go.WideShapes Go.Deep
open Ro (At Ro Cw ros Rv Rr Att Held cells acells Ra Sh open_agg_any)
/-- Each string that is read there, and each row of memory, is within the reach. -/
def Within {H : Type} (P : Program) (t : TypeId) (d : DataW H) : Prop := ∀ m ∈ d.weights P t, m ≤ reachBytes
theorem within_all {H : Type} {P : Program} {e : TypeId} {d : DataW H} {m : Nat} : ∀ {l : List (DataW H)}, d ∈ l → m ∈ d.weights P e → m ∈ DataW.weightsAll P e l
  | [], h, _ => by cases h
  | x :: r, h, hm => by
    rw [DataW.weightsAll, List.mem_append]
    rcases List.mem_cons.1 h with rfl | h
    · exact .inl hm
    · exact .inr (within_all h hm)
theorem Within.elem {H : Type} {P : Program} {t e : TypeId} {l sp : List (DataW H)} {d : DataW H} (h : Within P t (.slice l sp)) (ht : P.underlying t = some (.slice e)) (hd : d ∈ l) : Within P e d := fun m hm => h m (by
  simp only [DataW.weights, ht, List.mem_cons, List.mem_append]
  exact .inr (.inl (within_all hd hm)))
theorem Within.part {H : Type} {P : Program} {t : TypeId} {fs : Array Field} {l : List (DataW H)} {d : DataW H} {j : Nat} {f : Field} (h : Within P t (.agg l)) (ht : P.underlying t = some (.struct fs)) (hf : fs[j]? = some f) (hd : l[j]? = some d) : Within P f.type d := fun m hm => h m (by
  simp only [DataW.weights, ht]
  exact DataW.weights_mem_each (j := j) (by rw [List.getElem?_map, Array.getElem?_toList, hf]; rfl) hd m hm)
theorem Within.str {H : Type} {P : Program} {t : TypeId} {s : ByteArray} (h : Within P t (.lit (.string s.data.toList) : DataW H)) : s.size ≤ reachBytes := by
  have := h s.data.toList.length (by simp [DataW.weights])
  rw [Array.length_toList] at this
  exact this
theorem sized_all {H : Type} {P : Program} {ts : List TypeId} {ds : List (DataW H)} (h : (DataW.weightsEach P ts ds).all (· ≤ reachBytes) = true) {j : Nat} {t : TypeId} {d : DataW H} (ht : ts[j]? = some t) (hd : ds[j]? = some d) : Within P t d := fun m hm => by
  have := List.all_eq_true.1 h m (DataW.weights_mem_each ht hd m hm)
  simpa using this

theorem reach_le {n : Nat} (h : n ≤ reachBytes) : n ≤ 140737488355328 := Nat.le_trans h (by decide)
section
variable {H : Type} {enc : TypeId × Value → H} {w : World} {base : Nat}
end
end Go.Proofs.Ytmlchbohijolaaa.Rz

namespace Go.Proofs.Ytmlchbohijolaaa.Ar
set_option maxRecDepth 100000
set_option linter.unusedVariables false
set_option linter.unusedSimpArgs false
open Go.RowKit Ba Go.ChangeShapes Go.WideShapes Go.Deep
open Ro (At Ro Cw ros Rr Ow Nw Fr Att Ap Sh Ra Rv Held cells open_attrs int_range list_of open_agg_any open_rows_of)
open Rz (Within reach_le)
section
variable {H : Type} {enc : TypeId × Value → H} {P : Program} {w : World} {base : Nat} {spare : Nat → Bool} {held : Bool}
/-- A slice of structs of one-cell fields: its parts. -/
theorem open_rows_both {t e : TypeId} {fs : Array Field} {fuel : Nat} {cs : List Value} {x : DataW H × List MemPlace} (ht : P.underlying t = some (.slice e)) (he : P.underlying e = some (.struct fs))
    (hone : oneCellFields P fs = true) (hC : P.cellsOf e = fs.size) (h : DataW.trod enc P w base spare held fuel t cs = some x) :
    cs = [.slice none 0 0] ∨
    ∃ (a : Addr) (len cap m : Nat) (Pl : Nat → List MemPlace) (D : Nat → DataW H) (sp : List (DataW H)), cs = [.slice (some a) len cap] ∧ len ≤ cap ∧ cap ≤ maxLen ∧ m = (if spare a.block then cap else len) ∧
      x.1 = .slice ((List.range len).map D) sp ∧ x.2 = MemPlace.row a (m * fs.size) ++ (List.range m).flatMap Pl ∧
      ∀ i, i < m → ∀ (j : Nat) (f : Field), fs[j]? = some f → ∃ (v : Value) (y : DataW H × List MemPlace) (n : Nat) (parts : List (DataW H)), w.cell? (a.add (i * fs.size + j)) = some v ∧ (∀ z ∈ y.2, z ∈ Pl i) ∧ D i = .agg parts ∧ parts[j]? = some y.1 ∧ DataW.trod enc P w base spare held n f.type [v] = some y := by
  rcases open_slice ht h with ⟨h0, _⟩ | ⟨a, len, cap, m, n, D, Pl, hcs, hb, hl, hm, hmm, hx, hi⟩
  · exact .inl h0
  · refine .inr ⟨a, len, cap, m, Pl, D, _, hcs, hl, hm, hmm, by rw [hx], by rw [hx, hC], fun i him j f hj => ?_⟩
    obtain ⟨cs', hc, ht'⟩ := hi i him
    rw [hC] at hc
    obtain ⟨ys, n', hn', hy, hlen, hyl, hf⟩ := DataW.trod_struct he ht'
    obtain ⟨_, hcl, hat⟩ := World.cells?_some hc
    simp only [Prod.mk.injEq] at hy
    obtain ⟨ho, hk⟩ := hone_of hone j f hj
    have hjl : j < fs.size := (Array.getElem?_eq_some_iff.1 hj).1
    have hcell := hat j hjl
    have hv : cs'[j]? = some (cs'[j]'(by omega)) := List.getElem?_eq_getElem (by omega)
    have h1 := hf j f hj
    rw [ho, hk] at h1
    have hone' : (cs'.drop j).take 1 = [cs'[j]'(by omega)] := by
      rw [List.drop_eq_getElem_cons (by omega)]
      rfl
    rw [hone'] at h1
    have hys : ys[j]? = some (ys[j]'(by omega)) := List.getElem?_eq_getElem (by omega)
    refine ⟨_, _, n', _, ?_, fun z hz => ?_, hy.1, by rw [List.getElem?_map, hys]; rfl, h1.trans hys⟩
    · rw [← Go.Deep.add_add, hcell, hv]
    · rw [hy.2]
      exact List.mem_flatMap.2 ⟨_, List.getElem_mem _, hz⟩
end
section
variable {H : Type} {enc : TypeId × Value → H} {w : World} {base : Nat}
/-- Rows within a struct's field. -/
theorem open_rows_in {fuel : Nat} {v : Value} {x : DataW H × List MemPlace} (h : DataW.trod enc Try.prog w base (fun _ => true) true fuel 27 [v] = some x) (N : Nat) (hlt : ∀ z ∈ x.2, z.block < N) :
    ∃ A c l, v = .slice A l.length c ∧ l.length ≤ c ∧ c ≤ maxLen ∧ Rr w N A l ∧ Held (ros l) := by
  rcases open_rows_of Try.underlying27 Try.underlying65 (by kernel_rfl) (by kernel_rfl) h with hcs | ⟨a, len', cap', m, Pl, hcs, hl, hm, hmm, hx, hi⟩
  · obtain rfl : v = .slice none 0 0 := by simpa using hcs
    exact ⟨none, 0, [], rfl, Nat.le_refl _, Nat.zero_le _, Rr.nil _ _ _, fun _ h => by simp [ros] at h⟩
  · obtain rfl : v = .slice (some a) len' cap' := by simpa using hcs
    simp only [if_true] at hmm
    subst hmm
    obtain ⟨b, off, spot⟩ := a
    have hrow : ∀ i < len', ∃ r : Cw, (∀ (j : Nat) (u : Value), (cells r)[j]? = some u → w.cell? ((⟨b, off, spot⟩ : Addr).add (i * 5 + j)) = some u) ∧ Att w N r ∧ (-9223372036854775808 ≤ r.ro.depth ∧ r.ro.depth ≤ 9223372036854775807) := fun i hil => by
      obtain ⟨v0, y0, n0, hc0, _, ht0⟩ := hi i (by omega) 0 _ rfl
      obtain ⟨v1, y1, n1, hc1, _, ht1⟩ := hi i (by omega) 1 _ rfl
      obtain ⟨v2, y2, n2, hc2, _, ht2⟩ := hi i (by omega) 2 _ rfl
      obtain ⟨v3, y3, n3, hc3, _, ht3⟩ := hi i (by omega) 3 _ rfl
      obtain ⟨v4, y4, n4, hc4, hp4, ht4⟩ := hi i (by omega) 4 _ rfl
      obtain ⟨s0, e0, _, hs0⟩ := DataW.trod_int Try.underlying3 ht0
      obtain ⟨s1, e1, _, _⟩ := DataW.trod_int Try.underlying3 ht1
      obtain ⟨s2, e2, _, _⟩ := DataW.trod_string Try.underlying9 ht2
      obtain ⟨s3, e3, _, _⟩ := DataW.trod_string Try.underlying9 ht3
      obtain rfl : v0 = .int .i64 s0 := by simpa using e0
      obtain rfl : v1 = .int .i64 s1 := by simpa using e1
      obtain rfl : v2 = .string s2 := by simpa using e2
      obtain rfl : v3 = .string s3 := by simpa using e3
      obtain ⟨A, c, al, rfl, hac, hA, hcm, hra, hsh⟩ := open_attrs ht4 N fun z hz => hlt z (by
        rw [hx]
        exact List.mem_append_right _ (List.mem_flatMap.2 ⟨i, List.mem_range.2 (by omega), hp4 z hz⟩))
      refine ⟨⟨⟨s0, s1, s2, s3, al⟩, A, c⟩, fun j u hu => ?_, ⟨hac, hA, hcm, hra, hsh⟩, int_range hs0⟩
      match j, hu with
      | 0, hu => exact hc0.trans hu
      | 1, hu => exact hc1.trans hu
      | 2, hu => exact hc2.trans hu
      | 3, hu => exact hc3.trans hu
      | 4, hu => exact hc4.trans hu
      | j + 5, hu => exact absurd hu (by simp [cells])
    obtain ⟨l, hll, hq⟩ := list_of _ len' hrow
    refine ⟨some ⟨b, off, spot⟩, _, l, by rw [hll], by omega, hm, ⟨fun h0 => ?_, fun r hr => ?_⟩, fun r hr => ?_⟩
    · have hspot : spot = none := by
        have := World.cell?_spot ((hq 0 h0).1 0 _ rfl)
        simpa [Addr.add] using this
      subst hspot
      refine ⟨b, off, rfl, hlt (.cell b off) (by rw [hx]; exact List.mem_append_left _ (MemPlace.mem_row.2 ⟨0, by show 0 < _ * 5; omega, by simp⟩)), fun j hj k u hu => ?_⟩
      have := (hq j hj).1 k u hu
      rw [add_plain] at this
      rw [show off + j * 5 + k = off + (j * 5 + k) by omega]
      exact this
    · obtain ⟨j, hj, rfl⟩ := List.getElem_of_mem hr
      exact (hq j hj).2.1
    · obtain ⟨z, hz, rfl⟩ := List.mem_map.1 hr
      obtain ⟨j, hj, rfl⟩ := List.getElem_of_mem hz
      exact (hq j hj).2.2

/-- What eight fields of a call read as. -/
theorem op_of {vs : Nat → Value} {ys : Nat → DataW H × List MemPlace} {ns : Nat → Nat} {parts : List (DataW H)} (N : Nat) (hz : Within Try.prog 33 (.agg parts)) (hp : ∀ j < 8, parts[j]? = some (ys j).1) (hlt : ∀ z ∈ (ys 7).2, z.block < N)
    (t0 : DataW.trod enc Try.prog w base (fun _ => true) true (ns 0) 3 [vs 0] = some (ys 0)) (t1 : DataW.trod enc Try.prog w base (fun _ => true) true (ns 1) 3 [vs 1] = some (ys 1)) (t2 : DataW.trod enc Try.prog w base (fun _ => true) true (ns 2) 3 [vs 2] = some (ys 2)) (t3 : DataW.trod enc Try.prog w base (fun _ => true) true (ns 3) 3 [vs 3] = some (ys 3)) (t4 : DataW.trod enc Try.prog w base (fun _ => true) true (ns 4) 3 [vs 4] = some (ys 4))
    (t5 : DataW.trod enc Try.prog w base (fun _ => true) true (ns 5) 9 [vs 5] = some (ys 5)) (t6 : DataW.trod enc Try.prog w base (fun _ => true) true (ns 6) 9 [vs 6] = some (ys 6)) (t7 : DataW.trod enc Try.prog w base (fun _ => true) true (ns 7) 27 [vs 7] = some (ys 7)) :
    ∃ o : Op11, vs 0 = .int .i64 o.kind ∧ vs 1 = .int .i64 o.node ∧ vs 2 = .int .i64 o.other ∧ vs 3 = .int .i64 o.at_ ∧ vs 4 = .int .i64 o.what ∧ vs 5 = .string o.name ∧ vs 6 = .string o.value ∧ vs 7 = .slice o.A o.x.length o.c ∧ OpOk w N o := by
  obtain ⟨s0, e0, _, _⟩ := DataW.trod_int Try.underlying3 t0
  obtain ⟨s1, e1, _, _⟩ := DataW.trod_int Try.underlying3 t1
  obtain ⟨s2, e2, _, _⟩ := DataW.trod_int Try.underlying3 t2
  obtain ⟨s3, e3, _, _⟩ := DataW.trod_int Try.underlying3 t3
  obtain ⟨s4, e4, _, h4⟩ := DataW.trod_int Try.underlying3 t4
  obtain ⟨s5, e5, b5, _⟩ := DataW.trod_string Try.underlying9 t5
  obtain ⟨s6, e6, _, _⟩ := DataW.trod_string Try.underlying9 t6
  obtain ⟨A, c, l, e7, hlc, hcm, hrr, hh⟩ := open_rows_in t7 N hlt
  have z5 := hz.part Try.underlying33 (j := 5) rfl (hp 5 (by omega))
  rw [b5] at z5
  exact ⟨⟨s0, s1, s2, s3, s4, s5, s6, l, A, c⟩, by simpa using e0, by simpa using e1, by simpa using e2, by simpa using e3, by simpa using e4, by simpa using e5, by simpa using e6, e7, ⟨hlc, hcm⟩, hrr, hh, reach_le z5.str, int_range h4⟩
/-- An argument []Op, as the statement's row reads it. -/
theorem open_ops {v : Value} {d : DataW H} {p : List MemPlace} (hz : Within Try.prog 22 d) (hv : Value.okWide Try.prog w .any base 22 v)
    (h : ∃ fuel, DataW.trod enc Try.prog w 0 (fun _ => true) true fuel 22 v.cells.toList = some (d, p)) (hlt : ∀ z ∈ p, z.block < w.heap.size) : ∃ os, Script w w.heap.size v os ∧ True := by
  obtain ⟨a0, len0, cap0, rfl⟩ := okWide_slice Try.underlying22 hv
  obtain ⟨fuel, hf⟩ := h
  rcases open_rows_both Try.underlying22 Try.underlying33 (by kernel_rfl) (by kernel_rfl) hf with hcs | ⟨a, len, cap, m, Pl, D, sp, hcs, hl, hm, hmm, hx1, hx, hi⟩
  · simp [Value.cells] at hcs
    obtain ⟨rfl, rfl, rfl⟩ := hcs
    exact ⟨[], ⟨none, 0, rfl, Nat.le_refl _, Nat.zero_le _, fun h => absurd h (by simp), fun o ho => by cases ho⟩, trivial⟩
  · simp [Value.cells] at hcs
    obtain ⟨rfl, rfl, rfl⟩ := hcs
    simp only [if_true] at hmm
    subst hmm
    obtain ⟨b, off, spot⟩ := a
    have hx : p = _ := hx
    have hx1 : d = _ := hx1
    have hrow : ∀ i < len0, ∃ o : Op11, (∀ (j : Nat) (u : Value), (ocells o)[j]? = some u → w.cell? ((⟨b, off, spot⟩ : Addr).add (i * 8 + j)) = some u) ∧ OpOk w w.heap.size o := fun i hil => by
      obtain ⟨v0, y0, n0, q0, c0, _, D0, g0, t0⟩ := hi i (by omega) 0 _ rfl
      obtain ⟨v1, y1, n1, q1, c1, _, D1, g1, t1⟩ := hi i (by omega) 1 _ rfl
      obtain ⟨v2, y2, n2, q2, c2, _, D2, g2, t2⟩ := hi i (by omega) 2 _ rfl
      obtain ⟨v3, y3, n3, q3, c3, _, D3, g3, t3⟩ := hi i (by omega) 3 _ rfl
      obtain ⟨v4, y4, n4, q4, c4, _, D4, g4, t4⟩ := hi i (by omega) 4 _ rfl
      obtain ⟨v5, y5, n5, q5, c5, _, D5, g5, t5⟩ := hi i (by omega) 5 _ rfl
      obtain ⟨v6, y6, n6, q6, c6, _, D6, g6, t6⟩ := hi i (by omega) 6 _ rfl
      obtain ⟨v7, y7, n7, q7, c7, p7, D7, g7, t7⟩ := hi i (by omega) 7 _ rfl
      rw [D0] at D1 D2 D3 D4 D5 D6 D7
      injection D1 with D1
      injection D2 with D2
      injection D3 with D3
      injection D4 with D4
      injection D5 with D5
      injection D6 with D6
      injection D7 with D7
      subst D1 D2 D3 D4 D5 D6 D7
      have hzi : Within Try.prog 33 (D i) := by
        rw [hx1] at hz
        exact hz.elem Try.underlying22 (List.mem_map.2 ⟨i, List.mem_range.2 hil, rfl⟩)
      rw [D0] at hzi
      obtain ⟨o, e0, e1, e2, e3, e4, e5, e6, e7, ok⟩ := op_of (w := w) (enc := enc) (base := 0) (vs := fun k => #[v0, v1, v2, v3, v4, v5, v6, v7][k]?.getD v0) (ys := fun k => #[y0, y1, y2, y3, y4, y5, y6, y7][k]?.getD y0) (ns := fun k => #[n0, n1, n2, n3, n4, n5, n6, n7][k]?.getD n0) w.heap.size hzi
        (fun j hj => match j, hj with
          | 0, _ => g0
          | 1, _ => g1
          | 2, _ => g2
          | 3, _ => g3
          | 4, _ => g4
          | 5, _ => g5
          | 6, _ => g6
          | 7, _ => g7) (fun z hzz => hlt z (by
            rw [hx]
            exact List.mem_append_right _ (List.mem_flatMap.2 ⟨i, List.mem_range.2 (by omega), p7 z hzz⟩))) t0 t1 t2 t3 t4 t5 t6 t7
      have e0 : v0 = _ := e0
      have e1 : v1 = _ := e1
      have e2 : v2 = _ := e2
      have e3 : v3 = _ := e3
      have e4 : v4 = _ := e4
      have e5 : v5 = _ := e5
      have e6 : v6 = _ := e6
      have e7 : v7 = _ := e7
      subst e0 e1 e2 e3 e4 e5 e6 e7
      refine ⟨o, fun j u hu => ?_, ok⟩
      match j, hu with
      | 0, hu => exact c0.trans hu
      | 1, hu => exact c1.trans hu
      | 2, hu => exact c2.trans hu
      | 3, hu => exact c3.trans hu
      | 4, hu => exact c4.trans hu
      | 5, hu => exact c5.trans hu
      | 6, hu => exact c6.trans hu
      | 7, hu => exact c7.trans hu
      | j + 8, hu => exact absurd hu (by simp [ocells])
    obtain ⟨os, hll, hq⟩ := list_of _ len0 hrow
    refine ⟨os, ⟨some ⟨b, off, spot⟩, _, by rw [hll], by omega, hm, fun h0 => ?_, fun o ho => ?_⟩, trivial⟩
    · have hspot : spot = none := by
        have := World.cell?_spot ((hq 0 h0).1 0 _ rfl)
        simpa [Addr.add] using this
      subst hspot
      refine ⟨b, off, rfl, hlt (.cell b off) (by rw [hx]; exact List.mem_append_left _ (MemPlace.mem_row.2 ⟨0, by show 0 < _ * 8; omega, by simp⟩)), fun j hj k u hu => ?_⟩
      have := (hq j hj).1 k u hu
      rw [add_plain] at this
      rw [show off + j * 8 + k = off + (j * 8 + k) by omega]
      exact this
    · obtain ⟨j, hj, rfl⟩ := List.getElem_of_mem ho
      exact (hq j hj).2
/-- An argument Op, as the statement's row reads it. -/
theorem open_op {v : Value} {d : DataW H} {p : List MemPlace} (hz : Within Try.prog 33 d) (hv : Value.okWide Try.prog w .any base 33 v)
    (h : ∃ fuel, DataW.trod enc Try.prog w 0 (fun _ => true) true fuel 33 v.cells.toList = some (d, p)) (hlt : ∀ z ∈ p, z.block < w.heap.size) : ∃ o : Op11, v = opV o ∧ OpOk w w.heap.size o := by
  obtain ⟨cs, ys, n, rfl, hcs, hd, hp, hat⟩ := open_agg_any Try.underlying33 (by kernel_rfl) (by kernel_rfl) hv h
  obtain ⟨v0, y0, c0, g0, t0⟩ := hat 0 _ rfl
  obtain ⟨v1, y1, c1, g1, t1⟩ := hat 1 _ rfl
  obtain ⟨v2, y2, c2, g2, t2⟩ := hat 2 _ rfl
  obtain ⟨v3, y3, c3, g3, t3⟩ := hat 3 _ rfl
  obtain ⟨v4, y4, c4, g4, t4⟩ := hat 4 _ rfl
  obtain ⟨v5, y5, c5, g5, t5⟩ := hat 5 _ rfl
  obtain ⟨v6, y6, c6, g6, t6⟩ := hat 6 _ rfl
  obtain ⟨v7, y7, c7, g7, t7⟩ := hat 7 _ rfl
  subst hd
  have gm : ∀ {j : Nat} {y : DataW H × List MemPlace}, ys[j]? = some y → (ys.map (·.1))[j]? = some y.1 := fun h => by rw [List.getElem?_map, h]; rfl
  obtain ⟨o, e0, e1, e2, e3, e4, e5, e6, e7, ok⟩ := op_of (w := w) (enc := enc) (base := 0) (vs := fun k => #[v0, v1, v2, v3, v4, v5, v6, v7][k]?.getD v0) (ys := fun k => #[y0, y1, y2, y3, y4, y5, y6, y7][k]?.getD y0) (ns := fun _ => n) w.heap.size hz
    (fun j hj => match j, hj with
      | 0, _ => gm g0
      | 1, _ => gm g1
      | 2, _ => gm g2
      | 3, _ => gm g3
      | 4, _ => gm g4
      | 5, _ => gm g5
      | 6, _ => gm g6
      | 7, _ => gm g7) (fun z hzz => hlt z (by
        rw [hp]
        exact List.mem_flatMap.2 ⟨y7, List.mem_of_getElem? g7, hzz⟩)) t0 t1 t2 t3 t4 t5 t6 t7
  have e0 : v0 = _ := e0
  have e1 : v1 = _ := e1
  have e2 : v2 = _ := e2
  have e3 : v3 = _ := e3
  have e4 : v4 = _ := e4
  have e5 : v5 = _ := e5
  have e6 : v6 = _ := e6
  have e7 : v7 = _ := e7
  subst e0 e1 e2 e3 e4 e5 e6 e7
  refine ⟨o, ?_, ok⟩
  have hcs8 : cs.size = 8 := hcs
  have : cs = (ocells o).toArray := by
    apply Array.ext_getElem?
    intro i
    match i with
    | 0 => exact c0
    | 1 => exact c1
    | 2 => exact c2
    | 3 => exact c3
    | 4 => exact c4
    | 5 => exact c5
    | 6 => exact c6
    | 7 => exact c7
    | i + 8 => rw [Array.getElem?_eq_none (by omega), Array.getElem?_eq_none (by simp [ocells])]
  rw [this]
  rfl
end
end Go.Proofs.Ytmlchbohijolaaa.Ar

namespace Go.Proofs.Ytmlchbohijolaaa.Ar
set_option maxRecDepth 100000
set_option linter.unusedSimpArgs false
set_option linter.unusedVariables false
open Go.RowKit Ba
open Ro (At Ro Cw ros Rr Ow Nw Fr Att Ap Sh Ra Rv Held cells acells below_new infoI info_row len_cells rowV rowO Few check right)
def Pair (w0 w : World) (p1 p2 B : Nat) (M : List Nd) : Prop := ∃ F1 F2, Two w w0.heap.size w0.heap.size p1 p2 F1 F2 B M M ∧ Below w0.heap.size w0 w
section
variable {w0 w w' : World} {p1 p2 B : Nat} {M : List Nd}
theorem Pair.bel (S : Pair w0 w p1 p2 B M) : Below w0.heap.size w0 w := by
  obtain ⟨_, _, _, h⟩ := S
  exact h
theorem Pair.inv (S : Pair w0 w p1 p2 B M) : Inv B M := by
  obtain ⟨_, _, h, _⟩ := S
  exact h.i1
theorem Two.below {N K : Nat} {F1 F2 : Nat → Prop} {M2 : List Nd} (T : Two w N K p1 p2 F1 F2 B M M2) (hb : Below w.heap.size w w') : Two w' N K p1 p2 F1 F2 B M M2 := ⟨T.d1.below hb, T.d2.below hb, T.apart, T.low1, T.low2, T.i1, T.i2, T.l1, T.l2, T.few, Nat.le_trans T.hK hb.size⟩
theorem Pair.below (S : Pair w0 w p1 p2 B M) (hb : Below w.heap.size w w') : Pair w0 w' p1 p2 B M := by
  obtain ⟨F1, F2, T, h⟩ := S
  exact ⟨F1, F2, T.below hb, bt h hb⟩
theorem Pair.one (S : Pair w0 w p1 p2 B M) : One w0 w p1 M := by
  obtain ⟨F1, F2, T, h⟩ := S
  exact ⟨F1, T.d1, T.low1, h⟩
theorem Pair.x (S : Pair w0 w p1 p2 B M) : ∃ g c, w.cell? ⟨p2, 0, none⟩ = some (.slice (some ⟨g, 0, none⟩) M.length c) ∧ p2 < w.heap.size := by
  obtain ⟨F1, F2, T, h⟩ := S
  obtain ⟨rk, gX, cX, gU, cU, gR, cR, lX, D⟩ := T.d2
  exact ⟨gX, cX, D.rd.x, D.rd.lt⟩
theorem Pair.refWithin (S : Pair w0 w p1 p2 B M) (hm : M.length ≤ 5000) (n o : Int) (q : Bool) (hq : q = true ↔ Win M n o) : Calls Try.prog 20 #[ptr p2, .int .i64 n, .int .i64 o] w fun e w' => e = .returned (.bool q) ∧ w = w' := by
  obtain ⟨F1, F2, T, h⟩ := S
  obtain ⟨rk, gX, cX, gU, cU, gR, cR, lX, D⟩ := T.d2
  exact refWithin1 n o w D.rd T.i1.wf hm q hq
theorem Pair.new {w1 w2 : World} {F1 F2 : Nat → Prop} (D1 : Doc12 w1 w0.heap.size F1 p1 M0) (h1 : Below w0.heap.size w0 w1) (l1 : ∀ b, F1 b → w0.heap.size ≤ b) (D2 : Doc11 w2 w1.heap.size F2 p2 M0) (h2 : Below w1.heap.size w1 w2) (l2 : ∀ b, F2 b → w1.heap.size ≤ b) : Pair w0 w2 p1 p2 4 M0 := by
  have hs := h1.size
  have hs2 := h2.size
  exact ⟨F1, F2, ⟨D1.below h2, D2.mono hs, fun b ha hb => by have := D1.bd b ha; have := l2 b hb; omega, l1, fun b h => Nat.le_trans hs (l2 b h), i_M0, i_M0, by decide, by decide, by decide, by omega⟩, bt h1 h2⟩
theorem Pair.tells (S : Pair w0 w p1 p2 B M) {o : Op11} (O : OpOk w0 w0.heap.size o) (h4 : 4 ≤ B) (hB : B ≤ 1000) (hl : M.length ≤ 300) : Calls Try.prog 17 #[ptr p1, ptr p2, opV o] w fun e w' => e = .returned (.bool true) ∧ Pair w0 w' p1 p2 (B + 1) (opM M o) := by
  obtain ⟨F1, F2, T, h⟩ := S
  refine (tells1 T (O.below h)).mono ?_
  rintro e w' ⟨b, rfl, hb, F1', F2', G1, G2, ha, n⟩
  have hop := (T.i1.op h4 o)
  have hlen := (opM_len T.i1.wf o)
  have hlen2 : (opM M o).length ≤ 1000 := by omega
  have hK := T.hK
  have hs := n.1.size
  refine ⟨by rw [hb rfl], F1', F2', ⟨G1, G2, ha, fun b hb => ?_, fun b hb => ?_, hop, hop, hlen2, hlen2, by omega, by omega⟩, ⟨n.1.os.trans h.os, n.1.tape.trans h.tape, n.1.output.trans h.output, by omega, fun b hb => (n.1.block b (by omega) fun hf => ?_).trans (h.block b hb)⟩⟩
  · rcases n.2.2 b (.inl hb) with h5 | h5
    · exact h5.elim (T.low1 b) (T.low2 b)
    · omega
  · rcases n.2.2 b (.inr hb) with h5 | h5
    · exact h5.elim (T.low1 b) (T.low2 b)
    · omega
  · have := hf.elim (T.low1 b) (T.low2 b)
    omega
end
end Go.Proofs.Ytmlchbohijolaaa.Ar

namespace Go.Proofs.Ytmlchbohijolaaa.Ar
set_option linter.unusedVariables false
def inRoot (M : List Nd) (j : Nat) : Nat := (List.range j).countP fun x => decide (x ∈ ids M 0)
theorem in_one {M : List Nd} (W : Wf M) : inRoot M 1 = 1 := by
  have h : (0 : Nat) ∈ ids M 0 := (ids_up W W.pos 0).2 (.refl W.pos)
  unfold inRoot
  rw [show List.range 1 = [0] from rfl, List.countP_singleton]
  simp [h]
theorem in_next {M : List Nd} (W : Wf M) (j : Nat) (q : Bool) (hq : q = true ↔ Up M j 0) : inRoot M (j + 1) = inRoot M j + if q = true then 1 else 0 := by
  unfold inRoot
  rw [List.range_succ, List.countP_append, List.countP_singleton]
  congr 1
  by_cases h : q = true
  · rw [if_pos h, if_pos (decide_eq_true ((ids_up W W.pos j).2 (hq.1 h)))]
  · rw [if_neg h, if_neg (by rw [decide_eq_true_eq]; exact fun h2 => h (hq.2 ((ids_up W W.pos j).1 h2)))]
theorem in_all {M : List Nd} (W : Wf M) : inRoot M M.length = (rowsM M 0).length + 1 := by
  obtain ⟨h, H⟩ := W.hgt
  unfold inRoot
  rw [count_mem (ids_nodup W H _ 0 (Nat.lt_succ_self _) W.pos) (fun x hx => ((ids_up W W.pos x).1 hx).lt.1), rows_root W, List.length_tail, tr_len]
  have : 0 < (ids M 0).length := by
    rw [ids_eq W W.pos, List.length_cons]
    omega
  omega
theorem in_le (M : List Nd) (j : Nat) : inRoot M j ≤ j := by
  have := List.countP_le_length (p := fun x => decide (x ∈ ids M 0)) (l := List.range j)
  rwa [List.length_range] at this
end Go.Proofs.Ytmlchbohijolaaa.Ar

namespace Go.Proofs.Ytmlchbohijolaaa.Ar
set_option maxRecDepth 100000
set_option linter.unusedSimpArgs false
set_option linter.unusedVariables false
open Go.RowKit Ba
open Ro (At Ro Cw ros Rr Ow Nw Fr Att Ap Sh Ra Rv Held cells acells below_new infoI info_row len_cells rowV rowO Few check right refSame1)
theorem some_bool (P : Prop) : ∃ q : Bool, q = true ↔ P := by
  by_cases h : P
  · exact ⟨true, fun _ => h, fun _ => rfl⟩
  · exact ⟨false, fun e => (by cases e), fun h2 => absurd h2 h⟩
/-- A call's eight cells, in a later world. -/
theorem Script.cells {w wr : World} {os : List Op11} {A : Option Addr} {c : Nat} (S : Script w w.heap.size (.slice A os.length c) os) (hb : Below w.heap.size w wr) {j : Nat} (hj : j < os.length) : ∃ b off, A = some ⟨b, off, none⟩ ∧ b < w.heap.size ∧ ∀ i u, (ocells os[j])[i]? = some u → wr.cell? ⟨b, off + j * 8 + i, none⟩ = some u := by
  obtain ⟨A', c', he, hc, hm, hat, hok⟩ := S
  injection he with h1 h2 h3
  subst h1 h3
  obtain ⟨b, off, hA, hbl, hcell⟩ := hat (by omega)
  exact ⟨b, off, hA, hbl, fun i u hu => (hb.cell (p := ⟨b, off + j * 8 + i, none⟩) hbl).trans (hcell j hj i u hu)⟩
theorem Script.form {w : World} {K : Nat} {v : Value} {os : List Op11} (S : Script w K v os) : ∃ A c, v = .slice A os.length c ∧ os.length ≤ c ∧ c ≤ maxLen ∧ ∀ o ∈ os, OpOk w K o := by
  obtain ⟨A, c, rfl, hc, hm, hat, hok⟩ := S
  exact ⟨A, c, rfl, hc, hm, hok⟩
set_option maxRecDepth 100000 in
set_option maxHeartbeats 8000000 in
theorem law_within (v : Value) (a b : Int) (os : List Op11) (w : World) (_ : (Lit.int .i64 a).wf = true) (_ : (Lit.int .i64 b).wf = true) (S : Script w w.heap.size v os) (_ : True) : Calls Try.prog 4 #[v, .int .i64 a, .int .i64 b] w fun e w' => e = .returned (.bool true) ∧ Below w.heap.size w w' := by
  have HSC := Lib.hid S
  obtain ⟨A, c, rfl, hc, hcm, hok⟩ := S.form
  have HOK := Lib.hid hok
  clear S hok
  go_enter Try.func4, Try.ntmps4
  go_wp2_with fail
  refine (newP1 w).mono ?_
  rintro e w1 ⟨p1, F1, rfl, D1, hb1, hl1⟩
  have HD1 := Lib.hid D1; have HB1 := Lib.hid hb1; have HL1 := Lib.hid hl1
  clear D1 hb1 hl1
  go_wp2_with fail
  refine (refNew1 w1).mono ?_
  rintro e w2 ⟨p2, F2, rfl, D2, hb2, hl2⟩
  have HS2 := Lib.hid (Pair.new HD1.out HB1.out HL1.out D2 hb2 hl2)
  clear D2 hb2 hl2 HD1 HB1 HL1
  go_upto_region 2 with (fail)
  go_wp2_with fail
  go_loopw [9] (fun i wr => ∃ (j : Nat) (M : List Nd), i = .int .i64 j ∧ j ≤ 40 ∧ Pair w wr p1 p2 (4 + j) M ∧ M.length ≤ 612) (fun i _ => 40 - (intOf i).toNat)
  case atStart => exact ⟨0, M0, rfl, by omega, HS2.out, by decide⟩
  case round =>
    clear HS2
    obtain ⟨j, M, rfl, hj, S, hm⟩ := hrel
    obtain ⟨gx, cx, hx, _⟩ := S.x
    have HS := Lib.hid S; have HM := Lib.hid hm; have HX := Lib.hid hx
    clear S hx
    by_cases hcond : j < os.length ∧ j < 40 ∧ M.length < 300
    · obtain ⟨h1, h2, h3⟩ := hcond
      have hj1 : (j : Int) < os.length := by omega
      have hj2 : (j : Int) < 40 := by omega
      have hm3 : (M.length : Int) < 300 := by omega
      obtain ⟨b0, off, hA, hbl, hk⟩ := HSC.out.cells HS.out.bel h1
      subst hA
      obtain ⟨o, ho⟩ : ∃ o, os[j] = o := ⟨_, rfl⟩
      have HOO := Lib.hid (HOK.out o (ho ▸ List.getElem_mem h1))
      rw [ho] at hk
      have d0 := hk 0 _ rfl
      have d1 := hk 1 _ rfl
      have d2 := hk 2 _ rfl
      have d3 := hk 3 _ rfl
      have d4 := hk 4 _ rfl
      have d5 := hk 5 _ rfl
      have d6 := hk 6 _ rfl
      have d7 := hk 7 _ rfl
      rw [Nat.add_zero] at d0
      clear ho hk
      have hx := HX.out
      have hjr : j < os.length := h1
      by_cases hk8 : o.kind = 8
      · have hkb : (o.kind != 8) = false := by rw [hk8]; rfl
        go_wp2_with fail
        go_roundw
        case rel => exact ⟨j + 1, M, by go_num, by omega, by obtain ⟨F1, F2, T, h⟩ := HS.out; exact ⟨F1, F2, ⟨T.d1, T.d2, T.apart, T.low1, T.low2, T.i1.more (by omega), T.i2.more (by omega), T.l1, T.l2, by omega, T.hK⟩, h⟩, HM.out⟩
        case measure => simp [intOf]; omega
      · have hkb : (o.kind != 8) = true := by rw [bne_iff_ne]; exact hk8
        have HTL := Lib.hid (HS.out.tells HOO.out (by omega) (by omega) (by omega))
        have HOL := Lib.hid (opM_len HS.out.inv.wf o)
        clear hk8
        go_wp2_with fail
        refine HTL.out.mono ?_
        rintro e wt ⟨rfl, St⟩
        have HST := Lib.hid St
        clear St d0 d1 d2 d3 d4 d5 d6 d7 hx
        go_wp2_with fail
        go_roundw
        case rel => exact ⟨j + 1, opM M o, by go_num, by omega, by rw [show 4 + (j + 1) = 4 + j + 1 from rfl]; exact HST.out, by have := HOL.out; omega⟩
        case measure => simp [intOf]; omega
    · obtain ⟨q, hq⟩ := some_bool (Win M a b)
      have HW1 := Lib.hid (HS.out.one.within HS.out.inv.wf (by omega) a b q hq)
      have HW2 := Lib.hid (HS.out.refWithin (by omega) a b q hq)
      have hx := HX.out
      have ways : (¬ j < os.length) ∨ (j < os.length ∧ ¬ j < 40) ∨ (j < os.length ∧ j < 40 ∧ ¬ M.length < 300) := by omega
      have HRW := Lib.hid (HS.out.one.rows HS.out.inv (by omega) (by omega) 0)
      clear hcond hq
      rcases ways with h1 | ⟨h1, h2⟩ | ⟨h1, h2, h3⟩
      · have hj1 : ¬ (j : Int) < os.length := by omega
        go_wp2_with fail
        refine HW1.out.mono ?_
        rintro e w3 ⟨rfl, rfl⟩
        go_wp2_with fail
        refine HW2.out.mono ?_
        rintro e w3 ⟨rfl, rfl⟩
        go_wp2_with fail
        go_loopw [10, 11] (fun s i wx => ∃ (k t : Nat), s = .int .i64 t ∧ i = .int .i64 k ∧ 1 ≤ k ∧ k ≤ M.length ∧ t + 1 = inRoot M k ∧ Pair w wx p1 p2 (4 + j) M) (fun _ i _ => M.length - (intOf i).toNat)
        case atStart => exact ⟨1, 0, rfl, rfl, by omega, HS.out.inv.wf.pos, (in_one HS.out.inv.wf).symm, HS.out⟩
        case round =>
          obtain ⟨k, t, rfl, rfl, hk1, hk2, ht, S3⟩ := hrel
          have hml := HM.out
          have htb : t ≤ 612 := by have := in_le M k; omega
          obtain ⟨gx3, cx3, hx3, _⟩ := S3.x
          have HS3 := Lib.hid S3
          clear S3
          by_cases hkl : k < M.length
          · have hki : (k : Int) < M.length := by omega
            obtain ⟨r, hr⟩ := some_bool (Win M k 0)
            have HW3 := Lib.hid (HS3.out.one.within HS3.out.inv.wf (by omega) k 0 r hr)
            have hnx := in_next HS3.out.inv.wf k r (hr.trans (win_nat (b := 0)))
            have HNX := Lib.hid hnx
            clear hr hnx
            go_wp2_with fail
            refine HW3.out.mono ?_
            rintro e w5 ⟨rfl, rfl⟩
            cases r with
            | true =>
              go_wp2_with fail
              go_roundw
              case rel =>
                have : inRoot M (k + 1) = inRoot M k + 1 := HNX.out.trans (by simp)
                exact ⟨k + 1, t + 1, by go_num, by go_num, by omega, by omega, by omega, HS3.out⟩
              case measure => simp [intOf]; omega
            | false =>
              go_wp2_with fail
              go_roundw
              case rel =>
                have : inRoot M (k + 1) = inRoot M k := HNX.out.trans (by simp)
                exact ⟨k + 1, t, rfl, by go_num, by omega, by omega, by omega, HS3.out⟩
              case measure => simp [intOf]; omega
          · have hki : ¬ (k : Int) < M.length := by omega
            have hke : k = M.length := by omega
            have hall := in_all HS3.out.inv.wf
            rw [hke] at ht
            have hcount : (rowsM M 0).length = t := by omega
            have HRW3 := Lib.hid (HS3.out.one.rows HS3.out.inv (by omega) (by omega) 0)
            have HC := Lib.hid hcount
            clear hke hall ht hcount
            go_wp2_with fail
            refine HRW3.out.mono ?_
            rintro e w5 ⟨v5, l5, rfl, hv5, hr5, _, _, _, hb5⟩
            obtain ⟨A5, c5, rfl, _, _, _, _⟩ := hv5
            have hlen : l5.length = t := by rw [← Ro.len_ros, hr5]; exact HC.out
            rw [hlen]
            have HB5 := Lib.hid (bt HS3.out.bel hb5)
            clear hb5 hr5 hlen
            go_wp2_with fail
            refine (fixed11 _).mono ?_
            rintro e w6 ⟨rfl, hb6⟩
            have HB6 := Lib.hid (bt HB5.out hb6)
            clear hb6
            go_wp2
            go_ret
            exact ⟨rfl, HB6.out⟩
      · have hj1 : (j : Int) < os.length := by omega
        have hj2 : ¬ (j : Int) < 40 := by omega
        go_wp2_with fail
        refine HW1.out.mono ?_
        rintro e w3 ⟨rfl, rfl⟩
        go_wp2_with fail
        refine HW2.out.mono ?_
        rintro e w3 ⟨rfl, rfl⟩
        go_wp2_with fail
        go_loopw [10, 11] (fun s i wx => ∃ (k t : Nat), s = .int .i64 t ∧ i = .int .i64 k ∧ 1 ≤ k ∧ k ≤ M.length ∧ t + 1 = inRoot M k ∧ Pair w wx p1 p2 (4 + j) M) (fun _ i _ => M.length - (intOf i).toNat)
        case atStart => exact ⟨1, 0, rfl, rfl, by omega, HS.out.inv.wf.pos, (in_one HS.out.inv.wf).symm, HS.out⟩
        case round =>
          obtain ⟨k, t, rfl, rfl, hk1, hk2, ht, S3⟩ := hrel
          have hml := HM.out
          have htb : t ≤ 612 := by have := in_le M k; omega
          obtain ⟨gx3, cx3, hx3, _⟩ := S3.x
          have HS3 := Lib.hid S3
          clear S3
          by_cases hkl : k < M.length
          · have hki : (k : Int) < M.length := by omega
            obtain ⟨r, hr⟩ := some_bool (Win M k 0)
            have HW3 := Lib.hid (HS3.out.one.within HS3.out.inv.wf (by omega) k 0 r hr)
            have hnx := in_next HS3.out.inv.wf k r (hr.trans (win_nat (b := 0)))
            have HNX := Lib.hid hnx
            clear hr hnx
            go_wp2_with fail
            refine HW3.out.mono ?_
            rintro e w5 ⟨rfl, rfl⟩
            cases r with
            | true =>
              go_wp2_with fail
              go_roundw
              case rel =>
                have : inRoot M (k + 1) = inRoot M k + 1 := HNX.out.trans (by simp)
                exact ⟨k + 1, t + 1, by go_num, by go_num, by omega, by omega, by omega, HS3.out⟩
              case measure => simp [intOf]; omega
            | false =>
              go_wp2_with fail
              go_roundw
              case rel =>
                have : inRoot M (k + 1) = inRoot M k := HNX.out.trans (by simp)
                exact ⟨k + 1, t, rfl, by go_num, by omega, by omega, by omega, HS3.out⟩
              case measure => simp [intOf]; omega
          · have hki : ¬ (k : Int) < M.length := by omega
            have hke : k = M.length := by omega
            have hall := in_all HS3.out.inv.wf
            rw [hke] at ht
            have hcount : (rowsM M 0).length = t := by omega
            have HRW3 := Lib.hid (HS3.out.one.rows HS3.out.inv (by omega) (by omega) 0)
            have HC := Lib.hid hcount
            clear hke hall ht hcount
            go_wp2_with fail
            refine HRW3.out.mono ?_
            rintro e w5 ⟨v5, l5, rfl, hv5, hr5, _, _, _, hb5⟩
            obtain ⟨A5, c5, rfl, _, _, _, _⟩ := hv5
            have hlen : l5.length = t := by rw [← Ro.len_ros, hr5]; exact HC.out
            rw [hlen]
            have HB5 := Lib.hid (bt HS3.out.bel hb5)
            clear hb5 hr5 hlen
            go_wp2_with fail
            refine (fixed11 _).mono ?_
            rintro e w6 ⟨rfl, hb6⟩
            have HB6 := Lib.hid (bt HB5.out hb6)
            clear hb6
            go_wp2
            go_ret
            exact ⟨rfl, HB6.out⟩
      · have hj1 : (j : Int) < os.length := by omega
        have hj2 : (j : Int) < 40 := by omega
        have hm3 : ¬ (M.length : Int) < 300 := by omega
        go_wp2_with fail
        refine HW1.out.mono ?_
        rintro e w3 ⟨rfl, rfl⟩
        go_wp2_with fail
        refine HW2.out.mono ?_
        rintro e w3 ⟨rfl, rfl⟩
        go_wp2_with fail
        go_loopw [10, 11] (fun s i wx => ∃ (k t : Nat), s = .int .i64 t ∧ i = .int .i64 k ∧ 1 ≤ k ∧ k ≤ M.length ∧ t + 1 = inRoot M k ∧ Pair w wx p1 p2 (4 + j) M) (fun _ i _ => M.length - (intOf i).toNat)
        case atStart => exact ⟨1, 0, rfl, rfl, by omega, HS.out.inv.wf.pos, (in_one HS.out.inv.wf).symm, HS.out⟩
        case round =>
          obtain ⟨k, t, rfl, rfl, hk1, hk2, ht, S3⟩ := hrel
          have hml := HM.out
          have htb : t ≤ 612 := by have := in_le M k; omega
          obtain ⟨gx3, cx3, hx3, _⟩ := S3.x
          have HS3 := Lib.hid S3
          clear S3
          by_cases hkl : k < M.length
          · have hki : (k : Int) < M.length := by omega
            obtain ⟨r, hr⟩ := some_bool (Win M k 0)
            have HW3 := Lib.hid (HS3.out.one.within HS3.out.inv.wf (by omega) k 0 r hr)
            have hnx := in_next HS3.out.inv.wf k r (hr.trans (win_nat (b := 0)))
            have HNX := Lib.hid hnx
            clear hr hnx
            go_wp2_with fail
            refine HW3.out.mono ?_
            rintro e w5 ⟨rfl, rfl⟩
            cases r with
            | true =>
              go_wp2_with fail
              go_roundw
              case rel =>
                have : inRoot M (k + 1) = inRoot M k + 1 := HNX.out.trans (by simp)
                exact ⟨k + 1, t + 1, by go_num, by go_num, by omega, by omega, by omega, HS3.out⟩
              case measure => simp [intOf]; omega
            | false =>
              go_wp2_with fail
              go_roundw
              case rel =>
                have : inRoot M (k + 1) = inRoot M k := HNX.out.trans (by simp)
                exact ⟨k + 1, t, rfl, by go_num, by omega, by omega, by omega, HS3.out⟩
              case measure => simp [intOf]; omega
          · have hki : ¬ (k : Int) < M.length := by omega
            have hke : k = M.length := by omega
            have hall := in_all HS3.out.inv.wf
            rw [hke] at ht
            have hcount : (rowsM M 0).length = t := by omega
            have HRW3 := Lib.hid (HS3.out.one.rows HS3.out.inv (by omega) (by omega) 0)
            have HC := Lib.hid hcount
            clear hke hall ht hcount
            go_wp2_with fail
            refine HRW3.out.mono ?_
            rintro e w5 ⟨v5, l5, rfl, hv5, hr5, _, _, _, hb5⟩
            obtain ⟨A5, c5, rfl, _, _, _, _⟩ := hv5
            have hlen : l5.length = t := by rw [← Ro.len_ros, hr5]; exact HC.out
            rw [hlen]
            have HB5 := Lib.hid (bt HS3.out.bel hb5)
            clear hb5 hr5 hlen
            go_wp2_with fail
            refine (fixed11 _).mono ?_
            rintro e w6 ⟨rfl, hb6⟩
            have HB6 := Lib.hid (bt HB5.out hb6)
            clear hb6
            go_wp2
            go_ret
            exact ⟨rfl, HB6.out⟩
end Go.Proofs.Ytmlchbohijolaaa.Ar

namespace Go.Proofs.Ytmlchbohijolaaa.Ar
set_option maxRecDepth 100000
set_option linter.unusedSimpArgs false
set_option linter.unusedVariables false
open Go.RowKit Ba
open Ro (At Ro Cw ros Rr Ow Nw Fr Att Ap Sh Ra Rv Held cells acells below_new infoI info_row len_cells rowV rowO Few check right)
/-- A call on the program's document alone: an error changes nothing. -/
def RefSays (w0 w : World) (F : Nat → Prop) (p : Nat) (M : List Nd) (o : Op11) (q : Int) (w' : World) : Prop := (q ≠ 0 → opM M o = M) ∧ StepF w0 w w' F p (opM M o)
section
variable {w0 w w' : World} {p B : Nat} {M : List Nd} {F : Nat → Prop} {o : Op11}
theorem make_no {k : Int} {n d : ByteArray} (h : (makeE M k n d).2 ≠ 0) : makeM M k n d = M := by
  unfold makeE at h
  unfold makeM
  by_cases hb : makeB k n d = true
  · rw [if_pos hb] at h
    by_cases hl : 4096 ≤ M.length
    · rw [if_neg (by simp; intro _; omega)]
    · rw [if_neg hl] at h
      exact absurd rfl h
  · rw [if_neg (by simp [hb])]
theorem load_no {l : List Ro} (h : loadE M l ≠ 0) : loadM M l = M := by
  unfold loadM
  rw [if_neg h]
theorem ins_no {P A n : Int} (h : insE M P A n ≠ 0) : insM M P A n = M := by
  unfold insM
  rw [if_neg h]
theorem clone_no {n : Int} (h : (cloneE M n).2 ≠ 0) : cloneM M n = M := by
  unfold cloneE at h
  unfold cloneM
  by_cases h1 : n < 1 ∨ (M.length : Int) ≤ n
  · rw [if_pos (by omega)]
  · rw [if_neg h1] at h
    by_cases h2 : 4096 < M.length + (rowsM M n).length
    · rw [if_pos (.inr (.inr h2))]
    · rw [if_neg h2] at h
      exact absurd rfl h
theorem attr_no {n : Int} {nm v : ByteArray} (h : attrE11 M n nm ≠ 0) : attrM11 M n nm v = M := by
  unfold attrE11 at h
  unfold attrM11
  by_cases h1 : elB11 M n = true
  · by_cases h2 : Na.mayB nm true = true
    · rw [if_pos h1, if_pos h2] at h
      exact absurd rfl h
    · rw [if_neg (by simp [h2])]
  · rw [if_neg (by simp [h1])]
theorem drop_no {n : Int} {nm : ByteArray} (h : dropE11 M n nm ≠ 0) : dropM11 M n nm = M := by
  unfold dropE11 at h
  unfold dropM11
  by_cases h1 : elB11 M n = true
  · rw [if_pos h1] at h
    by_cases h2 : (dropL (nd M n.toNat).ro.attrs nm).length = (nd M n.toNat).ro.attrs.length
    · rw [if_neg (by simp [h2])]
    · rw [if_neg h2] at h
      exact absurd rfl h
  · rw [if_neg (by simp [h1])]
theorem data_no {n : Int} {d : ByteArray} (h : dataE M n ≠ 0) : dataM M n d = M := by
  unfold dataE at h
  unfold dataM
  by_cases h1 : n < 1 ∨ (M.length : Int) ≤ n ∨ (nd M n.toNat).ro.kind = 0
  · rw [if_pos h1]
  · rw [if_neg h1] at h
    exact absurd rfl h
theorem rf_make (S : OneF w0 w F p M) (hm : M.length ≤ 5000) (hs : o.name.size ≤ 140737488355328) (hk : o.kind = 0) : Calls Try.prog 14 #[ptr p, .int .i64 o.what, .string o.name, .string o.value] w fun e w' => ∃ a q, e = .returned (.tuple #[.int .i64 a, .int .i64 q]) ∧ RefSays w0 w F p M o q w' := by
  have e1 : opM M o = makeM M o.what o.name o.value := by unfold opM; simp [hk]
  refine (S.make hm o.what o.name o.value hs _ _ _ rfl rfl).mono ?_
  rintro e w' ⟨rfl, h⟩
  exact ⟨_, _, rfl, fun h0 => e1.trans (make_no h0), e1 ▸ h⟩
theorem rf_ins (S : OneF w0 w F p M) (W : Wf M) (hm : M.length ≤ 5000) (hk : o.kind = 2) : Calls Try.prog 27 #[ptr p, .int .i64 o.node, .int .i64 o.at_, .int .i64 o.other] w fun e w' => ∃ q, e = .returned (.int .i64 q) ∧ RefSays w0 w F p M o q w' := by
  have e1 : opM M o = insM M o.node o.at_ o.other := by unfold opM; simp [hk]
  refine (S.insert W hm o.node o.at_ o.other _ _ rfl rfl).mono ?_
  rintro e w' ⟨rfl, h⟩
  exact ⟨_, rfl, fun h0 => e1.trans (ins_no h0), e1 ▸ h⟩
theorem rf_rem (S : OneF w0 w F p M) (W : Wf M) (hm : M.length ≤ 5000) (hk : o.kind = 3) : Calls Try.prog 15 #[ptr p, .int .i64 o.node] w fun e w' => ∃ q, e = .returned (.int .i64 q) ∧ RefSays w0 w F p M o q w' := by
  have e1 : opM M o = remM M o.node := by unfold opM; simp [hk]
  refine (S.remove W hm o.node _ _ rfl rfl).mono ?_
  rintro e w' ⟨rfl, h⟩
  refine ⟨_, rfl, fun h0 => e1.trans ?_, e1 ▸ h⟩
  unfold remM
  by_cases h1 : 1 ≤ o.node ∧ o.node < M.length
  · rw [if_pos h1] at h0
    exact absurd rfl h0
  · rw [if_neg h1]
theorem rf_clone (S : OneF w0 w F p M) (I : Inv B M) (hB : B ≤ 1000000) (hm : M.length ≤ 1000) (hk : o.kind = 4) : Calls Try.prog 30 #[ptr p, .int .i64 o.node] w fun e w' => ∃ a q, e = .returned (.tuple #[.int .i64 a, .int .i64 q]) ∧ RefSays w0 w F p M o q w' := by
  have e1 : opM M o = cloneM M o.node := by unfold opM; simp [hk]
  refine (S.clone I hB hm o.node _ _ _ rfl rfl).mono ?_
  rintro e w' ⟨rfl, h⟩
  exact ⟨_, _, rfl, fun h0 => e1.trans (clone_no h0), e1 ▸ h⟩
theorem rf_attr (S : OneF w0 w F p M) (I : Inv B M) (hB : B ≤ 1000000) (hs : o.name.size ≤ 140737488355328) (hk : o.kind = 5) : Calls Try.prog 16 #[ptr p, .int .i64 o.node, .string o.name, .string o.value] w fun e w' => ∃ q, e = .returned (.int .i64 q) ∧ RefSays w0 w F p M o q w' := by
  have e1 : opM M o = attrM11 M o.node o.name o.value := by unfold opM; simp [hk]
  refine (S.attr I hB o.node o.name o.value hs _ _ rfl rfl).mono ?_
  rintro e w' ⟨rfl, h⟩
  exact ⟨_, rfl, fun h0 => e1.trans (attr_no h0), e1 ▸ h⟩
theorem rf_drop (S : OneF w0 w F p M) (I : Inv B M) (hB : B ≤ 1000000) (hk : o.kind = 6) : Calls Try.prog 33 #[ptr p, .int .i64 o.node, .string o.name] w fun e w' => ∃ q, e = .returned (.int .i64 q) ∧ RefSays w0 w F p M o q w' := by
  have e1 : opM M o = dropM11 M o.node o.name := by unfold opM; simp [hk]
  refine (S.drop I hB o.node o.name _ _ rfl rfl).mono ?_
  rintro e w' ⟨rfl, h⟩
  exact ⟨_, rfl, fun h0 => e1.trans (drop_no h0), e1 ▸ h⟩
theorem rf_data (S : OneF w0 w F p M) (hk : o.kind = 7) : Calls Try.prog 32 #[ptr p, .int .i64 o.node, .string o.value] w fun e w' => ∃ q, e = .returned (.int .i64 q) ∧ RefSays w0 w F p M o q w' := by
  have e1 : opM M o = dataM M o.node o.value := by unfold opM; simp [hk]
  refine (S.data o.node o.value _ _ rfl rfl).mono ?_
  rintro e w' ⟨rfl, h⟩
  exact ⟨_, rfl, fun h0 => e1.trans (data_no h0), e1 ▸ h⟩
/-- trees and Load. -/
theorem rf_trees (S : OneF w0 w F p M) (O : OpOk w0 w0.heap.size o) : Calls Try.prog 23 #[.slice o.A o.x.length o.c] w fun e w' => ∃ v l, e = .returned v ∧ OneF w0 w' F p M ∧ Below w.heap.size w w' ∧ ros l = cut12 (ros o.x) ∧ (∀ w2, Touch F w' w2 → Rv w2 v l) := by
  have hs := S.bel.size
  refine (trees1 w0.heap.size o.A o.c o.x w (O.rows.below S.bel) hs O.cap.1 O.cap.2).mono ?_
  rintro e w' ⟨v, l, rfl, ho, ha, hr, hb⟩
  exact ⟨v, l, rfl, S.below hb, hb, hr, fun w2 t => rv_trees ho ha (by rw [hr]; exact held_cut O.held) (fun b hf => ⟨S.low b hf, S.bd b hf⟩) t⟩
theorem rf_load (S : OneF w0 w F p M) (W : Wf M) (hm : M.length ≤ 4500) (hk : o.kind = 1) {v : Value} {l : List Cw} (hr : ros l = cut12 (ros o.x)) (hv : ∀ w2, Touch F w w2 → Rv w2 v l) : Calls Try.prog 25 #[ptr p, v] w fun e w' => ∃ a q, e = .returned (.tuple #[a, .int .i64 q]) ∧ RefSays w0 w F p M o q w' := by
  have e1 : opM M o = loadM M (cut12 (ros o.x)) := by unfold opM; simp [hk]
  have hl : l.length ≤ 12 := by rw [← Ro.len_ros, hr]; exact cut12_len _
  refine (loadP1 v l w S.doc W hm hv (by omega) (by rw [hr]; exact few_cut _)).mono ?_
  rintro e w' ⟨u, rfl, _, F', D', n, _⟩
  have e2 : (if loadE M (ros l) = 0 then loadTo M.length (ros l) (parI (ros l)) M l.length else M) = loadM M (cut12 (ros o.x)) := by
    unfold loadM
    rw [← hr, Ro.len_ros]
  rw [e2] at D'
  exact ⟨_, _, rfl, fun h0 => e1.trans (load_no (by rw [← hr]; exact h0)), e1 ▸ step_of S D' n⟩
end
end Go.Proofs.Ytmlchbohijolaaa.Ar
