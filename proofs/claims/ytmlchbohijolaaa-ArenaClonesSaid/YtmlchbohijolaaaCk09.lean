/-
  Stage 11, in plain words: a copy of a node's tree.
  Stage 11: ArenaMoves, walked.
  Small laws for the statements' own texts: min of a length, a mask of an int, a cut's size. For every stage from 5 on.
  Stage 11: ArenaClones, walked.
  What a statement's row says of the sizes of strings that lie within slices of structs: each is no greater than the reach.
  Stage 11: arguments that are calls of a script, as the statement's row reads them.
-/
import Derived.Test.YtmlchbohijolaaaCk05
import Derived.Test.YtmlchbohijolaaaCk08
import Derived.Test.YtmlchbohijolaaaCk03
import Derived.Test.YtmlchbohijolaaaCk04
import Derived.SizedLaws
namespace Go.Proofs.Ytmlchbohijolaaa.Ar
set_option linter.unusedSimpArgs false
set_option linter.unusedVariables false
open Go.RowKit Ba
open Ro (At Ro deeper okRow right rightFrom parent dep hasRow kids below endOf dep_at)
theorem rows_zero {M : List Nd} (W : Wf M) : rowsM M 0 = (nd M 0).kids.flatMap fun k => tr M k 0 := by
  have := W.pos
  unfold rowsM
  rw [if_pos (by omega), if_pos rfl]
theorem rows_same {M M' : List Nd} (W : Wf M) (W' : Wf M') (hl : M.length ≤ M'.length) (h : ∀ m < M.length, (nd M' m).ro = (nd M m).ro ∧ (nd M' m).kids = (nd M m).kids) {n : Nat} (hn : n < M.length) : rowsM M' n = rowsM M n := by
  have ht : ∀ k < M.length, ∀ d, tr M' k d = tr M k d := fun k hk d => tr_congr W W' hk (by omega) (fun m hu => h m hu.lt.1) d
  by_cases h0 : n = 0
  · subst h0
    show rowsM M' 0 = rowsM M 0
    rw [rows_zero W, rows_zero W', (h 0 W.pos).2]
    exact flatMap_congr fun k hk => ht k (W.kid_lt hk).1 0
  · rw [rows_node h0 hn, rows_node h0 (by omega)]
    exact ht n hn 0
theorem tree_deep (M : List Nd) : ∀ (f n : Nat) (d : Int), ∀ y ∈ treeF M f n d, d ≤ y.depth
  | 0, _, _, y, h => by cases h
  | f + 1, n, d, y, h => by
    rw [treeF, List.mem_cons] at h
    rcases h with rfl | h
    · exact Int.le_refl _
    · obtain ⟨k, _, hy⟩ := List.mem_flatMap.1 h
      have := tree_deep M f k (d + 1) y hy
      omega
/-- A node's rows are one tree. -/
theorem node_tree {M : List Nd} (W : Wf M) {k : Nat} (h0 : k ≠ 0) (hk : k < M.length) : ∃ x r, rowsM M k = x :: r ∧ x.depth = 0 ∧ ∀ y ∈ r, 0 < y.depth := by
  rw [rows_node h0 hk, tr_eq W hk]
  refine ⟨_, _, rfl, rfl, fun y hy => ?_⟩
  obtain ⟨j, _, hj⟩ := List.mem_flatMap.1 hy
  have := tree_deep M _ j _ y hj
  omega
theorem seg_one {l r : List Ro} {x : Ro} (hl : l = x :: r) (h0 : x.depth = 0) (hr : ∀ y ∈ r, 0 < y.depth) : seg l 0 = l := by
  subst hl
  have hb : below (x :: r) (0 : Nat) = r := by
    unfold below
    have hd : dep (x :: r) (0 : Nat) = x.depth := dep_at rfl
    rw [hd, h0]
    show r.takeWhile _ = r
    exact while_all fun y hy => decide_eq_true (hr y hy)
  unfold seg endOf
  rw [hb]
  show ((x :: r).take (1 + r.length)).drop 0 = _
  rw [List.drop_zero, List.take_of_length_le (by rw [List.length_cons]; omega)]
/-- All that the law asks of a copy. -/
structure Cloned (M M' : List Nd) (k : Nat) : Prop where
  wf : Wf M'
  len : M'.length = M.length + (rowsM M k).length
  rows : rowsM M' M.length = rowsM M k
  old : ∀ m < M.length, nd M' m = nd M m
  up : (nd M' M.length).up = -1
  lt : M.length < M'.length
theorem cloned_of {M : List Nd} {B : Nat} (I : Inv B M) (hm : M.length ≤ 1000) {k : Nat} (h0 : k ≠ 0) (hk : k < M.length) (hs : ¬ 4096 < M.length + (rowsM M k).length) : cloneE M k = ((M.length : Int), 0) ∧ Cloned M (cloneM M k) k := by
  have W := I.wf
  have hr := good_right I.wf I.good k
  have hsh := rows_short I.wf k
  obtain ⟨x, r, hl, hx, hd⟩ := node_tree W h0 hk
  obtain ⟨l, hL⟩ : ∃ l, rowsM M k = l := ⟨_, rfl⟩
  rw [hL] at hr hsh hl hs
  have hE : cloneE M k = ((M.length : Int), 0) := by
    unfold cloneE
    rw [hL, if_neg (by omega), if_neg hs]
  have hM : cloneM M k = loadTo M.length l (parI l) M l.length := by
    unfold cloneM
    rw [hL, if_neg (by omega)]
  have hpos : 0 < l.length := by rw [hl]; simp
  have hll := load_len M.length l (parI l) M l.length
  have hnd := load_nd (l := l) W par_less l.length (Nat.le_refl _)
  have W' := load_wf (l := l) W l.length par_less
  refine ⟨hE, ?_⟩
  rw [hM]
  have h1 := par_less (l := l) 0 hpos
  have hlt : M.length < (loadTo M.length l (parI l) M l.length).length := by omega
  refine ⟨W', by rw [hL]; exact hll, ?_, hnd.2.1, ?_, hlt⟩
  · have hW := W.pos
    rw [rows_node (by omega) hlt, hL]
    have ht := load_tree hr (by omega) W l.length 0 (by omega) hpos
    have hd0 : dep l (0 : Nat) = 0 := by
      rw [hl]
      exact (dep_at rfl).trans hx
    rw [hd0, seg_one hl hx hd, Nat.add_zero] at ht
    exact ht
  · have := hnd.2.2 0 hpos
    rw [Nat.add_zero, if_pos (by omega)] at this
    exact this
theorem attr_old {M : List Nd} {n m : Nat} {nm v : ByteArray} (h : m ≠ n) : nd (attrM11 M n nm v) m = nd M m := by
  unfold attrM11
  split
  · rename_i hb
    rw [Bool.and_eq_true] at hb
    obtain ⟨k, hk, hlt, _⟩ := el_nat hb.1
    have : n = k := by omega
    subst this
    rw [Int.toNat_natCast, nd_row hlt, if_neg h]
  · rfl
theorem data_old {M : List Nd} {n m : Nat} {d : ByteArray} (h : m ≠ n) : nd (dataM M n d) m = nd M m := by
  unfold dataM
  split
  · rfl
  · rename_i hb
    rw [Int.toNat_natCast, nd_row (by omega), if_neg h]
theorem attr_len {M : List Nd} {n : Int} {nm v : ByteArray} : (attrM11 M n nm v).length = M.length := by
  unfold attrM11
  split
  · rw [len_row]
  · rfl
theorem data_len {M : List Nd} {n : Int} {d : ByteArray} : (dataM M n d).length = M.length := by
  unfold dataM
  split
  · rfl
  · rw [len_row]
theorem clone_index (x L : Nat) (hL : 1 ≤ L) (hL2 : L ≤ 1000000) : ∃ k : Nat, 1 ≤ k ∧ k ≤ L ∧ wrap64 (1 + (x : Int) % (L : Int)) = k := by
  have h := Nat.mod_lt x (show 0 < L by omega)
  have e2 : (x : Int) % (L : Int) = ((x % L : Nat) : Int) := by first | rfl | (push_cast; rfl)
  rw [e2]
  refine ⟨1 + x % L, by omega, by omega, ?_⟩
  unfold wrap64
  omega
end Go.Proofs.Ytmlchbohijolaaa.Ar

namespace Go.Proofs.Ytmlchbohijolaaa.Ar
set_option maxRecDepth 100000
set_option linter.unusedSimpArgs false
set_option linter.unusedVariables false
open Go.RowKit Ba
open Ro (At Ro Cw ros Rr Ow Nw Fr Att Ap Sh Ra Rv Held cells acells below_new infoI info_row len_cells rowV rowO Few check right refSame1)
theorem Script.to {w w' : World} {v : Value} {os : List Op11} (h : Script w w.heap.size v os) (hb : Below w.heap.size w w') : Script w' w'.heap.size v os := by
  obtain ⟨A, c, rfl, hc, hm, hat, hok⟩ := h
  have hs := hb.size
  refine ⟨A, c, rfl, hc, hm, fun h0 => ?_, fun o ho => ?_⟩
  · obtain ⟨b, off, hA, hbl, hcell⟩ := hat h0
    exact ⟨b, off, hA, by omega, fun j hj i u hu => (hb.cell (p := ⟨b, _, none⟩) hbl).trans (hcell j hj i u hu)⟩
  · have h1 := (hok o ho).below hb
    exact ⟨h1.cap, h1.rows.more hs, h1.held, h1.name, h1.what⟩
end Go.Proofs.Ytmlchbohijolaaa.Ar

namespace Go.Proofs.Ytmlchbohijolaaa.Sm
set_option maxRecDepth 100000
set_option linter.unusedSimpArgs false
set_option linter.unusedVariables false
open Go.RowKit Ba
theorem min_any (x : Nat) (m : Nat) (M : Int) (hM : M = m) (w : World) : ∃ k : Nat, k ≤ x ∧ k ≤ m ∧ k = min x m ∧ ∀ ts t, (Builtin.min_ ts t #[.int .i64 x, .int .i64 M]).run Try.prog w = .ok (.int .i64 k) w := by
  refine ⟨min x m, by omega, by omega, rfl, fun ts t => ?_⟩
  rw [run_min_int2]
  congr 2
  split <;> omega
theorem and_small (n : Int) (m j : Nat) (hm : m < 2 ^ j) (hj : 2 ^ j ≤ 4611686018427387904) : ∃ x : Nat, x < 2 ^ j ∧ bits .and .i64 n (m : Int) = (x : Int) := by
  have hlt : (BitVec.ofInt IntKind.i64.bits n).toNat &&& m < 2 ^ j := Nat.and_lt_two_pow _ hm
  refine ⟨_, hlt, ?_⟩
  have hm' : m % 2 ^ IntKind.i64.bits = m := Nat.mod_eq_of_lt (Nat.lt_of_lt_of_le hm (Nat.le_trans hj (by decide)))
  simp only [bits, BitVec.ofInt_natCast, BitVec.toNat_and, BitVec.toNat_ofNat, hm']
  rw [IntKind.wrap_i64]
  omega
end Go.Proofs.Ytmlchbohijolaaa.Sm

namespace Go.Proofs.Ytmlchbohijolaaa.Ar
set_option maxRecDepth 100000
set_option linter.unusedSimpArgs false
set_option linter.unusedVariables false
open Go.RowKit Ba
open Ro (At Ro Cw ros Rr Ow Nw Fr Att Ap Sh Ra Rv Held cells acells below_new infoI info_row len_cells rowV rowO Few check right refSame1)
set_option maxRecDepth 100000 in
set_option maxHeartbeats 8000000 in
theorem law_clones (v : Value) (n : Int) (os : List Op11) (w : World) (_ : (Lit.int .i64 n).wf = true) (S : Script w w.heap.size v os) (_ : True) : Calls Try.prog 6 #[v, .int .i64 n] w fun e w' => e = .returned (.bool true) ∧ Below w.heap.size w w' := by
  obtain ⟨x, hx1, hx2⟩ := Sm.and_small n 65535 16 (by decide) (by decide)
  rw [show ((65535 : Nat) : Int) = 65535 from rfl] at hx2
  rw [show 2 ^ 16 = 65536 from rfl] at hx1
  have HPL := Lib.hid (played11 v os w S)
  clear S
  go_enter Try.func6, Try.ntmps6
  go_wp2_with fail
  refine HPL.out.mono ?_
  rintro e w1 ⟨p, M, rfl, So, I, hm⟩
  obtain ⟨F, S1⟩ := So.of
  have HI := Lib.hid I; have HM := Lib.hid hm
  have HL1 := Lib.hid S1.one.len
  have hpos := I.wf.pos
  have hmax : (if (1 : Int) < M.length then (M.length : Int) else 1) = M.length := by split <;> omega
  have HS1 := Lib.hid S1
  clear So S1 I HPL
  go_wp2_with fail
  refine HL1.out.mono ?_
  rintro e w1' ⟨rfl, rfl⟩
  go_upto_region 5 with (fail)
  obtain ⟨k, hk1, hk2, hkk⟩ := clone_index x M.length (by omega) (by have := HM.out; omega)
  rw [hkk]
  have HRA := Lib.hid (HS1.out.rows HI.out (by decide) (by have := HM.out; omega) k)
  clear hkk hx1 hx2 hmax
  go_wp2_with fail
  refine HRA.out.mono ?_
  rintro e w2 ⟨v2, l2, rfl, hl2, hll2, S2, hk2', hb2⟩
  obtain ⟨A2, c2, rfl, _⟩ := hk2' w2 F (Next.refl _ _)
  have HRB := Lib.hid (S2.rows HI.out (by decide) (by have := HM.out; omega) 0)
  have HL2 := Lib.hid hl2; have HLL2 := Lib.hid hll2; have HKA := Lib.hid hk2'
  clear S2 hl2 hll2 hk2' hb2 HRA
  go_wp2_with fail
  refine HRB.out.mono ?_
  rintro e w3 ⟨v3, l3, rfl, hl3, hll3, S3, hk3, hb3⟩
  have HL3 := Lib.hid hl3; have HLL3 := Lib.hid hll3; have HKB := Lib.hid hk3; have HB3 := Lib.hid hb3
  have HS3 := Lib.hid S3
  have HLN := Lib.hid S3.one.len
  clear S3 hl3 hll3 hk3 hb3 HRB
  go_wp2_with fail
  refine HLN.out.mono ?_
  rintro e w3' ⟨rfl, rfl⟩
  have HKA3 := Lib.hid (fun (wz : World) (Fz : Nat → Prop) (nz : Next w3' wz F Fz) => HKA.out wz Fz ((Next.of_below HB3.out).trans nz))
  by_cases hkl : k < M.length
  · have hsh := rows_short HI.out.wf k
    obtain ⟨hE, hC⟩ := cloned_of HI.out (by have := HM.out; omega) (show k ≠ 0 by omega) hkl (by have := HM.out; omega)
    obtain ⟨M', hM'⟩ : ∃ M', cloneM M k = M' := ⟨_, rfl⟩
    have hI' : Inv 50 M' := hM' ▸ HI.out.clone k
    rw [hM'] at hC
    have HCL := Lib.hid (HS3.out.clone HI.out (by decide) (by have := HM.out; omega) k _ _ _ hE hM')
    have HC := Lib.hid hC; have HI' := Lib.hid hI'
    have hlM : M'.length ≤ 1500 := by rw [hC.len]; have := HM.out; omega
    have HLM := Lib.hid hlM
    clear hsh hE hC hM' hI' hlM
    go_wp2_with fail
    refine HCL.out.mono ?_
    rintro e w4 ⟨rfl, F4, S4, N4⟩
    have HLN4 := Lib.hid S4.one.len
    have HR4 := Lib.hid (S4.rows HI'.out (by decide) (by have := HLM.out; omega) (M.length : Nat))
    have HN4 := Lib.hid N4
    have hlr : l2.length = (rowsM M k).length := by rw [← HL2.out, Ro.len_ros]
    have hwr : wrap64 ((M.length : Int) + l2.length) = (M'.length : Int) := by
      rw [HC.out.len, ← hlr]
      have := HM.out
      have := HLL2.out
      unfold wrap64
      omega
    have HRS0 := Lib.hid (rows_same HI.out.wf HI'.out.wf (by have := HC.out.lt; omega) (fun m hm => by rw [HC.out.old m hm]; exact ⟨rfl, rfl⟩) HI.out.wf.pos)
    clear S4 N4 hlr
    go_wp2_with fail
    refine HLN4.out.mono ?_
    rintro e w4' ⟨rfl, rfl⟩
    go_wp2_with fail
    refine HR4.out.mono ?_
    rintro e w5 ⟨v5, l5, rfl, hl5, hll5, S5, hk5, hb5⟩
    have n5 := HN4.out.trans (Next.of_below (F := F4) hb5)
    have HSA := Lib.hid (refSame1 v5 _ l5 l2 w5 true (hk5 w5 F4 (Next.refl _ _)) (HKA3.out w5 F4 n5) (by omega) (by have := HLL2.out; omega) (decide_eq_true (by rw [hl5, HL2.out, HC.out.rows])))
    have HS5 := Lib.hid S5; have HN5 := Lib.hid n5
    clear hl5 hll5 S5 hk5 hb5 n5 HR4 HLN4 hwr
    go_wp2_with fail
    refine HSA.out.mono ?_
    rintro e w6 ⟨rfl, hb6⟩
    have S6 := HS5.out.below hb6
    have HN6 := Lib.hid (HN5.out.trans (Next.of_below (F := F4) hb6))
    have HR6 := Lib.hid (S6.rows HI'.out (by decide) (by have := HLM.out; omega) 0)
    clear S6 hb6 HSA
    go_wp2_with fail
    refine HR6.out.mono ?_
    rintro e w7 ⟨v7, l7, rfl, hl7, hll7, S7, hk7, hb7⟩
    have n7 := HN6.out.trans (Next.of_below (F := F4) hb7)
    have hrs : rowsM M' 0 = rowsM M 0 := HRS0.out
    have HSB := Lib.hid (refSame1 v7 v3 l7 l3 w7 true (hk7 w7 F4 (Next.refl _ _)) (HKB.out w7 F4 n7) (by omega) (by have := HLL3.out; omega) (decide_eq_true (by rw [hl7, HL3.out, hrs])))
    have HS7 := Lib.hid S7; have HN7 := Lib.hid n7
    clear hl7 hll7 S7 hk7 hb7 n7 hrs HR6
    go_wp2_with fail
    refine HSB.out.mono ?_
    rintro e w8 ⟨rfl, hb8⟩
    have S8 := HS7.out.below hb8
    have HN8 := Lib.hid (HN7.out.trans (Next.of_below (F := F4) hb8))
    have HP8 := Lib.hid (S8.one.parent (M.length : Nat) (-1) (by rw [if_pos ⟨by omega, by have := HC.out.lt; omega⟩, Int.toNat_natCast]; exact HC.out.up))
    have HAT := Lib.hid (S8.attr HI'.out (by decide) (M.length : Nat) ⟨#[120]⟩ ⟨#[121]⟩ (by decide) _ _ rfl rfl)
    have HI9 := Lib.hid (HI'.out.attr (M.length : Nat) ⟨#[120]⟩ ⟨#[121]⟩)
    clear S8 hb8 HSB
    go_wp2_with fail
    refine HP8.out.mono ?_
    rintro e w8' ⟨rfl, rfl⟩
    go_wp2_with fail
    refine HAT.out.mono ?_
    rintro e w9 ⟨rfl, F9, S9, N9⟩
    have HN9 := Lib.hid (HN8.out.trans N9)
    have HDA := Lib.hid (S9.data (M.length : Nat) ⟨#[122]⟩ _ _ rfl rfl)
    have HI10 := Lib.hid (HI9.out.data (M.length : Nat) ⟨#[122]⟩)
    clear S9 N9 HAT HP8
    go_wp2_with fail
    refine HDA.out.mono ?_
    rintro e w10 ⟨rfl, F10, S10, N10⟩
    have HN10 := Lib.hid (HN9.out.trans N10)
    obtain ⟨M3, hM3⟩ : ∃ M3, dataM (attrM11 M' (M.length : Nat) ⟨#[120]⟩ ⟨#[121]⟩) (M.length : Nat) ⟨#[122]⟩ = M3 := ⟨_, rfl⟩
    have hl3 : M3.length = M'.length := by rw [← hM3, data_len, attr_len]
    have hold : ∀ m < M.length, (nd M3 m).ro = (nd M m).ro ∧ (nd M3 m).kids = (nd M m).kids := fun m hm => by
      rw [← hM3, data_old (by omega), attr_old (by omega), HC.out.old m hm]
      exact ⟨rfl, rfl⟩
    rw [hM3] at S10 HI10
    have hlt := HC.out.lt
    have HRK := Lib.hid (rows_same HI.out.wf HI10.out.wf (by omega) hold hkl)
    have HRZ := Lib.hid (rows_same HI.out.wf HI10.out.wf (by omega) hold HI.out.wf.pos)
    have hl5 : M3.length ≤ 5000 := by have := HLM.out; omega
    have HL5 := Lib.hid hl5
    have HR10 := Lib.hid (S10.rows HI10.out (by decide) hl5 k)
    clear S10 N10 hM3 hl3 hold hlt hl5 HDA
    go_wp2_with fail
    refine HR10.out.mono ?_
    rintro e w11 ⟨v11, l11, rfl, hl11, hll11, S11, hk11, hb11⟩
    have n11 := HN10.out.trans (Next.of_below (F := F10) hb11)
    have HSC := Lib.hid (refSame1 v11 _ l11 l2 w11 true (hk11 w11 F10 (Next.refl _ _)) (HKA3.out w11 F10 n11) (by omega) (by have := HLL2.out; omega) (decide_eq_true (by rw [hl11, HL2.out, HRK.out])))
    have HS11 := Lib.hid S11; have HN11 := Lib.hid n11
    clear hl11 hll11 S11 hk11 hb11 n11 HR10
    go_wp2_with fail
    refine HSC.out.mono ?_
    rintro e w12 ⟨rfl, hb12⟩
    have S12 := HS11.out.below hb12
    have HN12 := Lib.hid (HN11.out.trans (Next.of_below (F := F10) hb12))
    have HR12 := Lib.hid (S12.rows HI10.out (by decide) HL5.out 0)
    clear S12 hb12 HSC
    go_wp2_with fail
    refine HR12.out.mono ?_
    rintro e w13 ⟨v13, l13, rfl, hl13, hll13, S13, hk13, hb13⟩
    have n13 := HN12.out.trans (Next.of_below (F := F10) hb13)
    have hrz : rowsM M3 0 = rowsM M 0 := HRZ.out
    have HSD := Lib.hid (refSame1 v13 v3 l13 l3 w13 true (hk13 w13 F10 (Next.refl _ _)) (HKB.out w13 F10 n13) (by omega) (by have := HLL3.out; omega) (decide_eq_true (by rw [hl13, HL3.out, hrz])))
    have HS13 := Lib.hid S13.bel
    clear hl13 hll13 S13 hk13 hb13 n13 hrz HR12
    go_wp2_with fail
    refine HSD.out.mono ?_
    rintro e w14 ⟨rfl, hb14⟩
    have HB14 := Lib.hid (bt HS13.out hb14)
    clear hb14 HSD
    go_wp2_with fail
    refine (fixed11 _).mono ?_
    rintro e w15 ⟨rfl, hb15⟩
    have HB15 := Lib.hid (bt HB14.out hb15)
    clear hb15
    go_wp2
    go_ret
    exact ⟨rfl, HB15.out⟩
  · have hke : k = M.length := by omega
    subst hke
    have hE : cloneE M (M.length : Nat) = (0, 110) := by unfold cloneE; rw [if_pos (by omega)]
    have hM' : cloneM M (M.length : Nat) = M := by unfold cloneM; rw [if_pos (by omega)]
    have HCL := Lib.hid (HS3.out.clone HI.out (by decide) (by have := HM.out; omega) (M.length : Nat) _ _ _ hE hM')
    clear hE hM'
    go_wp2_with fail
    refine HCL.out.mono ?_
    rintro e w4 ⟨rfl, F4, S4, N4⟩
    have HLN4 := Lib.hid S4.one.len
    have HB4 := Lib.hid S4.bel
    clear S4 N4
    go_wp2_with fail
    refine HLN4.out.mono ?_
    rintro e w4' ⟨rfl, rfl⟩
    go_wp2_with fail
    refine (fixed11 _).mono ?_
    rintro e w5 ⟨rfl, hb5⟩
    have HB5 := Lib.hid (bt HB4.out hb5)
    clear hb5
    go_wp2
    go_ret
    exact ⟨rfl, HB5.out⟩
end Go.Proofs.Ytmlchbohijolaaa.Ar

namespace Go.Proofs.Ytmlchbohijolaaa.Rz
set_option maxRecDepth 100000
set_option linter.unusedVariables false
set_option linter.unusedSimpArgs false
open Go.RowKit Ba Go.ChangeShapes Go.WideShapes Go.Deep
open Ro (At Ro Cw ros Rv Rr Att Held cells acells Ra Sh)
/-- Each string that is read there, and each row of memory, is within the reach. -/
def Within {H : Type} (P : Program) (t : TypeId) (d : DataW H) : Prop := ∀ m ∈ d.weights P t, m ≤ reachBytes
theorem within_all {H : Type} {P : Program} {e : TypeId} {d : DataW H} {m : Nat} : ∀ {l : List (DataW H)}, d ∈ l → m ∈ d.weights P e → m ∈ DataW.weightsAll P e l
  | [], h, _ => by cases h
  | x :: r, h, hm => by
    rw [DataW.weightsAll, List.mem_append]
    rcases List.mem_cons.1 h with rfl | h
    · exact .inl hm
    · exact .inr (within_all h hm)
theorem Within.elem {H : Type} {P : Program} {t e : TypeId} {l sp : List (DataW H)} {d : DataW H} (h : Within P t (.slice l sp)) (ht : P.underlying t = some (.slice e)) (hd : d ∈ l) : Within P e d := fun m hm => h m (by
  simp only [DataW.weights, ht, List.mem_cons, List.mem_append]
  exact .inr (.inl (within_all hd hm)))
theorem Within.part {H : Type} {P : Program} {t : TypeId} {fs : Array Field} {l : List (DataW H)} {d : DataW H} {j : Nat} {f : Field} (h : Within P t (.agg l)) (ht : P.underlying t = some (.struct fs)) (hf : fs[j]? = some f) (hd : l[j]? = some d) : Within P f.type d := fun m hm => h m (by
  simp only [DataW.weights, ht]
  exact DataW.weights_mem_each (j := j) (by rw [List.getElem?_map, Array.getElem?_toList, hf]; rfl) hd m hm)
theorem Within.str {H : Type} {P : Program} {t : TypeId} {s : ByteArray} (h : Within P t (.lit (.string s.data.toList) : DataW H)) : s.size ≤ reachBytes := by
  have := h s.data.toList.length (by simp [DataW.weights])
  rw [Array.length_toList] at this
  exact this
theorem sized_all {H : Type} {P : Program} {ts : List TypeId} {ds : List (DataW H)} (h : (DataW.weightsEach P ts ds).all (· ≤ reachBytes) = true) {j : Nat} {t : TypeId} {d : DataW H} (ht : ts[j]? = some t) (hd : ds[j]? = some d) : Within P t d := fun m hm => by
  have := List.all_eq_true.1 h m (DataW.weights_mem_each ht hd m hm)
  simpa using this

theorem reach_le {n : Nat} (h : n ≤ reachBytes) : n ≤ 140737488355328 := Nat.le_trans h (by decide)
section
variable {H : Type} {enc : TypeId × Value → H} {w : World} {base : Nat}
end
end Go.Proofs.Ytmlchbohijolaaa.Rz

namespace Go.Proofs.Ytmlchbohijolaaa.Ar
set_option maxRecDepth 100000
set_option linter.unusedVariables false
set_option linter.unusedSimpArgs false
open Go.RowKit Ba Go.ChangeShapes Go.WideShapes Go.Deep
open Ro (At Ro Cw ros Rr Ow Nw Fr Att Ap Sh Ra Rv Held cells open_attrs int_range list_of open_rows_of)
open Rz (Within reach_le)
section
variable {H : Type} {enc : TypeId × Value → H} {P : Program} {w : World} {base : Nat} {spare : Nat → Bool} {held : Bool}
/-- A slice of structs of one-cell fields: its parts. -/
theorem open_rows_both {t e : TypeId} {fs : Array Field} {fuel : Nat} {cs : List Value} {x : DataW H × List MemPlace} (ht : P.underlying t = some (.slice e)) (he : P.underlying e = some (.struct fs))
    (hone : oneCellFields P fs = true) (hC : P.cellsOf e = fs.size) (h : DataW.trod enc P w base spare held fuel t cs = some x) :
    cs = [.slice none 0 0] ∨
    ∃ (a : Addr) (len cap m : Nat) (Pl : Nat → List MemPlace) (D : Nat → DataW H) (sp : List (DataW H)), cs = [.slice (some a) len cap] ∧ len ≤ cap ∧ cap ≤ maxLen ∧ m = (if spare a.block then cap else len) ∧
      x.1 = .slice ((List.range len).map D) sp ∧ x.2 = MemPlace.row a (m * fs.size) ++ (List.range m).flatMap Pl ∧
      ∀ i, i < m → ∀ (j : Nat) (f : Field), fs[j]? = some f → ∃ (v : Value) (y : DataW H × List MemPlace) (n : Nat) (parts : List (DataW H)), w.cell? (a.add (i * fs.size + j)) = some v ∧ (∀ z ∈ y.2, z ∈ Pl i) ∧ D i = .agg parts ∧ parts[j]? = some y.1 ∧ DataW.trod enc P w base spare held n f.type [v] = some y := by
  rcases open_slice ht h with ⟨h0, _⟩ | ⟨a, len, cap, m, n, D, Pl, hcs, hb, hl, hm, hmm, hx, hi⟩
  · exact .inl h0
  · refine .inr ⟨a, len, cap, m, Pl, D, _, hcs, hl, hm, hmm, by rw [hx], by rw [hx, hC], fun i him j f hj => ?_⟩
    obtain ⟨cs', hc, ht'⟩ := hi i him
    rw [hC] at hc
    obtain ⟨ys, n', hn', hy, hlen, hyl, hf⟩ := DataW.trod_struct he ht'
    obtain ⟨_, hcl, hat⟩ := World.cells?_some hc
    simp only [Prod.mk.injEq] at hy
    obtain ⟨ho, hk⟩ := hone_of hone j f hj
    have hjl : j < fs.size := (Array.getElem?_eq_some_iff.1 hj).1
    have hcell := hat j hjl
    have hv : cs'[j]? = some (cs'[j]'(by omega)) := List.getElem?_eq_getElem (by omega)
    have h1 := hf j f hj
    rw [ho, hk] at h1
    have hone' : (cs'.drop j).take 1 = [cs'[j]'(by omega)] := by
      rw [List.drop_eq_getElem_cons (by omega)]
      rfl
    rw [hone'] at h1
    have hys : ys[j]? = some (ys[j]'(by omega)) := List.getElem?_eq_getElem (by omega)
    refine ⟨_, _, n', _, ?_, fun z hz => ?_, hy.1, by rw [List.getElem?_map, hys]; rfl, h1.trans hys⟩
    · rw [← Go.Deep.add_add, hcell, hv]
    · rw [hy.2]
      exact List.mem_flatMap.2 ⟨_, List.getElem_mem _, hz⟩
end
section
variable {H : Type} {enc : TypeId × Value → H} {w : World} {base : Nat}
/-- Rows within a struct's field. -/
theorem open_rows_in {fuel : Nat} {v : Value} {x : DataW H × List MemPlace} (h : DataW.trod enc Try.prog w base (fun _ => true) true fuel 27 [v] = some x) (N : Nat) (hlt : ∀ z ∈ x.2, z.block < N) :
    ∃ A c l, v = .slice A l.length c ∧ l.length ≤ c ∧ c ≤ maxLen ∧ Rr w N A l ∧ Held (ros l) := by
  rcases open_rows_of Try.underlying27 Try.underlying65 (by kernel_rfl) (by kernel_rfl) h with hcs | ⟨a, len', cap', m, Pl, hcs, hl, hm, hmm, hx, hi⟩
  · obtain rfl : v = .slice none 0 0 := by simpa using hcs
    exact ⟨none, 0, [], rfl, Nat.le_refl _, Nat.zero_le _, Rr.nil _ _ _, fun _ h => by simp [ros] at h⟩
  · obtain rfl : v = .slice (some a) len' cap' := by simpa using hcs
    simp only [if_true] at hmm
    subst hmm
    obtain ⟨b, off, spot⟩ := a
    have hrow : ∀ i < len', ∃ r : Cw, (∀ (j : Nat) (u : Value), (cells r)[j]? = some u → w.cell? ((⟨b, off, spot⟩ : Addr).add (i * 5 + j)) = some u) ∧ Att w N r ∧ (-9223372036854775808 ≤ r.ro.depth ∧ r.ro.depth ≤ 9223372036854775807) := fun i hil => by
      obtain ⟨v0, y0, n0, hc0, _, ht0⟩ := hi i (by omega) 0 _ rfl
      obtain ⟨v1, y1, n1, hc1, _, ht1⟩ := hi i (by omega) 1 _ rfl
      obtain ⟨v2, y2, n2, hc2, _, ht2⟩ := hi i (by omega) 2 _ rfl
      obtain ⟨v3, y3, n3, hc3, _, ht3⟩ := hi i (by omega) 3 _ rfl
      obtain ⟨v4, y4, n4, hc4, hp4, ht4⟩ := hi i (by omega) 4 _ rfl
      obtain ⟨s0, e0, _, hs0⟩ := DataW.trod_int Try.underlying3 ht0
      obtain ⟨s1, e1, _, _⟩ := DataW.trod_int Try.underlying3 ht1
      obtain ⟨s2, e2, _, _⟩ := DataW.trod_string Try.underlying9 ht2
      obtain ⟨s3, e3, _, _⟩ := DataW.trod_string Try.underlying9 ht3
      obtain rfl : v0 = .int .i64 s0 := by simpa using e0
      obtain rfl : v1 = .int .i64 s1 := by simpa using e1
      obtain rfl : v2 = .string s2 := by simpa using e2
      obtain rfl : v3 = .string s3 := by simpa using e3
      obtain ⟨A, c, al, rfl, hac, hA, hcm, hra, hsh⟩ := open_attrs ht4 N fun z hz => hlt z (by
        rw [hx]
        exact List.mem_append_right _ (List.mem_flatMap.2 ⟨i, List.mem_range.2 (by omega), hp4 z hz⟩))
      refine ⟨⟨⟨s0, s1, s2, s3, al⟩, A, c⟩, fun j u hu => ?_, ⟨hac, hA, hcm, hra, hsh⟩, int_range hs0⟩
      match j, hu with
      | 0, hu => exact hc0.trans hu
      | 1, hu => exact hc1.trans hu
      | 2, hu => exact hc2.trans hu
      | 3, hu => exact hc3.trans hu
      | 4, hu => exact hc4.trans hu
      | j + 5, hu => exact absurd hu (by simp [cells])
    obtain ⟨l, hll, hq⟩ := list_of _ len' hrow
    refine ⟨some ⟨b, off, spot⟩, _, l, by rw [hll], by omega, hm, ⟨fun h0 => ?_, fun r hr => ?_⟩, fun r hr => ?_⟩
    · have hspot : spot = none := by
        have := World.cell?_spot ((hq 0 h0).1 0 _ rfl)
        simpa [Addr.add] using this
      subst hspot
      refine ⟨b, off, rfl, hlt (.cell b off) (by rw [hx]; exact List.mem_append_left _ (MemPlace.mem_row.2 ⟨0, by show 0 < _ * 5; omega, by simp⟩)), fun j hj k u hu => ?_⟩
      have := (hq j hj).1 k u hu
      rw [add_plain] at this
      rw [show off + j * 5 + k = off + (j * 5 + k) by omega]
      exact this
    · obtain ⟨j, hj, rfl⟩ := List.getElem_of_mem hr
      exact (hq j hj).2.1
    · obtain ⟨z, hz, rfl⟩ := List.mem_map.1 hr
      obtain ⟨j, hj, rfl⟩ := List.getElem_of_mem hz
      exact (hq j hj).2.2

/-- What eight fields of a call read as. -/
theorem op_of {vs : Nat → Value} {ys : Nat → DataW H × List MemPlace} {ns : Nat → Nat} {parts : List (DataW H)} (N : Nat) (hz : Within Try.prog 33 (.agg parts)) (hp : ∀ j < 8, parts[j]? = some (ys j).1) (hlt : ∀ z ∈ (ys 7).2, z.block < N)
    (t0 : DataW.trod enc Try.prog w base (fun _ => true) true (ns 0) 3 [vs 0] = some (ys 0)) (t1 : DataW.trod enc Try.prog w base (fun _ => true) true (ns 1) 3 [vs 1] = some (ys 1)) (t2 : DataW.trod enc Try.prog w base (fun _ => true) true (ns 2) 3 [vs 2] = some (ys 2)) (t3 : DataW.trod enc Try.prog w base (fun _ => true) true (ns 3) 3 [vs 3] = some (ys 3)) (t4 : DataW.trod enc Try.prog w base (fun _ => true) true (ns 4) 3 [vs 4] = some (ys 4))
    (t5 : DataW.trod enc Try.prog w base (fun _ => true) true (ns 5) 9 [vs 5] = some (ys 5)) (t6 : DataW.trod enc Try.prog w base (fun _ => true) true (ns 6) 9 [vs 6] = some (ys 6)) (t7 : DataW.trod enc Try.prog w base (fun _ => true) true (ns 7) 27 [vs 7] = some (ys 7)) :
    ∃ o : Op11, vs 0 = .int .i64 o.kind ∧ vs 1 = .int .i64 o.node ∧ vs 2 = .int .i64 o.other ∧ vs 3 = .int .i64 o.at_ ∧ vs 4 = .int .i64 o.what ∧ vs 5 = .string o.name ∧ vs 6 = .string o.value ∧ vs 7 = .slice o.A o.x.length o.c ∧ OpOk w N o := by
  obtain ⟨s0, e0, _, _⟩ := DataW.trod_int Try.underlying3 t0
  obtain ⟨s1, e1, _, _⟩ := DataW.trod_int Try.underlying3 t1
  obtain ⟨s2, e2, _, _⟩ := DataW.trod_int Try.underlying3 t2
  obtain ⟨s3, e3, _, _⟩ := DataW.trod_int Try.underlying3 t3
  obtain ⟨s4, e4, _, h4⟩ := DataW.trod_int Try.underlying3 t4
  obtain ⟨s5, e5, b5, _⟩ := DataW.trod_string Try.underlying9 t5
  obtain ⟨s6, e6, _, _⟩ := DataW.trod_string Try.underlying9 t6
  obtain ⟨A, c, l, e7, hlc, hcm, hrr, hh⟩ := open_rows_in t7 N hlt
  have z5 := hz.part Try.underlying33 (j := 5) rfl (hp 5 (by omega))
  rw [b5] at z5
  exact ⟨⟨s0, s1, s2, s3, s4, s5, s6, l, A, c⟩, by simpa using e0, by simpa using e1, by simpa using e2, by simpa using e3, by simpa using e4, by simpa using e5, by simpa using e6, e7, ⟨hlc, hcm⟩, hrr, hh, reach_le z5.str, int_range h4⟩
/-- An argument []Op, as the statement's row reads it. -/
theorem open_ops {v : Value} {d : DataW H} {p : List MemPlace} (hz : Within Try.prog 22 d) (hv : Value.okWide Try.prog w .any base 22 v)
    (h : ∃ fuel, DataW.trod enc Try.prog w 0 (fun _ => true) true fuel 22 v.cells.toList = some (d, p)) (hlt : ∀ z ∈ p, z.block < w.heap.size) : ∃ os, Script w w.heap.size v os ∧ True := by
  obtain ⟨a0, len0, cap0, rfl⟩ := okWide_slice Try.underlying22 hv
  obtain ⟨fuel, hf⟩ := h
  rcases open_rows_both Try.underlying22 Try.underlying33 (by kernel_rfl) (by kernel_rfl) hf with hcs | ⟨a, len, cap, m, Pl, D, sp, hcs, hl, hm, hmm, hx1, hx, hi⟩
  · simp [Value.cells] at hcs
    obtain ⟨rfl, rfl, rfl⟩ := hcs
    exact ⟨[], ⟨none, 0, rfl, Nat.le_refl _, Nat.zero_le _, fun h => absurd h (by simp), fun o ho => by cases ho⟩, trivial⟩
  · simp [Value.cells] at hcs
    obtain ⟨rfl, rfl, rfl⟩ := hcs
    simp only [if_true] at hmm
    subst hmm
    obtain ⟨b, off, spot⟩ := a
    have hx : p = _ := hx
    have hx1 : d = _ := hx1
    have hrow : ∀ i < len0, ∃ o : Op11, (∀ (j : Nat) (u : Value), (ocells o)[j]? = some u → w.cell? ((⟨b, off, spot⟩ : Addr).add (i * 8 + j)) = some u) ∧ OpOk w w.heap.size o := fun i hil => by
      obtain ⟨v0, y0, n0, q0, c0, _, D0, g0, t0⟩ := hi i (by omega) 0 _ rfl
      obtain ⟨v1, y1, n1, q1, c1, _, D1, g1, t1⟩ := hi i (by omega) 1 _ rfl
      obtain ⟨v2, y2, n2, q2, c2, _, D2, g2, t2⟩ := hi i (by omega) 2 _ rfl
      obtain ⟨v3, y3, n3, q3, c3, _, D3, g3, t3⟩ := hi i (by omega) 3 _ rfl
      obtain ⟨v4, y4, n4, q4, c4, _, D4, g4, t4⟩ := hi i (by omega) 4 _ rfl
      obtain ⟨v5, y5, n5, q5, c5, _, D5, g5, t5⟩ := hi i (by omega) 5 _ rfl
      obtain ⟨v6, y6, n6, q6, c6, _, D6, g6, t6⟩ := hi i (by omega) 6 _ rfl
      obtain ⟨v7, y7, n7, q7, c7, p7, D7, g7, t7⟩ := hi i (by omega) 7 _ rfl
      rw [D0] at D1 D2 D3 D4 D5 D6 D7
      injection D1 with D1
      injection D2 with D2
      injection D3 with D3
      injection D4 with D4
      injection D5 with D5
      injection D6 with D6
      injection D7 with D7
      subst D1 D2 D3 D4 D5 D6 D7
      have hzi : Within Try.prog 33 (D i) := by
        rw [hx1] at hz
        exact hz.elem Try.underlying22 (List.mem_map.2 ⟨i, List.mem_range.2 hil, rfl⟩)
      rw [D0] at hzi
      obtain ⟨o, e0, e1, e2, e3, e4, e5, e6, e7, ok⟩ := op_of (w := w) (enc := enc) (base := 0) (vs := fun k => #[v0, v1, v2, v3, v4, v5, v6, v7][k]?.getD v0) (ys := fun k => #[y0, y1, y2, y3, y4, y5, y6, y7][k]?.getD y0) (ns := fun k => #[n0, n1, n2, n3, n4, n5, n6, n7][k]?.getD n0) w.heap.size hzi
        (fun j hj => match j, hj with
          | 0, _ => g0
          | 1, _ => g1
          | 2, _ => g2
          | 3, _ => g3
          | 4, _ => g4
          | 5, _ => g5
          | 6, _ => g6
          | 7, _ => g7) (fun z hzz => hlt z (by
            rw [hx]
            exact List.mem_append_right _ (List.mem_flatMap.2 ⟨i, List.mem_range.2 (by omega), p7 z hzz⟩))) t0 t1 t2 t3 t4 t5 t6 t7
      have e0 : v0 = _ := e0
      have e1 : v1 = _ := e1
      have e2 : v2 = _ := e2
      have e3 : v3 = _ := e3
      have e4 : v4 = _ := e4
      have e5 : v5 = _ := e5
      have e6 : v6 = _ := e6
      have e7 : v7 = _ := e7
      subst e0 e1 e2 e3 e4 e5 e6 e7
      refine ⟨o, fun j u hu => ?_, ok⟩
      match j, hu with
      | 0, hu => exact c0.trans hu
      | 1, hu => exact c1.trans hu
      | 2, hu => exact c2.trans hu
      | 3, hu => exact c3.trans hu
      | 4, hu => exact c4.trans hu
      | 5, hu => exact c5.trans hu
      | 6, hu => exact c6.trans hu
      | 7, hu => exact c7.trans hu
      | j + 8, hu => exact absurd hu (by simp [ocells])
    obtain ⟨os, hll, hq⟩ := list_of _ len0 hrow
    refine ⟨os, ⟨some ⟨b, off, spot⟩, _, by rw [hll], by omega, hm, fun h0 => ?_, fun o ho => ?_⟩, trivial⟩
    · have hspot : spot = none := by
        have := World.cell?_spot ((hq 0 h0).1 0 _ rfl)
        simpa [Addr.add] using this
      subst hspot
      refine ⟨b, off, rfl, hlt (.cell b off) (by rw [hx]; exact List.mem_append_left _ (MemPlace.mem_row.2 ⟨0, by show 0 < _ * 8; omega, by simp⟩)), fun j hj k u hu => ?_⟩
      have := (hq j hj).1 k u hu
      rw [add_plain] at this
      rw [show off + j * 8 + k = off + (j * 8 + k) by omega]
      exact this
    · obtain ⟨j, hj, rfl⟩ := List.getElem_of_mem ho
      exact (hq j hj).2
end
end Go.Proofs.Ytmlchbohijolaaa.Ar
