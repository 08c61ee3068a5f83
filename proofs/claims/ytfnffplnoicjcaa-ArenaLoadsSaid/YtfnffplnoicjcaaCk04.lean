/-
  Stage 11: the reference's tree, Rows.
  Walks of stage 4: boltinglaw04.bound, boltingref04.Join; append of rows onto rows.
  The text of rows, and rows with their texts joined, in plain words.
  Slices of bytes of the call's own: what they hold, the string of them. For every stage.
  Walks of stage 4: joined, Text, textsEnd; boltingref04.Text.
  Walks of stage 4: textsEnd, Normal.
  Walks of stage 4: boltingref04.Normal.
  Walks of stage 4: sameAttrs, sameRow, Same; boltingref04.Attrs, Same.
  Walks of stage 4: sameRow, Same; boltingref04.Same.
  Walks of stage 4: boltingref04.Same.
  Walks of stage 4: placeOf.
  Walks of stage 4: nums; Kids and its reference out of range; Take, Drop.
  Walks of stage 4: Put and its reference.
  Walks of stage 4: the reference's Put.
  A value that reads as rows (Rv), and the contracts of Check, Same, Normal over it.
  Walks of stage 4: the fixed rows.
  Walks of stage 4: the fixed samples.
  Stage 4, plain: what right rows are; the parent in two ways.
  Arguments that are slices of structs, or structs, as a statement's row reads them: for rows, tokens and whatever has attributes.
  Stage 4: arguments that are rows, as the statement's row reads them.
  The laws of stage 4, walked: Checks.
  Stage 4: the contracts, over values that read as rows (Rv).
  Stage 11: the reference's Load.
  Stage 11, in plain words: rows gone over one by one, at each depth the last one.
  Stage 11: the reference's Clone.
  Attributes of the call's own; append of one.
-/
import Derived.Test.YtfnffplnoicjcaaCk03
import Derived.Test.YtfnffplnoicjcaaCk01
import Derived.StillTailTactics
import Derived.Deep.RegionHeld3
import Derived.Deep.CutRange
import Derived.Laws.StructEq
import Derived.Deep.RegionWith
import Derived.Test.YtfnffplnoicjcaaCk02
import Derived.Shelf.RegionOpen
import Derived.Laws.MakeOwn
import Derived.Deep.DeepCutAuto
import Derived.Test.YtfnffplnoicjcaaRows
import Derived.Deep.Slices
import Derived.Deep.Fields
import Derived.ChangeSame
import Derived.ProofKit
import Derived.Carry
import Derived.Lib.SmallJoins
import Derived.OwnWalk
namespace Go.Proofs.Ytfnffplnoicjcaa.Ar
set_option maxRecDepth 100000
set_option linter.unusedSimpArgs false
set_option linter.unusedVariables false
open Go.RowKit Ba
open Ro (At Ro Cw ros Rr Ow Nw Fr Att Ap Sh Ra cells acells app_num app_rows below_new infoI info_row len_cells rowV rowO Few Fits deeper deeper_zero Moved_any)
/-- append of other rows, which tells that nothing else changed. -/
theorem app_rowsG {ops : Array Oper} {rest : List Oper} {o : Oper} {a : Act} {Q : Exit → Act → World → Prop} (w : World) (hgd : o.guard = none) (s x : Operand)
    (ho : o.op = .call { callee := .builtin .append, args := #[s, x], argTypes := #[23, 23] })
    (N : Nat) (v : Value) (l m : List Cw) (B : Option Addr) (c : Nat) (hs : a.eval s = v) (hown : Ow N w v l) (hx : a.eval x = .slice B m.length c) (hr : Rr w w.heap.size B m) (hap : ∀ y ∈ m, Ap w N y) (h0 : 0 < m.length)
    (hl : l.length + m.length ≤ 2000000) (hN : N ≤ w.heap.size)
    (h : ∀ v' w', Ow N w' v' (l ++ m) → w.grownBy w' v.ownBlock → (∀ z, Fr N w z → Fr N w' z) → wpList Try.prog ops Q rest (a.put o.dst v') w') :
    wpList Try.prog ops Q (o :: rest) a w := by
  obtain ⟨i0, hi, hz0, hz1, hz2⟩ := info_parts info_row
  obtain ⟨b, off, rfl, _, hc⟩ := hr.1 h0
  have hcells : ∀ j u, (m.flatMap cells)[j]? = some u → w.cell? ((⟨b, off, none⟩ : Addr).add j) = some u := by
    intro j u hu
    have hj : j < (m.flatMap cells).length := (List.getElem?_eq_some_iff.1 hu).1
    rw [Ro.flat_len cells 5 len_cells] at hj
    rw [WideShapes.add_plain]
    have hq := hc (j / 5) (by omega) (j % 5) u (by rw [← Ro.flat_at cells 5 len_cells _ _ _ (by omega) (Nat.mod_lt _ (by decide)), show j / 5 * 5 + j % 5 = j from by omega]; exact hu)
    rw [show off + j / 5 * 5 + j % 5 = off + j from by omega] at hq
    exact hq
  refine wpList_append_own _ hgd s x 23 ho N 47 i0 _ 5 72 Try.underlying23 hi hz0 hz1 hz2 rfl (by decide) v l.length (l.flatMap cells) hs hown.1 _ m.length c (m.flatMap cells) hx (Ro.flat_len cells 5 len_cells _) hcells (by
    intro u hu
    obtain ⟨y, _, hu⟩ := List.mem_flatMap.1 hu
    exact Ro.cells_one y u hu) (by unfold maxLen; omega) (by omega) hN ?_
  intro v' w' ho2 hg2 _
  refine h v' w' ⟨?_, ?_⟩ hg2 fun z hz => hz.grown hown.1 hg2
  · rw [List.length_append, List.flatMap_append]
    exact ho2
  · intro z hz
    rcases List.mem_append.1 hz with hz | hz
    · exact ⟨(hown.2 z hz).1.grown hown.1 hg2 (hown.2 z hz).2, (hown.2 z hz).2.grown hown.1 hg2⟩
    · exact ⟨(hr.2 z hz).grown hown.1 hg2 (hap z hz), (hap z hz).grown hown.1 hg2⟩
theorem nw_grown {K N : Nat} {w w' : World} {v u : Value} {n : Nat} {xs : List Value} {ks : List Nat} (h : Nw K w u ks) (ho : w.ownsRow N 47 5 v n xs) (hg : w.grownBy w' v.ownBlock) : Nw K w' u ks := by
  refine owns_block h fun g hg' => ?_
  obtain ⟨_, hlt, cs, fr, hh⟩ := owns_lt h hg'
  refine hg.block g hlt fun e => ?_
  rcases h.2 with ⟨hv, _⟩ | ⟨g1, cap, cur, hv, _, hh1, _⟩
  · rw [hv] at hg'
    cases hg'
  rcases ho.2 with ⟨hv2, _⟩ | ⟨g2, cap2, cur2, hv2, _, hh2, _⟩
  · rw [hv2] at e
    cases e
  rw [hv] at hg'
  rw [hv2] at e
  obtain rfl : g1 = g := Option.some.inj hg'
  obtain rfl : g1 = g2 := Option.some.inj e
  exact type_ne hh1 hh2 (by decide) rfl
theorem mid_one {α : Type} (l : List α) (n : Nat) (h : n < l.length) : (l.take (n + 1)).drop n = [l[n]] := by
  rw [List.drop_take, show n + 1 - n = 1 from by omega, List.drop_eq_getElem_cons h]
  rfl
theorem flat_prefix {α β : Type} (f : α → List β) (ks : List α) (j : Nat) : ((ks.take j).flatMap f).length ≤ (ks.flatMap f).length := by
  have : ks.flatMap f = (ks.take j).flatMap f ++ (ks.drop j).flatMap f := by rw [← List.flatMap_append, List.take_append_drop]
  rw [this, List.length_append]
  omega
def TreeSays (M : List Nd) (p n : Nat) (d : Int) (w : World) : Prop :=
  Calls Try.prog 78 #[.pointer (some ⟨p, 0, none⟩), .int .i64 n, .int .i64 d] w fun e w' => ∃ v l, e = .returned v ∧ Ow w.heap.size w' v l ∧ (∀ x ∈ l, Fr w.heap.size w' x) ∧ ros l = tr M n d ∧ Below w.heap.size w w'
set_option maxRecDepth 100000 in
set_option maxHeartbeats 4000000 in
theorem tree_step {p N : Nat} {F : Nat → Prop} {M : List Nd} {rk : List Int} {gX cX gU cU gR cR : Nat} {lX : List Cw} (W : Wf M) (hm : M.length ≤ 5000) (hf : Few (M.map Nd.ro)) {h : Nat → Nat} (H : Hgt M h) (f : Nat) (ih : ∀ (n : Nat) (d : Int) (w : World), cnt M h n < f → n < M.length → RD w N F p M rk gX cX gU cU gR cR lX → -1 ≤ d → d + f ≤ 10000 → TreeSays M p n d w)
    (n : Nat) (d : Int) (w : World) (hc : cnt M h n < f + 1) (hn : n < M.length) (D : RD w N F p M rk gX cX gU cU gR cR lX) (hd0 : -1 ≤ d) (hd1 : d + (f + 1 : Nat) ≤ 10000) : TreeSays M p n d w := by
  have hx := D.rd.x
  have hl := D.len
  have hcap : M.length ≤ cX := by
    obtain ⟨g, c, hv, _, _, hnc, _⟩ := own_some5 D.rows W.pos
    injection hv with _ _ hc
    omega
  have hni : (n : Int) < M.length := by omega
  have hnc : n < cX := by omega
  have hnl : n < lX.length := by omega
  have hrr := (D.rd.rows).mid n (n + 1) cX (by omega) (by omega) (by omega) hnc
  rw [mid_one lX n hnl] at hrr
  simp only [Option.map_some, WideShapes.add_plain, Nat.zero_add] at hrr
  have hxr : lX[n].ro = (nd M n).ro := by
    obtain ⟨x, h0, h1, _⟩ := D.cellX hn
    rw [List.getElem?_eq_getElem hnl] at h0
    rw [Option.some.inj h0]
    exact h1
  have hmv := Moved_any (some ⟨gX, n * 5, none⟩) (cX - n) [lX[n]] d w hrr (by simp; omega) (by simp) (fun x hx => by
      obtain ⟨y, hy, rfl⟩ := List.mem_map.1 hx
      rw [List.mem_singleton] at hy
      rw [hy, hxr, nd_at hn]
      exact hf _ (List.mem_map.2 ⟨_, List.getElem_mem hn, rfl⟩)) (fun x hx => by
      obtain ⟨y, hy, rfl⟩ := List.mem_map.1 hx
      rw [List.mem_singleton] at hy
      rw [hy, hxr, W.flat n]
      omega)
  have hdep : deeper d (ros [lX[n]]) = [{ (nd M n).ro with depth := d }] := by
    show [({ lX[n].ro with depth := lX[n].ro.depth + d } : Ro)] = _
    rw [hxr, W.flat n, Int.zero_add]
  rw [hdep] at hmv
  obtain ⟨x0, hx0⟩ : ∃ x0, lX[n] = x0 := ⟨_, rfl⟩
  rw [hx0, List.length_singleton] at hmv
  have HMV := Lib.hid hmv; have HD := Lib.hid D; have HIH := Lib.hid ih; have HC := Lib.hid hc
  obtain ⟨ks, hks⟩ : ∃ ks, (nd M n).kids = ks := ⟨_, rfl⟩
  have htr := tr_eq W hn d
  have hshort := tr_short W hn d
  rw [hks] at htr
  rw [htr, List.length_cons] at hshort
  have HTR := Lib.hid htr; have HKS := Lib.hid hks
  have hkk : ∀ k ∈ ks, k < M.length ∧ cnt M h k < f := fun k hk => by
    rw [← hks] at hk
    have := cnt_kid H hk
    exact ⟨(H n k hk).1, by omega⟩
  have HKK := Lib.hid hkk
  have hkl : ks.length ≤ 5000 := by
    rw [← hks]
    exact Nat.le_trans (nodup_bound (W.nodup n) fun x hx => ((W.kid n x).1 hx).1) hm
  clear hx0 hxr hrr D ih hmv hdep htr hks hkk hc hnl hl
  unfold TreeSays
  go_enter Try.func78, Try.ntmps78
  go_wp2_with fail
  refine HMV.out.mono ?_
  rintro e w1 ⟨v1, l1, rfl, ho1, hf1, hr1, hb1⟩
  have HO1 := Lib.hid ho1; have HF1 := Lib.hid hf1; have HR1 := Lib.hid hr1; have HB1 := Lib.hid hb1
  have hki := refKids1 (n : Int) w1 (HD.out.below hb1).rd W (HD.out.below hb1).rf hm
  rw [kidsI_nat, HKS.out] at hki
  have HKI := Lib.hid hki
  clear ho1 hf1 hr1 hb1 hki HMV
  go_wp2_with fail
  refine HKI.out.mono ?_
  rintro e w2 ⟨vk, rfl, hnw, hb2⟩
  have HNW := Lib.hid hnw; have HB2 := Lib.hid hb2
  obtain ⟨Ak, ck, hvk, _⟩ := nw_at hnw
  subst hvk
  clear hnw hb2 HKI
  go_wp2
  go_loopw [7, 9] (fun uv i wr => ∃ (v : Value) (l : List Cw) (j : Nat), v = uv ∧ i = .int .i64 j ∧ j ≤ ks.length ∧ Ow w.heap.size wr v l ∧ (∀ x ∈ l, Fr w.heap.size wr x) ∧ ros l = { (nd M n).ro with depth := d } :: (ks.take j).flatMap (fun k => tr M k (d + 1)) ∧ Nw w1.heap.size wr (.slice Ak ks.length ck) ks ∧ Below w.heap.size w wr) (fun _ i _ => ks.length - (intOf i).toNat)
  case atStart => exact ⟨v1, l1, 0, rfl, rfl, Nat.zero_le _, HO1.out.below HB2.out, fun x hx => (HF1.out x hx).below HB2.out, HR1.out, HNW.out, bt HB1.out HB2.out⟩
  case round =>
    obtain ⟨v, l, j, rfl, rfl, hj, ho, hfr, hr, hnw, hbel⟩ := hrel
    have HO := Lib.hid ho; have HF := Lib.hid hfr; have HR := Lib.hid hr; have HN := Lib.hid hnw; have HB := Lib.hid hbel
    by_cases hjl : j < ks.length
    · obtain ⟨A', c', he, hat⟩ := nw_at hnw
      obtain ⟨b, hAk, _, _, hcell⟩ := hat (by omega)
      injection he with he1 he2 he3
      rw [← he1] at hAk
      subst hAk
      have hkc := hcell j hjl
      obtain ⟨k, hk⟩ : ∃ k, ks[j] = k := ⟨_, rfl⟩
      rw [hk] at hkc
      obtain ⟨hk1, hk2⟩ := HKK.out k (hk ▸ List.getElem_mem hjl)
      have hji : (j : Int) < ks.length := by omega
      have hcall := HIH.out k (d + 1) wr hk2 hk1 (HD.out.below hbel) (by omega) (by omega)
      unfold TreeSays at hcall
      have HCALL := Lib.hid hcall
      have hta : ks.take (j + 1) = ks.take j ++ [k] := by
        rw [List.take_add_one, List.getElem?_eq_getElem hjl, hk]
        rfl
      have hlen := congrArg List.length hr
      rw [Ro.len_ros, List.length_cons] at hlen
      have hpre := flat_prefix (fun k => tr M k (d + 1)) ks (j + 1)
      rw [hta, List.flatMap_append, List.length_append] at hpre
      have hsing : ([k].flatMap fun k => tr M k (d + 1)) = tr M k (d + 1) := by simp
      rw [hsing] at hpre
      have hlt : l.length + (tr M k (d + 1)).length ≤ 2000000 := by omega
      have hpos : 0 < (tr M k (d + 1)).length := by rw [tr_eq W hk1, List.length_cons]; omega
      have HTA := Lib.hid hta; have HSING := Lib.hid hsing
      have hwr : d + 1 ≤ 9223372036854775807 := by omega
      clear ho hfr hr hnw hbel hcall hta hcell hat hk hlen hpre hsing he1 he2 he3
      go_wp2_with fail
      refine HCALL.out.mono ?_
      rintro e w3 ⟨v3, l3, rfl, ho3, hf3, hr3, hb3⟩
      obtain ⟨A3, c3, rfl, _, _, _, hrr3⟩ := ho3.form
      have hl3 := congrArg List.length hr3
      rw [Ro.len_ros] at hl3
      have hszr := HB.out.size
      have HOw := Lib.hid (HO.out.below hb3); have HRR3 := Lib.hid hrr3
      have hap3 : ∀ y ∈ l3, Ap w3 w.heap.size y := fun y hy => ((hf3 y hy).mono hszr).ap
      have HAP := Lib.hid hap3
      have hlb : l.length + l3.length ≤ 2000000 := by omega
      have hpos3 : 0 < l3.length := by omega
      have hsz3 : w.heap.size ≤ w3.heap.size := by have := hb3.size; omega
      have HF3 := Lib.hid (show ∀ x ∈ l ++ l3, Fr w.heap.size w3 x from fun x hx => by
        rcases List.mem_append.1 hx with hx | hx
        · exact (HF.out x hx).below hb3
        · exact (hf3 x hx).mono hszr)
      have HN3 := Lib.hid (HN.out.below hb3); have HB3 := Lib.hid (bt HB.out hb3); have HR3 := Lib.hid hr3
      clear ho3 hf3 hr3 hb3 hrr3 hap3 HCALL hl3
      go_wp2_with (at_builtin; go_loud (refine app_rowsG w3 rfl (.tmp 29) (.tmp 37) rfl w.heap.size v l l3 A3 c3 rfl HOw.out rfl HRR3.out HAP.out hpos3 hlb hsz3 ?_); intro v4 w4 ho4 hg4 hfr4; have HO4 := Lib.hid ho4; have HG4 := Lib.hid hg4; have HF4 := Lib.hid hfr4; clear ho4 hg4 hfr4)
      go_roundw
      case rel =>
        refine ⟨v4, l ++ l3, j + 1, rfl, by go_num, by omega, HO4.out, fun x hx => HF4.out x (HF3.out x hx), ?_, nw_grown HN3.out HOw.out.1 HG4.out, HB3.out.grown HG4.out hsz3 fun b hb => (World.ownsRow.lt HOw.out.1 b hb).1⟩
        rw [Ro.ros_append, HR.out, HR3.out, HTA.out, List.flatMap_append, HSING.out]
        rfl
      case measure => (simp [intOf]; try omega)
    · obtain rfl : j = ks.length := by omega
      clear ho hfr hr hnw hbel
      go_wp2
      go_ret
      exact ⟨v, rfl, l, HO.out, HF.out, by rw [HR.out, List.take_length, HTR.out], HB.out⟩
theorem own_blk {K n s c : Nat} {w : World} {t : TypeId} {A : Option Addr} {xs : List Value} (h : w.ownsRow K t s (.slice A n c) n xs) {b : Nat} (hb : A.map Addr.block = some b) : K ≤ b := by
  rcases h.2 with ⟨hv, _⟩ | ⟨g, cap, cur, hv, hg, _⟩
  · injection hv with h1
    rw [h1] at hb
    cases hb
  · injection hv with h1
    rw [h1] at hb
    cases hb
    exact hg
theorem refTree1 {p N : Nat} {F : Nat → Prop} {M : List Nd} {rk : List Int} {gX cX gU cU gR cR : Nat} {lX : List Cw} (W : Wf M) (hm : M.length ≤ 5000) (hf : Few (M.map Nd.ro)) (n : Nat) (d : Int) (w : World) (D : RD w N F p M rk gX cX gU cU gR cR lX) (hn : n < M.length) (hd0 : -1 ≤ d) (hd1 : d ≤ 1000) : TreeSays M p n d w := by
  obtain ⟨h, H⟩ := W.hgt
  have key : ∀ (f n : Nat) (d : Int) (w : World), cnt M h n < f → n < M.length → RD w N F p M rk gX cX gU cU gR cR lX → -1 ≤ d → d + f ≤ 10000 → TreeSays M p n d w := by
    intro f
    induction f with
    | zero => intro n d w hc; omega
    | succ f ih => intro n d w hc hn D h0 h1; exact tree_step W hm hf H f ih n d w hc hn D h0 h1
  exact key M.length n d w (cnt_lt hn) hn D hd0 (by omega)
set_option maxRecDepth 100000 in
set_option maxHeartbeats 4000000 in
theorem refRows11 {p N : Nat} {F : Nat → Prop} {M : List Nd} (n : Int) (w : World) (D : Doc11 w N F p M) (W : Wf M) (hm : M.length ≤ 5000) (hf : Few (M.map Nd.ro)) :
    Calls Try.prog 67 #[.pointer (some ⟨p, 0, none⟩), .int .i64 n] w fun e w' => ∃ A c l, e = .returned (.slice A l.length c) ∧ l.length ≤ c ∧ c ≤ maxLen ∧ Rr w' w'.heap.size A l ∧ (∀ x ∈ l, Fr w.heap.size w' x) ∧ ros l = rowsM M n ∧ Below w.heap.size w w' ∧ ∀ b, A.map Addr.block = some b → w.heap.size ≤ b := by
  obtain ⟨rk, gX, cX, gU, cU, gR, cR, lX, D⟩ := D
  have hx := D.rd.x
  by_cases c1 : n < 0
  · have e1 : rowsM M n = [] := by unfold rowsM; rw [if_neg (by omega)]
    have HB := Lib.hid (below_new w (.cells #[] 47))
    rw [e1]
    clear D e1
    go_enter Try.func67, Try.ntmps67
    go_wp2
    go_ret
    exact ⟨_, _, [], rfl, Nat.zero_le _, Nat.zero_le _, Rr.nil _ _ _, fun x hx => (by cases hx), rfl, HB.out, fun b hb => (by cases hb; exact Nat.le_refl _)⟩
  by_cases c2 : (M.length : Int) ≤ n
  · have e1 : rowsM M n = [] := by unfold rowsM; rw [if_neg (by omega)]
    have HB := Lib.hid (below_new w (.cells #[] 47))
    rw [e1]
    clear D e1
    go_enter Try.func67, Try.ntmps67
    go_wp2
    go_ret
    exact ⟨_, _, [], rfl, Nat.zero_le _, Nat.zero_le _, Rr.nil _ _ _, fun x hx => (by cases hx), rfl, HB.out, fun b hb => (by cases hb; exact Nat.le_refl _)⟩
  obtain ⟨k, rfl⟩ : ∃ k : Nat, n = k := ⟨n.toNat, by omega⟩
  have hk : k < M.length := by omega
  have hki : (k : Int) < M.length := by omega
  by_cases c3 : k = 0
  · subst c3
    have hne : M ≠ [] := fun e => by rw [e] at hk; exact absurd hk (by simp)
    have HT := Lib.hid (refTree1 W hm hf 0 (-1) w D hk (by decide) (by decide))
    have HR := Lib.hid (rows_root W)
    have hlen : 0 < (tr M 0 (-1)).length := by rw [tr_eq W hk, List.length_cons]; omega
    have HLEN := Lib.hid hlen
    clear D hlen
    go_enter Try.func67, Try.ntmps67
    go_wp2_with fail
    refine HT.out.mono ?_
    rintro e w1 ⟨v, l, rfl, ho, hfr, hr, hb⟩
    obtain ⟨A, c, rfl, hc, hcm, _, hrr⟩ := ho.form
    have hll := HLEN.out
    rw [← hr, Ro.len_ros] at hll
    match l, hll with
    | a :: r, _ =>
    have hrr' := hrr.part 1 (r.length + 1) c (by omega) (by simp) hc
    rw [show ((a :: r).take (r.length + 1)).drop 1 = r from by simp] at hrr'
    have hrt : ros r = rowsM M 0 := by rw [HR.out, ← hr]; rfl
    obtain ⟨g, cc, hv, hgw, _, _, _⟩ := own_some5 ho.1 (by simp)
    have HGW := Lib.hid hgw
    clear hgw
    injection hv with hv1 hv2 hv3
    subst hv1 hv3
    rw [List.length_cons] at hc
    have HRR := Lib.hid hrr'; have HF := Lib.hid (show ∀ x ∈ r, Fr w.heap.size w1 x from fun x hx => hfr x (List.mem_cons_of_mem _ hx)); have HR1 := Lib.hid hrt; have HB1 := Lib.hid hb; have HC := Lib.hid hc; have HCM := Lib.hid hcm
    rw [List.length_cons]
    clear hrr hrr' hrt hfr hr hb hcm ho HT hv2 hll
    by_cases hc1 : c = 1
    · subst hc1
      have hrr1 := HRR.out
      rw [if_pos rfl] at hrr1
      have HRR1 := Lib.hid hrr1
      clear hrr1 HRR
      have hr0 : r = [] := List.eq_nil_of_length_eq_zero (by have := HC.out; omega)
      subst hr0
      go_wp2
      go_ret
      exact ⟨_, _, [], rfl, Nat.zero_le _, Nat.zero_le _, HRR1.out, HF.out, HR1.out, HB1.out, fun b hb => (by cases hb; exact HGW.out)⟩
    · have hrr1 := HRR.out
      rw [if_neg hc1] at hrr1
      simp only [Option.map_some, WideShapes.add_plain, Nat.zero_add, Nat.one_mul] at hrr1
      have HRR1 := Lib.hid hrr1
      clear hrr1 HRR
      go_wp2
      go_ret
      exact ⟨_, _, r, rfl, (by have := HC.out; omega), (by have := HCM.out; omega), HRR1.out, HF.out, HR1.out, HB1.out, fun b hb => (by cases hb; exact HGW.out)⟩
  · have hk0 : (0 : Int) < k := by omega
    have e1 : rowsM M k = tr M k 0 := by unfold rowsM; rw [if_pos ⟨by omega, hki⟩, if_neg (by omega)]; rfl
    rw [e1]
    have HT := Lib.hid (refTree1 W hm hf k 0 w D hk (by decide) (by decide))
    clear D e1
    go_enter Try.func67, Try.ntmps67
    go_wp2_with fail
    refine HT.out.mono ?_
    rintro e w1 ⟨v, l, rfl, ho, hfr, hr, hb⟩
    obtain ⟨A, c, rfl, hc, hcm, _, hrr⟩ := ho.form
    have HRR := Lib.hid hrr; have HF := Lib.hid hfr; have HR1 := Lib.hid hr; have HB1 := Lib.hid hb; have HC := Lib.hid hc; have HCM := Lib.hid hcm
    have HBL := Lib.hid (show ∀ b, A.map Addr.block = some b → w.heap.size ≤ b from fun b hb => own_blk ho.1 hb)
    clear hrr hfr hr hb hc hcm ho HT
    go_wp2
    go_ret
    exact ⟨A, c, l, rfl, HC.out, HCM.out, HRR.out, HF.out, HR1.out, HB1.out, HBL.out⟩
end Go.Proofs.Ytfnffplnoicjcaa.Ar

namespace Go.Proofs.Ytfnffplnoicjcaa.Ro
set_option maxRecDepth 100000
set_option linter.unusedVariables false
set_option linter.unusedSimpArgs false
open Go.RowKit Ba
theorem Ra.take {w : World} {N : Nat} {A : Option Addr} {l : List At} (h : Ra w N A l) (k : Nat) : Ra w N A (l.take k) := fun h0 => by
  rw [List.length_take] at h0
  obtain ⟨b, off, e, hb, hc⟩ := h (by omega)
  refine ⟨b, off, e, hb, fun j hj => ?_⟩
  rw [List.length_take] at hj
  rw [List.getElem_take]
  exact hc j (by omega)
abbrev cut (x : Cw) (ys : List At) : Cw := ⟨⟨x.ro.depth, x.ro.kind, x.ro.name, x.ro.data, ys⟩, x.A, x.c⟩
theorem Att.cut {w : World} {N : Nat} {x : Cw} (h : Att w N x) : Att w N (cut x (x.ro.attrs.take 8)) :=
  ⟨Nat.le_trans (List.length_take_le' _ _) h.1, h.2.1, h.2.2.1, h.2.2.2.1.take 8, fun a ha => h.2.2.2.2 a (List.mem_of_mem_take ha)⟩
theorem min_any (x : Nat) (m : Nat) (M : Int) (hM : M = m) (y : Nat) (hy : y = min x m) (w : World) : ∀ ts t, (Builtin.min_ ts t #[.int .i64 x, .int .i64 M]).run Try.prog w = .ok (.int .i64 y) w := by
  intro ts t
  rw [run_min_int2, hy]
  congr 2
  split <;> omega

set_option maxRecDepth 100000 in
set_option maxHeartbeats 1000000 in
theorem Join_any (A B : Option Addr) (ca cb : Nat) (a b : List Cw) (w : World) (hra : Rr w w.heap.size A a) (hrb : Rr w w.heap.size B b) (hca : a.length ≤ ca) (hcb : b.length ≤ cb) (hma : a.length ≤ 1000000) (hmb : b.length ≤ 1000000) (hfa : Few (ros a)) (hfb : Few (ros b)) (hda : Held (ros a)) (hdb : Held (ros b)) :
    Calls Try.prog 13 #[.slice A a.length ca, .slice B b.length cb] w fun e w' => ∃ v l', e = .returned v ∧ Ow w.heap.size w' v l' ∧ (∀ x ∈ l', Fr w.heap.size w' x) ∧ ros l' = ros a ++ ros b ∧ Below w.heap.size w w' := by
  go_enter Try.func13, Try.ntmps13
  go_wp2_with fail
  refine (Moved_any A ca a 0 w hra hca hma hfa hda.fits).mono ?_
  rintro e w1 ⟨v1, l1, rfl, ho1, hf1, hr1, hb1⟩
  rw [deeper_zero] at hr1
  have HO1 := Lib.hid ho1; have HF1 := Lib.hid hf1; have HR1 := Lib.hid hr1; have HB1 := Lib.hid hb1
  have hl1 : l1.length ≤ 1000000 := by rw [← len_ros, hr1, len_ros]; exact hma
  clear ho1 hf1 hr1 hb1
  go_wp2_with fail
  refine (Moved_any B cb b 0 w1 ((hrb.below HB1.out).more HB1.out.size) hcb hmb hfb hdb.fits).mono ?_
  rintro e w2 ⟨v2, l2, rfl, ho2, hf2, hr2, hb2⟩
  rw [deeper_zero] at hr2
  have hl2 : l2.length ≤ 1000000 := by rw [← len_ros, hr2, len_ros]; exact hmb
  obtain ⟨A2, c2, rfl, hc2, _, hn2, hrr2⟩ := ho2.form
  have HO2 := Lib.hid ho2; have HF2 := Lib.hid hf2; have HR2 := Lib.hid hr2; have HB2 := Lib.hid hb2; have HRR := Lib.hid hrr2; have HN := Lib.hid hn2
  clear ho2 hf2 hr2 hb2 hrr2 hn2
  go_wp2_with (at_builtin; refine app_rows w2 rfl (.tmp 8) (.tmp 10) rfl w.heap.size _ l1 l2 A2 c2 rfl (HO1.out.below HB2.out) rfl HN.out HRR.out (fun y hy => ((HF2.out y hy).mono HB1.out.size).ap) (by omega) (bt HB1.out HB2.out).size ?_; intro v3 w3 ho3 hk3 hf3)
  go_ret
  refine ⟨v3, l1 ++ l2, rfl, ho3, fun z hz => ?_, by rw [ros_append, HR1.out, HR2.out], hk3 w (bt HB1.out HB2.out)⟩
  rcases List.mem_append.1 hz with h | h
  · exact hf3 z ((HF1.out z h).below HB2.out)
  · exact hf3 z ((HF2.out z h).mono HB1.out.size)

end Go.Proofs.Ytfnffplnoicjcaa.Ro

namespace Go.Proofs.Ytfnffplnoicjcaa.Ro
set_option linter.unusedVariables false
set_option linter.unusedSimpArgs false
open Ba
end Go.Proofs.Ytfnffplnoicjcaa.Ro

namespace Go.Proofs.Ytfnffplnoicjcaa.Ba
set_option maxRecDepth 100000
set_option linter.unusedSimpArgs false
set_option linter.unusedVariables false
open Go.RowKit
def bc (b : UInt8) : Value := .int .u8 b.toNat
/-- v is a slice of bytes of the call's own that holds l. -/
def OwnB (N : Nat) (w : World) (v : Value) (l : List UInt8) : Prop := w.ownsRow N 5 1 v l.length (l.map bc)
theorem OwnB.alloc {N : Nat} {w : World} {v : Value} {l : List UInt8} (h : OwnB N w v l) (o : Obj) : OwnB N (w.alloc o) v l := World.ownsRow.alloc h o
theorem OwnB.below {N : Nat} {w0 w w' : World} {v : Value} {l : List UInt8} (h : OwnB N w v l) (hg : w.grownBy w' v.ownBlock) (hb : Below N w0 w) (hN : N ≤ w.heap.size) : Below N w0 w' :=
  hb.grown hg hN fun k hk => (h.lt k hk).1
theorem OwnB.keep {N M : Nat} {w w' : World} {v : Value} {l : List UInt8} (h : OwnB N w v l) (hb : Below M w w') (hM : w.heap.size ≤ M := by exact Nat.le_refl _) : OwnB N w' v l := by
  refine ⟨h.1, ?_⟩
  rcases h.2 with hn | ⟨g, cap, cur, hv, hg, hh, rest⟩
  · exact .inl hn
  · refine .inr ⟨g, cap, cur, hv, hg, ?_, rest⟩
    have hlt : g < w.heap.size := (Array.getElem?_eq_some_iff.1 hh).1
    rw [hb.block g (by omega)]
    exact hh
theorem OwnB.made (w : World) : OwnB w.heap.size (w.alloc (.cells #[] 5)) (.slice (some ⟨w.heap.size, 0, none⟩) 0 0) [] :=
  World.ownsRow_made w #[] 0 (Nat.le_refl _) (Nat.zero_le _) rfl
theorem OwnB.nil (N : Nat) (w : World) : OwnB N w (.slice none 0 0) [] := World.ownsRow_nil w N _ 1

end Go.Proofs.Ytfnffplnoicjcaa.Ba

namespace Go.Proofs.Ytfnffplnoicjcaa.Ro
set_option linter.unusedVariables false
set_option linter.unusedSimpArgs false
open Go.RowKit Ba
end Go.Proofs.Ytfnffplnoicjcaa.Ro

namespace Go.Proofs.Ytfnffplnoicjcaa.Ro
set_option linter.unusedVariables false
set_option linter.unusedSimpArgs false
open Go.RowKit Ba
end Go.Proofs.Ytfnffplnoicjcaa.Ro

namespace Go.Proofs.Ytfnffplnoicjcaa.Ro
set_option linter.unusedVariables false
set_option linter.unusedSimpArgs false
open Go.RowKit Ba
def sets (xs : List Value) : Nat → List Value → List Value
  | _, [] => xs
  | o, v :: r => sets (xs.set o v) (o + 1) r
theorem sets_end : ∀ (vs us F : List Value), us.length = vs.length → sets (F ++ us) F.length vs = F ++ vs
  | [], us, F, h => by
    have : us = [] := List.eq_nil_of_length_eq_zero h
    rw [this]
    rfl
  | v :: r, [], F, h => by cases h
  | v :: r, u :: us, F, h => by
    rw [sets, List.set_append_right F.length v (Nat.le_refl _), Nat.sub_self, List.set_cons_zero]
    have := sets_end r us (F ++ [v]) (by simpa using h)
    rw [List.length_append, List.append_assoc, List.append_assoc] at this
    exact this
theorem stored_many {N g n cap : Nat} {e : TypeId} {size : Nat} : ∀ (vs : List Value) (o : Nat) (w : World) (xs : List Value), w.ownsRow N e size (.slice (some ⟨g, 0, none⟩) n cap) n xs →
    (w.setCells g o vs).ownsRow N e size (.slice (some ⟨g, 0, none⟩) n cap) n (sets xs o vs) ∧ w.grownBy (w.setCells g o vs) (some g)
  | [], o, w, xs, h => ⟨h, World.grownBy.refl w _⟩
  | v :: r, o, w, xs, h => by
    obtain ⟨h1, h2⟩ := World.ownsRow.stored h o v
    obtain ⟨h3, h4⟩ := stored_many r (o + 1) _ _ h1
    exact ⟨h3, h2.trans h4⟩
/-- The last row of the call's own, stored anew. -/
theorem Ow.last {N g cap : Nat} {w : World} {init : List Cw} {y y' : Cw} (h : Ow N w (.slice (some ⟨g, 0, none⟩) (init.length + 1) cap) (init ++ [y])) (hy : Att w w.heap.size y') (ha : Ap w N y') :
    Ow N (w.setCells g (init.length * 5) (cells y')) (.slice (some ⟨g, 0, none⟩) (init.length + 1) cap) (init ++ [y']) ∧ w.grownBy (w.setCells g (init.length * 5) (cells y')) (some g) := by
  obtain ⟨h1, h2⟩ := h
  rw [List.length_append, List.flatMap_append] at h1
  have h1 : w.ownsRow N 47 5 (.slice (some ⟨g, 0, none⟩) (init.length + 1) cap) (init.length + 1) (init.flatMap cells ++ cells y) := by simpa using h1
  obtain ⟨h3, h4⟩ := stored_many (cells y') (init.length * 5) w _ h1
  rw [← flat_len cells 5 len_cells init, sets_end (cells y') (cells y) _ rfl, flat_len cells 5 len_cells init] at h3
  refine ⟨⟨?_, fun z hz => ?_⟩, h4⟩
  · rw [List.length_append, List.flatMap_append]
    simpa using h3
  · rcases List.mem_append.1 hz with hz | hz
    · have := h2 z (List.mem_append_left _ hz)
      exact ⟨this.1.grown h1 h4 this.2, this.2.grown h1 h4⟩
    · obtain rfl := List.mem_singleton.1 hz
      exact ⟨hy.grown h1 h4 ha, ha.grown h1 h4⟩
theorem Ow.there {N g cap : Nat} {w : World} {init : List Cw} {y : Cw} (h : Ow N w (.slice (some ⟨g, 0, none⟩) (init.length + 1) cap) (init ++ [y])) : w.there g (init.length * 5) 5 := by
  obtain ⟨h1, _⟩ := h
  rw [List.length_append, List.flatMap_append] at h1
  have h1 : w.ownsRow N 47 5 (.slice (some ⟨g, 0, none⟩) (init.length + 1) cap) (init.length + 1) (init.flatMap cells ++ cells y) := by simpa using h1
  intro j hj
  refine ⟨?_, h1.frozenAt _⟩
  rw [h1.cellAt _ (by omega), List.getElem?_eq_getElem (by rw [List.length_append, flat_len cells 5 len_cells, len_cells]; omega)]
  rfl

theorem Ow.pos {N : Nat} {w : World} {v : Value} {init : List Cw} {y : Cw} (h : Ow N w v (init ++ [y])) :
    ∃ g cap, v = .slice (some ⟨g, 0, none⟩) (init.length + 1) cap ∧ init.length + 1 ≤ cap ∧ cap ≤ maxLen ∧ N ≤ g ∧ g < w.heap.size ∧ w.rangeAt g (init.length * 5) (cells y) := by
  have hl : (init ++ [y]).length = init.length + 1 := by simp
  obtain ⟨A, c, hv, h1, h2, _, h4⟩ := h.form
  rcases h.1.2 with ⟨_, hn⟩ | ⟨g, cap, cur, hv', hg, hh, hn, hm, _⟩
  · omega
  · rw [hl] at hv' hn
    refine ⟨g, cap, hv', hn, hm, hg, (Array.getElem?_eq_some_iff.1 hh).1, ?_⟩
    obtain ⟨b, off, e, _, hc⟩ := h4.1 (by omega)
    rw [hv', hl] at hv
    injection hv with e1
    rw [← e1] at e
    injection e with e
    injection e with e2 e3
    subst e2 e3
    have := hc init.length (by omega)
    rw [Nat.zero_add] at this
    simpa using this

end Go.Proofs.Ytfnffplnoicjcaa.Ro

namespace Go.Proofs.Ytfnffplnoicjcaa.Ro
set_option maxRecDepth 100000
set_option linter.unusedVariables false
set_option linter.unusedSimpArgs false
open Go.RowKit Ba
theorem At.eta (a b : At) (h : ¬ a = b) : ¬ a.name = b.name ∨ (a.name = b.name ∧ ¬ a.value = b.value) := by
  by_cases hn : a.name = b.name
  · exact .inr ⟨hn, fun hv => h (by cases a; cases b; simp_all)⟩
  · exact .inl hn
theorem neq_L {a b : ByteArray} (h : ¬ a = b) : ¬ a.toList = b.toList := fun e => h (L_inj (by rw [← toList_L, ← toList_L, e]))
theorem dec_cons {α : Type} [DecidableEq α] {x y : α} {r s : List α} {V : Bool} (h : decide (x :: r = y :: s) = V) : (x = y → decide (r = s) = V) ∧ (¬ x = y → V = false) := by
  constructor
  · intro e
    rw [← h, e]
    simp
  · intro e
    rw [← h]
    exact decide_eq_false fun e2 => e (by injection e2)

set_option maxRecDepth 100000 in
set_option maxHeartbeats 1000000 in
theorem refAttrs_any (A B : Option Addr) (ca cb : Nat) (xs ys : List At) (w : World) (hra : Ra w w.heap.size A xs) (hrb : Ra w w.heap.size B ys) (hca : xs.length ≤ ca) (hcb : ys.length ≤ cb) (hma : ca ≤ maxLen) (hmb : cb ≤ maxLen) :
    Calls Try.prog 23 #[.slice A xs.length ca, .slice B ys.length cb] w fun e w' => e = .returned (.bool (decide (xs = ys))) ∧ ∃ n, w' = w.drewN n := by
  unfold maxLen at hma hmb
  by_cases hlen : xs.length = ys.length
  · obtain ⟨V, hV⟩ : ∃ V, decide (xs = ys) = V := ⟨_, rfl⟩
    rw [hV]
    have hne : ((xs.length : Int) != (ys.length : Int)) = false := by rw [hlen]; simp
    have HV := Lib.hid hV; have HL := Lib.hid hlen
    clear hV hlen
    go_enter Try.func23, Try.ntmps23
    go_wp2
    go_loopw [5] (fun i wr => ∃ k : Nat, i = .int .i64 k ∧ k ≤ xs.length ∧ decide (xs.drop k = ys.drop k) = V ∧ ∃ n, wr = w.drewN n) (fun i _ => xs.length - (intOf i).toNat)
    case atStart => exact ⟨0, rfl, by omega, HV.out, 0, rfl⟩
    case round =>
      clear HV
      obtain ⟨k, rfl, hk, hv, n, rfl⟩ := hrel
      by_cases hp : k < xs.length
      · obtain ⟨b1, o1, x, rfl, _, hdx, hx, _⟩ := hra.at_ k hp
        have hp2 : k < ys.length := by have := HL.out; omega
        obtain ⟨b2, o2, y, rfl, _, hdy, hy, _⟩ := hrb.at_ k hp2
        rw [hdx, hdy] at hv
        obtain ⟨v1, v2⟩ := dec_cons hv
        clear hv hdx hdy
        by_cases hxy : x = y
        · subst hxy
          have HV := Lib.hid (v1 rfl)
          clear v1 v2
          obtain ⟨f1, f2⟩ := range2 hx
          obtain ⟨f3, f4⟩ := range2 hy
          clear hx hy
          go_wp2
          go_quiet (fail)
          go_wp2
          go_roundw
          case rel => exact ⟨k + 1, by go_num, by omega, HV.out, _, rfl⟩
          case measure => simp [intOf]; omega
        · obtain rfl := v2 hxy
          clear v1 v2
          rcases At.eta x y hxy with h | ⟨h, h'⟩
          · have h1 := neq_L h
            clear h hxy
            obtain ⟨f1, f2⟩ := range2 hx
            obtain ⟨f3, f4⟩ := range2 hy
            clear hx hy
            go_wp2
            go_quiet (fail)
            go_wp2
            go_ret
            exact ⟨rfl, _, World.drewN_drewN _ _ _⟩
          · have h1 := neq_L h'
            have h2 : y.name = x.name := h.symm
            rw [h2] at hy
            clear h h' hxy h2
            obtain ⟨f1, f2⟩ := range2 hx
            obtain ⟨f3, f4⟩ := range2 hy
            clear hx hy
            go_wp2
            go_quiet (fail)
            go_wp2
            go_ret
            exact ⟨rfl, _, World.drewN_drewN _ _ _⟩
      · rw [List.drop_eq_nil_of_le (by omega), List.drop_eq_nil_of_le (by have := HL.out; omega)] at hv
        have HV := Lib.hid hv
        clear hv
        go_wp2
        go_ret
        exact ⟨ret_bool (by rw [← HV.out]; rfl), _, rfl⟩
  · have e : decide (xs = ys) = false := decide_eq_false fun e => hlen (by rw [e])
    rw [e]
    have hne : ((xs.length : Int) != (ys.length : Int)) = true := by rw [bne_iff_ne]; omega
    clear e hlen
    go_enter Try.func23, Try.ntmps23
    go_wp2
    go_ret
    exact ⟨rfl, 0, rfl⟩

end Go.Proofs.Ytfnffplnoicjcaa.Ro

namespace Go.Proofs.Ytfnffplnoicjcaa.Ro
set_option linter.unusedVariables false
set_option linter.unusedSimpArgs false
open Go.RowKit Ba
theorem ro_eq (x y : Ro) : decide (x = y) = ((x.depth == y.depth) && ((x.kind == y.kind) && ((x.name.toList == y.name.toList) && ((x.data.toList == y.data.toList) && decide (x.attrs = y.attrs))))) := by
  rw [eq_of_toList, eq_of_toList, Bool.eq_iff_iff]
  cases x
  cases y
  simp

theorem ros_drop_eq {l r : List Cw} {k : Nat} {x y : Cw} {V : Bool} (hx : l.drop k = x :: l.drop (k + 1)) (hy : r.drop k = y :: r.drop (k + 1)) (h : decide (ros (l.drop k) = ros (r.drop k)) = V) :
    (x.ro = y.ro → decide (ros (l.drop (k + 1)) = ros (r.drop (k + 1))) = V) ∧ (¬ x.ro = y.ro → V = false) := by
  rw [hx, hy, ros_cons, ros_cons] at h
  exact dec_cons h

end Go.Proofs.Ytfnffplnoicjcaa.Ro

namespace Go.Proofs.Ytfnffplnoicjcaa.Ro
set_option maxRecDepth 100000
set_option linter.unusedVariables false
set_option linter.unusedSimpArgs false
open Go.RowKit Ba
theorem two_boxes (w : World) (x y : Cw) : ((w.alloc (rowO x)).alloc (rowO y)).drew.rangeAt w.heap.size 0 (cells x) ∧ ((w.alloc (rowO x)).alloc (rowO y)).drew.rangeAt (w.heap.size + 1) 0 (cells y) ∧ Below w.heap.size w ((w.alloc (rowO x)).alloc (rowO y)).drew := by
  have hb : Below w.heap.size w ((w.alloc (rowO x)).alloc (rowO y)) := (below_new w (rowO x)).alloc (by simp) _
  refine ⟨fun j v hv => ?_, fun j v hv => ?_, below_dN hb 1⟩
  · rw [Nat.zero_add]
    refine Eq.trans ?_ hv
    exact (World.cell?_alloc_lt _ _ ⟨w.heap.size, j, none⟩ (by simp)).trans (box_at w x j)
  · rw [Nat.zero_add]
    refine Eq.trans ?_ hv
    have e : w.heap.size + 1 = (w.alloc (rowO x)).heap.size := by simp
    rw [e]
    exact box_at (w.alloc (rowO x)) y j
theorem range5z {w : World} {b : Nat} {x : Cw} (h : w.rangeAt b 0 (cells x)) : w.cell? ⟨b, 0, none⟩ = some (.int .i64 x.ro.depth) ∧ w.cell? ⟨b, 1, none⟩ = some (.int .i64 x.ro.kind) ∧ w.cell? ⟨b, 2, none⟩ = some (.string x.ro.name) ∧ w.cell? ⟨b, 3, none⟩ = some (.string x.ro.data) ∧ w.cell? ⟨b, 4, none⟩ = some (.slice x.A x.ro.attrs.length x.c) :=
  ⟨h 0 _ rfl, h 1 _ rfl, h 2 _ rfl, h 3 _ rfl, h 4 _ rfl⟩

set_option maxRecDepth 100000 in
set_option maxHeartbeats 1000000 in
theorem refSame_any (A B : Option Addr) (ca cb : Nat) (l r : List Cw) (w : World) (hl : Rr w w.heap.size A l) (hr : Rr w w.heap.size B r) (hca : l.length ≤ ca) (hcb : r.length ≤ cb) (hml : l.length ≤ 1000000) (hmr : r.length ≤ 1000000) :
    Calls Try.prog 9 #[.slice A l.length ca, .slice B r.length cb] w fun e w' => e = .returned (.bool (decide (ros l = ros r))) ∧ Below w.heap.size w w' := by
  by_cases hlen : l.length = r.length
  · obtain ⟨V, hV⟩ : ∃ V, decide (ros l = ros r) = V := ⟨_, rfl⟩
    rw [hV]
    have hne : ((l.length : Int) != (r.length : Int)) = false := by rw [hlen]; simp
    have HV := Lib.hid hV; have HL := Lib.hid hlen
    clear hV hlen
    go_enter Try.func9, Try.ntmps9
    go_wp2
    go_loopw [5] (fun i wr => ∃ k : Nat, i = .int .i64 k ∧ k ≤ l.length ∧ decide (ros (l.drop k) = ros (r.drop k)) = V ∧ Below w.heap.size w wr) (fun i _ => l.length - (intOf i).toNat)
    case atStart => exact ⟨0, rfl, by omega, HV.out, Below.refl _ _⟩
    case round =>
      clear HV
      obtain ⟨k, rfl, hk, hv, hbel⟩ := hrel
      have hsz := hbel.size
      by_cases hp : k < l.length
      · obtain ⟨b1, o1, x, rfl, _, hdx, hx, hxa, _⟩ := (hl.below hbel).at_ k hp
        have hp2 : k < r.length := by have := HL.out; omega
        obtain ⟨b2, o2, y, rfl, _, hdy, hy, hya, _⟩ := (hr.below hbel).at_ k hp2
        obtain ⟨v1, v2⟩ := ros_drop_eq hdx hdy hv
        have HXA := Lib.hid (hxa.more hsz); have HYA := Lib.hid (hya.more hsz)
        have V1 := Lib.hid v1; have V2 := Lib.hid v2
        obtain ⟨f0, f1, f2, f3, f4⟩ := range5 hx
        obtain ⟨g0, g1, g2, g3, g4⟩ := range5 hy
        clear hv hdx hdy hxa hya v1 v2 hx hy
        have ef0 := World.new_ne wr _ f0
        have eg0 := World.new_ne wr _ g0
        go_upto_region 6 with (fail)
        go_cut [6, 7] from 13 to 60 (fun s6 s7 wx => ∃ g h, s6 = .pointer (some ⟨g, 0, none⟩) ∧ s7 = .pointer (some ⟨h, 0, none⟩) ∧ wx.rangeAt g 0 (cells x) ∧ wx.rangeAt h 0 (cells y) ∧ Below wr.heap.size wr wx)
        case first =>
          go_region_held3 (fun w' => w'.cell? ⟨b1, o1 + k * 5, none⟩ = some (.int .i64 x.ro.depth) ∧ w'.cell? ⟨b1, o1 + k * 5 + 1, none⟩ = some (.int .i64 x.ro.kind) ∧ w'.cell? ⟨b1, o1 + k * 5 + 2, none⟩ = some (.string x.ro.name) ∧ w'.cell? ⟨b1, o1 + k * 5 + 3, none⟩ = some (.string x.ro.data) ∧ w'.cell? ⟨b1, o1 + k * 5 + 4, none⟩ = some (.slice x.A x.ro.attrs.length x.c) ∧ w'.cell? ⟨b2, o2 + k * 5, none⟩ = some (.int .i64 y.ro.depth) ∧ w'.cell? ⟨b2, o2 + k * 5 + 1, none⟩ = some (.int .i64 y.ro.kind) ∧ w'.cell? ⟨b2, o2 + k * 5 + 2, none⟩ = some (.string y.ro.name) ∧ w'.cell? ⟨b2, o2 + k * 5 + 3, none⟩ = some (.string y.ro.data) ∧ w'.cell? ⟨b2, o2 + k * 5 + 4, none⟩ = some (.slice y.A y.ro.attrs.length y.c)) (go_keep) (first | fail)
          all_goals go_wp2_with fail
          all_goals go_meet
          · obtain ⟨q1, q2, q3⟩ := two_boxes wr x y
            exact ⟨_, _, rfl, rfl, q1, q2, q3⟩
          · obtain ⟨q1, q2, q3⟩ := two_boxes wr y x
            exact ⟨_, _, rfl, rfl, q2, q1, q3⟩
        case rest =>
          obtain ⟨g, h, rfl, rfl, hg, hh, hb2⟩ := hcut
          have HX := Lib.hid ((HXA.out.2.2.2.1.below hb2).more hb2.size); have HY := Lib.hid ((HYA.out.2.2.2.1.below hb2).more hb2.size); have HB := Lib.hid (hbel.trans (hb2.mono hsz))
          have a1 := HXA.out.1; have a2 := HXA.out.2.2.1; have a3 := HYA.out.1; have a4 := HYA.out.2.2.1
          obtain ⟨c0, c1, c2, c3, c4⟩ := range5z hg
          obtain ⟨d0, d1, d2, d3, d4⟩ := range5z hh
          clear hg hh hb2 f0 f1 f2 f3 f4 g0 g1 g2 g3 g4 ef0 eg0
          cases h1 : x.ro.depth == y.ro.depth with
          | false =>
            obtain rfl := V2.out (fun e => by rw [e] at h1; simp at h1)
            have n1 : (x.ro.depth != y.ro.depth) = true := by rw [bne, h1]; rfl
            go_wp2
            go_ret
            exact ⟨rfl, HB.out⟩
          | true =>
          have n1 : (x.ro.depth != y.ro.depth) = false := by rw [bne, h1]; rfl
          cases h2 : x.ro.kind == y.ro.kind with
          | false =>
            obtain rfl := V2.out (fun e => by rw [e] at h2; simp at h2)
            have n2 : (x.ro.kind != y.ro.kind) = true := by rw [bne, h2]; rfl
            go_wp2
            go_ret
            exact ⟨rfl, HB.out⟩
          | true =>
          have n2 : (x.ro.kind != y.ro.kind) = false := by rw [bne, h2]; rfl
          cases h3 : x.ro.name.toList == y.ro.name.toList with
          | false =>
            obtain rfl := V2.out (fun e => by rw [e] at h3; simp at h3)
            go_wp2
            go_ret
            exact ⟨rfl, HB.out⟩
          | true =>
          cases h4 : x.ro.data.toList == y.ro.data.toList with
          | false =>
            obtain rfl := V2.out (fun e => by rw [e] at h4; simp at h4)
            go_wp2
            go_ret
            exact ⟨rfl, HB.out⟩
          | true =>
          by_cases h5 : x.ro.attrs = y.ro.attrs
          · have hxy : x.ro = y.ro := of_decide_eq_true (by rw [ro_eq, h1, h2, h3, h4, decide_eq_true h5]; rfl)
            have HV := Lib.hid (V1.out hxy)
            have H5 := Lib.hid h5
            clear hxy h5
            go_wp2_with fail
            refine (refAttrs_any x.A y.A x.c y.c x.ro.attrs y.ro.attrs wc HX.out HY.out a1 a3 a2 a4).mono ?_
            rintro e w3 ⟨rfl, n, rfl⟩
            rw [decide_eq_true H5.out]
            go_wp2
            go_roundw
            case rel => exact ⟨k + 1, by go_num, by omega, HV.out, below_dN HB.out _⟩
            case measure => simp [intOf]; omega
          · obtain rfl := V2.out (fun e => h5 (by rw [e]))
            have H5 := Lib.hid h5
            clear h5
            go_wp2_with fail
            refine (refAttrs_any x.A y.A x.c y.c x.ro.attrs y.ro.attrs wc HX.out HY.out a1 a3 a2 a4).mono ?_
            rintro e w3 ⟨rfl, n, rfl⟩
            rw [decide_eq_false H5.out]
            go_wp2
            go_ret
            exact ⟨rfl, below_dN HB.out _⟩
      · rw [List.drop_eq_nil_of_le (by omega), List.drop_eq_nil_of_le (by have := HL.out; omega)] at hv
        have HV := Lib.hid hv
        clear hv
        go_wp2
        go_ret
        exact ⟨ret_bool (by rw [← HV.out]; rfl), hbel⟩
  · have e : decide (ros l = ros r) = false := decide_eq_false fun e => hlen (by rw [← len_ros, e, len_ros])
    rw [e]
    have hne : ((l.length : Int) != (r.length : Int)) = true := by rw [bne_iff_ne]; omega
    clear e hlen
    go_enter Try.func9, Try.ntmps9
    go_wp2
    go_ret
    exact ⟨rfl, Below.refl _ _⟩

end Go.Proofs.Ytfnffplnoicjcaa.Ro

namespace Go.Proofs.Ytfnffplnoicjcaa.Ro
set_option linter.unusedVariables false
set_option linter.unusedSimpArgs false
open Go.RowKit Ba Go.Shelf
attribute [local go_sem] Oper.semAt_some

theorem box_own {W W' : World} {B n : Nat} {t : TypeId} {v : Value} {row : Option Nat} (h : Boxed W B t v) (hg : W.grownBy W' row) (hr : ∀ r, row = some r → n ≤ r ∧ ∃ o : Obj, W.heap[r]? = some o ∧ o.isCells = false) : Boxed W' B t v :=
  h.kept hg fun e => by
    obtain ⟨_, o, ho, hc⟩ := hr B e.symm
    rw [show W.heap[B]? = _ from h] at ho
    cases ho
    cases hc

/-- Where the kid of that number stands, or the next one behind all kids would. -/
def placeAt (l : List Ro) (i at_ : Int) : Int × Bool :=
  if 0 ≤ at_ ∧ at_ < (kids l i).length then (((kids l i)[at_.toNat]?.getD 0 : Nat), true) else (endOf l i, decide (((kids l i).length : Int) = at_))

/-- What the rounds leave: the boxes of the number that is sought, the results, and the count. -/
def Pl (w : World) (at_ : Int) (pre : List Nat) (W : World) : Prop :=
  Boxed W (w.heap.size) 3 (.int .i64 at_) ∧ Boxed W (w.heap.size + 1) 3 (.int .i64 0) ∧ Boxed W (w.heap.size + 1 + 1) 4 (.bool false) ∧ Boxed W (w.heap.size + 1 + 1 + 1) 3 (.int .i64 (pre.length : Nat)) ∧ Below w.heap.size w W ∧ w.heap.size + 1 + 1 + 1 + 1 + 1 + 1 ≤ W.heap.size ∧ ¬ (0 ≤ at_ ∧ at_ < pre.length)
def Px (w : World) (at_ : Int) (c : Code) (pre : List Nat) (W : World) : Prop :=
  c = .ret ∧ ∃ q x, pre = q ++ [x] ∧ at_ = (q.length : Nat) ∧ Boxed W (w.heap.size + 1) 3 (.int .i64 (x : Nat)) ∧ Boxed W (w.heap.size + 1 + 1) 4 (.bool true) ∧ Below w.heap.size w W
theorem Pl.own (w : World) (at_ : Int) (n : Nat) (hn : w.heap.size ≤ n) : OwnFrom n (Pl w at_) := fun s W W' row hs hg hr =>
  ⟨box_own hs.1 hg hr, box_own hs.2.1 hg hr, box_own hs.2.2.1 hg hr, box_own hs.2.2.2.1 hg hr, hs.2.2.2.2.1.grown hg hs.2.2.2.2.1.size (fun k hk => Nat.le_trans hn (hr k hk).1), Nat.le_trans hs.2.2.2.2.2.1 hg.size, hs.2.2.2.2.2.2⟩
theorem Px.own (w : World) (at_ : Int) (c : Code) (n : Nat) (hn : w.heap.size ≤ n) : OwnFrom n (Px w at_ c) := fun s W W' row hs hg hr => by
  obtain ⟨hc, q, x, e1, e2, h1, h2, h3⟩ := hs
  exact ⟨hc, q, x, e1, e2, box_own h1 hg hr, box_own h2 hg hr, h3.grown hg h3.size (fun k hk => Nat.le_trans hn (hr k hk).1)⟩
end Go.Proofs.Ytfnffplnoicjcaa.Ro

namespace Go.Proofs.Ytfnffplnoicjcaa.Ro
set_option linter.unusedVariables false
set_option linter.unusedSimpArgs false
open Go.RowKit Ba
theorem Rn.at_ {w : World} {N : Nat} {A : Option Addr} {l : List Nat} (h : Rn w N A l) (k : Nat) (hk : k < l.length) :
    ∃ b off x, A = some ⟨b, off, none⟩ ∧ b < N ∧ l.drop k = x :: l.drop (k + 1) ∧ w.cell? ⟨b, off + k, none⟩ = some (.int .i64 (x : Nat)) := by
  obtain ⟨b, off, e, hb, hc⟩ := h (by omega)
  exact ⟨b, off, l[k], e, hb, List.drop_eq_getElem_cons hk, hc k hk⟩

/-- The tree of row i, as a root. -/
def takeAt (l : List Ro) (i : Int) : List Ro := deeper (-(dep l i)) ((l.take (endOf l i)).drop i.toNat)
def dropAt (l : List Ro) (i : Int) : List Ro := l.take i.toNat ++ l.drop (endOf l i)

end Go.Proofs.Ytfnffplnoicjcaa.Ro

namespace Go.Proofs.Ytfnffplnoicjcaa.Ro
set_option maxRecDepth 100000
set_option linter.unusedVariables false
set_option linter.unusedSimpArgs false
open Go.RowKit Ba
/-- Is it what has the roots, or an element? -/
def elemAt (l : List Ro) (p : Int) : Bool := decide (p = -1) || (decide (0 ≤ p ∧ p < l.length) && decide (((l[p.toNat]?).map (·.kind)).getD 1 = 0))
def put (l : List Ro) (p at_ : Int) (sub : List Ro) : Int × List Ro :=
  if elemAt l p = false then (41, [])
  else if (placeAt l p at_).2 = false then (1, [])
  else if right sub = false then (40, [])
  else if exceeds sub (4096 - l.length) (60 - (dep l p + 1)) = true then (2, [])
  else (0, l.take (placeAt l p at_).1.toNat ++ deeper (dep l p + 1) sub ++ l.drop (placeAt l p at_).1.toNat)

theorem Rr.take {w : World} {N : Nat} {A : Option Addr} {l : List Cw} (h : Rr w N A l) (k : Nat) : Rr w N A (l.take k) := by
  refine ⟨fun h0 => ?_, fun x hx => h.2 x (List.mem_of_mem_take hx)⟩
  rw [List.length_take] at h0
  obtain ⟨b, off, e, hb, hcc⟩ := h.1 (by omega)
  refine ⟨b, off, e, hb, fun j hj => ?_⟩
  rw [List.length_take] at hj
  rw [List.getElem_take]
  exact hcc j (by omega)
theorem Rr.rest {w : World} {N : Nat} {A : Option Addr} {l : List Cw} (h : Rr w N A l) (k cap : Nat) (hk : k ≤ l.length) (hc : l.length ≤ cap) : Rr w N (if cap = k then A else A.map (·.add (k * 5))) (l.drop k) := by
  have := h.part k l.length cap hk (Nat.le_refl _) hc
  rwa [List.take_length] at this
end Go.Proofs.Ytfnffplnoicjcaa.Ro

namespace Go.Proofs.Ytfnffplnoicjcaa.Ro
set_option maxRecDepth 100000
set_option linter.unusedVariables false
set_option linter.unusedSimpArgs false
open Go.RowKit Ba
theorem Deep.held {l : List Ro} (h : Deep l) : Held l := fun x hx => by have := h x hx; omega

end Go.Proofs.Ytfnffplnoicjcaa.Ro

namespace Go.Proofs.Ytfnffplnoicjcaa.Ro
set_option maxRecDepth 100000
set_option linter.unusedVariables false
set_option linter.unusedSimpArgs false
open Go.RowKit Ba
/-- A value reads as rows. -/
def Rv (w : World) (v : Value) (l : List Cw) : Prop := ∃ A c, v = .slice A l.length c ∧ l.length ≤ c ∧ c ≤ maxLen ∧ Rr w w.heap.size A l ∧ Held (ros l)
theorem Rv.below {w w' : World} {v : Value} {l : List Cw} (h : Rv w v l) (hb : Below w.heap.size w w') : Rv w' v l := by
  obtain ⟨A, c, e, h1, h2, h3, h4⟩ := h
  exact ⟨A, c, e, h1, h2, (h3.below hb).more hb.size, h4⟩
theorem Ow.rv {N : Nat} {w : World} {v : Value} {l : List Cw} (h : Ow N w v l) (hh : Held (ros l)) : Rv w v l := by
  obtain ⟨A, c, e, h1, h2, _, h3⟩ := h.form
  exact ⟨A, c, e, h1, h2, h3, hh⟩
theorem check1 (v : Value) (x : List Cw) (w : World) (q : Int) (h : Rv w v x) (hl : x.length ≤ 1000000) (hq : check (ros x) = q) :
    Calls Try.prog 20 #[v] w fun e w' => e = .returned (.int .i64 q) ∧ Below w.heap.size w w' := by
  obtain ⟨A, c, rfl, hc, hm, hr, hh⟩ := h
  subst hq
  exact Check_any A c x w hr hc (by omega)
theorem refSame1 (a b : Value) (x y : List Cw) (w : World) (q : Bool) (ha : Rv w a x) (hb : Rv w b y) (hx : x.length ≤ 1000000) (hy : y.length ≤ 1000000) (hq : decide (ros x = ros y) = q) :
    Calls Try.prog 9 #[a, b] w fun e w' => e = .returned (.bool q) ∧ Below w.heap.size w w' := by
  obtain ⟨A, c, rfl, hc, hm, hr, _⟩ := ha
  obtain ⟨B, d, rfl, hd, hm2, hr2, _⟩ := hb
  subst hq
  exact refSame_any A B c d x y w hr hr2 hc hd (by omega) (by omega)
end Go.Proofs.Ytfnffplnoicjcaa.Ro

namespace Go.Proofs.Ytfnffplnoicjcaa.Ro
set_option linter.unusedVariables false
set_option linter.unusedSimpArgs false
open Go.RowKit Ba
def sa : ByteArray := { data := #[97] }
def sc : ByteArray := { data := #[99] }
end Go.Proofs.Ytfnffplnoicjcaa.Ro

namespace Go.Proofs.Ytfnffplnoicjcaa.Ro
set_option maxRecDepth 100000
set_option linter.unusedVariables false
set_option linter.unusedSimpArgs false
open Go.RowKit Ba
end Go.Proofs.Ytfnffplnoicjcaa.Ro

namespace Go.Proofs.Ytfnffplnoicjcaa.Ro
set_option linter.unusedVariables false
set_option linter.unusedSimpArgs false
open Go.RowKit Ba
/-- From one row to the next it goes at most one deeper, and only below an element. -/
theorem right_step : ∀ (l : List Ro) (m : Int), rightFrom m l = true → ∀ k x y, l[k]? = some x → l[k + 1]? = some y → y.depth ≤ x.depth + 1 ∧ (x.kind ≠ 0 → y.depth ≤ x.depth)
  | [], _, _, k, x, y, h, _ => by simp at h
  | a :: r, m, h, k, x, y, hx, hy => by
    rw [rightFrom] at h
    simp only [Bool.and_eq_true, decide_eq_true_eq] at h
    cases k with
    | zero =>
      obtain rfl : a = x := by simpa using hx
      have hy : r[0]? = some y := by simpa using hy
      cases r with
      | nil => simp at hy
      | cons b r =>
        obtain rfl : b = y := by simpa using hy
        have h2 := h.2
        rw [rightFrom] at h2
        simp only [Bool.and_eq_true, decide_eq_true_eq] at h2
        have := h2.1.1.2
        by_cases hk : a.kind = 0
        · rw [if_pos hk] at this
          exact ⟨by omega, fun e => absurd hk e⟩
        · rw [if_neg hk] at this
          exact ⟨by omega, fun _ => this⟩
    | succ k => exact right_step r _ h.2 k x y (by simpa using hx) (by simpa using hy)

theorem right_dep {l : List Ro} (h : right l = true) (k : Nat) (hk : k + 1 < l.length) : dep l ((k + 1 : Nat) : Int) ≤ dep l (k : Nat) + 1 := by
  have e1 : l[k]? = some l[k] := List.getElem?_eq_getElem (by omega)
  have e2 : l[k + 1]? = some l[k + 1] := List.getElem?_eq_getElem hk
  rw [dep_at e1, dep_at e2]
  exact (right_step l 0 h k _ _ e1 e2).1

theorem lastAt_snoc (l : List Ro) (d : Int) : ∀ (n k : Nat) (p : Int), lastAt l d p k (n + 1) = if dep l ((k + n : Nat) : Int) = d then ((k + n : Nat) : Int) else lastAt l d p k n
  | 0, k, p => by simp [lastAt]
  | n + 1, k, p => by
    rw [lastAt, lastAt_snoc l d n (k + 1), lastAt, show k + 1 + n = k + (n + 1) by omega]

theorem up_last {l : List Ro} (h : right l = true) (d : Int) : ∀ n : Nat, n ≤ l.length → (∀ k, n = k + 1 → d ≤ dep l (k : Nat) + 1) → up l d n = lastAt l (d - 1) (-1) 0 n
  | 0, _, _ => rfl
  | n + 1, hn, hd => by
    have h1 := hd n rfl
    rw [up, lastAt_snoc, Nat.zero_add]
    by_cases hlt : dep l (n : Nat) < d
    · rw [if_pos hlt, if_pos (by omega)]
    · rw [if_neg hlt, if_neg (by omega)]
      refine up_last h d n (by omega) fun k e => ?_
      subst e
      have := right_dep h k (by omega)
      omega

theorem parent_ref {l : List Ro} (h : right l = true) (i : Int) : refParent l i = parent l i := by
  rw [refParent, parent]
  cases hr : hasRow l i with
  | false => rfl
  | true =>
    rw [if_pos rfl, if_pos rfl]
    rw [hasRow, decide_eq_true_eq] at hr
    obtain ⟨j, rfl⟩ := Int.eq_ofNat_of_zero_le hr.1
    rw [Int.toNat_natCast]
    refine (up_last h _ j (by omega) fun k e => ?_).symm
    subst e
    exact right_dep h k (by omega)

theorem stops (p : Ro → Bool) : ∀ (l : List Ro) (z : Ro), (l.drop (l.takeWhile p).length).head? = some z → p z = false
  | [], z, h => by simp at h
  | x :: r, z, h => by
    by_cases hp : p x = true
    · rw [List.takeWhile_cons_of_pos hp, List.length_cons, List.drop_succ_cons] at h
      exact stops p r z h
    · rw [List.takeWhile_cons_of_neg hp] at h
      obtain rfl : x = z := by simpa using h
      simpa using hp
theorem takes (p : Ro → Bool) : ∀ (l : List Ro), ∀ x ∈ l.take (l.takeWhile p).length, p x = true
  | [], x, h => by simp at h
  | y :: r, x, h => by
    by_cases hp : p y = true
    · rw [List.takeWhile_cons_of_pos hp, List.length_cons, List.take_succ_cons] at h
      rcases List.mem_cons.1 h with rfl | h
      · exact hp
      · exact takes p r x h
    · rw [List.takeWhile_cons_of_neg hp] at h
      simp at h
end Go.Proofs.Ytfnffplnoicjcaa.Ro

namespace Go.Proofs.Ytfnffplnoicjcaa.Ro
set_option maxRecDepth 100000
set_option linter.unusedVariables false
set_option linter.unusedSimpArgs false
open Go.RowKit Ba Go.ChangeShapes Go.WideShapes Go.Deep
section
variable {H : Type} {enc : TypeId × Value → H} {P : Program} {w : World} {base : Nat} {spare : Nat → Bool} {held : Bool}
/-- A slice of structs of one-cell fields: its parts. -/
theorem open_rows_of {t e : TypeId} {fs : Array Field} {fuel : Nat} {cs : List Value} {x : DataW H × List MemPlace} (ht : P.underlying t = some (.slice e)) (he : P.underlying e = some (.struct fs))
    (hone : oneCellFields P fs = true) (hC : P.cellsOf e = fs.size) (h : DataW.trod enc P w base spare held fuel t cs = some x) :
    cs = [.slice none 0 0] ∨
    ∃ (a : Addr) (len cap m : Nat) (Pl : Nat → List MemPlace), cs = [.slice (some a) len cap] ∧ len ≤ cap ∧ cap ≤ maxLen ∧ m = (if spare a.block then cap else len) ∧
      x.2 = MemPlace.row a (m * fs.size) ++ (List.range m).flatMap Pl ∧
      ∀ i, i < m → ∀ (j : Nat) (f : Field), fs[j]? = some f → ∃ (v : Value) (y : DataW H × List MemPlace) (n : Nat), w.cell? (a.add (i * fs.size + j)) = some v ∧ (∀ z ∈ y.2, z ∈ Pl i) ∧ DataW.trod enc P w base spare held n f.type [v] = some y := by
  rcases open_slice ht h with ⟨h0, _⟩ | ⟨a, len, cap, m, n, D, Pl, hcs, hb, hl, hm, hmm, hx, hi⟩
  · exact .inl h0
  · refine .inr ⟨a, len, cap, m, Pl, hcs, hl, hm, hmm, by rw [hx, hC], fun i him j f hj => ?_⟩
    obtain ⟨cs', hc, ht'⟩ := hi i him
    rw [hC] at hc
    obtain ⟨ys, n', hn', hy, hlen, hyl, hf⟩ := DataW.trod_struct he ht'
    obtain ⟨_, hcl, hat⟩ := World.cells?_some hc
    simp only [Prod.mk.injEq] at hy
    obtain ⟨ho, hk⟩ := hone_of hone j f hj
    have hjl : j < fs.size := (Array.getElem?_eq_some_iff.1 hj).1
    have hcell := hat j hjl
    have hv : cs'[j]? = some (cs'[j]'(by omega)) := List.getElem?_eq_getElem (by omega)
    have h1 := hf j f hj
    rw [ho, hk] at h1
    have hone' : (cs'.drop j).take 1 = [cs'[j]'(by omega)] := by
      rw [List.drop_eq_getElem_cons (by omega)]
      rfl
    rw [hone'] at h1
    have hys : ys[j]? = some (ys[j]'(by omega)) := List.getElem?_eq_getElem (by omega)
    refine ⟨_, _, n', ?_, fun z hz => ?_, h1.trans hys⟩
    · rw [← Go.Deep.add_add, hcell, hv]
    · rw [hy.2]
      exact List.mem_flatMap.2 ⟨_, List.getElem_mem _, hz⟩
end

theorem list_of {α : Type} (Q : Nat → α → Prop) : ∀ n : Nat, (∀ i < n, ∃ x, Q i x) → ∃ l : List α, l.length = n ∧ ∀ i (h : i < l.length), Q i l[i]
  | 0, _ => ⟨[], rfl, fun i h => absurd h (by simp)⟩
  | n + 1, h => by
    obtain ⟨l, hl, hq⟩ := list_of Q n fun i hi => h i (by omega)
    obtain ⟨x, hx⟩ := h n (by omega)
    refine ⟨l ++ [x], by rw [List.length_append, hl]; rfl, fun i hi => ?_⟩
    rw [List.length_append, List.length_singleton] at hi
    by_cases e : i < l.length
    · rw [List.getElem_append_left e]
      exact hq i e
    · have : i = l.length := by omega
      subst this
      rw [List.getElem_append_right (Nat.le_refl _)]
      simp only [Nat.sub_self, List.getElem_cons_zero]
      rw [hl]; exact hx

section
variable {H : Type} {enc : TypeId × Value → H} {w : World} {base : Nat}
theorem open_attrs {fuel : Nat} {v : Value} {x : DataW H × List MemPlace} (h : DataW.trod enc Try.prog w base (fun _ => true) true fuel 45 [v] = some x) (N : Nat) (hlt : ∀ z ∈ x.2, z.block < N) :
    ∃ A c l, v = .slice A l.length c ∧ l.length ≤ c ∧ (A = none → c = 0) ∧ c ≤ maxLen ∧ Ra w N A l ∧ Sh l := by
  rcases open_rows_of Try.underlying45 Try.underlying62 (by kernel_rfl) (by kernel_rfl) h with hcs | ⟨a, len, cap, m, Pl, hcs, hl, hm, hmm, hx, hi⟩
  · obtain rfl : v = .slice none 0 0 := by simpa using hcs
    exact ⟨none, 0, [], rfl, Nat.le_refl _, fun _ => rfl, Nat.zero_le _, fun h => absurd h (by simp), fun _ h => by simp at h⟩
  · obtain rfl : v = .slice (some a) len cap := by simpa using hcs
    simp only [if_true] at hmm
    subst hmm
    obtain ⟨b, off, spot⟩ := a
    have hrow : ∀ i < len, ∃ t : At, w.cell? ((⟨b, off, spot⟩ : Addr).add (i * 2)) = some (.string t.name) ∧ w.cell? ((⟨b, off, spot⟩ : Addr).add (i * 2 + 1)) = some (.string t.value) ∧ t.name.size ≤ maxLen := fun i hil => by
      obtain ⟨v0, y0, n0, hc0, _, ht0⟩ := hi i (by omega) 0 _ rfl
      obtain ⟨v1, y1, n1, hc1, _, ht1⟩ := hi i (by omega) 1 _ rfl
      obtain ⟨s0, e0, _, hs0⟩ := DataW.trod_string Try.underlying9 ht0
      obtain ⟨s1, e1, _, _⟩ := DataW.trod_string Try.underlying9 ht1
      obtain rfl : v0 = .string s0 := by simpa using e0
      obtain rfl : v1 = .string s1 := by simpa using e1
      exact ⟨⟨s0, s1⟩, hc0, hc1, hs0⟩
    obtain ⟨l, hll, hq⟩ := list_of _ len hrow
    refine ⟨some ⟨b, off, spot⟩, m, l, by rw [hll], by omega, (fun e => by cases e), hm, fun h0 => ?_, fun t ht => ?_⟩
    · have hspot : spot = none := by
        have := World.cell?_spot (hq 0 h0).1
        simpa [Addr.add] using this
      subst hspot
      refine ⟨b, off, rfl, hlt (.cell b off) (by rw [hx]; exact List.mem_append_left _ (MemPlace.mem_row.2 ⟨0, by show 0 < m * 2; omega, by simp⟩)), fun j hj => ?_⟩
      obtain ⟨h1, h2, _⟩ := hq j hj
      rw [add_plain] at h1 h2
      intro k u hu
      match k, hu with
      | 0, hu => exact h1.trans hu
      | 1, hu => exact (show w.cell? ⟨b, off + j * 2 + 1, none⟩ = _ from h2).trans hu
      | k + 2, hu => exact absurd hu (by simp [acells])
    · obtain ⟨j, hj, rfl⟩ := List.getElem_of_mem ht
      exact (hq j hj).2.2
theorem int_range {n : Int} (h : (Lit.int .i64 n).wf = true) : -9223372036854775808 ≤ n ∧ n ≤ 9223372036854775807 := by
  have h1 : IntKind.i64.min = -9223372036854775808 := by decide
  have h2 : IntKind.i64.max = 9223372036854775807 := by decide
  simp [Lit.wf, h1, h2] at h
  omega
end

section
variable {H : Type} {enc : TypeId × Value → H} {P : Program} {w : World} {base : Nat} {spare : Nat → Bool} {held : Bool}
end

section
variable {H : Type} {enc : TypeId × Value → H} {P : Program} {w : World} {base : Nat} {spare : Nat → Bool} {held : Bool}
end

section
variable {H : Type} {enc : TypeId × Value → H} {w : World}
end

end Go.Proofs.Ytfnffplnoicjcaa.Ro

namespace Go.Proofs.Ytfnffplnoicjcaa.Ro
set_option maxRecDepth 100000
set_option linter.unusedVariables false
set_option linter.unusedSimpArgs false
open Go.RowKit Ba Go.ChangeShapes Go.WideShapes Go.Deep
section
variable {H : Type} {enc : TypeId × Value → H} {w : World} {base : Nat}
/-- An argument []api.Row, as the statement's row reads it. -/
theorem open_ros {v : Value} {d : DataW H} {p : List MemPlace} (hv : Value.okWide Try.prog w .any base 23 v)
    (h : ∃ fuel, DataW.trod enc Try.prog w 0 (fun _ => true) true fuel 23 v.cells.toList = some (d, p)) (hlt : ∀ z ∈ p, z.block < w.heap.size) :
    ∃ A c l, v = .slice A l.length c ∧ l.length ≤ c ∧ c ≤ maxLen ∧ Rr w w.heap.size A l ∧ Held (ros l) := by
  obtain ⟨a0, len, cap, rfl⟩ := okWide_slice Try.underlying23 hv
  obtain ⟨fuel, hf⟩ := h
  rcases open_rows_of Try.underlying23 Try.underlying47 (by kernel_rfl) (by kernel_rfl) hf with hcs | ⟨a, len', cap', m, Pl, hcs, hl, hm, hmm, hx, hi⟩
  · simp [Value.cells] at hcs
    obtain ⟨rfl, rfl, rfl⟩ := hcs
    exact ⟨none, 0, [], rfl, Nat.le_refl _, Nat.zero_le _, Rr.nil _ _ _, fun _ h => by simp [ros] at h⟩
  · simp [Value.cells] at hcs
    obtain ⟨rfl, rfl, rfl⟩ := hcs
    simp only [if_true] at hmm
    subst hmm
    obtain ⟨b, off, spot⟩ := a
    have hx : p = _ := hx
    have hrow : ∀ i < len, ∃ r : Cw, (∀ (j : Nat) (u : Value), (cells r)[j]? = some u → w.cell? ((⟨b, off, spot⟩ : Addr).add (i * 5 + j)) = some u) ∧ Att w w.heap.size r ∧ (-9223372036854775808 ≤ r.ro.depth ∧ r.ro.depth ≤ 9223372036854775807) := fun i hil => by
      obtain ⟨v0, y0, n0, hc0, _, ht0⟩ := hi i (by omega) 0 _ rfl
      obtain ⟨v1, y1, n1, hc1, _, ht1⟩ := hi i (by omega) 1 _ rfl
      obtain ⟨v2, y2, n2, hc2, _, ht2⟩ := hi i (by omega) 2 _ rfl
      obtain ⟨v3, y3, n3, hc3, _, ht3⟩ := hi i (by omega) 3 _ rfl
      obtain ⟨v4, y4, n4, hc4, hp4, ht4⟩ := hi i (by omega) 4 _ rfl
      obtain ⟨s0, e0, _, hs0⟩ := DataW.trod_int Try.underlying3 ht0
      obtain ⟨s1, e1, _, _⟩ := DataW.trod_int Try.underlying3 ht1
      obtain ⟨s2, e2, _, _⟩ := DataW.trod_string Try.underlying9 ht2
      obtain ⟨s3, e3, _, _⟩ := DataW.trod_string Try.underlying9 ht3
      obtain rfl : v0 = .int .i64 s0 := by simpa using e0
      obtain rfl : v1 = .int .i64 s1 := by simpa using e1
      obtain rfl : v2 = .string s2 := by simpa using e2
      obtain rfl : v3 = .string s3 := by simpa using e3
      obtain ⟨A, c, al, rfl, hac, hA, hcm, hra, hsh⟩ := open_attrs ht4 w.heap.size fun z hz => hlt z (by
        rw [hx]
        exact List.mem_append_right _ (List.mem_flatMap.2 ⟨i, List.mem_range.2 (by omega), hp4 z hz⟩))
      refine ⟨⟨⟨s0, s1, s2, s3, al⟩, A, c⟩, fun j u hu => ?_, ⟨hac, hA, hcm, hra, hsh⟩, int_range hs0⟩
      match j, hu with
      | 0, hu => exact hc0.trans hu
      | 1, hu => exact hc1.trans hu
      | 2, hu => exact hc2.trans hu
      | 3, hu => exact hc3.trans hu
      | 4, hu => exact hc4.trans hu
      | j + 5, hu => exact absurd hu (by simp [cells])
    obtain ⟨l, hll, hq⟩ := list_of _ len hrow
    refine ⟨some ⟨b, off, spot⟩, _, l, by rw [hll], by omega, hm, ⟨fun h0 => ?_, fun r hr => ?_⟩, fun r hr => ?_⟩
    · have hspot : spot = none := by
        have := World.cell?_spot ((hq 0 h0).1 0 _ rfl)
        simpa [Addr.add] using this
      subst hspot
      refine ⟨b, off, rfl, hlt (.cell b off) (by rw [hx]; exact List.mem_append_left _ (MemPlace.mem_row.2 ⟨0, by show 0 < _ * 5; omega, by simp⟩)), fun j hj k u hu => ?_⟩
      have := (hq j hj).1 k u hu
      rw [add_plain] at this
      rw [show off + j * 5 + k = off + (j * 5 + k) by omega]
      exact this
    · obtain ⟨j, hj, rfl⟩ := List.getElem_of_mem hr
      exact (hq j hj).2.1
    · obtain ⟨z, hz, rfl⟩ := List.mem_map.1 hr
      obtain ⟨j, hj, rfl⟩ := List.getElem_of_mem hz
      exact (hq j hj).2.2
theorem laidOut : laidOutB Try.prog = true := by kernel_rfl
theorem open_rv {v : Value} {d : DataW H} {p : List MemPlace} (hv : Value.okWide Try.prog w .any base 23 v)
    (h : ∃ fuel, DataW.trod enc Try.prog w 0 (fun _ => true) true fuel 23 v.cells.toList = some (d, p)) (hlt : ∀ z ∈ p, z.block < w.heap.size) : ∃ l, Rv w v l ∧ True := by
  obtain ⟨A, c, l, h⟩ := open_ros hv h hlt
  exact ⟨l, ⟨A, c, h⟩, trivial⟩
end

end Go.Proofs.Ytfnffplnoicjcaa.Ro

namespace Go.Proofs.Ytfnffplnoicjcaa.Ro
set_option linter.unusedVariables false
set_option linter.unusedSimpArgs false
open Go.RowKit Ba
end Go.Proofs.Ytfnffplnoicjcaa.Ro

namespace Go.Proofs.Ytfnffplnoicjcaa.Ro
set_option maxRecDepth 100000
set_option linter.unusedVariables false
set_option linter.unusedSimpArgs false
open Go.RowKit Ba
theorem deep_right : ∀ (l : List Ro) (m : Int), rightFrom m l = true → m ≤ 1000 → l.length ≤ 1000 → ∀ x ∈ l, 0 ≤ x.depth ∧ x.depth ≤ m + l.length
  | [], _, _, _, _, x, h => by cases h
  | y :: r, m, h, hm, hl, x, hx => by
    rw [rightFrom] at h
    simp only [Bool.and_eq_true, decide_eq_true_eq] at h
    obtain ⟨⟨⟨h1, h2⟩, _⟩, h4⟩ := h
    rcases List.mem_cons.1 hx with rfl | hx
    · exact ⟨h1, by omega⟩
    · rw [List.length_cons] at hl ⊢
      by_cases hk : y.kind = 0
      · rw [if_pos hk] at h4
        by_cases hm2 : y.depth + 1 ≤ 1000
        · have := deep_right r _ h4 hm2 (by omega) x hx
          exact ⟨this.1, by omega⟩
        · have := deep_all r _ h4 x hx
          exact ⟨this.1, by omega⟩
      · rw [if_neg hk] at h4
        have := deep_right r _ h4 (by omega) (by omega) x hx
        exact ⟨this.1, by omega⟩
where
  deep_all : ∀ (l : List Ro) (m : Int), rightFrom m l = true → ∀ x ∈ l, 0 ≤ x.depth ∧ x.depth ≤ m + l.length
    | [], _, _, x, h => by cases h
    | y :: r, m, h, x, hx => by
      rw [rightFrom] at h
      simp only [Bool.and_eq_true, decide_eq_true_eq] at h
      obtain ⟨⟨⟨h1, h2⟩, _⟩, h4⟩ := h
      rcases List.mem_cons.1 hx with rfl | hx
      · exact ⟨h1, by omega⟩
      · rw [List.length_cons]
        have := deep_all r _ h4 x hx
        by_cases hk : y.kind = 0
        · rw [if_pos hk] at this
          exact ⟨this.1, by omega⟩
        · rw [if_neg hk] at this
          exact ⟨this.1, by omega⟩
theorem right_deep {l : List Ro} (h : right l = true) (hl : l.length ≤ 1000) : Deep l := fun x hx => by
  have := deep_right l 0 h (by omega) hl x hx
  exact ⟨this.1, by omega⟩
theorem refCheck1 (v : Value) (x : List Cw) (w : World) (q : Int) (h : Rv w v x) (hl : x.length ≤ 1000) (hq : check (ros x) = q) :
    Calls Try.prog 62 #[v] w fun e w' => e = .returned (.int .i64 q) ∧ Below w.heap.size w w' := by
  obtain ⟨A, c, rfl, hc, hm, hr, hh⟩ := h
  subst hq
  exact refCheck_any A c x w hr hc (by omega)
theorem refParent1 (v : Value) (x : List Cw) (i : Int) (w : World) (q : Int) (h : Rv w v x) (hl : x.length ≤ 1000) (hr : right (ros x) = true) (hq : parent (ros x) i = q) :
    Calls Try.prog 63 #[v, .int .i64 i] w fun e w' => e = .returned (.int .i64 q) ∧ Below w.heap.size w w' := by
  obtain ⟨A, c, rfl, hc, hm, hrr, hh⟩ := h
  subst hq
  rw [← parent_ref hr]
  exact (refParent_any A c x i w hrr hc (by omega) (right_deep hr (by rw [len_ros]; exact hl))).mono fun e w' ⟨he, n, hn⟩ => ⟨he, by rw [hn]; exact Ba.below_drewN w n⟩
theorem Nw.nil (N : Nat) (w : World) : Nw N w (.slice none 0 0) [] := World.ownsRow_nil w N _ 1
end Go.Proofs.Ytfnffplnoicjcaa.Ro

namespace Go.Proofs.Ytfnffplnoicjcaa.Ar
set_option maxRecDepth 100000
set_option linter.unusedSimpArgs false
set_option linter.unusedVariables false
open Go.RowKit Ba
open Ro (At Ro Cw ros Rr Ow Nw Fr Att Ap Sh Ra Rv Held cells acells app_num app_rows below_new infoI info_row len_cells rowV rowO Few Fits deeper check parent right refCheck1 refParent1 nv)
/-- append of one number, which tells that nothing else changed. -/
theorem app_numG {ops : Array Oper} {rest : List Oper} {o : Oper} {a : Act} {Q : Exit → Act → World → Prop} (w : World) (hgd : o.guard = none) (s x : Operand)
    (ho : o.op = .call { callee := .builtin .append, args := #[s, x], argTypes := #[29, 29] })
    (N : Nat) (v : Value) (l : List Nat) (y : Nat) (hs : a.eval s = v) (hown : Nw N w v l) (g : Nat) (hg : g = w.heap.size) (hx : a.eval x = .slice (some ⟨g, 0, none⟩) 1 1)
    (hl : l.length ≤ 2000000) (hN : N ≤ w.heap.size)
    (h : ∀ v' w', Nw N w' v' (l ++ [y]) → w.grownBy w' v.ownBlock → (∀ b, v'.ownBlock = some b → v.ownBlock = some b ∨ w.heap.size ≤ b) → wpList Try.prog ops Q rest (a.put o.dst v') w') :
    wpList Try.prog ops Q (o :: rest) a (w.alloc (.cells #[.int .i64 (y : Nat)] 3)) := by
  subst hg
  obtain ⟨i0, hi, hz0, hz1, hz2⟩ := info_parts infoI
  have hown' : Nw N (w.alloc (.cells #[.int .i64 (y : Nat)] 3)) v l := hown.alloc _
  have hsz : (w.alloc (.cells #[.int .i64 (y : Nat)] 3)).heap.size = w.heap.size + 1 := by simp
  refine wpList_append_lies _ hgd s x 29 ho N 3 i0 (.int .i64 0) 1 8 Try.underlying29 hi hz0 hz1 hz2 rfl (by decide) v l.length (l.map nv) hs hown' ⟨w.heap.size, 0, none⟩ 1 1 [.int .i64 (y : Nat)] hx rfl (cell_one_new _ _ _) (by intro u hu; simp at hu; subst hu; rfl) (by decide) (by unfold maxLen; omega) (by omega) (by omega) _ rfl ?_
  intro g' c' w' ho2 hg2 hl2 _
  refine h _ w' ?_ ((World.grownBy_alloc w _ _).trans hg2) fun b hb => ?_
  · unfold Nw
    rw [List.length_append, List.map_append]
    exact ho2
  · obtain rfl : g' = b := Option.some.inj hb
    rcases hl2 with h | h
    · exact .inl h
    · exact .inr (by rw [h, hsz]; omega)
theorem Doc11.grown {w w' : World} {N : Nat} {F : Nat → Prop} {p : Nat} {M : List Nd} {row : Option Nat} (h : Doc11 w N F p M) (hg : w.grownBy w' row) (hn : ∀ b, row = some b → ¬ F b) : Doc11 w' N F p M := by
  obtain ⟨rk, gX, cX, gU, cU, gR, cR, lX, D⟩ := h
  exact ⟨rk, gX, cX, gU, cU, gR, cR, lX, D.touch (G := fun b => row = some b) (Touch.grown hg fun b hb => hb) fun b hf hb => hn b hb hf⟩
theorem Doc11.bd {w : World} {N : Nat} {F : Nat → Prop} {p : Nat} {M : List Nd} (h : Doc11 w N F p M) : ∀ b, F b → b < w.heap.size := by
  obtain ⟨rk, gX, cX, gU, cU, gR, cR, lX, D⟩ := h
  exact D.bd
theorem nw_touch {K : Nat} {F : Nat → Prop} {w w' : World} {u : Value} {ks : List Nat} (h : Nw K w u ks) (t : Touch F w w') (hn : ∀ b, u.ownBlock = some b → ¬ F b) : Nw K w' u ks := owns_block h fun g hg => t.block g (owns_lt h hg).2.1 (hn g hg)
def rootsTo (first : Nat) (par : Nat → Int) : Nat → List Nat
  | 0 => []
  | i + 1 => if par i < 0 then rootsTo first par i ++ [first + i] else rootsTo first par i
theorem roots_len (first : Nat) (par : Nat → Int) : ∀ i, (rootsTo first par i).length ≤ i
  | 0 => Nat.le_refl _
  | i + 1 => by
    have := roots_len first par i
    rw [rootsTo]
    split
    · rw [List.length_append, List.length_singleton]
      omega
    · omega
def loadE (M : List Nd) (l : List Ro) : Int := if check l = 0 then (if 4096 < M.length + l.length then 2 else 0) else check l
def parI (l : List Ro) (i : Nat) : Int := parent l i
theorem next_grown {w w3 w4 : World} {F F2 : Nat → Prop} {row : Option Nat} (h : Next w w3 F F2) (hg : w3.grownBy w4 row) (hr : ∀ b, row = some b → w.heap.size ≤ b) : Next w w4 F F2 := by
  have hs := hg.size
  refine ⟨⟨hg.os.trans h.1.os, hg.tape.trans h.1.tape, hg.output.trans h.1.output, Nat.le_trans h.1.size hs, fun b hb hf => ?_⟩, h.2.1, fun b hb => ?_⟩
  · refine (hg.block b (Nat.lt_of_lt_of_le hb h.1.size) fun e => ?_).trans (h.1.block b hb hf)
    have := hr b e.symm
    omega
  · rcases h.2.2 b hb with h | h
    · exact .inl h
    · exact .inr ⟨h.1, by omega⟩
theorem check_right {l : List Ro} (h : check l = 0) : right l = true := by
  unfold check at h
  cases h2 : right l with
  | true => rfl
  | false =>
    rw [h2] at h
    split at h <;> revert h <;> decide
theorem upr_lt (l : List Ro) (d : Int) : ∀ n : Nat, Ro.up l d n < n ∧ -1 ≤ Ro.up l d n
  | 0 => by
    rw [Ro.up]
    omega
  | n + 1 => by
    have := upr_lt l d n
    rw [Ro.up]
    split <;> omega
theorem par_lt (l : List Ro) {j : Nat} (hj : j < l.length) : parI l j < j ∧ -1 ≤ parI l j := by
  unfold parI parent
  split
  · have := upr_lt l (Ro.dep l (j : Int)) (j : Int).toNat
    rw [Int.toNat_natCast] at this
    exact this
  · omega
theorem kids_bound {M : List Nd} (W : Wf M) (hm : M.length ≤ 5000) (n : Nat) : (nd M n).kids.length ≤ 5000 := Nat.le_trans (nodup_bound (W.nodup n) fun x hx => ((W.kid n x).1 hx).1) hm
set_option maxRecDepth 100000 in
set_option maxHeartbeats 4000000 in
theorem refLoad11 {p N : Nat} {F : Nat → Prop} {M : List Nd} (v : Value) (x : List Cw) (w : World) (D : Doc11 w N F p M) (W : Wf M) (hm : M.length ≤ 4500) (hv : ∀ w', Touch F w w' → Rv w' v x) (hxl : x.length ≤ 400) (hfw : Few (ros x)) :
    Calls Try.prog 39 #[.pointer (some ⟨p, 0, none⟩), v] w fun e w' => ∃ u, e = .returned (.tuple #[u, .int .i64 (loadE M (ros x))]) ∧ Nw w.heap.size w' u (if loadE M (ros x) = 0 then rootsTo M.length (parI (ros x)) x.length else []) ∧ ∃ F', Doc11 w' N F' p (if loadE M (ros x) = 0 then loadTo M.length (ros x) (parI (ros x)) M x.length else M) ∧ Next w w' F F' ∧ ∀ b, u.ownBlock = some b → ¬ F' b := by
  have D0 := Lib.hid D
  have hv0 := hv w (Touch.refl F w)
  obtain ⟨A, c, rfl, hc, hcm, hrr, hheld⟩ := hv0
  have HV := Lib.hid hv; have HHE := Lib.hid hheld
  have hlr : (ros x).length = x.length := Ro.len_ros x
  have HLR := Lib.hid hlr
  have hb1 := below_new w (.cells #[] 3)
  have hv1 := hv _ (Touch.of_below hb1)
  obtain ⟨q, hq⟩ : ∃ q, check (ros x) = q := ⟨_, rfl⟩
  have hck := refCheck1 _ x _ q hv1 (by omega) hq
  have HCK := Lib.hid hck
  have HB1 := Lib.hid hb1
  have HNM := Lib.hid (Ro.Nw.made w)
  have hbd := D.bd
  have HBD := Lib.hid hbd
  by_cases hq0 : q = 0
  · subst hq0
    have hR := check_right hq
    have HQ := Lib.hid hq; have HR := Lib.hid hR
    have HD := Lib.hid D
    by_cases hbig : 4096 < M.length + x.length
    · have e1 : loadE M (ros x) = 2 := by unfold loadE; rw [hq, if_pos rfl, hlr, if_pos hbig]
      rw [e1, if_neg (by decide), if_neg (by decide)]
      clear hck hb1 hv1 hq hrr hheld hv hlr e1 D hbd hR
      go_enter Try.func39, Try.ntmps39
      go_wp2_with fail
      refine HCK.out.mono ?_
      rintro e w1 ⟨rfl, hb⟩
      have HB := Lib.hid (bt HB1.out hb)
      have HN := Lib.hid (HNM.out.below hb)
      have hx1 : ∃ gX cX, w1.cell? ⟨p, 0, none⟩ = some (.slice (some ⟨gX, 0, none⟩) M.length cX) := by
        obtain ⟨rk, gX, cX, gU, cU, gR, cR, lX, D1⟩ := HD.out.below HB.out
        exact ⟨gX, cX, D1.rd.x⟩
      obtain ⟨gX, cX, hx1⟩ := hx1
      clear hb
      go_wp2
      go_ret2
      refine ⟨_, rfl, HN.out, F, D0.out.below HB.out, Next.of_below HB.out, fun b hb hf => ?_⟩
      obtain rfl : w.heap.size = b := Option.some.inj hb
      exact absurd (HBD.out _ hf) (Nat.lt_irrefl _)
    · have e1 : loadE M (ros x) = 0 := by unfold loadE; rw [hq, if_pos rfl, hlr, if_neg hbig]
      rw [e1, if_pos rfl, if_pos rfl]
      have HW := Lib.hid W; have HFW := Lib.hid hfw
      clear hck hb1 hv1 hq hrr hheld hv hlr e1 D hbd hR W hfw
      go_enter Try.func39, Try.ntmps39
      go_wp2_with fail
      refine HCK.out.mono ?_
      rintro e w1 ⟨rfl, hb⟩
      have HB := Lib.hid (bt HB1.out hb)
      have HN := Lib.hid (HNM.out.below hb)
      have hx1 : ∃ gX cX, w1.cell? ⟨p, 0, none⟩ = some (.slice (some ⟨gX, 0, none⟩) M.length cX) := by
        obtain ⟨rk, gX, cX, gU, cU, gR, cR, lX, D1⟩ := HD.out.below HB.out
        exact ⟨gX, cX, D1.rd.x⟩
      obtain ⟨gX, cX, hx1⟩ := hx1
      clear hb
      go_wp2
      go_loopw [6, 9] (fun ur ui wr => ∃ (j : Nat) (u : Value) (Fj : Nat → Prop), u = ur ∧ ui = .int .i64 j ∧ j ≤ x.length ∧ Nw w.heap.size wr u (rootsTo M.length (parI (ros x)) j) ∧ Doc11 wr N Fj p (loadTo M.length (ros x) (parI (ros x)) M j) ∧ Next w wr F Fj ∧ ∀ b, u.ownBlock = some b → ¬ Fj b) (fun _ i _ => x.length - (intOf i).toNat)
      case atStart =>
        refine ⟨0, _, F, rfl, rfl, Nat.zero_le _, HN.out, D0.out.below HB.out, Next.of_below HB.out, fun b hb hf => ?_⟩
        obtain rfl : w.heap.size = b := Option.some.inj hb
        exact absurd (HBD.out _ hf) (Nat.lt_irrefl _)
      case round =>
        obtain ⟨j, u, Fj, rfl, rfl, hj, hnw, hdoc, hnext, hfree⟩ := hrel
        have HNW := Lib.hid hnw; have HDJ := Lib.hid hdoc; have HNX := Lib.hid hnext; have HFR := Lib.hid hfree
        clear hnw hdoc hnext hfree
        by_cases hjl : j < x.length
        · obtain ⟨y, hy⟩ : ∃ y, x[j] = y := ⟨_, rfl⟩
          have hyx : y ∈ x := hy ▸ List.getElem_mem hjl
          obtain ⟨A', c', he, _, _, hrr, _⟩ := HV.out wr HNX.out.1
          injection he with he1 he2 he3
          subst he1 he3
          obtain ⟨b, off, hA, _, hcell⟩ := hrr.1 (by omega)
          have hya : Att wr wr.heap.size y := hrr.2 y hyx
          have d0 := hcell j hjl 0 _ rfl
          have d1 := hcell j hjl 1 _ rfl
          have d2 := hcell j hjl 2 _ rfl
          have d3 := hcell j hjl 3 _ rfl
          have d4 := hcell j hjl 4 _ rfl
          rw [hy] at d0 d1 d2 d3 d4
          rw [Nat.add_zero] at d0
          subst hA
          have hml : (loadTo M.length (ros x) (parI (ros x)) M j).length = M.length + j := load_len _ _ _ _ j
          have hwf := load_wf (l := ros x) HW.out j fun i hi => (par_lt (ros x) (by rw [Ro.len_ros]; omega)).1
          have hyr : y.ro ∈ ros x := List.mem_map.2 ⟨y, hyx, rfl⟩
          have hadd := refAdd1 y wr HDJ.out hwf (by omega) hya (fun z hz => by rw [List.mem_singleton] at hz; rw [hz]; exact HFW.out _ hyr) (fun z hz => by rw [List.mem_singleton] at hz; rw [hz]; have := HHE.out _ hyr; omega)
          rw [hml] at hadd
          have hgx : ((ros x)[j]?).getD ⟨0, 0, ⟨#[]⟩, ⟨#[]⟩, []⟩ = y.ro := by
            unfold ros
            rw [List.getElem?_map, List.getElem?_eq_getElem hjl, hy]
            rfl
          obtain ⟨n, hn⟩ : ∃ n, M.length + j = n := ⟨_, rfl⟩
          rw [hn] at hadd
          have HNN := Lib.hid hn
          have HADD := Lib.hid hadd; have HGX := Lib.hid hgx; have HML := Lib.hid hml; have HWF := Lib.hid hwf
          have hji : (j : Int) < x.length := by omega
          clear hn hadd hgx hml hwf hya hrr hcell he2 hyr hyx hy
          go_wp2_with fail
          refine HADD.out.mono ?_
          rintro e w2 ⟨rfl, F2, D2, N2⟩
          have hv2 := HV.out w2 (HNX.out.trans N2).1
          have hpar := refParent1 _ x (j : Int) w2 (parI (ros x) j) hv2 (by omega) HR.out rfl
          have HPAR := Lib.hid hpar
          have HNW2 := Lib.hid (nw_touch HNW.out N2.1 HFR.out)
          have hfree2 : ∀ b, u.ownBlock = some b → ¬ F2 b := fun b hb hf => by
            rcases N2.2.2 b hf with h | h
            · exact HFR.out b hb h
            · have := (owns_lt HNW.out hb).2.1
              omega
          have HF2 := Lib.hid hfree2; have HD2 := Lib.hid D2; have HN2 := Lib.hid (HNX.out.trans N2)
          clear hv2 hpar hfree2 D2 N2 HADD
          go_wp2_with fail
          refine HPAR.out.mono ?_
          rintro e w3 ⟨rfl, hb3⟩
          have HD3 := Lib.hid (HD2.out.below hb3); have HN3 := Lib.hid (HN2.out.trans (Next.of_below hb3)); have HNW3 := Lib.hid (HNW2.out.below hb3)
          have hsz3 := HN3.out.1.size
          have hrl := roots_len M.length (parI (ros x)) j
          obtain ⟨q, hq⟩ : ∃ q, parI (ros x) j = q := ⟨_, rfl⟩
          have hpl := par_lt (ros x) (j := j) (by rw [Ro.len_ros]; omega)
          rw [hq] at hpl
          have HPL := Lib.hid hpl; have HQJ := Lib.hid hq
          rw [hq]
          clear hb3 HPAR hq
          by_cases hneg : q < 0
          · have hrl2 : (rootsTo M.length (parI (ros x)) j).length ≤ 2000000 := by omega
            clear hpl hrl
            go_wp2_with (at_builtin; go_loud (refine app_numG w3 rfl (.tmp 51) (.tmp 53) rfl w.heap.size u (rootsTo M.length (parI (ros x)) j) n rfl HNW3.out _ rfl rfl hrl2 hsz3 ?_); intro v4 w4 ho4 hg4 hf4; have HO4 := Lib.hid ho4; have HG4 := Lib.hid hg4; have HF4 := Lib.hid hf4; clear ho4 hg4 hf4)
            go_roundw
            case rel =>
              refine ⟨j + 1, v4, F2, rfl, by go_num, by omega, ?_, ?_, next_grown HN3.out HG4.out fun b hb => (owns_lt HNW3.out hb).1, fun b hb hf => ?_⟩
              · rw [rootsTo, HQJ.out, if_pos hneg, HNN.out]
                exact HO4.out
              · rw [loadTo, HQJ.out, if_pos hneg, HGX.out]
                exact HD3.out.grown HG4.out HF2.out
              · rcases HF4.out b hb with h | h
                · exact HF2.out b h hf
                · have := HD3.out.bd b hf
                  omega
            case measure => (simp [intOf]; try omega)
          · obtain ⟨k, rfl⟩ : ∃ k : Nat, q = k := ⟨q.toNat, by omega⟩
            have hkj : k < j := by omega
            have HW1 := Lib.hid (HWF.out.add y.ro)
            have hL1 : (addM (loadTo M.length (ros x) (parI (ros x)) M j) y.ro).length = n + 1 := by rw [len_add, HML.out, HNN.out]
            have HL1 := Lib.hid hL1
            have hnM : n = M.length + j := HNN.out.symm
            obtain ⟨ks, hks⟩ : ∃ ks, (nd (addM (loadTo M.length (ros x) (parI (ros x)) M j) y.ro) (M.length + k)).kids = ks := ⟨_, rfl⟩
            have HKS := Lib.hid hks
            have hki : Calls Try.prog 65 #[.pointer (some ⟨p, 0, none⟩), .int .i64 ((M.length : Int) + k)] w3 fun e w' => ∃ v, e = .returned v ∧ Nw w3.heap.size w' v ks ∧ Below w3.heap.size w3 w' := by
              obtain ⟨rk, gX, cX, gU, cU, gR, cR, lX, D3⟩ := HD3.out
              have h := refKids1 ((M.length + k : Nat) : Int) w3 D3.rd HW1.out D3.rf (by rw [hL1]; omega)
              rw [kidsI_nat, hks] at h
              exact h
            have HKI := Lib.hid hki
            have hkb : ks.length ≤ 5000 := by rw [← hks]; exact kids_bound HW1.out (by rw [hL1]; omega) _
            have hset : ∀ w5, Doc11 w5 N F2 p (addM (loadTo M.length (ros x) (parI (ros x)) M j) y.ro) → Calls Try.prog 64 #[.pointer (some ⟨p, 0, none⟩), .int .i64 ((M.length : Int) + k), .int .i64 ks.length, .int .i64 n] w5 fun e w' => e = .returned (.tuple #[]) ∧ ∃ F', Doc11 w' N F' p (setM (addM (loadTo M.length (ros x) (parI (ros x)) M j) y.ro) (M.length + k) ks.length n) ∧ Next w5 w' F2 F' := fun w5 D5 => by
              have h := refSet1 (M.length + k) ks.length n w5 D5 HW1.out (by rw [hL1]; omega) (by rw [hL1]; omega) (by rw [hL1]; omega) (by
                have hf := filter_new HWF.out y.ro (M.length + k)
                rw [HML.out, HNN.out] at hf
                rw [hf, hks]
                exact Nat.le_refl _)
              exact h
            have HSET := Lib.hid hset
            have hik : (M.length : Int) + k ≤ 9223372036854775807 := by omega
            clear hL1 hks hki hset hnM hpl hrl
            go_wp2_with fail
            refine HKI.out.mono ?_
            rintro e w5 ⟨v5, rfl, hn5, hb5⟩
            obtain ⟨A5, c5, rfl, _⟩ := nw_at hn5
            have HD5 := Lib.hid (HD3.out.below hb5); have HN5 := Lib.hid (HN3.out.trans (Next.of_below hb5)); have HNW5 := Lib.hid (HNW3.out.below hb5)
            clear hn5 hb5 HKI
            go_wp2_with fail
            refine (HSET.out w5 HD5.out).mono ?_
            rintro e w6 ⟨rfl, F6, D6, N6⟩
            have HD6 := Lib.hid D6; have HN6 := Lib.hid (HN5.out.trans N6); have HNW6 := Lib.hid (nw_touch HNW5.out N6.1 HF2.out)
            have HF6 := Lib.hid (show ∀ b, u.ownBlock = some b → ¬ F6 b from fun b hb hf => by
              rcases N6.2.2 b hf with h | h
              · exact HF2.out b hb h
              · have := (owns_lt HNW5.out hb).2.1
                omega)
            clear D6 N6 HSET
            go_wp2
            go_roundw
            case rel =>
              refine ⟨j + 1, u, F6, rfl, by go_num, by omega, ?_, ?_, HN6.out, HF6.out⟩
              · rw [rootsTo, HQJ.out, if_neg (Int.not_lt.2 (Int.natCast_nonneg k))]
                exact HNW6.out
              · rw [loadTo, HQJ.out, if_neg (Int.not_lt.2 (Int.natCast_nonneg k)), HGX.out, Int.toNat_natCast, HKS.out, HNN.out]
                exact HD6.out
            case measure => (simp [intOf]; try omega)
        · obtain rfl : j = x.length := by omega
          have hxw : ∃ gX cX k, wr.cell? ⟨p, 0, none⟩ = some (.slice (some ⟨gX, 0, none⟩) k cX) := by
            obtain ⟨rk, gX, cX, gU, cU, gR, cR, lX, D1⟩ := HDJ.out
            exact ⟨gX, cX, _, D1.rd.x⟩
          go_wp2
          go_ret2
          exact ⟨u, rfl, HNW.out, Fj, HDJ.out, HNX.out, HFR.out⟩
  · have e1 : loadE M (ros x) = q := by unfold loadE; rw [hq, if_neg hq0]
    rw [e1, if_neg hq0, if_neg hq0]
    have hqb : (q == 0) = false := by simpa using hq0
    clear hck hb1 hv1 hq hrr hheld hv hlr e1 D hbd
    go_enter Try.func39, Try.ntmps39
    go_wp2_with fail
    refine HCK.out.mono ?_
    rintro e w1 ⟨rfl, hb⟩
    have HB := Lib.hid (bt HB1.out hb)
    have HN := Lib.hid (HNM.out.below hb)
    clear hb
    go_wp2
    go_ret2
    refine ⟨_, rfl, HN.out, F, D0.out.below HB.out, Next.of_below HB.out, fun b hb hf => ?_⟩
    obtain rfl : w.heap.size = b := Option.some.inj hb
    exact absurd (HBD.out _ hf) (Nat.lt_irrefl _)
end Go.Proofs.Ytfnffplnoicjcaa.Ar

namespace Go.Proofs.Ytfnffplnoicjcaa.Ar
set_option linter.unusedSimpArgs false
set_option linter.unusedVariables false
open Ro (At Ro deeper right rightFrom parent dep hasRow)
theorem rf_steps : ∀ (l : List Ro) (m : Int), rightFrom m l = true → ∀ (j : Nat) (x : Ro), l[j]? = some x → (0 : Int) ≤ x.depth ∧ (j = 0 → x.depth ≤ m) ∧ ∀ y : Ro, 0 < j → l[j - 1]? = some y → x.depth ≤ y.depth + 1
  | [], _, _, j, x, hx => by simp at hx
  | a :: r, m, h, 0, x, hx => by
    rw [rightFrom, Bool.and_eq_true, Bool.and_eq_true, Bool.and_eq_true] at h
    obtain ⟨⟨⟨h1, h2⟩, h3⟩, h4⟩ := h
    have hx : a = x := by simpa using hx
    subst hx
    exact ⟨of_decide_eq_true h1, fun _ => of_decide_eq_true h2, fun y h0 => absurd h0 (Nat.lt_irrefl _)⟩
  | a :: r, m, h, j + 1, x, hx => by
    rw [rightFrom, Bool.and_eq_true, Bool.and_eq_true, Bool.and_eq_true] at h
    obtain ⟨⟨⟨h1, h2⟩, h3⟩, h4⟩ := h
    have hx : r[j]? = some x := by simpa using hx
    obtain ⟨k1, k2, k3⟩ := rf_steps r _ h4 j x hx
    refine ⟨k1, fun h => by omega, fun y _ hy => ?_⟩
    cases j with
    | zero =>
      have hy : a = y := by simpa using hy
      subst hy
      have := k2 rfl
      split at this <;> omega
    | succ j =>
      exact k3 y (by omega) (by simpa using hy)
/-- At each depth down to the last row's the number of the last row there, from first on. -/
def Stk (l : List Ro) (first j : Nat) (os : List Nat) : Prop := (j = 0 → os = []) ∧ (∀ y : Ro, 0 < j → l[j - 1]? = some y → (os.length : Int) = y.depth + 1) ∧ ∀ d (h : d < os.length), 0 ≤ Ro.up l ((d : Int) + 1) j ∧ os[d] = first + (Ro.up l ((d : Int) + 1) j).toNat
theorem stk_nil (l : List Ro) (first : Nat) : Stk l first 0 [] := ⟨fun _ => rfl, fun _ h => absurd h (Nat.lt_irrefl _), fun d h => absurd h (Nat.not_lt_zero _)⟩
theorem up_none (l : List Ro) (d : Int) : ∀ n : Nat, (∀ i < n, d ≤ dep l (i : Nat)) → Ro.up l d n = -1
  | 0, _ => rfl
  | n + 1, h => by
    rw [Ro.up, if_neg (by have := h n (Nat.lt_succ_self n); omega)]
    exact up_none l d n fun i hi => h i (by omega)
theorem stk_le {l : List Ro} (h : right l = true) {first j : Nat} {os : List Nat} (s : Stk l first j os) {x : Ro} (hx : l[j]? = some x) : 0 ≤ x.depth ∧ x.depth ≤ os.length := by
  obtain ⟨h1, h2, h3⟩ := rf_steps l 0 h j x hx
  refine ⟨h1, ?_⟩
  by_cases h0 : j = 0
  · have := h2 h0
    omega
  · have hl := (List.getElem?_eq_some_iff.1 hx).1
    obtain ⟨y, hy⟩ : ∃ y, l[j - 1]? = some y := ⟨_, List.getElem?_eq_getElem (by omega)⟩
    have := h3 y (by omega) hy
    have := s.2.1 y (by omega) hy
    omega
theorem stk_next {l : List Ro} (h : right l = true) {first j : Nat} {os : List Nat} (s : Stk l first j os) {x : Ro} (hx : l[j]? = some x) {D : Nat} (hD : x.depth = D) : Stk l first (j + 1) (os.take D ++ [first + j]) := by
  obtain ⟨h1, h2⟩ := stk_le h s hx
  have hdo : D ≤ os.length := by omega
  have hdj : dep l (j : Nat) = D := by rw [Ro.dep_at hx, hD]
  refine ⟨fun h => absurd h (Nat.succ_ne_zero j), fun y _ hy => ?_, fun d hd => ?_⟩
  · rw [Nat.add_sub_cancel] at hy
    rw [hx] at hy
    obtain rfl := Option.some.inj hy
    rw [List.length_append, List.length_take, List.length_singleton, hD]
    omega
  · rw [List.length_append, List.length_take, List.length_singleton] at hd
    rw [Ro.up, hdj]
    by_cases hdD : d < D
    · rw [if_neg (by omega), List.getElem_append_left (by rw [List.length_take]; omega), List.getElem_take]
      exact s.2.2 d (by omega)
    · obtain rfl : d = D := by omega
      rw [if_pos (by omega), List.getElem_append_right (by rw [List.length_take]; omega)]
      refine ⟨by omega, ?_⟩
      simp
theorem stk_root {l : List Ro} (h : right l = true) {j : Nat} {x : Ro} (hx : l[j]? = some x) (h0 : x.depth = 0) : parI l j < 0 := by
  have hl := (List.getElem?_eq_some_iff.1 hx).1
  have hh : hasRow l (j : Nat) = true := by
    unfold hasRow
    exact decide_eq_true ⟨by omega, by omega⟩
  unfold parI parent
  rw [if_pos hh, Ro.dep_at hx, h0, Int.toNat_natCast, up_none]
  · decide
  · intro i hi
    obtain ⟨y, hy⟩ : ∃ y, l[i]? = some y := ⟨_, List.getElem?_eq_getElem (by omega)⟩
    rw [Ro.dep_at hy]
    exact (rf_steps l 0 h i y hy).1
theorem stk_kid {l : List Ro} (h : right l = true) {first j : Nat} {os : List Nat} (s : Stk l first j os) {x : Ro} (hx : l[j]? = some x) {D : Nat} (hD : x.depth = ((D + 1 : Nat) : Int)) : ∃ k : Nat, parI l j = k ∧ k < j ∧ ∃ hd : D < os.length, os[D] = first + k := by
  have hl := (List.getElem?_eq_some_iff.1 hx).1
  obtain ⟨h1, h2⟩ := stk_le h s hx
  have hd : D < os.length := by omega
  obtain ⟨h3, h4⟩ := s.2.2 D hd
  have hh : hasRow l (j : Nat) = true := by
    unfold hasRow
    exact decide_eq_true ⟨by omega, by omega⟩
  have e : parI l j = Ro.up l ((D : Int) + 1) j := by
    unfold parI parent
    rw [if_pos hh, Ro.dep_at hx, hD, Int.toNat_natCast]
    rfl
  have h5 := (upr_lt l ((D : Int) + 1) j).1
  refine ⟨(Ro.up l ((D : Int) + 1) j).toNat, by rw [e]; omega, by omega, hd, h4⟩
end Go.Proofs.Ytfnffplnoicjcaa.Ar

namespace Go.Proofs.Ytfnffplnoicjcaa.Ar
set_option maxRecDepth 100000
set_option linter.unusedSimpArgs false
set_option linter.unusedVariables false
open Go.RowKit Ba
open Ro (At Ro Cw ros Rr Ow Nw Fr Att Ap Sh Ra Rv Held cells acells app_num app_rows below_new infoI info_row len_cells rowV rowO Few Fits deeper check parent right refCheck1 refParent1 nv)
/-! ### What Clone answers. -/
def cloneE (M : List Nd) (n : Int) : Int × Int := if n < 1 ∨ (M.length : Int) ≤ n then (0, 110) else if 4096 < M.length + (rowsM M n).length then (0, 2) else ((M.length : Int), 0)
def cloneM (M : List Nd) (n : Int) : List Nd := if n < 1 ∨ (M.length : Int) ≤ n ∨ 4096 < M.length + (rowsM M n).length then M else loadTo M.length (rowsM M n) (parI (rowsM M n)) M (rowsM M n).length
theorem tree_attrs {M : List Nd} : ∀ (f n : Nat) (d : Int), ∀ x ∈ treeF M f n d, ∃ m, x.attrs = (nd M m).ro.attrs
  | 0, _, _, x, h => by cases h
  | f + 1, n, d, x, h => by
    rw [treeF, List.mem_cons] at h
    rcases h with rfl | h
    · exact ⟨n, rfl⟩
    · obtain ⟨k, _, hk⟩ := List.mem_flatMap.1 h
      exact tree_attrs f k (d + 1) x hk
theorem few_rows {M : List Nd} (hf : Few (M.map Nd.ro)) (n : Int) : Few (rowsM M n) := by
  have key : ∀ k d, Few (tr M k d) := fun k d x hx => by
    obtain ⟨m, hm⟩ := tree_attrs _ _ _ x hx
    rw [hm]
    by_cases h : m < M.length
    · rw [nd_at h]
      exact hf _ (List.mem_map.2 ⟨_, List.getElem_mem h, rfl⟩)
    · rw [nd_out h]
      exact Nat.zero_le _
  unfold rowsM
  split
  · split
    · intro x hx
      obtain ⟨k, _, hk⟩ := List.mem_flatMap.1 hx
      exact key k 0 x hk
    · exact key _ _
  · intro x hx
    cases hx
theorem right_held : ∀ (l : List Ro) (m : Int), Ro.rightFrom m l = true → ∀ x ∈ l, 0 ≤ x.depth ∧ x.depth ≤ m + l.length
  | [], _, _, x, h => by cases h
  | a :: r, m, hr, x, h => by
    rw [Ro.rightFrom, Bool.and_eq_true, Bool.and_eq_true, Bool.and_eq_true] at hr
    obtain ⟨⟨⟨h1, h2⟩, _⟩, h4⟩ := hr
    have h1 := of_decide_eq_true h1
    have h2 := of_decide_eq_true h2
    rw [List.length_cons]
    rcases List.mem_cons.1 h with rfl | h
    · omega
    · have h5 := right_held r _ h4 x h
      split at h5 <;> omega
/-- Rows of one's own are kept where only a document is touched. -/
theorem rv_keep {K : Nat} {F : Nat → Prop} {w w' : World} {A : Option Addr} {c : Nat} {l : List Cw} (hr : Rr w w.heap.size A l) (hc : l.length ≤ c) (hm : c ≤ maxLen) (hh : Held (ros l)) (hf : ∀ x ∈ l, Fr K w x) (hA : ∀ b, A.map Addr.block = some b → K ≤ b) (hK : ∀ b, F b → b < K) (t : Touch F w w') : Rv w' (.slice A l.length c) l := by
  refine ⟨A, c, rfl, hc, hm, ⟨fun h0 => ?_, fun x hx => ?_⟩, hh⟩
  · obtain ⟨b, off, he, hb, hcell⟩ := hr.1 h0
    refine ⟨b, off, he, Nat.lt_of_lt_of_le hb t.size, fun j hj i u hu => ?_⟩
    rw [← hcell j hj i u hu]
    refine World.cell?_of_block (a := ⟨b, off + j * 5 + i, none⟩) (t.block b hb fun hF => ?_)
    have h1 := hK b hF
    have h2 := hA b (by rw [he]; rfl)
    omega
  · refine Fr.att (N := K) (Fr.block (hf x hx) fun g hg => ?_)
    obtain ⟨h1, h2, _⟩ := owns_lt (hf x hx).1 hg
    exact t.block g h2 fun hF => by have := hK g hF; omega
set_option maxRecDepth 100000 in
set_option maxHeartbeats 4000000 in
theorem refClone11 {p N : Nat} {F : Nat → Prop} {M : List Nd} (n : Int) (w : World) (D : Doc11 w N F p M) (W : Wf M) (hm : M.length ≤ 1000) (hf : Few (M.map Nd.ro)) (hR : right (rowsM M n) = true) :
    Calls Try.prog 43 #[.pointer (some ⟨p, 0, none⟩), .int .i64 n] w fun e w' => e = .returned (.tuple #[.int .i64 (cloneE M n).1, .int .i64 (cloneE M n).2]) ∧ ∃ F', Doc11 w' N F' p (cloneM M n) ∧ Next w w' F F' := by
  have D0 := Lib.hid D
  have hx0 : ∃ gX cX, w.cell? ⟨p, 0, none⟩ = some (.slice (some ⟨gX, 0, none⟩) M.length cX) := by
    obtain ⟨rk, gX, cX, gU, cU, gR, cR, lX, D1⟩ := D
    exact ⟨gX, cX, D1.rd.x⟩
  obtain ⟨gX, cX, hx0⟩ := hx0
  by_cases c1 : n < 1
  · have e1 : cloneE M n = (0, 110) := by unfold cloneE; rw [if_pos (.inl c1)]
    have e2 : cloneM M n = M := by unfold cloneM; rw [if_pos (.inl c1)]
    rw [e1, e2]
    clear e1 e2 D hR
    go_enter Try.func43, Try.ntmps43
    go_wp2
    go_ret2
    exact ⟨rfl, F, D0.out, Next.refl w F⟩
  by_cases c2 : (M.length : Int) ≤ n
  · have e1 : cloneE M n = (0, 110) := by unfold cloneE; rw [if_pos (.inr c2)]
    have e2 : cloneM M n = M := by unfold cloneM; rw [if_pos (.inr (.inl c2))]
    rw [e1, e2]
    clear e1 e2 D hR
    go_enter Try.func43, Try.ntmps43
    go_wp2
    go_ret2
    exact ⟨rfl, F, D0.out, Next.refl w F⟩
  obtain ⟨k0, rfl⟩ : ∃ k0 : Nat, n = k0 := ⟨n.toNat, by omega⟩
  have hk0 : k0 < M.length := by omega
  obtain ⟨L, hL⟩ : ∃ L, rowsM M (k0 : Int) = L := ⟨_, rfl⟩
  have hrows := refRows11 (k0 : Int) w D W (by omega) hf
  have hfew := few_rows hf (k0 : Int)
  have hLl : L.length ≤ M.length := by
    rw [← hL]
    unfold rowsM
    rw [if_pos ⟨by omega, by omega⟩, if_neg (by omega)]
    exact tr_short W hk0 0
  have hbd := D.bd
  unfold cloneE cloneM
  rw [if_neg (by omega)]
  rw [hL] at hR hrows hfew ⊢
  have hheld : Held L := fun x hx => by
    have := right_held L 0 hR x hx
    omega
  have HRW := Lib.hid hrows; have HR := Lib.hid hR; have HFW := Lib.hid hfew; have HHE := Lib.hid hheld; have HW := Lib.hid W; have HBD := Lib.hid hbd; have HLL := Lib.hid hLl
  have hbig : ¬ 4096 < M.length + L.length := by omega
  rw [if_neg hbig, if_neg (by omega)]
  have hni : (k0 : Int) < M.length := by omega
  have hn1 : ¬ (k0 : Int) < 1 := by omega
  clear hrows hR hfew hheld W hbd D hL hLl hf
  go_enter Try.func43, Try.ntmps43
  go_wp2_with fail
  refine HRW.out.mono ?_
  rintro e w1 ⟨A, c, x, rfl, hc, hcm, hrr, hfr, hrx, hb1, hA⟩
  subst hrx
  have hlx : (ros x).length = x.length := Ro.len_ros x
  have HV := Lib.hid (show ∀ w', Touch F w1 w' → Rv w' (.slice A x.length c) x from fun w' t => rv_keep hrr hc hcm HHE.out hfr hA HBD.out t)
  have HN1 := Lib.hid (Next.of_below (F := F) hb1); have HD1 := Lib.hid (D0.out.below hb1)
  have hxl : x.length ≤ M.length := by have := HLL.out; omega
  have hx1 : ∃ gX cX, w1.cell? ⟨p, 0, none⟩ = some (.slice (some ⟨gX, 0, none⟩) M.length cX) := by
    obtain ⟨rk, gX, cX, gU, cU, gR, cR, lX, D1⟩ := HD1.out
    exact ⟨gX, cX, D1.rd.x⟩
  obtain ⟨gX1, cX1, hx1⟩ := hx1
  have hbig2 : ¬ (4096 : Int) < M.length + x.length := by omega
  clear hrr hc hcm hfr hA hb1 HRW hbig hlx
  go_wp2
  go_loopw [8] (fun ui wr => ∃ (j : Nat) (Fj : Nat → Prop), ui = .int .i64 j ∧ j ≤ x.length ∧ Doc11 wr N Fj p (loadTo M.length (ros x) (parI (ros x)) M j) ∧ Next w1 wr F Fj) (fun i _ => x.length - (intOf i).toNat)
  case atStart => exact ⟨0, F, rfl, Nat.zero_le _, HD1.out, Next.refl w1 F⟩
  case round =>
      obtain ⟨j, Fj, rfl, hj, hdoc, hnext⟩ := hrel
      have HDJ := Lib.hid hdoc; have HNX := Lib.hid hnext
      clear hdoc hnext
      by_cases hjl : j < x.length
      · obtain ⟨y, hy⟩ : ∃ y, x[j] = y := ⟨_, rfl⟩
        have hyx : y ∈ x := hy ▸ List.getElem_mem hjl
        obtain ⟨A', c', he, _, _, hrr, _⟩ := HV.out wr HNX.out.1
        injection he with he1 he2 he3
        subst he1 he3
        obtain ⟨b, off, hA, _, hcell⟩ := hrr.1 (by omega)
        have hya : Att wr wr.heap.size y := hrr.2 y hyx
        have d0 := hcell j hjl 0 _ rfl
        have d1 := hcell j hjl 1 _ rfl
        have d2 := hcell j hjl 2 _ rfl
        have d3 := hcell j hjl 3 _ rfl
        have d4 := hcell j hjl 4 _ rfl
        rw [hy] at d0 d1 d2 d3 d4
        rw [Nat.add_zero] at d0
        subst hA
        have hml : (loadTo M.length (ros x) (parI (ros x)) M j).length = M.length + j := load_len _ _ _ _ j
        have hwf := load_wf (l := ros x) HW.out j fun i hi => (par_lt (ros x) (by rw [Ro.len_ros]; omega)).1
        have hyr : y.ro ∈ ros x := List.mem_map.2 ⟨y, hyx, rfl⟩
        have hadd := refAdd1 y wr HDJ.out hwf (by omega) hya (fun z hz => by rw [List.mem_singleton] at hz; rw [hz]; exact HFW.out _ hyr) (fun z hz => by rw [List.mem_singleton] at hz; rw [hz]; have := HHE.out _ hyr; omega)
        rw [hml] at hadd
        have hgx : ((ros x)[j]?).getD ⟨0, 0, ⟨#[]⟩, ⟨#[]⟩, []⟩ = y.ro := by
          unfold ros
          rw [List.getElem?_map, List.getElem?_eq_getElem hjl, hy]
          rfl
        obtain ⟨n, hn⟩ : ∃ n, M.length + j = n := ⟨_, rfl⟩
        rw [hn] at hadd
        have HNN := Lib.hid hn
        have HADD := Lib.hid hadd; have HGX := Lib.hid hgx; have HML := Lib.hid hml; have HWF := Lib.hid hwf
        have hji : (j : Int) < x.length := by omega
        clear hn hadd hgx hml hwf hya hrr hcell he2 hyr hyx hy
        go_wp2_with fail
        refine HADD.out.mono ?_
        rintro e w2 ⟨rfl, F2, D2, N2⟩
        have hv2 := HV.out w2 (HNX.out.trans N2).1
        have hpar := refParent1 _ x (j : Int) w2 (parI (ros x) j) hv2 (by omega) HR.out rfl
        have HPAR := Lib.hid hpar
        have HD2 := Lib.hid D2; have HN2 := Lib.hid (HNX.out.trans N2)
        clear hv2 hpar D2 N2 HADD
        go_wp2_with fail
        refine HPAR.out.mono ?_
        rintro e w3 ⟨rfl, hb3⟩
        have HD3 := Lib.hid (HD2.out.below hb3); have HN3 := Lib.hid (HN2.out.trans (Next.of_below hb3))
        have hsz3 := HN3.out.1.size
        obtain ⟨q, hq⟩ : ∃ q, parI (ros x) j = q := ⟨_, rfl⟩
        have hpl := par_lt (ros x) (j := j) (by rw [Ro.len_ros]; omega)
        rw [hq] at hpl
        have HPL := Lib.hid hpl; have HQJ := Lib.hid hq
        rw [hq]
        clear hb3 HPAR hq
        by_cases hneg : q < 0
        · clear hpl
          go_wp2
          go_roundw
          case rel =>
            refine ⟨j + 1, F2, by go_num, by omega, ?_, HN3.out⟩
            rw [loadTo, HQJ.out, if_pos hneg, HGX.out]
            exact HD3.out
          case measure => (simp [intOf]; try omega)
        · obtain ⟨k, rfl⟩ : ∃ k : Nat, q = k := ⟨q.toNat, by omega⟩
          have hkj : k < j := by omega
          have HW1 := Lib.hid (HWF.out.add y.ro)
          have hL1 : (addM (loadTo M.length (ros x) (parI (ros x)) M j) y.ro).length = n + 1 := by rw [len_add, HML.out, HNN.out]
          have HL1 := Lib.hid hL1
          have hnM : n = M.length + j := HNN.out.symm
          obtain ⟨ks, hks⟩ : ∃ ks, (nd (addM (loadTo M.length (ros x) (parI (ros x)) M j) y.ro) (M.length + k)).kids = ks := ⟨_, rfl⟩
          have HKS := Lib.hid hks
          have hki : Calls Try.prog 65 #[.pointer (some ⟨p, 0, none⟩), .int .i64 ((M.length : Int) + k)] w3 fun e w' => ∃ v, e = .returned v ∧ Nw w3.heap.size w' v ks ∧ Below w3.heap.size w3 w' := by
            obtain ⟨rk, gX, cX, gU, cU, gR, cR, lX, D3⟩ := HD3.out
            have h := refKids1 ((M.length + k : Nat) : Int) w3 D3.rd HW1.out D3.rf (by rw [hL1]; omega)
            rw [kidsI_nat, hks] at h
            exact h
          have HKI := Lib.hid hki
          have hkb : ks.length ≤ 5000 := by rw [← hks]; exact kids_bound HW1.out (by rw [hL1]; omega) _
          have hset : ∀ w5, Doc11 w5 N F2 p (addM (loadTo M.length (ros x) (parI (ros x)) M j) y.ro) → Calls Try.prog 64 #[.pointer (some ⟨p, 0, none⟩), .int .i64 ((M.length : Int) + k), .int .i64 ks.length, .int .i64 n] w5 fun e w' => e = .returned (.tuple #[]) ∧ ∃ F', Doc11 w' N F' p (setM (addM (loadTo M.length (ros x) (parI (ros x)) M j) y.ro) (M.length + k) ks.length n) ∧ Next w5 w' F2 F' := fun w5 D5 => by
            have h := refSet1 (M.length + k) ks.length n w5 D5 HW1.out (by rw [hL1]; omega) (by rw [hL1]; omega) (by rw [hL1]; omega) (by
              have hf := filter_new HWF.out y.ro (M.length + k)
              rw [HML.out, HNN.out] at hf
              rw [hf, hks]
              exact Nat.le_refl _)
            exact h
          have HSET := Lib.hid hset
          have hik : (M.length : Int) + k ≤ 9223372036854775807 := by omega
          clear hL1 hks hki hset hnM hpl
          go_wp2_with fail
          refine HKI.out.mono ?_
          rintro e w5 ⟨v5, rfl, hn5, hb5⟩
          obtain ⟨A5, c5, rfl, _⟩ := nw_at hn5
          have HD5 := Lib.hid (HD3.out.below hb5); have HN5 := Lib.hid (HN3.out.trans (Next.of_below hb5))
          clear hn5 hb5 HKI
          go_wp2_with fail
          refine (HSET.out w5 HD5.out).mono ?_
          rintro e w6 ⟨rfl, F6, D6, N6⟩
          have HD6 := Lib.hid D6; have HN6 := Lib.hid (HN5.out.trans N6)
          clear D6 N6 HSET
          go_wp2
          go_roundw
          case rel =>
            refine ⟨j + 1, F6, by go_num, by omega, ?_, HN6.out⟩
            rw [loadTo, HQJ.out, if_neg (Int.not_lt.2 (Int.natCast_nonneg k)), HGX.out, Int.toNat_natCast, HKS.out, HNN.out]
            exact HD6.out
          case measure => (simp [intOf]; try omega)
      · obtain rfl : j = x.length := by omega
        go_wp2
        go_ret2
        exact ⟨rfl, Fj, (by rw [Ro.len_ros]; exact HDJ.out), HN1.out.trans HNX.out⟩
end Go.Proofs.Ytfnffplnoicjcaa.Ar

namespace Go.Proofs.Ytfnffplnoicjcaa.To
set_option maxRecDepth 100000
set_option linter.unusedSimpArgs false
set_option linter.unusedVariables false
open Go.RowKit Ba
open Ro (At acells len_acells below_new Sh Ra acells_one info_attr)
/-- Attributes of the call's own. -/
def Aw (N : Nat) (w : World) (v : Value) (l : List At) : Prop := w.ownsRow N 62 2 v l.length (l.flatMap acells) ∧ Sh l
theorem Aw.nil (N : Nat) (w : World) : Aw N w (.slice none 0 0) [] := ⟨World.ownsRow_nil w N _ 2, fun _ h => by simp at h⟩
theorem Aw.low {N b : Nat} {w : World} {v : Value} {l : List At} (h : Aw N w v l) (hb : b < N) : v.ownBlock ≠ some b := fun e => by
  have := (World.ownsRow.lt h.1 b e).1
  omega
theorem Aw.kept {N : Nat} {w w' : World} {v : Value} {l : List At} {row : Option Nat} (h : Aw N w v l) (hg : w.grownBy w' row) (hne : v.ownBlock = none ∨ v.ownBlock ≠ row) : Aw N w' v l := ⟨World.ownsRow.kept h.1 hg hne, h.2⟩
theorem Aw.alloc {N : Nat} {w : World} {v : Value} {l : List At} (h : Aw N w v l) (o : Obj) : Aw N (w.alloc o) v l := ⟨World.ownsRow.alloc h.1 o, h.2⟩
theorem Aw.form {N : Nat} {w : World} {v : Value} {l : List At} (h : Aw N w v l) : ∃ A c, v = .slice A l.length c := by
  rcases h.1.2 with ⟨hv, hl⟩ | ⟨g, cap, cur, hv, _⟩
  · exact ⟨none, 0, by rw [hl]; exact hv⟩
  · exact ⟨_, _, hv⟩

theorem attr_cells_new (w : World) (x : At) : ∀ j u, (acells x)[j]? = some u → (w.alloc (.cells #[.string x.name, .string x.value] 62)).cell? ((⟨w.heap.size, 0, none⟩ : Addr).add j) = some u := fun j u hu => by
  rw [WideShapes.add_plain, Nat.zero_add, World.cell?_alloc_mark]
  match j with
  | 0 => exact hu
  | 1 => exact hu
  | j + 2 => simp [acells] at hu
/-- append of one attribute, in a block of its own, onto attributes of the call's own. -/
theorem app_attr {ops : Array Oper} {rest : List Oper} {o : Oper} {a : Act} {Q : Exit → Act → World → Prop} (w : World) (hgd : o.guard = none) (s x : Operand)
    (ho : o.op = .call { callee := .builtin .append, args := #[s, x], argTypes := #[45, 45] })
    (N : Nat) (v : Value) (l : List At) (y : At) (hs : a.eval s = v) (hown : Aw N w v l) (hy : y.name.size ≤ maxLen) (g : Nat) (hgz : g = w.heap.size) (hx : a.eval x = .slice (some ⟨g, 0, none⟩) 1 1)
    (hl : l.length ≤ 4000000000) (hN : N ≤ w.heap.size)
    (h : ∀ v' w', Aw N w' v' (l ++ [y]) → w.grownBy w' v.ownBlock → wpList Try.prog ops Q rest (a.put o.dst v') w') :
    wpList Try.prog ops Q (o :: rest) a (w.alloc (.cells #[.string y.name, .string y.value] 62)) := by
  subst hgz
  obtain ⟨i0, hi, hz0, hz1, hz2⟩ := info_parts info_attr
  have hown' : Aw N (w.alloc (.cells #[.string y.name, .string y.value] 62)) v l := hown.alloc _
  have hsz : (w.alloc (.cells #[.string y.name, .string y.value] 62)).heap.size = w.heap.size + 1 := by simp
  refine wpList_append_own _ hgd s x 45 ho N 62 i0 _ 2 32 Try.underlying45 hi hz0 hz1 hz2 rfl (by decide) v l.length (l.flatMap acells) hs hown'.1 ⟨w.heap.size, 0, none⟩ 1 1 (acells y) hx rfl (attr_cells_new w y) (by have := acells_one [y]; simpa using this) (by unfold maxLen; omega) (by omega) (by omega) ?_
  intro v' w' ho2 hg2 _
  refine h v' w' ⟨?_, fun z hz => ?_⟩ ((World.grownBy_alloc w _ _).trans hg2)
  · rw [List.length_append, List.flatMap_append]
    simpa using ho2
  · rcases List.mem_append.1 hz with hz | hz
    · exact hown.2 z hz
    · rw [List.mem_singleton.1 hz]; exact hy

end Go.Proofs.Ytfnffplnoicjcaa.To
