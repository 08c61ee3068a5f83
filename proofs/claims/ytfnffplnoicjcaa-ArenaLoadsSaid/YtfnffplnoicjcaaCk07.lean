/-
  Stage 11: the program's grow, Load.
  Stage 11: the program's Load.
  Stage 11: the program's Within.
  Stage 11: the program's detach, Remove.
  Stage 11: the program's Insert.
  Stage 11: the program's rowAt, Row, Kids.
  Stage 11: the program's Row, Kids.
  Stage 11: the program's appendTree, appendKids, Rows.
  Stage 11: the program's Rows, Clone.
  Stage 11: the program's attrAt, Data, Attr, Drop.
-/
import Derived.Test.YtfnffplnoicjcaaCk06
import Derived.Test.YtfnffplnoicjcaaCk04
import Derived.Laws.ResultCell
import Derived.Test.YtfnffplnoicjcaaCk02
import Derived.Test.YtfnffplnoicjcaaCk05
namespace Go.Proofs.Ytfnffplnoicjcaa.Ar
set_option maxRecDepth 100000
set_option linter.unusedSimpArgs false
set_option linter.unusedVariables false
open Go.RowKit Ba
open Ro (At Ro Cw ros Rr Ow Nw Fr Att Ap Sh Ra Rv Held cells acells app_num below_new infoI info_row len_cells rowV rowO Few right check check1)
theorem nx_block {w w' : World} {F F' : Nat → Prop} (h : Next w w' F F') {b : Nat} (hb : b < w.heap.size) (hf : ¬ F b) : w'.heap[b]? = w.heap[b]? ∧ ¬ F' b := by
  refine ⟨h.1.block b hb hf, fun hf' => ?_⟩
  rcases h.2.2 b hf' with h | h
  · exact hf h
  · omega
theorem Doc12.bd {w : World} {N : Nat} {F : Nat → Prop} {p : Nat} {M : List Nd} (h : Doc12 w N F p M) : ∀ b, F b → b < w.heap.size := by
  obtain ⟨gE, cE, lE, D⟩ := h
  exact D.bd
theorem Doc12.grown {w w' : World} {N : Nat} {F : Nat → Prop} {p : Nat} {M : List Nd} {row : Option Nat} (h : Doc12 w N F p M) (hg : w.grownBy w' row) (hn : ∀ b, row = some b → ¬ F b) : Doc12 w' N F p M :=
  h.touch (G := fun b => row = some b) (Touch.grown hg fun b hb => hb) fun b hf hb => hn b hb hf
/-- What a slice of numbers of one's own is, cut at its end. -/
theorem nw_cut {K : Nat} {w : World} {A : Option Addr} {c : Nat} {os : List Nat} (h : Nw K w (.slice A os.length c) os) {D : Nat} (hD : D ≤ os.length) : Nw K w (.slice A D c) (os.take D) := by
  have hl : (os.take D).length = D := by rw [List.length_take]; omega
  unfold Nw
  rw [hl, List.map_take]
  refine ⟨by rw [List.length_take, List.length_map]; omega, ?_⟩
  rcases h.2 with ⟨hv, h0⟩ | ⟨g, cap, cur, hv, hg, hh, hn, hm, hs, ht⟩
  · obtain rfl : D = 0 := by omega
    injection hv with h1 h2 h3
    exact .inl ⟨by rw [h1, h3], rfl⟩
  · injection hv with h1 h2 h3
    refine .inr ⟨g, cap, cur, by rw [h1, h3], hg, hh, by omega, hm, hs, ?_⟩
    rw [← ht, List.take_take, Nat.mul_one, Nat.mul_one, Nat.min_eq_left hD]
theorem nw_form {K : Nat} {w : World} {v : Value} {os : List Nat} (h : Nw K w v os) : ∃ A c, v = .slice A os.length c ∧ os.length ≤ c ∧ c ≤ maxLen := by
  rcases h.2 with ⟨hv, h0⟩ | ⟨g, cap, cur, hv, hg, hh, hn, hm, hs, ht⟩
  · exact ⟨none, 0, by rw [h0]; exact hv, by omega, Nat.zero_le _⟩
  · exact ⟨_, cap, hv, hn, hm⟩
theorem nw_nil (K : Nat) (w : World) : Nw K w (.slice none 0 0) [] := World.ownsRow_nil w K _ 1
theorem rf_steps' {l : List Ro} (h : right l = true) (j : Nat) (x : Ro) (hx : l[j]? = some x) : (0 : Int) ≤ x.depth ∧ (j = 0 → x.depth ≤ 0) ∧ ∀ y : Ro, 0 < j → l[j - 1]? = some y → x.depth ≤ y.depth + 1 := rf_steps l 0 h j x hx
theorem rf_deep {l : List Ro} (h : right l = true) : ∀ {j : Nat}, j < l.length → ∀ z, l[j]? = some z → z.depth ≤ j
  | 0, hj, z, hz => (rf_steps' h 0 z hz).2.1 rfl
  | j + 1, hj, z, hz => by
    obtain ⟨y, hy⟩ : ∃ y, l[j]? = some y := ⟨_, List.getElem?_eq_getElem (by omega)⟩
    have h1 := (rf_steps' h (j + 1) z hz).2.2 y (by omega) (by simpa using hy)
    have h2 := rf_deep h (j := j) (by omega) y hy
    omega
theorem nw_next {K : Nat} {F F' : Nat → Prop} {w w' : World} {u : Value} {ks : List Nat} (h : Nw K w u ks) (n : Next w w' F F') (hf : ∀ b, u.ownBlock = some b → ¬ F b) : Nw K w' u ks ∧ ∀ b, u.ownBlock = some b → ¬ F' b :=
  ⟨nw_touch h n.1 hf, fun b hb => (nx_block n (owns_lt h hb).2.1 (hf b hb)).2⟩
theorem nw_row {K : Nat} {w w' : World} {u : Value} {ks : List Nat} {row : Option Nat} (h : Nw K w u ks) (hg : w.grownBy w' row) (hn : ∀ b, u.ownBlock = some b → row ≠ some b) : Nw K w' u ks := owns_block h fun g hg' => hg.block g (owns_lt h hg').2.1 fun e => hn g hg' e.symm
theorem slice_own (A : Option Addr) (n m c d : Nat) : (Value.slice A n c).ownBlock = (Value.slice A m d).ownBlock := by cases A <;> rfl
set_option maxRecDepth 100000 in
set_option maxHeartbeats 8000000 in
theorem growP1 {p N : Nat} {F : Nat → Prop} {M : List Nd} (v : Value) (x : List Cw) (w : World) (D : Doc12 w N F p M) (W : Wf M) (hm : M.length + x.length ≤ 5000) (hv : ∀ w', Touch F w w' → Rv w' v x) (hfw : Few (ros x)) (hR : right (ros x) = true) :
    Calls Try.prog 22 #[.pointer (some ⟨p, 0, none⟩), v] w fun e w' => ∃ u, e = .returned u ∧ Nw w.heap.size w' u (rootsTo M.length (parI (ros x)) x.length) ∧ ∃ F', Doc12 w' N F' p (loadTo M.length (ros x) (parI (ros x)) M x.length) ∧ Next w w' F F' ∧ ∀ b, u.ownBlock = some b → ¬ F' b := by
  have hv0 := hv w (Touch.refl F w)
  obtain ⟨A, c, rfl, hc, hcm, hrr, hheld⟩ := hv0
  have HV := Lib.hid hv; have HHE := Lib.hid hheld; have HD := Lib.hid D; have HFW := Lib.hid hfw; have HR := Lib.hid hR; have HW := Lib.hid W
  clear hv hheld D hrr hfw hR W
  go_enter Try.func22, Try.ntmps22
  go_wp2
  go_loopw [5, 6, 12] (fun ur vr ui wr => ∃ (j : Nat) (u u2 : Value) (os : List Nat) (Fj : Nat → Prop), u = ur ∧ u2 = vr ∧ ui = .int .i64 j ∧ j ≤ x.length ∧ Nw w.heap.size wr u (rootsTo M.length (parI (ros x)) j) ∧ Nw w.heap.size wr u2 os ∧ Stk (ros x) M.length j os ∧ Doc12 wr N Fj p (loadTo M.length (ros x) (parI (ros x)) M j) ∧ Next w wr F Fj ∧ (∀ b, u.ownBlock = some b → ¬ Fj b) ∧ (∀ b, u2.ownBlock = some b → ¬ Fj b) ∧ (∀ b, u.ownBlock = some b → u2.ownBlock ≠ some b)) (fun _ _ i _ => x.length - (intOf i).toNat)
  case atStart =>
    exact ⟨0, _, _, [], F, rfl, rfl, rfl, Nat.zero_le _, nw_nil _ _, nw_nil _ _, stk_nil _ _, HD.out, Next.refl w F, fun b hb => (by cases hb), fun b hb => (by cases hb), fun b hb => (by cases hb)⟩
  case round =>
    obtain ⟨j, u, u2, os, Fj, rfl, rfl, rfl, hj, hnw, hnw2, hstk, hdoc, hnext, hfree, hfree2, hap⟩ := hrel
    have HNW := Lib.hid hnw; have HNW2 := Lib.hid hnw2; have HDJ := Lib.hid hdoc; have HNX := Lib.hid hnext; have HFR := Lib.hid hfree; have HFR2 := Lib.hid hfree2; have HAP := Lib.hid hap; have HSTK := Lib.hid hstk
    clear hnw hnw2 hdoc hnext hfree hfree2 hap hstk
    by_cases hjl : j < x.length
    · obtain ⟨y, hy⟩ : ∃ y, x[j] = y := ⟨_, rfl⟩
      have hyx : y ∈ x := hy ▸ List.getElem_mem hjl
      obtain ⟨A', c', he, _, _, hrr, _⟩ := HV.out wr HNX.out.1
      injection he with he1 he2 he3
      subst he1 he3
      obtain ⟨b, off, hA, hbl, hcell⟩ := hrr.1 (by omega)
      have hya : Att wr wr.heap.size y := hrr.2 y hyx
      have d0 := hcell j hjl 0 _ rfl
      have d1 := hcell j hjl 1 _ rfl
      have d2 := hcell j hjl 2 _ rfl
      have d3 := hcell j hjl 3 _ rfl
      have d4 := hcell j hjl 4 _ rfl
      rw [hy] at d0 d1 d2 d3 d4
      rw [Nat.add_zero] at d0
      subst hA
      have hml : (loadTo M.length (ros x) (parI (ros x)) M j).length = M.length + j := load_len _ _ _ _ j
      have hwf := load_wf (l := ros x) HW.out j fun i hi => (par_lt (ros x) (by rw [Ro.len_ros]; omega)).1
      have hyr : y.ro ∈ ros x := List.mem_map.2 ⟨y, hyx, rfl⟩
      have hjy : (ros x)[j]? = some y.ro := by
        unfold ros
        rw [List.getElem?_map, List.getElem?_eq_getElem hjl, hy]
        rfl
      have hgx : ((ros x)[j]?).getD ⟨0, 0, ⟨#[]⟩, ⟨#[]⟩, []⟩ = y.ro := by rw [hjy]; rfl
      have hb1 := below_new wr (rowO y)
      have hbx : (wr.alloc (rowO y)).heap[wr.heap.size]? = some (rowO y) := heap_alloc_new wr _
      have hadd := addP1 y (wr.alloc (rowO y)) (HDJ.out.below hb1) (by omega) (hya.boxed (Below.refl _ _) (rowO y)) (Nat.le_trans (HFW.out _ hyr) (by decide))
      rw [hml] at hadd
      obtain ⟨n, hn⟩ : ∃ n, M.length + j = n := ⟨_, rfl⟩
      rw [hn] at hadd
      obtain ⟨hle0, hle⟩ := stk_le HR.out HSTK.out hjy
      have HNN := Lib.hid hn; have HB1 := Lib.hid hb1; have HBX := Lib.hid hbx
      have HADD := Lib.hid hadd; have HGX := Lib.hid hgx; have HML := Lib.hid hml; have HWF := Lib.hid hwf; have HJY := Lib.hid hjy
      have hji : (j : Int) < x.length := by omega
      clear hn hadd hgx hml hwf hya hrr hcell he2 hyr hyx hy hb1 hbx hjy
      go_upto_region 5 with (fail)
      go_wp2_with fail
      refine HADD.out.mono ?_
      rintro e w2 ⟨rfl, F2, D2, N2⟩
      have N1 := HNX.out.trans ((Next.of_below HB1.out).trans N2)
      have hH : ¬ Fj wr.heap.size := fun h => by have := HDJ.out.bd _ h; omega
      obtain ⟨hbx2, hHF2⟩ := nx_block N2 (b := wr.heap.size) (by simp) hH
      have hbx2 := hbx2.trans HBX.out
      obtain ⟨hnwa, hfra⟩ := nw_next (HNW.out.below HB1.out) N2 HFR.out
      obtain ⟨hnwb, hfrb⟩ := nw_next (HNW2.out.below HB1.out) N2 HFR2.out
      have hbu : ∀ b, u.ownBlock = some b → b < wr.heap.size := fun b hb => (owns_lt HNW.out hb).2.1
      have hbu2 : ∀ b, u2.ownBlock = some b → b < wr.heap.size := fun b hb => (owns_lt HNW2.out hb).2.1
      obtain ⟨A6, c6, hv6, hoc, hcm6⟩ := nw_form hnwb
      subst hv6
      obtain ⟨A3, c3, hv3, _, _⟩ := nw_form hnwa
      subst hv3
      have hrl := roots_len M.length (parI (ros x)) j
      have hszw := N1.1.size
      have hos : os.length ≤ 5000 := by
        by_cases h0 : j = 0
        · rw [HSTK.out.1 h0]
          decide
        · have h1 := rf_deep HR.out (j := j - 1) (by rw [Ro.len_ros]; omega)
          obtain ⟨z, hz⟩ : ∃ z, (ros x)[j - 1]? = some z := ⟨_, List.getElem?_eq_getElem (by rw [Ro.len_ros]; omega)⟩
          have h2 := HSTK.out.2.1 z (by omega) hz
          have h3 := h1 z hz
          omega
      obtain ⟨D0, hD0⟩ : ∃ D0 : Nat, y.ro.depth = D0 := ⟨y.ro.depth.toNat, by omega⟩
      have hD0l : D0 ≤ os.length := by omega
      have HSTK2 := Lib.hid (stk_next HR.out HSTK.out HJY.out hD0)
      have HQ := Lib.hid (show ∀ w' : World, w'.heap[wr.heap.size]? = some (rowO y) → w'.cell? ⟨wr.heap.size, 0, none⟩ = some (.int .i64 (D0 : Nat)) from fun w' h => by
        rw [← hD0]
        exact cell_of_row w' wr.heap.size 0 _ _ _ h)
      have q0 : w2.cell? ⟨wr.heap.size, 0, none⟩ = some (.int .i64 (D0 : Nat)) := by
        rw [← hD0]
        exact cell_of_row w2 wr.heap.size 0 _ _ _ hbx2
      have HD2 := Lib.hid D2; have HN1 := Lib.hid N1; have HBX2 := Lib.hid hbx2; have HHF := Lib.hid hHF2; have HNA := Lib.hid hnwa; have HNB := Lib.hid hnwb; have HFA := Lib.hid hfra; have HFB := Lib.hid hfrb; have HBU := Lib.hid hbu; have HBU2 := Lib.hid hbu2
      have hszr : wr.heap.size < w2.heap.size := by
        have := N2.1.size
        simp at this
        omega
      clear D2 N2 N1 hH hbx2 hHF2 hnwa hnwb hfra hfrb hbu hbu2 HADD d0 d1 d2 d3 d4 hle hle0
      by_cases hz0 : D0 = 0
      · subst hz0
        have hneg := stk_root HR.out HJY.out hD0
        have HROOT := Lib.hid (show rootsTo M.length (parI (ros x)) (j + 1) = rootsTo M.length (parI (ros x)) j ++ [n] by rw [rootsTo, if_pos hneg, HNN.out])
        have HLOAD := Lib.hid (show loadTo M.length (ros x) (parI (ros x)) M (j + 1) = addM (loadTo M.length (ros x) (parI (ros x)) M j) y.ro by rw [loadTo, if_pos hneg, HGX.out])
        have hrl2 : (rootsTo M.length (parI (ros x)) j).length ≤ 2000000 := by omega
        clear hneg hrl
        have hl0 : (os.take 0).length ≤ 2000000 := by simp
        have HAPN := Lib.hid (show ∀ b, (Value.slice A6 os.length c6).ownBlock = some b → (Value.slice A3 (rootsTo M.length (parI (ros x)) j).length c3).ownBlock ≠ some b from fun b hb hb2 => HAP.out b hb2 hb)
        go_wp2_with (first
          | (at_builtin; refine app_numG w2 rfl (.tmp 22) (.tmp 24) rfl w.heap.size _ (rootsTo M.length (parI (ros x)) j) n rfl HNA.out _ rfl rfl hrl2 hszw ?_; intro v4 w4 ho4 hg4 hf4; have hb4 := (hg4.block _ hszr (fun e => Nat.lt_irrefl _ (HBU.out _ e.symm))).trans HBX2.out; have q4 := HQ.out w4 hb4; have HO4 := Lib.hid ho4; have HG4 := Lib.hid hg4; have HF4 := Lib.hid hf4; have HB4 := Lib.hid (nw_row HNB.out hg4 HAPN.out); have hsz4 := Nat.le_trans hszw hg4.size; clear ho4 hg4 hf4 hb4)
          | (at_builtin; go_loud (refine app_numG w4 rfl (.tmp 38) (.tmp 40) rfl w.heap.size (.slice A6 0 c6) (os.take 0) n rfl (nw_cut HB4.out (Nat.zero_le _)) _ rfl rfl hl0 hsz4 ?_; intro v7 w7 ho7 hg7 hf7; have HO7 := Lib.hid ho7; have HG7 := Lib.hid hg7; have HF7 := Lib.hid hf7; clear ho7 hg7 hf7)))
        go_roundw
        case rel =>
          have hfb7 : ∀ b, (Value.slice A6 0 c6).ownBlock = some b → ¬ F2 b := fun b hb => HFB.out b (by rw [slice_own A6 os.length 0 c6 c6]; exact hb)
          have hap4 : ∀ b, v4.ownBlock = some b → (Value.slice A6 0 c6).ownBlock ≠ some b := fun b hb hb2 => by
            have hb2 : (Value.slice A6 os.length c6).ownBlock = some b := by rw [slice_own A6 os.length 0 c6 c6]; exact hb2
            rcases HF4.out b hb with h | h
            · exact HAPN.out b hb2 h
            · have := (owns_lt HNB.out hb2).2.1
              omega
          refine ⟨j + 1, v4, v7, os.take 0 ++ [n], F2, rfl, rfl, by go_num, by omega, ?_, HO7.out, by rw [← HNN.out]; exact HSTK2.out, ?_, next_grown (next_grown HN1.out HG4.out fun b hb => (owns_lt HNA.out hb).1) HG7.out fun b hb => ?_, fun b hb hf => ?_, fun b hb hf => ?_, fun b hb hb2 => ?_⟩
          · rw [HROOT.out]
            exact nw_row HO4.out HG7.out fun b hb e => hap4 b hb e
          · rw [HLOAD.out]
            exact (HD2.out.grown HG4.out HFA.out).grown HG7.out hfb7
          · exact (owns_lt (nw_cut HB4.out (Nat.zero_le _)) hb).1
          · rcases HF4.out b hb with h | h
            · exact HFA.out b h hf
            · have := HD2.out.bd b hf
              omega
          · rcases HF7.out b hb with h | h
            · exact hfb7 b h hf
            · have h1 := HD2.out.bd b hf
              have h2 := HG4.out.size
              omega
          · rcases HF7.out b hb2 with h | h
            · exact hap4 b hb h
            · have := (owns_lt HO4.out hb).2.1
              omega
        case measure => (simp [intOf]; try omega)
      · obtain ⟨D1, rfl⟩ : ∃ D1, D0 = D1 + 1 := ⟨D0 - 1, by omega⟩
        obtain ⟨k, hpk, hkj, hd, hosk⟩ := stk_kid HR.out HSTK.out HJY.out (D := D1) hD0
        obtain ⟨P, hP⟩ : ∃ P, M.length + k = P := ⟨_, rfl⟩
        rw [hP] at hosk
        obtain ⟨A6', c6', he6, hat⟩ := nw_at HNB.out
        injection he6 with he61 _ he63
        subst he61 he63
        obtain ⟨b6, hA6, _, _, hcell6⟩ := hat (by omega)
        have c0 := hcell6 D1 hd
        rw [hosk] at c0
        subst hA6
        have HW1 := Lib.hid (HWF.out.add y.ro)
        have hL1 : (addM (loadTo M.length (ros x) (parI (ros x)) M j) y.ro).length = n + 1 := by rw [len_add, HML.out, HNN.out]
        have hnn := HNN.out
        have hup : (nd (addM (loadTo M.length (ros x) (parI (ros x)) M j) y.ro) n).up = -1 := by rw [nd_add, if_pos (by rw [HML.out, HNN.out])]
        have hadopt := adoptP1 P n w2 HD2.out HW1.out (by rw [hL1]; omega) (by rw [hL1]; omega) (by rw [hL1]; omega) (by omega) hup
        have HAD := Lib.hid hadopt
        have hnneg : ¬ parI (ros x) j < 0 := by rw [hpk]; omega
        have HROOT := Lib.hid (show rootsTo M.length (parI (ros x)) (j + 1) = rootsTo M.length (parI (ros x)) j by rw [rootsTo, if_neg hnneg])
        have HLOAD := Lib.hid (show loadTo M.length (ros x) (parI (ros x)) M (j + 1) = setM (addM (loadTo M.length (ros x) (parI (ros x)) M j) y.ro) P (nd (addM (loadTo M.length (ros x) (parI (ros x)) M j) y.ro) P).kids.length n by rw [loadTo, if_neg hnneg, HGX.out, hpk, Int.toNat_natCast, hP, HNN.out])
        have q0' : w2.cell? ⟨wr.heap.size, 0, none⟩ = some (.int .i64 ((D1 : Int) + 1)) := q0
        have HQ' := Lib.hid (show ∀ w' : World, w'.heap[wr.heap.size]? = some (rowO y) → w'.cell? ⟨wr.heap.size, 0, none⟩ = some (.int .i64 ((D1 : Int) + 1)) from HQ.out)
        have hD1n : ¬ (D1 : Int) + 1 = 0 := by omega
        have hD1b : ((D1 : Int) + 1 == 0) = false := by simpa using hD1n
        have hD1i : (D1 : Int) < os.length := by omega
        have hD1c : (D1 : Int) + 1 ≤ c6 := by omega
        have hD1w : IntKind.i64.wrap ((D1 : Int) + 1 - 1) = (D1 : Int) := by
          rw [IntWalk.i64_in _ (by omega)]
          omega
        clear q0 hcell6 hat hadopt hnneg hup hpk hkj hosk hrl hL1 hnn
        go_wp2_with fail
        refine HAD.out.mono ?_
        rintro e w3 ⟨rfl, F3, D3, N3⟩
        obtain ⟨hb3, hH3⟩ := nx_block N3 hszr HHF.out
        have q3 := HQ'.out w3 (hb3.trans HBX2.out)
        obtain ⟨hna3, hfa3⟩ := nw_next HNA.out N3 HFA.out
        obtain ⟨hnb3, hfb3⟩ := nw_next HNB.out N3 HFB.out
        have N13 := HN1.out.trans N3
        have hsz3 := N13.1.size
        have HNA3 := Lib.hid hna3; have HFA3 := Lib.hid hfa3; have HNB3 := Lib.hid hnb3; have HFB3 := Lib.hid hfb3; have HD3 := Lib.hid D3; have HN13 := Lib.hid N13; have HSZ3 := Lib.hid N3.1.size
        have HCUT := Lib.hid (nw_cut hnb3 hD0l)
        have hl0 : (os.take (D1 + 1)).length ≤ 2000000 := by rw [List.length_take]; omega
        clear hb3 hH3 hna3 hnb3 hfa3 hfb3 N3 D3 N13 HAD c0 q0'
        go_wp2_with (at_builtin; go_loud (refine app_numG w3 rfl (.tmp 38) (.tmp 40) rfl w.heap.size (.slice (some ⟨b6, 0, none⟩) (D1 + 1) c6) (os.take (D1 + 1)) n rfl HCUT.out _ rfl rfl hl0 hsz3 ?_; intro v7 w7 ho7 hg7 hf7; have HO7 := Lib.hid ho7; have HG7 := Lib.hid hg7; have HF7 := Lib.hid hf7; clear ho7 hg7 hf7))
        go_roundw
        case rel =>
          refine ⟨j + 1, .slice A3 (rootsTo M.length (parI (ros x)) j).length c3, v7, os.take (D1 + 1) ++ [n], F3, rfl, rfl, by go_num, by omega, ?_, HO7.out, by rw [← HNN.out]; exact HSTK2.out, ?_, next_grown HN13.out HG7.out fun b hb => (owns_lt HNB3.out hb).1, HFA3.out, fun b hb hf => ?_, fun b hb hb2 => ?_⟩
          · rw [HROOT.out]
            exact nw_row HNA3.out HG7.out fun b hb e => HAP.out b hb e
          · rw [HLOAD.out]
            exact HD3.out.grown HG7.out HFB3.out
          · rcases HF7.out b hb with h | h
            · exact HFB3.out b h hf
            · have h1 := HD3.out.bd b hf
              omega
          · rcases HF7.out b hb2 with h | h
            · exact HAP.out b hb h
            · have := (owns_lt HNA3.out hb).2.1
              omega
        case measure => (simp [intOf]; try omega)
    · obtain rfl : j = x.length := by omega
      go_wp2
      go_ret
      exact ⟨u, rfl, HNW.out, Fj, HDJ.out, HNX.out, HFR.out⟩
end Go.Proofs.Ytfnffplnoicjcaa.Ar

namespace Go.Proofs.Ytfnffplnoicjcaa.Ar
set_option maxRecDepth 100000
set_option linter.unusedSimpArgs false
set_option linter.unusedVariables false
open Go.RowKit Ba
open Ro (At Ro Cw ros Rr Ow Nw Fr Att Ap Sh Ra Rv Held cells acells app_num below_new infoI info_row len_cells rowV rowO Few right check check1)
set_option maxRecDepth 100000 in
set_option maxHeartbeats 4000000 in
theorem loadP1 {p N : Nat} {F : Nat → Prop} {M : List Nd} (v : Value) (x : List Cw) (w : World) (D : Doc12 w N F p M) (W : Wf M) (hm : M.length ≤ 4500) (hv : ∀ w', Touch F w w' → Rv w' v x) (hxl : x.length ≤ 400) (hfw : Few (ros x)) :
    Calls Try.prog 8 #[.pointer (some ⟨p, 0, none⟩), v] w fun e w' => ∃ u, e = .returned (.tuple #[u, .int .i64 (loadE M (ros x))]) ∧ Nw w.heap.size w' u (if loadE M (ros x) = 0 then rootsTo M.length (parI (ros x)) x.length else []) ∧ ∃ F', Doc12 w' N F' p (if loadE M (ros x) = 0 then loadTo M.length (ros x) (parI (ros x)) M x.length else M) ∧ Next w w' F F' ∧ ∀ b, u.ownBlock = some b → ¬ F' b := by
  have hv0 := hv w (Touch.refl F w)
  obtain ⟨q, hq⟩ : ∃ q, check (ros x) = q := ⟨_, rfl⟩
  have HCK := Lib.hid (check1 v x w q hv0 (by omega) hq)
  obtain ⟨A, c, rfl, hc, hcm, hrr, hheld⟩ := hv0
  have HD := Lib.hid D
  have hlr : (ros x).length = x.length := Ro.len_ros x
  by_cases hq0 : q = 0
  · subst hq0
    obtain ⟨q2, hq2⟩ : ∃ q2, decide (4096 < M.length + x.length) = q2 := ⟨_, rfl⟩
    have HEX := Lib.hid (show ∀ w', Below w.heap.size w w' → Calls Try.prog 21 #[.pointer (some ⟨p, 0, none⟩), .int .i64 x.length] w' fun e w'' => e = .returned (.bool q2) ∧ w'' = w' from fun w' hb => by
      obtain ⟨gE, cE, lE, D1⟩ := D.below hb
      exact exceeds1 x.length w' D1 (by omega) (by omega) q2 hq2)
    cases q2 with
    | true =>
      have hbig := of_decide_eq_true hq2
      have e1 : loadE M (ros x) = 2 := by unfold loadE; rw [hq, if_pos rfl, hlr, if_pos hbig]
      rw [e1, if_neg (by decide), if_neg (by decide)]
      clear hq hrr hheld hv hlr e1 D hbig hq2
      go_enter Try.func8, Try.ntmps8
      go_wp2_with fail
      refine HCK.out.mono ?_
      rintro e w1 ⟨rfl, hb⟩
      have HB := Lib.hid hb
      clear hb
      go_wp2_with fail
      refine (HEX.out w1 HB.out).mono ?_
      rintro e w2 ⟨rfl, rfl⟩
      go_wp2
      go_ret2
      exact ⟨_, rfl, nw_nil _ _, F, HD.out.below HB.out, Next.of_below HB.out, fun b hb => (by cases hb)⟩
    | false =>
      have hbig := of_decide_eq_false hq2
      have e1 : loadE M (ros x) = 0 := by unfold loadE; rw [hq, if_pos rfl, hlr, if_neg hbig]
      rw [e1, if_pos rfl, if_pos rfl]
      have hG := fun (w1 : World) (hb : Below w.heap.size w w1) => growP1 (p := p) (N := N) (F := F) (M := M) (.slice A x.length c) x w1 (D.below hb) W (by omega) (fun w' t => hv w' ((Touch.of_below (F := F) hb).trans t fun _ _ h => h)) hfw (check_right hq)
      have HG := Lib.hid hG
      clear hq hrr hheld hv hlr e1 D hbig hq2 hG
      go_enter Try.func8, Try.ntmps8
      go_wp2_with fail
      refine HCK.out.mono ?_
      rintro e w1 ⟨rfl, hb⟩
      have HB := Lib.hid hb
      clear hb
      go_wp2_with fail
      refine (HEX.out w1 HB.out).mono ?_
      rintro e w2 ⟨rfl, rfl⟩
      go_wp2_with fail
      refine (HG.out _ HB.out).mono ?_
      rintro e w3 ⟨u, rfl, hnw, F3, D3, N3, hf3⟩
      have HNW := Lib.hid hnw; have HD3 := Lib.hid D3; have HN3 := Lib.hid ((Next.of_below HB.out).trans N3); have HF3 := Lib.hid hf3
      clear hnw D3 N3 hf3
      go_wp2
      go_ret2
      exact ⟨_, rfl, World.ownsRow.mono HNW.out HB.out.size, F3, HD3.out, HN3.out, HF3.out⟩
  · have e1 : loadE M (ros x) = q := by unfold loadE; rw [hq, if_neg hq0]
    rw [e1, if_neg hq0, if_neg hq0]
    have hqb : (q == 0) = false := by simpa using hq0
    clear hq hrr hheld hv hlr e1 D
    go_enter Try.func8, Try.ntmps8
    go_wp2_with fail
    refine HCK.out.mono ?_
    rintro e w1 ⟨rfl, hb⟩
    have HB := Lib.hid hb
    clear hb
    go_wp2
    go_ret2
    exact ⟨_, rfl, nw_nil _ _, F, HD.out.below HB.out, Next.of_below HB.out, fun b hb => (by cases hb)⟩
end Go.Proofs.Ytfnffplnoicjcaa.Ar

namespace Go.Proofs.Ytfnffplnoicjcaa.Ar
set_option maxRecDepth 100000
set_option linter.unusedSimpArgs false
set_option linter.unusedVariables false
open Go.RowKit Ba
open Ro (At Ro Cw ros Rr Ow Nw app_num below_new)
set_option maxRecDepth 100000 in
set_option maxHeartbeats 2000000 in
theorem withinP1 {p N gE cE : Nat} {F : Nat → Prop} {M : List Nd} {lE : List Ew} (n o : Int) (w : World) (D : PD w N F p M gE cE lE) (W : Wf M) (hm : M.length ≤ 5000) (q : Bool) (hq : q = true ↔ Win M n o) :
    Calls Try.prog 29 #[.pointer (some ⟨p, 0, none⟩), .int .i64 n, .int .i64 o] w fun e w' => e = .returned (.bool q) ∧ w' = w := by
  have hx := D.x
  have hcap := D.obj.2.2.1
  have HH1 := Lib.hid (has1 n w D _ rfl)
  have HH2 := Lib.hid (has1 o w D _ rfl)
  have HU := Lib.hid (fun k => D.upAt (k := k))
  have HQ := Lib.hid hq
  clear D hq
  by_cases hn : 0 ≤ n ∧ n < M.length ∧ 0 ≤ o ∧ o < M.length
  · obtain ⟨n0, n1, o0, o1⟩ := hn
    have e1 : hasB M n = true := hasB_iff.2 ⟨n0, n1⟩
    have e2 : hasB M o = true := hasB_iff.2 ⟨o0, o1⟩
    rw [e1] at HH1
    rw [e2] at HH2
    obtain ⟨h, H⟩ := W.acyc
    have HH := Lib.hid H
    clear H e1 e2
    go_enter Try.func29, Try.ntmps29
    go_wp2_with fail
    refine HH1.out.mono ?_
    rintro e w1 ⟨rfl, rfl⟩
    go_wp2_with fail
    refine HH2.out.mono ?_
    rintro e w1 ⟨rfl, rfl⟩
    go_wp2
    go_loop [1] (fun v => ∃ d : Int, v = .int .i64 d ∧ -1 ≤ d ∧ d < M.length ∧ Hid (Win M d o ↔ Win M n o)) (fun v => stepM h (intOf v))
    case atStart => exact ⟨n, rfl, by omega, n1, Lib.hid Iff.rfl⟩
    case round =>
      obtain ⟨d, rfl, hd1, hd2, hd⟩ := hrel
      by_cases h0 : 0 ≤ d
      · obtain ⟨k, rfl⟩ : ∃ k : Nat, d = k := ⟨d.toNat, by omega⟩
        have hk : k < M.length := by omega
        have hcu := HU.out k hk
        by_cases he : (k : Int) = o
        · have hqt : q = true := HQ.out.2 (hd.out.1 (by rw [← he]; exact win_nat.2 (.refl hk)))
          have HQT := Lib.hid hqt
          clear hqt
          go_wp2
          go_ret
          exact ⟨ret_bool (by rw [HQT.out]), rfl⟩
        · obtain ⟨y, hy⟩ : ∃ y, (nd M k).up = y := ⟨_, rfl⟩
          have hlow : -1 ≤ y := by rw [← hy]; exact W.low k
          have hyl : y < M.length := by
            by_cases hy0 : 0 ≤ y
            · have := W.up_lt (c := k) (p := y.toNat) hk (by rw [hy]; omega)
              omega
            · omega
          have hstep : Win M y o ↔ Win M n o := by
            rw [← hd.out]
            unfold Win
            constructor
            · rintro ⟨a1, a2, a3⟩
              refine ⟨by omega, a2, .step hk ?_ a3⟩
              show (nd M k).up = _
              rw [hy]
              omega
            · rintro ⟨a1, a2, a3⟩
              rcases up_iff.1 a3 with ⟨_, e | ⟨p', e, a4⟩⟩
              · exfalso
                apply he
                have : k = o.toNat := e
                omega
              · have e : (nd M k).up = (p' : Int) := e
                rw [hy] at e
                subst e
                exact ⟨by omega, a2, by simpa using a4⟩
          have hmeas : stepM h y < stepM h k := by
            unfold stepM
            rw [if_neg (by omega : ¬ (k : Int) < 0)]
            by_cases hy0 : y < 0
            · rw [if_pos hy0]
              omega
            · rw [if_neg hy0]
              have := HH.out k y.toNat hk (by rw [hy]; omega)
              have e : (k : Int).toNat = k := by omega
              rw [e]
              omega
          have HS := Lib.hid hstep; have HM := Lib.hid hmeas
          rw [hy] at hcu
          have hek : ((k : Int) != o) = true := by simpa using he
          have hk1 : ¬ (k : Int) = -1 := by omega
          have hk2 : ((k : Int) != -1) = true := by simp
          clear hd hstep hmeas hy
          go_wp2
          go_round
          case rel => exact ⟨y, rfl, hlow, hyl, HS⟩
          case measure => exact HM.out
      · have hqf : q = false := by
          rw [← Bool.not_eq_true, HQ.out, ← hd.out]
          intro h
          exact h0 h.1
        have HQF := Lib.hid hqf
        obtain rfl : d = -1 := by omega
        have ho1 : ¬ (-1 : Int) = o := by omega
        have ho2 : ((-1 : Int) != o) = true := by simpa using ho1
        have ho3 : ((-1 : Int) == o) = false := by simpa using ho1
        clear hqf
        go_wp2
        go_ret
        exact ⟨ret_bool (by rw [HQF.out]), rfl⟩
  · have hqf : false = q := by
      symm
      rw [← Bool.not_eq_true, HQ.out]
      intro h
      exact hn (win_lt h)
    subst hqf
    clear HQ HU
    by_cases a1 : 0 ≤ n ∧ n < M.length
    · have e1 : hasB M n = true := hasB_iff.2 a1
      have e2 : hasB M o = false := by
        rw [← Bool.not_eq_true, hasB_iff]
        exact fun h => hn ⟨a1.1, a1.2, h⟩
      rw [e1] at HH1
      rw [e2] at HH2
      clear e1 e2
      go_enter Try.func29, Try.ntmps29
      go_wp2_with fail
      refine HH1.out.mono ?_
      rintro e w1 ⟨rfl, rfl⟩
      go_wp2_with fail
      refine HH2.out.mono ?_
      rintro e w1 ⟨rfl, rfl⟩
      go_wp2
      go_ret
      exact ⟨rfl, rfl⟩
    · have e1 : hasB M n = false := by
        rw [← Bool.not_eq_true, hasB_iff]
        exact a1
      rw [e1] at HH1
      clear e1
      go_enter Try.func29, Try.ntmps29
      go_wp2_with fail
      refine HH1.out.mono ?_
      rintro e w1 ⟨rfl, rfl⟩
      go_wp2
      go_ret
      exact ⟨rfl, rfl⟩
end Go.Proofs.Ytfnffplnoicjcaa.Ar

namespace Go.Proofs.Ytfnffplnoicjcaa.Ar
set_option maxRecDepth 100000
set_option linter.unusedSimpArgs false
set_option linter.unusedVariables false
open Go.RowKit Ba
open Ro (At Ro Cw ros Rr Ow Nw app_num below_new)
theorem erase_filter {n : Nat} : ∀ (l : List Nat) (k : Nat), l.Nodup → l[k]? = some n → l.eraseIdx k = l.filter (· != n)
  | [], k, _, h => by simp at h
  | a :: r, 0, hn, h => by
    have h : a = n := by simpa using h
    subst h
    obtain ⟨h1, _⟩ := List.nodup_cons.1 hn
    rw [List.eraseIdx_cons_zero, List.filter_cons_of_neg (by simp)]
    symm
    rw [List.filter_eq_self]
    intro c hc
    rw [bne_iff_ne]
    intro e
    exact h1 (e ▸ hc)
  | a :: r, k + 1, hn, h => by
    have h : r[k]? = some n := by simpa using h
    obtain ⟨h1, h2⟩ := List.nodup_cons.1 hn
    have hne : a ≠ n := fun e => h1 (e ▸ List.mem_of_getElem? h)
    rw [List.eraseIdx_cons_succ, List.filter_cons_of_pos (by simpa using hne), erase_filter r k h2 h]
theorem take_same {M : List Nd} (W : Wf M) {n : Nat} (hn : n < M.length) (hup : (nd M n).up = -1) : takeOut M n = M := by
  refine ext_nd (len_take M n) fun m _ => ?_
  rw [nd_take, filter_none W hup]
  by_cases e : m = n
  · subst e
    rw [if_pos rfl, ← hup]
  · rw [if_neg e]
theorem up_ne {M : List Nd} (W : Wf M) {n P : Nat} (hn : n < M.length) (hup : (nd M n).up = (P : Int)) : P ≠ n := fun e => by
  obtain ⟨h, H⟩ := W.acyc
  have := H n P hn hup
  rw [e] at this
  omega
set_option maxRecDepth 100000 in
set_option maxHeartbeats 4000000 in
theorem detachP1 {p N : Nat} {F : Nat → Prop} {M : List Nd} (n : Nat) (w : World) (D : Doc12 w N F p M) (W : Wf M) (hm : M.length ≤ 5000) (hn : n < M.length) :
    Calls Try.prog 34 #[.pointer (some ⟨p, 0, none⟩), .int .i64 n] w fun e w' => e = .returned (.tuple #[]) ∧ ∃ F', Doc12 w' N F' p (takeOut M n) ∧ Next w w' F F' := by
  have D0 := Lib.hid D
  obtain ⟨gE, cE, lE, D⟩ := D
  have hx := D.x
  have hcap := D.obj.2.2.1
  have hni : (n : Int) < M.length := by omega
  have hun := D.upAt hn
  by_cases hup : (nd M n).up = -1
  · rw [take_same W hn hup]
    rw [hup] at hun
    clear D
    go_enter Try.func34, Try.ntmps34
    go_wp2
    first | go_end0 | refine bodyPost_ret (results_none rfl _ _ _) rfl ?_
    exact ⟨rfl, F, D0.out, Next.refl w F⟩
  · have hlow := W.low n
    obtain ⟨P, hP⟩ : ∃ P : Nat, (nd M n).up = P := ⟨(nd M n).up.toNat, by omega⟩
    have hPl := W.up_lt hn hP
    have hne := up_ne W hn hP
    rw [hP] at hun
    obtain ⟨e, he, hen, hek, hok, hoa, c6, c5, c4⟩ := D.kidsOf hPl
    have hmem : n ∈ e.kids := by rw [hek]; exact (W.kid P n).2 ⟨hn, hP⟩
    obtain ⟨at_, hat, hatn⟩ := List.getElem_of_mem hmem
    have hkl : e.kids.length ≤ 5000 := by rw [hek]; exact kids_bound W hm P
    have hnd : e.kids.Nodup := by rw [hek]; exact W.nodup P
    have HD := Lib.hid D
    have HOK := Lib.hid (show Of w N 3 1 e.K e.kids.length e.kc (e.kids.map nv) from hok)
    have HE := Lib.hid he; have HEN := Lib.hid hen; have HEK := Lib.hid hek; have HOA := Lib.hid hoa
    have hgl := D.obj.2.1
    have hPi : (P : Int) < M.length := by omega
    have HKC := Lib.hid (show ∃ g, e.K = some ⟨g, 0, none⟩ ∧ ∀ j (h : j < e.kids.length), w.cell? ⟨g, j, none⟩ = some (.int .i64 (e.kids[j] : Nat)) from by
      rcases Of.obj hok with ⟨_, h0, _⟩ | ⟨g, cur, hA, _⟩
      · omega
      · exact ⟨g, hA, fun j hj => (Of.cells hok hA j _ (by rw [List.getElem?_map, List.getElem?_eq_getElem hj]; rfl)).1⟩)
    have hkeep : ∀ w', Touch (fun b => blkOf e.K = some b) w w' → ∀ j, w'.cell? ⟨p, j, none⟩ = w.cell? ⟨p, j, none⟩ ∧ w'.cell? ⟨gE, j, none⟩ = w.cell? ⟨gE, j, none⟩ ∧ w'.frozen? ⟨gE, j, none⟩ = false := fun w' t j => by
      obtain ⟨_, _, _, _, cc, ff, hoE⟩ := D.obj
      have h1 : ¬ blkOf e.K = some p := fun hb => by
        obtain ⟨_, _, _, _, _, hh⟩ := ok_obj hok hb
        exact type_ne hh D.box (by decide) rfl
      have h2 : ¬ blkOf e.K = some gE := fun hb => by
        obtain ⟨_, _, _, _, _, hh⟩ := ok_obj hok hb
        exact type_ne hh hoE (by decide) rfl
      obtain ⟨h3, h4⟩ := touch_cell t hgl h2 j
      exact ⟨(touch_cell t D.p_lt h1 j).1, h3, h4.trans (D.frz j)⟩
    have HK := Lib.hid hkeep; have HN := Lib.hid D.hN
    have HPU := Lib.hid hP
    have HAT := Lib.hid hatn; have HND := Lib.hid hnd
    have hP1 : ¬ (P : Int) = -1 := by omega
    have hPb : ((P : Int) == -1) = false := by simp
    clear D hok hoa he hen hek hkeep c5 c4 hup hlow hmem hatn hnd
    obtain ⟨gK, hgK, hcell⟩ := HKC.out
    rw [hgK] at c6
    have HCL := Lib.hid hcell
    clear hcell HKC
    go_enter Try.func34, Try.ntmps34
    go_wp2
    go_loop [28] (fun v => ∃ j : Nat, v = .int .i64 j ∧ j ≤ at_) (fun v => e.kids.length - (intOf v).toNat)
    case atStart => exact ⟨0, rfl, Nat.zero_le _⟩
    case round =>
      obtain ⟨j, rfl, hj⟩ := hrel
      have hjl : j < e.kids.length := by omega
      have hji : (j : Int) < e.kids.length := by omega
      have hkc := HCL.out j hjl
      obtain ⟨k, hk⟩ : ∃ k, e.kids[j] = k := ⟨_, rfl⟩
      rw [hk] at hkc
      by_cases hkn : k = n
      · have hkn2 := hkn.symm
        subst hkn2
        clear hkn
        have hja : j = at_ := by
          apply Decidable.byContradiction
          intro hne2
          have := List.pairwise_iff_getElem.1 HND.out j at_ hjl hat (by omega)
          exact this (hk.trans HAT.out.symm)
        subst hja
        have hskl : e.kids.length - 1 ≤ 5000 := by omega
        clear hk
        go_wp2
        have hw1 := withoutI1 (l := e.kids) (A := e.K) (c := e.kc) (N := N) j w HOK.out hjl (by omega) HN.out
        have hw2 := withoutI1 (l := e.kids) (A := e.K) (c := e.kc) (N := N) j w.drew HOK.out hjl (by omega) HN.out
        rw [hgK] at hw1 hw2
        have HW1 := Lib.hid hw1; have HW2 := Lib.hid hw2
        clear hw1 hw2
        go_region_law (go_simp; go_at_call 58; (first | refine HW1.out.mono ?_ | refine HW2.out.mono ?_); rintro e5 w5 ⟨A5, k5, rfl, ho5, ht5, hb5⟩; have ht5' : Touch (fun b => blkOf e.K = some b) w w5 := ⟨ht5.os, ht5.tape, ht5.output, ht5.size, fun b hb hn => ht5.block b hb (by rw [← hgK]; exact hn)⟩; have d0 := ((HK.out w5 ht5') 0).1.trans hx; have d6 := ((HK.out w5 ht5') (P * 7 + 6)).2.1.trans c6; have dF := ((HK.out w5 ht5') (P * 7 + 6)).2.2; have HO5 := Lib.hid ho5; have HT5 := Lib.hid ht5'; have HB5 := Lib.hid hb5; clear ho5 ht5 hb5 ht5')
        all_goals go_simp
        all_goals
          have hl1 : (e.kids.eraseIdx j).length = e.kids.length - 1 := List.length_eraseIdx_of_lt hjl
          have hoaw : OA w5 N e.x := HOA.out.block fun g hg => by
            obtain ⟨_, _, h3, _, _, hh⟩ := oa_obj HOA.out hg
            exact HT5.out.block g h3 fun hb => by
              obtain ⟨_, _, _, _, _, hh2⟩ := ok_obj HOK.out hb
              exact type_ne hh hh2 (by decide) rfl
          have hokw : OK w5 N A5 k5 (e.kids.eraseIdx j) := by
            unfold OK
            rw [hl1]
            exact HO5.out
          obtain ⟨P6, N6⟩ := HD.out.put (e' := ⟨e.x, e.up, A5, k5, e.kids.eraseIdx j⟩) HE.out (w' := w5) (HT5.out.mono fun b _ hb => .inr hb) (j := 6) (by decide) (.slice A5 (e.kids.length - 1) k5) (by rw [← hl1]; rfl) hoaw hokw (fun g hg => .inl hg) (fun g hg => by
            rcases HB5.out g hg with h | h
            · left
              unfold bK
              rw [hgK]
              exact h
            · exact .inr h)
          obtain ⟨w6, hw6⟩ : ∃ w6, w5.setCell ⟨gE, P * 7 + 6, none⟩ (.slice A5 (e.kids.length - 1) k5) = w6 := ⟨_, rfl⟩
          rw [hw6] at P6 N6
          rw [hw6]
          have hl6 : (M.set P (nodeOf ⟨e.x, e.up, A5, k5, e.kids.eraseIdx j⟩)).length = M.length := List.length_set
          obtain ⟨e2, he2, hen2, _, hok2, hoa2, _, c5', _⟩ := P6.kidsOf (k := n) (by rw [hl6]; exact hn)
          have x6 := P6.x
          rw [hl6] at x6
          have f6 := P6.frz (n * 7 + 5)
          obtain ⟨P7, N7⟩ := P6.put (e' := ⟨e2.x, -1, e2.K, e2.kc, e2.kids⟩) he2 (w' := w6) (Touch.refl _ _) (j := 5) (by decide) (.int .i64 (-1)) rfl hoa2 hok2 (fun g hg => .inl hg) (fun g hg => .inl hg)
          have HP7 := Lib.hid P7; have HN7 := Lib.hid (N6.trans N7); have HEN2 := Lib.hid hen2
          have hM : takeOut M n = (M.set P (nodeOf ⟨e.x, e.up, A5, k5, e.kids.eraseIdx j⟩)).set n (nodeOf ⟨e2.x, -1, e2.K, e2.kc, e2.kids⟩) := by
            refine ext_nd (by rw [len_take, List.length_set, List.length_set]) fun m hmm => ?_
            have hn2 := HEN2.out
            rw [nd_setL hPl, if_neg (fun e => hne e.symm)] at hn2
            have r2 : ({ e2.x.ro with depth := 0 } : Ro) = (nd M n).ro := by rw [← hn2]; rfl
            have k2 : e2.kids = (nd M n).kids := by rw [← hn2]; rfl
            have r1 : ({ e.x.ro with depth := 0 } : Ro) = (nd M P).ro := by rw [← HEN.out]; rfl
            have u1 : e.up = (nd M P).up := by rw [← HEN.out]; rfl
            have hother : ∀ m, m ≠ P → (nd M m).kids.filter (· != n) = (nd M m).kids := fun m hmP => by
              rw [List.filter_eq_self]
              intro c hc
              rw [bne_iff_ne]
              intro e3
              subst e3
              have := ((W.kid m c).1 hc).2
              have h2 := HPU.out
              omega
            have hkf := erase_filter (n := n) e.kids j HND.out (by rw [List.getElem?_eq_getElem hjl]; exact congrArg some HAT.out)
            rw [nd_take, nd_setL (by rw [List.length_set]; exact hn), nd_setL hPl]
            by_cases e1 : m = n
            · subst e1
              rw [if_pos rfl, if_pos rfl, hother m (fun e => hne e.symm)]
              unfold nodeOf
              simp only
              rw [r2, k2]
            · rw [if_neg e1, if_neg e1]
              by_cases e3 : m = P
              · subst e3
                rw [if_pos rfl]
                unfold nodeOf
                simp only
                rw [r1, u1, hkf, HEK.out]
              · rw [if_neg e3, hother m e3]
          have HM := Lib.hid hM
          clear P6 N6 P7 N7 hw6 hoaw hokw hl6 he2 hok2 hoa2 hen2 hx c6 d0 d6 dF hM hun hkc
          go_wp2
          first | go_end0 | refine bodyPost_ret (results_none rfl _ _ _) rfl ?_
          rw [HM.out]
          exact ⟨rfl, _, ⟨_, _, _, HP7.out⟩, HN7.out⟩
      · have hkb : ((k : Int) == (n : Int)) = false := by
          have : ¬ (k : Int) = n := by omega
          simpa using this
        have hjn : j ≠ at_ := fun e2 => by
          subst e2
          exact hkn (hk.symm.trans HAT.out)
        clear hk
        go_wp2
        go_round
        case rel => exact ⟨j + 1, by go_num, by omega⟩
        case measure => (simp [intOf]; try omega)
theorem removeP1 {p N : Nat} {F : Nat → Prop} {M : List Nd} (n : Int) (w : World) (D : Doc12 w N F p M) (W : Wf M) (hm : M.length ≤ 5000) (q : Int) (hq : (if 1 ≤ n ∧ n < M.length then (0 : Int) else 110) = q) :
    Calls Try.prog 30 #[.pointer (some ⟨p, 0, none⟩), .int .i64 n] w fun e w' => e = .returned (.int .i64 q) ∧ ∃ F', Doc12 w' N F' p (if 1 ≤ n ∧ n < M.length then takeOut M n.toNat else M) ∧ Next w w' F F' := by
  have HD := Lib.hid D
  have hmv : Calls Try.prog 31 #[.pointer (some ⟨p, 0, none⟩), .int .i64 n] w fun e w' => e = .returned (.bool (movB M n)) ∧ w' = w := by
    obtain ⟨gE, cE, lE, D⟩ := D
    exact movable1 n w D _ rfl
  have HMV := Lib.hid hmv
  clear hmv D
  by_cases hn : 1 ≤ n ∧ n < M.length
  · rw [if_pos hn] at hq ⊢
    subst hq
    have e1 : movB M n = true := movB_iff.2 ⟨by omega, hn.2⟩
    rw [e1] at HMV
    obtain ⟨k, rfl⟩ : ∃ k : Nat, n = k := ⟨n.toNat, by omega⟩
    have HDE := Lib.hid (detachP1 k w HD.out W hm (by omega))
    rw [Int.toNat_natCast]
    clear e1
    go_enter Try.func30, Try.ntmps30
    go_wp2_with fail
    refine HMV.out.mono ?_
    rintro e w1 ⟨rfl, rfl⟩
    go_wp2_with fail
    refine HDE.out.mono ?_
    rintro e w2 ⟨rfl, F2, D2, N2⟩
    have HD2 := Lib.hid D2; have HN2 := Lib.hid N2
    clear D2 N2
    go_wp2
    go_ret
    exact ⟨rfl, F2, HD2.out, HN2.out⟩
  · rw [if_neg hn] at hq ⊢
    subst hq
    have e1 : movB M n = false := by rw [← Bool.not_eq_true, movB_iff]; omega
    rw [e1] at HMV
    clear e1
    go_enter Try.func30, Try.ntmps30
    go_wp2_with fail
    refine HMV.out.mono ?_
    rintro e w1 ⟨rfl, rfl⟩
    go_wp2
    go_ret
    exact ⟨rfl, F, HD.out, Next.refl w1 F⟩
end Go.Proofs.Ytfnffplnoicjcaa.Ar

namespace Go.Proofs.Ytfnffplnoicjcaa.Ar
set_option maxRecDepth 100000
set_option linter.unusedSimpArgs false
set_option linter.unusedVariables false
open Go.RowKit Ba
open Ro (At Ro Cw ros Rr Ow Nw app_num below_new)
theorem set_take {M : List Nd} {P n : Nat} (hP : P < M.length) (hn : n < M.length) (hne : P ≠ n) (i : Nat) {x y : Nd} (hx : x = ⟨(nd M P).ro, (nd M P).up, putAt10 ((nd M P).kids.filter (· != n)) i n⟩) (hy : y = ⟨(nd M n).ro, P, (nd M n).kids.filter (· != n)⟩) : setM M P i n = ((takeOut M n).set P x).set n y := by
  refine ext_nd (by rw [len_set, List.length_set, List.length_set, len_take]) fun m hm => ?_
  rw [nd_set hP hn, nd_setL (by rw [List.length_set, len_take]; exact hn), nd_setL (by rw [len_take]; exact hP), nd_take]
  by_cases e1 : m = n
  · subst e1
    rw [if_pos rfl, if_neg (fun e => hne e.symm), if_pos rfl, hy]
  · rw [if_neg e1, if_neg e1, if_neg e1]
    by_cases e2 : m = P
    · subst e2
      rw [if_pos rfl, if_pos rfl, hx]
    · rw [if_neg e2, if_neg e2]
set_option maxRecDepth 100000 in
set_option maxHeartbeats 8000000 in
theorem insertP1 {p N : Nat} {F : Nat → Prop} {M : List Nd} (P A n : Int) (w : World) (D : Doc12 w N F p M) (W : Wf M) (hm : M.length ≤ 5000) :
    Calls Try.prog 11 #[.pointer (some ⟨p, 0, none⟩), .int .i64 P, .int .i64 A, .int .i64 n] w fun e w' => e = .returned (.int .i64 (insE M P A n)) ∧ ∃ F', Doc12 w' N F' p (insM M P A n) ∧ Next w w' F F' := by
  have HD := Lib.hid D
  obtain ⟨gE, cE, lE, D⟩ := D
  have HHA := Lib.hid (has1 P w D _ rfl)
  have HMV := Lib.hid (movable1 n w D _ rfl)
  have HHD := Lib.hid (holdsData1 P w D _ rfl)
  by_cases h : P < 0 ∨ (M.length : Int) ≤ P ∨ n < 1 ∨ (M.length : Int) ≤ n
  · obtain ⟨e1, e2⟩ := ins_110 (A := A) h
    rw [e1, e2]
    clear D e1 e2 HHD
    by_cases hh : hasB M P = true
    · have hmv : movB M n = false := by
        rw [← Bool.not_eq_true, movB_iff]
        have := hasB_iff.1 hh
        omega
      rw [hh] at HHA
      rw [hmv] at HMV
      clear hh hmv
      go_enter Try.func11, Try.ntmps11
      go_wp2_with fail
      refine HHA.out.mono ?_
      rintro e w1 ⟨rfl, rfl⟩
      go_wp2_with fail
      refine HMV.out.mono ?_
      rintro e w1 ⟨rfl, rfl⟩
      go_wp2
      go_ret
      exact ⟨rfl, F, HD.out, Next.refl _ F⟩
    · rw [Bool.not_eq_true] at hh
      rw [hh] at HHA
      clear hh HMV
      go_enter Try.func11, Try.ntmps11
      go_wp2_with fail
      refine HHA.out.mono ?_
      rintro e w1 ⟨rfl, rfl⟩
      go_wp2
      go_ret
      exact ⟨rfl, F, HD.out, Next.refl _ F⟩
  · have hh : hasB M P = true := hasB_iff.2 ⟨by omega, by omega⟩
    have hmv : movB M n = true := movB_iff.2 ⟨by omega, by omega⟩
    rw [hh] at HHA
    rw [hmv] at HMV
    have HW1 := Lib.hid (fun (q : Bool) (hq : q = true ↔ Win M P n) => withinP1 P n w D W hm q hq)
    obtain ⟨k, hk⟩ : ∃ k : Nat, P = k := ⟨P.toNat, by omega⟩
    obtain ⟨m, hmn⟩ : ∃ m : Nat, n = m := ⟨n.toNat, by omega⟩
    subst hk hmn
    have hkl : k < M.length := by omega
    have hml : m < M.length := by omega
    have HOT := Lib.hid (others1 k m w D hkl hml W (by omega))
    by_cases h2 : (0 < (k : Int) ∧ (nd M (k : Int).toNat).ro.kind ≠ 0) ∨ Win M k m
    · obtain ⟨e1, e2⟩ := ins_111 (A := A) h h2
      rw [e1, e2]
      clear e1 e2 D HOT
      by_cases hd : holdB M k = true
      · rw [hd] at HHD
        clear hd HW1 h2
        go_enter Try.func11, Try.ntmps11
        go_wp2_with fail
        refine HHA.out.mono ?_
        rintro e w1 ⟨rfl, rfl⟩
        go_wp2_with fail
        refine HMV.out.mono ?_
        rintro e w1 ⟨rfl, rfl⟩
        go_wp2_with fail
        refine HHD.out.mono ?_
        rintro e w1 ⟨rfl, rfl⟩
        go_wp2
        go_ret
        exact ⟨rfl, F, HD.out, Next.refl _ F⟩
      · have hwin : Win M k m := by
          rcases h2 with h2 | h2
          · exfalso
            apply hd
            unfold holdB
            rw [Bool.and_eq_true, movB_iff]
            exact ⟨⟨h2.1, by omega⟩, decide_eq_true h2.2⟩
          · exact h2
        rw [Bool.not_eq_true] at hd
        rw [hd] at HHD
        have HWI := Lib.hid (HW1.out true ⟨fun _ => hwin, fun _ => rfl⟩)
        clear hd HW1 h2 hwin
        go_enter Try.func11, Try.ntmps11
        go_wp2_with fail
        refine HHA.out.mono ?_
        rintro e w1 ⟨rfl, rfl⟩
        go_wp2_with fail
        refine HMV.out.mono ?_
        rintro e w1 ⟨rfl, rfl⟩
        go_wp2_with fail
        refine HHD.out.mono ?_
        rintro e w1 ⟨rfl, rfl⟩
        go_wp2_with fail
        refine HWI.out.mono ?_
        rintro e w1 ⟨rfl, rfl⟩
        go_wp2
        go_ret
        exact ⟨rfl, F, HD.out, Next.refl _ F⟩
    · have hd : holdB M k = false := by
        rw [← Bool.not_eq_true]
        intro hd
        unfold holdB at hd
        rw [Bool.and_eq_true, movB_iff] at hd
        exact h2 (.inl ⟨hd.1.1, of_decide_eq_true hd.2⟩)
      have hnw : ¬ Win M k m := fun h3 => h2 (.inr h3)
      rw [hd] at HHD
      have HWI := Lib.hid (HW1.out false ⟨fun h => (by cases h), fun h => absurd h hnw⟩)
      clear hd HW1
      by_cases h3 : A < 0 ∨ (((nd M (k : Int).toNat).kids.filter (· != (m : Int).toNat)).length : Int) < A
      · obtain ⟨e1, e2⟩ := ins_1 h h2 h3
        rw [e1, e2]
        clear e1 e2 D
        by_cases ha : A < 0
        · clear HOT h3
          go_enter Try.func11, Try.ntmps11
          go_wp2_with fail
          refine HHA.out.mono ?_
          rintro e w1 ⟨rfl, rfl⟩
          go_wp2_with fail
          refine HMV.out.mono ?_
          rintro e w1 ⟨rfl, rfl⟩
          go_wp2_with fail
          refine HHD.out.mono ?_
          rintro e w1 ⟨rfl, rfl⟩
          go_wp2_with fail
          refine HWI.out.mono ?_
          rintro e w1 ⟨rfl, rfl⟩
          go_wp2
          go_ret
          exact ⟨rfl, F, HD.out, Next.refl _ F⟩
        · obtain ⟨L, hL⟩ : ∃ L, ((nd M k).kids.filter (· != m)).length = L := ⟨_, rfl⟩
          have h4 : (L : Int) < A := by
            rcases h3 with h3 | h3
            · exact absurd h3 ha
            · rw [← hL]
              exact h3
          rw [hL] at HOT
          clear h3 hL
          go_enter Try.func11, Try.ntmps11
          go_wp2_with fail
          refine HHA.out.mono ?_
          rintro e w1 ⟨rfl, rfl⟩
          go_wp2_with fail
          refine HMV.out.mono ?_
          rintro e w1 ⟨rfl, rfl⟩
          go_wp2_with fail
          refine HHD.out.mono ?_
          rintro e w1 ⟨rfl, rfl⟩
          go_wp2_with fail
          refine HWI.out.mono ?_
          rintro e w1 ⟨rfl, rfl⟩
          go_wp2_with fail
          refine HOT.out.mono ?_
          rintro e w1 ⟨rfl, rfl⟩
          go_wp2
          go_ret
          exact ⟨rfl, F, HD.out, Next.refl _ F⟩
      · obtain ⟨e1, e2⟩ := ins_0 h h2 h3
        rw [e1, e2, Int.toNat_natCast, Int.toNat_natCast]
        obtain ⟨a, rfl⟩ : ∃ a : Nat, A = a := ⟨A.toNat, by omega⟩
        rw [Int.toNat_natCast]
        obtain ⟨L, hL⟩ : ∃ L, ((nd M k).kids.filter (· != m)).length = L := ⟨_, rfl⟩
        have h4 : ¬ (L : Int) < a := fun h4 => h3 (.inr (by rw [← hL] at h4; exact h4))
        have hne : k ≠ m := fun e => hnw (by rw [e]; exact win_nat.2 (.refl hml))
        rw [hL] at HOT
        have HDE := Lib.hid (detachP1 m w HD.out W hm hml)
        have HL := Lib.hid hL
        have ha0 : ¬ (a : Int) < 0 := by omega
        clear h3 e1 e2 D hL h2 hnw h
        go_enter Try.func11, Try.ntmps11
        go_wp2_with fail
        refine HHA.out.mono ?_
        rintro e w1 ⟨rfl, rfl⟩
        go_wp2_with fail
        refine HMV.out.mono ?_
        rintro e w1 ⟨rfl, rfl⟩
        go_wp2_with fail
        refine HHD.out.mono ?_
        rintro e w1 ⟨rfl, rfl⟩
        go_wp2_with fail
        refine HWI.out.mono ?_
        rintro e w1 ⟨rfl, rfl⟩
        go_wp2_with fail
        refine HOT.out.mono ?_
        rintro e w1 ⟨rfl, rfl⟩
        go_wp2_with fail
        refine HDE.out.mono ?_
        rintro e w2 ⟨rfl, F2, ⟨gE, cE, lE, D⟩, N2⟩
        have hlt : (takeOut M m).length = M.length := len_take M m
        obtain ⟨e, he, hen, hek, hok, hoa, c6, c5, c4⟩ := D.kidsOf (k := k) (by rw [hlt]; exact hkl)
        have hx := D.x
        have hcap := D.obj.2.2.1
        rw [hlt] at hx hcap
        have hekl : e.kids.length = L := by rw [hek, nd_take]; exact HL.out
        have hal : a ≤ e.kids.length := by omega
        have hLl : L ≤ 5000 := by
          rw [← HL.out]
          exact Nat.le_trans (List.length_filter_le _ _) (kids_bound W hm k)
        have hgl := D.obj.2.1
        have hki : (k : Int) < M.length := by omega
        have hmi : (m : Int) < M.length := by omega
        have hw1 := withI1 (N := N) a m w2 hok hal (by omega) D.hN
        have hw2 := withI1 (N := N) a m w2.drew hok hal (by omega) D.hN
        rw [hekl] at hw1 hw2 c6
        have HW1 := Lib.hid hw1; have HW2 := Lib.hid hw2
        have HE := Lib.hid he; have HEN := Lib.hid hen; have HEK := Lib.hid hek; have HOA := Lib.hid hoa; have HOK := Lib.hid hok; have HEKL := Lib.hid hekl
        have HN2 := Lib.hid N2; have HD2 := Lib.hid D
        have hpl := D.p_lt
        have HF := Lib.hid (fun j => D.frz j)
        have hgE := HF.out (k * 7 + 6)
        clear hw1 hw2 he hen hek hok hoa D N2 hal hekl c5 c4
        go_upto_region 7 with (fail)
        go_cut [] from 44 to 61 (fun wx => ∃ A5 k5 w5, wx = w5.setCell ⟨gE, k * 7 + 6, none⟩ (.slice A5 (L + 1) k5) ∧ OK w5 N A5 k5 (putAt10 e.kids a m) ∧ Below w2.heap.size w2 w5 ∧ (∀ b, blkOf A5 = some b → w2.heap.size ≤ b))
        case first =>
          go_region_law (go_simp; go_at_call 35; (first | refine HW1.out.mono ?_ | refine HW2.out.mono ?_); rintro e5 w5 ⟨A5, k5, rfl, ho5, hb5, hn5⟩; have hb5' : Below w2.heap.size w2 w5 := ⟨hb5.os, hb5.tape, hb5.output, hb5.size, hb5.block⟩; have d0 := (hb5'.cell (p := ⟨p, 0, none⟩) hpl).trans hx; have d6 := (hb5'.cell (p := ⟨gE, k * 7 + 6, none⟩) hgl).trans c6; have dF := (hb5'.frozen (p := ⟨gE, k * 7 + 6, none⟩) hgl).trans hgE; have HO5 := Lib.hid ho5; have HB5 := Lib.hid hb5'; have HN5 := Lib.hid hn5; clear ho5 hb5 hn5 hb5')
          all_goals go_simp
          all_goals go_wp2_with fail
          all_goals go_meet
          all_goals exact ⟨A5, k5, w5, rfl, HO5.out, HB5.out, HN5.out⟩
        case rest =>
        obtain ⟨A5, k5, w5, rfl, ho5, hb5, hn5⟩ := hcut
        have hl1 : (putAt10 e.kids a m).length = L + 1 := by rw [put_len, HEKL.out]
        have hoaw : OA w5 N e.x := HOA.out.block fun g hg => hb5.block g (oa_obj HOA.out hg).2.2.1
        obtain ⟨P6, N6⟩ := HD2.out.put (e' := ⟨e.x, e.up, A5, k5, putAt10 e.kids a m⟩) HE.out (w' := w5) (Touch.of_below hb5) (j := 6) (by decide) (.slice A5 (L + 1) k5) (by rw [← hl1]; rfl) hoaw ho5 (fun g hg => .inl hg) (fun g hg => .inr (hn5 g hg))
        obtain ⟨w6, hw6⟩ : ∃ w6, w5.setCell ⟨gE, k * 7 + 6, none⟩ (.slice A5 (L + 1) k5) = w6 := ⟨_, rfl⟩
        rw [hw6] at P6 N6
        rw [hw6]
        have hl6 : ((takeOut M m).set k (nodeOf ⟨e.x, e.up, A5, k5, putAt10 e.kids a m⟩)).length = M.length := by rw [List.length_set, len_take]
        obtain ⟨e2, he2, hen2, _, hok2, hoa2, _, c5', _⟩ := P6.kidsOf (k := m) (by rw [hl6]; exact hml)
        have x6 := P6.x
        rw [hl6] at x6
        have f6 := P6.frz (m * 7 + 5)
        obtain ⟨P7, N7⟩ := P6.put (e' := ⟨e2.x, k, e2.K, e2.kc, e2.kids⟩) he2 (w' := w6) (Touch.refl _ _) (j := 5) (by decide) (.int .i64 k) rfl hoa2 hok2 (fun g hg => .inl hg) (fun g hg => .inl hg)
        have hM : setM M k a m = ((takeOut M m).set k (nodeOf ⟨e.x, e.up, A5, k5, putAt10 e.kids a m⟩)).set m (nodeOf ⟨e2.x, k, e2.K, e2.kc, e2.kids⟩) := by
          refine set_take hkl hml hne a ?_ ?_
          · have h1 := HEN.out
            rw [nd_take, if_neg hne] at h1
            have h2 := HEK.out
            rw [nd_take] at h2
            unfold nodeOf
            simp only
            rw [h2]
            have r1 : ({ e.x.ro with depth := 0 } : Ro) = (nd M k).ro := congrArg Nd.ro h1
            have u1 : e.up = (nd M k).up := congrArg Nd.up h1
            rw [r1, u1]
          · have h1 := hen2
            rw [nd_setL (by rw [len_take]; exact hkl), if_neg (fun e => hne e.symm), nd_take, if_pos rfl] at h1
            have r1 : ({ e2.x.ro with depth := 0 } : Ro) = (nd M m).ro := congrArg Nd.ro h1
            have k1 : e2.kids = (nd M m).kids.filter (· != m) := congrArg Nd.kids h1
            unfold nodeOf
            simp only
            rw [r1, k1]
        have HM := Lib.hid hM
        have HP7 := Lib.hid P7; have HN7 := Lib.hid (HN2.out.trans (N6.trans N7))
        clear P6 N6 P7 N7 hw6 hoaw hl6 he2 hok2 hoa2 hen2 hx c6 hM ho5 hb5 hn5
        go_wp2
        go_ret
        rw [HM.out]
        exact ⟨rfl, _, ⟨_, _, _, HP7.out⟩, HN7.out⟩
end Go.Proofs.Ytfnffplnoicjcaa.Ar

namespace Go.Proofs.Ytfnffplnoicjcaa.Ar
set_option maxRecDepth 100000
set_option linter.unusedSimpArgs false
set_option linter.unusedVariables false
open Go.RowKit Ba
open Ro (At Ro Cw ros Rr Ow Nw Fr Att Ap Sh Ra cells acells app_num below_new infoI info_row len_cells rowV rowO Few)
open To (Aw)
set_option maxRecDepth 100000 in
set_option maxHeartbeats 4000000 in
theorem rowAtP1 {p N gE cE : Nat} {F : Nat → Prop} {M : List Nd} {lE : List Ew} (k : Nat) (d : Int) (w : World) (D : PD w N F p M gE cE lE) (hk : k < M.length) (hf : Few (M.map Nd.ro)) :
    Calls Try.prog 48 #[.pointer (some ⟨gE, k * 7, none⟩), .int .i64 d] w fun e w' => ∃ y : Cw, e = .returned (rowV y) ∧ y.ro = { (nd M k).ro with depth := d } ∧ Fr w.heap.size w' y ∧ Below w.heap.size w w' := by
  obtain ⟨e, he, hem, hen, hc⟩ := D.at_ hk
  have hoa := (D.attrs e hem).1
  have hgl := D.obj.2.1
  have hfe : e.x.ro.attrs.length ≤ 2000000 := by
    have h1 := hf _ (List.mem_map.2 ⟨_, List.getElem_mem hk, rfl⟩)
    rw [← nd_at hk, ← hen] at h1
    exact Nat.le_trans h1 (by decide)
  have c0 := hc 0 _ rfl; have c1 := hc 1 _ rfl; have c2 := hc 2 _ rfl; have c3 := hc 3 _ rfl; have c4 := hc 4 _ rfl
  rw [Nat.add_zero] at c0
  have HOA := Lib.hid hoa; have HEN := Lib.hid hen
  clear hc he hem hen hoa D
  go_enter Try.func48, Try.ntmps48
  go_upto_region 2 with (fail)
  obtain ⟨o1, ho1⟩ : ∃ o1 : Obj, o1 = .cells #[.int .i64 0, .int .i64 0, .string ⟨#[]⟩, .string ⟨#[]⟩, .slice none 0 0] 47 := ⟨_, rfl⟩
  obtain ⟨w2, hw2⟩ : ∃ w2, (w.alloc o1).alloc (rowO e.x) = w2 := ⟨_, rfl⟩
  have hs1 : (w.alloc o1).heap.size = w.heap.size + 1 := by simp
  have hb2 : Below w.heap.size w w2 := hw2 ▸ bt (below_new w o1) (below_new _ _)
  have hq2 : w2.heap[w.heap.size + 1]? = some (rowO e.x) := by rw [← hw2, ← hs1]; exact heap_alloc_new _ _
  have hq1 : w2.heap[w.heap.size]? = some o1 := by
    rw [← hw2, (below_new (w.alloc o1) (rowO e.x)).block _ (by rw [hs1]; omega)]
    exact heap_alloc_new w o1
  have HW2 := Lib.hid hw2
  rw [ho1] at hw2
  rw [show (w.alloc (.cells #[.int .i64 0, .int .i64 0, .string ⟨#[]⟩, .string ⟨#[]⟩, .slice none 0 0] 47)).alloc (rowO e.x) = w2 from hw2]
  have k2 : w2.cell? ⟨w.heap.size + 1, 0, none⟩ = some (.int .i64 e.x.ro.depth) := cell_of_row w2 _ 0 _ _ _ hq2
  have f2 := box_frozen hq2 0
  obtain ⟨z, hz⟩ : ∃ z : Cw, z = ⟨{ e.x.ro with depth := d }, e.x.A, e.x.c⟩ := ⟨_, rfl⟩
  obtain ⟨w3, hw3⟩ : ∃ w3, w2.setCell ⟨w.heap.size + 1, 0, none⟩ (.int .i64 d) = w3 := ⟨_, rfl⟩
  have hz3 : w3.heap[w.heap.size + 1]? = some (rowO z) := by
    rw [← hw3, hz]
    simp [World.setCell, Array.getElem?_modify, hq2]
  have hy3 : w3.heap[w.heap.size]? = some o1 := by
    rw [← hw3, Below.heap_setCell _ _ _ _ (by show w.heap.size ≠ w.heap.size + 1; omega)]
    exact hq1
  have hb3 : Below w.heap.size w w3 := hw3 ▸ hb2.setCell (p := ⟨w.heap.size + 1, 0, none⟩) (by show w.heap.size ≤ w.heap.size + 1; omega) _
  have k3 := (hb3.cell (p := ⟨gE, k * 7 + 4, none⟩) hgl).trans c4
  have hoa3 : OA w3 N e.x := HOA.out.block fun g hg => hb3.block g (oa_obj HOA.out hg).2.2.1
  have HCP := Lib.hid (copiedA1 e.x w3 (oa_att hoa3) hfe)
  have HW3 := Lib.hid hw3; have HZ3 := Lib.hid hz3; have HY3 := Lib.hid hy3; have HB3 := Lib.hid hb3; have HZ := Lib.hid hz; have HO1 := Lib.hid ho1
  clear hw2 hw3 hz3 hy3 hb3 hq2 hq1 hb2 hoa3 hs1 c0 c1 c2 c3 hz
  go_upto_region 3 with (fail)
  rw [HW3.out]
  clear k2 f2 c4
  go_wp2_with fail
  refine HCP.out.mono ?_
  rintro e4 w4 ⟨v, rfl, haw, hb4⟩
  obtain ⟨A4, c4, rfl⟩ := haw.form
  obtain ⟨L, hL⟩ : ∃ L, e.x.ro.attrs.length = L := ⟨_, rfl⟩
  have hlt3 := (Array.getElem?_eq_some_iff.1 HZ3.out).1
  have hz4 := (hb4.block _ hlt3).trans HZ3.out
  have hy4 := (hb4.block _ (by omega : w.heap.size < w3.heap.size)).trans HY3.out
  have k4 : w4.cell? ⟨w.heap.size + 1, 4, none⟩ = some (.slice z.A z.ro.attrs.length z.c) := cell_of_row w4 _ 4 _ _ _ hz4
  have f4 := box_frozen hz4 4
  obtain ⟨y, hy⟩ : ∃ y : Cw, y = ⟨{ e.x.ro with depth := d }, A4, c4⟩ := ⟨_, rfl⟩
  obtain ⟨w5, hw5⟩ : ∃ w5, w4.setCell ⟨w.heap.size + 1, 4, none⟩ (.slice A4 e.x.ro.attrs.length c4) = w5 := ⟨_, rfl⟩
  have hz5 : w5.heap[w.heap.size + 1]? = some (rowO y) := by
    rw [← hw5, hy]
    simp [World.setCell, Array.getElem?_modify, hz4, HZ.out]
  have hy5 : w5.heap[w.heap.size]? = some o1 := by
    rw [← hw5, Below.heap_setCell _ _ _ _ (by show w.heap.size ≠ w.heap.size + 1; omega)]
    exact hy4
  have hb5 : Below w.heap.size w w5 := hw5 ▸ (bt HB3.out hb4).setCell (p := ⟨w.heap.size + 1, 4, none⟩) (by show w.heap.size ≤ w.heap.size + 1; omega) _
  have hfr5 : Fr w.heap.size w5 y := by
    have h1 : Aw w.heap.size w5 (.slice A4 e.x.ro.attrs.length c4) e.x.ro.attrs := by
      refine ⟨owns_block (World.ownsRow.mono haw.1 HB3.out.size) fun g hg => ?_, haw.2⟩
      rw [← hw5]
      refine Below.heap_setCell _ _ _ _ fun e2 => ?_
      have h2 := (owns_lt haw.1 hg).1
      have e2 : g = w.heap.size + 1 := e2
      omega
    rw [hy]
    exact h1
  rw [HO1.out] at hy5
  have q0 : w5.cell? ⟨w.heap.size + 1, 0, none⟩ = some (.int .i64 y.ro.depth) := cell_of_row w5 _ 0 _ _ _ hz5
  have q1 : w5.cell? ⟨w.heap.size + 1, 1, none⟩ = some (.int .i64 y.ro.kind) := cell_of_row w5 _ 1 _ _ _ hz5
  have q2 : w5.cell? ⟨w.heap.size + 1, 2, none⟩ = some (.string y.ro.name) := cell_of_row w5 _ 2 _ _ _ hz5
  have q3 : w5.cell? ⟨w.heap.size + 1, 3, none⟩ = some (.string y.ro.data) := cell_of_row w5 _ 3 _ _ _ hz5
  have q4 : w5.cell? ⟨w.heap.size + 1, 4, none⟩ = some (.slice y.A y.ro.attrs.length y.c) := cell_of_row w5 _ 4 _ _ _ hz5
  have p0 : w5.cell? ⟨w.heap.size, 0, none⟩ = some (.int .i64 0) := cell_of_row w5 _ 0 _ _ _ hy5
  have p1 : w5.cell? ⟨w.heap.size, 1, none⟩ = some (.int .i64 0) := cell_of_row w5 _ 1 _ _ _ hy5
  have p2 : w5.cell? ⟨w.heap.size, 2, none⟩ = some (.string ⟨#[]⟩) := cell_of_row w5 _ 2 _ _ _ hy5
  have p3 : w5.cell? ⟨w.heap.size, 3, none⟩ = some (.string ⟨#[]⟩) := cell_of_row w5 _ 3 _ _ _ hy5
  have p4 : w5.cell? ⟨w.heap.size, 4, none⟩ = some (.slice none 0 0) := cell_of_row w5 _ 4 _ _ _ hy5
  have g0 := box_frozen hy5 0; have g1 := box_frozen hy5 1; have g2 := box_frozen hy5 2; have g3 := box_frozen hy5 3; have g4 := box_frozen hy5 4
  have HW5 := Lib.hid hw5; have HB5 := Lib.hid hb5; have HFR := Lib.hid hfr5; have HY := Lib.hid hy; have HY5 := Lib.hid hy5
  clear hw5 hb5 hfr5 hz5 hy hy5 hz4 hy4 hb4 haw HCP hL
  go_upto_region 4 with (fail)
  rw [HW5.out]
  clear k4 f4
  go_wp2
  have hy5 := HY5.out
  obtain ⟨w6, hw6⟩ : ∃ w6, ((((w5.setCell ⟨w.heap.size, 0, none⟩ (.int .i64 y.ro.depth)).setCell ⟨w.heap.size, 1, none⟩ (.int .i64 y.ro.kind)).setCell ⟨w.heap.size, 2, none⟩ (.string y.ro.name)).setCell ⟨w.heap.size, 3, none⟩ (.string y.ro.data)).setCell ⟨w.heap.size, 4, none⟩ (.slice y.A y.ro.attrs.length y.c) = w6 := ⟨_, rfl⟩
  rw [hw6]
  have hz6 : w6.heap[w.heap.size]? = some (rowO y) := by
    rw [← hw6]
    simp [World.setCell, Array.getElem?_modify, hy5]
  have hk6 : ∀ b, b ≠ w.heap.size → w6.heap[b]? = w5.heap[b]? := fun b hb => by
    rw [← hw6, Below.heap_setCell _ _ _ _ hb, Below.heap_setCell _ _ _ _ hb, Below.heap_setCell _ _ _ _ hb, Below.heap_setCell _ _ _ _ hb, Below.heap_setCell _ _ _ _ hb]
  have hfr6 : Fr w.heap.size w6 y := Fr.block HFR.out fun g hg => hk6 g fun e2 => by
    obtain ⟨_, _, hh⟩ := at_obj HFR.out hg
    rw [e2] at hh
    exact type_ne hh hy5 (by decide) rfl
  have hb6 : Below w.heap.size w w6 := by
    rw [← hw6]
    exact ((((HB5.out.setCell (p := ⟨w.heap.size, 0, none⟩) (Nat.le_refl _) _).setCell (p := ⟨w.heap.size, 1, none⟩) (Nat.le_refl _) _).setCell (p := ⟨w.heap.size, 2, none⟩) (Nat.le_refl _) _).setCell (p := ⟨w.heap.size, 3, none⟩) (Nat.le_refl _) _).setCell (p := ⟨w.heap.size, 4, none⟩) (Nat.le_refl _) _
  refine bodyPost_ret (results_cell_row rfl _ w6 w.heap.size 47 _ _ _ rfl hz6 Try.underlying47 rfl Ro.size_row) rfl ?_
  refine ⟨y, rfl, ?_, hfr6, hb6⟩
  rw [HY.out]
  have r1 : ({ e.x.ro with depth := 0 } : Ro) = (nd M k).ro := congrArg Nd.ro HEN.out
  rw [← r1]
end Go.Proofs.Ytfnffplnoicjcaa.Ar

namespace Go.Proofs.Ytfnffplnoicjcaa.Ar
set_option maxRecDepth 100000
set_option linter.unusedSimpArgs false
set_option linter.unusedVariables false
open Go.RowKit Ba
open Ro (At Ro Cw ros Rr Ow Nw Fr Att Ap Sh Ra cells acells app_num below_new infoI info_row len_cells rowV rowO Few)
open To (Aw)
theorem kids_out {M : List Nd} {n : Int} (h : hasB M n = false) : kidsI M n = [] := by
  unfold kidsI
  by_cases h0 : 0 ≤ n
  · rw [if_pos h0, nd_out]
    · rfl
    · intro h1
      have : hasB M n = true := hasB_iff.2 ⟨h0, by omega⟩
      rw [this] at h
      cases h
  · rw [if_neg h0]
set_option maxRecDepth 100000 in
set_option maxHeartbeats 4000000 in
theorem kidsP1 {p N gE cE : Nat} {F : Nat → Prop} {M : List Nd} {lE : List Ew} (n : Int) (w : World) (D : PD w N F p M gE cE lE) (W : Wf M) (hm : M.length ≤ 5000) :
    Calls Try.prog 12 #[.pointer (some ⟨p, 0, none⟩), .int .i64 n] w fun e w' => ∃ v, e = .returned v ∧ Nw w.heap.size w' v (kidsI M n) ∧ Below w.heap.size w w' := by
  have HH := Lib.hid (has1 n w D _ rfl)
  have hx := D.x
  cases hh : hasB M n with
  | false =>
    rw [kids_out hh]
    rw [hh] at HH
    clear D hx hh
    go_enter Try.func12, Try.ntmps12
    go_wp2_with fail
    refine HH.out.mono ?_
    rintro e w1 ⟨rfl, rfl⟩
    go_wp2
    go_ret
    exact ⟨_, rfl, nw_nil _ _, Below.refl _ _⟩
  | true =>
    rw [hh] at HH
    obtain ⟨h0, h1⟩ := hasB_iff.1 hh
    obtain ⟨k, rfl⟩ : ∃ k : Nat, n = k := ⟨n.toNat, by omega⟩
    rw [kidsI_nat]
    have hk : k < M.length := by omega
    obtain ⟨e, he, hen, hek, hok, hoa, c6, c5, c4⟩ := D.kidsOf hk
    have hcap := D.obj.2.2.1
    have hkl : e.kids.length ≤ 5000 := by rw [hek]; exact kids_bound W hm k
    have HC := Lib.hid (copiedI1 N e.K e.kc e.kids w hok (by omega))
    have HEK := Lib.hid hek
    rw [← hek]
    clear D hh he hen hek hok hoa c5 c4
    go_enter Try.func12, Try.ntmps12
    go_wp2_with fail
    refine HH.out.mono ?_
    rintro e1 w1 ⟨rfl, rfl⟩
    go_wp2_with fail
    refine HC.out.mono ?_
    rintro e2 w2 ⟨v, rfl, ho, hb⟩
    have HO := Lib.hid ho; have HB := Lib.hid hb
    clear ho hb
    go_wp2
    go_ret
    exact ⟨v, rfl, HO.out, HB.out⟩
end Go.Proofs.Ytfnffplnoicjcaa.Ar

namespace Go.Proofs.Ytfnffplnoicjcaa.Ar
set_option maxRecDepth 100000
set_option linter.unusedSimpArgs false
set_option linter.unusedVariables false
open Go.RowKit Ba
open Ro (At Ro Cw ros Rr Ow Nw Fr Att Ap Sh Ra cells acells app_num app_row below_new infoI info_row len_cells rowV rowO Few)
open To (Aw)
theorem PD.belowK {w w' : World} {N K : Nat} {F : Nat → Prop} {p gE cE : Nat} {M : List Nd} {lE : List Ew} (h : PD w N F p M gE cE lE) (hb : Below K w w') (hF : ∀ b, F b → b < K) : PD w' N F p M gE cE lE :=
  h.touch (G := fun b => K ≤ b) ⟨hb.os, hb.tape, hb.output, hb.size, fun b _ hn => hb.block b (by omega)⟩ fun b hf hk => by have := hF b hf; omega
def TreeP (M : List Nd) (N : Nat) (F : Nat → Prop) (p gE cE : Nat) (lE : List Ew) (n : Nat) (d : Int) : Prop :=
  ∀ (K : Nat) (w : World) (v : Value) (l : List Cw), PD w N F p M gE cE lE → Ow K w v l → (∀ x ∈ l, Fr K w x) → K ≤ w.heap.size → (∀ b, F b → b < K) → l.length + (tr M n d).length ≤ 1000000 →
    Calls Try.prog 19 #[.pointer (some ⟨p, 0, none⟩), v, .int .i64 n, .int .i64 d] w fun e w' => ∃ v' l', e = .returned v' ∧ Ow K w' v' (l ++ l') ∧ (∀ x ∈ l ++ l', Fr K w' x) ∧ ros l' = tr M n d ∧ Below K w w'
def KidsP (M : List Nd) (N : Nat) (F : Nat → Prop) (p gE cE : Nat) (lE : List Ew) (n : Nat) (d : Int) : Prop :=
  ∀ (K : Nat) (w : World) (v : Value) (l : List Cw), PD w N F p M gE cE lE → Ow K w v l → (∀ x ∈ l, Fr K w x) → K ≤ w.heap.size → (∀ b, F b → b < K) → l.length + ((nd M n).kids.flatMap fun k => tr M k d).length ≤ 1000000 →
    Calls Try.prog 18 #[.pointer (some ⟨p, 0, none⟩), v, .int .i64 n, .int .i64 d] w fun e w' => ∃ v' l', e = .returned v' ∧ Ow K w' v' (l ++ l') ∧ (∀ x ∈ l ++ l', Fr K w' x) ∧ ros l' = ((nd M n).kids.flatMap fun k => tr M k d) ∧ Below K w w'
section
variable {N : Nat} {F : Nat → Prop} {p gE cE : Nat} {M : List Nd} {lE : List Ew}
set_option maxRecDepth 100000 in
set_option maxHeartbeats 4000000 in
theorem tree_of_kids (W : Wf M) (hm : M.length ≤ 5000) (hf : Few (M.map Nd.ro)) (n : Nat) (hn : n < M.length) (d : Int) (hd0 : 0 ≤ d) (hd1 : d ≤ 20000) (hk : KidsP M N F p gE cE lE n (d + 1)) : TreeP M N F p gE cE lE n d := by
  intro K w v l D ho hfr hK hF hl
  have hx := D.x
  have hcap := D.obj.2.2.1
  have hni : (n : Int) < M.length := by omega
  have HR := Lib.hid (rowAtP1 n d w D hn hf)
  have htr := tr_eq W hn d
  rw [htr, List.length_cons] at hl
  have HTR := Lib.hid htr; have HD := Lib.hid D; have HO := Lib.hid ho; have HF := Lib.hid hfr; have HK := Lib.hid hk; have HFB := Lib.hid hF
  have hl1 : l.length ≤ 2000000 := by omega
  clear D ho hfr hk htr hF
  go_enter Try.func19, Try.ntmps19
  go_wp2_with fail
  refine HR.out.mono ?_
  rintro e w1 ⟨y, rfl, hyr, hfy, hb1⟩
  have hbK1 : Below K w w1 := hb1.mono hK
  have hK1 : K ≤ w1.heap.size := Nat.le_trans hK hb1.size
  have HY := Lib.hid hyr; have HO1 := Lib.hid (HO.out.below hb1); have HFY := Lib.hid (hfy.mono hK)
  have HF1 := Lib.hid (show ∀ x ∈ l, Fr K w1 x from fun x hx => (HF.out x hx).below hb1)
  have HB1 := Lib.hid hbK1
  have HAY := Lib.hid (show Att w1 w1.heap.size y from hfy.att); have HAP := Lib.hid (show Ap w1 K y from (hfy.mono hK).ap)
  clear hyr hfy hb1 hbK1 HR
  go_wp2_with (at_builtin; go_loud (refine app_row w1 rfl (.tmp 9) (.tmp 18) rfl K v l y rfl HO1.out HAY.out HAP.out _ rfl rfl hl1 hK1 ?_; intro v2 w2 ho2 hb2 hfr2; have HO2 := Lib.hid ho2; have HB2 := Lib.hid (hb2 _ HB1.out); have HFR2 := Lib.hid hfr2; clear ho2 hb2 hfr2))
  have hKD := HD.out.belowK HB2.out HFB.out
  have hF2 : ∀ x ∈ l ++ [y], Fr K w2 x := fun x hx => by
    rcases List.mem_append.1 hx with hx | hx
    · exact HFR2.out x (HF1.out x hx)
    · rw [List.mem_singleton] at hx
      subst hx
      exact HFR2.out _ HFY.out
  have HC := Lib.hid (HK.out K w2 v2 (l ++ [y]) hKD HO2.out hF2 (Nat.le_trans hK HB2.out.size) HFB.out (by rw [List.length_append, List.length_singleton]; omega))
  clear hKD hF2
  go_wp2_with fail
  refine HC.out.mono ?_
  rintro e w3 ⟨v3, l3, rfl, ho3, hf3, hr3, hb3⟩
  have HO3 := Lib.hid ho3; have HF3 := Lib.hid hf3; have HR3 := Lib.hid hr3; have HB3 := Lib.hid hb3
  clear ho3 hf3 hr3 hb3 HC
  go_wp2
  go_ret
  refine ⟨v3, y :: l3, rfl, by simpa using HO3.out, by simpa using HF3.out, ?_, HB2.out.trans HB3.out⟩
  rw [Ro.ros_cons, HTR.out, HY.out, HR3.out]
set_option maxRecDepth 100000 in
set_option maxHeartbeats 4000000 in
theorem kids_of_tree (W : Wf M) (hm : M.length ≤ 5000) (n : Nat) (hn : n < M.length) (d : Int) (hd0 : 0 ≤ d) (hd1 : d ≤ 20000) (ht : ∀ k ∈ (nd M n).kids, TreeP M N F p gE cE lE k d) : KidsP M N F p gE cE lE n d := by
  intro K w v l D ho hfr hK hF hl
  have hx := D.x
  have hcap := D.obj.2.2.1
  have hni : (n : Int) < M.length := by omega
  obtain ⟨e, he, hen, hek, hok, hoa, c6, c5, c4⟩ := D.kidsOf hn
  have hkl : e.kids.length ≤ 5000 := by rw [hek]; exact kids_bound W hm n
  rw [← hek] at ht hl ⊢
  have HKC := Lib.hid (show 0 < e.kids.length → ∃ g, e.K = some ⟨g, 0, none⟩ ∧ g < K ∧ ∀ j (h : j < e.kids.length), w.cell? ⟨g, j, none⟩ = some (.int .i64 (e.kids[j] : Nat)) from fun h0 => by
    rcases Of.obj hok with ⟨_, h0', _⟩ | ⟨g, cur, hA, _⟩
    · omega
    · refine ⟨g, hA, hF g ((D.kids e (List.mem_of_getElem? he)).2 g (by unfold bK; rw [hA]; rfl)), fun j hj => (Of.cells hok hA j _ (by rw [List.getElem?_map, List.getElem?_eq_getElem hj]; rfl)).1⟩)
  have HD := Lib.hid D; have HT := Lib.hid ht; have HFB := Lib.hid hF; have HL := Lib.hid hl; have HO := Lib.hid ho; have HF := Lib.hid hfr
  clear D ho hfr ht he hen hek hok hoa c5 c4 hF hl
  go_enter Try.func18, Try.ntmps18
  go_wp2
  go_loopw [1, 20] (fun uv i wr => ∃ (u : Value) (lj : List Cw) (j : Nat), u = uv ∧ i = .int .i64 j ∧ j ≤ e.kids.length ∧ Ow K wr u (l ++ lj) ∧ (∀ x ∈ l ++ lj, Fr K wr x) ∧ ros lj = (e.kids.take j).flatMap (fun k => tr M k d) ∧ Below K w wr) (fun _ i _ => e.kids.length - (intOf i).toNat)
  case atStart => exact ⟨v, [], 0, rfl, rfl, Nat.zero_le _, by simpa using HO.out, by simpa using HF.out, rfl, Below.refl _ _⟩
  case round =>
    obtain ⟨u, lj, j, rfl, rfl, hj, ho, hfr, hr, hbel⟩ := hrel
    have HOj := Lib.hid ho; have HFj := Lib.hid hfr; have HRj := Lib.hid hr; have HBj := Lib.hid hbel
    by_cases hjl : j < e.kids.length
    · obtain ⟨g, hg, hgK, hcell⟩ := HKC.out (by omega)
      rw [hg]
      have hkc := (hbel.cell (p := ⟨g, j, none⟩) hgK).trans (hcell j hjl)
      obtain ⟨k, hk⟩ : ∃ k, e.kids[j] = k := ⟨_, rfl⟩
      rw [hk] at hkc
      have hji : (j : Int) < e.kids.length := by omega
      have hta : e.kids.take (j + 1) = e.kids.take j ++ [k] := by
        rw [List.take_add_one, List.getElem?_eq_getElem hjl, hk]
        rfl
      have hsing : ([k].flatMap fun k => tr M k d) = tr M k d := by simp
      have hpre := flat_prefix (fun k => tr M k d) e.kids (j + 1)
      rw [hta, List.flatMap_append, List.length_append, hsing] at hpre
      have hlen := congrArg List.length hr
      rw [Ro.len_ros] at hlen
      have hl1 := HL.out
      have HC := Lib.hid (HT.out k (hk ▸ List.getElem_mem hjl) K wr u (l ++ lj) (HD.out.belowK hbel HFB.out) ho hfr (Nat.le_trans hK hbel.size) HFB.out (by rw [List.length_append]; omega))
      have HTA := Lib.hid hta; have HSI := Lib.hid hsing
      clear ho hfr hr hbel hcell hk hta hsing hpre hlen hl1
      go_wp2_with fail
      refine HC.out.mono ?_
      rintro e3 w3 ⟨v3, l3, rfl, ho3, hf3, hr3, hb3⟩
      have HO3 := Lib.hid ho3; have HF3 := Lib.hid hf3; have HR3 := Lib.hid hr3; have HB3 := Lib.hid hb3
      clear ho3 hf3 hr3 hb3 HC
      go_wp2
      go_roundw
      case rel =>
        refine ⟨v3, lj ++ l3, j + 1, rfl, by go_num, by omega, by rw [← List.append_assoc]; exact HO3.out, by rw [← List.append_assoc]; exact HF3.out, ?_, HBj.out.trans HB3.out⟩
        rw [Ro.ros_append, HRj.out, HR3.out, HTA.out, List.flatMap_append, HSI.out]
      case measure => (simp [intOf]; try omega)
    · obtain rfl : j = e.kids.length := by omega
      clear ho hfr hr hbel
      go_wp2
      go_ret
      exact ⟨u, lj, rfl, HOj.out, HFj.out, by rw [HRj.out, List.take_length], HBj.out⟩
theorem treeP1 (W : Wf M) (hm : M.length ≤ 5000) (hf : Few (M.map Nd.ro)) (n : Nat) (hn : n < M.length) (d : Int) (hd0 : 0 ≤ d) (hd1 : d ≤ 1000) : TreeP M N F p gE cE lE n d ∧ KidsP M N F p gE cE lE n d := by
  obtain ⟨h, H⟩ := W.hgt
  have key : ∀ (f n : Nat) (d : Int), cnt M h n < f → n < M.length → 0 ≤ d → d + f ≤ 10000 → TreeP M N F p gE cE lE n d := by
    intro f
    induction f with
    | zero => intro n d hc; omega
    | succ f ih =>
      intro n d hc hn h0 h1
      refine tree_of_kids W hm hf n hn d h0 (by omega) (kids_of_tree W hm n hn (d + 1) (by omega) (by omega) fun k hk => ?_)
      have := cnt_kid H hk
      exact ih k (d + 1) (by omega) (H n k hk).1 (by omega) (by omega)
  have hc := cnt_lt (h := h) hn
  refine ⟨key M.length n d hc hn hd0 (by omega), kids_of_tree W hm n hn d hd0 (by omega) fun k hk => ?_⟩
  have := cnt_kid H hk
  exact key M.length k d (by omega) (H n k hk).1 hd0 (by omega)
end
end Go.Proofs.Ytfnffplnoicjcaa.Ar

namespace Go.Proofs.Ytfnffplnoicjcaa.Ar
set_option maxRecDepth 100000
set_option linter.unusedSimpArgs false
set_option linter.unusedVariables false
open Go.RowKit Ba
open Ro (At Ro Cw ros Rr Ow Nw Fr Att Ap Sh Ra Rv Held cells acells app_num app_row below_new infoI info_row len_cells rowV rowO Few right)
set_option maxRecDepth 100000 in
set_option maxHeartbeats 4000000 in
theorem rowsP1 {p N : Nat} {F : Nat → Prop} {M : List Nd} (n : Int) (w : World) (D : Doc12 w N F p M) (W : Wf M) (hm : M.length ≤ 5000) (hf : Few (M.map Nd.ro)) :
    Calls Try.prog 6 #[.pointer (some ⟨p, 0, none⟩), .int .i64 n] w fun e w' => ∃ v l, e = .returned v ∧ Ow w.heap.size w' v l ∧ (∀ x ∈ l, Fr w.heap.size w' x) ∧ ros l = rowsM M n ∧ Below w.heap.size w w' := by
  have hbd := D.bd
  obtain ⟨gE, cE, lE, D⟩ := D
  have HH := Lib.hid (has1 n w D _ rfl)
  cases hh : hasB M n with
  | false =>
    have e1 : rowsM M n = [] := by
      unfold rowsM
      rw [if_neg]
      intro h
      have : hasB M n = true := hasB_iff.2 h
      rw [this] at hh
      cases hh
    rw [e1]
    rw [hh] at HH
    clear D hh e1
    go_enter Try.func6, Try.ntmps6
    go_wp2_with fail
    refine HH.out.mono ?_
    rintro e w1 ⟨rfl, rfl⟩
    go_wp2
    go_ret
    exact ⟨_, [], rfl, Ow.nil _ _, fun x hx => (by cases hx), rfl, Below.refl _ _⟩
  | true =>
    rw [hh] at HH
    obtain ⟨h0, h1⟩ := hasB_iff.1 hh
    obtain ⟨k, rfl⟩ : ∃ k : Nat, n = k := ⟨n.toNat, by omega⟩
    have hk : k < M.length := by omega
    by_cases hz : k = 0
    · subst hz
      have e1 : rowsM M (0 : Nat) = (nd M 0).kids.flatMap fun k => tr M k 0 := by
        unfold rowsM
        rw [if_pos ⟨by omega, by omega⟩, if_pos (show ((0 : Nat) : Int) = 0 from rfl)]
      have hlen : ((nd M 0).kids.flatMap fun k => tr M k 0).length ≤ 5000 := by
        have h2 := tr_short W hk (-1)
        rw [tr_eq W hk, List.length_cons] at h2
        have h3 : ((nd M 0).kids.flatMap fun k => tr M k ((-1 : Int) + 1)) = (nd M 0).kids.flatMap fun k => tr M k 0 := rfl
        rw [h3] at h2
        omega
      have HK := Lib.hid ((treeP1 W hm hf 0 hk 0 (by decide) (by decide)).2 w.heap.size w (.slice none 0 0) [] D (Ow.nil _ _) (fun x hx => by cases hx) (Nat.le_refl _) hbd (by simp; simp at hlen; omega))
      rw [e1]
      clear D hh e1 hlen
      go_enter Try.func6, Try.ntmps6
      go_wp2_with fail
      refine HH.out.mono ?_
      rintro e w1 ⟨rfl, rfl⟩
      go_wp2_with fail
      refine HK.out.mono ?_
      rintro e w2 ⟨v, l, rfl, ho, hfr, hr, hb⟩
      rw [List.nil_append] at ho hfr
      have HO := Lib.hid ho; have HF := Lib.hid hfr; have HR := Lib.hid hr; have HB := Lib.hid hb
      clear ho hfr hr hb HK
      go_wp2
      go_ret
      exact ⟨v, l, rfl, HO.out, HF.out, HR.out, HB.out⟩
    · have e1 : rowsM M k = tr M k 0 := by
        unfold rowsM
        rw [if_pos ⟨h0, h1⟩, if_neg (by omega), Int.toNat_natCast]
      have hlen := tr_short W hk 0
      have HK := Lib.hid ((treeP1 W hm hf k hk 0 (by decide) (by decide)).1 w.heap.size w (.slice none 0 0) [] D (Ow.nil _ _) (fun x hx => by cases hx) (Nat.le_refl _) hbd (by simp; omega))
      have hkz : ¬ (k : Int) = 0 := by omega
      have hkb : ((k : Int) == 0) = false := by simpa using hkz
      rw [e1]
      clear D hh e1 hlen
      go_enter Try.func6, Try.ntmps6
      go_wp2_with fail
      refine HH.out.mono ?_
      rintro e w1 ⟨rfl, rfl⟩
      go_wp2_with fail
      refine HK.out.mono ?_
      rintro e w2 ⟨v, l, rfl, ho, hfr, hr, hb⟩
      rw [List.nil_append] at ho hfr
      have HO := Lib.hid ho; have HF := Lib.hid hfr; have HR := Lib.hid hr; have HB := Lib.hid hb
      clear ho hfr hr hb HK
      go_wp2
      go_ret
      exact ⟨v, l, rfl, HO.out, HF.out, HR.out, HB.out⟩
theorem roots_first {first : Nat} {par : Nat → Int} (h : par 0 < 0) : ∀ i, 0 < i → (rootsTo first par i)[0]? = some first
  | 0, h0 => absurd h0 (Nat.lt_irrefl _)
  | 1, _ => by
    rw [rootsTo, if_pos h, rootsTo]
    rfl
  | i + 2, _ => by
    have ih := roots_first (first := first) h (i + 1) (Nat.succ_pos _)
    rw [rootsTo]
    split
    · rw [List.getElem?_append_left (List.getElem?_eq_some_iff.1 ih).1]
      exact ih
    · exact ih
theorem rows_len {M : List Nd} (W : Wf M) (n : Int) : (rowsM M n).length ≤ M.length := by
  unfold rowsM
  split
  · rename_i h
    split
    · have h2 := tr_short W W.pos (-1)
      rw [tr_eq W W.pos, List.length_cons] at h2
      have h3 : ((nd M 0).kids.flatMap fun k => tr M k ((-1 : Int) + 1)) = (nd M 0).kids.flatMap fun k => tr M k 0 := rfl
      rw [h3] at h2
      omega
    · exact tr_short W (by omega) 0
  · exact Nat.zero_le _
theorem rows_pos {M : List Nd} (W : Wf M) {k : Nat} (hk : k < M.length) (h0 : k ≠ 0) : 0 < (rowsM M k).length := by
  unfold rowsM
  rw [if_pos ⟨by omega, by omega⟩, if_neg (by omega), Int.toNat_natCast, tr_eq W hk, List.length_cons]
  omega
set_option maxRecDepth 100000 in
set_option maxHeartbeats 4000000 in
theorem cloneP1 {p N : Nat} {F : Nat → Prop} {M : List Nd} (n : Int) (w : World) (D : Doc12 w N F p M) (W : Wf M) (hm : M.length ≤ 1000) (hf : Few (M.map Nd.ro)) (hR : right (rowsM M n) = true) :
    Calls Try.prog 27 #[.pointer (some ⟨p, 0, none⟩), .int .i64 n] w fun e w' => e = .returned (.tuple #[.int .i64 (cloneE M n).1, .int .i64 (cloneE M n).2]) ∧ ∃ F', Doc12 w' N F' p (cloneM M n) ∧ Next w w' F F' := by
  have HD := Lib.hid D
  have hbd := D.bd
  have hmv : Calls Try.prog 31 #[.pointer (some ⟨p, 0, none⟩), .int .i64 n] w fun e w' => e = .returned (.bool (movB M n)) ∧ w' = w := by
    obtain ⟨gE, cE, lE, D⟩ := D
    exact movable1 n w D _ rfl
  have HMV := Lib.hid hmv
  have HRO := Lib.hid (rowsP1 n w D W (by omega) hf)
  clear hmv
  by_cases c1 : n < 1 ∨ (M.length : Int) ≤ n
  · have e1 : cloneE M n = (0, 110) := by unfold cloneE; rw [if_pos c1]
    have e2 : cloneM M n = M := by unfold cloneM; rw [if_pos (by omega)]
    rw [e1, e2]
    have e3 : movB M n = false := by rw [← Bool.not_eq_true, movB_iff]; omega
    rw [e3] at HMV
    clear e1 e2 e3 D hR
    go_enter Try.func27, Try.ntmps27
    go_wp2_with fail
    refine HMV.out.mono ?_
    rintro e w1 ⟨rfl, rfl⟩
    go_wp2
    go_ret2
    exact ⟨rfl, F, HD.out, Next.refl _ F⟩
  · have e3 : movB M n = true := movB_iff.2 (by omega)
    rw [e3] at HMV
    obtain ⟨k, rfl⟩ : ∃ k : Nat, n = k := ⟨n.toNat, by omega⟩
    have hk : k < M.length := by omega
    have hk0 : k ≠ 0 := by omega
    obtain ⟨L, hL⟩ : ∃ L, rowsM M (k : Int) = L := ⟨_, rfl⟩
    have hLl : L.length ≤ M.length := by rw [← hL]; exact rows_len W k
    have hLp : 0 < L.length := by rw [← hL]; exact rows_pos W hk hk0
    have hfew : Few L := by rw [← hL]; exact few_rows hf k
    rw [hL] at HRO hR
    have hheld : Held L := fun x hx => by
      have := right_held L 0 hR x hx
      omega
    obtain ⟨q, hq⟩ : ∃ q, decide (4096 < M.length + L.length) = q := ⟨_, rfl⟩
    have HEX := Lib.hid (show ∀ w', Below w.heap.size w w' → Calls Try.prog 21 #[.pointer (some ⟨p, 0, none⟩), .int .i64 L.length] w' fun e w'' => e = .returned (.bool q) ∧ w'' = w' from fun w' hb => by
      obtain ⟨gE, cE, lE, D1⟩ := D.below hb
      exact exceeds1 L.length w' D1 (by omega) (by omega) q hq)
    cases q with
    | true =>
      have hbig := of_decide_eq_true hq
      omega
    | false =>
      have hbig := of_decide_eq_false hq
      have e1 : cloneE M k = ((M.length : Int), 0) := by unfold cloneE; rw [if_neg c1, hL, if_neg hbig]
      have e2 : cloneM M k = loadTo M.length L (parI L) M L.length := by unfold cloneM; rw [hL, if_neg (by omega)]
      rw [e1, e2]
      have HW := Lib.hid W; have HFW := Lib.hid hfew; have HR := Lib.hid hR; have HHE := Lib.hid hheld; have HBD := Lib.hid hbd
      have HP0 := Lib.hid (show parI L 0 < 0 from by
        have := par_lt L (j := 0) hLp
        omega)
      clear e1 e2 e3 D c1 hq hL hfew hheld hR hbd
      go_enter Try.func27, Try.ntmps27
      go_wp2_with fail
      refine HMV.out.mono ?_
      rintro e w1 ⟨rfl, rfl⟩
      go_wp2_with fail
      refine HRO.out.mono ?_
      rintro e w2 ⟨v, x, rfl, ho, hfr, hr, hb⟩
      obtain ⟨A, c, rfl, hc, hcm, _, hrr⟩ := ho.form
      have hxl : x.length = L.length := by rw [← hr, Ro.len_ros]
      have hAb : ∀ b, A.map Addr.block = some b → w1.heap.size ≤ b := fun b hb => own_blk ho.1 hb
      have HG := Lib.hid (growP1 (p := p) (N := N) (F := F) (M := M) (.slice A x.length c) x w2 (HD.out.below hb) HW.out (by omega) (fun w' t => rv_keep hrr hc hcm (by rw [hr]; exact HHE.out) hfr hAb HBD.out t) (by rw [hr]; exact HFW.out) (by rw [hr]; exact HR.out))
      rw [hr] at HG
      have HB := Lib.hid hb
      rw [hxl] at HG ⊢
      clear ho hfr hr hb hrr hAb HRO hxl
      go_wp2_with fail
      refine (HEX.out w2 HB.out).mono ?_
      rintro e w2' ⟨rfl, rfl⟩
      go_wp2_with fail
      refine HG.out.mono ?_
      rintro e w3 ⟨u, rfl, hnw, F3, D3, N3, _⟩
      have hrf := roots_first (first := M.length) HP0.out L.length hLp
      obtain ⟨A3, c3, rfl, hat⟩ := nw_at hnw
      have hrl : 0 < (rootsTo M.length (parI L) L.length).length := (List.getElem?_eq_some_iff.1 hrf).1
      obtain ⟨b3, rfl, _, _, hcell⟩ := hat hrl
      have hc0 := hcell 0 hrl
      rw [(List.getElem?_eq_some_iff.1 hrf).2] at hc0
      have hri : (0 : Int) < (rootsTo M.length (parI L) L.length).length := by omega
      obtain ⟨RL, hRL⟩ : ∃ RL, (rootsTo M.length (parI L) L.length).length = RL := ⟨_, rfl⟩
      rw [hRL] at hri
      have HD3 := Lib.hid D3; have HN3 := Lib.hid ((Next.of_below HB.out).trans N3); have HRL := Lib.hid hRL
      clear hnw D3 N3 hrf hat hcell hrl HG
      rw [hRL]
      clear hRL
      go_wp2
      go_ret2
      exact ⟨rfl, F3, HD3.out, HN3.out⟩
end Go.Proofs.Ytfnffplnoicjcaa.Ar

namespace Go.Proofs.Ytfnffplnoicjcaa.Ar
set_option maxRecDepth 100000
set_option linter.unusedSimpArgs false
set_option linter.unusedVariables false
open Go.RowKit Ba
open Ro (At Ro Cw ros Rr Ow Nw Fr Att Ap Sh Ra Rv Held cells acells len_acells acells_one app_num app_row below_new infoI info_row info_attr len_cells rowV rowO Few right twice okRow)
open To (Aw)
open Na (mayB)
theorem row_set {M : List Nd} {k : Nat} (hk : k < M.length) (f : Ro → Ro) {y : Nd} (hy : y = ⟨f (nd M k).ro, (nd M k).up, (nd M k).kids⟩) : rowM M k f = M.set k y := by
  refine ext_nd (by rw [len_row, List.length_set]) fun m hm => ?_
  rw [nd_row hk, nd_setL hk]
  by_cases e : m = k
  · subst e
    rw [if_pos rfl, if_pos rfl, hy]
  · rw [if_neg e, if_neg e]
theorem dataP1 {p N : Nat} {F : Nat → Prop} {M : List Nd} (n : Int) (d : ByteArray) (w : World) (D : Doc12 w N F p M) :
    Calls Try.prog 46 #[.pointer (some ⟨p, 0, none⟩), .int .i64 n, .string d] w fun e w' => e = .returned (.int .i64 (dataE M n)) ∧ ∃ F', Doc12 w' N F' p (dataM M n d) ∧ Next w w' F F' := by
  have HD := Lib.hid D
  obtain ⟨gE, cE, lE, D⟩ := D
  have HH := Lib.hid (holdsData1 n w D _ rfl)
  by_cases h : n < 1 ∨ (M.length : Int) ≤ n ∨ (nd M n.toNat).ro.kind = 0
  · have e1 : dataE M n = 110 := by unfold dataE; rw [if_pos h]
    have e2 : dataM M n d = M := by unfold dataM; rw [if_pos h]
    rw [e1, e2]
    have e3 : holdB M n = false := by
      rw [← Bool.not_eq_true]
      unfold holdB
      rw [Bool.and_eq_true, movB_iff]
      rintro ⟨h1, h2⟩
      have := of_decide_eq_true h2
      omega
    rw [e3] at HH
    clear e1 e2 e3 D h
    go_enter Try.func46, Try.ntmps46
    go_wp2_with fail
    refine HH.out.mono ?_
    rintro e w1 ⟨rfl, rfl⟩
    go_wp2
    go_ret
    exact ⟨rfl, F, HD.out, Next.refl _ F⟩
  · have e1 : dataE M n = 0 := by unfold dataE; rw [if_neg h]
    have e2 : dataM M n d = rowM M n.toNat fun r => { r with data := d } := by unfold dataM; rw [if_neg h]
    rw [e1, e2]
    obtain ⟨k, rfl⟩ : ∃ k : Nat, n = k := ⟨n.toNat, by omega⟩
    have hk : k < M.length := by omega
    rw [Int.toNat_natCast]
    have e3 : holdB M k = true := by
      unfold holdB
      rw [Bool.and_eq_true, movB_iff]
      exact ⟨by omega, decide_eq_true (by omega)⟩
    rw [e3] at HH
    obtain ⟨e, he, hem, hen, hc⟩ := D.at_ hk
    have c3 := hc 3 _ rfl
    have f3 := D.frz (k * 7 + 3)
    have hx := D.x
    have hcap := D.obj.2.2.1
    have hki : (k : Int) < M.length := by omega
    obtain ⟨P, NX⟩ := D.put (e' := ⟨⟨{ e.x.ro with data := d }, e.x.A, e.x.c⟩, e.up, e.K, e.kc, e.kids⟩) he (w' := w) (Touch.refl _ _) (j := 3) (by decide) (.string d) rfl (D.attrs e hem).1 (D.kids e hem).1 (fun g hg => .inl hg) (fun g hg => .inl hg)
    have hM := row_set hk (fun r => { r with data := d }) (y := nodeOf ⟨⟨{ e.x.ro with data := d }, e.x.A, e.x.c⟩, e.up, e.K, e.kc, e.kids⟩) (by rw [← hen]; rfl)
    have HP := Lib.hid P; have HN := Lib.hid NX; have HM := Lib.hid hM
    clear e1 e2 e3 D h he hem hen hc P NX hM
    go_enter Try.func46, Try.ntmps46
    go_wp2_with fail
    refine HH.out.mono ?_
    rintro e1 w1 ⟨rfl, rfl⟩
    go_wp2
    go_ret
    rw [HM.out]
    exact ⟨rfl, _, ⟨_, _, _, HP.out⟩, HN.out⟩
/-- Which attribute has this name: -1, or the first one that has it. -/
def AtAns (l : List At) (nm : ByteArray) (q : Int) : Prop := (q = -1 ∧ ∀ a ∈ l, a.name ≠ nm) ∨ ∃ j : Nat, q = j ∧ ∃ h : j < l.length, l[j].name = nm ∧ ∀ i (h : i < l.length), i < j → l[i].name ≠ nm
set_option maxRecDepth 100000 in
set_option maxHeartbeats 4000000 in
theorem attrAtP1 {p N gE cE : Nat} {F : Nat → Prop} {M : List Nd} {lE : List Ew} (k : Nat) (nm : ByteArray) (w : World) (D : PD w N F p M gE cE lE) (hk : k < M.length) (hf : Few (M.map Nd.ro)) :
    Calls Try.prog 56 #[.pointer (some ⟨gE, k * 7, none⟩), .string nm] w fun e w' => ∃ q, e = .returned (.int .i64 q) ∧ AtAns (nd M k).ro.attrs nm q ∧ Below w.heap.size w w' := by
  obtain ⟨e, he, hem, hen, hc⟩ := D.at_ hk
  have hoa := (D.attrs e hem).1
  have hgl := D.obj.2.1
  have c4 := hc 4 _ rfl
  have hla : e.x.ro.attrs = (nd M k).ro.attrs := by rw [← hen]; rfl
  obtain ⟨l, hl⟩ : ∃ l, (nd M k).ro.attrs = l := ⟨_, rfl⟩
  rw [hl] at hla ⊢
  have hll : l.length ≤ 1000000 := by
    rw [← hl, nd_at hk]
    exact hf _ (List.mem_map.2 ⟨_, List.getElem_mem hk, rfl⟩)
  have hatt := oa_att hoa
  rw [hla] at c4
  have HAT := Lib.hid (show 0 < l.length → ∃ b off, e.x.A = some ⟨b, off, none⟩ ∧ b < w.heap.size ∧ ∀ j (h : j < l.length), w.cell? ⟨b, off + j * 2, none⟩ = some (.string l[j].name) ∧ w.cell? ⟨b, off + j * 2 + 1, none⟩ = some (.string l[j].value) from fun h0 => by
    have h1 := hatt.2.2.2.1
    rw [hla] at h1
    obtain ⟨b, off, hA, hb, hcc⟩ := h1 h0
    exact ⟨b, off, hA, hb, fun j hj => ⟨hcc j hj 0 _ rfl, hcc j hj 1 _ rfl⟩⟩)
  clear D he hem hen hc hoa hla hl hatt
  go_enter Try.func56, Try.ntmps56
  go_wp2
  go_loopw [13] (fun i wr => ∃ j : Nat, i = .int .i64 j ∧ j ≤ l.length ∧ Hid (∀ i (h : i < l.length), i < j → l[i].name ≠ nm) ∧ Below w.heap.size w wr) (fun i _ => l.length - (intOf i).toNat)
  case atStart => exact ⟨0, rfl, Nat.zero_le _, Lib.hid (fun i _ h => absurd h (Nat.not_lt_zero _)), Below.refl _ _⟩
  case round =>
    obtain ⟨j, rfl, hj, hno, hbel⟩ := hrel
    have HB := Lib.hid hbel
    by_cases hjl : j < l.length
    · obtain ⟨b, off, hA, hbl, hcell⟩ := HAT.out (by omega)
      rw [hA]
      obtain ⟨n0, v0⟩ := hcell j hjl
      have n1 := (hbel.cell (p := ⟨b, off + j * 2, none⟩) hbl).trans n0
      have v1 := (hbel.cell (p := ⟨b, off + j * 2 + 1, none⟩) hbl).trans v0
      obtain ⟨a, ha⟩ : ∃ a, l[j] = a := ⟨_, rfl⟩
      rw [ha] at n1 v1
      have hji : (j : Int) < l.length := by omega
      have HBA := Lib.hid (bt hbel (below_new wr (.cells #[.string a.name, .string a.value] 62)))
      by_cases hnm : a.name = nm
      · have hd : (a.name.toList == nm.toList) = true := by rw [eq_of_toList]; exact decide_eq_true hnm
        have HNM := Lib.hid (show l[j].name = nm by rw [ha]; exact hnm)
        clear n0 v0 hcell hbel hnm ha
        go_wp2
        go_ret
        exact ⟨_, rfl, .inr ⟨j, rfl, hjl, HNM.out, hno.out⟩, HBA.out⟩
      · have hd : (a.name.toList == nm.toList) = false := by rw [eq_of_toList]; exact decide_eq_false hnm
        have HNM := Lib.hid (show l[j].name ≠ nm by rw [ha]; exact hnm)
        clear n0 v0 hcell hbel hnm ha
        go_wp2
        go_roundw
        case rel => exact ⟨j + 1, by go_num, by omega, Lib.hid (fun i h hi => by
          rcases Nat.lt_succ_iff_lt_or_eq.1 hi with hi | rfl
          · exact hno.out i h hi
          · exact HNM.out), HBA.out⟩
        case measure => (simp [intOf]; try omega)
    · obtain rfl : j = l.length := by omega
      clear hbel
      go_wp2
      go_ret
      refine ⟨-1, rfl, .inl ⟨rfl, fun a ha => ?_⟩, HB.out⟩
      obtain ⟨i, hi, rfl⟩ := List.getElem_of_mem ha
      exact hno.out i hi hi
end Go.Proofs.Ytfnffplnoicjcaa.Ar
