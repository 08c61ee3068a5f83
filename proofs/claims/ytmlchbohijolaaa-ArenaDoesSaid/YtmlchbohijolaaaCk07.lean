/-
  Stage 11: the program's Insert.
  Stage 11: the program's rowAt, Row, Kids.
  Stage 11: the program's Row, Kids.
  Stage 11: the program's appendTree, appendKids, Rows.
  Stage 11: the program's Rows, Clone.
  Stage 11: the program's attrAt, Data, Attr, Drop.
  Stage 11: the program's Attr, Drop.
  Stage 11: the program's Copy.
  Stage 11: the program's Copy, walked.
-/
import Derived.Test.YtmlchbohijolaaaCk06
import Derived.Laws.ResultCell
import Derived.Test.YtmlchbohijolaaaCk04
import Derived.Test.YtmlchbohijolaaaCk02
import Derived.Test.YtmlchbohijolaaaCk05
namespace Go.Proofs.Ytmlchbohijolaaa.Ar
set_option maxRecDepth 100000
set_option linter.unusedSimpArgs false
set_option linter.unusedVariables false
open Go.RowKit Ba
open Ro (At Ro Cw ros Rr Ow Nw app_num below_new)
theorem set_take {M : List Nd} {P n : Nat} (hP : P < M.length) (hn : n < M.length) (hne : P ≠ n) (i : Nat) {x y : Nd} (hx : x = ⟨(nd M P).ro, (nd M P).up, putAt10 ((nd M P).kids.filter (· != n)) i n⟩) (hy : y = ⟨(nd M n).ro, P, (nd M n).kids.filter (· != n)⟩) : setM M P i n = ((takeOut M n).set P x).set n y := by
  refine ext_nd (by rw [len_set, List.length_set, List.length_set, len_take]) fun m hm => ?_
  rw [nd_set hP hn, nd_setL (by rw [List.length_set, len_take]; exact hn), nd_setL (by rw [len_take]; exact hP), nd_take]
  by_cases e1 : m = n
  · subst e1
    rw [if_pos rfl, if_neg (fun e => hne e.symm), if_pos rfl, hy]
  · rw [if_neg e1, if_neg e1, if_neg e1]
    by_cases e2 : m = P
    · subst e2
      rw [if_pos rfl, if_pos rfl, hx]
    · rw [if_neg e2, if_neg e2]
set_option maxRecDepth 100000 in
set_option maxHeartbeats 8000000 in
theorem insertP1 {p N : Nat} {F : Nat → Prop} {M : List Nd} (P A n : Int) (w : World) (D : Doc12 w N F p M) (W : Wf M) (hm : M.length ≤ 5000) :
    Calls Try.prog 27 #[.pointer (some ⟨p, 0, none⟩), .int .i64 P, .int .i64 A, .int .i64 n] w fun e w' => e = .returned (.int .i64 (insE M P A n)) ∧ ∃ F', Doc12 w' N F' p (insM M P A n) ∧ Next w w' F F' := by
  have HD := Lib.hid D
  obtain ⟨gE, cE, lE, D⟩ := D
  have HHA := Lib.hid (has1 P w D _ rfl)
  have HMV := Lib.hid (movable1 n w D _ rfl)
  have HHD := Lib.hid (holdsData1 P w D _ rfl)
  by_cases h : P < 0 ∨ (M.length : Int) ≤ P ∨ n < 1 ∨ (M.length : Int) ≤ n
  · obtain ⟨e1, e2⟩ := ins_110 (A := A) h
    rw [e1, e2]
    clear D e1 e2 HHD
    by_cases hh : hasB M P = true
    · have hmv : movB M n = false := by
        rw [← Bool.not_eq_true, movB_iff]
        have := hasB_iff.1 hh
        omega
      rw [hh] at HHA
      rw [hmv] at HMV
      clear hh hmv
      go_enter Try.func27, Try.ntmps27
      go_wp2_with fail
      refine HHA.out.mono ?_
      rintro e w1 ⟨rfl, rfl⟩
      go_wp2_with fail
      refine HMV.out.mono ?_
      rintro e w1 ⟨rfl, rfl⟩
      go_wp2
      go_ret
      exact ⟨rfl, F, HD.out, Next.refl _ F⟩
    · rw [Bool.not_eq_true] at hh
      rw [hh] at HHA
      clear hh HMV
      go_enter Try.func27, Try.ntmps27
      go_wp2_with fail
      refine HHA.out.mono ?_
      rintro e w1 ⟨rfl, rfl⟩
      go_wp2
      go_ret
      exact ⟨rfl, F, HD.out, Next.refl _ F⟩
  · have hh : hasB M P = true := hasB_iff.2 ⟨by omega, by omega⟩
    have hmv : movB M n = true := movB_iff.2 ⟨by omega, by omega⟩
    rw [hh] at HHA
    rw [hmv] at HMV
    have HW1 := Lib.hid (fun (q : Bool) (hq : q = true ↔ Win M P n) => withinP1 P n w D W hm q hq)
    obtain ⟨k, hk⟩ : ∃ k : Nat, P = k := ⟨P.toNat, by omega⟩
    obtain ⟨m, hmn⟩ : ∃ m : Nat, n = m := ⟨n.toNat, by omega⟩
    subst hk hmn
    have hkl : k < M.length := by omega
    have hml : m < M.length := by omega
    have HOT := Lib.hid (others1 k m w D hkl hml W (by omega))
    by_cases h2 : (0 < (k : Int) ∧ (nd M (k : Int).toNat).ro.kind ≠ 0) ∨ Win M k m
    · obtain ⟨e1, e2⟩ := ins_111 (A := A) h h2
      rw [e1, e2]
      clear e1 e2 D HOT
      by_cases hd : holdB M k = true
      · rw [hd] at HHD
        clear hd HW1 h2
        go_enter Try.func27, Try.ntmps27
        go_wp2_with fail
        refine HHA.out.mono ?_
        rintro e w1 ⟨rfl, rfl⟩
        go_wp2_with fail
        refine HMV.out.mono ?_
        rintro e w1 ⟨rfl, rfl⟩
        go_wp2_with fail
        refine HHD.out.mono ?_
        rintro e w1 ⟨rfl, rfl⟩
        go_wp2
        go_ret
        exact ⟨rfl, F, HD.out, Next.refl _ F⟩
      · have hwin : Win M k m := by
          rcases h2 with h2 | h2
          · exfalso
            apply hd
            unfold holdB
            rw [Bool.and_eq_true, movB_iff]
            exact ⟨⟨h2.1, by omega⟩, decide_eq_true h2.2⟩
          · exact h2
        rw [Bool.not_eq_true] at hd
        rw [hd] at HHD
        have HWI := Lib.hid (HW1.out true ⟨fun _ => hwin, fun _ => rfl⟩)
        clear hd HW1 h2 hwin
        go_enter Try.func27, Try.ntmps27
        go_wp2_with fail
        refine HHA.out.mono ?_
        rintro e w1 ⟨rfl, rfl⟩
        go_wp2_with fail
        refine HMV.out.mono ?_
        rintro e w1 ⟨rfl, rfl⟩
        go_wp2_with fail
        refine HHD.out.mono ?_
        rintro e w1 ⟨rfl, rfl⟩
        go_wp2_with fail
        refine HWI.out.mono ?_
        rintro e w1 ⟨rfl, rfl⟩
        go_wp2
        go_ret
        exact ⟨rfl, F, HD.out, Next.refl _ F⟩
    · have hd : holdB M k = false := by
        rw [← Bool.not_eq_true]
        intro hd
        unfold holdB at hd
        rw [Bool.and_eq_true, movB_iff] at hd
        exact h2 (.inl ⟨hd.1.1, of_decide_eq_true hd.2⟩)
      have hnw : ¬ Win M k m := fun h3 => h2 (.inr h3)
      rw [hd] at HHD
      have HWI := Lib.hid (HW1.out false ⟨fun h => (by cases h), fun h => absurd h hnw⟩)
      clear hd HW1
      by_cases h3 : A < 0 ∨ (((nd M (k : Int).toNat).kids.filter (· != (m : Int).toNat)).length : Int) < A
      · obtain ⟨e1, e2⟩ := ins_1 h h2 h3
        rw [e1, e2]
        clear e1 e2 D
        by_cases ha : A < 0
        · clear HOT h3
          go_enter Try.func27, Try.ntmps27
          go_wp2_with fail
          refine HHA.out.mono ?_
          rintro e w1 ⟨rfl, rfl⟩
          go_wp2_with fail
          refine HMV.out.mono ?_
          rintro e w1 ⟨rfl, rfl⟩
          go_wp2_with fail
          refine HHD.out.mono ?_
          rintro e w1 ⟨rfl, rfl⟩
          go_wp2_with fail
          refine HWI.out.mono ?_
          rintro e w1 ⟨rfl, rfl⟩
          go_wp2
          go_ret
          exact ⟨rfl, F, HD.out, Next.refl _ F⟩
        · obtain ⟨L, hL⟩ : ∃ L, ((nd M k).kids.filter (· != m)).length = L := ⟨_, rfl⟩
          have h4 : (L : Int) < A := by
            rcases h3 with h3 | h3
            · exact absurd h3 ha
            · rw [← hL]
              exact h3
          rw [hL] at HOT
          clear h3 hL
          go_enter Try.func27, Try.ntmps27
          go_wp2_with fail
          refine HHA.out.mono ?_
          rintro e w1 ⟨rfl, rfl⟩
          go_wp2_with fail
          refine HMV.out.mono ?_
          rintro e w1 ⟨rfl, rfl⟩
          go_wp2_with fail
          refine HHD.out.mono ?_
          rintro e w1 ⟨rfl, rfl⟩
          go_wp2_with fail
          refine HWI.out.mono ?_
          rintro e w1 ⟨rfl, rfl⟩
          go_wp2_with fail
          refine HOT.out.mono ?_
          rintro e w1 ⟨rfl, rfl⟩
          go_wp2
          go_ret
          exact ⟨rfl, F, HD.out, Next.refl _ F⟩
      · obtain ⟨e1, e2⟩ := ins_0 h h2 h3
        rw [e1, e2, Int.toNat_natCast, Int.toNat_natCast]
        obtain ⟨a, rfl⟩ : ∃ a : Nat, A = a := ⟨A.toNat, by omega⟩
        rw [Int.toNat_natCast]
        obtain ⟨L, hL⟩ : ∃ L, ((nd M k).kids.filter (· != m)).length = L := ⟨_, rfl⟩
        have h4 : ¬ (L : Int) < a := fun h4 => h3 (.inr (by rw [← hL] at h4; exact h4))
        have hne : k ≠ m := fun e => hnw (by rw [e]; exact win_nat.2 (.refl hml))
        rw [hL] at HOT
        have HDE := Lib.hid (detachP1 m w HD.out W hm hml)
        have HL := Lib.hid hL
        have ha0 : ¬ (a : Int) < 0 := by omega
        clear h3 e1 e2 D hL h2 hnw h
        go_enter Try.func27, Try.ntmps27
        go_wp2_with fail
        refine HHA.out.mono ?_
        rintro e w1 ⟨rfl, rfl⟩
        go_wp2_with fail
        refine HMV.out.mono ?_
        rintro e w1 ⟨rfl, rfl⟩
        go_wp2_with fail
        refine HHD.out.mono ?_
        rintro e w1 ⟨rfl, rfl⟩
        go_wp2_with fail
        refine HWI.out.mono ?_
        rintro e w1 ⟨rfl, rfl⟩
        go_wp2_with fail
        refine HOT.out.mono ?_
        rintro e w1 ⟨rfl, rfl⟩
        go_wp2_with fail
        refine HDE.out.mono ?_
        rintro e w2 ⟨rfl, F2, ⟨gE, cE, lE, D⟩, N2⟩
        have hlt : (takeOut M m).length = M.length := len_take M m
        obtain ⟨e, he, hen, hek, hok, hoa, c6, c5, c4⟩ := D.kidsOf (k := k) (by rw [hlt]; exact hkl)
        have hx := D.x
        have hcap := D.obj.2.2.1
        rw [hlt] at hx hcap
        have hekl : e.kids.length = L := by rw [hek, nd_take]; exact HL.out
        have hal : a ≤ e.kids.length := by omega
        have hLl : L ≤ 5000 := by
          rw [← HL.out]
          exact Nat.le_trans (List.length_filter_le _ _) (kids_bound W hm k)
        have hgl := D.obj.2.1
        have hki : (k : Int) < M.length := by omega
        have hmi : (m : Int) < M.length := by omega
        have hw1 := withI1 (N := N) a m w2 hok hal (by omega) D.hN
        have hw2 := withI1 (N := N) a m w2.drew hok hal (by omega) D.hN
        rw [hekl] at hw1 hw2 c6
        have HW1 := Lib.hid hw1; have HW2 := Lib.hid hw2
        have HE := Lib.hid he; have HEN := Lib.hid hen; have HEK := Lib.hid hek; have HOA := Lib.hid hoa; have HOK := Lib.hid hok; have HEKL := Lib.hid hekl
        have HN2 := Lib.hid N2; have HD2 := Lib.hid D
        have hpl := D.p_lt
        have HF := Lib.hid (fun j => D.frz j)
        have hgE := HF.out (k * 7 + 6)
        clear hw1 hw2 he hen hek hok hoa D N2 hal hekl c5 c4
        go_upto_region 7 with (fail)
        go_cut [] from 44 to 61 (fun wx => ∃ A5 k5 w5, wx = w5.setCell ⟨gE, k * 7 + 6, none⟩ (.slice A5 (L + 1) k5) ∧ OK w5 N A5 k5 (putAt10 e.kids a m) ∧ Below w2.heap.size w2 w5 ∧ (∀ b, blkOf A5 = some b → w2.heap.size ≤ b))
        case first =>
          go_region_law (go_simp; go_at_call 65; (first | refine HW1.out.mono ?_ | refine HW2.out.mono ?_); rintro e5 w5 ⟨A5, k5, rfl, ho5, hb5, hn5⟩; have hb5' : Below w2.heap.size w2 w5 := ⟨hb5.os, hb5.tape, hb5.output, hb5.size, hb5.block⟩; have d0 := (hb5'.cell (p := ⟨p, 0, none⟩) hpl).trans hx; have d6 := (hb5'.cell (p := ⟨gE, k * 7 + 6, none⟩) hgl).trans c6; have dF := (hb5'.frozen (p := ⟨gE, k * 7 + 6, none⟩) hgl).trans hgE; have HO5 := Lib.hid ho5; have HB5 := Lib.hid hb5'; have HN5 := Lib.hid hn5; clear ho5 hb5 hn5 hb5')
          all_goals go_simp
          all_goals go_wp2_with fail
          all_goals go_meet
          all_goals exact ⟨A5, k5, w5, rfl, HO5.out, HB5.out, HN5.out⟩
        case rest =>
        obtain ⟨A5, k5, w5, rfl, ho5, hb5, hn5⟩ := hcut
        have hl1 : (putAt10 e.kids a m).length = L + 1 := by rw [put_len, HEKL.out]
        have hoaw : OA w5 N e.x := HOA.out.block fun g hg => hb5.block g (oa_obj HOA.out hg).2.2.1
        obtain ⟨P6, N6⟩ := HD2.out.put (e' := ⟨e.x, e.up, A5, k5, putAt10 e.kids a m⟩) HE.out (w' := w5) (Touch.of_below hb5) (j := 6) (by decide) (.slice A5 (L + 1) k5) (by rw [← hl1]; rfl) hoaw ho5 (fun g hg => .inl hg) (fun g hg => .inr (hn5 g hg))
        obtain ⟨w6, hw6⟩ : ∃ w6, w5.setCell ⟨gE, k * 7 + 6, none⟩ (.slice A5 (L + 1) k5) = w6 := ⟨_, rfl⟩
        rw [hw6] at P6 N6
        rw [hw6]
        have hl6 : ((takeOut M m).set k (nodeOf ⟨e.x, e.up, A5, k5, putAt10 e.kids a m⟩)).length = M.length := by rw [List.length_set, len_take]
        obtain ⟨e2, he2, hen2, _, hok2, hoa2, _, c5', _⟩ := P6.kidsOf (k := m) (by rw [hl6]; exact hml)
        have x6 := P6.x
        rw [hl6] at x6
        have f6 := P6.frz (m * 7 + 5)
        obtain ⟨P7, N7⟩ := P6.put (e' := ⟨e2.x, k, e2.K, e2.kc, e2.kids⟩) he2 (w' := w6) (Touch.refl _ _) (j := 5) (by decide) (.int .i64 k) rfl hoa2 hok2 (fun g hg => .inl hg) (fun g hg => .inl hg)
        have hM : setM M k a m = ((takeOut M m).set k (nodeOf ⟨e.x, e.up, A5, k5, putAt10 e.kids a m⟩)).set m (nodeOf ⟨e2.x, k, e2.K, e2.kc, e2.kids⟩) := by
          refine set_take hkl hml hne a ?_ ?_
          · have h1 := HEN.out
            rw [nd_take, if_neg hne] at h1
            have h2 := HEK.out
            rw [nd_take] at h2
            unfold nodeOf
            simp only
            rw [h2]
            have r1 : ({ e.x.ro with depth := 0 } : Ro) = (nd M k).ro := congrArg Nd.ro h1
            have u1 : e.up = (nd M k).up := congrArg Nd.up h1
            rw [r1, u1]
          · have h1 := hen2
            rw [nd_setL (by rw [len_take]; exact hkl), if_neg (fun e => hne e.symm), nd_take, if_pos rfl] at h1
            have r1 : ({ e2.x.ro with depth := 0 } : Ro) = (nd M m).ro := congrArg Nd.ro h1
            have k1 : e2.kids = (nd M m).kids.filter (· != m) := congrArg Nd.kids h1
            unfold nodeOf
            simp only
            rw [r1, k1]
        have HM := Lib.hid hM
        have HP7 := Lib.hid P7; have HN7 := Lib.hid (HN2.out.trans (N6.trans N7))
        clear P6 N6 P7 N7 hw6 hoaw hl6 he2 hok2 hoa2 hen2 hx c6 hM ho5 hb5 hn5
        go_wp2
        go_ret
        rw [HM.out]
        exact ⟨rfl, _, ⟨_, _, _, HP7.out⟩, HN7.out⟩
end Go.Proofs.Ytmlchbohijolaaa.Ar

namespace Go.Proofs.Ytmlchbohijolaaa.Ar
set_option maxRecDepth 100000
set_option linter.unusedSimpArgs false
set_option linter.unusedVariables false
open Go.RowKit Ba
open Ro (At Ro Cw ros Rr Ow Nw Fr Att Ap Sh Ra cells acells app_num below_new infoI info_row len_cells rowV rowO Few)
open To (Aw)
set_option maxRecDepth 100000 in
set_option maxHeartbeats 4000000 in
theorem rowAtP1 {p N gE cE : Nat} {F : Nat → Prop} {M : List Nd} {lE : List Ew} (k : Nat) (d : Int) (w : World) (D : PD w N F p M gE cE lE) (hk : k < M.length) (hf : Few (M.map Nd.ro)) :
    Calls Try.prog 68 #[.pointer (some ⟨gE, k * 7, none⟩), .int .i64 d] w fun e w' => ∃ y : Cw, e = .returned (rowV y) ∧ y.ro = { (nd M k).ro with depth := d } ∧ Fr w.heap.size w' y ∧ Below w.heap.size w w' := by
  obtain ⟨e, he, hem, hen, hc⟩ := D.at_ hk
  have hoa := (D.attrs e hem).1
  have hgl := D.obj.2.1
  have hfe : e.x.ro.attrs.length ≤ 2000000 := by
    have h1 := hf _ (List.mem_map.2 ⟨_, List.getElem_mem hk, rfl⟩)
    rw [← nd_at hk, ← hen] at h1
    exact Nat.le_trans h1 (by decide)
  have c0 := hc 0 _ rfl; have c1 := hc 1 _ rfl; have c2 := hc 2 _ rfl; have c3 := hc 3 _ rfl; have c4 := hc 4 _ rfl
  rw [Nat.add_zero] at c0
  have HOA := Lib.hid hoa; have HEN := Lib.hid hen
  clear hc he hem hen hoa D
  go_enter Try.func68, Try.ntmps68
  go_upto_region 2 with (fail)
  obtain ⟨o1, ho1⟩ : ∃ o1 : Obj, o1 = .cells #[.int .i64 0, .int .i64 0, .string ⟨#[]⟩, .string ⟨#[]⟩, .slice none 0 0] 65 := ⟨_, rfl⟩
  obtain ⟨w2, hw2⟩ : ∃ w2, (w.alloc o1).alloc (rowO e.x) = w2 := ⟨_, rfl⟩
  have hs1 : (w.alloc o1).heap.size = w.heap.size + 1 := by simp
  have hb2 : Below w.heap.size w w2 := hw2 ▸ bt (below_new w o1) (below_new _ _)
  have hq2 : w2.heap[w.heap.size + 1]? = some (rowO e.x) := by rw [← hw2, ← hs1]; exact heap_alloc_new _ _
  have hq1 : w2.heap[w.heap.size]? = some o1 := by
    rw [← hw2, (below_new (w.alloc o1) (rowO e.x)).block _ (by rw [hs1]; omega)]
    exact heap_alloc_new w o1
  have HW2 := Lib.hid hw2
  rw [ho1] at hw2
  rw [show (w.alloc (.cells #[.int .i64 0, .int .i64 0, .string ⟨#[]⟩, .string ⟨#[]⟩, .slice none 0 0] 65)).alloc (rowO e.x) = w2 from hw2]
  have k2 : w2.cell? ⟨w.heap.size + 1, 0, none⟩ = some (.int .i64 e.x.ro.depth) := cell_of_row w2 _ 0 _ _ _ hq2
  have f2 := box_frozen hq2 0
  obtain ⟨z, hz⟩ : ∃ z : Cw, z = ⟨{ e.x.ro with depth := d }, e.x.A, e.x.c⟩ := ⟨_, rfl⟩
  obtain ⟨w3, hw3⟩ : ∃ w3, w2.setCell ⟨w.heap.size + 1, 0, none⟩ (.int .i64 d) = w3 := ⟨_, rfl⟩
  have hz3 : w3.heap[w.heap.size + 1]? = some (rowO z) := by
    rw [← hw3, hz]
    simp [World.setCell, Array.getElem?_modify, hq2]
  have hy3 : w3.heap[w.heap.size]? = some o1 := by
    rw [← hw3, Below.heap_setCell _ _ _ _ (by show w.heap.size ≠ w.heap.size + 1; omega)]
    exact hq1
  have hb3 : Below w.heap.size w w3 := hw3 ▸ hb2.setCell (p := ⟨w.heap.size + 1, 0, none⟩) (by show w.heap.size ≤ w.heap.size + 1; omega) _
  have k3 := (hb3.cell (p := ⟨gE, k * 7 + 4, none⟩) hgl).trans c4
  have hoa3 : OA w3 N e.x := HOA.out.block fun g hg => hb3.block g (oa_obj HOA.out hg).2.2.1
  have HCP := Lib.hid (copiedA1 e.x w3 (oa_att hoa3) hfe)
  have HW3 := Lib.hid hw3; have HZ3 := Lib.hid hz3; have HY3 := Lib.hid hy3; have HB3 := Lib.hid hb3; have HZ := Lib.hid hz; have HO1 := Lib.hid ho1
  clear hw2 hw3 hz3 hy3 hb3 hq2 hq1 hb2 hoa3 hs1 c0 c1 c2 c3 hz
  go_upto_region 3 with (fail)
  rw [HW3.out]
  clear k2 f2 c4
  go_wp2_with fail
  refine HCP.out.mono ?_
  rintro e4 w4 ⟨v, rfl, haw, hb4⟩
  obtain ⟨A4, c4, rfl⟩ := haw.form
  obtain ⟨L, hL⟩ : ∃ L, e.x.ro.attrs.length = L := ⟨_, rfl⟩
  have hlt3 := (Array.getElem?_eq_some_iff.1 HZ3.out).1
  have hz4 := (hb4.block _ hlt3).trans HZ3.out
  have hy4 := (hb4.block _ (by omega : w.heap.size < w3.heap.size)).trans HY3.out
  have k4 : w4.cell? ⟨w.heap.size + 1, 4, none⟩ = some (.slice z.A z.ro.attrs.length z.c) := cell_of_row w4 _ 4 _ _ _ hz4
  have f4 := box_frozen hz4 4
  obtain ⟨y, hy⟩ : ∃ y : Cw, y = ⟨{ e.x.ro with depth := d }, A4, c4⟩ := ⟨_, rfl⟩
  obtain ⟨w5, hw5⟩ : ∃ w5, w4.setCell ⟨w.heap.size + 1, 4, none⟩ (.slice A4 e.x.ro.attrs.length c4) = w5 := ⟨_, rfl⟩
  have hz5 : w5.heap[w.heap.size + 1]? = some (rowO y) := by
    rw [← hw5, hy]
    simp [World.setCell, Array.getElem?_modify, hz4, HZ.out]
  have hy5 : w5.heap[w.heap.size]? = some o1 := by
    rw [← hw5, Below.heap_setCell _ _ _ _ (by show w.heap.size ≠ w.heap.size + 1; omega)]
    exact hy4
  have hb5 : Below w.heap.size w w5 := hw5 ▸ (bt HB3.out hb4).setCell (p := ⟨w.heap.size + 1, 4, none⟩) (by show w.heap.size ≤ w.heap.size + 1; omega) _
  have hfr5 : Fr w.heap.size w5 y := by
    have h1 : Aw w.heap.size w5 (.slice A4 e.x.ro.attrs.length c4) e.x.ro.attrs := by
      refine ⟨owns_block (World.ownsRow.mono haw.1 HB3.out.size) fun g hg => ?_, haw.2⟩
      rw [← hw5]
      refine Below.heap_setCell _ _ _ _ fun e2 => ?_
      have h2 := (owns_lt haw.1 hg).1
      have e2 : g = w.heap.size + 1 := e2
      omega
    rw [hy]
    exact h1
  rw [HO1.out] at hy5
  have q0 : w5.cell? ⟨w.heap.size + 1, 0, none⟩ = some (.int .i64 y.ro.depth) := cell_of_row w5 _ 0 _ _ _ hz5
  have q1 : w5.cell? ⟨w.heap.size + 1, 1, none⟩ = some (.int .i64 y.ro.kind) := cell_of_row w5 _ 1 _ _ _ hz5
  have q2 : w5.cell? ⟨w.heap.size + 1, 2, none⟩ = some (.string y.ro.name) := cell_of_row w5 _ 2 _ _ _ hz5
  have q3 : w5.cell? ⟨w.heap.size + 1, 3, none⟩ = some (.string y.ro.data) := cell_of_row w5 _ 3 _ _ _ hz5
  have q4 : w5.cell? ⟨w.heap.size + 1, 4, none⟩ = some (.slice y.A y.ro.attrs.length y.c) := cell_of_row w5 _ 4 _ _ _ hz5
  have p0 : w5.cell? ⟨w.heap.size, 0, none⟩ = some (.int .i64 0) := cell_of_row w5 _ 0 _ _ _ hy5
  have p1 : w5.cell? ⟨w.heap.size, 1, none⟩ = some (.int .i64 0) := cell_of_row w5 _ 1 _ _ _ hy5
  have p2 : w5.cell? ⟨w.heap.size, 2, none⟩ = some (.string ⟨#[]⟩) := cell_of_row w5 _ 2 _ _ _ hy5
  have p3 : w5.cell? ⟨w.heap.size, 3, none⟩ = some (.string ⟨#[]⟩) := cell_of_row w5 _ 3 _ _ _ hy5
  have p4 : w5.cell? ⟨w.heap.size, 4, none⟩ = some (.slice none 0 0) := cell_of_row w5 _ 4 _ _ _ hy5
  have g0 := box_frozen hy5 0; have g1 := box_frozen hy5 1; have g2 := box_frozen hy5 2; have g3 := box_frozen hy5 3; have g4 := box_frozen hy5 4
  have HW5 := Lib.hid hw5; have HB5 := Lib.hid hb5; have HFR := Lib.hid hfr5; have HY := Lib.hid hy; have HY5 := Lib.hid hy5
  clear hw5 hb5 hfr5 hz5 hy hy5 hz4 hy4 hb4 haw HCP hL
  go_upto_region 4 with (fail)
  rw [HW5.out]
  clear k4 f4
  go_wp2
  have hy5 := HY5.out
  obtain ⟨w6, hw6⟩ : ∃ w6, ((((w5.setCell ⟨w.heap.size, 0, none⟩ (.int .i64 y.ro.depth)).setCell ⟨w.heap.size, 1, none⟩ (.int .i64 y.ro.kind)).setCell ⟨w.heap.size, 2, none⟩ (.string y.ro.name)).setCell ⟨w.heap.size, 3, none⟩ (.string y.ro.data)).setCell ⟨w.heap.size, 4, none⟩ (.slice y.A y.ro.attrs.length y.c) = w6 := ⟨_, rfl⟩
  rw [hw6]
  have hz6 : w6.heap[w.heap.size]? = some (rowO y) := by
    rw [← hw6]
    simp [World.setCell, Array.getElem?_modify, hy5]
  have hk6 : ∀ b, b ≠ w.heap.size → w6.heap[b]? = w5.heap[b]? := fun b hb => by
    rw [← hw6, Below.heap_setCell _ _ _ _ hb, Below.heap_setCell _ _ _ _ hb, Below.heap_setCell _ _ _ _ hb, Below.heap_setCell _ _ _ _ hb, Below.heap_setCell _ _ _ _ hb]
  have hfr6 : Fr w.heap.size w6 y := Fr.block HFR.out fun g hg => hk6 g fun e2 => by
    obtain ⟨_, _, hh⟩ := at_obj HFR.out hg
    rw [e2] at hh
    exact type_ne hh hy5 (by decide) rfl
  have hb6 : Below w.heap.size w w6 := by
    rw [← hw6]
    exact ((((HB5.out.setCell (p := ⟨w.heap.size, 0, none⟩) (Nat.le_refl _) _).setCell (p := ⟨w.heap.size, 1, none⟩) (Nat.le_refl _) _).setCell (p := ⟨w.heap.size, 2, none⟩) (Nat.le_refl _) _).setCell (p := ⟨w.heap.size, 3, none⟩) (Nat.le_refl _) _).setCell (p := ⟨w.heap.size, 4, none⟩) (Nat.le_refl _) _
  refine bodyPost_ret (results_cell_row rfl _ w6 w.heap.size 65 _ _ _ rfl hz6 Try.underlying65 rfl Ro.size_row) rfl ?_
  refine ⟨y, rfl, ?_, hfr6, hb6⟩
  rw [HY.out]
  have r1 : ({ e.x.ro with depth := 0 } : Ro) = (nd M k).ro := congrArg Nd.ro HEN.out
  rw [← r1]
end Go.Proofs.Ytmlchbohijolaaa.Ar

namespace Go.Proofs.Ytmlchbohijolaaa.Ar
set_option maxRecDepth 100000
set_option linter.unusedSimpArgs false
set_option linter.unusedVariables false
open Go.RowKit Ba
open Ro (At Ro Cw ros Rr Ow Nw Fr Att Ap Sh Ra cells acells app_num below_new infoI info_row len_cells rowV rowO Few)
open To (Aw)
theorem kids_out {M : List Nd} {n : Int} (h : hasB M n = false) : kidsI M n = [] := by
  unfold kidsI
  by_cases h0 : 0 ≤ n
  · rw [if_pos h0, nd_out]
    · rfl
    · intro h1
      have : hasB M n = true := hasB_iff.2 ⟨h0, by omega⟩
      rw [this] at h
      cases h
  · rw [if_neg h0]
set_option maxRecDepth 100000 in
set_option maxHeartbeats 4000000 in
theorem kidsP1 {p N gE cE : Nat} {F : Nat → Prop} {M : List Nd} {lE : List Ew} (n : Int) (w : World) (D : PD w N F p M gE cE lE) (W : Wf M) (hm : M.length ≤ 5000) :
    Calls Try.prog 28 #[.pointer (some ⟨p, 0, none⟩), .int .i64 n] w fun e w' => ∃ v, e = .returned v ∧ Nw w.heap.size w' v (kidsI M n) ∧ Below w.heap.size w w' := by
  have HH := Lib.hid (has1 n w D _ rfl)
  have hx := D.x
  cases hh : hasB M n with
  | false =>
    rw [kids_out hh]
    rw [hh] at HH
    clear D hx hh
    go_enter Try.func28, Try.ntmps28
    go_wp2_with fail
    refine HH.out.mono ?_
    rintro e w1 ⟨rfl, rfl⟩
    go_wp2
    go_ret
    exact ⟨_, rfl, nw_nil _ _, Below.refl _ _⟩
  | true =>
    rw [hh] at HH
    obtain ⟨h0, h1⟩ := hasB_iff.1 hh
    obtain ⟨k, rfl⟩ : ∃ k : Nat, n = k := ⟨n.toNat, by omega⟩
    rw [kidsI_nat]
    have hk : k < M.length := by omega
    obtain ⟨e, he, hen, hek, hok, hoa, c6, c5, c4⟩ := D.kidsOf hk
    have hcap := D.obj.2.2.1
    have hkl : e.kids.length ≤ 5000 := by rw [hek]; exact kids_bound W hm k
    have HC := Lib.hid (copiedI1 N e.K e.kc e.kids w hok (by omega))
    have HEK := Lib.hid hek
    rw [← hek]
    clear D hh he hen hek hok hoa c5 c4
    go_enter Try.func28, Try.ntmps28
    go_wp2_with fail
    refine HH.out.mono ?_
    rintro e1 w1 ⟨rfl, rfl⟩
    go_wp2_with fail
    refine HC.out.mono ?_
    rintro e2 w2 ⟨v, rfl, ho, hb⟩
    have HO := Lib.hid ho; have HB := Lib.hid hb
    clear ho hb
    go_wp2
    go_ret
    exact ⟨v, rfl, HO.out, HB.out⟩
abbrev five (w : World) (b : Nat) (y : Cw) : World := ((((w.setCell ⟨b, 0, none⟩ (.int .i64 y.ro.depth)).setCell ⟨b, 1, none⟩ (.int .i64 y.ro.kind)).setCell ⟨b, 2, none⟩ (.string y.ro.name)).setCell ⟨b, 3, none⟩ (.string y.ro.data)).setCell ⟨b, 4, none⟩ (.slice y.A y.ro.attrs.length y.c)
theorem five_row {w : World} {b K : Nat} {a0 a1 a2 a3 a4 : Value} (h : w.heap[b]? = some (.cells #[a0, a1, a2, a3, a4] 65)) (y : Cw) (hK : K ≤ b) : (five w b y).heap[b]? = some (rowO y) ∧ (∀ N, Fr N w y → Fr N (five w b y) y) ∧ ∀ w0, Below K w0 w → Below K w0 (five w b y) := by
  refine ⟨by simp [five, World.setCell, Array.getElem?_modify, h], fun N hf => Fr.block hf fun g hg => ?_, fun w0 hb => ?_⟩
  · have hne : g ≠ b := fun e2 => by
      obtain ⟨_, _, hh⟩ := at_obj hf hg
      rw [e2] at hh
      exact type_ne hh h (by decide) rfl
    show (five w b y).heap[g]? = w.heap[g]?
    unfold five
    rw [Below.heap_setCell _ _ _ _ hne, Below.heap_setCell _ _ _ _ hne, Below.heap_setCell _ _ _ _ hne, Below.heap_setCell _ _ _ _ hne, Below.heap_setCell _ _ _ _ hne]
  · exact ((((hb.setCell (p := ⟨b, 0, none⟩) hK _).setCell (p := ⟨b, 1, none⟩) hK _).setCell (p := ⟨b, 2, none⟩) hK _).setCell (p := ⟨b, 3, none⟩) hK _).setCell (p := ⟨b, 4, none⟩) hK _
theorem results_row_tmp {fn : Func} {p u : Tmp} (h : fn.results = #[.cell p 65, .tmp u]) (tmps : Array Value) (w : World) (g : Nat) (y : Cw)
    (hp : tmps.getD p undef = .pointer (some ⟨g, 0, none⟩)) (hg : w.heap[g]? = some (rowO y)) :
    (results fn tmps).run Try.prog w = .ok (.tuple #[rowV y, tmps.getD u undef]) w := by
  rw [results_cell_tmp h]
  have hp' : tmps[p]?.getD undef = .pointer (some ⟨g, 0, none⟩) := by simpa using hp
  simp [hp', asAddr, Result.andThen, run_loadVar_row w g 65 65 _ _ _ hg Try.underlying65 rfl Ro.size_row]
def rowAns (M : List Nd) (n : Int) : Ro := if hasB M n then { (nd M n.toNat).ro with depth := 0 } else ro00
set_option maxRecDepth 100000 in
set_option maxHeartbeats 4000000 in
theorem rowP1 {p N gE cE : Nat} {F : Nat → Prop} {M : List Nd} {lE : List Ew} (n : Int) (w : World) (D : PD w N F p M gE cE lE) (hf : Few (M.map Nd.ro)) (q : Int) (hq : (if hasB M n then (0 : Int) else 110) = q) :
    Calls Try.prog 34 #[.pointer (some ⟨p, 0, none⟩), .int .i64 n] w fun e w' => ∃ y : Cw, e = .returned (.tuple #[rowV y, .int .i64 q]) ∧ y.ro = rowAns M n ∧ Fr w.heap.size w' y ∧ Below w.heap.size w w' := by
  obtain ⟨o1, ho1⟩ : ∃ o1 : Obj, o1 = .cells #[.int .i64 0, .int .i64 0, .string ⟨#[]⟩, .string ⟨#[]⟩, .slice none 0 0] 65 := ⟨_, rfl⟩
  obtain ⟨w1, hw1⟩ : ∃ w1, w.alloc o1 = w1 := ⟨_, rfl⟩
  have hb1 : Below w.heap.size w w1 := hw1 ▸ below_new w o1
  have hs1 : w1.heap.size = w.heap.size + 1 := by rw [← hw1]; simp
  have hx1 : w1.heap[w.heap.size]? = some o1 := hw1 ▸ heap_alloc_new w o1
  have D1 := D.below hb1
  have HH := Lib.hid (has1 n w1 D1 _ rfl)
  have hx := D1.x
  have hcap := D1.obj.2.2.1
  rw [ho1] at hw1 hx1
  have HW1 := Lib.hid hw1; have HX1 := Lib.hid hx1; have HB1 := Lib.hid hb1; have HS1 := Lib.hid hs1
  cases hh : hasB M n with
  | false =>
    rw [hh] at HH hq
    have hq : (110 : Int) = q := hq
    subst hq
    have p0 : w1.cell? ⟨w.heap.size, 0, none⟩ = some (.int .i64 0) := cell_of_row w1 _ 0 _ _ _ hx1
    have p1 : w1.cell? ⟨w.heap.size, 1, none⟩ = some (.int .i64 0) := cell_of_row w1 _ 1 _ _ _ hx1
    have p2 : w1.cell? ⟨w.heap.size, 2, none⟩ = some (.string ⟨#[]⟩) := cell_of_row w1 _ 2 _ _ _ hx1
    have p3 : w1.cell? ⟨w.heap.size, 3, none⟩ = some (.string ⟨#[]⟩) := cell_of_row w1 _ 3 _ _ _ hx1
    have p4 : w1.cell? ⟨w.heap.size, 4, none⟩ = some (.slice none 0 0) := cell_of_row w1 _ 4 _ _ _ hx1
    have g0 := box_frozen hx1 0; have g1 := box_frozen hx1 1; have g2 := box_frozen hx1 2; have g3 := box_frozen hx1 3; have g4 := box_frozen hx1 4
    have HR := Lib.hid (show rowAns M n = ro00 by unfold rowAns; rw [hh]; rfl)
    clear D D1 hx hh hw1 hx1 hb1 hs1 ho1
    go_enter Try.func34, Try.ntmps34
    go_upto_region 1 with (fail)
    rw [HW1.out]
    go_wp2_with fail
    refine HH.out.mono ?_
    rintro e w1' ⟨rfl, rfl⟩
    go_wp2
    obtain ⟨r1, r2, r3⟩ := five_row HX1.out ⟨ro00, none, 0⟩ (Nat.le_refl _)
    refine bodyPost_ret (results_row_tmp rfl _ (five w1' w.heap.size ⟨ro00, none, 0⟩) w.heap.size ⟨ro00, none, 0⟩ rfl r1) rfl ?_
    exact ⟨⟨ro00, none, 0⟩, rfl, HR.out.symm, ⟨World.ownsRow_nil _ _ _ _, fun x hx => by cases hx⟩, r3 _ HB1.out⟩
  | true =>
    rw [hh] at HH hq
    have hq : (0 : Int) = q := hq
    subst hq
    obtain ⟨h0, h1⟩ := hasB_iff.1 hh
    obtain ⟨k, rfl⟩ : ∃ k : Nat, n = k := ⟨n.toNat, by omega⟩
    have hk : k < M.length := by omega
    have HC := Lib.hid (rowAtP1 k 0 w1 D1 hk hf)
    have HR := Lib.hid (show rowAns M k = { (nd M k).ro with depth := 0 } by unfold rowAns; rw [hh]; rfl)
    clear D D1 hh hw1 hx1 hb1 ho1
    go_enter Try.func34, Try.ntmps34
    go_upto_region 1 with (fail)
    rw [HW1.out]
    go_wp2_with fail
    refine HH.out.mono ?_
    rintro e w1' ⟨rfl, rfl⟩
    go_wp2_with fail
    refine HC.out.mono ?_
    rintro e w2 ⟨y, rfl, hyr, hfr, hb2⟩
    have hx2 := (hb2.block w.heap.size (by omega)).trans HX1.out
    have HYR := Lib.hid hyr; have HFR := Lib.hid hfr; have HX2 := Lib.hid hx2; have HB2 := Lib.hid (bt HB1.out hb2)
    have p0 : w2.cell? ⟨w.heap.size, 0, none⟩ = some (.int .i64 0) := cell_of_row w2 _ 0 _ _ _ hx2
    have p1 : w2.cell? ⟨w.heap.size, 1, none⟩ = some (.int .i64 0) := cell_of_row w2 _ 1 _ _ _ hx2
    have p2 : w2.cell? ⟨w.heap.size, 2, none⟩ = some (.string ⟨#[]⟩) := cell_of_row w2 _ 2 _ _ _ hx2
    have p3 : w2.cell? ⟨w.heap.size, 3, none⟩ = some (.string ⟨#[]⟩) := cell_of_row w2 _ 3 _ _ _ hx2
    have p4 : w2.cell? ⟨w.heap.size, 4, none⟩ = some (.slice none 0 0) := cell_of_row w2 _ 4 _ _ _ hx2
    have g0 := box_frozen hx2 0; have g1 := box_frozen hx2 1; have g2 := box_frozen hx2 2; have g3 := box_frozen hx2 3; have g4 := box_frozen hx2 4
    clear hyr hfr hx2 hb2 HC
    go_wp2
    obtain ⟨r1, r2, r3⟩ := five_row HX2.out y (Nat.le_refl _)
    refine bodyPost_ret (results_row_tmp rfl _ (five w2 w.heap.size y) w.heap.size y rfl r1) rfl ?_
    exact ⟨y, rfl, by rw [HYR.out, HR.out], r2 _ (HFR.out.mono (by omega)), r3 _ HB2.out⟩
end Go.Proofs.Ytmlchbohijolaaa.Ar

namespace Go.Proofs.Ytmlchbohijolaaa.Ar
set_option maxRecDepth 100000
set_option linter.unusedSimpArgs false
set_option linter.unusedVariables false
open Go.RowKit Ba
open Ro (At Ro Cw ros Rr Ow Nw Fr Att Ap Sh Ra cells acells app_num app_row below_new infoI info_row len_cells rowV rowO Few)
open To (Aw)
theorem PD.belowK {w w' : World} {N K : Nat} {F : Nat → Prop} {p gE cE : Nat} {M : List Nd} {lE : List Ew} (h : PD w N F p M gE cE lE) (hb : Below K w w') (hF : ∀ b, F b → b < K) : PD w' N F p M gE cE lE :=
  h.touch (G := fun b => K ≤ b) ⟨hb.os, hb.tape, hb.output, hb.size, fun b _ hn => hb.block b (by omega)⟩ fun b hf hk => by have := hF b hf; omega
def TreeP (M : List Nd) (N : Nat) (F : Nat → Prop) (p gE cE : Nat) (lE : List Ew) (n : Nat) (d : Int) : Prop :=
  ∀ (K : Nat) (w : World) (v : Value) (l : List Cw), PD w N F p M gE cE lE → Ow K w v l → (∀ x ∈ l, Fr K w x) → K ≤ w.heap.size → (∀ b, F b → b < K) → l.length + (tr M n d).length ≤ 1000000 →
    Calls Try.prog 60 #[.pointer (some ⟨p, 0, none⟩), v, .int .i64 n, .int .i64 d] w fun e w' => ∃ v' l', e = .returned v' ∧ Ow K w' v' (l ++ l') ∧ (∀ x ∈ l ++ l', Fr K w' x) ∧ ros l' = tr M n d ∧ Below K w w'
def KidsP (M : List Nd) (N : Nat) (F : Nat → Prop) (p gE cE : Nat) (lE : List Ew) (n : Nat) (d : Int) : Prop :=
  ∀ (K : Nat) (w : World) (v : Value) (l : List Cw), PD w N F p M gE cE lE → Ow K w v l → (∀ x ∈ l, Fr K w x) → K ≤ w.heap.size → (∀ b, F b → b < K) → l.length + ((nd M n).kids.flatMap fun k => tr M k d).length ≤ 1000000 →
    Calls Try.prog 59 #[.pointer (some ⟨p, 0, none⟩), v, .int .i64 n, .int .i64 d] w fun e w' => ∃ v' l', e = .returned v' ∧ Ow K w' v' (l ++ l') ∧ (∀ x ∈ l ++ l', Fr K w' x) ∧ ros l' = ((nd M n).kids.flatMap fun k => tr M k d) ∧ Below K w w'
section
variable {N : Nat} {F : Nat → Prop} {p gE cE : Nat} {M : List Nd} {lE : List Ew}
set_option maxRecDepth 100000 in
set_option maxHeartbeats 4000000 in
theorem tree_of_kids (W : Wf M) (hm : M.length ≤ 5000) (hf : Few (M.map Nd.ro)) (n : Nat) (hn : n < M.length) (d : Int) (hd0 : 0 ≤ d) (hd1 : d ≤ 20000) (hk : KidsP M N F p gE cE lE n (d + 1)) : TreeP M N F p gE cE lE n d := by
  intro K w v l D ho hfr hK hF hl
  have hx := D.x
  have hcap := D.obj.2.2.1
  have hni : (n : Int) < M.length := by omega
  have HR := Lib.hid (rowAtP1 n d w D hn hf)
  have htr := tr_eq W hn d
  rw [htr, List.length_cons] at hl
  have HTR := Lib.hid htr; have HD := Lib.hid D; have HO := Lib.hid ho; have HF := Lib.hid hfr; have HK := Lib.hid hk; have HFB := Lib.hid hF
  have hl1 : l.length ≤ 2000000 := by omega
  clear D ho hfr hk htr hF
  go_enter Try.func60, Try.ntmps60
  go_wp2_with fail
  refine HR.out.mono ?_
  rintro e w1 ⟨y, rfl, hyr, hfy, hb1⟩
  have hbK1 : Below K w w1 := hb1.mono hK
  have hK1 : K ≤ w1.heap.size := Nat.le_trans hK hb1.size
  have HY := Lib.hid hyr; have HO1 := Lib.hid (HO.out.below hb1); have HFY := Lib.hid (hfy.mono hK)
  have HF1 := Lib.hid (show ∀ x ∈ l, Fr K w1 x from fun x hx => (HF.out x hx).below hb1)
  have HB1 := Lib.hid hbK1
  have HAY := Lib.hid (show Att w1 w1.heap.size y from hfy.att); have HAP := Lib.hid (show Ap w1 K y from (hfy.mono hK).ap)
  clear hyr hfy hb1 hbK1 HR
  go_wp2_with (at_builtin; go_loud (refine app_row w1 rfl (.tmp 9) (.tmp 18) rfl K v l y rfl HO1.out HAY.out HAP.out _ rfl rfl hl1 hK1 ?_; intro v2 w2 ho2 hb2 hfr2; have HO2 := Lib.hid ho2; have HB2 := Lib.hid (hb2 _ HB1.out); have HFR2 := Lib.hid hfr2; clear ho2 hb2 hfr2))
  have hKD := HD.out.belowK HB2.out HFB.out
  have hF2 : ∀ x ∈ l ++ [y], Fr K w2 x := fun x hx => by
    rcases List.mem_append.1 hx with hx | hx
    · exact HFR2.out x (HF1.out x hx)
    · rw [List.mem_singleton] at hx
      subst hx
      exact HFR2.out _ HFY.out
  have HC := Lib.hid (HK.out K w2 v2 (l ++ [y]) hKD HO2.out hF2 (Nat.le_trans hK HB2.out.size) HFB.out (by rw [List.length_append, List.length_singleton]; omega))
  clear hKD hF2
  go_wp2_with fail
  refine HC.out.mono ?_
  rintro e w3 ⟨v3, l3, rfl, ho3, hf3, hr3, hb3⟩
  have HO3 := Lib.hid ho3; have HF3 := Lib.hid hf3; have HR3 := Lib.hid hr3; have HB3 := Lib.hid hb3
  clear ho3 hf3 hr3 hb3 HC
  go_wp2
  go_ret
  refine ⟨v3, y :: l3, rfl, by simpa using HO3.out, by simpa using HF3.out, ?_, HB2.out.trans HB3.out⟩
  rw [Ro.ros_cons, HTR.out, HY.out, HR3.out]
set_option maxRecDepth 100000 in
set_option maxHeartbeats 4000000 in
theorem kids_of_tree (W : Wf M) (hm : M.length ≤ 5000) (n : Nat) (hn : n < M.length) (d : Int) (hd0 : 0 ≤ d) (hd1 : d ≤ 20000) (ht : ∀ k ∈ (nd M n).kids, TreeP M N F p gE cE lE k d) : KidsP M N F p gE cE lE n d := by
  intro K w v l D ho hfr hK hF hl
  have hx := D.x
  have hcap := D.obj.2.2.1
  have hni : (n : Int) < M.length := by omega
  obtain ⟨e, he, hen, hek, hok, hoa, c6, c5, c4⟩ := D.kidsOf hn
  have hkl : e.kids.length ≤ 5000 := by rw [hek]; exact kids_bound W hm n
  rw [← hek] at ht hl ⊢
  have HKC := Lib.hid (show 0 < e.kids.length → ∃ g, e.K = some ⟨g, 0, none⟩ ∧ g < K ∧ ∀ j (h : j < e.kids.length), w.cell? ⟨g, j, none⟩ = some (.int .i64 (e.kids[j] : Nat)) from fun h0 => by
    rcases Of.obj hok with ⟨_, h0', _⟩ | ⟨g, cur, hA, _⟩
    · omega
    · refine ⟨g, hA, hF g ((D.kids e (List.mem_of_getElem? he)).2 g (by unfold bK; rw [hA]; rfl)), fun j hj => (Of.cells hok hA j _ (by rw [List.getElem?_map, List.getElem?_eq_getElem hj]; rfl)).1⟩)
  have HD := Lib.hid D; have HT := Lib.hid ht; have HFB := Lib.hid hF; have HL := Lib.hid hl; have HO := Lib.hid ho; have HF := Lib.hid hfr
  clear D ho hfr ht he hen hek hok hoa c5 c4 hF hl
  go_enter Try.func59, Try.ntmps59
  go_wp2
  go_loopw [1, 20] (fun uv i wr => ∃ (u : Value) (lj : List Cw) (j : Nat), u = uv ∧ i = .int .i64 j ∧ j ≤ e.kids.length ∧ Ow K wr u (l ++ lj) ∧ (∀ x ∈ l ++ lj, Fr K wr x) ∧ ros lj = (e.kids.take j).flatMap (fun k => tr M k d) ∧ Below K w wr) (fun _ i _ => e.kids.length - (intOf i).toNat)
  case atStart => exact ⟨v, [], 0, rfl, rfl, Nat.zero_le _, by simpa using HO.out, by simpa using HF.out, rfl, Below.refl _ _⟩
  case round =>
    obtain ⟨u, lj, j, rfl, rfl, hj, ho, hfr, hr, hbel⟩ := hrel
    have HOj := Lib.hid ho; have HFj := Lib.hid hfr; have HRj := Lib.hid hr; have HBj := Lib.hid hbel
    by_cases hjl : j < e.kids.length
    · obtain ⟨g, hg, hgK, hcell⟩ := HKC.out (by omega)
      rw [hg]
      have hkc := (hbel.cell (p := ⟨g, j, none⟩) hgK).trans (hcell j hjl)
      obtain ⟨k, hk⟩ : ∃ k, e.kids[j] = k := ⟨_, rfl⟩
      rw [hk] at hkc
      have hji : (j : Int) < e.kids.length := by omega
      have hta : e.kids.take (j + 1) = e.kids.take j ++ [k] := by
        rw [List.take_add_one, List.getElem?_eq_getElem hjl, hk]
        rfl
      have hsing : ([k].flatMap fun k => tr M k d) = tr M k d := by simp
      have hpre := flat_prefix (fun k => tr M k d) e.kids (j + 1)
      rw [hta, List.flatMap_append, List.length_append, hsing] at hpre
      have hlen := congrArg List.length hr
      rw [Ro.len_ros] at hlen
      have hl1 := HL.out
      have HC := Lib.hid (HT.out k (hk ▸ List.getElem_mem hjl) K wr u (l ++ lj) (HD.out.belowK hbel HFB.out) ho hfr (Nat.le_trans hK hbel.size) HFB.out (by rw [List.length_append]; omega))
      have HTA := Lib.hid hta; have HSI := Lib.hid hsing
      clear ho hfr hr hbel hcell hk hta hsing hpre hlen hl1
      go_wp2_with fail
      refine HC.out.mono ?_
      rintro e3 w3 ⟨v3, l3, rfl, ho3, hf3, hr3, hb3⟩
      have HO3 := Lib.hid ho3; have HF3 := Lib.hid hf3; have HR3 := Lib.hid hr3; have HB3 := Lib.hid hb3
      clear ho3 hf3 hr3 hb3 HC
      go_wp2
      go_roundw
      case rel =>
        refine ⟨v3, lj ++ l3, j + 1, rfl, by go_num, by omega, by rw [← List.append_assoc]; exact HO3.out, by rw [← List.append_assoc]; exact HF3.out, ?_, HBj.out.trans HB3.out⟩
        rw [Ro.ros_append, HRj.out, HR3.out, HTA.out, List.flatMap_append, HSI.out]
      case measure => (simp [intOf]; try omega)
    · obtain rfl : j = e.kids.length := by omega
      clear ho hfr hr hbel
      go_wp2
      go_ret
      exact ⟨u, lj, rfl, HOj.out, HFj.out, by rw [HRj.out, List.take_length], HBj.out⟩
theorem treeP1 (W : Wf M) (hm : M.length ≤ 5000) (hf : Few (M.map Nd.ro)) (n : Nat) (hn : n < M.length) (d : Int) (hd0 : 0 ≤ d) (hd1 : d ≤ 1000) : TreeP M N F p gE cE lE n d ∧ KidsP M N F p gE cE lE n d := by
  obtain ⟨h, H⟩ := W.hgt
  have key : ∀ (f n : Nat) (d : Int), cnt M h n < f → n < M.length → 0 ≤ d → d + f ≤ 10000 → TreeP M N F p gE cE lE n d := by
    intro f
    induction f with
    | zero => intro n d hc; omega
    | succ f ih =>
      intro n d hc hn h0 h1
      refine tree_of_kids W hm hf n hn d h0 (by omega) (kids_of_tree W hm n hn (d + 1) (by omega) (by omega) fun k hk => ?_)
      have := cnt_kid H hk
      exact ih k (d + 1) (by omega) (H n k hk).1 (by omega) (by omega)
  have hc := cnt_lt (h := h) hn
  refine ⟨key M.length n d hc hn hd0 (by omega), kids_of_tree W hm n hn d hd0 (by omega) fun k hk => ?_⟩
  have := cnt_kid H hk
  exact key M.length k d (by omega) (H n k hk).1 hd0 (by omega)
end
end Go.Proofs.Ytmlchbohijolaaa.Ar

namespace Go.Proofs.Ytmlchbohijolaaa.Ar
set_option maxRecDepth 100000
set_option linter.unusedSimpArgs false
set_option linter.unusedVariables false
open Go.RowKit Ba
open Ro (At Ro Cw ros Rr Ow Nw Fr Att Ap Sh Ra Rv Held cells acells app_num app_row below_new infoI info_row len_cells rowV rowO Few right)
set_option maxRecDepth 100000 in
set_option maxHeartbeats 4000000 in
theorem rowsP1 {p N : Nat} {F : Nat → Prop} {M : List Nd} (n : Int) (w : World) (D : Doc12 w N F p M) (W : Wf M) (hm : M.length ≤ 5000) (hf : Few (M.map Nd.ro)) :
    Calls Try.prog 21 #[.pointer (some ⟨p, 0, none⟩), .int .i64 n] w fun e w' => ∃ v l, e = .returned v ∧ Ow w.heap.size w' v l ∧ (∀ x ∈ l, Fr w.heap.size w' x) ∧ ros l = rowsM M n ∧ Below w.heap.size w w' := by
  have hbd := D.bd
  obtain ⟨gE, cE, lE, D⟩ := D
  have HH := Lib.hid (has1 n w D _ rfl)
  cases hh : hasB M n with
  | false =>
    have e1 : rowsM M n = [] := by
      unfold rowsM
      rw [if_neg]
      intro h
      have : hasB M n = true := hasB_iff.2 h
      rw [this] at hh
      cases hh
    rw [e1]
    rw [hh] at HH
    clear D hh e1
    go_enter Try.func21, Try.ntmps21
    go_wp2_with fail
    refine HH.out.mono ?_
    rintro e w1 ⟨rfl, rfl⟩
    go_wp2
    go_ret
    exact ⟨_, [], rfl, Ow.nil _ _, fun x hx => (by cases hx), rfl, Below.refl _ _⟩
  | true =>
    rw [hh] at HH
    obtain ⟨h0, h1⟩ := hasB_iff.1 hh
    obtain ⟨k, rfl⟩ : ∃ k : Nat, n = k := ⟨n.toNat, by omega⟩
    have hk : k < M.length := by omega
    by_cases hz : k = 0
    · subst hz
      have e1 : rowsM M (0 : Nat) = (nd M 0).kids.flatMap fun k => tr M k 0 := by
        unfold rowsM
        rw [if_pos ⟨by omega, by omega⟩, if_pos (show ((0 : Nat) : Int) = 0 from rfl)]
      have hlen : ((nd M 0).kids.flatMap fun k => tr M k 0).length ≤ 5000 := by
        have h2 := tr_short W hk (-1)
        rw [tr_eq W hk, List.length_cons] at h2
        have h3 : ((nd M 0).kids.flatMap fun k => tr M k ((-1 : Int) + 1)) = (nd M 0).kids.flatMap fun k => tr M k 0 := rfl
        rw [h3] at h2
        omega
      have HK := Lib.hid ((treeP1 W hm hf 0 hk 0 (by decide) (by decide)).2 w.heap.size w (.slice none 0 0) [] D (Ow.nil _ _) (fun x hx => by cases hx) (Nat.le_refl _) hbd (by simp; simp at hlen; omega))
      rw [e1]
      clear D hh e1 hlen
      go_enter Try.func21, Try.ntmps21
      go_wp2_with fail
      refine HH.out.mono ?_
      rintro e w1 ⟨rfl, rfl⟩
      go_wp2_with fail
      refine HK.out.mono ?_
      rintro e w2 ⟨v, l, rfl, ho, hfr, hr, hb⟩
      rw [List.nil_append] at ho hfr
      have HO := Lib.hid ho; have HF := Lib.hid hfr; have HR := Lib.hid hr; have HB := Lib.hid hb
      clear ho hfr hr hb HK
      go_wp2
      go_ret
      exact ⟨v, l, rfl, HO.out, HF.out, HR.out, HB.out⟩
    · have e1 : rowsM M k = tr M k 0 := by
        unfold rowsM
        rw [if_pos ⟨h0, h1⟩, if_neg (by omega), Int.toNat_natCast]
      have hlen := tr_short W hk 0
      have HK := Lib.hid ((treeP1 W hm hf k hk 0 (by decide) (by decide)).1 w.heap.size w (.slice none 0 0) [] D (Ow.nil _ _) (fun x hx => by cases hx) (Nat.le_refl _) hbd (by simp; omega))
      have hkz : ¬ (k : Int) = 0 := by omega
      have hkb : ((k : Int) == 0) = false := by simpa using hkz
      rw [e1]
      clear D hh e1 hlen
      go_enter Try.func21, Try.ntmps21
      go_wp2_with fail
      refine HH.out.mono ?_
      rintro e w1 ⟨rfl, rfl⟩
      go_wp2_with fail
      refine HK.out.mono ?_
      rintro e w2 ⟨v, l, rfl, ho, hfr, hr, hb⟩
      rw [List.nil_append] at ho hfr
      have HO := Lib.hid ho; have HF := Lib.hid hfr; have HR := Lib.hid hr; have HB := Lib.hid hb
      clear ho hfr hr hb HK
      go_wp2
      go_ret
      exact ⟨v, l, rfl, HO.out, HF.out, HR.out, HB.out⟩
theorem roots_first {first : Nat} {par : Nat → Int} (h : par 0 < 0) : ∀ i, 0 < i → (rootsTo first par i)[0]? = some first
  | 0, h0 => absurd h0 (Nat.lt_irrefl _)
  | 1, _ => by
    rw [rootsTo, if_pos h, rootsTo]
    rfl
  | i + 2, _ => by
    have ih := roots_first (first := first) h (i + 1) (Nat.succ_pos _)
    rw [rootsTo]
    split
    · rw [List.getElem?_append_left (List.getElem?_eq_some_iff.1 ih).1]
      exact ih
    · exact ih
theorem rows_len {M : List Nd} (W : Wf M) (n : Int) : (rowsM M n).length ≤ M.length := by
  unfold rowsM
  split
  · rename_i h
    split
    · have h2 := tr_short W W.pos (-1)
      rw [tr_eq W W.pos, List.length_cons] at h2
      have h3 : ((nd M 0).kids.flatMap fun k => tr M k ((-1 : Int) + 1)) = (nd M 0).kids.flatMap fun k => tr M k 0 := rfl
      rw [h3] at h2
      omega
    · exact tr_short W (by omega) 0
  · exact Nat.zero_le _
theorem rows_pos {M : List Nd} (W : Wf M) {k : Nat} (hk : k < M.length) (h0 : k ≠ 0) : 0 < (rowsM M k).length := by
  unfold rowsM
  rw [if_pos ⟨by omega, by omega⟩, if_neg (by omega), Int.toNat_natCast, tr_eq W hk, List.length_cons]
  omega
set_option maxRecDepth 100000 in
set_option maxHeartbeats 4000000 in
theorem cloneP1 {p N : Nat} {F : Nat → Prop} {M : List Nd} (n : Int) (w : World) (D : Doc12 w N F p M) (W : Wf M) (hm : M.length ≤ 1000) (hf : Few (M.map Nd.ro)) (hR : right (rowsM M n) = true) :
    Calls Try.prog 30 #[.pointer (some ⟨p, 0, none⟩), .int .i64 n] w fun e w' => e = .returned (.tuple #[.int .i64 (cloneE M n).1, .int .i64 (cloneE M n).2]) ∧ ∃ F', Doc12 w' N F' p (cloneM M n) ∧ Next w w' F F' := by
  have HD := Lib.hid D
  have hbd := D.bd
  have hmv : Calls Try.prog 42 #[.pointer (some ⟨p, 0, none⟩), .int .i64 n] w fun e w' => e = .returned (.bool (movB M n)) ∧ w' = w := by
    obtain ⟨gE, cE, lE, D⟩ := D
    exact movable1 n w D _ rfl
  have HMV := Lib.hid hmv
  have HRO := Lib.hid (rowsP1 n w D W (by omega) hf)
  clear hmv
  by_cases c1 : n < 1 ∨ (M.length : Int) ≤ n
  · have e1 : cloneE M n = (0, 110) := by unfold cloneE; rw [if_pos c1]
    have e2 : cloneM M n = M := by unfold cloneM; rw [if_pos (by omega)]
    rw [e1, e2]
    have e3 : movB M n = false := by rw [← Bool.not_eq_true, movB_iff]; omega
    rw [e3] at HMV
    clear e1 e2 e3 D hR
    go_enter Try.func30, Try.ntmps30
    go_wp2_with fail
    refine HMV.out.mono ?_
    rintro e w1 ⟨rfl, rfl⟩
    go_wp2
    go_ret2
    exact ⟨rfl, F, HD.out, Next.refl _ F⟩
  · have e3 : movB M n = true := movB_iff.2 (by omega)
    rw [e3] at HMV
    obtain ⟨k, rfl⟩ : ∃ k : Nat, n = k := ⟨n.toNat, by omega⟩
    have hk : k < M.length := by omega
    have hk0 : k ≠ 0 := by omega
    obtain ⟨L, hL⟩ : ∃ L, rowsM M (k : Int) = L := ⟨_, rfl⟩
    have hLl : L.length ≤ M.length := by rw [← hL]; exact rows_len W k
    have hLp : 0 < L.length := by rw [← hL]; exact rows_pos W hk hk0
    have hfew : Few L := by rw [← hL]; exact few_rows hf k
    rw [hL] at HRO hR
    have hheld : Held L := fun x hx => by
      have := right_held L 0 hR x hx
      omega
    obtain ⟨q, hq⟩ : ∃ q, decide (4096 < M.length + L.length) = q := ⟨_, rfl⟩
    have HEX := Lib.hid (show ∀ w', Below w.heap.size w w' → Calls Try.prog 40 #[.pointer (some ⟨p, 0, none⟩), .int .i64 L.length] w' fun e w'' => e = .returned (.bool q) ∧ w'' = w' from fun w' hb => by
      obtain ⟨gE, cE, lE, D1⟩ := D.below hb
      exact exceeds1 L.length w' D1 (by omega) (by omega) q hq)
    cases q with
    | true =>
      have hbig := of_decide_eq_true hq
      omega
    | false =>
      have hbig := of_decide_eq_false hq
      have e1 : cloneE M k = ((M.length : Int), 0) := by unfold cloneE; rw [if_neg c1, hL, if_neg hbig]
      have e2 : cloneM M k = loadTo M.length L (parI L) M L.length := by unfold cloneM; rw [hL, if_neg (by omega)]
      rw [e1, e2]
      have HW := Lib.hid W; have HFW := Lib.hid hfew; have HR := Lib.hid hR; have HHE := Lib.hid hheld; have HBD := Lib.hid hbd
      have HP0 := Lib.hid (show parI L 0 < 0 from by
        have := par_lt L (j := 0) hLp
        omega)
      clear e1 e2 e3 D c1 hq hL hfew hheld hR hbd
      go_enter Try.func30, Try.ntmps30
      go_wp2_with fail
      refine HMV.out.mono ?_
      rintro e w1 ⟨rfl, rfl⟩
      go_wp2_with fail
      refine HRO.out.mono ?_
      rintro e w2 ⟨v, x, rfl, ho, hfr, hr, hb⟩
      obtain ⟨A, c, rfl, hc, hcm, _, hrr⟩ := ho.form
      have hxl : x.length = L.length := by rw [← hr, Ro.len_ros]
      have hAb : ∀ b, A.map Addr.block = some b → w1.heap.size ≤ b := fun b hb => own_blk ho.1 hb
      have HG := Lib.hid (growP1 (p := p) (N := N) (F := F) (M := M) (.slice A x.length c) x w2 (HD.out.below hb) HW.out (by omega) (fun w' t => rv_keep hrr hc hcm (by rw [hr]; exact HHE.out) hfr hAb HBD.out t) (by rw [hr]; exact HFW.out) (by rw [hr]; exact HR.out))
      rw [hr] at HG
      have HB := Lib.hid hb
      rw [hxl] at HG ⊢
      clear ho hfr hr hb hrr hAb HRO hxl
      go_wp2_with fail
      refine (HEX.out w2 HB.out).mono ?_
      rintro e w2' ⟨rfl, rfl⟩
      go_wp2_with fail
      refine HG.out.mono ?_
      rintro e w3 ⟨u, rfl, hnw, F3, D3, N3, _⟩
      have hrf := roots_first (first := M.length) HP0.out L.length hLp
      obtain ⟨A3, c3, rfl, hat⟩ := nw_at hnw
      have hrl : 0 < (rootsTo M.length (parI L) L.length).length := (List.getElem?_eq_some_iff.1 hrf).1
      obtain ⟨b3, rfl, _, _, hcell⟩ := hat hrl
      have hc0 := hcell 0 hrl
      rw [(List.getElem?_eq_some_iff.1 hrf).2] at hc0
      have hri : (0 : Int) < (rootsTo M.length (parI L) L.length).length := by omega
      obtain ⟨RL, hRL⟩ : ∃ RL, (rootsTo M.length (parI L) L.length).length = RL := ⟨_, rfl⟩
      rw [hRL] at hri
      have HD3 := Lib.hid D3; have HN3 := Lib.hid ((Next.of_below HB.out).trans N3); have HRL := Lib.hid hRL
      clear hnw D3 N3 hrf hat hcell hrl HG
      rw [hRL]
      clear hRL
      go_wp2
      go_ret2
      exact ⟨rfl, F3, HD3.out, HN3.out⟩
end Go.Proofs.Ytmlchbohijolaaa.Ar

namespace Go.Proofs.Ytmlchbohijolaaa.Ar
set_option maxRecDepth 100000
set_option linter.unusedSimpArgs false
set_option linter.unusedVariables false
open Go.RowKit Ba
open Ro (At Ro Cw ros Rr Ow Nw Fr Att Ap Sh Ra Rv Held cells acells len_acells acells_one app_num app_row below_new infoI info_row info_attr len_cells rowV rowO Few right twice okRow)
open To (Aw)
open Na (mayB)
theorem row_set {M : List Nd} {k : Nat} (hk : k < M.length) (f : Ro → Ro) {y : Nd} (hy : y = ⟨f (nd M k).ro, (nd M k).up, (nd M k).kids⟩) : rowM M k f = M.set k y := by
  refine ext_nd (by rw [len_row, List.length_set]) fun m hm => ?_
  rw [nd_row hk, nd_setL hk]
  by_cases e : m = k
  · subst e
    rw [if_pos rfl, if_pos rfl, hy]
  · rw [if_neg e, if_neg e]
theorem dataP1 {p N : Nat} {F : Nat → Prop} {M : List Nd} (n : Int) (d : ByteArray) (w : World) (D : Doc12 w N F p M) :
    Calls Try.prog 32 #[.pointer (some ⟨p, 0, none⟩), .int .i64 n, .string d] w fun e w' => e = .returned (.int .i64 (dataE M n)) ∧ ∃ F', Doc12 w' N F' p (dataM M n d) ∧ Next w w' F F' := by
  have HD := Lib.hid D
  obtain ⟨gE, cE, lE, D⟩ := D
  have HH := Lib.hid (holdsData1 n w D _ rfl)
  by_cases h : n < 1 ∨ (M.length : Int) ≤ n ∨ (nd M n.toNat).ro.kind = 0
  · have e1 : dataE M n = 110 := by unfold dataE; rw [if_pos h]
    have e2 : dataM M n d = M := by unfold dataM; rw [if_pos h]
    rw [e1, e2]
    have e3 : holdB M n = false := by
      rw [← Bool.not_eq_true]
      unfold holdB
      rw [Bool.and_eq_true, movB_iff]
      rintro ⟨h1, h2⟩
      have := of_decide_eq_true h2
      omega
    rw [e3] at HH
    clear e1 e2 e3 D h
    go_enter Try.func32, Try.ntmps32
    go_wp2_with fail
    refine HH.out.mono ?_
    rintro e w1 ⟨rfl, rfl⟩
    go_wp2
    go_ret
    exact ⟨rfl, F, HD.out, Next.refl _ F⟩
  · have e1 : dataE M n = 0 := by unfold dataE; rw [if_neg h]
    have e2 : dataM M n d = rowM M n.toNat fun r => { r with data := d } := by unfold dataM; rw [if_neg h]
    rw [e1, e2]
    obtain ⟨k, rfl⟩ : ∃ k : Nat, n = k := ⟨n.toNat, by omega⟩
    have hk : k < M.length := by omega
    rw [Int.toNat_natCast]
    have e3 : holdB M k = true := by
      unfold holdB
      rw [Bool.and_eq_true, movB_iff]
      exact ⟨by omega, decide_eq_true (by omega)⟩
    rw [e3] at HH
    obtain ⟨e, he, hem, hen, hc⟩ := D.at_ hk
    have c3 := hc 3 _ rfl
    have f3 := D.frz (k * 7 + 3)
    have hx := D.x
    have hcap := D.obj.2.2.1
    have hki : (k : Int) < M.length := by omega
    obtain ⟨P, NX⟩ := D.put (e' := ⟨⟨{ e.x.ro with data := d }, e.x.A, e.x.c⟩, e.up, e.K, e.kc, e.kids⟩) he (w' := w) (Touch.refl _ _) (j := 3) (by decide) (.string d) rfl (D.attrs e hem).1 (D.kids e hem).1 (fun g hg => .inl hg) (fun g hg => .inl hg)
    have hM := row_set hk (fun r => { r with data := d }) (y := nodeOf ⟨⟨{ e.x.ro with data := d }, e.x.A, e.x.c⟩, e.up, e.K, e.kc, e.kids⟩) (by rw [← hen]; rfl)
    have HP := Lib.hid P; have HN := Lib.hid NX; have HM := Lib.hid hM
    clear e1 e2 e3 D h he hem hen hc P NX hM
    go_enter Try.func32, Try.ntmps32
    go_wp2_with fail
    refine HH.out.mono ?_
    rintro e1 w1 ⟨rfl, rfl⟩
    go_wp2
    go_ret
    rw [HM.out]
    exact ⟨rfl, _, ⟨_, _, _, HP.out⟩, HN.out⟩
/-- Which attribute has this name: -1, or the first one that has it. -/
def AtAns (l : List At) (nm : ByteArray) (q : Int) : Prop := (q = -1 ∧ ∀ a ∈ l, a.name ≠ nm) ∨ ∃ j : Nat, q = j ∧ ∃ h : j < l.length, l[j].name = nm ∧ ∀ i (h : i < l.length), i < j → l[i].name ≠ nm
set_option maxRecDepth 100000 in
set_option maxHeartbeats 4000000 in
theorem attrAtP1 {p N gE cE : Nat} {F : Nat → Prop} {M : List Nd} {lE : List Ew} (k : Nat) (nm : ByteArray) (w : World) (D : PD w N F p M gE cE lE) (hk : k < M.length) (hf : Few (M.map Nd.ro)) :
    Calls Try.prog 46 #[.pointer (some ⟨gE, k * 7, none⟩), .string nm] w fun e w' => ∃ q, e = .returned (.int .i64 q) ∧ AtAns (nd M k).ro.attrs nm q ∧ Below w.heap.size w w' := by
  obtain ⟨e, he, hem, hen, hc⟩ := D.at_ hk
  have hoa := (D.attrs e hem).1
  have hgl := D.obj.2.1
  have c4 := hc 4 _ rfl
  have hla : e.x.ro.attrs = (nd M k).ro.attrs := by rw [← hen]; rfl
  obtain ⟨l, hl⟩ : ∃ l, (nd M k).ro.attrs = l := ⟨_, rfl⟩
  rw [hl] at hla ⊢
  have hll : l.length ≤ 1000000 := by
    rw [← hl, nd_at hk]
    exact hf _ (List.mem_map.2 ⟨_, List.getElem_mem hk, rfl⟩)
  have hatt := oa_att hoa
  rw [hla] at c4
  have HAT := Lib.hid (show 0 < l.length → ∃ b off, e.x.A = some ⟨b, off, none⟩ ∧ b < w.heap.size ∧ ∀ j (h : j < l.length), w.cell? ⟨b, off + j * 2, none⟩ = some (.string l[j].name) ∧ w.cell? ⟨b, off + j * 2 + 1, none⟩ = some (.string l[j].value) from fun h0 => by
    have h1 := hatt.2.2.2.1
    rw [hla] at h1
    obtain ⟨b, off, hA, hb, hcc⟩ := h1 h0
    exact ⟨b, off, hA, hb, fun j hj => ⟨hcc j hj 0 _ rfl, hcc j hj 1 _ rfl⟩⟩)
  clear D he hem hen hc hoa hla hl hatt
  go_enter Try.func46, Try.ntmps46
  go_wp2
  go_loopw [13] (fun i wr => ∃ j : Nat, i = .int .i64 j ∧ j ≤ l.length ∧ Hid (∀ i (h : i < l.length), i < j → l[i].name ≠ nm) ∧ Below w.heap.size w wr) (fun i _ => l.length - (intOf i).toNat)
  case atStart => exact ⟨0, rfl, Nat.zero_le _, Lib.hid (fun i _ h => absurd h (Nat.not_lt_zero _)), Below.refl _ _⟩
  case round =>
    obtain ⟨j, rfl, hj, hno, hbel⟩ := hrel
    have HB := Lib.hid hbel
    by_cases hjl : j < l.length
    · obtain ⟨b, off, hA, hbl, hcell⟩ := HAT.out (by omega)
      rw [hA]
      obtain ⟨n0, v0⟩ := hcell j hjl
      have n1 := (hbel.cell (p := ⟨b, off + j * 2, none⟩) hbl).trans n0
      have v1 := (hbel.cell (p := ⟨b, off + j * 2 + 1, none⟩) hbl).trans v0
      obtain ⟨a, ha⟩ : ∃ a, l[j] = a := ⟨_, rfl⟩
      rw [ha] at n1 v1
      have hji : (j : Int) < l.length := by omega
      have HBA := Lib.hid (bt hbel (below_new wr (.cells #[.string a.name, .string a.value] 63)))
      by_cases hnm : a.name = nm
      · have hd : (a.name.toList == nm.toList) = true := by rw [eq_of_toList]; exact decide_eq_true hnm
        have HNM := Lib.hid (show l[j].name = nm by rw [ha]; exact hnm)
        clear n0 v0 hcell hbel hnm ha
        go_wp2
        go_ret
        exact ⟨_, rfl, .inr ⟨j, rfl, hjl, HNM.out, hno.out⟩, HBA.out⟩
      · have hd : (a.name.toList == nm.toList) = false := by rw [eq_of_toList]; exact decide_eq_false hnm
        have HNM := Lib.hid (show l[j].name ≠ nm by rw [ha]; exact hnm)
        clear n0 v0 hcell hbel hnm ha
        go_wp2
        go_roundw
        case rel => exact ⟨j + 1, by go_num, by omega, Lib.hid (fun i h hi => by
          rcases Nat.lt_succ_iff_lt_or_eq.1 hi with hi | rfl
          · exact hno.out i h hi
          · exact HNM.out), HBA.out⟩
        case measure => (simp [intOf]; try omega)
    · obtain rfl : j = l.length := by omega
      clear hbel
      go_wp2
      go_ret
      refine ⟨-1, rfl, .inl ⟨rfl, fun a ha => ?_⟩, HB.out⟩
      obtain ⟨i, hi, rfl⟩ := List.getElem_of_mem ha
      exact hno.out i hi hi
end Go.Proofs.Ytmlchbohijolaaa.Ar

namespace Go.Proofs.Ytmlchbohijolaaa.Ar
set_option maxRecDepth 100000
set_option linter.unusedSimpArgs false
set_option linter.unusedVariables false
open Go.RowKit Ba
open Ro (At Ro Cw ros Rr Ow Nw Fr Att Ap Sh Ra Rv Held cells acells len_acells acells_one app_num app_row below_new infoI info_row info_attr len_cells rowV rowO Few right twice okRow)
open To (Aw)
open Na (mayB)
theorem twice_cons {a : At} {r : List At} (h : twice (a :: r) = false) : (∀ b ∈ r, b.name ≠ a.name) ∧ twice r = false := by
  rw [twice, Bool.or_eq_false_iff] at h
  refine ⟨fun b hb e => ?_, h.2⟩
  have h1 := h.1
  rw [List.any_eq_false] at h1
  exact h1 b hb (decide_eq_true e)
theorem map_none {nm v : ByteArray} : ∀ {l : List At}, (∀ a ∈ l, a.name ≠ nm) → l.map (atF nm v) = l
  | [], _ => rfl
  | a :: r, h => by
    rw [List.map_cons, map_none fun b hb => h b (List.mem_cons_of_mem _ hb)]
    unfold atF
    rw [if_neg (h a List.mem_cons_self)]
theorem map_once {nm v : ByteArray} : ∀ (l : List At) (j : Nat) (h : j < l.length), twice l = false → l[j].name = nm → l.map (atF nm v) = l.set j ⟨nm, v⟩
  | [], _, h, _, _ => absurd h (Nat.not_lt_zero _)
  | a :: r, 0, _, ht, hn => by
    obtain ⟨h1, h2⟩ := twice_cons ht
    have hn : a.name = nm := hn
    rw [List.map_cons, List.set_cons_zero, map_none fun b hb => by rw [← hn]; exact h1 b hb]
    unfold atF
    rw [if_pos hn, hn]
  | a :: r, j + 1, h, ht, hn => by
    obtain ⟨h1, h2⟩ := twice_cons ht
    have hn : r[j]'(by simpa using h) = r[j]'(by simpa using h) := rfl
    rename_i hn0
    have hn' : (r[j]'(by simpa using h)).name = nm := hn0
    rw [List.map_cons, List.set_cons_succ, map_once r j (by simpa using h) h2 hn']
    unfold atF
    rw [if_neg]
    intro e
    exact h1 _ (List.getElem_mem _) (hn'.trans e.symm)
theorem drop_none {nm : ByteArray} {l : List At} (h : ∀ a ∈ l, a.name ≠ nm) : dropL l nm = l := by
  unfold dropL
  rw [List.filter_eq_self]
  intro a ha
  rw [decide_eq_false (h a ha)]
  rfl
theorem drop_once {nm : ByteArray} : ∀ (l : List At) (j : Nat) (h : j < l.length), twice l = false → l[j].name = nm → dropL l nm = l.eraseIdx j
  | [], _, h, _, _ => absurd h (Nat.not_lt_zero _)
  | a :: r, 0, _, ht, hn => by
    obtain ⟨h1, h2⟩ := twice_cons ht
    have hn : a.name = nm := hn
    have h3 := drop_none (nm := nm) (l := r) fun b hb => by rw [← hn]; exact h1 b hb
    unfold dropL at h3 ⊢
    rw [List.filter_cons_of_neg (by simp [hn]), h3, List.eraseIdx_cons_zero]
  | a :: r, j + 1, h, ht, hn => by
    obtain ⟨h1, h2⟩ := twice_cons ht
    have hn' : (r[j]'(by simpa using h)).name = nm := hn
    have h3 := drop_once r j (by simpa using h) h2 hn'
    have hne : ¬ a.name = nm := fun e => h1 _ (List.getElem_mem _) (hn'.trans e.symm)
    unfold dropL at h3 ⊢
    rw [List.filter_cons_of_pos (by simp [hne]), h3, List.eraseIdx_cons_succ]
theorem put_mem {nm : ByteArray} {l : List At} : putB l nm = true ↔ ∃ a ∈ l, a.name = nm := by
  unfold putB
  rw [List.any_eq_true]
  constructor
  · rintro ⟨a, h1, h2⟩
    exact ⟨a, h1, of_decide_eq_true h2⟩
  · rintro ⟨a, h1, h2⟩
    exact ⟨a, h1, decide_eq_true h2⟩
theorem set_none {nm v : ByteArray} {l : List At} (h : ∀ a ∈ l, a.name ≠ nm) : atSet l nm v = l ++ [(⟨nm, v⟩ : At)] := by
  unfold atSet
  rw [if_neg, map_none h]
  rw [put_mem]
  rintro ⟨a, h1, h2⟩
  exact h a h1 h2
theorem set_once {nm v : ByteArray} {l : List At} {j : Nat} (h : j < l.length) (ht : twice l = false) (hn : l[j].name = nm) : atSet l nm v = l.set j ⟨nm, v⟩ := by
  unfold atSet
  rw [if_pos (put_mem.2 ⟨_, List.getElem_mem h, hn⟩), map_once l j h ht hn]
theorem good_once {M : List Nd} (G : Good M) {k : Nat} (h0 : k ≠ 0) (hk : k < M.length) : twice (nd M k).ro.attrs = false := by
  have h := G.row k h0 hk
  unfold okRow at h
  split at h
  · rw [Bool.and_eq_true] at h
    simpa using h.2
  · rw [Bool.and_eq_true] at h
    have h2 : (nd M k).ro.attrs.length = 0 := by
      have := h.2
      simp at this
      simp [this]
    rw [List.eq_nil_of_length_eq_zero h2]
    rfl
theorem flat_setA {nm v : ByteArray} : ∀ (l : List At) (j : Nat) (h : j < l.length), l[j].name = nm → (l.flatMap acells).set (j * 2 + 1) (.string v) = (l.set j ⟨nm, v⟩).flatMap acells
  | [], _, h, _ => absurd h (Nat.not_lt_zero _)
  | a :: r, 0, _, hn => by
    have hn : a.name = nm := hn
    rw [List.set_cons_zero, List.flatMap_cons, List.flatMap_cons, ← hn]
    rfl
  | a :: r, j + 1, h, hn => by
    have hn' : (r[j]'(by simpa using h)).name = nm := hn
    rw [List.set_cons_succ, List.flatMap_cons, List.flatMap_cons, List.set_append_right _ _ (by rw [len_acells]; omega), len_acells, show (j + 1) * 2 + 1 - 2 = j * 2 + 1 from by omega, flat_setA r j (by simpa using h) hn']
theorem flat_same {e e' : Ew} : ∀ (l : List Ew) (k : Nat), l[k]? = some e → ecells e' = ecells e → (l.set k e').flatMap ecells = l.flatMap ecells
  | [], k, h, _ => by simp at h
  | a :: r, 0, h, he => by
    have h : a = e := by simpa using h
    rw [List.set_cons_zero, List.flatMap_cons, List.flatMap_cons, he, h]
  | a :: r, k + 1, h, he => by
    have h : r[k]? = some e := by simpa using h
    rw [List.set_cons_succ, List.flatMap_cons, List.flatMap_cons, flat_same r k h he]
set_option maxRecDepth 100000 in
set_option maxHeartbeats 8000000 in
theorem attrP1 {p N : Nat} {F : Nat → Prop} {M : List Nd} (n : Int) (nm v : ByteArray) (w : World) (D : Doc12 w N F p M) (G : Good M) (hf : Few (M.map Nd.ro)) (hs : nm.size ≤ 140737488355328) :
    Calls Try.prog 16 #[.pointer (some ⟨p, 0, none⟩), .int .i64 n, .string nm, .string v] w fun e w' => e = .returned (.int .i64 (attrE11 M n nm)) ∧ ∃ F', Doc12 w' N F' p (attrM11 M n nm v) ∧ Next w w' F F' := by
  have HD0 := Lib.hid D
  obtain ⟨gE, cE, lE, D⟩ := D
  have HEL := Lib.hid (element1 n w D _ rfl)
  have hmay := Na.attr_any nm w hs
  obtain ⟨q, hq⟩ : ∃ q, mayB nm true = q := ⟨_, rfl⟩
  have hq' : Nm.attrB nm = q := hq
  rw [hq'] at hmay
  have HM := Lib.hid hmay
  clear hmay hq'
  unfold attrE11 attrM11
  rw [hq]
  cases he : elB11 M n with
  | false =>
    rw [he] at HEL
    clear he hq D
    go_enter Try.func16, Try.ntmps16
    go_wp2_with fail
    refine HEL.out.mono ?_
    rintro e w1 ⟨rfl, rfl⟩
    go_wp2
    go_ret
    exact ⟨rfl, F, HD0.out, Next.refl _ F⟩
  | true =>
  cases q with
  | false =>
    rw [he] at HEL
    clear he hq D
    go_enter Try.func16, Try.ntmps16
    go_wp2_with fail
    refine HEL.out.mono ?_
    rintro e w1 ⟨rfl, rfl⟩
    go_wp2_with fail
    refine HM.out.mono ?_
    rintro e w1 ⟨rfl, rfl⟩
    go_wp2
    go_ret
    exact ⟨rfl, F, HD0.out, Next.refl _ F⟩
  | true =>
    rw [he] at HEL
    obtain ⟨k, rfl, hk, hk0, _⟩ := el_nat he
    have HAA := Lib.hid (attrAtP1 k nm w D hk hf)
    have hx := D.x
    have hcap := D.obj.2.2.1
    have hki : (k : Int) < M.length := by omega
    have hgl := D.obj.2.1
    obtain ⟨e, hek, hem, hen, hc⟩ := D.at_ hk
    have c4 := hc 4 _ rfl
    have hla : e.x.ro.attrs = (nd M k).ro.attrs := by rw [← hen]; rfl
    have hll : (nd M k).ro.attrs.length ≤ 1000000 := by
      rw [nd_at hk]
      exact hf _ (List.mem_map.2 ⟨_, List.getElem_mem hk, rfl⟩)
    have HTW := Lib.hid (good_once G hk0 hk)
    have HD := Lib.hid D; have HE := Lib.hid hek; have HEN := Lib.hid hen; have HLA := Lib.hid hla
    have hoa := (D.attrs e hem).1
    have hok := (D.kids e hem).1
    have HOA := Lib.hid hoa; have HOK := Lib.hid hok
    have f4 := D.frz (k * 7 + 4)
    rw [Int.toNat_natCast]
    clear D he hq hek hem hen hc hoa hok hf
    go_enter Try.func16, Try.ntmps16
    go_wp2_with fail
    refine HEL.out.mono ?_
    rintro e1 w1 ⟨rfl, rfl⟩
    go_wp2_with fail
    refine HM.out.mono ?_
    rintro e1 w1' ⟨rfl, rfl⟩
    go_wp2_with fail
    refine HAA.out.mono ?_
    rintro e1 w2 ⟨q, rfl, hans, hb⟩
    have D2 := HD.out.below hb
    have k4 := (hb.cell (p := ⟨gE, k * 7 + 4, none⟩) hgl).trans c4
    have g4 := (hb.frozen (p := ⟨gE, k * 7 + 4, none⟩) hgl).trans f4
    have hoa2 : OA w2 N e.x := HOA.out.block fun g hg => hb.block g (oa_obj HOA.out hg).2.2.1
    have hok2 : OK w2 N e.K e.kc e.kids := HOK.out.block fun g hg => hb.block g (ok_obj HOK.out hg).2.2.1
    have HB := Lib.hid hb; have HD2 := Lib.hid D2; have HOA2 := Lib.hid hoa2; have HOK2 := Lib.hid hok2
    rcases hans with ⟨rfl, hno⟩ | ⟨j, rfl, hj, hjn, hfi⟩
    · rw [← hla] at hno hll
      have HSET := Lib.hid (set_none (v := v) hno)
      obtain ⟨i0, hi, hz0, hz1, hz2⟩ := info_parts info_attr
      have HA2 := Lib.hid (show Of (w2.alloc (.cells #[.string nm, .string v] 63)) N 63 2 e.x.A e.x.ro.attrs.length e.x.c (e.x.ro.attrs.flatMap acells) from hoa2.1.block fun g hA => (below_new w2 _).block g (oa_obj hoa2 (by rw [hA]; rfl)).2.2.1)
      have HK := Lib.hid (show ∀ w', Touch (fun b => blkOf e.x.A = some b) w2 w' → w'.cell? ⟨gE, k * 7 + 4, none⟩ = w2.cell? ⟨gE, k * 7 + 4, none⟩ ∧ w'.frozen? ⟨gE, k * 7 + 4, none⟩ = w2.frozen? ⟨gE, k * 7 + 4, none⟩ from fun w' t => touch_cell t D2.obj.2.1 (fun hbb => by
        obtain ⟨_, _, _, _, _, hh⟩ := oa_obj hoa2 hbb
        obtain ⟨_, _, _, _, _, _, hoE⟩ := D2.obj
        exact type_ne hh hoE (by decide) rfl) _)
      have hNs := D2.hN
      have HN := Lib.hid (show N ≤ (w2.alloc (.cells #[.string nm, .string v] 63)).heap.size by simp; omega)
      have hnA : 0 < (1 : Nat) := by decide
      have HTB := Lib.hid (below_new w2 (.cells #[.string nm, .string v] 63))
      have HSH := Lib.hid hoa2.2
      have k4a := ((below_new w2 (.cells #[.string nm, .string v] 63)).cell (p := ⟨gE, k * 7 + 4, none⟩) D2.obj.2.1).trans k4
      clear hoa2 hok2 D2 hb hno c4 f4 HAA hla
      go_wp2_with (at_builtin; go_loud (refine app_any (w2.alloc (.cells #[.string nm, .string v] 63)) rfl (.tmp 45) (.tmp 49) 61 rfl 63 i0 _ 2 32 Try.underlying61 hi hz0 hz1 hz2 rfl (by decide) N e.x.A e.x.ro.attrs.length e.x.c (e.x.ro.attrs.flatMap acells) rfl HA2.out (some ⟨w2.heap.size, 0, none⟩) 1 1 [.string nm, .string v] rfl rfl (by simp) (block_cells (World.alloc_heap_new _ _)) (by simp [Value.oneCell']) (by unfold maxLen; omega) (by omega) HN.out ?_; intro A5 c5 w5 ho5 hr5 hg5 hb5 _; have ht5 : Touch (fun b => blkOf e.x.A = some b) w2 w5 := ((Touch.of_below HTB.out).trans (Touch.grown hg5 (fun b h => h)) (fun _ _ h => h)); have k5 := (HK.out w5 ht5).1.trans k4; have g5 := (HK.out w5 ht5).2.trans g4; have HO5 := Lib.hid ho5; have HT5 := Lib.hid ht5; have HB5 := Lib.hid hb5; clear ho5 hr5 hg5 hb5 ht5))
      go_ret
      have hl1 : (e.x.ro.attrs ++ [(⟨nm, v⟩ : At)]).length = e.x.ro.attrs.length + 1 := by simp
      obtain ⟨P6, N6⟩ := HD2.out.put (e' := ⟨⟨{ e.x.ro with attrs := e.x.ro.attrs ++ [(⟨nm, v⟩ : At)] }, A5, c5⟩, e.up, e.K, e.kc, e.kids⟩) HE.out (w' := w5) (HT5.out.mono fun b _ hb => .inl hb) (j := 4) (by decide) (.slice A5 (e.x.ro.attrs.length + 1) c5) (by rw [← hl1]; rfl) ⟨by
          show Of w5 N 63 2 A5 (e.x.ro.attrs ++ [(⟨nm, v⟩ : At)]).length c5 ((e.x.ro.attrs ++ [(⟨nm, v⟩ : At)]).flatMap acells)
          rw [hl1, List.flatMap_append]
          exact HO5.out, fun a ha => by
          rcases List.mem_append.1 ha with ha | ha
          · exact HSH.out a ha
          · rw [List.mem_singleton.1 ha]
            show nm.size ≤ maxLen
            unfold maxLen
            omega⟩ (HOK2.out.block fun g hg => HT5.out.block g (ok_obj HOK2.out hg).2.2.1 fun hb => by
          obtain ⟨_, _, _, _, _, hh⟩ := ok_obj HOK2.out hg
          obtain ⟨_, _, _, _, _, hh2⟩ := oa_obj HOA2.out hb
          exact type_ne hh hh2 (by decide) rfl) (fun g hg => (HB5.out g hg).imp id fun h => by simp at h; omega) (fun g hg => .inl hg)
      have hM := row_set hk (fun r => { r with attrs := atSet r.attrs nm v }) (y := nodeOf ⟨⟨{ e.x.ro with attrs := e.x.ro.attrs ++ [(⟨nm, v⟩ : At)] }, A5, c5⟩, e.up, e.K, e.kc, e.kids⟩) (by
        rw [← HEN.out, ← HSET.out]
        rfl)
      show _ ∧ ∃ F', Doc12 _ N F' p (rowM M k fun r => { r with attrs := atSet r.attrs nm v }) ∧ _
      rw [hM]
      exact ⟨rfl, _, ⟨_, _, _, P6⟩, (Next.of_below HB.out).trans N6⟩
    · obtain ⟨gA, hgA, _, _, _⟩ : ∃ gA, e.x.A = some ⟨gA, 0, none⟩ ∧ N ≤ gA ∧ gA < w2.heap.size ∧ ∃ c f, w2.heap[gA]? = some (.cells c 63 f) := by
        rcases hoa2.1.obj with ⟨_, h0, _⟩ | ⟨g, cur, hA, h1, h2, h3, _⟩
        · rw [hla] at h0
          omega
        · exact ⟨g, hA, h1, h2, _, _, h3⟩
      rw [hla] at k4
      obtain ⟨l, hl⟩ : ∃ l, (nd M k).ro.attrs = l := ⟨_, rfl⟩
      have hj' : j < l.length := by rw [← hl]; exact hj
      have hjn' : l[j].name = nm := by
        subst hl
        exact hjn
      rw [hl] at k4 hll HTW HLA hla
      have hcl := hoa2.1.cells hgA (j * 2 + 1) (.string l[j].value) (by
        rw [hla, Ro.flat_at acells 2 len_acells _ _ _ hj' (by decide)]
        rfl)
      obtain ⟨hc1, hf1⟩ := hcl
      rw [hgA] at k4
      have hst := hoa2.1.store hgA (j * 2 + 1) (.string v)
      rw [hla, flat_setA l j hj' hjn'] at hst
      have HST := Lib.hid hst
      have HSET := Lib.hid (set_once (v := v) hj' HTW.out hjn')
      have hji : (j : Int) < l.length := by omega
      have hjm : ¬ (j : Int) = -1 := by omega
      have hjb : ((j : Int) != -1) = true := by simp
      have HL := Lib.hid hl; have HSH := Lib.hid hoa2.2; have HJN := Lib.hid hjn'; have HGA := Lib.hid hgA
      have HOB := Lib.hid (show ∃ c f, w2.heap[gA]? = some (.cells c 63 f) from by assumption)
      have hlc := hoa2.1.cap.1
      have hcm := hoa2.1.cap.2
      clear hj hjn hfi hoa2 hok2 D2 hb hst hl c4 f4 HAA hla
      go_wp2
      go_ret
      obtain ⟨cA, fA, hoA⟩ := HOB.out
      obtain ⟨_, _, _, _, cE', fE', hoE⟩ := HD2.out.obj
      have hAE : gA ≠ gE := type_ne hoA hoE (by decide)
      have hset : ∀ b, b ≠ gA → (w2.setCell ⟨gA, j * 2 + 1, none⟩ (.string v)).heap[b]? = w2.heap[b]? := fun b hb => Below.heap_setCell _ _ _ _ hb
      have hec : ecells ⟨⟨{ e.x.ro with attrs := l.set j ⟨nm, v⟩ }, e.x.A, e.x.c⟩, e.up, e.K, e.kc, e.kids⟩ = ecells e := by
        unfold ecells
        simp only [List.length_set, HLA.out]
      obtain ⟨P6, N6⟩ := HD2.out.change (e' := ⟨⟨{ e.x.ro with attrs := l.set j ⟨nm, v⟩ }, e.x.A, e.x.c⟩, e.up, e.K, e.kc, e.kids⟩) HE.out (w' := w2.setCell ⟨gA, j * 2 + 1, none⟩ (.string v)) (Touch.set w2 ⟨gA, j * 2 + 1, none⟩ (.string v) (.inr (.inl (by unfold bA; rw [HGA.out]; rfl)))) (by
          rw [flat_same lE k HE.out hec]
          exact owns_block HD2.out.ents fun g hg => by
            obtain rfl : gE = g := Option.some.inj hg
            exact hset gE fun e => hAE e.symm) ⟨by
          show Of _ N 63 2 e.x.A (l.set j ⟨nm, v⟩).length e.x.c ((l.set j ⟨nm, v⟩).flatMap acells)
          rw [List.length_set]
          exact HST.out, fun a ha => by
          rcases List.mem_or_eq_of_mem_set ha with ha | ha
          · exact HSH.out a (by rw [HLA.out]; exact ha)
          · rw [ha]
            show nm.size ≤ maxLen
            unfold maxLen
            omega⟩ (HOK2.out.block fun g hg => hset g fun e2 => by
          obtain ⟨_, _, _, _, _, hh⟩ := ok_obj HOK2.out hg
          rw [e2] at hh
          exact type_ne hh hoA (by decide) rfl) (fun g hg => .inl hg) (fun g hg => .inl hg)
      have hM := row_set hk (fun r => { r with attrs := atSet r.attrs nm v }) (y := nodeOf ⟨⟨{ e.x.ro with attrs := l.set j ⟨nm, v⟩ }, e.x.A, e.x.c⟩, e.up, e.K, e.kc, e.kids⟩) (by
        rw [← HSET.out, ← HLA.out, ← HEN.out]
        rfl)
      show _ ∧ ∃ F', Doc12 _ N F' p (rowM M k fun r => { r with attrs := atSet r.attrs nm v }) ∧ _
      rw [hM]
      exact ⟨rfl, _, ⟨_, _, _, P6⟩, (Next.of_below HB.out).trans N6⟩
set_option maxRecDepth 100000 in
set_option maxHeartbeats 8000000 in
theorem dropP1 {p N : Nat} {F : Nat → Prop} {M : List Nd} (n : Int) (nm : ByteArray) (w : World) (D : Doc12 w N F p M) (G : Good M) (hf : Few (M.map Nd.ro)) :
    Calls Try.prog 33 #[.pointer (some ⟨p, 0, none⟩), .int .i64 n, .string nm] w fun e w' => e = .returned (.int .i64 (dropE11 M n nm)) ∧ ∃ F', Doc12 w' N F' p (dropM11 M n nm) ∧ Next w w' F F' := by
  have HD0 := Lib.hid D
  obtain ⟨gE, cE, lE, D⟩ := D
  have HEL := Lib.hid (element1 n w D _ rfl)
  unfold dropE11 dropM11
  cases he : elB11 M n with
  | false =>
    rw [he] at HEL
    clear he D
    go_enter Try.func33, Try.ntmps33
    go_wp2_with fail
    refine HEL.out.mono ?_
    rintro e w1 ⟨rfl, rfl⟩
    go_wp2
    go_ret
    exact ⟨rfl, F, HD0.out, Next.refl _ F⟩
  | true =>
    rw [he] at HEL
    obtain ⟨k, rfl, hk, hk0, _⟩ := el_nat he
    have HAA := Lib.hid (attrAtP1 k nm w D hk hf)
    have hx := D.x
    have hcap := D.obj.2.2.1
    have hki : (k : Int) < M.length := by omega
    have hgl := D.obj.2.1
    obtain ⟨e, hek, hem, hen, hc⟩ := D.at_ hk
    have c4 := hc 4 _ rfl
    have hla : e.x.ro.attrs = (nd M k).ro.attrs := by rw [← hen]; rfl
    have hll : (nd M k).ro.attrs.length ≤ 1000000 := by
      rw [nd_at hk]
      exact hf _ (List.mem_map.2 ⟨_, List.getElem_mem hk, rfl⟩)
    have HTW := Lib.hid (good_once G hk0 hk)
    have HD := Lib.hid D; have HE := Lib.hid hek; have HEN := Lib.hid hen
    have hoa := (D.attrs e hem).1
    have hok := (D.kids e hem).1
    have HOA := Lib.hid hoa; have HOK := Lib.hid hok
    have f4 := D.frz (k * 7 + 4)
    rw [Int.toNat_natCast]
    obtain ⟨l, hl⟩ : ∃ l, (nd M k).ro.attrs = l := ⟨_, rfl⟩
    rw [hl] at hla hll HTW HAA ⊢
    have HLA := Lib.hid hla; have HL := Lib.hid hl
    rw [hla] at c4
    clear D he hek hem hen hc hoa hok hf hla hl
    obtain ⟨qe, hqe⟩ : ∃ qe : Int, (if (dropL l nm).length = l.length then 1 else 0) = qe := ⟨_, rfl⟩
    obtain ⟨qm, hqm⟩ : ∃ qm : List Nd, (if true && !decide ((dropL l nm).length = l.length) then rowM M k fun r => { r with attrs := dropL r.attrs nm } else M) = qm := ⟨_, rfl⟩
    rw [if_pos rfl, hqe, hqm]
    have HQE := Lib.hid hqe; have HQM := Lib.hid hqm
    clear hqe hqm
    go_enter Try.func33, Try.ntmps33
    go_wp2_with fail
    refine HEL.out.mono ?_
    rintro e1 w1 ⟨rfl, rfl⟩
    go_wp2_with fail
    refine HAA.out.mono ?_
    rintro e1 w2 ⟨q, rfl, hans, hb⟩
    have D2 := HD.out.below hb
    have k4 := (hb.cell (p := ⟨gE, k * 7 + 4, none⟩) hgl).trans c4
    have g4 := (hb.frozen (p := ⟨gE, k * 7 + 4, none⟩) hgl).trans f4
    have hoa2 : OA w2 N e.x := HOA.out.block fun g hg => hb.block g (oa_obj HOA.out hg).2.2.1
    have hok2 : OK w2 N e.K e.kc e.kids := HOK.out.block fun g hg => hb.block g (ok_obj HOK.out hg).2.2.1
    have HB := Lib.hid hb; have HD2 := Lib.hid D2; have HOA2 := Lib.hid hoa2; have HOK2 := Lib.hid hok2
    rcases hans with ⟨rfl, hno⟩ | ⟨j, rfl, hj, hjn, hfi⟩
    · have e1 := HQE.out
      have e2 := HQM.out
      rw [drop_none hno, if_pos rfl] at e1
      rw [drop_none hno, decide_eq_true rfl, Bool.not_true, Bool.and_false, if_neg (by decide)] at e2
      subst e1 e2
      have HD3 := Lib.hid (HD0.out.below hb)
      clear hoa2 hok2 D2 hb hno c4 f4 HAA k4 g4 HQE HQM
      go_wp2
      go_ret
      exact ⟨rfl, F, HD3.out, Next.of_below HB.out⟩
    · have hdr := drop_once l j hj HTW.out hjn
      have hne : ¬ (dropL l nm).length = l.length := by
        rw [hdr, List.length_eraseIdx_of_lt hj]
        omega
      have e1 := HQE.out
      have e2 := HQM.out
      rw [if_neg hne] at e1
      rw [decide_eq_false hne, Bool.not_false, Bool.and_true, if_pos rfl] at e2
      subst e1 e2
      have hof := hoa2.1
      rw [HLA.out] at hof
      have HWO := Lib.hid (withoutA1 j w2 hof hj (by omega) D2.hN)
      have HK := Lib.hid (show ∀ w', Touch (fun b => blkOf e.x.A = some b) w2 w' → w'.cell? ⟨gE, k * 7 + 4, none⟩ = w2.cell? ⟨gE, k * 7 + 4, none⟩ ∧ w'.frozen? ⟨gE, k * 7 + 4, none⟩ = w2.frozen? ⟨gE, k * 7 + 4, none⟩ from fun w' t => touch_cell t D2.obj.2.1 (fun hbb => by
        obtain ⟨_, _, _, _, _, hh⟩ := oa_obj hoa2 hbb
        obtain ⟨_, _, _, _, _, _, hoE⟩ := D2.obj
        exact type_ne hh hoE (by decide) rfl) _)
      have HDR := Lib.hid hdr; have HSH := Lib.hid hoa2.2; have HJ := Lib.hid hj
      have hjm : ¬ (j : Int) = -1 := by omega
      have hjb : ((j : Int) == -1) = false := by simp
      clear hoa2 hok2 D2 hb c4 f4 HAA HQE HQM hof hdr hne hfi hjn
      go_wp2_with fail
      refine HWO.out.mono ?_
      rintro e5 w5 ⟨A5, c5, rfl, ho5, ht5, hb5⟩
      have k5 := (HK.out w5 ht5).1.trans k4
      have g5 := (HK.out w5 ht5).2.trans g4
      have HO5 := Lib.hid ho5; have HT5 := Lib.hid ht5; have HB5 := Lib.hid hb5
      clear ho5 ht5 hb5 k4 g4 HWO
      go_wp2
      go_ret
      have hl1 : (l.eraseIdx j).length = l.length - 1 := List.length_eraseIdx_of_lt HJ.out
      obtain ⟨P6, N6⟩ := HD2.out.put (e' := ⟨⟨{ e.x.ro with attrs := l.eraseIdx j }, A5, c5⟩, e.up, e.K, e.kc, e.kids⟩) HE.out (w' := w5) (HT5.out.mono fun b _ hb => .inl hb) (j := 4) (by decide) (.slice A5 (l.length - 1) c5) (by rw [← hl1]; rfl) ⟨by
          show Of w5 N 63 2 A5 (l.eraseIdx j).length c5 ((l.eraseIdx j).flatMap acells)
          rw [hl1]
          exact HO5.out, fun a ha => HSH.out a (by rw [HLA.out]; exact List.mem_of_mem_eraseIdx ha)⟩ (HOK2.out.block fun g hg => HT5.out.block g (ok_obj HOK2.out hg).2.2.1 fun hb => by
          obtain ⟨_, _, _, _, _, hh⟩ := ok_obj HOK2.out hg
          obtain ⟨_, _, _, _, _, hh2⟩ := oa_obj HOA2.out hb
          exact type_ne hh hh2 (by decide) rfl) (fun g hg => HB5.out g hg) (fun g hg => .inl hg)
      have hM := row_set hk (fun r => { r with attrs := dropL r.attrs nm }) (y := nodeOf ⟨⟨{ e.x.ro with attrs := l.eraseIdx j }, A5, c5⟩, e.up, e.K, e.kc, e.kids⟩) (by
        rw [← HDR.out, ← HLA.out, ← HEN.out]
        rfl)
      rw [hM]
      exact ⟨rfl, _, ⟨_, _, _, P6⟩, (Next.of_below HB.out).trans N6⟩
end Go.Proofs.Ytmlchbohijolaaa.Ar

namespace Go.Proofs.Ytmlchbohijolaaa.Ar
set_option linter.unusedSimpArgs false
set_option linter.unusedVariables false
open Go.RowKit Ba
open Ro (At Ro Cw ros Rr Ow Nw Fr Att Ap Sh Ra cells acells len_acells acells_one app_num below_new infoI info_row info_attr len_cells rowV rowO Few)
open To (Aw)
/-- A copy under way: j entries have attributes and kids of their own. -/
structure Cp (w wr : World) (M : List Nd) (lE : List Ew) (gC cC p2 j : Nat) (l1 : List Ew) : Prop where
  box : wr.heap[p2]? = some (.cells #[.slice (some ⟨gC, 0, none⟩) M.length cC] 74)
  ents : wr.ownsRow w.heap.size 71 7 (.slice (some ⟨gC, 0, none⟩) M.length cC) M.length ((l1 ++ lE.drop j).flatMap ecells)
  len : l1.length = j
  own : ∀ e ∈ l1, OA wr w.heap.size e.x ∧ OK wr w.heap.size e.K e.kc e.kids
  apA : Apart bA l1
  apK : Apart bK l1
  same : l1.map nodeOf = (lE.take j).map nodeOf
  bel : Below w.heap.size w wr
  low : w.heap.size ≤ p2
section
variable {w wr : World} {M : List Nd} {lE : List Ew} {gC cC p2 j : Nat} {l1 : List Ew}
theorem Cp.obj (h : Cp w wr M lE gC cC p2 j l1) : w.heap.size ≤ gC ∧ gC < wr.heap.size ∧ M.length ≤ cC ∧ cC ≤ maxLen ∧ ∃ c f, wr.heap[gC]? = some (.cells c 71 f) := by
  rcases h.ents.2 with ⟨hv, _⟩ | ⟨g, cap, cur, hv, hg, hh, hn, hm, _⟩
  · cases hv
  · injection hv with h1 h2 h3
    injection h1 with h1
    injection h1 with h1
    subst h1 h3
    exact ⟨hg, (Array.getElem?_eq_some_iff.1 hh).1, hn, hm, _, _, hh⟩
theorem Cp.x (h : Cp w wr M lE gC cC p2 j l1) : wr.cell? ⟨p2, 0, none⟩ = some (.slice (some ⟨gC, 0, none⟩) M.length cC) := cell_of_row wr p2 0 _ _ _ h.box
theorem Cp.at_ (h : Cp w wr M lE gC cC p2 j l1) (hl : lE.length = M.length) {e0 : Ew} (he : lE[j]? = some e0) : ∀ i u, (ecells e0)[i]? = some u → wr.cell? ⟨gC, j * 7 + i, none⟩ = some u := fun i u hu => by
  have hi : i < 7 := (List.getElem?_eq_some_iff.1 hu).1
  have hj := (List.getElem?_eq_some_iff.1 he).1
  have h1 := h.len
  have hjl : j < (l1 ++ lE.drop j).length := by rw [List.length_append, List.length_drop]; omega
  have h2 : (l1 ++ lE.drop j)[j]'hjl = e0 := by
    rw [List.getElem_append_right (by omega), List.getElem_drop]
    rw [← (List.getElem?_eq_some_iff.1 he).2]
    congr 1
    omega
  have := World.ownsRow.cells h.ents (g := gC) rfl (j * 7 + i) u (by rw [Ro.flat_at ecells 7 len_ecells _ _ _ hjl hi, h2]; exact hu)
  rw [WideShapes.add_plain, Nat.zero_add] at this
  exact this
theorem apart_snoc {f : Ew → Option Nat} {l : List Ew} {L : Nat} (h : Apart f l) {e : Ew} (hl : ∀ a ∈ l, ∀ g, f a = some g → g < L) (he : ∀ g, f e = some g → L ≤ g) : Apart f (l ++ [e]) := by
  unfold Apart at h ⊢
  rw [List.pairwise_append]
  refine ⟨h, List.pairwise_singleton _ _, fun a ha b hb g hg hg2 => ?_⟩
  rw [List.mem_singleton] at hb
  subst hb
  have := hl a ha g hg
  have := he g hg2
  omega
theorem set_mid {l : List Ew} {e0 : Ew} (hlen : l1.length = j) (h0 : l[j]? = some e0) (e' : Ew) : (l1 ++ l.drop j).set j e' = l1 ++ e' :: l.drop (j + 1) := by
  have hj := (List.getElem?_eq_some_iff.1 h0).1
  rw [List.set_append_right _ _ (by omega), hlen, Nat.sub_self, List.drop_eq_getElem_cons hj, List.set_cons_zero]
/-- One entry more. -/
theorem Cp.step (h : Cp w wr M lE gC cC p2 j l1) (hl : lE.length = M.length) {e0 : Ew} (he : lE[j]? = some e0) {A4 K6 : Option Addr} {c4 c6 : Nat} {w1 w3 : World}
    (b1 : Below wr.heap.size wr w1) (ha : Aw wr.heap.size w1 (.slice A4 e0.x.ro.attrs.length c4) e0.x.ro.attrs)
    (b3 : Below (w1.setCell ⟨gC, j * 7 + 4, none⟩ (.slice A4 e0.x.ro.attrs.length c4)).heap.size (w1.setCell ⟨gC, j * 7 + 4, none⟩ (.slice A4 e0.x.ro.attrs.length c4)) w3)
    (hk : w3.ownsRow (w1.setCell ⟨gC, j * 7 + 4, none⟩ (.slice A4 e0.x.ro.attrs.length c4)).heap.size 3 1 (.slice K6 e0.kids.length c6) e0.kids.length (e0.kids.map nv)) :
    Cp w (w3.setCell ⟨gC, j * 7 + 6, none⟩ (.slice K6 e0.kids.length c6)) M lE gC cC p2 (j + 1) (l1 ++ [⟨⟨e0.x.ro, A4, c4⟩, e0.up, K6, c6, e0.kids⟩]) := by
  obtain ⟨hgw, hgl, _, _, cg, fg, hog⟩ := h.obj
  have hj := (List.getElem?_eq_some_iff.1 he).1
  have hp2l := (Array.getElem?_eq_some_iff.1 h.box).1
  have hpg : p2 ≠ gC := type_ne h.box hog (by decide)
  -- the first store
  have hs1 := b1.size
  have og1 := (b1.block gC hgl).trans hog
  have e1 := owns_block (w' := w1) h.ents fun g hg => by
    obtain rfl : gC = g := Option.some.inj hg
    exact b1.block gC hgl
  have e2 := (World.ownsRow.stored e1 (j * 7 + 4) (.slice A4 e0.x.ro.attrs.length c4)).1
  have hjl : j < (l1 ++ lE.drop j).length := by rw [List.length_append, List.length_drop, h.len]; omega
  have hat : (l1 ++ lE.drop j)[j]'hjl = e0 := by
    have h1 := h.len
    rw [List.getElem_append_right (by omega), List.getElem_drop, ← (List.getElem?_eq_some_iff.1 he).2]
    congr 1
    omega
  rw [flat_set7 (by decide) _ (l1 ++ lE.drop j) j ⟨⟨e0.x.ro, A4, c4⟩, e0.up, e0.K, e0.kc, e0.kids⟩ (fun _ => by rw [hat]; rfl) hjl, set_mid h.len he] at e2
  obtain ⟨w2, hw2⟩ : ∃ w2, w1.setCell ⟨gC, j * 7 + 4, none⟩ (.slice A4 e0.x.ro.attrs.length c4) = w2 := ⟨_, rfl⟩
  rw [hw2] at e2 b3 hk
  have hs2 : w2.heap.size = w1.heap.size := by rw [← hw2]; simp [World.setCell]
  have k2 : ∀ b, b ≠ gC → w2.heap[b]? = w1.heap[b]? := fun b hb => hw2 ▸ Below.heap_setCell _ _ _ _ hb
  have og2 : ∃ c f, w2.heap[gC]? = some (.cells c 71 f) := by
    rcases e2.2 with ⟨hv, _⟩ | ⟨g, cap, cur, hv, _, hh, _⟩
    · cases hv
    · injection hv with h1
      injection h1 with h1
      injection h1 with h1
      subst h1
      exact ⟨_, _, hh⟩
  obtain ⟨cg2, fg2, og2⟩ := og2
  -- the second store
  have hs3 := b3.size
  have hg2 : gC < w2.heap.size := by omega
  have e3 := owns_block (w' := w3) e2 fun g hg => by
    obtain rfl : gC = g := Option.some.inj hg
    exact b3.block gC hg2
  have og3 := (b3.block gC hg2).trans og2
  have e4 := (World.ownsRow.stored e3 (j * 7 + 6) (.slice K6 e0.kids.length c6)).1
  have hjl2 : j < (l1 ++ (⟨⟨e0.x.ro, A4, c4⟩, e0.up, e0.K, e0.kc, e0.kids⟩ : Ew) :: lE.drop (j + 1)).length := by rw [List.length_append, List.length_cons, h.len]; omega
  have hat2 : (l1 ++ (⟨⟨e0.x.ro, A4, c4⟩, e0.up, e0.K, e0.kc, e0.kids⟩ : Ew) :: lE.drop (j + 1))[j]'hjl2 = ⟨⟨e0.x.ro, A4, c4⟩, e0.up, e0.K, e0.kc, e0.kids⟩ := by
    have h1 := h.len
    subst h1
    simp
  rw [flat_set7 (by decide) _ _ j ⟨⟨e0.x.ro, A4, c4⟩, e0.up, K6, c6, e0.kids⟩ (fun _ => by rw [hat2]; rfl) hjl2] at e4
  have hset : (l1 ++ (⟨⟨e0.x.ro, A4, c4⟩, e0.up, e0.K, e0.kc, e0.kids⟩ : Ew) :: lE.drop (j + 1)).set j ⟨⟨e0.x.ro, A4, c4⟩, e0.up, K6, c6, e0.kids⟩ = (l1 ++ [⟨⟨e0.x.ro, A4, c4⟩, e0.up, K6, c6, e0.kids⟩]) ++ lE.drop (j + 1) := by
    have h1 := h.len
    rw [List.set_append_right _ _ (by omega), h1, Nat.sub_self, List.set_cons_zero]
    simp
  rw [hset] at e4
  obtain ⟨w4, hw4⟩ : ∃ w4, w3.setCell ⟨gC, j * 7 + 6, none⟩ (.slice K6 e0.kids.length c6) = w4 := ⟨_, rfl⟩
  rw [hw4] at e4 ⊢
  have k4 : ∀ b, b ≠ gC → w4.heap[b]? = w3.heap[b]? := fun b hb => hw4 ▸ Below.heap_setCell _ _ _ _ hb
  -- what is of another type, and was there, is as it was
  have keep : ∀ b, b < wr.heap.size → b ≠ gC → w4.heap[b]? = wr.heap[b]? := fun b hb hne =>
    (k4 b hne).trans ((b3.block b (by omega)).trans ((k2 b hne).trans (b1.block b hb)))
  have hoa : OA w4 w.heap.size ⟨e0.x.ro, A4, c4⟩ := by
    have h1 : OA w1 wr.heap.size ⟨e0.x.ro, A4, c4⟩ := ⟨.inl ha.1, ha.2⟩
    have h2 : OA w4 wr.heap.size ⟨e0.x.ro, A4, c4⟩ := h1.block fun g hg => by
      obtain ⟨_, hN, hlt, _, _, hh⟩ := oa_obj h1 hg
      have hne : g ≠ gC := type_ne hh og1 (by decide)
      exact (k4 g hne).trans ((b3.block g (by omega)).trans (k2 g hne))
    exact ⟨h2.1.mono h.bel.size, h2.2⟩
  have hok : OK w4 w.heap.size K6 c6 e0.kids := by
    have h1 : OK w3 w2.heap.size K6 c6 e0.kids := .inl hk
    have h2 : OK w4 w2.heap.size K6 c6 e0.kids := h1.block fun g hg => by
      obtain ⟨_, hN, hlt, _, _, hh⟩ := ok_obj h1 hg
      exact k4 g (type_ne hh og3 (by decide))
    exact Of.mono h2 (Nat.le_trans h.bel.size (by omega))
  have lowA : ∀ g, blkOf A4 = some g → wr.heap.size ≤ g := fun g hg => (oa_obj (w := w1) (N := wr.heap.size) (x := ⟨e0.x.ro, A4, c4⟩) ⟨.inl ha.1, ha.2⟩ hg).2.1
  have lowK : ∀ g, blkOf K6 = some g → wr.heap.size ≤ g := fun g hg => by
    have := (ok_obj (w := w3) (N := w2.heap.size) (A := K6) (c := c6) (l := e0.kids) (.inl hk) hg).2.1
    omega
  refine ⟨(keep p2 hp2l hpg).trans h.box, e4, by rw [List.length_append, h.len]; rfl, fun e he' => ?_, apart_snoc h.apA (fun a ha' g hg => (oa_obj (h.own a ha').1 hg).2.2.1) lowA, apart_snoc h.apK (fun a ha' g hg => (ok_obj (h.own a ha').2 hg).2.2.1) lowK, ?_, ?_, h.low⟩
  · rcases List.mem_append.1 he' with he' | he'
    · refine ⟨(h.own e he').1.block fun g hg => ?_, (h.own e he').2.block fun g hg => ?_⟩
      · obtain ⟨_, _, hlt, _, _, hh⟩ := oa_obj (h.own e he').1 hg
        exact keep g hlt (type_ne hh hog (by decide))
      · obtain ⟨_, _, hlt, _, _, hh⟩ := ok_obj (h.own e he').2 hg
        exact keep g hlt (type_ne hh hog (by decide))
    · rw [List.mem_singleton] at he'
      subst he'
      exact ⟨hoa, hok⟩
  · rw [List.map_append, h.same, List.take_add_one, he, List.map_append]
    rfl
  · have h1 : Below w.heap.size w w2 := by
      rw [← hw2]
      exact (bt h.bel b1).setCell (p := ⟨gC, j * 7 + 4, none⟩) hgw _
    rw [← hw4]
    exact (bt h1 b3).setCell (p := ⟨gC, j * 7 + 6, none⟩) hgw _
/-- The copy, done. -/
theorem Cp.done (h : Cp w wr M lE gC cC p2 M.length l1) (hs : lE.map nodeOf = M) : PD wr w.heap.size (fun b => w.heap.size ≤ b ∧ b < wr.heap.size) p2 M gC cC l1 := by
  have hl : lE.length = M.length := by rw [← hs, List.length_map]
  have he := h.ents
  rw [List.drop_eq_nil_of_le (by omega), List.append_nil] at he
  obtain ⟨hg1, hg2, _⟩ := h.obj
  refine ⟨h.box, he, fun e he' => ⟨(h.own e he').1, fun g hg => ?_⟩, fun e he' => ⟨(h.own e he').2, fun g hg => ?_⟩, h.apA, h.apK, by rw [h.same, List.take_of_length_le (by omega), hs], h.low, ⟨h.low, (Array.getElem?_eq_some_iff.1 h.box).1⟩, ⟨hg1, hg2⟩, fun b hb => hb.2⟩
  · obtain ⟨_, h1, h2, _⟩ := oa_obj (h.own e he').1 hg
    exact ⟨h1, h2⟩
  · obtain ⟨_, h1, h2, _⟩ := ok_obj (h.own e he').2 hg
    exact ⟨h1, h2⟩
end
end Go.Proofs.Ytmlchbohijolaaa.Ar

namespace Go.Proofs.Ytmlchbohijolaaa.Ar
set_option maxRecDepth 100000
set_option linter.unusedSimpArgs false
set_option linter.unusedVariables false
open Go.RowKit Ba
open Ro (At Ro Cw ros Rr Ow Nw Fr Att Ap Sh Ra cells acells len_acells acells_one app_num below_new infoI info_row info_attr len_cells rowV rowO Few)
open To (Aw)
set_option maxRecDepth 100000 in
set_option maxHeartbeats 8000000 in
theorem copyP1 {p N : Nat} {F : Nat → Prop} {M : List Nd} (w : World) (D : Doc12 w N F p M) (W : Wf M) (hm : M.length ≤ 5000) (hf : Few (M.map Nd.ro)) :
    Calls Try.prog 13 #[.pointer (some ⟨p, 0, none⟩)] w fun e w' => ∃ p2 F2, e = .returned (.pointer (some ⟨p2, 0, none⟩)) ∧ Doc12 w' w.heap.size F2 p2 M ∧ Below w.heap.size w w' ∧ ∀ b, F2 b → w.heap.size ≤ b := by
  obtain ⟨gE, cE, lE, D⟩ := D
  have hx := D.x
  have hpos := W.pos
  have HC := Lib.hid (copiedE1 w D (by omega))
  have hll := D.len
  have hsame := D.same
  have HD := Lib.hid D; have HLL := Lib.hid hll; have HSAME := Lib.hid hsame
  have HKB := Lib.hid (show ∀ (j : Nat) (e : Ew), lE[j]? = some e → e.kids.length ≤ 5000 from fun j e he => by
    have hj := (List.getElem?_eq_some_iff.1 he).1
    obtain ⟨e', h1, h2, h3, _⟩ := D.kidsOf (k := j) (by rw [← hll]; exact hj)
    rw [he] at h1
    obtain rfl := Option.some.inj h1
    rw [h3]
    exact kids_bound W hm j)
  clear D hll hsame W
  go_enter Try.func13, Try.ntmps13
  go_wp2_with fail
  refine HC.out.mono ?_
  rintro e w1 ⟨v, rfl, ho, hb1⟩
  obtain ⟨gC, cC, rfl⟩ : ∃ gC cC, v = .slice (some ⟨gC, 0, none⟩) M.length cC := by
    rcases ho.2 with ⟨_, h0⟩ | ⟨g, cap, cur, hv, _⟩
    · omega
    · exact ⟨g, cap, hv⟩
  have hb2 := bt hb1 (below_new w1 (.cells #[.slice (some ⟨gC, 0, none⟩) M.length cC] 74))
  have hbx := heap_alloc_new w1 (.cells #[.slice (some ⟨gC, 0, none⟩) M.length cC] 74)
  have hcp : Cp w (w1.alloc (.cells #[.slice (some ⟨gC, 0, none⟩) M.length cC] 74)) M lE gC cC w1.heap.size 0 [] := by
    refine ⟨hbx, ?_, rfl, fun e he => (by cases he), List.Pairwise.nil, List.Pairwise.nil, rfl, hb2, hb1.size⟩
    rw [List.drop_zero, List.nil_append]
    exact World.ownsRow.alloc ho _
  have hx2 := hcp.x
  have HCP := Lib.hid hcp
  clear ho hb1 hb2 hbx hcp HC
  go_wp2
  go_loopw [18] (fun i wr => ∃ (j : Nat) (l1 : List Ew), i = .int .i64 j ∧ j ≤ M.length ∧ Cp w wr M lE gC cC w1.heap.size j l1) (fun i _ => M.length - (intOf i).toNat)
  case atStart => exact ⟨0, [], rfl, Nat.zero_le _, HCP.out⟩
  case round =>
    obtain ⟨j, l1, rfl, hj, hcp⟩ := hrel
    have HCJ := Lib.hid hcp
    have xr := hcp.x
    have hcap := hcp.obj.2.2.1
    by_cases hjl : j < M.length
    · have hj2 : j < lE.length := by rw [HLL.out]; exact hjl
      obtain ⟨e0, he0⟩ : ∃ e0, lE[j]? = some e0 := ⟨_, List.getElem?_eq_getElem hj2⟩
      have hem := List.mem_of_getElem? he0
      have hat := hcp.at_ HLL.out he0
      have c4 := hat 4 _ rfl
      have Dr := HD.out.below hcp.bel
      have hoa := (Dr.attrs e0 hem).1
      have hok := (Dr.kids e0 hem).1
      have hfe : e0.x.ro.attrs.length ≤ 2000000 := by
        have h1 := hf { e0.x.ro with depth := 0 } (by
          rw [← HSAME.out, List.map_map]
          exact List.mem_map.2 ⟨e0, hem, rfl⟩)
        exact Nat.le_trans h1 (by decide)
      have hke : e0.kids.length ≤ 2000000 := by
        have h1 : OK wr N e0.K e0.kc e0.kids := hok
        exact Nat.le_trans (HKB.out j e0 he0) (by decide)
      have HA := Lib.hid (copiedA1 e0.x wr (oa_att hoa) hfe)
      have HE0 := Lib.hid he0; have HDR := Lib.hid Dr; have HEM := Lib.hid hem
      have hji : (j : Int) < M.length := by omega
      have hobj := hcp.obj
      have f4 : wr.frozen? ⟨gC, j * 7 + 4, none⟩ = false := World.ownsRow.frozenAt hcp.ents _
      clear hcp he0 hem hat hoa hok Dr hfe
      go_wp2_with fail
      refine HA.out.mono ?_
      rintro e2 w2 ⟨vA, rfl, haw, b1⟩
      obtain ⟨A4, k4, rfl⟩ := haw.form
      have HB1 := Lib.hid b1; have HAW := Lib.hid haw
      have q4 := (b1.cell (p := ⟨gC, j * 7 + 4, none⟩) hobj.2.1).trans c4
      have g4 := (b1.frozen (p := ⟨gC, j * 7 + 4, none⟩) hobj.2.1).trans f4
      have hw2a : Below w.heap.size w (w2.setCell ⟨gC, j * 7 + 4, none⟩ (.slice A4 e0.x.ro.attrs.length k4)) := (bt HCJ.out.bel b1).setCell (p := ⟨gC, j * 7 + 4, none⟩) hobj.1 _
      have q6 : (w2.setCell ⟨gC, j * 7 + 4, none⟩ (.slice A4 e0.x.ro.attrs.length k4)).cell? ⟨gC, j * 7 + 6, none⟩ = some (.slice e0.K e0.kids.length e0.kc) := by
        rw [World.cell?_setCell_other (h := show (⟨gC, j * 7 + 4, none⟩ : Addr) ≠ ⟨gC, j * 7 + 6, none⟩ from fun e => by injection e with _ e _; omega)]
        exact (b1.cell (p := ⟨gC, j * 7 + 6, none⟩) hobj.2.1).trans (HCJ.out.at_ HLL.out HE0.out 6 _ rfl)
      have g6 : (w2.setCell ⟨gC, j * 7 + 4, none⟩ (.slice A4 e0.x.ro.attrs.length k4)).frozen? ⟨gC, j * 7 + 6, none⟩ = false := by
        rw [World.frozen?_setCell]
        exact (b1.frozen (p := ⟨gC, j * 7 + 6, none⟩) hobj.2.1).trans (World.ownsRow.frozenAt HCJ.out.ents _)
      obtain ⟨w2a, hwa⟩ : ∃ w2a, w2.setCell ⟨gC, j * 7 + 4, none⟩ (.slice A4 e0.x.ro.attrs.length k4) = w2a := ⟨_, rfl⟩
      rw [hwa] at hw2a q6 g6
      have hga : gC < w2a.heap.size := by
        have h1 := b1.size
        have h2 : w2a.heap.size = w2.heap.size := by rw [← hwa]; simp [World.setCell]
        omega
      have HI := Lib.hid (copiedI1 N e0.K e0.kc e0.kids w2a ((HD.out.below hw2a).kids e0 HEM.out).1 hke)
      have HWA := Lib.hid hwa
      clear hwa hw2a b1 haw HA c4 f4
      go_upto_region 7 with (fail)
      rw [HWA.out]
      clear q4 g4
      go_wp2_with fail
      refine HI.out.mono ?_
      rintro e3 w3 ⟨vK, rfl, hok3, b3⟩
      obtain ⟨K6, k6, rfl⟩ : ∃ K6 k6, vK = .slice K6 e0.kids.length k6 := by
        rcases hok3.2 with ⟨hv, h0⟩ | ⟨g, cap, cur, hv, _⟩
        · exact ⟨none, 0, by rw [h0]; exact hv⟩
        · exact ⟨_, _, hv⟩
      have r6 := (b3.cell (p := ⟨gC, j * 7 + 6, none⟩) hga).trans q6
      have s6 := (b3.frozen (p := ⟨gC, j * 7 + 6, none⟩) hga).trans g6
      have HB3 := Lib.hid b3; have HK3 := Lib.hid hok3
      clear hok3 b3 HI q6 g6
      go_wp2
      go_roundw
      case rel =>
        refine ⟨j + 1, _, by go_num, by omega, HCJ.out.step HLL.out HE0.out HB1.out HAW.out (w3 := w3) (by rw [HWA.out]; exact HB3.out) (by rw [HWA.out]; exact HK3.out)⟩
      case measure => (simp [intOf]; try omega)
    · obtain rfl : j = M.length := by omega
      go_wp2
      go_ret
      exact ⟨_, _, rfl, ⟨gC, cC, l1, HCJ.out.done HSAME.out⟩, HCJ.out.bel, fun b hb => hb.1⟩
end Go.Proofs.Ytmlchbohijolaaa.Ar
