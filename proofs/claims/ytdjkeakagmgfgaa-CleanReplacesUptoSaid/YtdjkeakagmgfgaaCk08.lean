/-
  Stage 13: CleanReplaces.
-/
import Derived.Test.YtdjkeakagmgfgaaCk07
import Derived.Test.YtdjkeakagmgfgaaCk06
import Derived.Deep.CutRange
namespace Go.Proofs.Ytdjkeakagmgfgaa.Cn
set_option maxRecDepth 100000
set_option linter.unusedVariables false
set_option linter.unusedSimpArgs false
open Go.RowKit Ba Ro
open Co (Cf Cv Sm confV confO attrB12 elementN checkN bel_eq12 Hb noStr noStr8 allC)
open Rk (safeB)
theorem rr_take {w : World} {N : Nat} {A : Option Addr} {l : List Cw} (h : Rr w N A l) (n : Nat) : Rr w N A (l.take n) := by
  refine ⟨fun h0 => ?_, fun x hx => h.2 x (List.mem_of_mem_take hx)⟩
  have h1 : (l.take n).length ≤ l.length := List.length_take_le' _ _
  obtain ⟨b, off, e, hb, hc⟩ := h.1 (by omega)
  refine ⟨b, off, e, hb, fun j hj => ?_⟩
  rw [List.getElem_take]
  exact hc j (by omega)
theorem rv_take {w : World} {A : Option Addr} {c m : Nat} {l : List Cw} (h : Rv w (.slice A l.length c) l) (hm : m ≤ l.length) : Rv w (.slice A m c) (l.take m) := by
  obtain ⟨A', c', e, h1, h2, h3, h4⟩ := h
  injection e with e1 _ e3
  subst e1 e3
  have hl : (l.take m).length = m := by rw [List.length_take]; omega
  exact ⟨A, c, by rw [hl], by omega, h2, rr_take h3 m, fun x hx => h4 x (by rw [← ros_take] at hx; exact List.mem_of_mem_take hx)⟩
def gone : Ro := ⟨0, 0, ⟨#[120, 45, 103, 111, 110, 101]⟩, .empty, []⟩
def cG : Cf := ⟨false, false, [], [⟨#[120, 45, 103, 111, 110, 101]⟩], [], [], true, false⟩
theorem sm_g : Sm cG := Co.sm_few (by decide +kernel)
theorem conf_g {w : World} {g : Nat} (h : w.heap[g]? = some (.cells #[.string ⟨#[120, 45, 103, 111, 110, 101]⟩] 9)) : Cv w w.heap.size (.agg #[.bool false, .bool false, .slice none 0 0, .slice (some ⟨g, 0, none⟩) 1 1, .slice none 0 0, .slice none 0 0, .bool true, .bool false]) cG :=
  ⟨_, _, _, _, [], rfl, ⟨Co.sv_nil12 _ _, Co.sv_lit12 (l := [⟨#[120, 45, 103, 111, 110, 101]⟩]) h, Co.sv_nil12 _ _, ⟨none, 0, rfl, Nat.le_refl _, fun _ => rfl, Co.Pr.nil _ _ _⟩, rfl⟩⟩
theorem gone_rv (w : World) : Rv (w.alloc (.cells #[.int .i64 0, .int .i64 0, .string ⟨#[120, 45, 103, 111, 110, 101]⟩, .string .empty, .slice none 0 0] 36)) (.slice (some ⟨w.heap.size, 0, none⟩) 1 1) [bare gone] :=
  (rows_new w [bare gone] _ 1 rfl (by decide) rfl (fun x hx => ⟨_, List.mem_singleton.1 hx, rfl⟩)).rv (fun x hx => by
    have := List.mem_singleton.1 hx
    subst this
    exact ⟨by decide, by decide⟩)
theorem check_two {a b : List Ro} (ha : check a = 0) (hb : check b = 0) (hl : (a ++ b).length ≤ 4096) (hr : right (a ++ b) = true) : check (a ++ b) = 0 := by
  refine check_of ?_ hr
  cases he : exceeds (a ++ b) 4096 60 with
  | false => rfl
  | true =>
    rw [exceeds_iff] at he
    exfalso
    rcases he with he | ⟨x, hx, hd⟩
    · omega
    · have no : ∀ {c : List Ro}, check c = 0 → x ∈ c → False := fun {c} hc hx => by
        have hn : ¬ exceeds c 4096 60 = true := by rw [(check_parts hc).1]; decide
        rw [exceeds_iff] at hn
        exact hn (.inr ⟨x, hx, hd⟩)
      rcases List.mem_append.1 hx with hx | hx
      · exact no ha hx
      · exact no hb hx
theorem check_right {l : List Ro} (h : right l = true) (h0 : check l ≠ 0) : check l = 2 := by
  unfold check at h0 ⊢
  split
  · rfl
  · rename_i h1
    rw [if_neg h1, if_pos h] at h0
    exact absurd rfl h0
theorem join13 (a b : Value) (x y : List Cw) (w : World) (ha : Rv w a x) (hb : Rv w b y) (hx : x.length ≤ 1000) (hy : y.length ≤ 1000) (hfx : Few (ros x)) (hfy : Few (ros y)) (q : List Ro) (hq : ros x ++ ros y = q) :
    Calls Try.prog 28 #[a, b] w fun e w' => ∃ v l, e = .returned v ∧ Rv w' v l ∧ ros l = q ∧ Below w.heap.size w w' := by
  obtain ⟨A, c, rfl, hc, hm, hr, hh⟩ := ha
  obtain ⟨B, d, rfl, hdc, hdm, hdr, hdh⟩ := hb
  refine (Join_any A B c d x y w hr hdr hc hdc (by omega) (by omega) hfx hfy hh hdh).mono ?_
  rintro e w' ⟨v, l, he, ho, _, hl, hb⟩
  exact ⟨v, l, he, ho.rv (by rw [hl]; exact hh.append hdh), hl.trans hq, hb⟩
theorem moved13 (v : Value) (x : List Cw) (w : World) (h : Rv w v x) (hl : x.length ≤ 1000) (hf : Few (ros x)) (hc : check (ros x) = 0) (q : List Ro) (hq : deeper 1 (ros x) = q) :
    Calls Try.prog 12 #[v, .int .i64 1] w fun e w' => ∃ u y, e = .returned u ∧ Rv w' u y ∧ ros y = q ∧ Below w.heap.size w w' := by
  obtain ⟨A, c, rfl, hlc, hm, hr, hh⟩ := h
  have hd : ∀ x' ∈ ros x, 0 ≤ x'.depth ∧ x'.depth < 60 := fun x' hx => by
    obtain ⟨h1, h2⟩ := check_parts hc
    have hn : ¬ exceeds (ros x) 4096 60 = true := by rw [h1]; decide
    rw [exceeds_iff] at hn
    exact ⟨(fo_right h2).1 x' hx, Int.not_le.1 fun h => hn (.inr ⟨x', hx, h⟩)⟩
  refine (Moved_any A c x 1 w hr hlc (by omega) hf (fun x' hx => by have := hd x' hx; omega)).mono ?_
  rintro e w1 ⟨u, y, rfl, ho, hfr, hy, hb⟩
  refine ⟨u, y, rfl, ho.rv ?_, hy.trans hq, hb⟩
  rw [hy]
  intro z hz
  obtain ⟨x', hx, rfl⟩ := List.mem_map.1 hz
  have := hd x' hx
  show (-9223372036854775808 : Int) ≤ x'.depth + 1 ∧ x'.depth + 1 ≤ 9223372036854775807
  omega
theorem small_app {a b : List Ro} (ha : Rz.Small a) (hb : Rz.Small b) : Rz.Small (a ++ b) := fun x hx => (List.mem_append.1 hx).elim (ha x) (hb x)
theorem few_app {a b : List Ro} (ha : Few a) (hb : Few b) : Few (a ++ b) := fun x hx => (List.mem_append.1 hx).elim (ha x) (hb x)
theorem small_deep {a : List Ro} (ha : Rz.Small a) : Rz.Small (deeper 1 a) := fun x hx => by
  obtain ⟨y, hy, rfl⟩ := List.mem_map.1 hx
  exact ha y hy
theorem few_deep {a : List Ro} (ha : Few a) : Few (deeper 1 a) := fun x hx => by
  obtain ⟨y, hy, rfl⟩ := List.mem_map.1 hx
  exact ha y hy
theorem bound13t (v : Value) (l : List Cw) (w : World) (h : Rv w v l) (hz : Rz.Small (ros l)) (ht : (txt (ros l)).length ≤ 1048576) :
    Calls Try.prog 10 #[v] w fun e w' => ∃ A k l', e = .returned (.slice A (List.length l') k) ∧ Rv w' (.slice A (List.length l') k) l' ∧ Lw (ros l') ∧ (txt (ros l')).length ≤ 1048576 ∧ Below w.heap.size w w' := by
  refine (bound13 v l w h hz (by omega)).mono ?_
  rintro e w' ⟨v', l', he, hv, hl, hw, hb⟩
  obtain ⟨A, k, rfl⟩ := rv_shape hv
  exact ⟨A, k, l', he, hv, hw, by rw [hl]; exact Nat.le_trans (txt_boundR _) ht, hb⟩
set_option maxRecDepth 100000 in
set_option maxHeartbeats 8000000 in
theorem law13_replaces (va vb : Value) (la lb : List Cw) (w : World) (ha : Rv w va la) (hza : Rz.Small (ros la)) (hta : (txt (ros la)).length ≤ 1048576) (hb : Rv w vb lb) (hzb : Rz.Small (ros lb)) (htb : (txt (ros lb)).length ≤ 1048576) :
    Calls Try.prog 9 #[va, vb] w fun r w' => r = .returned (.bool true) ∧ Below w.heap.size w w' := by
  have HBA := Lib.hid (bound13t va la w ha hza hta)
  have HBB := Lib.hid (fun wx (h : Below w.heap.size w wx) => bound13t vb lb wx (hb.below h) hzb htb)
  clear ha hza hta hb hzb htb
  go_enter Try.func9, Try.ntmps9
  go_upto_region 2 with (first
    | (go_at_call 10; refine HBA.out.mono ?_; rintro r w1 ⟨A1, c1, l1, rfl, hv1, hw1, ht1, hb1⟩; have HV1 := Lib.hid hv1; have HW1 := Lib.hid hw1; have HT1 := Lib.hid ht1; have HB1 := Lib.hid hb1; clear hv1 hw1 ht1 hb1)
    | fail)
  go_upto_region 3 with (first
    | (go_at_call 10; refine (HBB.out w1 HB1.out).mono ?_; rintro r w2 ⟨A2, c2, l2, rfl, hv2, hw2, ht2, hb2⟩; have HV1 := Lib.hid (HV1.out.below hb2); have HV2 := Lib.hid hv2; have HW2 := Lib.hid hw2; have HT2 := Lib.hid ht2; have HB2 := Lib.hid (HB1.out.trans (hb2.mono HB1.out.size)); clear hv2 hw2 ht2 hb2)
    | fail)
  obtain ⟨m1, hm1⟩ : ∃ m, min l1.length 20 = m := ⟨_, rfl⟩
  obtain ⟨m2, hm2⟩ : ∃ m, min l2.length 20 = m := ⟨_, rfl⟩
  have q1 := fun w => min_any l1.length 20 20 rfl m1 hm1.symm w
  have q2 := fun w => min_any l2.length 20 20 rfl m2 hm2.symm w
  have u1 : m1 ≤ c1 := by obtain ⟨_, _, e, h, _⟩ := HV1.out; injection e with _ _ e; omega
  have u2 : m2 ≤ c2 := by obtain ⟨_, _, e, h, _⟩ := HV2.out; injection e with _ _ e; omega
  have k1 := rv_take HV1.out (show m1 ≤ l1.length by omega)
  have k2 := rv_take HV2.out (show m2 ≤ l2.length by omega)
  have n1 : (l1.take m1).length ≤ 20 := by rw [List.length_take]; omega
  have n2 : (l2.take m2).length ≤ 20 := by rw [List.length_take]; omega
  obtain ⟨La, hLa⟩ : ∃ L, ros (l1.take m1) = L := ⟨_, rfl⟩
  obtain ⟨Lb, hLb⟩ : ∃ L, ros (l2.take m2) = L := ⟨_, rfl⟩
  have za : Rz.Small La := by rw [← hLa, ← ros_take]; exact fun x hx => HW1.out.z x (List.mem_of_mem_take hx)
  have zb : Rz.Small Lb := by rw [← hLb, ← ros_take]; exact fun x hx => HW2.out.z x (List.mem_of_mem_take hx)
  have fa : Few La := by rw [← hLa, ← ros_take]; exact fun x hx => HW1.out.f x (List.mem_of_mem_take hx)
  have fb : Few Lb := by rw [← hLb, ← ros_take]; exact fun x hx => HW2.out.f x (List.mem_of_mem_take hx)
  have ta : (txt La).length ≤ 1048576 := by rw [← hLa, ← ros_take]; exact Nat.le_trans (txt_take _ _) HT1.out
  have tb : (txt Lb).length ≤ 1048576 := by rw [← hLb, ← ros_take]; exact Nat.le_trans (txt_take _ _) HT2.out
  have na : La.length ≤ 20 := by rw [← hLa, len_ros]; exact n1
  have nb : Lb.length ≤ 20 := by rw [← hLb, len_ros]; exact n2
  have KA := Lib.hid k1; have KB := Lib.hid k2; have HLA := Lib.hid hLa; have HLB := Lib.hid hLb; have ZA := Lib.hid za; have ZB := Lib.hid zb; have FA := Lib.hid fa; have FB := Lib.hid fb; have TA := Lib.hid ta; have TB := Lib.hid tb; have NA := Lib.hid na; have NB := Lib.hid nb
  have HM1 := Lib.hid hm1; have HM2 := Lib.hid hm2
  have N1 := Lib.hid n1; have N2 := Lib.hid n2
  clear k1 k2 hLa hLb za zb fa fb ta tb na nb n1 n2 hm1 hm2
  go_upto_region 5 with (fail)
  clear q1 q2 u1 u2
  obtain ⟨E1, hE1⟩ : ∃ E, check La = E := ⟨_, rfl⟩
  obtain ⟨E2, hE2⟩ : ∃ E, check Lb = E := ⟨_, rfl⟩
  have HE1 := Lib.hid hE1; have HE2 := Lib.hid hE2
  clear hE1 hE2
  have CA := Lib.hid (refCheck1 _ (l1.take m1) w2 E1 KA.out (by have := N1.out; omega) (by rw [HLA.out]; exact HE1.out))
  by_cases h1 : E1 = 0
  · subst h1
    by_cases h2 : E2 = 0
    · subst h2
      have r1 := (check_parts HE1.out).2
      have r2 := (check_parts HE2.out).2
      obtain ⟨s1, s2, s3⟩ := replaced (c := cG) (x := gone) r1 r2 rfl rfl (by decide +kernel) (by decide +kernel)
      have hg : checkN cG = 0 := by decide +kernel
      have e4 : errI cG (La ++ Lb) = 0 := err_ok.2 ⟨hg, check_two HE1.out HE2.out (by rw [List.length_append]; have := NA.out; have := NB.out; omega) s2⟩
      obtain ⟨E3, hE3⟩ : ∃ E, errI cG (La ++ gone :: deeper 1 Lb) = E := ⟨_, rfl⟩
      obtain ⟨T3, hT3⟩ : ∃ T, outL cG false (La ++ gone :: deeper 1 Lb) = T := ⟨_, rfl⟩
      obtain ⟨T4, hT4⟩ : ∃ T, outL cG false (La ++ Lb) = T := ⟨_, rfl⟩
      have hsame : E3 = 0 → T3 = T4 := fun h => by rw [← hT3, ← hT4, out_ok (hE3.trans h), out_ok e4, s3]
      have hbig : E3 ≠ 0 → E3 = 2 := fun h => by
        rw [← hE3] at h ⊢
        unfold errI at h ⊢
        rw [if_pos hg] at h ⊢
        exact check_right s1 h
      have hn3 : E3 = 0 → T3.length ≤ 1000 := fun h => by
        rw [← hT3, out_ok (hE3.trans h)]
        refine Nat.le_trans (clean_len cG false s1) ?_
        have := NA.out; have := NB.out
        rw [List.length_append, List.length_cons, show (deeper 1 Lb).length = Lb.length from List.length_map _]
        omega
      have G1 := Lib.hid hE3; have G2 := Lib.hid hT3; have G3 := Lib.hid hT4; have G4 := Lib.hid e4; have G5 := Lib.hid hsame; have G6 := Lib.hid hbig; have G7 := Lib.hid hn3
      clear r1 r2 s1 s2 s3 hg e4 hE3 hT3 hT4 hsame hbig hn3
      go_upto_region 7 with (first
        | (go_at_call 21; (with_reducible show Calls _ _ _ w2 _); refine CA.out.mono ?_; rintro r w3 ⟨rfl, hb⟩; have KA := Lib.hid (KA.out.below hb); have KB := Lib.hid (KB.out.below hb); have HB3 := Lib.hid (HB2.out.trans (hb.mono HB2.out.size)); clear hb)
        | (go_at_call 21; (with_reducible show Calls _ _ _ w3 _); refine (refCheck1 _ (l2.take m2) w3 0 KB.out (by have := N2.out; omega) (by rw [HLB.out]; exact HE2.out)).mono ?_; rintro r w4 ⟨rfl, hb⟩; have KA := Lib.hid (KA.out.below hb); have KB := Lib.hid (KB.out.below hb); have HB4 := Lib.hid (HB3.out.trans (hb.mono HB3.out.size)); clear hb)
        | fail)
      have HGB := Lib.hid (below_new w4 (.cells #[.int .i64 0, .int .i64 0, .string ⟨#[120, 45, 103, 111, 110, 101]⟩, .string .empty, .slice none 0 0] 36))
      go_upto_region 8 with (first
        | (go_at_call 12; refine (moved13 _ (l2.take m2) _ (KB.out.below HGB.out) (by have := N2.out; omega) (by rw [HLB.out]; exact FB.out) (by rw [HLB.out]; exact HE2.out) (deeper 1 Lb) (by rw [HLB.out])).mono ?_; rintro r w5 ⟨u5, y5, rfl, hv5, hy5, hb⟩; have HV5 := Lib.hid hv5; have HY5 := Lib.hid hy5; have HG5 := Lib.hid ((gone_rv w4).below hb); have hq := HGB.out.trans (hb.mono HGB.out.size); have KA := Lib.hid (KA.out.below hq); have KB := Lib.hid (KB.out.below hq); have HB5 := Lib.hid (HB4.out.trans (hq.mono HB4.out.size)); clear hb hq hv5 hy5)
        | (go_at_call 28; refine (join13 _ u5 [bare gone] y5 w5 HG5.out HV5.out (by decide) (by rw [← len_ros, HY5.out, show (deeper 1 Lb).length = Lb.length from List.length_map _]; have := NB.out; omega) (few_dec (by decide +kernel)) (by rw [HY5.out]; exact few_deep FB.out) (gone :: deeper 1 Lb) (by rw [HY5.out]; rfl)).mono ?_; rintro r w6 ⟨u6, y6, rfl, hv6, hy6, hb⟩; have HV6 := Lib.hid hv6; have HY6 := Lib.hid hy6; have KA := Lib.hid (KA.out.below hb); have KB := Lib.hid (KB.out.below hb); have HB6 := Lib.hid (HB5.out.trans (hb.mono HB5.out.size)); clear hb hv6 hy6)
        | fail)
      have nG : y6.length ≤ 1000 := by
        rw [← len_ros, HY6.out, List.length_cons, show (deeper 1 Lb).length = Lb.length from List.length_map _]
        have := NB.out; omega
      have nA : (l1.take m1).length ≤ 1000 := by have := N1.out; omega
      have nB : (l2.take m2).length ≤ 1000 := by have := N2.out; omega
      have fG : Few (gone :: deeper 1 Lb) := few_app (a := [gone]) (few_dec (by decide +kernel)) (few_deep FB.out)
      have zG : Rz.Small (gone :: deeper 1 Lb) := small_app (a := [gone]) (small_dec (by decide +kernel)) (small_deep ZB.out)
      have hl3 : (La ++ gone :: deeper 1 Lb).length ≤ 1000 := by
        rw [List.length_append, List.length_cons, show (deeper 1 Lb).length = Lb.length from List.length_map _]
        have := NA.out; have := NB.out; omega
      have hl4 : (La ++ Lb).length ≤ 1000 := by rw [List.length_append]; have := NA.out; have := NB.out; omega
      have ht3 : (txt (La ++ gone :: deeper 1 Lb)).length ≤ 1000000000 := by
        rw [txt_append, show gone :: deeper 1 Lb = [gone] ++ deeper 1 Lb from rfl, txt_append, txt_deeper, List.length_append, List.length_append]
        have := TA.out; have := TB.out
        have h0 : (txt [gone]).length = 0 := by decide +kernel
        omega
      have ht4 : (txt (La ++ Lb)).length ≤ 1000000000 := by
        rw [txt_append, List.length_append]
        have := TA.out; have := TB.out; omega
      have FG := Lib.hid fG; have ZG := Lib.hid zG; have L3 := Lib.hid hl3; have L4 := Lib.hid hl4; have U3 := Lib.hid ht3; have U4 := Lib.hid ht4; have NG := Lib.hid nG; have NAx := Lib.hid nA; have NBx := Lib.hid nB
      clear fG zG hl3 hl4 ht3 ht4 nG nA nB
      go_upto_region 9 with (first
        | (go_at_call 28; refine (join13 _ u6 (l1.take m1) y6 w6 KA.out HV6.out NAx.out NG.out (by rw [HLA.out]; exact FA.out) (by rw [HY6.out]; exact FG.out) (La ++ gone :: deeper 1 Lb) (by rw [HLA.out, HY6.out])).mono ?_; rintro r w7 ⟨u7, y7, rfl, hv7, hy7, hb⟩; have HV7 := Lib.hid (hv7.below (below_new w7 (.cells #[.string ⟨#[120, 45, 103, 111, 110, 101]⟩] 9))); have HY7 := Lib.hid hy7; have KA := Lib.hid (KA.out.below hb); have KB := Lib.hid (KB.out.below hb); have HB7 := Lib.hid (HB6.out.trans (hb.mono HB6.out.size)); clear hb hv7 hy7)
        | (go_at_call 14; refine (rows_of u7 _ y7 _ cG false _ HV7.out HY7.out L3.out (small_app ZA.out ZG.out) (few_app FA.out FG.out) U3.out (conf_g (heap_alloc_new w7 _)) sm_g E3 T3 G1.out G2.out).mono ?_; rintro r w8 ⟨u8, y8, rfl, hy8, hv8, hb⟩; have hq := (below_new w7 _).trans (hb.mono (by simp)); have HV8 := Lib.hid hv8; have HY8 := Lib.hid hy8; have KA := Lib.hid (KA.out.below hq); have KB := Lib.hid (KB.out.below hq); have HB8 := Lib.hid (HB7.out.trans (hq.mono HB7.out.size)); clear hb hq hv8 hy8)
        | fail)
      go_upto_region 10 with (first
        | (go_at_call 28; refine (join13 _ _ (l1.take m1) (l2.take m2) w8 KA.out KB.out NAx.out NBx.out (by rw [HLA.out]; exact FA.out) (by rw [HLB.out]; exact FB.out) (La ++ Lb) (by rw [HLA.out, HLB.out])).mono ?_; rintro r w9 ⟨u9, y9, rfl, hv9, hy9, hb⟩; have HV9 := Lib.hid (hv9.below (below_new w9 (.cells #[.string ⟨#[120, 45, 103, 111, 110, 101]⟩] 9))); have HY9 := Lib.hid hy9; have HV8 := Lib.hid (HV8.out.below hb); have HB9 := Lib.hid (HB8.out.trans (hb.mono HB8.out.size)); clear hb hv9 hy9)
        | (go_at_call 14; refine (rows_of u9 _ y9 _ cG false _ HV9.out HY9.out L4.out (small_app ZA.out ZB.out) (few_app FA.out FB.out) U4.out (conf_g (heap_alloc_new w9 _)) sm_g 0 T4 G4.out G3.out).mono ?_; rintro r w10 ⟨u10, y10, rfl, hy10, hv10, hb⟩; have hq := (below_new w9 _).trans (hb.mono (by simp)); have HV10 := Lib.hid hv10; have HY10 := Lib.hid hy10; have HV8 := Lib.hid (HV8.out.below hq); have HB10 := Lib.hid (HB9.out.trans (hq.mono HB9.out.size)); clear hb hq hv10 hy10)
        | fail)
      by_cases h3 : E3 = 0
      · have h3b : (E3 == 0) = true := by rw [h3]; rfl
        have H3 := Lib.hid h3
        have hE : ros y8 = ros y10 := by rw [HY8.out, HY10.out, G5.out h3]
        have n8 : y8.length ≤ 1000000 := by rw [← len_ros, HY8.out]; have := G7.out h3; omega
        have n10 : y10.length ≤ 1000000 := by rw [← len_ros, ← hE, len_ros]; exact n8
        have HE := Lib.hid hE; have N8 := Lib.hid n8; have N10 := Lib.hid n10
        clear hE n8 n10 h3
        go_wp2_with (first
          | (go_at_call 15; refine (refSame1 u8 u10 y8 y10 w10 true HV8.out HV10.out N8.out N10.out (decide_eq_true HE.out)).mono ?_; rintro r w11 ⟨rfl, hb⟩; have HB11 := Lib.hid (HB10.out.trans (hb.mono HB10.out.size)); clear hb)
          | (go_at_call 19; refine (Co.on_base (fixed13 w11) HB11.out).mono ?_; rintro r z4 ⟨rfl, hb⟩; have HZ4 := Lib.hid hb; clear hb)
          | fail)
        go_ret
        exact ⟨rfl, HZ4.out⟩
      · have h32 := G6.out h3
        subst h32
        clear h3
        go_wp2_with (first
          | (go_at_call 19; refine (Co.on_base (fixed13 w10) HB10.out).mono ?_; rintro r z4 ⟨rfl, hb⟩; have HZ4 := Lib.hid hb; clear hb)
          | fail)
        go_ret
        exact ⟨rfl, HZ4.out⟩
    · have h2b : (E2 == 0) = false := by simpa using h2
      go_wp2_with (first
        | (go_at_call 21; (with_reducible show Calls _ _ _ w2 _); refine CA.out.mono ?_; rintro r w3 ⟨rfl, hb⟩; have KB := Lib.hid (KB.out.below hb); have HB3 := Lib.hid (HB2.out.trans (hb.mono HB2.out.size)); clear hb)
        | (go_at_call 21; (with_reducible show Calls _ _ _ w3 _); refine (refCheck1 _ (l2.take m2) w3 E2 KB.out (by have := N2.out; omega) (by rw [HLB.out]; exact HE2.out)).mono ?_; rintro r w4 ⟨rfl, hb⟩; have HB4 := Lib.hid (HB3.out.trans (hb.mono HB3.out.size)); clear hb)
        | (go_at_call 19; refine (Co.on_base (fixed13 w4) HB4.out).mono ?_; rintro r z4 ⟨rfl, hb⟩; have HZ4 := Lib.hid hb; clear hb)
        | fail)
      go_ret
      exact ⟨rfl, HZ4.out⟩
  · have h1b : (E1 == 0) = false := by simpa using h1
    go_wp2_with (first
      | (go_at_call 21; refine CA.out.mono ?_; rintro r w3 ⟨rfl, hb⟩; have HB3 := Lib.hid (HB2.out.trans (hb.mono HB2.out.size)); clear hb)
      | (go_at_call 19; refine (Co.on_base (fixed13 w3) HB3.out).mono ?_; rintro r z4 ⟨rfl, hb⟩; have HZ4 := Lib.hid hb; clear hb)
      | fail)
    go_ret
    exact ⟨rfl, HZ4.out⟩

end Go.Proofs.Ytdjkeakagmgfgaa.Cn
