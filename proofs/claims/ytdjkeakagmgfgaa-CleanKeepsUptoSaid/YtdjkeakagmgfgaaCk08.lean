/-
  Stage 13: what the laws have in common: rows and a configuration bounded.
  Stage 13: CleanKeeps.
  Stage 4: what rows hold in text is no more than the reading's bulk.
-/
import Derived.Test.YtdjkeakagmgfgaaCk07
import Derived.Test.YtdjkeakagmgfgaaCk06
import Derived.Deep.CutRange
import Derived.Test.YtdjkeakagmgfgaaCk02
namespace Go.Proofs.Ytdjkeakagmgfgaa.Cn
set_option maxRecDepth 100000
set_option linter.unusedVariables false
set_option linter.unusedSimpArgs false
open Go.RowKit Ba Ro
open Co (Cf Cv Sm confV confO attrB12 elementN checkN bel_eq12 Hb noStr)
theorem ra_boxed {w w' : World} {b N : Nat} {cs : Array Value} {A : Option Addr} {l : List At} (h : Ra w N A l) (hb : Hb w b cs) (hn : noStr cs) (hg : w.grownBy w' (some b)) (hN : N ≤ w.heap.size) : Ra w' N A l := fun h0 => by
  obtain ⟨b', off, e, hb', hc⟩ := h h0
  have hne : b' ≠ b := by
    rintro rfl
    have := hc 0 h0 0 (.string l[0].name) rfl
    rw [cell_of_row w b' _ _ _ _ hb] at this
    exact hn _ _ this
  exact ⟨b', off, e, hb', fun j hj => range_keep (hc j hj) fun o => World.cell?_of_block (a := ⟨b', o, none⟩) (hg.block b' (by omega) (by simpa using hne))⟩
theorem rv_boxed {w w' : World} {b : Nat} {cs : Array Value} {v : Value} {l : List Cw} (h : Rv w v l) (hb : Hb w b cs) (hn : noStr cs) (hg : w.grownBy w' (some b)) : Rv w' v l := by
  obtain ⟨A, c, e, h1, h2, h3, h4⟩ := h
  refine ⟨A, c, e, h1, h2, (show Rr w' w.heap.size A l from ⟨fun h0 => ?_, fun x hx => ?_⟩).more hg.size, h4⟩
  · obtain ⟨b', off, eA, hb', hc⟩ := h3.1 h0
    have hne : b' ≠ b := by
      rintro rfl
      have := hc 0 h0 2 (.string l[0].ro.name) rfl
      rw [cell_of_row w b' _ _ _ _ hb] at this
      exact hn _ _ this
    exact ⟨b', off, eA, hb', fun j hj => range_keep (hc j hj) fun o => World.cell?_of_block (a := ⟨b', o, none⟩) (hg.block b' (by omega) (by simpa using hne))⟩
  · obtain ⟨a1, a2, a3, a4, a5⟩ := h3.2 x hx
    exact ⟨a1, a2, a3, ra_boxed a4 hb hn hg (Nat.le_refl _), a5⟩
theorem rv_shape {w : World} {v : Value} {l : List Cw} (h : Rv w v l) : ∃ A c, v = .slice A l.length c := by
  obtain ⟨A, c, e, _⟩ := h
  exact ⟨A, c, e⟩
theorem txt_boundR (l : List Ro) : (txt (boundR l)).length ≤ (txt l).length := by
  have e : ∀ m : List Ro, txt (m.map fun x => { x with attrs := x.attrs.take 8 }) = txt m := by
    intro m
    induction m with
    | nil => rfl
    | cons x r ih => rw [List.map_cons, txt, txt, ih]
  rw [boundR, e]
  exact txt_take l 40
/-- Rows as the laws have them. -/
structure Lw (L : List Ro) : Prop where
  n : L.length ≤ 40
  z : Rz.Small L
  f : Few L
  t : (txt L).length ≤ 1000000000
theorem Lw.clean {c : Cf} {s : Bool} {L : List Ro} (h : Lw L) (hr : right L = true) : Lw (cleanL c s L) :=
  ⟨Nat.le_trans (clean_len c s hr) h.n, small_clean hr h.z h.t, few_clean hr h.f, Nat.le_trans (clean_txt_le c s hr) h.t⟩
theorem bound13 (v : Value) (l : List Cw) (w : World) (h : Rv w v l) (hz : Rz.Small (ros l)) (ht : (txt (ros l)).length ≤ 1000000000) :
    Calls Try.prog 10 #[v] w fun e w' => ∃ v' l', e = .returned v' ∧ Rv w' v' l' ∧ ros l' = boundR (ros l) ∧ Lw (ros l') ∧ Below w.heap.size w w' := by
  obtain ⟨A, c, rfl, hlc, hcm, hr, hh⟩ := h
  refine (boundR_any A c l w hr hlc hcm).mono ?_
  rintro e w' ⟨v', l', he, ho, ha, hl, hb⟩
  refine ⟨v', l', he, ho.rv (by rw [hl]; exact held_bound hh), hl, ?_, hb⟩
  rw [hl]
  exact ⟨len_bound40 _, small_bound hz, fun x hx => Nat.le_trans (attrs_bound8 x hx) (by omega), Nat.le_trans (txt_boundR _) ht⟩
/-- Rows, as they are asked for in the laws. -/
theorem rowsL (u v : Value) (l : List Cw) (L : List Ro) (c : Cf) (s : Bool) (w w0 : World) (hl : Rv w u l) (hL : ros l = L) (hw : Lw L) (hc : Cv w w.heap.size v c) (hs : Sm c) (E : Int) (q : List Ro) (hE : errI c L = E) (hq : outL c s L = q) (hb : Below w0.heap.size w0 w) :
    Calls Try.prog 14 #[u, v, .bool s] w fun r w' => ∃ A k y, r = .returned (.tuple #[.slice A (List.length y) k, .int .i64 E]) ∧ ros y = q ∧ Rv w' (.slice A (List.length y) k) y ∧ Below w0.heap.size w0 w' ∧ Below w.heap.size w w' := by
  subst hL
  refine (rows13 u v l c s w hl (by rw [← len_ros]; have := hw.n; omega) hw.z hw.f hw.t hc hs E q hE hq).mono ?_
  rintro r w' ⟨V, y, h1, h2, h3, h4, h5⟩
  obtain ⟨A, k, rfl⟩ := rv_shape h4
  exact ⟨A, k, y, h1, h3, h4, hb.trans (h5.mono hb.size), h5⟩
theorem out_ok {c : Cf} {s : Bool} {L : List Ro} (h : errI c L = 0) : outL c s L = cleanL c s L := by unfold outL; rw [if_pos h]
theorem ros_nil {y : List Cw} (h : ros y = []) : y = [] := List.map_eq_nil_iff.1 h

end Go.Proofs.Ytdjkeakagmgfgaa.Cn

namespace Go.Proofs.Ytdjkeakagmgfgaa.Cn
set_option maxRecDepth 100000
set_option linter.unusedVariables false
set_option linter.unusedSimpArgs false
open Go.RowKit Ba Ro
open Co (Cf Cv Sm confV confO attrB12 elementN checkN bel_eq12 Hb noStr noStr8 allC)
open Rk (safeB)
/-- The elements' names. -/
def namesE (l : List Ro) : List ByteArray := (l.filter fun x => x.kind == 0).map Ro.name
def repC (l : List Ro) : Cf := ⟨false, false, [], namesE l, [], [], false, false⟩
theorem names_snoc (l : List Ro) (x : Ro) : namesE (l ++ [x]) = namesE l ++ if x.kind == 0 then [x.name] else [] := by
  unfold namesE
  rw [List.filter_append, List.map_append]
  congr 1
  cases h : x.kind == 0 <;> simp [h]
theorem names_len (l : List Ro) : (namesE l).length ≤ l.length := by
  unfold namesE
  rw [List.length_map]
  exact List.length_filter_le _ _
theorem names_in {l : List Ro} {x : Ro} (h : x ∈ l) (hk : x.kind = 0) : x.name ∈ namesE l := List.mem_map.2 ⟨x, List.mem_filter.2 ⟨h, by rw [hk]; rfl⟩, rfl⟩
theorem names_of {l : List Ro} {s : ByteArray} (h : s ∈ namesE l) : ∃ x ∈ l, x.name = s := by
  obtain ⟨x, hx, e⟩ := List.mem_map.1 h
  exact ⟨x, (List.mem_filter.1 hx).1, e⟩
theorem kept_all {l : List Ro} (h : right l = true) : keptL allC false l = l := by
  unfold keptL
  refine K_id (fo_right h) fun x hx => ⟨?_, ?_⟩
  · unfold fateN
    split
    · rfl
    · split
      · rfl
      · rw [Bool.false_and, if_neg (by decide)]; rfl
  · unfold attrsF attrsL
    rw [List.filter_eq_self]
    intro a _
    unfold keepB
    rw [all_attr]
    rfl
theorem clean_all {l : List Ro} (h : right l = true) : cleanL allC false l = normal l := by unfold cleanL; rw [kept_all h]
end Go.Proofs.Ytdjkeakagmgfgaa.Cn
namespace Go.Proofs.Ytdjkeakagmgfgaa.Co
set_option maxRecDepth 100000
open Go.RowKit Ba Fm Fo Nm
theorem len_flat13 {α β : Type} (f : α → List β) (m : Nat) : ∀ (l : List α), (∀ x ∈ l, (f x).length ≤ m) → (l.flatMap f).length ≤ l.length * m
  | [], _ => by simp
  | x :: r, h => by
    have h1 := len_flat13 f m r fun y hy => h y (List.mem_cons_of_mem _ hy)
    have h2 := h x (List.mem_cons_self ..)
    rw [List.flatMap_cons, List.length_append, List.length_cons, Nat.succ_mul]
    omega
theorem len_canon13 {per : List Pe} (h : per.length ≤ 12) : (canonPer per).length ≤ 1000 := by
  have h1 : (srt lt (per.map Pe.el)).length ≤ 12 := Nat.le_trans (len_srt _ _) (by rw [List.length_map]; exact h)
  have h2 : (canonPer per).length ≤ (srt lt (per.map Pe.el)).length * 12 := len_flat13 _ 12 _ fun e _ => Nat.le_trans (List.length_filter_le _ _) (by rw [List.length_map]; exact h)
  have h3 := Nat.mul_le_mul_right 12 h1
  omega
theorem sm_canon13 {c : Cf} (h : Sm c) (hp : c.per.length ≤ 12) : Sm (canonC c) :=
  ⟨Nat.le_trans (len_srt _ _) h.e, Nat.le_trans (len_srt _ _) h.r, Nat.le_trans (len_srt _ _) h.a, len_canon13 hp, fun p hp => by
    obtain ⟨q, hq, _, rfl⟩ := mem_canon.1 hp
    exact Nat.le_trans (len_srt _ _) (h.pa q hq), fun s hs => h.es s (mem_srt.1 hs), fun s hs => h.rs s (mem_srt.1 hs), fun s hs => h.as_ s (mem_srt.1 hs), fun p hp => by
    obtain ⟨q, hq, _, rfl⟩ := mem_canon.1 hp
    exact ⟨(h.ps q hq).1, fun s hs => (h.ps q hq).2 s (mem_srt.1 hs)⟩⟩
end Go.Proofs.Ytdjkeakagmgfgaa.Co
namespace Go.Proofs.Ytdjkeakagmgfgaa.Cn
set_option maxRecDepth 100000
set_option linter.unusedVariables false
set_option linter.unusedSimpArgs false
open Go.RowKit Ba Ro
open Co (Cf Cv Sm confV confO attrB12 elementN checkN bel_eq12 Hb noStr noStr8 allC)
open Rk (safeB)
theorem sm_rep13 {l : List Ro} (h : Lw l) : Sm (repC l) := by
  have hn : (namesE l).length ≤ 40 := Nat.le_trans (names_len l) h.n
  exact ⟨Nat.zero_le _, (show (namesE l).length ≤ 1000 by omega), Nat.zero_le _, Nat.zero_le _, (fun p hp => by cases hp), (fun s hs => by cases hs), (fun s hs => by obtain ⟨x, hx, rfl⟩ := names_of hs; exact (h.z x hx).1), (fun s hs => by cases hs), (fun p hp => by cases hp)⟩
theorem rep_el {l : List Ro} {x : Ro} (h : x ∈ l) (hk : x.kind = 0) : elementN (Co.canonC (repC l)) x.name = 2 := by
  rw [Co.canon_el]
  unfold elementN
  rw [if_pos (show Fm.isIn x.name (repC l).reps = true from Co.isIn_iff.2 (names_in h hk))]
theorem txt_top' (l : List Ro) : textAt l (-1) = txt l := by unfold textAt; rw [if_pos rfl]
theorem text_row (w : World) (q : ByteArray) : Rv (w.alloc (.cells #[.int .i64 0, .int .i64 1, .string .empty, .string q, .slice none 0 0] 36)) (.slice (some ⟨w.heap.size, 0, none⟩) 1 1) [bare ⟨0, 1, .empty, q, []⟩] :=
  (rows_new w [bare ⟨0, 1, .empty, q, []⟩] _ 1 rfl (by decide) rfl (fun x hx => ⟨_, List.mem_singleton.1 hx, rfl⟩)).rv (fun x hx => by
    have := List.mem_singleton.1 hx
    subst this
    show (-9223372036854775808 : Int) ≤ 0 ∧ (0 : Int) ≤ 9223372036854775807
    omega)
set_option maxRecDepth 100000 in
set_option maxHeartbeats 16000000 in
theorem law13_keeps (vl : Value) (ll : List Cw) (w : World) (hv : Rv w vl ll) (hz : Rz.Small (ros ll)) (ht : (txt (ros ll)).length ≤ 1000000000) :
    Calls Try.prog 6 #[vl] w fun r w' => r = .returned (.bool true) ∧ Below w.heap.size w w' := by
  have HBN := Lib.hid (bound13 vl ll w hv hz ht)
  clear hv hz ht
  go_enter Try.func6, Try.ntmps6
  go_upto_region 2 with (first
    | (go_at_call 10; refine HBN.out.mono ?_; rintro r w1 ⟨v1, l1, rfl, hv1, -, hw1, hb1⟩; have HV1 := Lib.hid hv1; have HLW := Lib.hid hw1; have HB1 := Lib.hid hb1; clear hv1 hw1 hb1)
    | fail)
  obtain ⟨L, hL⟩ : ∃ L, ros l1 = L := ⟨_, rfl⟩
  have hlw := HLW.out
  rw [hL] at hlw
  have HLW := Lib.hid hlw
  have HLL := Lib.hid hL
  have hn1 : l1.length ≤ 40 := by rw [← len_ros, hL]; exact hlw.n
  obtain ⟨E, hE⟩ : ∃ E, check L = E := ⟨_, rfl⟩
  have HE := Lib.hid hE
  clear hL hlw hE
  have CK := Lib.hid (refCheck1 _ l1 w1 E HV1.out (by omega) (by rw [HLL.out]; exact HE.out))
  by_cases h0 : E = 0
  · subst h0
    have hrt := (check_parts HE.out).2
    obtain ⟨N, hN⟩ : ∃ N, normal L = N := ⟨_, rfl⟩
    have hcl : cleanL allC false L = N := by rw [clean_all hrt, hN]
    have hck : check N = 0 := by rw [← hcl]; exact clean_check allC false HE.out
    have hrn := (check_parts hck).2
    have hnr : Nrm N := by rw [← hcl]; exact clean_nrm allC false hrt
    have hlN : Lw N := by rw [← hcl]; exact HLW.out.clean hrt
    have hall : checkN allC = 0 := by decide +kernel
    have hea : errI allC N = 0 := err_ok.2 ⟨hall, hck⟩
    have hoa : outL allC false N = N := by rw [out_ok hea, all_stays hrn hnr]
    obtain ⟨Tb, hTb⟩ : ∃ T, outL allC true N = T := ⟨_, rfl⟩
    obtain ⟨q, hq⟩ : ∃ q, safeB N = q := ⟨_, rfl⟩
    have hsb : decide (Tb = N) = q := by rw [← hTb, out_ok hea, ← hq]; exact safe_stays hrn hnr
    have hlT : Tb.length ≤ 40 := by rw [← hTb, out_ok hea]; exact (hlN.clean hrn).n
    obtain ⟨D, hD⟩ : ∃ D, Co.canonC (repC N) = D := ⟨_, rfl⟩
    obtain ⟨G, hG⟩ : ∃ G, errI D N = G := ⟨_, rfl⟩
    obtain ⟨T, hT⟩ : ∃ T, outL D false N = T := ⟨_, rfl⟩
    have htx : G = 0 → T = if txt N = [] then [] else [⟨0, 1, .empty, B (txt N), []⟩] := fun h => by
      rw [← hT, out_ok (hG.trans h)]
      refine text_left hrn ?_ fun x hx hk => ?_
      · rw [← hD]; rfl
      · rw [← hD]; exact rep_el hx hk
    have hsr := sm_rep13 hlN
    have hsd : Sm D := by rw [← hD]; exact Co.sm_canon13 hsr (Nat.zero_le _)
    have HN := Lib.hid hN; have HRT := Lib.hid hrt; have HCKN := Lib.hid hck; have HLN := Lib.hid hlN; have HEA := Lib.hid hea; have HOA := Lib.hid hoa; have HTB := Lib.hid hTb; have HQ := Lib.hid hq; have HSB := Lib.hid hsb; have HLT := Lib.hid hlT; have HD := Lib.hid hD; have HG := Lib.hid hG; have HT := Lib.hid hT; have HTX := Lib.hid htx; have HSR := Lib.hid hsr; have HSD := Lib.hid hsd
    clear hrt hN hcl hck hrn hnr hlN hall hea hoa hTb hq hsb hlT hD hG hT htx hsr hsd
    go_upto_region 5 with (first
      | (go_at_call 21; refine CK.out.mono ?_; rintro r w2 ⟨rfl, hb⟩; have HV1 := Lib.hid (HV1.out.below hb); have HB2 := Lib.hid (HB1.out.trans (hb.mono HB1.out.size)); clear hb)
      | (go_at_call 23; refine (refNormal1 v1 l1 w2 N HV1.out (by omega) (by rw [HLL.out]; exact HLW.out.f) (by rw [HLL.out]; exact HLW.out.t) (by rw [HLL.out]; exact HRT.out) (by rw [HLL.out]; exact HN.out) (held_check HCKN.out)).mono ?_; rintro r w3 ⟨u3, y3, rfl, hy3, hv3, hb⟩; have HV3 := Lib.hid hv3; have HY3 := Lib.hid hy3; have HB3 := Lib.hid (HB2.out.trans (hb.mono HB2.out.size)); clear hb hv3 hy3)
      | fail)
    have W0 := w3
    have hn3 : y3.length ≤ 40 := by have h := HLN.out.n; rw [← HY3.out, len_ros] at h; exact h
    obtain ⟨A3, k3, rfl⟩ := rv_shape HV3.out
    go_upto_region 7 with (first
      | (go_at_call 22; refine (Co.all1 _).mono ?_; rintro r b5 ⟨vA5, rfl, ho, hb⟩; have HO5 := Lib.hid ho.cv; have HB5 := Lib.hid (HB3.out.trans (hb.mono HB3.out.size)); have HV3 := Lib.hid (HV3.out.below hb); clear ho hb)
      | (go_at_call 14; (with_reducible show Calls _ _ _ b5 _); refine (rowsL _ vA5 y3 N allC false b5 w HV3.out HY3.out HLN.out HO5.out Co.sm_all _ _ HEA.out HOA.out HB5.out).mono ?_; rintro r a5 ⟨B5, j5, y5, rfl, hy5, hv5, hb5, hc5⟩; have HV3 := Lib.hid (HV3.out.below hc5); have HY5 := Lib.hid hy5; have HV5 := Lib.hid hv5; have HA5 := Lib.hid hb5; clear hy5 hv5 hb5 hc5)
      | (go_at_call 22; refine (Co.all1 _).mono ?_; rintro r b6 ⟨vA6, rfl, ho, hb⟩; have HO6 := Lib.hid ho.cv; have HB6 := Lib.hid (HA5.out.trans (hb.mono HA5.out.size)); have HV3 := Lib.hid (HV3.out.below hb); have HV5 := Lib.hid (HV5.out.below hb); clear ho hb)
      | (go_at_call 14; (with_reducible show Calls _ _ _ b6 _); refine (rowsL _ vA6 y3 N allC true b6 w HV3.out HY3.out HLN.out HO6.out Co.sm_all _ _ HEA.out HTB.out HB6.out).mono ?_; rintro r a6 ⟨B6, j6, y6, rfl, hy6, hv6, hb6, hc6⟩; have HV3 := Lib.hid (HV3.out.below hc6); have HV5 := Lib.hid (HV5.out.below hc6); have HY6 := Lib.hid hy6; have HV6 := Lib.hid hv6; have HA6 := Lib.hid hb6; clear hy6 hv6 hb6 hc6)
      | fail)
    have hn5 : y5.length ≤ 40 := by have h := HLN.out.n; rw [← HY5.out, len_ros] at h; exact h
    have hn6 : y6.length ≤ 40 := by have h := HLT.out; rw [← HY6.out, len_ros] at h; exact h
    have hqq : (q != q) = false := by simp
    go_upto_region 9 with (first
      | (go_at_call 15; (with_reducible show Calls _ _ #[.slice B5 _ _, _] _ _); refine (refSame1 _ _ y5 y3 a6 true HV5.out HV3.out (by omega) (by omega) (decide_eq_true (HY5.out.trans HY3.out.symm))).mono ?_; rintro r z1 ⟨rfl, hb⟩; have HZ1 := Lib.hid (HA6.out.trans (hb.mono HA6.out.size)); have HV3 := Lib.hid (HV3.out.below hb); have HV6 := Lib.hid (HV6.out.below hb); clear hb)
      | (go_at_call 20; refine (Rk.safe1 _ y3 z1 HV3.out (by rw [HY3.out]; exact HLN.out.z) q (by rw [HY3.out]; exact HQ.out)).mono ?_; rintro r z2 ⟨rfl, hb⟩; have HZ2 := Lib.hid (HZ1.out.trans (hb.mono HZ1.out.size)); have HV3 := Lib.hid (HV3.out.below hb); have HV6 := Lib.hid (HV6.out.below hb); clear hb)
      | (go_at_call 15; (with_reducible show Calls _ _ #[.slice B6 _ _, _] _ _); refine (refSame1 _ _ y6 y3 z2 q HV6.out HV3.out (by omega) (by omega) (by rw [HY6.out, HY3.out]; exact HSB.out)).mono ?_; rintro r z3 ⟨rfl, hb⟩; have HZ3 := Lib.hid (HZ2.out.trans (hb.mono HZ2.out.size)); have HV3 := Lib.hid (HV3.out.below hb); clear hb)
      | fail)
    go_upto_region 10 with (fail)
    obtain ⟨W9, hW9⟩ : ∃ W9, z3.alloc (.cells #[.bool false, .bool false, .slice none 0 0, .slice none 0 0, .slice none 0 0, .slice none 0 0, .bool false, .bool false] 26) = W9 := ⟨_, rfl⟩
    rw [hW9]
    have hx9 : Hb W9 z3.heap.size #[.bool false, .bool false, .slice none 0 0, .slice none 0 0, .slice none 0 0, .slice none 0 0, .bool false, .bool false] := hW9 ▸ Hb.new z3 _
    have hb9 : Below z3.heap.size z3 W9 := hW9 ▸ below_new z3 _
    have hz9 : W9.heap.size = z3.heap.size + 1 := by rw [← hW9]; simp
    obtain ⟨A', c', eA, hlc3, hmc3, hrr3, -⟩ := HV3.out
    injection eA with eA1 _ eA3
    subst eA1 eA3
    have HRR := Lib.hid hrr3; have HX9 := Lib.hid hx9; have HB9 := Lib.hid hb9; have HZ9 := Lib.hid hz9
    unfold maxLen at hmc3
    clear hW9 hx9 hb9 hz9 hrr3 hqq
    go_wp2
    go_loopw [9] (fun iv wr => ∃ (k : Nat) (u : Value), iv = .int .i64 k ∧ k ≤ y3.length ∧ Hb wr z3.heap.size #[.bool false, .bool false, .slice none 0 0, u, .slice none 0 0, .slice none 0 0, .bool false, .bool false] ∧ Ba.Sown W9.heap.size wr u (namesE (N.take k)) ∧ Below z3.heap.size z3 wr ∧ W9.heap.size ≤ wr.heap.size) (fun iv _ => y3.length - (intOf iv).toNat)
    case atStart => exact ⟨0, _, rfl, Nat.zero_le _, HX9.out, Ba.Sown.nil _ _, HB9.out, Nat.le_refl _⟩
    case round =>
      obtain ⟨k, u, rfl, hk, hx, ho, hbel, hws⟩ := hrel
      obtain ⟨Au, nu, cu, rfl⟩ := Co.own_shape ho
      by_cases hp : k < y3.length
      · obtain ⟨b, off, x, rfl, hb, hdx, hxr, -, hxm⟩ := (HRR.out.below hbel).at_ k hp
        have htk : N.take (k + 1) = N.take k ++ [x.ro] := by
          rw [← HY3.out, List.take_add_one]
          congr 1
          rw [ros, List.getElem?_map, getElem_of_drop hdx]
          rfl
        have hnm := names_snoc (N.take k) x.ro
        rw [← htk] at hnm
        obtain ⟨⟨dep, kd, nm, dt, ats⟩, A, cc⟩ := x
        simp only at hnm
        obtain ⟨f0, f1, f2, f3, f4⟩ := range5 hxr
        have hlen : (namesE (N.take k)).length ≤ 40 := Nat.le_trans (names_len _) (Nat.le_trans (List.length_take_le' _ _) HLN.out.n)
        have hz9 := HZ9.out
        have HZZ := Lib.hid hz9
        by_cases hk0 : kd = 0
        · subst hk0
          have hn2 : namesE (N.take (k + 1)) = namesE (N.take k) ++ [nm] := hnm
          have HN2 := Lib.hid hn2; have HO := Lib.hid ho; have HX := Lib.hid hx; have HBL := Lib.hid hbel
          have HLE := Lib.hid hlen
          have f2' := f2
          have HS := Lib.hid (fun wx (hb' : Below wr.heap.size wr wx) => show wx.cell? ⟨z3.heap.size, 3, none⟩ = some (.slice Au nu cu) ∧ wx.cell? ⟨b, off + k * 5 + 2, none⟩ = some (.string nm) from ⟨(HX.out.on hb').cell 3 _ rfl, (hb'.cell (p := ⟨b, off + k * 5 + 2, none⟩) (show b < wr.heap.size by omega)).trans f2'⟩)
          clear hnm hn2 ho hx hbel hlen hdx hxm htk hxr f2' f0 f2 f3 f4 hz9
          go_upto_region 14 with (fail)
          clear f1
          go_wp2_with fail
          refine wp_region_noPanic ?_
          refine Ph.T_begin (fun w' => w'.cell? ⟨z3.heap.size, 3, none⟩ = some (.slice Au nu cu) ∧ w'.cell? ⟨b, off + k * 5 + 2, none⟩ = some (.string nm)) 10 (by kernel_rfl) ?_ (fun hHeld => ?_)
          · exact HS.out _ (bel_eq12 (Below.refl _ wr) rfl rfl rfl rfl)
          refine Ph.T_pure (i := 0) (oi := _) (v := ?_) rfl (by kernel_rfl) (by kernel_rfl) (by kernel_rfl) (by kernel_rfl) (fun _ _ _ h => h) (Or.inl ⟨by rfl, ?_⟩) (by assumption) (fun hHeld => ?_)
          rotate_left
          · intro w hSw; (try dsimp only at hSw); go_simp; all_goals with_reducible rfl
          try simp only [Act.put, List.getElem_toArray, List.getElem_cons_zero, List.getElem_cons_succ, List.setIfInBounds_toArray, List.set_cons_zero, List.set_cons_succ]
          refine Ph.T_pure (i := 2) (oi := _) (v := ?_) rfl (by kernel_rfl) (by kernel_rfl) (by kernel_rfl) (by kernel_rfl) (fun _ _ _ h => h) (Or.inl ⟨by rfl, ?_⟩) (by assumption) (fun hHeld => ?_)
          rotate_left
          · intro w hSw; (try dsimp only at hSw); go_simp; all_goals with_reducible rfl
          try simp only [Act.put, List.getElem_toArray, List.getElem_cons_zero, List.getElem_cons_succ, List.setIfInBounds_toArray, List.set_cons_zero, List.set_cons_succ]
          refine Ph.T_pure (i := 3) (oi := _) (v := ?_) rfl (by kernel_rfl) (by kernel_rfl) (by kernel_rfl) (by kernel_rfl) (fun _ _ _ h => h) (Or.inl ⟨by rfl, ?_⟩) (by assumption) (fun hHeld => ?_)
          rotate_left
          · intro w hSw; (try dsimp only at hSw); go_simp; all_goals with_reducible rfl
          try simp only [Act.put, List.getElem_toArray, List.getElem_cons_zero, List.getElem_cons_succ, List.setIfInBounds_toArray, List.set_cons_zero, List.set_cons_succ]
          refine Ph.T_take (i := 1) (oi := _) (v := ?_) rfl (by kernel_rfl) (by kernel_rfl) (by kernel_rfl) (by kernel_rfl) (fun _ _ _ h => h) (Or.inl ⟨by rfl, ?_⟩) (by assumption) (fun hHeld => ?_)
          rotate_left
          · intro w hSw; (try dsimp only at hSw); go_simp; all_goals with_reducible rfl
          try simp only [Act.put, List.getElem_toArray, List.getElem_cons_zero, List.getElem_cons_succ, List.setIfInBounds_toArray, List.set_cons_zero, List.set_cons_succ]
          refine Ph.T_pure (i := 4) (oi := _) (v := ?_) rfl (by kernel_rfl) (by kernel_rfl) (by kernel_rfl) (by kernel_rfl) (fun _ _ _ h => h) (Or.inl ⟨by rfl, ?_⟩) (by assumption) (fun hHeld => ?_)
          rotate_left
          · intro w hSw; (try dsimp only at hSw); go_simp; all_goals with_reducible rfl
          try simp only [Act.put, List.getElem_toArray, List.getElem_cons_zero, List.getElem_cons_succ, List.setIfInBounds_toArray, List.set_cons_zero, List.set_cons_succ]
          refine Ph.T_pure (i := 5) (oi := _) (v := ?_) rfl (by kernel_rfl) (by kernel_rfl) (by kernel_rfl) (by kernel_rfl) (fun _ _ _ h => h) (Or.inl ⟨by rfl, ?_⟩) (by assumption) (fun hHeld => ?_)
          rotate_left
          · intro w hSw; (try dsimp only at hSw); go_simp; all_goals with_reducible rfl
          try simp only [Act.put, List.getElem_toArray, List.getElem_cons_zero, List.getElem_cons_succ, List.setIfInBounds_toArray, List.set_cons_zero, List.set_cons_succ]
          refine Ph.T_take (i := 6) (oi := _) (v := ?_) rfl (by kernel_rfl) (by kernel_rfl) (by kernel_rfl) (by kernel_rfl) (fun _ _ _ h => h) (Or.inl ⟨by rfl, ?_⟩) (by assumption) (fun hHeld => ?_)
          rotate_left
          · intro w hSw; (try dsimp only at hSw); go_simp; all_goals with_reducible rfl
          try simp only [Act.put, List.getElem_toArray, List.getElem_cons_zero, List.getElem_cons_succ, List.setIfInBounds_toArray, List.set_cons_zero, List.set_cons_succ]
          refine Ph.T_one (i := 7) (o := _) (by kernel_rfl) rfl (fun K hK => ?_)
          go_simp
          go_wp2_with fail
          refine hK.out _ _ ?_ (fun hHeld => ?_)
          · exact HS.out _ (bel_eq12 ((Below.refl _ wr).alloc (Nat.le_refl _) (.cells #[.string nm] 9)) rfl rfl rfl rfl)
          clear hK K
          try simp only [Act.put, List.getElem_toArray, List.getElem_cons_zero, List.getElem_cons_succ, List.setIfInBounds_toArray, List.set_cons_zero, List.set_cons_succ]
          have hsw : Ba.Sown W9.heap.size (wr.drew.alloc (.cells #[.string nm] 9)) (.slice Au nu cu) (namesE (N.take k)) := Ba.Sown.below HO.out (bel_eq12 ((Below.refl _ wr).alloc (Nat.le_refl _) (.cells #[.string nm] 9)) rfl rfl rfl rfl) (Nat.le_refl _)
          have HSW := Lib.hid (hsw : (wr.drew.alloc (.cells #[.string nm] 9)).ownsRow _ _ _ _ _ _)
          refine Ph.T_one (i := 8) (o := _) (by kernel_rfl) rfl (fun K hK => ?_)
          refine Co.step_app_strs (wr.drew.alloc (.cells #[.string nm] 9)) (by rfl) (.tmp 67) (.tmp 73) (by rfl) W9.heap.size (.slice Au nu cu) (.slice (some ⟨wr.heap.size, 0, none⟩) 1 1) (namesE (N.take k)) [nm] hsw (Co.sv_lit12 (l := [nm]) (Co.heap_lit12 (X := wr) (o := (.cells #[.string nm] 9)) rfl)) (by simp; omega) (by have := HLE.out; simp; omega) (by simp [Act.eval, Act.put]) (by simp [Act.eval, Act.put]) ?_
          intro v9 w9 ho9 hg9
          obtain ⟨A9, n9, k9, rfl⟩ := Co.own_shape ho9
          have hxn := Co.hb_beside (show Hb (wr.drew.alloc (.cells #[.string nm] 9)) z3.heap.size _ from HX.out.on (bel_eq12 ((Below.refl _ wr).alloc (Nat.le_refl _) (.cells #[.string nm] 9)) rfl rfl rfl rfl)) hsw hg9
          have HXN := Lib.hid hxn; have HO9 := Lib.hid ho9; have HG9 := Lib.hid hg9
          refine hK.out _ _ ?_ (fun hHeld => ?_)
          · exact ⟨hxn.cell 3 _ rfl, (World.cell?_of_block (a := ⟨b, off + k * 5 + 2, none⟩) (hg9.block b (by simp; have := HBL.out.size; omega) (fun e => by have := (World.ownsRow.lt hsw _ e.symm).1; have := HZZ.out; omega))).trans (HS.out _ (bel_eq12 ((Below.refl _ wr).alloc (Nat.le_refl _) (.cells #[.string nm] 9)) rfl rfl rfl rfl)).2⟩
          clear hK K
          try simp only [Act.put, List.getElem_toArray, List.getElem_cons_zero, List.getElem_cons_succ, List.setIfInBounds_toArray, List.set_cons_zero, List.set_cons_succ]
          have t3 := hxn.cell 3 _ rfl
          have g3 := hxn.f 3
          clear hxn hsw ho9 hg9
          refine Ph.T_pure (i := 9) (oi := _) (v := ?_) rfl (by kernel_rfl) (by kernel_rfl) (by kernel_rfl) (by kernel_rfl) (fun _ _ _ h => h) (Or.inl ⟨by rfl, ?_⟩) (by assumption) (fun hHeld => ?_)
          rotate_left
          · intro w hSw; (try dsimp only at hSw); go_simp; all_goals with_reducible rfl
          try simp only [Act.put, List.getElem_toArray, List.getElem_cons_zero, List.getElem_cons_succ, List.setIfInBounds_toArray, List.set_cons_zero, List.set_cons_succ]
          refine Ph.T_last (i := 10) (o := _) (by kernel_rfl) (by kernel_rfl) rfl (fun K hK => ?_)
          go_simp
          go_wp2_with fail
          refine hK.out _ _ ?_
          clear hK K
          try simp only [Act.put, List.getElem_toArray, List.getElem_cons_zero, List.getElem_cons_succ, List.setIfInBounds_toArray, List.set_cons_zero, List.set_cons_succ]
          refine Ph.T_done (by kernel_rfl) ?_ _
          refine NoPanic.normal ?_
          go_wp2
          go_roundw
          case rel =>
            have hbb : Below z3.heap.size z3 w9 := (HBL.out.trans ((bel_eq12 ((Below.refl _ wr).alloc (Nat.le_refl _) (.cells #[.string nm] 9)) rfl rfl rfl rfl : Below wr.heap.size wr (wr.drew.alloc (.cells #[.string nm] 9))).mono HBL.out.size)).grown HG9.out (by simp; have := HBL.out.size; omega) (fun q hq => by have := (World.ownsRow.lt HSW.out q hq).1; have := HZZ.out; omega)
            refine ⟨k + 1, _, by go_num, by omega, HXN.out.set 3 (.slice A9 n9 k9), by rw [HN2.out]; exact Co.own_boxed HO9.out HXN.out (Co.gcell12 w9 _ 3 _), hbb.setCell (Nat.le_refl _) _, ?_⟩
            have h1 := HG9.out.size
            simp [World.setCell] at h1 ⊢
            omega
          case measure => simp [intOf]; omega
        · have hkb : (kd == 0) = false := by simpa using hk0
          have hn2 : namesE (N.take (k + 1)) = namesE (N.take k) := by rw [hnm, if_neg (by simpa using hk0), List.append_nil]
          have HN2 := Lib.hid hn2; have HO := Lib.hid ho; have HX := Lib.hid hx; have HBL := Lib.hid hbel
          clear hnm hn2 ho hx hbel hlen hdx hxm htk hxr hk0
          go_wp2
          go_roundw
          case rel => exact ⟨k + 1, _, by go_num, by omega, HX.out, by rw [HN2.out]; exact HO.out, HBL.out, hws⟩
          case measure => simp [intOf]; omega
      · have htN : N.take k = N := List.take_of_length_le (by have := congrArg List.length HY3.out; rw [len_ros] at this; omega)
        rw [htN] at ho
        have HO := Lib.hid ho; have HX := Lib.hid hx; have HBL := Lib.hid hbel; have HR := Lib.hid hx.range
        have CN := Lib.hid (Co.canon1 (.agg #[.bool false, .bool false, .slice none 0 0, .slice Au nu cu, .slice none 0 0, .slice none 0 0, .bool false, .bool false]) (repC N) wr ⟨_, _, _, _, [], rfl, ⟨Co.sv_nil12 _ _, Fo.sv_own ho, Co.sv_nil12 _ _, ⟨none, 0, rfl, Nat.le_refl _, fun _ => rfl, Co.Pr.nil _ _ _⟩, rfl⟩⟩ HSR.out)
        rw [HD.out] at CN
        clear ho hx hbel htN
        go_upto_region 16 with (first
          | (show wpList _ _ _ (⟨_, Op.load 26 (.tmp 8), _, _, _, _⟩ :: _) _ _; refine wpList_load_mid rfl 26 (.tmp 8) rfl z3.heap.size 0 rfl _ _ HR.out Try.underlying26 rfl Co.size_conf ?_)
          | (go_at_call 24; refine CN.out.mono ?_; rintro r w15 ⟨v15, rfl, ⟨vE, vR, vA, vP, pl, rfl, h12⟩, hb15⟩; obtain ⟨B1, m1, j1, rfl⟩ := Co.own_shape h12.e; obtain ⟨B2, m2, j2, rfl⟩ := Co.own_shape h12.r; obtain ⟨B3, m3, j3, rfl⟩ := Co.own_shape h12.a; obtain ⟨B4, m4, j4, rfl⟩ := Co.po_shape h12.p; have hx15 := HX.out.on hb15; have HTH := Lib.hid (hx15.there 8 rfl); have HX15 := Lib.hid hx15; have H12 := Lib.hid h12.cp; have HB15 := Lib.hid (HBL.out.trans (hb15.mono HBL.out.size)); clear hx15 h12 hb15)
          | (show wpList _ _ _ (⟨none, Op.store 26 (.tmp 8) (.tmp 77), _, _, _, _⟩ :: _) _ _; refine wpList_store_mid rfl 26 (.tmp 8) (.tmp 77) rfl z3.heap.size 0 #[.bool D.allow, .bool D.attrsAllow, .slice B1 m1 j1, .slice B2 m2 j2, .slice B3 m3 j3, .slice B4 m4 j4, .bool D.comments, .bool D.dataAttrs] rfl rfl HTH.out Co.size_conf (by simp [Value.oneCell']) ?_)
          | fail)
        obtain ⟨W16, hW16, hg16, hh16⟩ := Co.res_hb HX15.out rfl (.bool D.allow) (.bool D.attrsAllow) (.slice B1 m1 j1) (.slice B2 m2 j2) (.slice B3 m3 j3) (.slice B4 m4 j4) (.bool D.comments) (.bool D.dataAttrs)
        rw [← hW16]
        have hnS := noStr8 false false false false none Au none none 0 nu 0 0 0 cu 0 0
        have hcW := Co.cp_boxed H12.out HX15.out hnS hg16
        have hvW := rv_boxed (HV3.out.below HB15.out) HX15.out hnS hg16
        have hbW : Below w.heap.size w W16 := (HZ3.out.trans (HB15.out.mono HZ3.out.size)).grown hg16 (by have := HZ3.out.size; have := HB15.out.size; omega) (fun q hq => by injection hq with hq; have := HZ3.out.size; omega)
        have HVW := Lib.hid hvW; have HBW := Lib.hid hbW; have HXW := Lib.hid hh16.range
        have HCW := Lib.hid (show Cv W16 W16.heap.size (confV D (.slice B1 m1 j1) (.slice B2 m2 j2) (.slice B3 m3 j3) (.slice B4 m4 j4)) D from ⟨_, _, _, _, _, rfl, hcW⟩)
        have HRO := Lib.hid (rowsL _ _ y3 N D false W16 w HVW.out HY3.out HLN.out HCW.out HSD.out G T HG.out HT.out HBW.out)
        obtain ⟨qs, hqs⟩ : ∃ q, B (txt N) = q := ⟨_, rfl⟩
        have HQS := Lib.hid hqs
        clear hW16 hg16 hh16 hnS hcW hvW hbW hqs
        go_upto_region 18 with (first
          | (show wpList _ _ _ (⟨_, Op.load 26 (.tmp 8), _, _, _, _⟩ :: _) _ _; refine wpList_load_mid rfl 26 (.tmp 8) rfl z3.heap.size 0 rfl _ _ HXW.out Try.underlying26 rfl Co.size_conf ?_)
          | (go_at_call 14; refine HRO.out.mono ?_; rintro r a7 ⟨B7, j7, y7, rfl, hy7, hv7, hb7, hc7⟩; have HY7 := Lib.hid hy7; have HV7 := Lib.hid hv7; have HA7 := Lib.hid hb7; have HV3 := Lib.hid (HVW.out.below hc7); clear hy7 hv7 hb7 hc7)
          | (go_at_call 25; refine (refText1 _ y3 (-1) a7 qs HV3.out (by omega) (by rw [HY3.out]; exact HLN.out.t) (by rw [HY3.out, txt_top']; exact HQS.out)).mono ?_; rintro r a8 ⟨rfl, hb⟩; have HA8 := Lib.hid (HA7.out.trans (hb.mono HA7.out.size)); have HV7 := Lib.hid (HV7.out.below hb); clear hb)
          | fail)
        by_cases hg0 : G = 0
        · subst hg0
          have hTx := HTX.out rfl
          by_cases he : txt N = []
          · rw [if_pos he] at hTx
            have hqe : (qs.toList == []) = true := by rw [← HQS.out, toList_B, he]; rfl
            have hy0 := ros_nil (HY7.out.trans hTx)
            subst hy0
            have hl0 : (([] : List Cw).length : Int) = 0 := rfl
            clear hTx he
            go_wp2_with (first
              | (go_at_call 19; refine (Co.on_base (fixed13 a8) HA8.out).mono ?_; rintro r z4 ⟨rfl, hb⟩; have HZ4 := Lib.hid hb; clear hb)
              | fail)
            go_ret
            exact ⟨rfl, HZ4.out⟩
          · rw [if_neg he, HQS.out] at hTx
            have hqe : (qs.toList == []) = false := by rw [← HQS.out, toList_B]; simpa using he
            have hn7 : y7.length = 1 := by rw [← len_ros, HY7.out, hTx]; rfl
            have HTS := Lib.hid (HY7.out.trans hTx); have HN7 := Lib.hid hn7
            clear hTx he hn7
            go_wp2_with (first
              | (go_at_call 15; refine (refSame1 _ _ y7 [bare ⟨0, 1, .empty, qs, []⟩] _ true (HV7.out.below (below_new a8 _)) (text_row a8 qs) (by have := HN7.out; omega) (show 1 ≤ 1000000 by omega) (decide_eq_true (HTS.out.trans (show [_] = ros [bare ⟨0, 1, .empty, qs, []⟩] from rfl)))).mono ?_; rintro r a9 ⟨rfl, hb⟩; have HA9 := Lib.hid (HA8.out.trans (((below_new a8 _).trans (hb.mono (by simp))).mono HA8.out.size)); clear hb)
              | (go_at_call 19; refine (Co.on_base (fixed13 a9) HA9.out).mono ?_; rintro r z4 ⟨rfl, hb⟩; have HZ4 := Lib.hid hb; clear hb)
              | fail)
            go_ret
            exact ⟨rfl, HZ4.out⟩
        · have hgb : (G == 0) = false := by simpa using hg0
          clear hg0
          go_wp2_with (first
            | (go_at_call 19; refine (Co.on_base (fixed13 a8) HA8.out).mono ?_; rintro r z4 ⟨rfl, hb⟩; have HZ4 := Lib.hid hb; clear hb)
            | fail)
          go_ret
          exact ⟨rfl, HZ4.out⟩
  · have h0b : (E == 0) = false := by simpa using h0
    go_wp2_with (first
      | (go_at_call 21; refine CK.out.mono ?_; rintro r w2 ⟨rfl, hb⟩; have HB2 := Lib.hid (HB1.out.trans (hb.mono HB1.out.size)); clear hb)
      | (go_at_call 19; refine (Co.on_base (fixed13 w2) HB2.out).mono ?_; rintro r z4 ⟨rfl, hb⟩; have HZ4 := Lib.hid hb; clear hb)
      | fail)
    go_ret
    exact ⟨rfl, HZ4.out⟩

end Go.Proofs.Ytdjkeakagmgfgaa.Cn

namespace Go.Proofs.Ytdjkeakagmgfgaa.Ro
set_option maxRecDepth 100000
set_option linter.unusedVariables false
set_option linter.unusedSimpArgs false
open Go.RowKit Ba Go.ChangeShapes Go.WideShapes Go.Deep
section
variable {H : Type} {enc : TypeId × Value → H} {P : Program} {w : World} {base : Nat} {spare : Nat → Bool} {held : Bool}
theorem open_rows_data {t e : TypeId} {fs : Array Field} {fuel : Nat} {cs : List Value} {x : DataW H × List MemPlace} (ht : P.underlying t = some (.slice e)) (he : P.underlying e = some (.struct fs))
    (hone : oneCellFields P fs = true) (hC : P.cellsOf e = fs.size) (h : DataW.trod enc P w base spare held fuel t cs = some x) :
    cs = [.slice none 0 0] ∨
    ∃ (a : Addr) (len cap : Nat) (D : Nat → DataW H) (sp : List (DataW H)), cs = [.slice (some a) len cap] ∧ x.1 = .slice ((List.range len).map D) sp ∧
      ∀ i, i < len → ∀ (j : Nat) (f : Field), fs[j]? = some f → ∃ (v : Value) (y : DataW H × List MemPlace) (n : Nat) (parts : List (DataW H)), w.cell? (a.add (i * fs.size + j)) = some v ∧ D i = .agg parts ∧ y.1 ∈ parts ∧ DataW.trod enc P w base spare held n f.type [v] = some y := by
  rcases open_slice ht h with ⟨h0, _⟩ | ⟨a, len, cap, m, n, D, Pl, hcs, hb, hl, hm, hmm, hx, hi⟩
  · exact .inl h0
  · refine .inr ⟨a, len, cap, D, _, hcs, by rw [hx], fun i hil j f hj => ?_⟩
    have him : i < m := by rw [hmm]; split <;> omega
    obtain ⟨cs', hc, ht'⟩ := hi i him
    rw [hC] at hc
    obtain ⟨ys, n', hn', hy, hlen, hyl, hf⟩ := DataW.trod_struct he ht'
    obtain ⟨_, hcl, hat⟩ := World.cells?_some hc
    simp only [Prod.mk.injEq] at hy
    obtain ⟨ho, hk⟩ := hone_of hone j f hj
    have hjl : j < fs.size := (Array.getElem?_eq_some_iff.1 hj).1
    have hcell := hat j hjl
    have hv : cs'[j]? = some (cs'[j]'(by omega)) := List.getElem?_eq_getElem (by omega)
    have h1 := hf j f hj
    rw [ho, hk] at h1
    have hone' : (cs'.drop j).take 1 = [cs'[j]'(by omega)] := by
      rw [List.drop_eq_getElem_cons (by omega)]
      rfl
    rw [hone'] at h1
    have hys : ys[j]? = some (ys[j]'(by omega)) := List.getElem?_eq_getElem (by omega)
    refine ⟨_, _, n', _, ?_, hy.1, List.mem_map.2 ⟨_, List.getElem_mem _, rfl⟩, h1.trans hys⟩
    rw [← Go.Deep.add_add, hcell, hv]
end

theorem txt_bulk {H : Type} (D : Nat → DataW H) : ∀ (l : List Cw) (o : Nat), (∀ i (h : i < l.length), l[i].ro.data.size ≤ Rows.uptoBulk (D (o + i))) → (txt (ros l)).length ≤ Rows.uptoBulkAll ((List.range' o l.length).map D)
  | [], o, _ => by simp [ros, txt]
  | x :: r, o, h => by
    have h0 := h 0 (by simp)
    have ih := txt_bulk D r (o + 1) fun i hi => by
      have := h (i + 1) (by simp; omega)
      rw [show o + 1 + i = o + (i + 1) by omega]
      exact this
    rw [ros_cons, txt, List.length_append, List.length_cons, List.range'_succ, List.map_cons, Rows.uptoBulkAll]
    have h1 : x.ro.data.size ≤ Rows.uptoBulk (D o) := h0
    have h2 : (if x.ro.kind = 1 then L x.ro.data else []).length ≤ x.ro.data.size := by
      split
      · rw [size_L]; exact Nat.le_refl _
      · exact Nat.zero_le _
    omega

theorem rows_bulk {H : Type} {enc : TypeId × Value → H} {w : World} {N : Nat} {v : Value} {A : Option Addr} {c : Nat} {l : List Cw} {d : DataW H} {p : List MemPlace} (hv : v = .slice A l.length c) (hr : Rr w N A l)
    (h : ∃ fuel, DataW.trod enc Try.prog w 0 (fun _ => true) true fuel 22 v.cells.toList = some (d, p)) : (txt (ros l)).length ≤ Rows.uptoBulk d := by
  obtain ⟨fuel, hf⟩ := h
  subst hv
  rcases open_rows_data Try.underlying22 Try.underlying36 (by kernel_rfl) (by kernel_rfl) hf with hcs | ⟨a, len, cap, D, sp, hcs, hx, hi⟩
  · simp [Value.cells] at hcs
    obtain ⟨_, hl, _⟩ := hcs
    have : l = [] := hl
    subst this
    simp [ros, txt]
  · simp [Value.cells] at hcs
    obtain ⟨hA, hl, _⟩ := hcs
    have hx : d = _ := hx
    rw [hx, Rows.uptoBulk]
    have := txt_bulk D l 0 fun i hil => by
      obtain ⟨b, off, e, _, hc⟩ := hr.1 (by omega)
      obtain ⟨u, y, n, parts, hcell, hD, hy, ht⟩ := hi i (by omega) 3 _ rfl
      obtain ⟨s, e1, e2, _⟩ := DataW.trod_string Try.underlying9 ht
      have hcl := hc i hil 3 (.string l[i].ro.data) rfl
      rw [hA] at e
      injection e with e
      subst e
      rw [add_plain] at hcell
      rw [show off + i * 5 + 3 = off + (i * 5 + 3) by omega] at hcl
      have huv : u = .string l[i].ro.data := Option.some.inj (hcell.symm.trans hcl)
      have hs : s = l[i].ro.data := by
        have : u = .string s := by simpa using e1
        rw [this] at huv
        injection huv
      rw [Nat.zero_add, hD, Rows.uptoBulk]
      have h3 := mem_bulk hy
      have h4 : Rows.uptoBulk y.1 = s.size + 1 := by rw [e2, Rows.uptoBulk, Array.length_toList]; rfl
      rw [hs] at h4
      omega
    rw [← List.range_eq_range', hl] at this
    omega

end Go.Proofs.Ytdjkeakagmgfgaa.Ro
