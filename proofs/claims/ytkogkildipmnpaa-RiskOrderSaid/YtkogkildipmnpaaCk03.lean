/-
  Stage 10's law RiskParts: it returns true.
  Attributes of the call's own; append of one.
  Stage 10's law RiskOrder: it returns true.
-/
import Derived.Test.YtkogkildipmnpaaCk02
import Derived.BigRegion
import Derived.Test.YtkogkildipmnpaaCk01
import Derived.OwnWalk
namespace Go.Proofs.Ytkogkildipmnpaa.Rk
set_option maxRecDepth 100000
set_option linter.unusedVariables false
set_option linter.unusedSimpArgs false
open Go.RowKit Go.Maps Ba Fm Lk Ml Fo
open Ro (At Ro Cw ros Rv Rr Att Ap Ow cells acells bare Held size_row)
theorem rr_take {w : World} {N : Nat} {A : Option Addr} {l : List Cw} (h : Rr w N A l) (n : Nat) : Rr w N A (l.take n) := by
  refine ⟨fun h0 => ?_, fun x hx => h.2 x (List.mem_of_mem_take hx)⟩
  rw [List.length_take] at h0
  obtain ⟨b, off, e, hb, hc⟩ := h.1 (by omega)
  refine ⟨b, off, e, hb, fun j hj => ?_⟩
  rw [List.length_take] at hj
  rw [List.getElem_take]
  exact hc j (by omega)
theorem small_sub {l m : List Ro} (h : Rz.Small l) (hm : ∀ x ∈ m, x ∈ l) : Rz.Small m := fun x hx => h x (hm x hx)
theorem held_sub {l m : List Ro} (h : Held l) (hm : ∀ x ∈ m, x ∈ l) : Held m := fun x hx => h x (hm x hx)
theorem mem_part {l : List Ro} {i j : Nat} : ∀ x ∈ (l.take j).drop i, x ∈ l := fun x hx => List.mem_of_mem_take (List.mem_of_mem_drop hx)
/-- Safe of a part of some rows: l[i:j]. -/
theorem safe_mid {w1 wr : World} {A : Option Addr} {c : Nat} {l : List Cw} (hr : Rr w1 w1.heap.size A l) (hb : Below w1.heap.size w1 wr) (hlc : l.length ≤ c) (hcm : c ≤ 2 ^ 63 - 1) (hs : Rz.Small (ros l)) (hh : Held (ros l)) (i j : Nat) (hij : i ≤ j) (hj : j ≤ l.length) (hi : i < c)
    (m cc : Nat) (hm : m = j - i) (hcc : cc = c - i) (q : Bool) (hq : safeB (((ros l).take j).drop i) = q) :
    Calls Try.prog 22 #[.slice (Option.map (fun x => x.add (i * 5)) A) m cc] wr fun r w' => r = .returned (.bool q) ∧ Below wr.heap.size wr w' := by
  have hp := ((hr.mid i j c hij hj hlc hi).below hb).more hb.size
  have hl : ((l.take j).drop i).length = m := by rw [List.length_drop, List.length_take]; omega
  refine safe1 _ ((l.take j).drop i) wr ⟨_, cc, by rw [hl], by omega, by unfold maxLen; omega, hp, ?_⟩ ?_ q ?_
  · rw [Ro.ros_part]
    exact held_sub hh mem_part
  · rw [Ro.ros_part]
    exact small_sub hs mem_part
  · rw [Ro.ros_part]
    exact hq
theorem safe_mid_some {w1 wr : World} {b off : Nat} {c : Nat} {l : List Cw} (hr : Rr w1 w1.heap.size (some ⟨b, off, none⟩) l) (hb : Below w1.heap.size w1 wr) (hlc : l.length ≤ c) (hcm : c ≤ 2 ^ 63 - 1) (hs : Rz.Small (ros l)) (hh : Held (ros l)) (i j : Nat) (hij : i ≤ j) (hj : j ≤ l.length) (hi : i < c)
    (m cc : Nat) (hm : m = j - i) (hcc : cc = c - i) (q : Bool) (hq : safeB (((ros l).take j).drop i) = q) :
    Calls Try.prog 22 #[.slice (some ⟨b, off + i * 5, none⟩) m cc] wr fun r w' => r = .returned (.bool q) ∧ Below wr.heap.size wr w' := by
  have := safe_mid hr hb hlc hcm hs hh i j hij hj hi m cc hm hcc q hq
  rw [Option.map_some, WideShapes.add_plain] at this
  exact this
/-- Safe of the first rows: l[:j]. -/
theorem safe_front {w1 wr : World} {A : Option Addr} {c : Nat} {l : List Cw} (hr : Rr w1 w1.heap.size A l) (hb : Below w1.heap.size w1 wr) (hlc : l.length ≤ c) (hcm : c ≤ 2 ^ 63 - 1) (hs : Rz.Small (ros l)) (hh : Held (ros l)) (j : Nat) (hj : j ≤ l.length) (q : Bool) (hq : safeB ((ros l).take j) = q) :
    Calls Try.prog 22 #[.slice A j c] wr fun r w' => r = .returned (.bool q) ∧ Below wr.heap.size wr w' := by
  have hp := ((rr_take hr j).below hb).more hb.size
  have hl : (l.take j).length = j := by rw [List.length_take]; omega
  refine safe1 _ (l.take j) wr ⟨A, c, by rw [hl], by omega, by unfold maxLen; omega, hp, ?_⟩ ?_ q ?_
  · rw [← Ro.ros_take]
    exact held_sub hh fun x hx => List.mem_of_mem_take hx
  · rw [← Ro.ros_take]
    exact small_sub hs fun x hx => List.mem_of_mem_take hx
  · rw [← Ro.ros_take]
    exact hq
theorem att_cut {w : World} {N : Nat} {x : Cw} (h : Att w N x) (m : Nat) : Att w N (Ro.cut x (x.ro.attrs.take m)) :=
  ⟨Nat.le_trans (List.length_take_le' _ _) h.1, h.2.1, h.2.2.1, Ro.Ra.take h.2.2.2.1 m, fun a ha => h.2.2.2.2 a (List.mem_of_mem_take ha)⟩
/-- One row, freshly written down. -/
theorem one_row (w : World) (x : Cw) (hx : Att w w.heap.size x) (hh : Held [x.ro]) : Rv (w.alloc (Ro.rowO x)) (.slice (some ⟨w.heap.size, 0, none⟩) 1 1) [x] :=
  (rows_lit w [x] _ 1 rfl (by decide) rfl fun y hy => by
    rw [List.mem_singleton.1 hy]
    exact ⟨hx.boxed (Below.refl _ _) _, hx.apart.below (below_one w _)⟩).rv hh
theorem safe_step {l : List Ro} {n : Nat} (h : n < l.length) {q p : Bool} (hq : safeB (l.take n) = q) (hp : safeB ((l.take (n + 1)).drop n) = p) : safeB (l.take (n + 1)) = (q && p) := by
  have e : l.take (n + 1) = l.take n ++ (l.take (n + 1)).drop n := by
    have := (List.take_append_drop n (l.take (n + 1))).symm
    rw [List.take_take, Nat.min_eq_left (by omega)] at this
    exact this
  rw [e, safe_append, hq, hp]
theorem law_parts10 (v : Value) (i k : Int) (l0 : List Cw) (w : World) (hv : Rv w v l0) (hs0 : Rz.Small (ros l0)) :
    Calls Try.prog 5 #[v, .int .i64 i, .int .i64 k] w fun r w' => r = .returned (.bool true) ∧ Below w.heap.size w w' := by
  go_enter Try.func5, Try.ntmps5
  go_wp2_with fail
  refine (bound1 v l0 w hv hs0).mono ?_
  rintro r w1 ⟨v1, l, rfl, ho, hatt, h40, h8, hs, hh, b1⟩
  obtain ⟨A, c, rfl, hlc, hcm, hA, hr⟩ := ho.form
  have HR := Lib.hid hr; have HS := Lib.hid hs; have HH := Lib.hid hh; have B1 := Lib.hid b1; have H8 := Lib.hid h8
  unfold maxLen at hcm
  clear hr hs hh b1 h8 hatt ho hA
  go_wp2
  go_loopw [7, 8] (fun b j wr => ∃ (n : Nat) (q : Bool), j = .int .i64 n ∧ b = .bool q ∧ n ≤ l.length ∧ Hid (safeB ((ros l).take n) = q) ∧ Below w1.heap.size w1 wr) (fun _ j _ => l.length - (intOf j).toNat)
  case atStart => exact ⟨0, true, rfl, rfl, Nat.zero_le _, Lib.hid rfl, Below.refl _ _⟩
  case round =>
    obtain ⟨n, q, rfl, rfl, hn, hq, hbel⟩ := hrel
    by_cases hp : n < l.length
    · obtain ⟨p, hpq⟩ : ∃ p, safeB (((ros l).take (n + 1)).drop n) = p := ⟨_, rfl⟩
      have hst := safe_step (l := ros l) (n := n) (by rw [Ro.len_ros]; exact hp) hq.out hpq
      have HPQ := Lib.hid hpq; have HST := Lib.hid hst
      clear hpq hst hq
      cases q with
      | true =>
        go_wp2_with fail
        refine (safe_mid HR.out hbel hlc hcm HS.out HH.out n (n + 1) (by omega) (by omega) (by omega) 1 _ (by omega) rfl p HPQ.out).mono ?_
        rintro r w3 ⟨rfl, b3⟩
        have HB3 := Lib.hid (bt hbel b3)
        clear b3
        go_wp2
        go_roundw
        case rel => exact ⟨n + 1, p, by go_num, rfl, by omega, HST, HB3.out⟩
        case measure => simp [intOf]; omega
      | false =>
        go_wp2
        go_roundw
        case rel => exact ⟨n + 1, false, by go_num, rfl, by omega, HST, hbel⟩
        case measure => simp [intOf]; omega
    · have hq' : safeB (ros l) = q := by
        have := hq.out
        rw [List.take_of_length_le (by rw [Ro.len_ros]; omega)] at this
        exact this
      have HQ := Lib.hid hq'
      clear hq hq'
      have hrv : Rv wr (.slice A l.length c) l := ⟨A, c, rfl, hlc, by unfold maxLen; omega, (HR.out.below hbel).more hbel.size, HH.out⟩
      go_wp2_with fail
      refine (safe1 _ l wr hrv HS.out q HQ.out).mono ?_
      rintro r w3 ⟨rfl, b3⟩
      have HB3 := Lib.hid (bt hbel b3)
      clear b3 hrv hbel
      by_cases h0 : l.length = 0
      · have h0' : (l.length : Int) = 0 := by omega
        cases q
        all_goals
          go_wp2_with fail
          refine (fixed10_any w3).mono ?_
          rintro r w4 ⟨rfl, b4⟩
          go_wp2
          go_ret
          exact ⟨rfl, bt B1.out (bt HB3.out b4)⟩
      have h0' : ¬ (l.length : Int) = 0 := by omega
      cases q with
      | false =>
        go_wp2_with fail
        refine (fixed10_any w3).mono ?_
        rintro r w4 ⟨rfl, b4⟩
        go_wp2
        go_ret
        exact ⟨rfl, bt B1.out (bt HB3.out b4)⟩
      | true =>
        obtain ⟨a, ha, hax⟩ := Sm.and_small i 65535 16 (by decide) (by decide)
        obtain ⟨a2, ha2, hax2⟩ := Sm.and_small k 65535 16 (by decide) (by decide)
        have hlp : (((65535 : Nat) : Int)) = 65535 := rfl
        rw [hlp] at hax hax2
        clear hlp
        obtain ⟨n, hn⟩ : ∃ n, a % l.length = n := ⟨_, rfl⟩
        have hnl : n < l.length := by rw [← hn]; exact Nat.mod_lt _ (by omega)
        have y1 : (a : Int) % (l.length : Int) = (n : Int) := by rw [← hn]; simp
        clear hn
        obtain ⟨b, off, x, rfl, hb, hd, hx, hxa, hxm⟩ := (HR.out.below HB3.out).at_ n hnl
        obtain ⟨m, hm⟩ : ∃ m, a2 % (x.ro.attrs.length + 1) = m := ⟨_, rfl⟩
        have hml : m ≤ x.ro.attrs.length := by have := Nat.mod_lt a2 (show 0 < x.ro.attrs.length + 1 by omega); omega
        have y2 : (a2 : Int) % ((x.ro.attrs.length : Int) + 1) = (m : Int) := by rw [← hm]; simp
        clear hm
        have h8x := H8.out x hxm
        have HD := Lib.hid hd; have HXA := Lib.hid hxa; have HXM := Lib.hid hxm
        clear hd hxa hxm
        go_wp2_with (refine wpList_load_mid rfl 37 (.tmp 47) rfl b (off + n * 5) rfl _ _ hx Try.underlying37 rfl size_row ?_)
        have hxc : x.ro.attrs.length ≤ x.c := HXA.out.1
        have hxcm : x.c ≤ 2 ^ 63 - 1 := HXA.out.2.2.1
        have hm0 : (0 : Int) ≤ (m : Int) := by omega
        have hml' : m ≤ x.c := by omega
        clear hx
        go_region
        obtain ⟨ys, hys⟩ : ∃ ys, x.ro.attrs.take m = ys := ⟨_, rfl⟩
        have hyl : ys.length = m := by rw [← hys, List.length_take]; omega
        have hcut := att_cut HXA.out m
        rw [hys] at hcut
        have hrow : safeB [(Ro.cut x ys).ro] = true := by
          rw [safe_one, ← hys]
          exact row_less x.ro m (safe_of HQ.out x.ro (List.mem_map_of_mem HXM.out))
        have hsmall : Rz.Small [(Ro.cut x ys).ro] := by
          obtain ⟨s1, s2, s3⟩ := HS.out x.ro (List.mem_map_of_mem HXM.out)
          exact small_one ⟨s1, s2, fun a ha => s3 a (List.mem_of_mem_take (by rw [hys]; exact ha))⟩
        have hheld : Held [(Ro.cut x ys).ro] := fun y hy => by
          rw [List.mem_singleton.1 hy]
          exact HH.out x.ro (List.mem_map_of_mem HXM.out)
        have hlt4 : w3.heap.size < (w3.alloc (Ro.rowO (Ro.cut x ys))).heap.size := by simp
        have B4 : Hid (Below w1.heap.size w1 (w3.alloc (Ro.rowO (Ro.cut x ys)))) := Lib.hid (HB3.out.trans ((below_one w3 _).mono HB3.out.size))
        have CS := fun j => Ro.box_at w3 (Ro.cut x ys) j
        have HCUT := Lib.hid ((hcut.more HB3.out.size).below (below_one w3 (Ro.rowO (Ro.cut x ys))) (by omega))
        have HYL := Lib.hid hyl; have HROW := Lib.hid hrow; have HSM := Lib.hid hsmall; have HHE := Lib.hid hheld
        simp only [Ro.rowO, hyl] at hlt4 B4 CS HCUT
        clear hys hyl hcut hrow hsmall hheld
        generalize w3.alloc (.cells #[.int .i64 x.ro.depth, .int .i64 x.ro.kind, .string x.ro.name, .string x.ro.data, .slice x.A m x.c] 37) = w4 at *
        go_wp2_with fail
        clear hax hax2 y1 y2
        have B4d : Below w1.heap.size w1 w4.drew := B4.out.drew
        have hall := HQ.out
        have HF : Hid (safeB ((ros l).take n) = true) := Lib.hid (safe_sub hall fun x hx => List.mem_of_mem_take hx)
        have HE : Hid (safeB (((ros l).take l.length).drop n) = true) := Lib.hid (safe_sub hall mem_part)
        clear hall
        refine (safe_front HR.out B4d hlc hcm HS.out HH.out n (by omega) true HF.out).mono ?_
        rintro r w5 ⟨rfl, b5⟩
        have C5 := fun j => (b5.cell (p := ⟨w3.heap.size, j, none⟩) hlt4).trans (CS j)
        have hlt5 := Nat.lt_of_lt_of_le hlt4 b5.size
        have HB5 : Hid (Below w1.heap.size w1 w5) := Lib.hid (bt B4d b5)
        have HC5 : Hid (Att w5 w3.heap.size (Ro.cut x ys)) := Lib.hid (HCUT.out.below (M := w4.heap.size) ⟨b5.os, b5.tape, b5.output, b5.size, b5.block⟩ (by omega))
        clear b5 CS HCUT B4d
        go_wp2_with fail
        refine (safe_mid_some HR.out HB5.out hlc hcm HS.out HH.out n l.length (by omega) (by omega) (by omega) (l.length - n) (c - n) rfl rfl true HE.out).mono ?_
        rintro r w6 ⟨rfl, b6⟩
        have C6 := fun j => (b6.cell (p := ⟨w3.heap.size, j, none⟩) hlt5).trans (C5 j)
        have HB6 : Hid (Below w1.heap.size w1 w6) := Lib.hid (bt HB5.out b6)
        have HC6 : Hid (Att w6 w3.heap.size (Ro.cut x ys)) := Lib.hid (HC5.out.below b6 (by omega))
        have hlt6 := Nat.lt_of_lt_of_le hlt5 b6.size
        clear b6 C5 HC5
        have c0 := C6 0
        have c1 := C6 1
        have c2 := C6 2
        have c3 := C6 3
        have c4 := C6 4
        simp only [cells, Ro.cut, List.getElem?_cons_zero, List.getElem?_cons_succ, HYL.out] at c0 c1 c2 c3 c4
        have hrv := one_row w6 (Ro.cut x ys) (HC6.out.more (by omega)) HHE.out
        simp only [Ro.rowO, HYL.out] at hrv
        have HRV := Lib.hid hrv
        clear C6 hrv
        go_wp2_with fail
        refine (safe1 _ _ _ HRV.out HSM.out true HROW.out).mono ?_
        rintro r w7 ⟨rfl, b7⟩
        have HB7 : Hid (Below w1.heap.size w1 w7) := Lib.hid (bt (bt HB6.out (below_one w6 _)) b7)
        clear b7 c0 c1 c2 c3 c4
        go_wp2_with fail
        refine (fixed10_any w7).mono ?_
        rintro r w8 ⟨rfl, b8⟩
        go_wp2
        go_ret
        exact ⟨rfl, bt B1.out (bt HB7.out b8)⟩
end Go.Proofs.Ytkogkildipmnpaa.Rk

namespace Go.Proofs.Ytkogkildipmnpaa.To
set_option maxRecDepth 100000
set_option linter.unusedSimpArgs false
set_option linter.unusedVariables false
open Go.RowKit Ba
open Ro (At acells len_acells below_new Sh Ra acells_one info_attr)
/-- Attributes of the call's own. -/
def Aw (N : Nat) (w : World) (v : Value) (l : List At) : Prop := w.ownsRow N 30 2 v l.length (l.flatMap acells) ∧ Sh l
theorem Aw.nil (N : Nat) (w : World) : Aw N w (.slice none 0 0) [] := ⟨World.ownsRow_nil w N _ 2, fun _ h => by simp at h⟩
theorem Aw.low {N b : Nat} {w : World} {v : Value} {l : List At} (h : Aw N w v l) (hb : b < N) : v.ownBlock ≠ some b := fun e => by
  have := (World.ownsRow.lt h.1 b e).1
  omega
theorem Aw.kept {N : Nat} {w w' : World} {v : Value} {l : List At} {row : Option Nat} (h : Aw N w v l) (hg : w.grownBy w' row) (hne : v.ownBlock = none ∨ v.ownBlock ≠ row) : Aw N w' v l := ⟨World.ownsRow.kept h.1 hg hne, h.2⟩
theorem Aw.alloc {N : Nat} {w : World} {v : Value} {l : List At} (h : Aw N w v l) (o : Obj) : Aw N (w.alloc o) v l := ⟨World.ownsRow.alloc h.1 o, h.2⟩
theorem Aw.form {N : Nat} {w : World} {v : Value} {l : List At} (h : Aw N w v l) : ∃ A c, v = .slice A l.length c := by
  rcases h.1.2 with ⟨hv, hl⟩ | ⟨g, cap, cur, hv, _⟩
  · exact ⟨none, 0, by rw [hl]; exact hv⟩
  · exact ⟨_, _, hv⟩

theorem attr_cells_new (w : World) (x : At) : ∀ j u, (acells x)[j]? = some u → (w.alloc (.cells #[.string x.name, .string x.value] 30)).cell? ((⟨w.heap.size, 0, none⟩ : Addr).add j) = some u := fun j u hu => by
  rw [WideShapes.add_plain, Nat.zero_add, World.cell?_alloc_mark]
  match j with
  | 0 => exact hu
  | 1 => exact hu
  | j + 2 => simp [acells] at hu
/-- append of one attribute, in a block of its own, onto attributes of the call's own. -/
theorem app_attr {ops : Array Oper} {rest : List Oper} {o : Oper} {a : Act} {Q : Exit → Act → World → Prop} (w : World) (hgd : o.guard = none) (s x : Operand)
    (ho : o.op = .call { callee := .builtin .append, args := #[s, x], argTypes := #[35, 35] })
    (N : Nat) (v : Value) (l : List At) (y : At) (hs : a.eval s = v) (hown : Aw N w v l) (hy : y.name.size ≤ maxLen) (g : Nat) (hgz : g = w.heap.size) (hx : a.eval x = .slice (some ⟨g, 0, none⟩) 1 1)
    (hl : l.length ≤ 4000000000) (hN : N ≤ w.heap.size)
    (h : ∀ v' w', Aw N w' v' (l ++ [y]) → w.grownBy w' v.ownBlock → wpList Try.prog ops Q rest (a.put o.dst v') w') :
    wpList Try.prog ops Q (o :: rest) a (w.alloc (.cells #[.string y.name, .string y.value] 30)) := by
  subst hgz
  obtain ⟨i0, hi, hz0, hz1, hz2⟩ := info_parts info_attr
  have hown' : Aw N (w.alloc (.cells #[.string y.name, .string y.value] 30)) v l := hown.alloc _
  have hsz : (w.alloc (.cells #[.string y.name, .string y.value] 30)).heap.size = w.heap.size + 1 := by simp
  refine wpList_append_own _ hgd s x 35 ho N 30 i0 _ 2 32 Try.underlying35 hi hz0 hz1 hz2 rfl (by decide) v l.length (l.flatMap acells) hs hown'.1 ⟨w.heap.size, 0, none⟩ 1 1 (acells y) hx rfl (attr_cells_new w y) (by have := acells_one [y]; simpa using this) (by unfold maxLen; omega) (by omega) (by omega) ?_
  intro v' w' ho2 hg2 _
  refine h v' w' ⟨?_, fun z hz => ?_⟩ ((World.grownBy_alloc w _ _).trans hg2)
  · rw [List.length_append, List.flatMap_append]
    simpa using ho2
  · rcases List.mem_append.1 hz with hz | hz
    · exact hown.2 z hz
    · rw [List.mem_singleton.1 hz]; exact hy

end Go.Proofs.Ytkogkildipmnpaa.To

namespace Go.Proofs.Ytkogkildipmnpaa.Rk
set_option maxRecDepth 100000
set_option linter.unusedVariables false
set_option linter.unusedSimpArgs false
open Go.RowKit Go.Maps Ba Fm Lk Ml Fo
open Ro (At Ro Cw ros Rv Rr Att Ap Ow Fr cells acells bare Held size_row size_attr rowO box_block getElem_of_drop)
open To (Aw app_attr)
def revR (x : Ro) : Ro := { x with attrs := x.attrs.reverse }
theorem safe_rev10 (l : List Ro) : safeB (l.reverse.map revR) = safeB l := by
  rw [safe_map (f := revR) (fun x => row_rev x), safe_rev]
theorem small_rev {l : List Ro} (h : Rz.Small l) : Rz.Small (l.reverse.map revR) := fun x hx => by
  obtain ⟨y, hy, rfl⟩ := List.mem_map.1 hx
  obtain ⟨h1, h2, h3⟩ := h y (List.mem_reverse.1 hy)
  exact ⟨h1, h2, fun a ha => h3 a (List.mem_reverse.1 ha)⟩
theorem held_rev {l : List Ro} (h : Held l) : Held (l.reverse.map revR) := fun x hx => by
  obtain ⟨y, hy, rfl⟩ := List.mem_map.1 hx
  exact h y (List.mem_reverse.1 hy)
theorem rev_step {l : List Ro} {j : Nat} {x : Ro} (h : l[j]? = some x) : ((l.drop j).reverse.map revR) = ((l.drop (j + 1)).reverse.map revR) ++ [revR x] := by
  have hj := (List.getElem?_eq_some_iff.1 h)
  rw [List.drop_eq_getElem_cons hj.1, hj.2, List.reverse_cons, List.map_append]
  rfl
theorem revA_step {l : List At} {j : Nat} {x : At} (h : l[j]? = some x) : (l.drop j).reverse = (l.drop (j + 1)).reverse ++ [x] := by
  have hj := (List.getElem?_eq_some_iff.1 h)
  rw [List.drop_eq_getElem_cons hj.1, hj.2, List.reverse_cons]
/-- A row in a box whose attributes are the call's own: what stays when they are stored into it. -/
theorem copied10 {N : Nat} {w w2 : World} {y : Cw} {v : Value} {acc : List Cw} (hN : N ≤ w.heap.size) (hb : Below w.heap.size w w2) (hf : Fr (w.heap.size + 1) w2 y) (hown : Ow N w v acc) (u : Value) :
    Ow N (w2.setCell ⟨w.heap.size, 4, none⟩ u) v acc ∧ Att (w2.setCell ⟨w.heap.size, 4, none⟩ u) (w2.setCell ⟨w.heap.size, 4, none⟩ u).heap.size y ∧ Ap (w2.setCell ⟨w.heap.size, 4, none⟩ u) N y ∧ N ≤ (w2.setCell ⟨w.heap.size, 4, none⟩ u).heap.size ∧ Below w.heap.size w (w2.setCell ⟨w.heap.size, 4, none⟩ u) := by
  have hb' : Below w.heap.size w (w2.setCell ⟨w.heap.size, 4, none⟩ u) := hb.setCell (Nat.le_refl _) _
  have hf' := (hf.set (p := ⟨w.heap.size, 4, none⟩) (u := u) (Nat.lt_succ_self _)).mono (N' := N) (by omega)
  exact ⟨hown.below hb', hf'.att, hf'.ap, Nat.le_trans hN hb'.size, hb'⟩
theorem aw_made (w : World) (o : Obj) : Aw (w.heap.size + 1) ((w.alloc o).alloc (.cells #[] 30)) (.slice (some ⟨w.heap.size + 1, 0, none⟩) 0 0) [] := ⟨Ro.own_attr0 w o, fun _ h => by cases h⟩

theorem law_order (v : Value) (l0 : List Cw) (w : World) (hv : Rv w v l0) (hs0 : Rz.Small (ros l0)) :
    Calls Try.prog 8 #[v] w fun r w' => r = .returned (.bool true) ∧ Below w.heap.size w w' := by
  go_enter Try.func8, Try.ntmps8
  go_wp2_with fail
  refine (bound1 v l0 w hv hs0).mono ?_
  rintro r w1 ⟨v1, l, rfl, ho, hatt, h40, h8, hs, hh, b1⟩
  obtain ⟨A, c, rfl, hlc, hcm, hA, hr⟩ := ho.form
  have HR := Lib.hid hr; have HS := Lib.hid hs; have HH := Lib.hid hh; have B1 := Lib.hid b1; have H8 := Lib.hid h8
  unfold maxLen at hcm
  clear hr hs hh b1 h8 hatt ho
  replace hA := Lib.hid hA
  go_wp2
  go_loopw [3, 4] (fun m i wr => ∃ (u3 : Value) (n : Nat) (d : Int) (acc : List Cw), u3 = m ∧ i = .int .i64 d ∧ Hid (d = n - 1) ∧ n ≤ l.length ∧ acc.length = l.length - n ∧ Ow w1.heap.size wr m acc ∧ Hid (ros acc = ((ros l).drop n).reverse.map revR) ∧ Below w1.heap.size w1 wr) (fun _ i _ => (intOf i + 1).toNat)
  case atStart =>
    refine ⟨_, l.length, _, [], rfl, rfl, rfl, Nat.le_refl _, by simp, Ow.made w1, Lib.hid ?_, below_one w1 _⟩
    rw [List.drop_eq_nil_of_le (by rw [Ro.len_ros]; omega)]
    rfl
  case round =>
    obtain ⟨u3, n, d, acc, rfl, rfl, hd, hn, hal, hown, hros, hbel⟩ := hrel
    have hsz := hbel.size
    obtain ⟨wo, rfl⟩ : ∃ x, x = wr := ⟨_, rfl⟩
    match n, hd, hn, hal, hros with
    | 0, hd, hn, hal, hros =>
      obtain rfl : d = -1 := by have := hd.out; omega
      have hrs : ros acc = (ros l).reverse.map revR := hros.out
      have HRS := Lib.hid hrs
      clear hd hros hrs
      obtain ⟨q, hq⟩ : ∃ q, safeB (ros l) = q := ⟨_, rfl⟩
      have HQ := Lib.hid hq
      have HQR : Hid (safeB (ros acc) = q) := Lib.hid (by rw [HRS.out, safe_rev10, HQ.out])
      have HQ2 : Hid (safeB (ros acc ++ ros l) = q) := Lib.hid (by rw [safe_append, HQR.out, HQ.out, Bool.and_self])
      have HSR : Hid (Rz.Small (ros acc)) := Lib.hid (by rw [HRS.out]; exact small_rev HS.out)
      have HHR : Hid (Held (ros acc)) := Lib.hid (by rw [HRS.out]; exact held_rev HH.out)
      have hrv : Rv wo (.slice A l.length c) l := ⟨A, c, rfl, hlc, by unfold maxLen; omega, (HR.out.below hbel).more hsz, HH.out⟩
      have HAN := hA
      have hacc : acc.length = l.length := by omega
      have HAL := Lib.hid hacc
      have HOW := Lib.hid hown
      clear hq hal hacc hown
      go_wp2_with fail
      refine (safe1 _ l wo hrv HS.out q HQ.out).mono ?_
      rintro r w3 ⟨rfl, b3⟩
      have HB3 := Lib.hid (bt hbel b3)
      have HOW3 := Lib.hid (HOW.out.below b3)
      have HAP : Hid (∀ y ∈ l, Ap w3 w1.heap.size y) := Lib.hid fun y hy => ((HR.out.2 y hy).below HB3.out).apart
      have HR3 : Hid (Rr w3 w3.heap.size A l) := Lib.hid ((HR.out.below HB3.out).more HB3.out.size)
      have hsum : acc.length + l.length ≤ 2000000 := by rw [HAL.out]; omega
      have hsz3 : w1.heap.size ≤ w3.heap.size := HB3.out.size
      clear b3 hrv hbel
      go_wp2_with (at_builtin; refine Ro.app_rows w3 rfl (.tmp 48) (.tmp 49) rfl w1.heap.size u3 acc l A c rfl HOW3.out rfl HAN.out HR3.out HAP.out hsum hsz3 ?_; intro v5 w5 ho5 hk5 hf5)
      obtain ⟨ys, hys⟩ : ∃ ys, acc ++ l = ys := ⟨_, rfl⟩
      rw [hys] at ho5
      obtain ⟨A5, c5, rfl, hlc5, hcm5, hA5, hr5⟩ := ho5.form
      have hry : ros ys = ros acc ++ ros l := by rw [← hys, Ro.ros_append]
      have hyl : l.length ≤ ys.length := by rw [← hys, List.length_append]; omega
      have HQY : Hid (safeB (ros ys) = q) := Lib.hid (by rw [hry, HQ2.out])
      have HSY : Hid (Rz.Small (ros ys)) := Lib.hid (fun x hx => by
        rw [hry] at hx
        rcases List.mem_append.1 hx with h | h
        · exact HSR.out x h
        · exact HS.out x h)
      have HHY : Hid (Held (ros ys)) := Lib.hid (fun x hx => by
        rw [hry] at hx
        rcases List.mem_append.1 hx with h | h
        · exact HHR.out x h
        · exact HH.out x h)
      have HTK : Hid (safeB ((ros ys).take l.length) = q) := Lib.hid (by
        rw [hry, List.take_append_of_le_length (by rw [Ro.len_ros, HAL.out]; exact Nat.le_refl _), List.take_of_length_le (by rw [Ro.len_ros, HAL.out]; exact Nat.le_refl _)]
        exact HQR.out)
      have HB5 := Lib.hid (hk5 w1 HB3.out)
      have HR5 := Lib.hid hr5
      unfold maxLen at hcm5
      have hrv : Rv w5 (.slice A5 ys.length c5) ys := ⟨A5, c5, rfl, hlc5, by unfold maxLen; omega, hr5, HHY.out⟩
      clear hys ho5 hry hk5 hf5 hr5 hA5
      refine (safe1 _ ys w5 hrv HSY.out q HQY.out).mono ?_
      rintro r w6 ⟨rfl, b6⟩
      cases q
      all_goals
        go_wp2_with fail
        refine (safe_front HR5.out b6 hlc5 hcm5 HSY.out HHY.out l.length hyl _ HTK.out).mono ?_
        rintro r w7 ⟨rfl, b7⟩
        go_wp2_with fail
        refine (fixed10_any w7).mono ?_
        rintro r w8 ⟨rfl, b8⟩
        go_wp2
        go_ret
        exact ⟨rfl, bt B1.out (bt HB5.out (bt b6 (bt b7 b8)))⟩
    | j + 1, hd, hn, hal, hros =>
      obtain rfl : d = (j : Int) := by have := hd.out; omega
      obtain ⟨b, off, x, rfl, hb, hdx, hx, hxa, hxm⟩ := (HR.out.below hbel).at_ j (by omega)
      have hjx : (ros l)[j]? = some x.ro := by
        unfold ros
        rw [List.getElem?_map, getElem_of_drop hdx]
        rfl
      have hst : ros acc ++ [revR x.ro] = ((ros l).drop j).reverse.map revR := by rw [hros.out, rev_step hjx]
      have HST := Lib.hid hst; have HXA := Lib.hid hxa; have HOW := Lib.hid hown; have HAL := Lib.hid hal
      have hlen := hxa.1
      have h8x := H8.out x hxm
      clear hd hros hdx hjx hst hxa hown hal hxm
      go_wp2_with (refine wpList_load_mid rfl 37 (.tmp 21) rfl b (off + j * 5) rfl _ _ hx Try.underlying37 rfl size_row ?_)
      have HB0 : Hid (Below (wo.heap.size + 1) (wo.alloc (rowO x)) ((wo.alloc (rowO x)).alloc (.cells #[] 30))) := Lib.hid (by
        have := below_one (wo.alloc (rowO x)) (.cells #[] 30)
        rwa [World.size_alloc] at this)
      have HAW := Lib.hid (aw_made wo (rowO x))
      clear hx
      go_loopw [6, 7] (fun a i wr => ∃ (v6 : Value) (n2 : Nat) (d2 : Int) (acc2 : List At), v6 = a ∧ i = .int .i64 d2 ∧ Hid (d2 = n2 - 1) ∧ n2 ≤ x.ro.attrs.length ∧ Aw (wo.heap.size + 1) wr a acc2 ∧ acc2.length = x.ro.attrs.length - n2 ∧ Hid (acc2 = (x.ro.attrs.drop n2).reverse) ∧ Below (wo.heap.size + 1) (wo.alloc (rowO x)) wr ∧ wo.heap.size + 1 ≤ wr.heap.size) (fun _ i _ => (intOf i + 1).toNat)
      case atStart =>
        refine ⟨_, x.ro.attrs.length, _, [], rfl, rfl, rfl, Nat.le_refl _, HAW.out, by simp, Lib.hid ?_, HB0.out, by simp⟩
        rw [List.drop_eq_nil_of_le (Nat.le_refl _)]
        rfl
      case round =>
        obtain ⟨v6, n2, d2, acc2, rfl, rfl, hd2, hn2, haw, hal2, hacc2, hbel2, hsz2⟩ := hrel
        obtain ⟨q0, q1, q2, q3, q4, q5, hb2⟩ := box_block hbel2
        have hl2 : acc2.length ≤ 4000000000 := by omega
        replace hal2 := Lib.hid hal2
        match n2, hd2, hn2, hal2, hacc2 with
        | 0, hd2, hn2, hal2, hacc2 =>
          obtain rfl : d2 = -1 := by have := hd2.out; omega
          have HA2 : Hid (acc2 = x.ro.attrs.reverse) := Lib.hid hacc2.out
          obtain ⟨A', c', rfl⟩ := haw.form
          have hln : Hid (acc2.length = x.ro.attrs.length) := Lib.hid (by rw [HA2.out, List.length_reverse])
          have hfr : Fr (wo.heap.size + 1) wr ⟨⟨x.ro.depth, x.ro.kind, x.ro.name, x.ro.data, acc2⟩, A', c'⟩ := haw
          have HFR := Lib.hid hfr; have HB2 := Lib.hid hb2
          have hacc40 : acc.length ≤ 2000000 := by rw [HAL.out]; omega
          clear hd2 hacc2 haw hfr hbel2 hb2
          go_wp2_with (at_builtin; refine Ro.app_row _ rfl (.tmp 42) (.tmp 44) rfl w1.heap.size u3 acc ⟨⟨x.ro.depth, x.ro.kind, x.ro.name, x.ro.data, acc2⟩, A', c'⟩ rfl (copied10 hsz HB2.out HFR.out HOW.out _).1 (copied10 hsz HB2.out HFR.out HOW.out _).2.1 (copied10 hsz HB2.out HFR.out HOW.out _).2.2.1 wr.heap.size (by simp) rfl hacc40 (copied10 hsz HB2.out HFR.out HOW.out _).2.2.2.1 ?_; intro v5 w5 ho5 hk5 hf5)
          have C := copied10 hsz HB2.out HFR.out HOW.out (.slice A' acc2.length c')
          go_roundw
          case rel =>
            refine ⟨v5, j, _, acc ++ [⟨⟨x.ro.depth, x.ro.kind, x.ro.name, x.ro.data, acc2⟩, A', c'⟩], rfl, rfl, rfl, by omega, by rw [List.length_append, HAL.out]; show _ + 1 = _; omega, ho5, Lib.hid ?_, hk5 w1 (hbel.trans (C.2.2.2.2.mono hsz))⟩
            rw [Ro.ros_append, ← HST.out, HA2.out]
            rfl
          case measure => (simp [intOf]; try omega)
        | j2 + 1, hd2, hn2, hal2, hacc2 =>
          obtain rfl : d2 = (j2 : Int) := by have := hd2.out; omega
          obtain ⟨b2, off2, a, hA2, hbb2, hda, hxa2, ham⟩ := (HXA.out.2.2.2.1.below (hb2.mono hsz)).at_ j2 (by omega)
          rw [hA2]
          rw [hA2] at q4
          have hst2 : acc2 ++ [a] = (x.ro.attrs.drop j2).reverse := by rw [hacc2.out, revA_step (getElem_of_drop hda)]
          have HST2 := Lib.hid hst2
          have HSH := Lib.hid (HXA.out.2.2.2.2 a ham)
          have HAW2 := Lib.hid haw
          have HB2 := Lib.hid hbel2
          clear hd2 hacc2 hda hst2 haw ham hbel2 hb2
          go_wp2_with (first
            | (refine wpList_load_mid rfl 30 (.tmp 36) rfl b2 (off2 + j2 * 2) rfl _ _ hxa2 Try.underlying30 rfl size_attr ?_)
            | (at_builtin; refine app_attr _ rfl (.tmp 32) (.tmp 38) rfl (wo.heap.size + 1) v6 acc2 a rfl HAW2.out HSH.out _ rfl rfl hl2 hsz2 ?_; intro v4 w4 ho4 hg4))
          have hb4 : Below (wo.heap.size + 1) (wo.alloc (rowO x)) w4 := HB2.out.grown hg4 hsz2 fun k hk => (World.ownsRow.lt HAW2.out.1 k hk).1
          have HB4 := Lib.hid hb4
          have hs4 := Nat.le_trans hsz2 hg4.size
          clear hg4 hb4
          go_roundw
          case rel => exact ⟨v4, j2, _, acc2 ++ [a], rfl, rfl, rfl, by omega, ho4, by rw [List.length_append, hal2.out]; show _ + 1 = _; omega, HST2, HB4.out, hs4⟩
          case measure => (simp [intOf]; try omega)
end Go.Proofs.Ytkogkildipmnpaa.Rk
