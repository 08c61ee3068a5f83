/-
  Walks of stage 4: textsEnd, Normal.
  A value that reads as rows (Rv), and the contracts of Check, Same, Normal over it.
  Stage 7: a builder in memory: its open elements, its rows, each of the call's own.
  Walks of stage 7: joins, add of the builder.
  Tokens in memory: what a slice of rows reads as, their attributes, a row loaded, a row in a box.
  Rows and attributes of the call's own: what they hold, what is kept where another one grows, append of a row and of attributes.
  fold.Space.
  boltingref02.Space.
  Walks of stage 2, for later stages: fold.lowerByte, Letter, Lower, Same, Trim, boltingref02.Letter, Lower, Trim.
  Walks of stage 3: refs.Code, boltingref03's Char and Code, the digits, has, end, bodyOf, kindOf.
  Walks of stage 3: the digits, has, end, bodyOf, kindOf.
-/
import Derived.Test.YtoijeljjehjfjaaDoorCk03
import Derived.Test.YtoijeljjehjfjaaDoorCk02
import Derived.Deep.AppendLies
import Derived.Deep.RegionLaw
import Derived.Deep.RegionHeld3
import Derived.BigRegion
import Derived.StillTailTactics
import Derived.Deep.MidRow
import Derived.BigQuiet
import Derived.Deep.QuietTactic
import Derived.Test.YtoijeljjehjfjaaDoorCk01
import Derived.Lib.ConvBytes
namespace Go.Proofs.YtoijeljjehjfjaaDoor.Ro
set_option maxRecDepth 100000
set_option linter.unusedVariables false
set_option linter.unusedSimpArgs false
open Go.RowKit Ba
/-- The place behind so many more texts. -/
def j1 (n k : Nat) : Nat := k + 1 + n

set_option maxRecDepth 100000 in
set_option maxHeartbeats 1000000 in
theorem textsEnd_any (A : Option Addr) (c : Nat) (l : List Cw) (j : Nat) (x : Cw) (w : World) (hr : Rr w w.heap.size A l) (hc : l.length ≤ c) (hm : l.length ≤ 1000000) (hx : l.drop j = x :: l.drop (j + 1)) (hj : j < l.length) :
    Calls Tryd.prog 48 #[.slice A l.length c, .int .i64 j] w fun e w' => e = .returned (.int .i64 (j1 (nexts x.ro.depth (ros (l.drop (j + 1)))) j : Nat)) ∧ ∃ n, w' = w.drewN n := by
  obtain ⟨E, hE⟩ : ∃ E, j1 (nexts x.ro.depth (ros (l.drop (j + 1)))) j = E := ⟨_, rfl⟩
  rw [hE]
  obtain ⟨b, off, y, rfl, hb, hdy, hy, _, _⟩ := hr.at_ j hj
  obtain rfl : y = x := by
    rw [hx] at hdy
    injection hdy with e
    exact e.symm
  have hg0 := (range5 hy).1
  have HE := Lib.hid hE
  clear hE hy hdy hx
  go_enter Tryd.func48, Tryd.ntmps48
  go_wp2
  go_loopw [5] (fun v wr => ∃ k : Nat, v = .int .i64 k ∧ k ≤ l.length ∧ k + nexts y.ro.depth (ros (l.drop k)) = E ∧ ∃ n, wr = w.drewN n) (fun v _ => l.length - (intOf v).toNat)
  case atStart => exact ⟨j + 1, by go_num, by omega, HE.out, 0, rfl⟩
  case round =>
    clear HE
    obtain ⟨k, rfl, hk, hv, n, rfl⟩ := hrel
    by_cases hp : k < l.length
    · obtain ⟨b', off', z, e, _, hdz, hz, _, _⟩ := hr.at_ k hp
      injection e with e
      injection e with e1 e2
      subst e1 e2
      have hz0 := (range5 hz).1
      have hz1 := (range5 hz).2.1
      cases h1 : z.ro.kind == 1 with
      | true =>
        cases h2 : z.ro.depth == y.ro.depth with
        | true =>
          have h3 : nexts y.ro.depth (ros (l.drop k)) = nexts y.ro.depth (ros (l.drop (k + 1))) + 1 := take_step hdz (by rw [h1, h2]; rfl)
          rw [h3] at hv
          have HV := Lib.hid hv
          clear hv hz hdz h3
          go_wp2
          go_quiet (fail)
          go_wp2
          go_roundw
          case rel => exact ⟨k + 1, by go_num, by omega, by have := HV.out; omega, _, rfl⟩
          case measure => simp [intOf]; omega
        | false =>
          have h3 : nexts y.ro.depth (ros (l.drop k)) = 0 := take_stop hdz (by rw [h1, h2]; rfl)
          rw [h3] at hv
          have HV := Lib.hid hv
          clear hv hz hdz h3
          go_wp2
          go_quiet (fail)
          go_wp2
          go_ret
          exact ⟨ret_int (by rw [← HV.out]; rfl), _, World.drewN_drewN _ _ _⟩
      | false =>
        have h3 : nexts y.ro.depth (ros (l.drop k)) = 0 := take_stop hdz (by rw [h1]; rfl)
        rw [h3] at hv
        have HV := Lib.hid hv
        clear hv hz hdz h3
        go_wp2
        go_quiet (fail)
        go_wp2
        go_ret
        exact ⟨ret_int (by rw [← HV.out]; rfl), _, World.drewN_drewN _ _ _⟩
    · have hp' : decide (k < l.length) = false := decide_eq_false hp
      rw [List.drop_eq_nil_of_le (by omega)] at hv
      have HV := Lib.hid hv
      clear hv
      go_wp2
      go_quiet (fail)
      go_wp2
      go_ret
      exact ⟨ret_int (by rw [← HV.out]; rfl), _, World.drewN_drewN _ _ _⟩

theorem normal_text {x : Ro} {r : List Ro} (h : x.kind = 1) : normal (x :: r) = (if txt (x :: r.take (nexts x.depth r)) = [] then [] else [⟨x.depth, 1, .empty, B (txt (x :: r.take (nexts x.depth r))), []⟩]) ++ normal (r.drop (nexts x.depth r)) := by
  rw [normal, if_pos h]
theorem normal_other {x : Ro} {r : List Ro} (h : ¬ x.kind = 1) : normal (x :: r) = x :: normal r := by
  rw [normal, if_neg h]
theorem normal_nil : normal [] = [] := by rw [normal]
theorem len_nexts (d : Int) (l : List Ro) : nexts d l ≤ l.length := (List.takeWhile_sublist _).length_le

theorem part_cons {l : List Cw} {k n : Nat} {x : Cw} (h : l.drop k = x :: l.drop (k + 1)) : (l.take (k + 1 + n)).drop k = x :: (l.drop (k + 1)).take n := by
  rw [List.drop_take, h, show k + 1 + n - k = n + 1 from by omega, List.take_succ_cons]
theorem Rr.mids {w : World} {N b off : Nat} {l : List Cw} (h : Rr w N (some ⟨b, off, none⟩) l) (i j cap : Nat) (hij : i ≤ j) (hj : j ≤ l.length) (hc : l.length ≤ cap) (hne : i < cap) :
    Rr w N (some ⟨b, off + i * 5, none⟩) ((l.take j).drop i) := by
  have := h.mid i j cap hij hj hc hne
  rw [Option.map_some, WideShapes.add_plain] at this
  exact this
theorem fr_none (N : Nat) (w : World) (r : Ro) (h : r.attrs = []) : Fr N w ⟨r, none, 0⟩ := by
  refine ⟨?_, by rw [h]; exact fun _ hx => by simp at hx⟩
  show w.ownsRow N _ 2 (.slice none r.attrs.length 0) r.attrs.length (r.attrs.flatMap acells)
  rw [h]
  exact World.ownsRow_nil w N _ 2
abbrev textRow (d : Int) (D : ByteArray) : Cw := ⟨⟨d, 1, .empty, D, []⟩, none, 0⟩

set_option maxRecDepth 100000 in
set_option maxHeartbeats 1000000 in
theorem Normal_any (A : Option Addr) (c : Nat) (l : List Cw) (w : World) (hr : Rr w w.heap.size A l) (hc : l.length ≤ c) (hm : l.length ≤ 1000000) (ht : (txt (ros l)).length ≤ 1000000000) (hf : Few (ros l)) (hh : Held (ros l)) :
    Calls Tryd.prog 20 #[.slice A l.length c] w fun e w' => ∃ v l', e = .returned v ∧ Ow w.heap.size w' v l' ∧ (∀ x ∈ l', Fr w.heap.size w' x) ∧ ros l' = normal (ros l) ∧ Below w.heap.size w w' := by
  obtain ⟨V, hV⟩ : ∃ V, normal (ros l) = V := ⟨_, rfl⟩
  rw [hV]
  have HV := Lib.hid hV
  clear hV
  go_enter Tryd.func20, Tryd.ntmps20
  go_wp2
  go_loopw [3, 4] (fun v i wr => ∃ (k : Nat) (acc : List Cw), i = .int .i64 k ∧ k ≤ l.length ∧ acc.length ≤ k ∧ Ow w.heap.size wr v acc ∧ (∀ x ∈ acc, Fr w.heap.size wr x) ∧ ros acc ++ normal (ros (l.drop k)) = V ∧ Below w.heap.size w wr) (fun _ i _ => l.length - (intOf i).toNat)
  case atStart => exact ⟨0, [], rfl, by omega, by simp, Ow.nil _ _, fun _ h => by simp at h, HV.out, Below.refl _ _⟩
  case round =>
    clear HV
    obtain ⟨k, acc, rfl, hk, hal, hown, hfr, hros, hbel⟩ := hrel
    have hsz := hbel.size
    have hrw := hr.below hbel
    by_cases hp : k < l.length
    · obtain ⟨b, off, x, hA, hb, hdx, hx, hxa, hxm⟩ := hrw.at_ k hp
      have g0 := (range5 hx).1
      have g1 := (range5 hx).2.1
      rw [hdx, ros_cons] at hros
      subst hA
      cases h1 : x.ro.kind == 1 with
      | false =>
        have h1' : (x.ro.kind != 1) = true := by rw [bne, h1]; rfl
        rw [normal_other (beq_eq_false_iff_ne.1 h1)] at hros
        have hpart := hrw.mids k (k + 1) c (by omega) (by omega) hc (by omega)
        have e : (l.take (k + 1)).drop k = [x] := by rw [show k + 1 = k + 1 + 0 from rfl, part_cons hdx]; rfl
        rw [e] at hpart
        have HP := Lib.hid hpart; have HO := Lib.hid hown; have HF := Lib.hid hfr; have HR := Lib.hid hros
        have hfx : Few (ros [x]) := fun z hz => by
          obtain rfl := List.mem_singleton.1 hz
          exact hf.at_ hxm
        have hhx : Held (ros [x]) := fun z hz => by
          obtain rfl := List.mem_singleton.1 hz
          exact hh _ (List.mem_map.2 ⟨x, hxm, rfl⟩)
        clear hpart hown hfr hros hrw e hdx hx hxa
        have HFX := Lib.hid hfx; have HHX := Lib.hid hhx
        clear hfx hhx
        have hal2 : acc.length ≤ 1000000 := by omega
        go_wp2_with fail
        refine (appendMoved_any w.heap.size _ acc _ (c - k) [x] 0 wr hsz HO.out HF.out hal2 HP.out (by simp; omega) (by simp) HFX.out HHX.out.fits).mono ?_
        rintro e w2 ⟨v2, l2, rfl, ho2, hf2, hr2, hb2⟩
        rw [deeper_zero] at hr2
        have HO2 := Lib.hid ho2; have HF2 := Lib.hid hf2; have HR2 := Lib.hid hr2; have HB2 := Lib.hid hb2
        clear ho2 hf2 hr2 hb2
        go_wp2
        go_roundw
        case rel =>
          have hl2 : l2.length = acc.length + 1 := by rw [← len_ros, HR2.out, List.length_append, len_ros]; rfl
          exact ⟨k + 1, l2, by go_num, by omega, by omega, HO2.out, HF2.out, by rw [HR2.out, List.append_assoc]; exact HR.out, hbel.trans HB2.out⟩
        case measure => simp [intOf]; omega
      | true =>
        have h1' : (x.ro.kind != 1) = false := by rw [bne, h1]; rfl
        rw [normal_text (beq_iff_eq.1 h1)] at hros
        obtain ⟨n, hn⟩ : ∃ n, nexts x.ro.depth (ros (l.drop (k + 1))) = n := ⟨_, rfl⟩
        have hnl := len_nexts x.ro.depth (ros (l.drop (k + 1)))
        rw [hn, len_ros, List.length_drop] at hnl
        rw [hn] at hros
        obtain ⟨E, hE⟩ : ∃ E, k + 1 + n = E := ⟨_, rfl⟩
        have hEl : E ≤ l.length := by omega
        have hEk : k < E := by omega
        have hpart := hrw.mids k E c (by omega) hEl hc (by omega)
        have hlen := len_part l k E hEl
        have hpr : ros ((l.take E).drop k) = x.ro :: (ros (l.drop (k + 1))).take n := by rw [← hE, part_cons hdx, ros_cons, ros_take]
        have hte : (txt (ros ((l.take E).drop k))).length ≤ 1000000000 := by rw [ros_part]; exact Nat.le_trans (txt_part _ _ _) ht
        rw [← hpr, ros_drop, List.drop_drop, hE] at hros
        have hee : j1 (nexts x.ro.depth (ros (l.drop (k + 1)))) k = E := by rw [hn, ← hE]; rfl
        obtain ⟨m, hm1⟩ : ∃ m, (l.take E).drop k = m := ⟨_, rfl⟩
        rw [hm1] at hpart hlen hte hros
        obtain ⟨D, hD⟩ : ∃ D, B (txt (ros m)) = D := ⟨_, rfl⟩
        rw [hD] at hros
        have HP := Lib.hid hpart; have HO := Lib.hid hown; have HF := Lib.hid hfr; have HL := Lib.hid hlen; have HD := Lib.hid hD; have HTE := Lib.hid hte; have HEE := Lib.hid hee; have HRW := Lib.hid hrw; have HDX := Lib.hid hdx
        have hal2 : acc.length ≤ 1000000 := by omega
        have hmc : m.length ≤ c - k := by omega
        have hmm : m.length ≤ 1000000 := by omega
        cases hte0 : txt (ros m) with
        | nil =>
          rw [if_pos hte0, List.nil_append] at hros
          have hDl : D.toList = [] := by rw [← hD, toList_B, hte0]
          have hDe : D.toList.isEmpty = true := by rw [hDl]; rfl
          have HR := Lib.hid hros
          clear hpart hown hfr hlen hte hee hrw hdx hm1 hE hn hx hxa hros hte0 hD hpr
          go_wp2_with fail
          refine (textsEnd_any _ c l k x wr (HRW.out.more hsz) hc hm HDX.out hp).mono ?_
          rintro e w1 ⟨rfl, nd, rfl⟩
          rw [HEE.out]
          go_wp2_with fail
          rw [← HL.out]
          refine (joined_any _ (c - k) m (wr.drewN nd) (by exact HP.out.more hsz) hmc hmm HTE.out).mono ?_
          rintro e w2 ⟨rfl, hb2⟩
          rw [HD.out]
          have HB2 : Hid (Below wr.heap.size wr w2) := Lib.hid ((below_dN (Below.refl _ wr) nd).trans hb2)
          clear hb2
          go_wp2
          go_roundw
          case rel => exact ⟨E, acc, rfl, by omega, by omega, HO.out.below HB2.out, fun z hz => (HF.out z hz).below HB2.out, HR.out, hbel.trans (HB2.out.mono hsz)⟩
          case measure => simp [intOf]; omega
        | cons u us =>
          rw [if_neg (by rw [hte0]; exact fun h => by cases h)] at hros
          have hDl : ¬ D.toList = [] := by rw [← hD, toList_B, hte0]; exact fun h => by cases h
          have hDe : D.toList.isEmpty = false := by rw [← hD, toList_B, hte0]; rfl
          have HR := Lib.hid hros
          clear hpart hown hfr hlen hte hee hrw hdx hm1 hE hn hx hxa hros hte0 hD hpr
          go_wp2_with fail
          refine (textsEnd_any _ c l k x wr (HRW.out.more hsz) hc hm HDX.out hp).mono ?_
          rintro e w1 ⟨rfl, nd, rfl⟩
          rw [HEE.out]
          go_wp2_with fail
          rw [← HL.out]
          refine (joined_any _ (c - k) m (wr.drewN nd) (by exact HP.out.more hsz) hmc hmm HTE.out).mono ?_
          rintro e w2 ⟨rfl, hb2⟩
          rw [HD.out]
          have HB2 : Hid (Below wr.heap.size wr w2) := Lib.hid ((below_dN (Below.refl _ wr) nd).trans hb2)
          clear hb2
          have hgd : w2.cell? ⟨b, off + k * 5, none⟩ = some (.int .i64 x.ro.depth) := (HB2.out.cell (p := ⟨b, off + k * 5, none⟩) (Nat.lt_of_lt_of_le hb hsz)).trans g0
          have hsz2 := Nat.le_trans hsz HB2.out.size
          have HFN : Hid (Fr w.heap.size w2 (textRow x.ro.depth D)) := Lib.hid (fr_none _ _ _ rfl)
          have hal3 : acc.length ≤ 2000000 := by omega
          go_wp2_with (at_builtin; refine app_row w2 rfl (.tmp 36) (.tmp 44) rfl w.heap.size _ acc (textRow x.ro.depth D) rfl (HO.out.below HB2.out) HFN.out.att HFN.out.ap w2.heap.size rfl rfl hal3 hsz2 ?_; intro v3 w3 ho3 hk3 hf3)
          go_roundw
          case rel =>
            refine ⟨E, acc ++ [textRow x.ro.depth D], rfl, by omega, by simp; omega, ho3, fun z hz => ?_, by rw [ros_append, List.append_assoc]; exact HR.out, hk3 w (hbel.trans (HB2.out.mono hsz))⟩
            rcases List.mem_append.1 hz with h | h
            · exact hf3 z ((HF.out z h).below HB2.out)
            · obtain rfl := List.mem_singleton.1 h
              exact fr_none _ _ _ rfl
          case measure => simp [intOf]; omega
    · rw [List.drop_eq_nil_of_le (by omega)] at hros
      have HR := Lib.hid hros
      clear hros hrw
      go_wp2
      go_ret
      exact ⟨_, acc, rfl, hown, hfr, by rw [← HR.out, show ros [] = [] from rfl, normal_nil, List.append_nil], hbel⟩

end Go.Proofs.YtoijeljjehjfjaaDoor.Ro

namespace Go.Proofs.YtoijeljjehjfjaaDoor.Ro
set_option maxRecDepth 100000
set_option linter.unusedVariables false
set_option linter.unusedSimpArgs false
open Go.RowKit Ba
/-- A value reads as rows. -/
def Rv (w : World) (v : Value) (l : List Cw) : Prop := ∃ A c, v = .slice A l.length c ∧ l.length ≤ c ∧ c ≤ maxLen ∧ Rr w w.heap.size A l ∧ Held (ros l)
theorem Rv.below {w w' : World} {v : Value} {l : List Cw} (h : Rv w v l) (hb : Below w.heap.size w w') : Rv w' v l := by
  obtain ⟨A, c, e, h1, h2, h3, h4⟩ := h
  exact ⟨A, c, e, h1, h2, (h3.below hb).more hb.size, h4⟩
theorem Ow.rv {N : Nat} {w : World} {v : Value} {l : List Cw} (h : Ow N w v l) (hh : Held (ros l)) : Rv w v l := by
  obtain ⟨A, c, e, h1, h2, _, h3⟩ := h.form
  exact ⟨A, c, e, h1, h2, h3, hh⟩
theorem check1 (v : Value) (x : List Cw) (w : World) (q : Int) (h : Rv w v x) (hl : x.length ≤ 1000000) (hq : check (ros x) = q) :
    Calls Tryd.prog 18 #[v] w fun e w' => e = .returned (.int .i64 q) ∧ Below w.heap.size w w' := by
  obtain ⟨A, c, rfl, hc, hm, hr, hh⟩ := h
  subst hq
  exact Check_any A c x w hr hc (by omega)
theorem same1 (a b : Value) (x y : List Cw) (w : World) (q : Bool) (ha : Rv w a x) (hb : Rv w b y) (hx : x.length ≤ 1000000) (hy : y.length ≤ 1000000) (hq : decide (ros x = ros y) = q) :
    Calls Tryd.prog 19 #[a, b] w fun e w' => e = .returned (.bool q) ∧ Below w.heap.size w w' := by
  obtain ⟨A, c, rfl, hc, hm, hr, _⟩ := ha
  obtain ⟨B, d, rfl, hd, hm2, hr2, _⟩ := hb
  subst hq
  exact Same_any A B c d x y w hr hr2 hc hd (by omega) (by omega)
theorem refSame1 (a b : Value) (x y : List Cw) (w : World) (q : Bool) (ha : Rv w a x) (hb : Rv w b y) (hx : x.length ≤ 1000000) (hy : y.length ≤ 1000000) (hq : decide (ros x = ros y) = q) :
    Calls Tryd.prog 13 #[a, b] w fun e w' => e = .returned (.bool q) ∧ Below w.heap.size w w' := by
  obtain ⟨A, c, rfl, hc, hm, hr, _⟩ := ha
  obtain ⟨B, d, rfl, hd, hm2, hr2, _⟩ := hb
  subst hq
  exact refSame_any A B c d x y w hr hr2 hc hd (by omega) (by omega)
theorem normal1 (v : Value) (x : List Cw) (w : World) (q : List Ro) (h : Rv w v x) (hl : x.length ≤ 1000000) (hf : Few (ros x)) (ht : (txt (ros x)).length ≤ 1000000000) (hq : normal (ros x) = q) (hhq : Held q) :
    Calls Tryd.prog 20 #[v] w fun e w' => ∃ u y, e = .returned u ∧ Ow w.heap.size w' u y ∧ (∀ z ∈ y, Fr w.heap.size w' z) ∧ ros y = q ∧ Rv w' u y ∧ Below w.heap.size w w' := by
  obtain ⟨A, c, rfl, hc, hm, hr, hh⟩ := h
  refine (Normal_any A c x w hr hc (by omega) ht hf hh).mono ?_
  rintro e w1 ⟨u, y, rfl, ho, hfr, hy, hb⟩
  rw [hq] at hy
  exact ⟨u, y, rfl, ho, hfr, hy, ho.rv (by rw [hy]; exact hhq), hb⟩

/-- A row that has no attributes. -/
def bare (r : Ro) : Cw := ⟨r, none, 0⟩
theorem bare_att (w : World) (N : Nat) {r : Ro} (h : r.attrs = []) : Att w N (bare r) := by
  refine ⟨?_, fun _ => rfl, Nat.zero_le _, ?_, ?_⟩
  · show r.attrs.length ≤ 0
    rw [h]; exact Nat.le_refl _
  · show Ra w N none r.attrs
    rw [h]; exact fun h => absurd h (by simp)
  · show Sh r.attrs
    rw [h]; exact fun _ hx => by simp at hx
theorem bare_ap (w : World) (N : Nat) {r : Ro} (h : r.attrs = []) : Ap w N (bare r) := fun h0 => by
  have h0 : 0 < r.attrs.length := h0
  rw [h] at h0
  exact absurd h0 (by simp)
/-- Rows without attributes, freshly written down. -/
theorem rows_new (w : World) (l : List Cw) (cs : Array Value) (n : Nat) (hn : l.length = n) (hm : n ≤ maxLen) (hcs : cs.toList = l.flatMap cells) (hl : ∀ x ∈ l, ∃ r : Ro, x = bare r ∧ r.attrs = []) :
    Ow w.heap.size (w.alloc (.cells cs 31)) (.slice (some ⟨w.heap.size, 0, none⟩) n n) l := by
  have hfl : (l.flatMap cells).length = n * 5 := by
    rw [← hn]
    clear hcs hl hn
    induction l with
    | nil => rfl
    | cons x r ih => rw [List.flatMap_cons, List.length_append, ih, List.length_cons]; simp [cells]; omega
  have hsz : cs.size = n * 5 := by rw [← Array.length_toList, hcs, hfl]
  refine ⟨⟨by rw [hn, hfl], .inr ⟨w.heap.size, n, cs, by rw [hn], Nat.le_refl _, heap_alloc_new w _, by rw [hn]; exact Nat.le_refl _, hm, hsz, ?_⟩⟩, fun x hx => ?_⟩
  · rw [hn, hcs, ← hfl, List.take_length]
  · obtain ⟨r, rfl, h⟩ := hl x hx
    exact ⟨bare_att _ _ h, bare_ap _ _ h⟩

end Go.Proofs.YtoijeljjehjfjaaDoor.Ro

namespace Go.Proofs.YtoijeljjehjfjaaDoor.Bu
set_option linter.unusedVariables false
set_option linter.unusedSimpArgs false
open Go.RowKit Ba Fm Fo Nm Bm
open Ro (At Ro Cw ros Fr Ow Att Ap Rr Sh acells len_acells cells len_cells rowV rowO info_row info_attr below_new acells_one flat_at flat_len row_cells_new cells_one range2 range5 len_ros ros_append)
abbrev bp (b : Nat) : Value := .pointer (some ⟨b, 0, none⟩)
/-- Block b is a builder: its open elements, its rows, how many they are joined, whether they are too many. -/
def Bc (w : World) (b : Nat) (vo vr : Value) (n : Int) (big : Bool) : Prop := w.heap[b]? = some (.cells #[vo, vr, .int .i64 n, .bool big] 59)
section
variable {w w' : World} {b : Nat} {vo vr : Value} {n : Int} {big : Bool}
theorem Bc.c0 (h : Bc w b vo vr n big) : w.cell? ⟨b, 0, none⟩ = some vo := by rw [cell_of_row w b 0 _ _ _ h]; rfl
theorem Bc.c1 (h : Bc w b vo vr n big) : w.cell? ⟨b, 1, none⟩ = some vr := by rw [cell_of_row w b 1 _ _ _ h]; rfl
theorem Bc.c2 (h : Bc w b vo vr n big) : w.cell? ⟨b, 2, none⟩ = some (.int .i64 n) := by rw [cell_of_row w b 2 _ _ _ h]; rfl
theorem Bc.c3 (h : Bc w b vo vr n big) : w.cell? ⟨b, 3, none⟩ = some (.bool big) := by rw [cell_of_row w b 3 _ _ _ h]; rfl
theorem Bc.f (h : Bc w b vo vr n big) (j : Nat) : w.frozen? ⟨b, j, none⟩ = false := by
  unfold Bc at h
  simp [World.frozen?, h]
theorem Bc.lt (h : Bc w b vo vr n big) : b < w.heap.size := (Array.getElem?_eq_some_iff.1 h).1
theorem Bc.set0 (h : Bc w b vo vr n big) (u : Value) : Bc (w.setCell ⟨b, 0, none⟩ u) b u vr n big := by
  unfold Bc at h ⊢
  simp [World.setCell, Array.getElem?_modify, h]
theorem Bc.set1 (h : Bc w b vo vr n big) (u : Value) : Bc (w.setCell ⟨b, 1, none⟩ u) b vo u n big := by
  unfold Bc at h ⊢
  simp [World.setCell, Array.getElem?_modify, h]
theorem Bc.set2 (h : Bc w b vo vr n big) (m : Int) : Bc (w.setCell ⟨b, 2, none⟩ (.int .i64 m)) b vo vr m big := by
  unfold Bc at h ⊢
  simp [World.setCell, Array.getElem?_modify, h]
theorem Bc.set3 (h : Bc w b vo vr n big) (m : Bool) : Bc (w.setCell ⟨b, 3, none⟩ (.bool m)) b vo vr n m := by
  unfold Bc at h ⊢
  simp [World.setCell, Array.getElem?_modify, h]
theorem Bc.below (h : Bc w b vo vr n big) (hb : Below w.heap.size w w') : Bc w' b vo vr n big := (hb.block b h.lt).trans h
theorem Bc.drew (h : Bc w b vo vr n big) (k : Nat) : Bc (w.drewN k) b vo vr n big := h
end

theorem g_dN (w : World) (n : Nat) (row : Option Nat) : w.grownBy (w.drewN n) row := ⟨rfl, rfl, rfl, Nat.le_refl _, fun _ _ _ => rfl⟩
theorem g_set (w : World) (b j : Nat) (u : Value) : w.grownBy (w.setCell ⟨b, j, none⟩ u) (some b) :=
  ⟨rfl, rfl, rfl, by simp [World.setCell], fun k _ hk => Below.heap_setCell _ _ _ _ (fun e => hk (by simp [e]))⟩

/-- A row of the call's own does not lie in a block of another type. -/
theorem own_ne {N b n size : Nat} {e t : TypeId} {w : World} {v : Value} {xs : List Value} (h : w.ownsRow N e size v n xs) {cs : Array Value} {fr : Nat × Nat} (hb : w.heap[b]? = some (.cells cs t fr)) (ht : t ≠ e) : v.ownBlock ≠ some b := by
  rcases h.2 with ⟨rfl, _⟩ | ⟨g, cap, cur, rfl, _, hh, _⟩
  · simp [Value.ownBlock]
  · intro e
    have e : g = b := by simpa [Value.ownBlock] using e
    subst e
    rw [hb] at hh
    injection hh with hh
    injection hh with _ h2
    exact ht h2
theorem own_apart {N N' n n' size size' : Nat} {e e' : TypeId} {w : World} {v v' : Value} {xs xs' : List Value} (h : w.ownsRow N e size v n xs) (h' : w.ownsRow N' e' size' v' n' xs') (ht : e' ≠ e) : v.ownBlock = none ∨ v.ownBlock ≠ v'.ownBlock := by
  rcases h'.2 with ⟨rfl, _⟩ | ⟨g, cap, cur, rfl, _, hh, _⟩
  · cases hv : v.ownBlock with
    | none => exact .inl rfl
    | some k => right; simp [Value.ownBlock]
  · exact .inr (own_ne h hh ht)

/-- Boxes of tokens are kept. -/
def Kt (w w' : World) : Prop := ∀ (g : Nat) (cs : Array Value) (fr : Nat × Nat), w.heap[g]? = some (.cells cs 51 fr) → w'.heap[g]? = w.heap[g]?
theorem Kt.refl (w : World) : Kt w w := fun _ _ _ _ => rfl
theorem Kt.trans {w w1 w2 : World} (h : Kt w w1) (h' : Kt w1 w2) : Kt w w2 := fun g cs fr hg => (h' g cs fr ((h g cs fr hg).trans hg)).trans (h g cs fr hg)
theorem Kt.below {w w' : World} (h : Below w.heap.size w w') : Kt w w' := fun g cs fr hg => h.block g (Array.getElem?_eq_some_iff.1 hg).1
theorem Kt.grown {w w' : World} {b : Nat} {cs : Array Value} {t : TypeId} {fr : Nat × Nat} (h : w.grownBy w' (some b)) (hb : w.heap[b]? = some (.cells cs t fr)) (ht : t ≠ 51) : Kt w w' := fun g cs' fr' hg => h.block g (Array.getElem?_eq_some_iff.1 hg).1 fun e => by
  injection e with e
  subst e
  rw [hg] at hb
  injection hb with hb
  injection hb with _ h2
  exact ht h2.symm
theorem Kt.own {w w' : World} {N n size : Nat} {e : TypeId} {v : Value} {xs : List Value} (h : w.grownBy w' v.ownBlock) (ho : w.ownsRow N e size v n xs) (ht : e ≠ 51) : Kt w w' := fun g cs fr hg => h.block g (Array.getElem?_eq_some_iff.1 hg).1 fun e2 => own_ne ho hg ht.symm e2.symm

/-- Rows of the call's own, their attributes too. -/
def Or (N : Nat) (w : World) (v : Value) (l : List Cw) : Prop := w.ownsRow N 31 5 v l.length (l.flatMap cells) ∧ ∀ x ∈ l, Fr N w x
theorem Or.ow {N : Nat} {w : World} {v : Value} {l : List Cw} (h : Or N w v l) : Ow N w v l := ⟨h.1, fun x hx => ⟨(h.2 x hx).att, (h.2 x hx).ap⟩⟩
theorem Or.nil (N : Nat) (w : World) : Or N w (.slice none 0 0) [] := ⟨World.ownsRow_nil w N _ 5, fun _ h => by simp at h⟩
/-- They are kept where what grows is of another type. -/
theorem Or.kept {N b : Nat} {w w' : World} {v : Value} {l : List Cw} (h : Or N w v l) (hg : w.grownBy w' (some b)) {cs : Array Value} {t : TypeId} {fr : Nat × Nat} (hb : w.heap[b]? = some (.cells cs t fr)) (h1 : t ≠ 31) (h2 : t ≠ 33) : Or N w' v l :=
  ⟨World.ownsRow.kept h.1 hg (.inr (own_ne h.1 hb h1)), fun x hx => ⟨World.ownsRow.kept (h.2 x hx).1 hg (.inr (own_ne (h.2 x hx).1 hb h2)), (h.2 x hx).2⟩⟩
theorem Or.apart {N N' n size : Nat} {e : TypeId} {w w' : World} {v u : Value} {xs : List Value} {l : List Cw} (h : Or N w v l) (hu : w.ownsRow N' e size u n xs) (hg : w.grownBy w' u.ownBlock) (h1 : e ≠ 31) (h2 : e ≠ 33) : Or N w' v l :=
  ⟨World.ownsRow.kept h.1 hg (own_apart h.1 hu h1), fun x hx => ⟨World.ownsRow.kept (h.2 x hx).1 hg (own_apart (h.2 x hx).1 hu h2), (h.2 x hx).2⟩⟩
theorem Or.below {N : Nat} {w w' : World} {v : Value} {l : List Cw} (h : Or N w v l) (hb : Below w.heap.size w w') : Or N w' v l := ⟨(h.ow.below hb).1, fun x hx => (h.2 x hx).below hb⟩
theorem Or.form {N : Nat} {w : World} {v : Value} {l : List Cw} (h : Or N w v l) : ∃ A c, v = .slice A l.length c ∧ l.length ≤ c ∧ c ≤ maxLen ∧ (A = none → c = 0) ∧ Rr w w.heap.size A l := h.ow.form
theorem Sown.keptB {N b : Nat} {w w' : World} {v : Value} {l : List ByteArray} (h : Sown N w v l) (hg : w.grownBy w' (some b)) {cs : Array Value} {t : TypeId} {fr : Nat × Nat} (hb : w.heap[b]? = some (.cells cs t fr)) (h1 : t ≠ 9) : Sown N w' v l := World.ownsRow.kept h hg (.inr (own_ne h hb h1))
/-- The first ones of them. -/
theorem Sown.cut {N : Nat} {w : World} {A : Option Addr} {k c : Nat} {l : List ByteArray} (h : Sown N w (.slice A l.length c) l) (hk : k ≤ l.length) : Sown N w (.slice A k c) (l.take k) := by
  have hl : (l.take k).length = k := by rw [List.length_take]; omega
  unfold Sown at h ⊢
  rw [hl]
  obtain ⟨h1, h2⟩ := h
  refine ⟨by rw [List.length_map, hl]; omega, ?_⟩
  rcases h2 with ⟨hv, h0⟩ | ⟨g, cap, cur, hv, hg, hh, hn, hm, hs, ht⟩
  · injection hv with e1 e2 e3
    subst e1; subst e3
    obtain rfl : k = 0 := by omega
    exact .inl ⟨rfl, rfl⟩
  · injection hv with e1 e2 e3
    subst e1; subst e3
    refine .inr ⟨g, c, cur, rfl, hg, hh, by omega, hm, hs, ?_⟩
    have := congrArg (List.take k) ht
    rw [List.take_take, ← List.map_take] at this
    rw [← this]
    congr 1
    omega

/-- A builder in block b. -/
def Bg (N : Nat) (w : World) (b : Nat) (o : List ByteArray) (l : List Cw) (n : Int) (big : Bool) : Prop := ∃ vo vr, Bc w b vo vr n big ∧ Sown N w vo o ∧ Or N w vr l ∧ N ≤ b
theorem Bg.below {N : Nat} {w w' : World} {b : Nat} {o : List ByteArray} {l : List Cw} {n : Int} {big : Bool} (h : Bg N w b o l n big) (hb : Below w.heap.size w w') : Bg N w' b o l n big ∧ Below N w w' := by
  obtain ⟨vo, vr, hc, ho, hr, hN⟩ := h
  exact ⟨⟨vo, vr, hc.below hb, ho.below hb (Nat.le_refl _), hr.below hb, hN⟩, hb.mono (by have := hc.lt; omega)⟩
theorem Bg.lt {N : Nat} {w : World} {b : Nat} {o : List ByteArray} {l : List Cw} {n : Int} {big : Bool} (h : Bg N w b o l n big) : N ≤ b ∧ b < w.heap.size := by
  obtain ⟨vo, vr, hc, ho, hr, hN⟩ := h
  exact ⟨hN, hc.lt⟩

/-- The row at the end. -/
theorem last_row {N : Nat} {w : World} {v : Value} {l : List Cw} (h : Or N w v l) (hl : 0 < l.length) : ∃ b off c x, v = .slice (some ⟨b, off, none⟩) l.length c ∧ l.length ≤ c ∧ b < w.heap.size ∧ w.rangeAt b (off + (l.length - 1) * 5) (cells x) ∧ ending (ros l) = some (decide (x.ro.kind = 1), x.ro.depth) := by
  obtain ⟨A, c, e, hc, _, _, hr⟩ := h.form
  obtain ⟨b, off, x, e2, hb, hd, hx, _, _⟩ := hr.at_ (l.length - 1) (by omega)
  refine ⟨b, off, c, x, by rw [e, e2], hc, hb, hx, ?_⟩
  have hd2 : l.drop (l.length - 1) = [x] := by
    rw [hd, List.drop_eq_nil_of_le (by omega)]
  have hs : l = l.take (l.length - 1) ++ [x] := by rw [← hd2, List.take_append_drop]
  rw [hs]
  unfold ros
  rw [List.map_append]
  exact ending_snoc _ _

end Go.Proofs.YtoijeljjehjfjaaDoor.Bu

namespace Go.Proofs.YtoijeljjehjfjaaDoor.Bu
set_option maxRecDepth 100000
set_option linter.unusedVariables false
set_option linter.unusedSimpArgs false
open Go.RowKit Ba Fm Fo Nm Bm
open Ro (At Ro Cw ros Fr Ow Att Ap Rr Sh acells len_acells cells len_cells rowV rowO info_row info_attr below_new acells_one flat_at flat_len row_cells_new cells_one range2 range5 len_ros ros_append)
theorem meets_nil (y : Ro) : meets [] y = false := by
  unfold meets
  rw [show ending [] = none from rfl, decide_eq_false (p := none = some (true, y.depth)) (by simp), Bool.and_false]
theorem meets_other (l : List Ro) {y : Ro} (h : ¬ y.kind = 1) : meets l y = false := by
  unfold meets
  rw [decide_eq_false h, Bool.false_and]
theorem meets_text {l : List Ro} {x y : Ro} (h : y.kind = 1) (he : ending l = some (decide (x.kind = 1), x.depth)) : meets l y = ((x.kind == 1) && (x.depth == y.depth)) := by
  unfold meets
  rw [decide_eq_true h, Bool.true_and, he]
  by_cases h1 : x.kind = 1
  · by_cases h2 : x.depth = y.depth
    · rw [decide_eq_true (by rw [decide_eq_true h1, h2]), beq_iff_eq.2 h1, beq_iff_eq.2 h2]; rfl
    · rw [decide_eq_false (fun e => by injection e with e; injection e with _ e; exact h2 e), beq_eq_false_iff_ne.2 h2, Bool.and_false]
  · rw [decide_eq_false (fun e => by injection e with e; injection e with e _; exact h1 (of_decide_eq_true e)), beq_eq_false_iff_ne.2 h1, Bool.false_and]

set_option maxHeartbeats 2000000 in
theorem joins_any (N b : Nat) (vo vr : Value) (n : Int) (big : Bool) (l : List Cw) (y : Cw) (w : World) (h : Bc w b vo vr n big) (hr : Or N w vr l) (hl : l.length ≤ 1000000) :
    Calls Tryd.prog 77 #[bp b, rowV y] w fun e w' => e = .returned (.bool (meets (ros l) y.ro)) ∧ Below w.heap.size w w' := by
  have c1 := h.c1; have hz := h.lt
  by_cases h0 : l.length = 0
  · obtain rfl : l = [] := List.eq_nil_of_length_eq_zero h0
    rw [show ros [] = [] from rfl, meets_nil]
    obtain ⟨A, c, rfl, _⟩ := hr.form
    clear h hr
    go_enter Tryd.func77, Tryd.ntmps77
    go_wp2
    go_ret
    exact ⟨rfl, below_new w _⟩
  obtain ⟨k, hk⟩ : ∃ k, l.length = k + 1 := ⟨l.length - 1, by omega⟩
  obtain ⟨b2, off, c, x, rfl, hc, hb2, hx, he⟩ := last_row hr (by omega)
  have g0 : (((k + 1 : Nat) : Int) == 0) = false := by rw [beq_eq_false_iff_ne]; omega
  rw [hk] at c1 hx hc
  by_cases hy : y.ro.kind = 1
  · rw [meets_text hy he]
    have g1 : (y.ro.kind != 1) = false := by rw [hy]; rfl
    rw [Nat.add_sub_cancel] at hx
    obtain ⟨x0, x1, x2, x3, x4⟩ := range5 hx
    have hkl : k ≤ 1000000 := by omega
    clear h hr he hx hk hy hl h0
    have i1 : (0 : Int) ≤ (k : Int) := by omega
    have i2 : (k : Int) < (k : Int) + 1 := by omega
    have i0 : IntKind.i64.wrap (k : Int) = (k : Nat) := IntWalk.i64_in _ (by omega)
    go_enter Tryd.func77, Tryd.ntmps77
    go_wp2
    go_region
    all_goals go_wp2
    all_goals go_ret
    all_goals refine ⟨?_, below_dN ((below_new w _).alloc (by simp) _) 1⟩
    all_goals first
      | exact ret_bool (by rw [show (x.ro.kind == 1) = true from beq_iff_eq.2 (by assumption)]; rfl)
      | exact ret_bool (by rw [show (x.ro.kind == 1) = false from beq_eq_false_iff_ne.2 (by assumption)]; rfl)
  · rw [meets_other _ hy]
    have g1 : (y.ro.kind != 1) = true := by rw [bne_iff_ne]; exact hy
    clear h hr he hx hk hy
    go_enter Tryd.func77, Tryd.ntmps77
    go_wp2
    go_ret
    exact ⟨rfl, below_new w _⟩

/-- What the builder says of a row that is added: so many, too many. -/
def more (l : List Ro) (n : Int) (y : Ro) : Int := if meets l y = true then n else n + 1
theorem more_yes {l : List Ro} {n : Int} {y : Ro} (h : meets l y = true) : more l n y = n := if_pos h
theorem more_no {l : List Ro} {n : Int} {y : Ro} (h : meets l y = false) : more l n y = n + 1 := if_neg (by rw [h]; simp)

theorem joins1 (N b : Nat) (vo vr : Value) (n : Int) (big : Bool) (l : List Cw) (y : Cw) (w : World) (h : Bc w b vo vr n big) (hr : Or N w vr l) (hl : l.length ≤ 1000000) (q : Bool) (hq : meets (ros l) y.ro = q) :
    Calls Tryd.prog 77 #[bp b, rowV y] w fun e w' => e = .returned (.bool q) ∧ Below w.heap.size w w' := by
  subst hq
  exact joins_any N b vo vr n big l y w h hr hl

/-- A row behind the rows of a builder, and what stands behind the store. -/
theorem Bg.put {N : Nat} {w w1 : World} {b : Nat} {vo vr v' : Value} {o : List ByteArray} {l : List Cw} {y : Cw} {n : Int} {big : Bool} (hc : Bc w b vo vr n big) (ho : Sown N w vo o) (hr : Or N w vr l) (hN : N ≤ b) (hy : Fr N w y)
    (h1 : w1.ownsRow N 31 5 v' (l.length + 1) (l.flatMap cells ++ cells y)) (hg : w.grownBy w1 vr.ownBlock) :
    Bg N (w1.setCell ⟨b, 1, none⟩ v') b o (l ++ [y]) n big ∧ ∀ w0, Below N w0 w → Below N w0 (w1.setCell ⟨b, 1, none⟩ v') := by
  have hrc : Bc w1 b vo vr n big := (hg.block b hc.lt (fun e => own_ne hr.1 hc (by decide) e.symm)).trans hc
  have hs : Sown N w1 vo o := World.ownsRow.kept ho hg (own_apart ho hr.1 (by decide))
  have hfr : ∀ x, Fr N w x → Fr N w1 x := fun x hx => ⟨World.ownsRow.kept hx.1 hg (own_apart hx.1 hr.1 (by decide)), hx.2⟩
  have hor : Or N w1 v' (l ++ [y]) := ⟨by rw [List.length_append, List.flatMap_append]; simpa using h1, fun x hx => by
    rcases List.mem_append.1 hx with hx | hx
    · exact hfr x (hr.2 x hx)
    · rw [List.mem_singleton.1 hx]; exact hfr y hy⟩
  have hgs := g_set w1 b 1 v'
  refine ⟨⟨vo, v', hrc.set1 v', Sown.keptB hs hgs hrc (by decide), hor.kept hgs hrc (by decide) (by decide), hN⟩, fun w0 h0 => ?_⟩
  have hlt := hc.lt
  exact (h0.grown hg (by omega) fun k hk => (World.ownsRow.lt hr.1 k hk).1).setCell hN _

theorem Bc.over {N : Nat} {w w' : World} {b : Nat} {vo vr : Value} {n : Int} {big : Bool} {l : List Cw} (h : Bc w b vo vr n big) (hr : Or N w vr l) (hg : w.grownBy w' vr.ownBlock) : Bc w' b vo vr n big := (hg.block b h.lt (fun e => own_ne hr.1 h (by decide) e.symm)).trans h
/-- append of one row onto the rows of a builder, at a step of a region that draws. -/
theorem step_app_row {ops : Array Oper} {o : Oper} {a : Act} {K : Act → World → Prop} {Q : Exit → Act → World → Prop} {E : Prop} (W : World) (hgd : o.guard = none) (s x : Operand)
    (ho : o.op = .call { callee := .builtin .append, args := #[s, x], argTypes := #[24, 24] })
    (W0 : World) (N : Nat) (v : Value) (l : List Cw) (z : Cw) (hr : Or N W0 v l) (hg : W0.grownBy W none) (hN : N ≤ W0.heap.size) (hl : l.length ≤ 2000000)
    (hs : a.eval s = v) (g0 : Nat) (hx : a.eval x = .slice (some ⟨g0, 0, none⟩) 1 1) (hz : W.heap[g0]? = some (rowO z))
    (h : ∀ g cap w', w'.ownsRow N 31 5 (.slice (some ⟨g, 0, none⟩) (l.length + 1) cap) (l.length + 1) (l.flatMap cells ++ cells z) → W0.grownBy w' v.ownBlock → K (a.put o.dst (.slice (some ⟨g, 0, none⟩) (l.length + 1) cap)) w') :
    if Region.wanted o (yielded ops a.tmps) = true then Oper.wp Tryd.prog o a W K Q else E := by
  obtain ⟨i0, hi, hz0, hz1, hz2⟩ := info_parts info_row
  have hown : W.ownsRow N 31 5 v l.length (l.flatMap cells) := World.ownsRow.kept hr.1 hg (by cases hv : v.ownBlock with
    | none => exact .inl rfl
    | some k => right; simp)
  refine step_append_lies W hgd s x 24 ho N 31 i0 _ 5 72 Tryd.underlying24 hi hz0 hz1 hz2 rfl (by decide) v l.length (l.flatMap cells) hs hown ⟨g0, 0, none⟩ 1 1 (cells z) hx rfl (fun j u hu => World.news_of_block hz j u hu) (cells_one z) (by decide) (by unfold maxLen; omega) (by omega) (Nat.le_trans hN hg.size) _ rfl ?_
  intro g cap w1 h1 h2 _ _
  refine h g cap w1 h1 ?_
  have hlt : ∀ k, v.ownBlock = some k → N ≤ k := fun k hk => (World.ownsRow.lt hr.1 k hk).1
  exact ⟨h2.os.trans hg.os, h2.tape.trans hg.tape, h2.output.trans hg.output, Nat.le_trans hg.size h2.size, fun i hi hne => (h2.block i (Nat.lt_of_lt_of_le hi hg.size) hne).trans (hg.block i hi (by simp))⟩

set_option maxHeartbeats 4000000 in
theorem add_any (N b : Nat) (o : List ByteArray) (l : List Cw) (n : Int) (big : Bool) (y : Cw) (w : World) (h : Bg N w b o l n big) (hy : Fr N w y) (hl : l.length ≤ 1000000) (hol : o.length ≤ 1000000) (hn0 : 0 ≤ n) (hn : n ≤ 1000000) :
    Calls Tryd.prog 62 #[bp b, rowV y] w fun e w' => e = .returned (.tuple #[]) ∧ ∃ z : Cw, z.ro = ⟨(o.length : Nat), y.ro.kind, y.ro.name, y.ro.data, y.ro.attrs⟩ ∧
      Bg N w' b o (l ++ [z]) (more (ros l) n z.ro) (decide (4096 < more (ros l) n z.ro) || decide (60 ≤ (o.length : Int))) ∧ Below N w w' ∧ Kt w w' := by
  obtain ⟨vo, vr, hc, ho, hr, hN⟩ := h
  obtain ⟨Ao, co, rfl, _⟩ := ho.form
  obtain ⟨z, hzd⟩ : ∃ z : Cw, z = ⟨⟨(o.length : Nat), y.ro.kind, y.ro.name, y.ro.data, y.ro.attrs⟩, y.A, y.c⟩ := ⟨_, rfl⟩
  have hyz : Fr N w z := by rw [hzd]; exact hy
  have hzro : z.ro = ⟨(o.length : Nat), y.ro.kind, y.ro.name, y.ro.data, y.ro.attrs⟩ := by rw [hzd]
  have hrow : (Value.agg #[.int .i64 (o.length : Nat), .int .i64 y.ro.kind, .string y.ro.name, .string y.ro.data, .slice y.A y.ro.attrs.length y.c]) = rowV z := by rw [hzd]
  have hobj : (Obj.cells #[.int .i64 (o.length : Nat), .int .i64 y.ro.kind, .string y.ro.name, .string y.ro.data, .slice y.A y.ro.attrs.length y.c] 31) = rowO z := by rw [hzd]
  have hdep : z.ro.depth = (o.length : Nat) := by rw [hzd]
  have c0 := hc.c0; have f0 := hc.f 0
  have hz := hc.lt
  have HC := Lib.hid hc; have HO := Lib.hid ho; have HR := Lib.hid hr; have HY := Lib.hid hyz; have HROW := Lib.hid hrow; have HOBJ := Lib.hid hobj; have HZ := Lib.hid hzro; have HD := Lib.hid hdep
  clear hc ho hr hy hyz hrow hobj hzro hzd hdep
  cases hq : meets (ros l) z.ro with
  | false =>
    have HQ := Lib.hid hq
    clear hq
    go_enter Tryd.func62, Tryd.ntmps62
    go_wp2_with fail
    rw [HROW.out, HOBJ.out]
    have hb1 := below_new w (rowO z)
    refine (joins1 N b _ vr n big l z (w.alloc (rowO z)) (HC.out.below hb1) (HR.out.below hb1) hl false HQ.out).mono ?_
    rintro e w3 ⟨rfl, hb3⟩
    have B3 := bt hb1 hb3
    have hc3 := HC.out.below B3
    have d0 : w3.cell? ⟨w.heap.size, 0, none⟩ = some (.int .i64 z.ro.depth) := Ro.box_kept (x := z) hb3 0
    have d1 : w3.cell? ⟨w.heap.size, 1, none⟩ = some (.int .i64 z.ro.kind) := Ro.box_kept (x := z) hb3 1
    have d2 : w3.cell? ⟨w.heap.size, 2, none⟩ = some (.string z.ro.name) := Ro.box_kept (x := z) hb3 2
    have d3 : w3.cell? ⟨w.heap.size, 3, none⟩ = some (.string z.ro.data) := Ro.box_kept (x := z) hb3 3
    have d4 : w3.cell? ⟨w.heap.size, 4, none⟩ = some (.slice z.A z.ro.attrs.length z.c) := Ro.box_kept (x := z) hb3 4
    have c2 := hc3.c2; have f2 := hc3.f 2; have c3 := hc3.c3; have f3 := hc3.f 3
    have HC3 := Lib.hid hc3; have HB3 := Lib.hid B3
    have HSZ : w.heap.size < w3.heap.size := Nat.lt_of_lt_of_le (by simp) hb3.size
    clear c0 f0 hc3 B3 hb3 hb1
    cases hg : decide (4096 < n + 1) with
    | true =>
      go_upto_region 5 with (fail)
      obtain ⟨W4, hW4⟩ : ∃ W4, (w3.setCell ⟨b, 2, none⟩ (.int .i64 (n + 1))).setCell ⟨b, 3, none⟩ (.bool true) = W4 := ⟨_, rfl⟩
      rw [hW4]
      have hc4 : Bc W4 b _ vr (n + 1) true := hW4 ▸ (HC3.out.set2 (n + 1)).set3 true
      have hgs : w3.grownBy W4 (some b) := hW4 ▸ (g_set w3 b 2 (.int .i64 (n + 1))).trans (g_set _ b 3 (.bool true))
      have ho4 : Sown N W4 _ o := Sown.keptB (HO.out.below HB3.out (Nat.le_refl _)) hgs HC3.out (by decide)
      have hr4 : Or N W4 vr l := (HR.out.below HB3.out).kept hgs HC3.out (by decide) (by decide)
      have hy4 : Fr N W4 z := ⟨World.ownsRow.kept (HY.out.below HB3.out).1 hgs (.inr (own_ne (HY.out.below HB3.out).1 HC3.out (by decide))), HY.out.2⟩
      have hB4 : Below N w W4 := (HB3.out.mono (by omega)).grown hgs (Nat.le_trans (by omega) HB3.out.size) (fun k hk => by injection hk with hk; omega)
      have hkt : Kt w W4 := (Kt.below HB3.out).trans (Kt.grown hgs HC3.out (by decide))
      have HKT := Lib.hid hkt
      have hZ4 : N ≤ W4.heap.size := by have := hc4.lt; omega
      have hne : w.heap.size ≠ b := by omega
      have hk4 : ∀ j, W4.cell? ⟨w.heap.size, j, none⟩ = w3.cell? ⟨w.heap.size, j, none⟩ := fun j => World.cell?_of_block (a := ⟨w.heap.size, j, none⟩) (hgs.block _ HSZ (by simpa using hne))
      have e0 : W4.cell? ⟨w.heap.size, 0, none⟩ = some (.int .i64 z.ro.depth) := (hk4 0).trans d0; have e1 : W4.cell? ⟨w.heap.size, 1, none⟩ = some (.int .i64 z.ro.kind) := (hk4 1).trans d1; have e2 : W4.cell? ⟨w.heap.size, 2, none⟩ = some (.string z.ro.name) := (hk4 2).trans d2; have e3 : W4.cell? ⟨w.heap.size, 3, none⟩ = some (.string z.ro.data) := (hk4 3).trans d3; have e4 : W4.cell? ⟨w.heap.size, 4, none⟩ = some (.slice z.A z.ro.attrs.length z.c) := (hk4 4).trans d4
      have c1 := hc4.c1; have f1 := hc4.f 1; have hz4 := hc4.lt
      have HC4 := Lib.hid hc4; have HO4 := Lib.hid ho4; have HR4 := Lib.hid hr4; have HY4 := Lib.hid hy4; have HB4 := Lib.hid hB4
      clear c2 f2 c3 f3 d0 d1 d2 d3 d4 hk4 hgs hc4 ho4 hr4 hy4 hB4 hW4 hkt
      go_region_law (refine step_app_row _ (by rfl) (.tmp 38) (.tmp 40) (by rfl) W4 N vr l z HR4.out (by first | exact (World.grownBy_alloc W4 _ _).trans (g_dN _ 1 _) | exact (g_dN W4 1 _).trans (World.grownBy_alloc _ _ _)) hZ4 (by omega) (by simp [Act.eval, Act.put]) _ (by simp [Act.eval, Act.put]) (World.alloc_heap_new _ _) ?_; intro g cap w5 hown5 hg5; have hc5 := Bc.over HC4.out HR4.out hg5; have c5 := hc5.c1; have f5 := hc5.f 1; clear hc5)
      all_goals go_wp2
      all_goals go_end0
      all_goals
        obtain ⟨r1, r2⟩ := Bg.put HC4.out HO4.out HR4.out hN HY4.out hown5 hg5
        refine ⟨rfl, z, HZ.out, ?_, r2 _ HB4.out, (HKT.out.trans (Kt.own hg5 HR4.out.1 (by decide))).trans (Kt.grown (g_set w5 b 1 _) (Bc.over HC4.out HR4.out hg5) (by decide))⟩
        rw [more_no HQ.out]
        rw [hg, Bool.true_or]
        exact r1
    | false =>
    cases h6 : decide (60 ≤ z.ro.depth) with
    | true =>
      go_upto_region 5 with (fail)
      obtain ⟨W4, hW4⟩ : ∃ W4, (w3.setCell ⟨b, 2, none⟩ (.int .i64 (n + 1))).setCell ⟨b, 3, none⟩ (.bool true) = W4 := ⟨_, rfl⟩
      rw [hW4]
      have hc4 : Bc W4 b _ vr (n + 1) true := hW4 ▸ (HC3.out.set2 (n + 1)).set3 true
      have hgs : w3.grownBy W4 (some b) := hW4 ▸ (g_set w3 b 2 (.int .i64 (n + 1))).trans (g_set _ b 3 (.bool true))
      have ho4 : Sown N W4 _ o := Sown.keptB (HO.out.below HB3.out (Nat.le_refl _)) hgs HC3.out (by decide)
      have hr4 : Or N W4 vr l := (HR.out.below HB3.out).kept hgs HC3.out (by decide) (by decide)
      have hy4 : Fr N W4 z := ⟨World.ownsRow.kept (HY.out.below HB3.out).1 hgs (.inr (own_ne (HY.out.below HB3.out).1 HC3.out (by decide))), HY.out.2⟩
      have hB4 : Below N w W4 := (HB3.out.mono (by omega)).grown hgs (Nat.le_trans (by omega) HB3.out.size) (fun k hk => by injection hk with hk; omega)
      have hkt : Kt w W4 := (Kt.below HB3.out).trans (Kt.grown hgs HC3.out (by decide))
      have HKT := Lib.hid hkt
      have hZ4 : N ≤ W4.heap.size := by have := hc4.lt; omega
      have hne : w.heap.size ≠ b := by omega
      have hk4 : ∀ j, W4.cell? ⟨w.heap.size, j, none⟩ = w3.cell? ⟨w.heap.size, j, none⟩ := fun j => World.cell?_of_block (a := ⟨w.heap.size, j, none⟩) (hgs.block _ HSZ (by simpa using hne))
      have e0 : W4.cell? ⟨w.heap.size, 0, none⟩ = some (.int .i64 z.ro.depth) := (hk4 0).trans d0; have e1 : W4.cell? ⟨w.heap.size, 1, none⟩ = some (.int .i64 z.ro.kind) := (hk4 1).trans d1; have e2 : W4.cell? ⟨w.heap.size, 2, none⟩ = some (.string z.ro.name) := (hk4 2).trans d2; have e3 : W4.cell? ⟨w.heap.size, 3, none⟩ = some (.string z.ro.data) := (hk4 3).trans d3; have e4 : W4.cell? ⟨w.heap.size, 4, none⟩ = some (.slice z.A z.ro.attrs.length z.c) := (hk4 4).trans d4
      have c1 := hc4.c1; have f1 := hc4.f 1; have hz4 := hc4.lt
      have HC4 := Lib.hid hc4; have HO4 := Lib.hid ho4; have HR4 := Lib.hid hr4; have HY4 := Lib.hid hy4; have HB4 := Lib.hid hB4
      clear c2 f2 c3 f3 d0 d1 d2 d3 d4 hk4 hgs hc4 ho4 hr4 hy4 hB4 hW4 hkt
      go_region_law (refine step_app_row _ (by rfl) (.tmp 38) (.tmp 40) (by rfl) W4 N vr l z HR4.out (by first | exact (World.grownBy_alloc W4 _ _).trans (g_dN _ 1 _) | exact (g_dN W4 1 _).trans (World.grownBy_alloc _ _ _)) hZ4 (by omega) (by simp [Act.eval, Act.put]) _ (by simp [Act.eval, Act.put]) (World.alloc_heap_new _ _) ?_; intro g cap w5 hown5 hg5; have hc5 := Bc.over HC4.out HR4.out hg5; have c5 := hc5.c1; have f5 := hc5.f 1; clear hc5)
      all_goals go_wp2
      all_goals go_end0
      all_goals
        obtain ⟨r1, r2⟩ := Bg.put HC4.out HO4.out HR4.out hN HY4.out hown5 hg5
        refine ⟨rfl, z, HZ.out, ?_, r2 _ HB4.out, (HKT.out.trans (Kt.own hg5 HR4.out.1 (by decide))).trans (Kt.grown (g_set w5 b 1 _) (Bc.over HC4.out HR4.out hg5) (by decide))⟩
        rw [more_no HQ.out]
        rw [hg, Bool.false_or, ← HD.out, h6]
        exact r1
    | false =>
      go_upto_region 5 with (fail)
      obtain ⟨W4, hW4⟩ : ∃ W4, (w3.setCell ⟨b, 2, none⟩ (.int .i64 (n + 1))).setCell ⟨b, 3, none⟩ (.bool false) = W4 := ⟨_, rfl⟩
      rw [hW4]
      have hc4 : Bc W4 b _ vr (n + 1) false := hW4 ▸ (HC3.out.set2 (n + 1)).set3 false
      have hgs : w3.grownBy W4 (some b) := hW4 ▸ (g_set w3 b 2 (.int .i64 (n + 1))).trans (g_set _ b 3 (.bool false))
      have ho4 : Sown N W4 _ o := Sown.keptB (HO.out.below HB3.out (Nat.le_refl _)) hgs HC3.out (by decide)
      have hr4 : Or N W4 vr l := (HR.out.below HB3.out).kept hgs HC3.out (by decide) (by decide)
      have hy4 : Fr N W4 z := ⟨World.ownsRow.kept (HY.out.below HB3.out).1 hgs (.inr (own_ne (HY.out.below HB3.out).1 HC3.out (by decide))), HY.out.2⟩
      have hB4 : Below N w W4 := (HB3.out.mono (by omega)).grown hgs (Nat.le_trans (by omega) HB3.out.size) (fun k hk => by injection hk with hk; omega)
      have hkt : Kt w W4 := (Kt.below HB3.out).trans (Kt.grown hgs HC3.out (by decide))
      have HKT := Lib.hid hkt
      have hZ4 : N ≤ W4.heap.size := by have := hc4.lt; omega
      have hne : w.heap.size ≠ b := by omega
      have hk4 : ∀ j, W4.cell? ⟨w.heap.size, j, none⟩ = w3.cell? ⟨w.heap.size, j, none⟩ := fun j => World.cell?_of_block (a := ⟨w.heap.size, j, none⟩) (hgs.block _ HSZ (by simpa using hne))
      have e0 : W4.cell? ⟨w.heap.size, 0, none⟩ = some (.int .i64 z.ro.depth) := (hk4 0).trans d0; have e1 : W4.cell? ⟨w.heap.size, 1, none⟩ = some (.int .i64 z.ro.kind) := (hk4 1).trans d1; have e2 : W4.cell? ⟨w.heap.size, 2, none⟩ = some (.string z.ro.name) := (hk4 2).trans d2; have e3 : W4.cell? ⟨w.heap.size, 3, none⟩ = some (.string z.ro.data) := (hk4 3).trans d3; have e4 : W4.cell? ⟨w.heap.size, 4, none⟩ = some (.slice z.A z.ro.attrs.length z.c) := (hk4 4).trans d4
      have c1 := hc4.c1; have f1 := hc4.f 1; have hz4 := hc4.lt
      have HC4 := Lib.hid hc4; have HO4 := Lib.hid ho4; have HR4 := Lib.hid hr4; have HY4 := Lib.hid hy4; have HB4 := Lib.hid hB4
      clear c2 f2 c3 f3 d0 d1 d2 d3 d4 hk4 hgs hc4 ho4 hr4 hy4 hB4 hW4 hkt
      go_region_law (refine step_app_row _ (by rfl) (.tmp 38) (.tmp 40) (by rfl) W4 N vr l z HR4.out (by first | exact (World.grownBy_alloc W4 _ _).trans (g_dN _ 1 _) | exact (g_dN W4 1 _).trans (World.grownBy_alloc _ _ _)) hZ4 (by omega) (by simp [Act.eval, Act.put]) _ (by simp [Act.eval, Act.put]) (World.alloc_heap_new _ _) ?_; intro g cap w5 hown5 hg5; have hc5 := Bc.over HC4.out HR4.out hg5; have c5 := hc5.c1; have f5 := hc5.f 1; clear hc5)
      all_goals go_wp2
      all_goals go_end0
      all_goals
        obtain ⟨r1, r2⟩ := Bg.put HC4.out HO4.out HR4.out hN HY4.out hown5 hg5
        refine ⟨rfl, z, HZ.out, ?_, r2 _ HB4.out, (HKT.out.trans (Kt.own hg5 HR4.out.1 (by decide))).trans (Kt.grown (g_set w5 b 1 _) (Bc.over HC4.out HR4.out hg5) (by decide))⟩
        rw [more_no HQ.out]
        rw [hg, Bool.false_or, ← HD.out, h6]
        exact r1
  | true =>
    have HQ := Lib.hid hq
    clear hq
    go_enter Tryd.func62, Tryd.ntmps62
    go_wp2_with fail
    rw [HROW.out, HOBJ.out]
    have hb1 := below_new w (rowO z)
    refine (joins1 N b _ vr n big l z (w.alloc (rowO z)) (HC.out.below hb1) (HR.out.below hb1) hl true HQ.out).mono ?_
    rintro e w3 ⟨rfl, hb3⟩
    have B3 := bt hb1 hb3
    have hc3 := HC.out.below B3
    have d0 : w3.cell? ⟨w.heap.size, 0, none⟩ = some (.int .i64 z.ro.depth) := Ro.box_kept (x := z) hb3 0
    have d1 : w3.cell? ⟨w.heap.size, 1, none⟩ = some (.int .i64 z.ro.kind) := Ro.box_kept (x := z) hb3 1
    have d2 : w3.cell? ⟨w.heap.size, 2, none⟩ = some (.string z.ro.name) := Ro.box_kept (x := z) hb3 2
    have d3 : w3.cell? ⟨w.heap.size, 3, none⟩ = some (.string z.ro.data) := Ro.box_kept (x := z) hb3 3
    have d4 : w3.cell? ⟨w.heap.size, 4, none⟩ = some (.slice z.A z.ro.attrs.length z.c) := Ro.box_kept (x := z) hb3 4
    have c2 := hc3.c2; have c3 := hc3.c3; have f3 := hc3.f 3
    have HC3 := Lib.hid hc3; have HB3 := Lib.hid B3
    have HSZ : w.heap.size < w3.heap.size := Nat.lt_of_lt_of_le (by simp) hb3.size
    clear c0 f0 hc3 B3 hb3 hb1
    cases hg : decide (4096 < n) with
    | true =>
      go_upto_region 5 with (fail)
      obtain ⟨W4, hW4⟩ : ∃ W4, w3.setCell ⟨b, 3, none⟩ (.bool true) = W4 := ⟨_, rfl⟩
      rw [hW4]
      have hc4 : Bc W4 b _ vr n true := hW4 ▸ HC3.out.set3 true
      have hgs : w3.grownBy W4 (some b) := hW4 ▸ g_set w3 b 3 (.bool true)
      have ho4 : Sown N W4 _ o := Sown.keptB (HO.out.below HB3.out (Nat.le_refl _)) hgs HC3.out (by decide)
      have hr4 : Or N W4 vr l := (HR.out.below HB3.out).kept hgs HC3.out (by decide) (by decide)
      have hy4 : Fr N W4 z := ⟨World.ownsRow.kept (HY.out.below HB3.out).1 hgs (.inr (own_ne (HY.out.below HB3.out).1 HC3.out (by decide))), HY.out.2⟩
      have hB4 : Below N w W4 := (HB3.out.mono (by omega)).grown hgs (Nat.le_trans (by omega) HB3.out.size) (fun k hk => by injection hk with hk; omega)
      have hkt : Kt w W4 := (Kt.below HB3.out).trans (Kt.grown hgs HC3.out (by decide))
      have HKT := Lib.hid hkt
      have hZ4 : N ≤ W4.heap.size := by have := hc4.lt; omega
      have hne : w.heap.size ≠ b := by omega
      have hk4 : ∀ j, W4.cell? ⟨w.heap.size, j, none⟩ = w3.cell? ⟨w.heap.size, j, none⟩ := fun j => World.cell?_of_block (a := ⟨w.heap.size, j, none⟩) (hgs.block _ HSZ (by simpa using hne))
      have e0 : W4.cell? ⟨w.heap.size, 0, none⟩ = some (.int .i64 z.ro.depth) := (hk4 0).trans d0; have e1 : W4.cell? ⟨w.heap.size, 1, none⟩ = some (.int .i64 z.ro.kind) := (hk4 1).trans d1; have e2 : W4.cell? ⟨w.heap.size, 2, none⟩ = some (.string z.ro.name) := (hk4 2).trans d2; have e3 : W4.cell? ⟨w.heap.size, 3, none⟩ = some (.string z.ro.data) := (hk4 3).trans d3; have e4 : W4.cell? ⟨w.heap.size, 4, none⟩ = some (.slice z.A z.ro.attrs.length z.c) := (hk4 4).trans d4
      have c1 := hc4.c1; have f1 := hc4.f 1; have hz4 := hc4.lt
      have HC4 := Lib.hid hc4; have HO4 := Lib.hid ho4; have HR4 := Lib.hid hr4; have HY4 := Lib.hid hy4; have HB4 := Lib.hid hB4
      clear c2 c3 f3 d0 d1 d2 d3 d4 hk4 hgs hc4 ho4 hr4 hy4 hB4 hW4 hkt
      go_region_law (refine step_app_row _ (by rfl) (.tmp 38) (.tmp 40) (by rfl) W4 N vr l z HR4.out (by first | exact (World.grownBy_alloc W4 _ _).trans (g_dN _ 1 _) | exact (g_dN W4 1 _).trans (World.grownBy_alloc _ _ _)) hZ4 (by omega) (by simp [Act.eval, Act.put]) _ (by simp [Act.eval, Act.put]) (World.alloc_heap_new _ _) ?_; intro g cap w5 hown5 hg5; have hc5 := Bc.over HC4.out HR4.out hg5; have c5 := hc5.c1; have f5 := hc5.f 1; clear hc5)
      all_goals go_wp2
      all_goals go_end0
      all_goals
        obtain ⟨r1, r2⟩ := Bg.put HC4.out HO4.out HR4.out hN HY4.out hown5 hg5
        refine ⟨rfl, z, HZ.out, ?_, r2 _ HB4.out, (HKT.out.trans (Kt.own hg5 HR4.out.1 (by decide))).trans (Kt.grown (g_set w5 b 1 _) (Bc.over HC4.out HR4.out hg5) (by decide))⟩
        rw [more_yes HQ.out]
        rw [hg, Bool.true_or]
        exact r1
    | false =>
    cases h6 : decide (60 ≤ z.ro.depth) with
    | true =>
      go_upto_region 5 with (fail)
      obtain ⟨W4, hW4⟩ : ∃ W4, w3.setCell ⟨b, 3, none⟩ (.bool true) = W4 := ⟨_, rfl⟩
      rw [hW4]
      have hc4 : Bc W4 b _ vr n true := hW4 ▸ HC3.out.set3 true
      have hgs : w3.grownBy W4 (some b) := hW4 ▸ g_set w3 b 3 (.bool true)
      have ho4 : Sown N W4 _ o := Sown.keptB (HO.out.below HB3.out (Nat.le_refl _)) hgs HC3.out (by decide)
      have hr4 : Or N W4 vr l := (HR.out.below HB3.out).kept hgs HC3.out (by decide) (by decide)
      have hy4 : Fr N W4 z := ⟨World.ownsRow.kept (HY.out.below HB3.out).1 hgs (.inr (own_ne (HY.out.below HB3.out).1 HC3.out (by decide))), HY.out.2⟩
      have hB4 : Below N w W4 := (HB3.out.mono (by omega)).grown hgs (Nat.le_trans (by omega) HB3.out.size) (fun k hk => by injection hk with hk; omega)
      have hkt : Kt w W4 := (Kt.below HB3.out).trans (Kt.grown hgs HC3.out (by decide))
      have HKT := Lib.hid hkt
      have hZ4 : N ≤ W4.heap.size := by have := hc4.lt; omega
      have hne : w.heap.size ≠ b := by omega
      have hk4 : ∀ j, W4.cell? ⟨w.heap.size, j, none⟩ = w3.cell? ⟨w.heap.size, j, none⟩ := fun j => World.cell?_of_block (a := ⟨w.heap.size, j, none⟩) (hgs.block _ HSZ (by simpa using hne))
      have e0 : W4.cell? ⟨w.heap.size, 0, none⟩ = some (.int .i64 z.ro.depth) := (hk4 0).trans d0; have e1 : W4.cell? ⟨w.heap.size, 1, none⟩ = some (.int .i64 z.ro.kind) := (hk4 1).trans d1; have e2 : W4.cell? ⟨w.heap.size, 2, none⟩ = some (.string z.ro.name) := (hk4 2).trans d2; have e3 : W4.cell? ⟨w.heap.size, 3, none⟩ = some (.string z.ro.data) := (hk4 3).trans d3; have e4 : W4.cell? ⟨w.heap.size, 4, none⟩ = some (.slice z.A z.ro.attrs.length z.c) := (hk4 4).trans d4
      have c1 := hc4.c1; have f1 := hc4.f 1; have hz4 := hc4.lt
      have HC4 := Lib.hid hc4; have HO4 := Lib.hid ho4; have HR4 := Lib.hid hr4; have HY4 := Lib.hid hy4; have HB4 := Lib.hid hB4
      clear c2 c3 f3 d0 d1 d2 d3 d4 hk4 hgs hc4 ho4 hr4 hy4 hB4 hW4 hkt
      go_region_law (refine step_app_row _ (by rfl) (.tmp 38) (.tmp 40) (by rfl) W4 N vr l z HR4.out (by first | exact (World.grownBy_alloc W4 _ _).trans (g_dN _ 1 _) | exact (g_dN W4 1 _).trans (World.grownBy_alloc _ _ _)) hZ4 (by omega) (by simp [Act.eval, Act.put]) _ (by simp [Act.eval, Act.put]) (World.alloc_heap_new _ _) ?_; intro g cap w5 hown5 hg5; have hc5 := Bc.over HC4.out HR4.out hg5; have c5 := hc5.c1; have f5 := hc5.f 1; clear hc5)
      all_goals go_wp2
      all_goals go_end0
      all_goals
        obtain ⟨r1, r2⟩ := Bg.put HC4.out HO4.out HR4.out hN HY4.out hown5 hg5
        refine ⟨rfl, z, HZ.out, ?_, r2 _ HB4.out, (HKT.out.trans (Kt.own hg5 HR4.out.1 (by decide))).trans (Kt.grown (g_set w5 b 1 _) (Bc.over HC4.out HR4.out hg5) (by decide))⟩
        rw [more_yes HQ.out]
        rw [hg, Bool.false_or, ← HD.out, h6]
        exact r1
    | false =>
      go_upto_region 5 with (fail)
      obtain ⟨W4, hW4⟩ : ∃ W4, w3.setCell ⟨b, 3, none⟩ (.bool false) = W4 := ⟨_, rfl⟩
      rw [hW4]
      have hc4 : Bc W4 b _ vr n false := hW4 ▸ HC3.out.set3 false
      have hgs : w3.grownBy W4 (some b) := hW4 ▸ g_set w3 b 3 (.bool false)
      have ho4 : Sown N W4 _ o := Sown.keptB (HO.out.below HB3.out (Nat.le_refl _)) hgs HC3.out (by decide)
      have hr4 : Or N W4 vr l := (HR.out.below HB3.out).kept hgs HC3.out (by decide) (by decide)
      have hy4 : Fr N W4 z := ⟨World.ownsRow.kept (HY.out.below HB3.out).1 hgs (.inr (own_ne (HY.out.below HB3.out).1 HC3.out (by decide))), HY.out.2⟩
      have hB4 : Below N w W4 := (HB3.out.mono (by omega)).grown hgs (Nat.le_trans (by omega) HB3.out.size) (fun k hk => by injection hk with hk; omega)
      have hkt : Kt w W4 := (Kt.below HB3.out).trans (Kt.grown hgs HC3.out (by decide))
      have HKT := Lib.hid hkt
      have hZ4 : N ≤ W4.heap.size := by have := hc4.lt; omega
      have hne : w.heap.size ≠ b := by omega
      have hk4 : ∀ j, W4.cell? ⟨w.heap.size, j, none⟩ = w3.cell? ⟨w.heap.size, j, none⟩ := fun j => World.cell?_of_block (a := ⟨w.heap.size, j, none⟩) (hgs.block _ HSZ (by simpa using hne))
      have e0 : W4.cell? ⟨w.heap.size, 0, none⟩ = some (.int .i64 z.ro.depth) := (hk4 0).trans d0; have e1 : W4.cell? ⟨w.heap.size, 1, none⟩ = some (.int .i64 z.ro.kind) := (hk4 1).trans d1; have e2 : W4.cell? ⟨w.heap.size, 2, none⟩ = some (.string z.ro.name) := (hk4 2).trans d2; have e3 : W4.cell? ⟨w.heap.size, 3, none⟩ = some (.string z.ro.data) := (hk4 3).trans d3; have e4 : W4.cell? ⟨w.heap.size, 4, none⟩ = some (.slice z.A z.ro.attrs.length z.c) := (hk4 4).trans d4
      have c1 := hc4.c1; have f1 := hc4.f 1; have hz4 := hc4.lt
      have HC4 := Lib.hid hc4; have HO4 := Lib.hid ho4; have HR4 := Lib.hid hr4; have HY4 := Lib.hid hy4; have HB4 := Lib.hid hB4
      clear c2 c3 f3 d0 d1 d2 d3 d4 hk4 hgs hc4 ho4 hr4 hy4 hB4 hW4 hkt
      go_region_law (refine step_app_row _ (by rfl) (.tmp 38) (.tmp 40) (by rfl) W4 N vr l z HR4.out (by first | exact (World.grownBy_alloc W4 _ _).trans (g_dN _ 1 _) | exact (g_dN W4 1 _).trans (World.grownBy_alloc _ _ _)) hZ4 (by omega) (by simp [Act.eval, Act.put]) _ (by simp [Act.eval, Act.put]) (World.alloc_heap_new _ _) ?_; intro g cap w5 hown5 hg5; have hc5 := Bc.over HC4.out HR4.out hg5; have c5 := hc5.c1; have f5 := hc5.f 1; clear hc5)
      all_goals go_wp2
      all_goals go_end0
      all_goals
        obtain ⟨r1, r2⟩ := Bg.put HC4.out HO4.out HR4.out hN HY4.out hown5 hg5
        refine ⟨rfl, z, HZ.out, ?_, r2 _ HB4.out, (HKT.out.trans (Kt.own hg5 HR4.out.1 (by decide))).trans (Kt.grown (g_set w5 b 1 _) (Bc.over HC4.out HR4.out hg5) (by decide))⟩
        rw [more_yes HQ.out]
        rw [hg, Bool.false_or, ← HD.out, h6]
        exact r1

end Go.Proofs.YtoijeljjehjfjaaDoor.Bu

namespace Go.Proofs.YtoijeljjehjfjaaDoor.To
set_option maxRecDepth 100000
set_option linter.unusedVariables false
set_option linter.unusedSimpArgs false
open Go.RowKit Ba Tm
open Ro (At acells len_acells Ra Sh range_keep info_attr size_attr range2 range5 below_new getElem_of_drop len_part flat_at flat_len acells_one)
/-- A row as it lies: where its attributes are, and how much room is there. -/
structure Tw where
  tk : Tk
  A : Option Addr
  c : Nat

def cells (x : Tw) : List Value := [.int .i64 x.tk.kind, .string x.tk.name, .string x.tk.data, .slice x.A x.tk.attrs.length x.c, .bool x.tk.self]
theorem len_cells (x : Tw) : (cells x).length = 5 := rfl
def Att (w : World) (N : Nat) (x : Tw) : Prop := x.tk.attrs.length ≤ x.c ∧ (x.A = none → x.c = 0) ∧ x.c ≤ maxLen ∧ Ra w N x.A x.tk.attrs ∧ Sh x.tk.attrs
/-- These rows lie at A, below block N, and their attributes. -/
def Rr (w : World) (N : Nat) (A : Option Addr) (l : List Tw) : Prop :=
  (0 < l.length → ∃ b off, A = some ⟨b, off, none⟩ ∧ b < N ∧ ∀ j (h : j < l.length), w.rangeAt b (off + j * 5) (cells l[j])) ∧ ∀ x ∈ l, Att w N x
/-- A row as a value. -/
abbrev tokV (x : Tw) : Value := .agg #[.int .i64 x.tk.kind, .string x.tk.name, .string x.tk.data, .slice x.A x.tk.attrs.length x.c, .bool x.tk.self]
def tks (l : List Tw) : List Tk := l.map Tw.tk
theorem len_tks (l : List Tw) : (tks l).length = l.length := List.length_map _
theorem tks_drop (l : List Tw) (k : Nat) : (tks l).drop k = tks (l.drop k) := by simp [tks, List.map_drop]
theorem tks_append (a b : List Tw) : tks (a ++ b) = tks a ++ tks b := by simp [tks]
theorem tks_cons (a : Tw) (b : List Tw) : tks (a :: b) = a.tk :: tks b := rfl

theorem Att.keep {w w' : World} {N : Nat} {x : Tw} (h : Att w N x) (hk : ∀ b o, b < N → w'.cell? ⟨b, o, none⟩ = w.cell? ⟨b, o, none⟩) : Att w' N x := ⟨h.1, h.2.1, h.2.2.1, h.2.2.2.1.keep hk, h.2.2.2.2⟩
theorem Att.more {w : World} {N M : Nat} {x : Tw} (h : Att w N x) (hN : N ≤ M) : Att w M x := ⟨h.1, h.2.1, h.2.2.1, h.2.2.2.1.more hN, h.2.2.2.2⟩
theorem Att.below {w w' : World} {N M : Nat} {x : Tw} (h : Att w N x) (hb : Below M w w') (hN : N ≤ M := by exact Nat.le_refl _) : Att w' N x := h.keep fun b o hbN => hb.cell (p := ⟨b, o, none⟩) (show b < M by omega)
theorem Rr.keep {w w' : World} {N : Nat} {A : Option Addr} {l : List Tw} (h : Rr w N A l) (hk : ∀ b o, b < N → w'.cell? ⟨b, o, none⟩ = w.cell? ⟨b, o, none⟩) : Rr w' N A l :=
  ⟨fun h0 => by
    obtain ⟨b, off, e, hb, hc⟩ := h.1 h0
    exact ⟨b, off, e, hb, fun j hj => range_keep (hc j hj) fun o => hk b o hb⟩, fun x hx => (h.2 x hx).keep hk⟩
theorem Rr.more {w : World} {N M : Nat} {A : Option Addr} {l : List Tw} (h : Rr w N A l) (hN : N ≤ M) : Rr w M A l :=
  ⟨fun h0 => by
    obtain ⟨b, off, e, hb, hc⟩ := h.1 h0
    exact ⟨b, off, e, by omega, hc⟩, fun x hx => (h.2 x hx).more hN⟩
theorem Rr.below {w w' : World} {N M : Nat} {A : Option Addr} {l : List Tw} (h : Rr w N A l) (hb : Below M w w') (hN : N ≤ M := by exact Nat.le_refl _) : Rr w' N A l := h.keep fun b o hbN => hb.cell (p := ⟨b, o, none⟩) (show b < M by omega)
theorem Rr.nil (w : World) (N : Nat) (A : Option Addr) : Rr w N A [] := ⟨fun h => absurd h (by simp), fun _ h => by simp at h⟩
/-- A part of it: what the model makes of l[i:j]. -/
theorem Rr.part {w : World} {N : Nat} {A : Option Addr} {l : List Tw} (h : Rr w N A l) (i j cap : Nat) (hij : i ≤ j) (hj : j ≤ l.length) (hc : l.length ≤ cap) :
    Rr w N (if cap = i then A else A.map (·.add (i * 5))) ((l.take j).drop i) := by
  refine ⟨fun h0 => ?_, fun x hx => h.2 x (List.mem_of_mem_take (List.mem_of_mem_drop hx))⟩
  rw [List.length_drop, List.length_take] at h0
  obtain ⟨b, off, e, hb, hcc⟩ := h.1 (by omega)
  rw [if_neg (by omega), e]
  refine ⟨b, off + i * 5, by simp [WideShapes.add_plain], hb, fun k hk => ?_⟩
  rw [List.length_drop, List.length_take] at hk
  have := hcc (i + k) (by omega)
  rw [show off + i * 5 + k * 5 = off + (i + k) * 5 from by omega]
  simpa using this

theorem info_tok : (Tryd.prog.info? 51).map (fun i => (i.zero, i.size, i.bytes)) = some (some (.agg #[.int .i64 0, .string .empty, .string .empty, .slice none 0 0, .bool false]), 5, 72) := by kernel_rfl
/-- The row at k. -/
theorem Rr.at_ {w : World} {N : Nat} {A : Option Addr} {l : List Tw} (h : Rr w N A l) (k : Nat) (hk : k < l.length) :
    ∃ b off x, A = some ⟨b, off, none⟩ ∧ b < N ∧ l.drop k = x :: l.drop (k + 1) ∧ w.rangeAt b (off + k * 5) [.int .i64 x.tk.kind, .string x.tk.name, .string x.tk.data, .slice x.A x.tk.attrs.length x.c, .bool x.tk.self] ∧ Att w N x ∧ x ∈ l := by
  obtain ⟨b, off, e, hb, hc⟩ := h.1 (by omega)
  exact ⟨b, off, l[k], e, hb, List.drop_eq_getElem_cons hk, hc k hk, h.2 _ (List.getElem_mem _), List.getElem_mem _⟩
/-- A row in a box of its own. -/
abbrev tokO (x : Tw) : Obj := .cells #[.int .i64 x.tk.kind, .string x.tk.name, .string x.tk.data, .slice x.A x.tk.attrs.length x.c, .bool x.tk.self] 51
theorem box_at (w : World) (x : Tw) (j : Nat) : (w.alloc (tokO x)).cell? ⟨w.heap.size, j, none⟩ = (cells x)[j]? := by
  rw [World.cell?_alloc_mark]
  match j with
  | 0 | 1 | 2 | 3 | 4 => rfl
  | j + 5 => simp [cells]
theorem box_kept {w w3 : World} {x : Tw} (hb : Below (w.alloc (tokO x)).heap.size (w.alloc (tokO x)) w3) (j : Nat) : w3.cell? ⟨w.heap.size, j, none⟩ = (cells x)[j]? :=
  (hb.cell (p := ⟨w.heap.size, j, none⟩) (by simp)).trans (box_at w x j)
theorem Att.boxed {w w0 : World} {x : Tw} (h : Att w w0.heap.size x) (hb : Below w0.heap.size w0 w) (o : Obj) : Att (w.alloc o) (w.alloc o).heap.size x :=
  ((h.more hb.size).below (below_new w o)).more (by simp)
/-- l[i:j] where i is ahead of the room's end. -/
theorem Rr.mid {w : World} {N : Nat} {A : Option Addr} {l : List Tw} (h : Rr w N A l) (i j cap : Nat) (hij : i ≤ j) (hj : j ≤ l.length) (hc : l.length ≤ cap) (hne : i < cap) :
    Rr w N (Option.map (fun x => x.add (i * 5)) A) ((l.take j).drop i) := by
  have := h.part i j cap hij hj hc
  rwa [if_neg (by omega)] at this
end Go.Proofs.YtoijeljjehjfjaaDoor.To

namespace Go.Proofs.YtoijeljjehjfjaaDoor.To
set_option maxRecDepth 100000
set_option linter.unusedVariables false
set_option linter.unusedSimpArgs false
open Go.RowKit Ba Tm
open Ro (At acells len_acells Ra Sh range_keep info_attr size_attr range2 range5 below_new getElem_of_drop len_part flat_at flat_len acells_one)
/-- The attributes of a row lie where no row of the call's own can lie. -/
def Ap (w : World) (N : Nat) (x : Tw) : Prop := 0 < x.tk.attrs.length → ∃ b off, x.A = some ⟨b, off, none⟩ ∧ (b < N ∨ ∃ cs fr, w.heap[b]? = some (.cells cs 33 fr))
/-- The attributes of a row are the call's own. -/
def Fr (N : Nat) (w : World) (x : Tw) : Prop := w.ownsRow N 33 2 (.slice x.A x.tk.attrs.length x.c) x.tk.attrs.length (x.tk.attrs.flatMap acells) ∧ Sh x.tk.attrs
/-- v is a slice of rows of the call's own. -/
def Ow (N : Nat) (w : World) (v : Value) (l : List Tw) : Prop := w.ownsRow N 51 5 v l.length (l.flatMap cells) ∧ ∀ x ∈ l, Att w w.heap.size x ∧ Ap w N x

theorem Fr.att {N : Nat} {w : World} {x : Tw} (h : Fr N w x) : Att w w.heap.size x := by
  obtain ⟨⟨hl, h⟩, hs⟩ := h
  rcases h with ⟨hv, hn⟩ | ⟨g, cap, cur, hv, hg, hh, hn, hm, hsz, ht⟩
  · injection hv with e1 e2 e3
    refine ⟨by omega, fun _ => e3, by rw [e3]; exact Nat.zero_le _, fun h0 => by omega, hs⟩
  · have hh0 : w.ownsRow N 33 2 (.slice x.A x.tk.attrs.length x.c) x.tk.attrs.length (x.tk.attrs.flatMap acells) := ⟨hl, .inr ⟨g, cap, cur, hv, hg, hh, hn, hm, hsz, ht⟩⟩
    injection hv with e1 _ e3
    refine ⟨by omega, (fun e => by rw [e] at e1; cases e1), by rw [e3]; exact hm, fun h0 => ⟨g, 0, e1, (Array.getElem?_eq_some_iff.1 hh).1, fun j hj i v hv => ?_⟩, hs⟩
    have hi : i < 2 := (List.getElem?_eq_some_iff.1 hv).1
    have := World.ownsRow.cells hh0 (g := g) (by rw [e1]; rfl) (j * 2 + i) v (by rw [flat_at acells 2 len_acells _ _ _ hj hi]; exact hv)
    rw [WideShapes.add_plain] at this
    rw [show 0 + j * 2 + i = 0 + (j * 2 + i) from by omega]
    exact this
theorem Fr.ap {N : Nat} {w : World} {x : Tw} (h : Fr N w x) : Ap w N x := fun h0 => by
  obtain ⟨⟨_, h⟩, _⟩ := h
  rcases h with ⟨hv, hn⟩ | ⟨g, cap, cur, hv, hg, hh, _⟩
  · omega
  · injection hv with e1
    exact ⟨g, 0, e1, .inr ⟨_, _, hh⟩⟩
theorem Fr.below {N M : Nat} {w w' : World} {x : Tw} (h : Fr N w x) (hb : Below M w w') (hM : w.heap.size ≤ M := by exact Nat.le_refl _) : Fr N w' x := by
  refine ⟨⟨h.1.1, ?_⟩, h.2⟩
  rcases h.1.2 with hn | ⟨g, cap, cur, hv, hg, hh, rest⟩
  · exact .inl hn
  · refine .inr ⟨g, cap, cur, hv, hg, ?_, rest⟩
    have hlt : g < w.heap.size := (Array.getElem?_eq_some_iff.1 hh).1
    rw [hb.block g (by omega)]
    exact hh
theorem Ap.below {N M : Nat} {w w' : World} {x : Tw} (h : Ap w N x) (hb : Below M w w') (hM : w.heap.size ≤ M := by exact Nat.le_refl _) : Ap w' N x := fun h0 => by
  obtain ⟨b, off, e, h⟩ := h h0
  refine ⟨b, off, e, ?_⟩
  rcases h with h | ⟨cs, fr, h⟩
  · exact .inl h
  · refine .inr ⟨cs, fr, ?_⟩
    have hlt : b < w.heap.size := (Array.getElem?_eq_some_iff.1 h).1
    rw [hb.block b (by omega)]
    exact h
theorem Att.apart {N : Nat} {w : World} {x : Tw} (h : Att w N x) : Ap w N x := fun h0 => by
  obtain ⟨b, off, e, hb, _⟩ := h.2.2.2.1 h0
  exact ⟨b, off, e, .inl hb⟩
theorem Ow.nil (N : Nat) (w : World) : Ow N w (.slice none 0 0) [] := ⟨World.ownsRow_nil w N _ 5, fun _ h => by simp at h⟩
theorem Ow.made (w : World) : Ow w.heap.size (w.alloc (.cells #[] 51)) (.slice (some ⟨w.heap.size, 0, none⟩) 0 0) [] :=
  ⟨World.ownsRow_made w #[] 0 (Nat.le_refl _) (Nat.zero_le _) rfl, fun _ h => by simp at h⟩
theorem Ow.below {N M : Nat} {w w' : World} {v : Value} {l : List Tw} (h : Ow N w v l) (hb : Below M w w') (hM : w.heap.size ≤ M := by exact Nat.le_refl _) : Ow N w' v l := by
  refine ⟨⟨h.1.1, ?_⟩, fun x hx => ⟨((h.2 x hx).1.below hb hM).more hb.size, (h.2 x hx).2.below hb hM⟩⟩
  rcases h.1.2 with hn | ⟨g, cap, cur, hv, hg, hh, rest⟩
  · exact .inl hn
  · refine .inr ⟨g, cap, cur, hv, hg, ?_, rest⟩
    have hlt : g < w.heap.size := (Array.getElem?_eq_some_iff.1 hh).1
    rw [hb.block g (by omega)]
    exact hh
theorem Ow.alloc {N : Nat} {w : World} {v : Value} {l : List Tw} (h : Ow N w v l) (o : Obj) : Ow N (w.alloc o) v l := h.below (below_new w o)
theorem Ow.mono {N N' : Nat} {w : World} {v : Value} {l : List Tw} (h : Ow N w v l) (hN : N' ≤ N) (hl : ∀ x ∈ l, Ap w N' x) : Ow N' w v l := ⟨World.ownsRow.mono h.1 hN, fun x hx => ⟨(h.2 x hx).1, hl x hx⟩⟩
/-- What a slice of the call's own is, and reads as. -/
theorem Ow.form {N : Nat} {w : World} {v : Value} {l : List Tw} (h : Ow N w v l) : ∃ A c, v = .slice A l.length c ∧ l.length ≤ c ∧ c ≤ maxLen ∧ (A = none → c = 0) ∧ Rr w w.heap.size A l := by
  rcases h.1.2 with ⟨hv, hl⟩ | ⟨g, cap, cur, hv, hg, hh, hn, hm, hs, ht⟩
  · have : l = [] := List.eq_nil_of_length_eq_zero hl
    subst this
    exact ⟨none, 0, hv, Nat.le_refl _, Nat.zero_le _, fun _ => rfl, Rr.nil _ _ _⟩
  · refine ⟨some ⟨g, 0, none⟩, cap, hv, hn, hm, (fun e => by cases e), fun _ => ⟨g, 0, rfl, (Array.getElem?_eq_some_iff.1 hh).1, fun j hj i u hu => ?_⟩, fun x hx => (h.2 x hx).1⟩
    have hi : i < 5 := (List.getElem?_eq_some_iff.1 hu).1
    subst hv
    have := World.ownsRow.cells h.1 (g := g) rfl (j * 5 + i) u (by rw [flat_at cells 5 len_cells _ _ _ hj hi]; exact hu)
    rw [WideShapes.add_plain] at this
    rw [show 0 + j * 5 + i = 0 + (j * 5 + i) from by omega]
    exact this

/-- A block of attributes is none of rows. -/
theorem block_ne {N n : Nat} {w : World} {v : Value} {xs : List Value} {b : Nat} {cs : Array Value} {fr : Nat × Nat} (h : w.ownsRow N 51 5 v n xs) (hb : w.heap[b]? = some (.cells cs 33 fr)) : some b ≠ v.ownBlock := by
  rcases h.2 with ⟨rfl, _⟩ | ⟨g, cap, cur, rfl, _, hh, _⟩
  · simp [Value.ownBlock]
  · intro e
    have e : b = g := by simpa [Value.ownBlock] using e
    subst e
    rw [hb] at hh
    injection hh with hh
    injection hh with _ ht
    exact absurd ht (by decide)
theorem low_ne {N n : Nat} {w : World} {v : Value} {xs : List Value} {b : Nat} (h : w.ownsRow N 51 5 v n xs) (hb : b < N) : some b ≠ v.ownBlock := fun e => by
  have := (World.ownsRow.lt h b e.symm).1
  omega
theorem Att.grown {N n : Nat} {w w' : World} {v : Value} {xs : List Value} {y : Tw} (h : w.ownsRow N 51 5 v n xs) (hg : w.grownBy w' v.ownBlock) (hy : Att w w.heap.size y) (ha : Ap w N y) : Att w' w'.heap.size y := by
  refine ⟨hy.1, hy.2.1, hy.2.2.1, fun h0 => ?_, hy.2.2.2.2⟩
  obtain ⟨b, off, e, hb, hc⟩ := hy.2.2.2.1 h0
  obtain ⟨b', off', e', ha⟩ := ha h0
  rw [e] at e'
  injection e' with e'
  injection e' with e1 e2
  subst e1 e2
  have hne : some b ≠ v.ownBlock := by
    rcases ha with ha | ⟨cs, fr, ha⟩
    · exact low_ne h ha
    · exact block_ne h ha
  exact ⟨b, off, e, Nat.lt_of_lt_of_le hb hg.size, fun j hj => range_keep (hc j hj) fun o => World.cell?_of_block (a := ⟨b, o, none⟩) (hg.block b hb hne)⟩
theorem Ap.grown {N n : Nat} {w w' : World} {v : Value} {xs : List Value} {y : Tw} (h : w.ownsRow N 51 5 v n xs) (hg : w.grownBy w' v.ownBlock) (ha : Ap w N y) : Ap w' N y := fun h0 => by
  obtain ⟨b, off, e, ha⟩ := ha h0
  refine ⟨b, off, e, ?_⟩
  rcases ha with ha | ⟨cs, fr, ha⟩
  · exact .inl ha
  · exact .inr ⟨cs, fr, (hg.block b (Array.getElem?_eq_some_iff.1 ha).1 (block_ne h ha)).trans ha⟩
theorem Fr.grown {N n : Nat} {w w' : World} {v : Value} {xs : List Value} {y : Tw} (h : w.ownsRow N 51 5 v n xs) (hg : w.grownBy w' v.ownBlock) (hy : Fr N w y) : Fr N w' y := by
  refine ⟨⟨hy.1.1, ?_⟩, hy.2⟩
  rcases hy.1.2 with hn | ⟨g, cap, cur, hv, hg', hh, rest⟩
  · exact .inl hn
  · exact .inr ⟨g, cap, cur, hv, hg', (hg.block g (Array.getElem?_eq_some_iff.1 hh).1 (block_ne h hh)).trans hh, rest⟩

theorem tok_cells_new (w : World) (x : Tw) : ∀ j u, (cells x)[j]? = some u → (w.alloc (tokO x)).cell? ((⟨w.heap.size, 0, none⟩ : Addr).add j) = some u := fun j u hu => by
  rw [WideShapes.add_plain, Nat.zero_add]
  exact (box_at w x j).trans hu
theorem cells_one (x : Tw) : ∀ u ∈ cells x, u.oneCell' = true := by
  intro u hu
  simp only [cells, List.mem_cons, List.not_mem_nil, or_false] at hu
  rcases hu with rfl | rfl | rfl | rfl | rfl <;> rfl
end Go.Proofs.YtoijeljjehjfjaaDoor.To

namespace Go.Proofs.YtoijeljjehjfjaaDoor.Fo
set_option maxRecDepth 100000
set_option linter.unusedSimpArgs false
set_option linter.unusedVariables false
open Go.RowKit Ba Fm
theorem space_any (c : UInt8) (w : World) :
    Calls Tryd.prog 75 #[.int .u8 c.toNat] w fun e w' => e = .returned (.bool (sp c)) ∧ w = w' := by
  have e9 : ((c.toNat : Int) == 9) = (c == 9) := u8_eq (b := 9)
  have e10 : ((c.toNat : Int) == 10) = (c == 10) := u8_eq (b := 10)
  have e12 : ((c.toNat : Int) == 12) = (c == 12) := u8_eq (b := 12)
  have e13 : ((c.toNat : Int) == 13) = (c == 13) := u8_eq (b := 13)
  have e32 : ((c.toNat : Int) == 32) = (c == 32) := u8_eq (b := 32)
  cases h9 : (c == 9) <;> cases h10 : (c == 10) <;> cases h12 : (c == 12) <;> cases h13 : (c == 13) <;> cases h32 : (c == 32)
  all_goals
    rw [h9] at e9
    rw [h10] at e10
    rw [h12] at e12
    rw [h13] at e13
    rw [h32] at e32
    have H9 := Lib.hid h9; have H10 := Lib.hid h10; have H12 := Lib.hid h12; have H13 := Lib.hid h13; have H32 := Lib.hid h32
    clear h9 h10 h12 h13 h32
    go_enter Tryd.func75, Tryd.ntmps75
    go_wp2
    go_ret
    exact ⟨ret_bool (by unfold sp; rw [H9.out, H10.out, H12.out, H13.out, H32.out]; rfl), rfl⟩

end Go.Proofs.YtoijeljjehjfjaaDoor.Fo

namespace Go.Proofs.YtoijeljjehjfjaaDoor.Fo
set_option linter.unusedSimpArgs false
set_option linter.unusedVariables false
open Go.RowKit Ba Fm
end Go.Proofs.YtoijeljjehjfjaaDoor.Fo

namespace Go.Proofs.YtoijeljjehjfjaaDoor.Fo
set_option maxRecDepth 100000
set_option linter.unusedSimpArgs false
set_option linter.unusedVariables false
open Go.RowKit Ba Fm

theorem lowerByte_any (c : UInt8) (w : World) :
    Calls Tryd.prog 112 #[.int .u8 c.toNat] w fun e w' => e = .returned (.int .u8 (low c).toNat) ∧ w = w' := by
  have hc := c.toNat_lt
  by_cases h1 : 65 ≤ c.toNat
  · by_cases h2 : c.toNat ≤ 90
    · have hl : ((low c).toNat : Int) = c.toNat + 32 := by
        unfold low
        rw [if_pos ⟨UInt8.le_iff_toNat_le.2 h1, UInt8.le_iff_toNat_le.2 h2⟩, UInt8.toNat_add]
        simp
        omega
      have HL := Lib.hid hl; clear hl
      go_enter Tryd.func112, Tryd.ntmps112
      go_wp2
      go_ret
      exact ⟨ret_int (by rw [HL.out]; omega), rfl⟩
    · have hl : low c = c := by
        unfold low
        rw [if_neg]
        rintro ⟨_, h⟩
        exact h2 (UInt8.le_iff_toNat_le.1 h)
      have HL := Lib.hid hl; clear hl
      go_enter Tryd.func112, Tryd.ntmps112
      go_wp2
      go_ret
      exact ⟨ret_int (by rw [HL.out]), rfl⟩
  · have hl : low c = c := by
      unfold low
      rw [if_neg]
      rintro ⟨h, _⟩
      exact h1 (UInt8.le_iff_toNat_le.1 h)
    have HL := Lib.hid hl; clear hl
    go_enter Tryd.func112, Tryd.ntmps112
    go_wp2
    go_ret
    exact ⟨ret_int (by rw [HL.out]), rfl⟩

theorem letter_any (c : UInt8) (w : World) :
    Calls Tryd.prog 99 #[.int .u8 c.toNat] w fun e w' => e = .returned (.bool (lr c)) ∧ w = w' := by
  have hc := c.toNat_lt
  have hl := (low c).toNat_lt
  have hv : lr c = (decide ((97 : Int) ≤ (low c).toNat) && decide (((low c).toNat : Int) ≤ 122)) := by
    have hlow : ((low c).toNat : Int) = if 65 ≤ c.toNat ∧ c.toNat ≤ 90 then c.toNat + 32 else c.toNat := by
      unfold low
      have e1 : (65 ≤ c ∧ c ≤ 90) ↔ (65 ≤ c.toNat ∧ c.toNat ≤ 90) := by rw [UInt8.le_iff_toNat_le, UInt8.le_iff_toNat_le]; exact Iff.rfl
      by_cases h : 65 ≤ c.toNat ∧ c.toNat ≤ 90
      · rw [if_pos (e1.2 h), if_pos h, UInt8.toNat_add]; simp; omega
      · rw [if_neg (fun q => h (e1.1 q)), if_neg h]
    unfold lr
    rw [hlow, Bool.eq_iff_iff]
    simp only [Bool.or_eq_true, Bool.and_eq_true, decide_eq_true_eq, UInt8.le_iff_toNat_le]
    have e65 : (65 : UInt8).toNat = 65 := rfl
    have e90 : (90 : UInt8).toNat = 90 := rfl
    have e97 : (97 : UInt8).toNat = 97 := rfl
    have e122 : (122 : UInt8).toNat = 122 := rfl
    rw [e65, e90, e97, e122]
    split <;> omega
  have HV := Lib.hid hv; clear hv hc
  by_cases h1 : (97 : Int) ≤ (low c).toNat
  · by_cases h2 : ((low c).toNat : Int) ≤ 122
    · go_enter Tryd.func99, Tryd.ntmps99
      go_wp2_with (go_at_call 112; refine (lowerByte_any c _).mono ?_; rintro e w' ⟨rfl, rfl⟩)
      go_ret
      exact ⟨ret_bool (by rw [HV.out]; simp [h1, h2]), rfl⟩
    · go_enter Tryd.func99, Tryd.ntmps99
      go_wp2_with (go_at_call 112; refine (lowerByte_any c _).mono ?_; rintro e w' ⟨rfl, rfl⟩)
      go_ret
      exact ⟨ret_bool (by rw [HV.out]; simp [h1, h2]), rfl⟩
  · go_enter Tryd.func99, Tryd.ntmps99
    go_wp2_with (go_at_call 112; refine (lowerByte_any c _).mono ?_; rintro e w' ⟨rfl, rfl⟩)
    go_ret
    exact ⟨ret_bool (by rw [HV.out, decide_eq_false (by omega)]; rfl), rfl⟩

set_option maxHeartbeats 1000000 in
theorem lower_any (s : ByteArray) (w : World) (hs : s.size ≤ 140737488355328) :
    Calls Tryd.prog 102 #[.string s] w fun e w' => e = .returned (.string (B (lowL (L s)))) ∧ Below w.heap.size w w' := by
  obtain ⟨i0, hi, hz0, hz1, hz2⟩ := info_parts info_u8
  go_enter Tryd.func102, Tryd.ntmps102
  go_wp2_with (at_make; refine wpList_make_own _ rfl (.const (.int .i64 0)) (.tmp 6) 44 rfl w.heap.size 5 i0 (.int .u8 0) 1 Tryd.underlying44 hi hz0 hz1 .i64 .i64 _ s.size rfl rfl rfl (by rw [hz2]; omega) (by unfold maxLen; omega) (Nat.le_refl _) ?_; intro w1 hown hgrow)
  have hb0 : Below w.heap.size w w1 := (Below.refl w.heap.size w).grown hgrow (Nat.le_refl _) (by simp)
  have ho0 : OwnB w.heap.size w1 (.slice (some ⟨w.heap.size, 0, none⟩) 0 s.size) [] := hown
  clear hown hgrow
  go_loopw [3, 10] (fun v i wr => ∃ (k : Nat), i = .int .i64 k ∧ k ≤ s.size ∧ OwnB w.heap.size wr v (lowL ((L s).take k)) ∧ Below w.heap.size w wr) (fun _ i _ => s.size - (intOf i).toNat)
  case atStart => exact ⟨0, rfl, Nat.zero_le _, ho0, hb0⟩
  case round =>
    clear ho0 hb0
    obtain ⟨k, rfl, hks, hown, hbel⟩ := hrel
    have hN := hbel.size
    by_cases hp : k < s.size
    · have hlen : (lowL ((L s).take k)).length + 1 ≤ 140737488355328 := by rw [len_lowL, List.length_take, size_L]; omega
      go_wp2_with (first | (go_at_call 112; refine (lowerByte_any s[k] _).mono ?_; rintro e w' ⟨rfl, rfl⟩) | (at_builtin; refine app_byte wr rfl (.tmp 13) (.tmp 18) rfl w.heap.size _ (lowL ((L s).take k)) (low s[k]) rfl hown rfl hlen hN ?_; intro v2 w2 hown2 hk2))
      go_roundw
      case rel =>
        refine ⟨k + 1, by go_num, by omega, ?_, hk2 _ hbel⟩
        rw [take_snoc s k hp, lowL_append]
        exact hown2
      case measure => simp [intOf]; omega
    · have hcv := hown.string
      go_wp2
      go_ret
      refine ⟨ret_str ?_, hbel⟩
      rw [List.take_of_length_le (by rw [size_L]; omega)]

theorem same_any (a b : ByteArray) (w : World) (ha : a.size ≤ 140737488355328) (hb : b.size ≤ 140737488355328) :
    Calls Tryd.prog 108 #[.string a, .string b] w fun e w' => e = .returned (.bool (decide (lowL (L a) = lowL (L b)))) ∧ Below w.heap.size w w' := by
  go_enter Tryd.func108, Tryd.ntmps108
  go_wp2_with fail
  refine (lower_any a _ ha).mono ?_
  rintro e w1 ⟨rfl, hb1⟩
  go_wp2_with fail
  refine (lower_any b _ hb).mono ?_
  rintro e w2 ⟨rfl, hb2⟩
  go_wp2
  go_ret
  refine ⟨ret_bool ?_, bt hb1 hb2⟩
  rw [eq_of_toList]
  exact decide_eq_decide.2 ⟨B_inj, fun h => by rw [h]⟩

theorem trim_cut (s : ByteArray) (k m : Nat) (hkm : k < m) (hm : m ≤ s.size) : ((L s).drop k).take (m - k) = ((L s).drop k).take (m - 1 - k) ++ [s[m - 1]'(by omega)] := by
  have e : m - k = (m - 1 - k) + 1 := by omega
  rw [e, List.take_succ_eq_append_getElem (by rw [List.length_drop, size_L]; omega)]
  congr 2
  rw [List.getElem_drop]
  have : k + (m - 1 - k) = m - 1 := by omega
  simp only [this]
  rfl

set_option maxHeartbeats 1000000 in
theorem trim_any (s : ByteArray) (w : World) (hs : s.size ≤ 140737488355328) :
    Calls Tryd.prog 89 #[.string s] w fun e w' => e = .returned (.string (B (trimL (L s)))) ∧ w = w' := by
  go_enter Tryd.func89, Tryd.ntmps89
  go_wp2
  go_loop [3] (fun i => ∃ k : Nat, i = .int .i64 k ∧ k ≤ s.size ∧ trimS ((L s).drop k) = trimS (L s)) (fun i => s.size - (intOf i).toNat)
  case atStart => exact ⟨0, rfl, Nat.zero_le _, by simp⟩
  case round =>
    obtain ⟨k, rfl, hks, hc⟩ := hrel
    by_cases hp : k < s.size
    · rw [drop_cons s k hp] at hc
      cases hsp : sp s[k] with
      | true =>
        rw [trimS_sp _ hsp] at hc
        have HC := Lib.hid hc; have HS := Lib.hid hsp; clear hc hsp
        go_wp2_with (go_at_call 75; refine (space_any s[k] _).mono ?_; rw [HS.out]; rintro e w' ⟨rfl, rfl⟩)
        go_round
        case rel => exact ⟨k + 1, by go_num, by omega, HC.out⟩
        case measure => simp [intOf]; omega
      | false =>
        rw [trimS_no _ hsp, ← drop_cons s k hp] at hc
        have HC := Lib.hid hc; have HS := Lib.hid hsp; clear hc hsp
        go_wp2_with (go_at_call 75; refine (space_any s[k] _).mono ?_; rw [HS.out]; rintro e w' ⟨rfl, rfl⟩)
        go_loop [4] (fun i => ∃ m : Nat, i = .int .i64 m ∧ k ≤ m ∧ m ≤ s.size ∧ trimE (((L s).drop k).take (m - k)) = trimE ((L s).drop k)) (fun i => (intOf i).toNat)
        case atStart => exact ⟨s.size, rfl, hks, Nat.le_refl _, by rw [List.take_of_length_le (by rw [List.length_drop, size_L]; omega)]⟩
        case round =>
          obtain ⟨m, rfl, hkm, hms, hd⟩ := hrel
          by_cases hq : k < m
          · have hcut := trim_cut s k m hq hms
            cases hsq : sp (s[m - 1]'(by omega)) with
            | true =>
              rw [hcut, trimE_sp _ hsq] at hd
              have HD := Lib.hid hd; have HQ := Lib.hid hsq; clear hd hsq hcut
              have hm1 : 1 ≤ m := by omega
              obtain ⟨j, rfl⟩ : ∃ j, m = j + 1 := ⟨m - 1, by omega⟩
              go_wp2_with (go_at_call 75; refine (space_any (s[j]'(by omega)) _).mono ?_; rw [show sp (s[j]'(by omega)) = true from HQ.out]; rintro e w' ⟨rfl, rfl⟩)
              go_round
              case rel => exact ⟨j, by go_num, by omega, by omega, HD.out⟩
              case measure => simp [intOf]
            | false =>
              rw [hcut, trimE_no _ hsq, ← hcut] at hd
              have HD := Lib.hid hd; have HQ := Lib.hid hsq; clear hd hsq hcut
              obtain ⟨j, rfl⟩ : ∃ j, m = j + 1 := ⟨m - 1, by omega⟩
              go_wp2_with (go_at_call 75; refine (space_any (s[j]'(by omega)) _).mono ?_; rw [show sp (s[j]'(by omega)) = false from HQ.out]; rintro e w' ⟨rfl, rfl⟩)
              go_ret
              refine ⟨ret_str (B_of ?_), rfl⟩
              rw [L_extract, HD.out, trimL, ← HC.out]
          · have HD := Lib.hid hd; clear hd
            go_wp2
            go_ret
            refine ⟨ret_str (B_of ?_), rfl⟩
            have h1 := HD.out
            obtain rfl : m = k := by omega
            rw [Nat.sub_self, List.take_zero] at h1
            rw [L_extract, Nat.sub_self, List.take_zero, trimL, ← HC.out, ← h1, trimE_nil]
    · have HC := Lib.hid hc; clear hc
      go_wp2
      go_loop [4] (fun i => i = .int .i64 s.size) (fun _ => 0)
      case atStart => exact rfl
      case round =>
        subst hrel
        go_wp2
        go_ret
        refine ⟨ret_str (B_of ?_), rfl⟩
        have h1 := HC.out
        rw [drop_nil s k hp] at h1
        rw [L_extract, drop_nil s k hp, trimL, ← h1]
        simp [trimS_nil, trimE_nil]

/-- Block g holds these bytes, as a string's conversion lays them. -/
def Raw (w : World) (g : Nat) (l : List UInt8) : Prop := ∃ cs : Array Value, w.heap[g]? = some (.cells cs 5 (cs.size, cs.size + 1)) ∧ l.length ≤ cs.size ∧ ∀ j (h : j < l.length), cs[j]? = some (bc l[j])

theorem Raw.cell {w : World} {g : Nat} {l : List UInt8} (h : Raw w g l) (j : Nat) (hj : j < l.length) : w.cell? ⟨g, j, none⟩ = some (.int .u8 (l[j].toNat : Int)) := by
  obtain ⟨cs, hg, _, hc⟩ := h
  rw [cell_of_row w g j cs _ _ hg, hc j hj]
  rfl
theorem Raw.frozen {w : World} {g : Nat} {l : List UInt8} (h : Raw w g l) (j : Nat) (hj : j < l.length) : w.frozen? ⟨g, j, none⟩ = false := by
  obtain ⟨cs, hg, hl, _⟩ := h
  simp [World.frozen?, hg]
  omega
theorem Raw.set {w : World} {g : Nat} {l : List UInt8} (h : Raw w g l) (j : Nat) (y : UInt8) : Raw (w.setCell ⟨g, j, none⟩ (.int .u8 (y.toNat : Int))) g (l.set j y) := by
  obtain ⟨cs, hg, hl, hc⟩ := h
  refine ⟨cs.setIfInBounds j (.int .u8 (y.toNat : Int)), ?_, by simpa using hl, fun i hi => ?_⟩
  · simp [World.setCell, Array.getElem?_modify, hg]
  · rw [List.length_set] at hi
    rw [Array.getElem?_setIfInBounds, List.getElem_set]
    by_cases hij : j = i
    · subst hij
      simp [bc]
      omega
    · simp [hij, hc i hi]
theorem Raw.string {w : World} {g c : Nat} {l : List UInt8} (h : Raw w g l) : (convert 44 9 (.slice (some ⟨g, 0, none⟩) l.length c)).run Tryd.prog w = .ok (.string (B l)) w :=
  run_convert_bytes_back w _ _ _ ⟨g, 0, none⟩ c l Tryd.underlying44 Tryd.underlying5 Tryd.underlying9 fun j hj => by
    rw [WideShapes.add_plain, Nat.zero_add]
    exact h.cell j hj
theorem Raw.new (w : World) (s : ByteArray) : Raw (Lib.bytesWorld w 5 s) w.heap.size (L s) := by
  refine ⟨_, Lib.bytesWorld_at_new w _ s, ?_, fun j hj => ?_⟩
  · unfold Lib.bytesCells
    rw [size_L]
    simp
  · rw [size_L] at hj
    simp [Lib.bytesCells, Array.getElem?_append, hj, bc]
end Go.Proofs.YtoijeljjehjfjaaDoor.Fo

namespace Go.Proofs.YtoijeljjehjfjaaDoor.Re
set_option maxRecDepth 100000
set_option linter.unusedSimpArgs false
set_option linter.unusedVariables false
open Go.RowKit Ba Rm
theorem below_new (w : World) (o : Obj) : Below w.heap.size w (w.alloc o) := (Below.refl _ _).alloc (Nat.le_refl _) _

theorem valid_of (m : Nat) (h : m < 1114112) (hs : ¬ (55296 ≤ m ∧ m ≤ 57343)) : Utf8.valid (m : Int) = true := by
  unfold Utf8.valid
  simp only [Bool.or_eq_true, Bool.and_eq_true, decide_eq_true_eq]
  omega
theorem enc_eq (m : Nat) (h : m < 1114112) (hs : ¬ (55296 ≤ m ∧ m ≤ 57343)) : Utf8.encode (m : Int) = B (enc m) := by
  have hv := valid_of m h hs
  unfold Utf8.encode enc
  rw [hv]
  simp only [if_true, Int.toNat_natCast]
  clear hv h hs
  by_cases h0 : m < 128
  · rw [if_pos h0, if_pos h0]; rfl
  by_cases h1 : m < 2048
  · rw [if_neg h0, if_pos h1, if_neg h0, if_pos h1]; rfl
  by_cases h2 : m < 65536
  · rw [if_neg h0, if_neg h1, if_pos h2, if_neg h0, if_neg h1, if_pos h2]; rfl
  · rw [if_neg h0, if_neg h1, if_neg h2, if_neg h0, if_neg h1, if_neg h2]; rfl

theorem code_any (n : Int) (w : World) (hn : (Lit.int .i64 n).wf = true) : Calls Tryd.prog 116 #[.int .i64 n] w fun e w' => e = .returned (.string (B (code n))) ∧ w = w' := by
  by_cases hb : n < 1 ∨ 1114111 < n ∨ (55296 ≤ n ∧ n ≤ 57343)
  · have hc : code n = [239, 191, 189] := by
      have : bad n = true := by unfold bad; rcases hb with h | h | ⟨h1, h2⟩ <;> simp [*]
      unfold code
      rw [if_pos this]
    rw [hc]
    rcases hb with h | h | ⟨h1, h2⟩
    all_goals
      go_enter Tryd.func116, Tryd.ntmps116
      go_wp2
      go_ret
      exact ⟨rfl, rfl⟩
  · have hbad : bad n = false := by
      unfold bad
      simp only [Bool.or_eq_false_iff, decide_eq_false_iff_not, Bool.and_eq_false_iff]
      omega
    by_cases h13 : n = 13
    · subst h13
      go_enter Tryd.func116, Tryd.ntmps116
      go_wp2
      go_ret
      exact ⟨rfl, rfl⟩
    · obtain ⟨m, rfl⟩ : ∃ m : Nat, n = m := ⟨n.toNat, by omega⟩
      have hc : code m = enc m := by
        unfold code
        rw [hbad, if_neg (by simp), if_neg h13]
        rfl
      rw [hc, ← enc_eq m (by omega) (by omega)]
      clear hc hbad hn
      have h1 : ¬ (m : Int) < 1 := by omega
      have h2 : ¬ 1114111 < (m : Int) := by omega
      by_cases h3 : 55296 ≤ (m : Int)
      · have h4 : ¬ (m : Int) ≤ 57343 := by omega
        clear hb
        go_enter Tryd.func116, Tryd.ntmps116
        go_wp2
        go_ret
        exact ⟨rfl, rfl⟩
      · clear hb
        go_enter Tryd.func116, Tryd.ntmps116
        go_wp2
        go_ret
        exact ⟨rfl, rfl⟩

end Go.Proofs.YtoijeljjehjfjaaDoor.Re

namespace Go.Proofs.YtoijeljjehjfjaaDoor.Re
set_option maxRecDepth 100000
set_option linter.unusedSimpArgs false
set_option linter.unusedVariables false
open Go.RowKit Ba Rm
def digI (x : Int) : Int := if 48 ≤ x ∧ x ≤ 57 then x - 48 else if 97 ≤ x ∧ x ≤ 102 then x - 87 else if 65 ≤ x ∧ x ≤ 70 then x - 55 else -1
theorem dig_eq (c : UInt8) : digI c.toNat = dig c := by
  unfold digI dig
  repeat' split
  all_goals omega
theorem digI_far (x : Int) (h : 128 ≤ x) : digI x = -1 := by
  unfold digI
  repeat' split
  all_goals omega
theorem seven (x : Int) : x < 48 ∨ (48 ≤ x ∧ x ≤ 57) ∨ (57 < x ∧ x < 65) ∨ (65 ≤ x ∧ x ≤ 70) ∨ (70 < x ∧ x < 97) ∨ (97 ≤ x ∧ x ≤ 102) ∨ 102 < x := by omega

set_option maxHeartbeats 1000000 in
theorem digit_any (r : Int) (h0 : 0 ≤ r) (h1 : r ≤ 1114111) (w : World) : Calls Tryd.prog 115 #[.int .i32 r] w fun e w' => e = .returned (.int .i64 (digI r)) ∧ w = w' := by
  rcases seven r with h | ⟨h, h'⟩ | ⟨h, h'⟩ | ⟨h, h'⟩ | ⟨h, h'⟩ | ⟨h, h'⟩ | h
  all_goals
    go_enter Tryd.func115, Tryd.ntmps115
    go_wp2
    go_ret
    refine ⟨ret_int ?_, rfl⟩
    unfold digI
    repeat' split
    all_goals omega

theorem ret_sb {a b : ByteArray} {x y : Bool} (h : a = b) (k : x = y) : Ending.returned (.tuple #[.string a, .bool x]) = .returned (.tuple #[.string b, .bool y]) := by rw [h, k]
theorem u8_ne {a b : UInt8} (h : a ≠ b) : (((a.toNat : Int)) == (b.toNat : Int)) = false := by rw [u8_eq]; simpa using h

theorem bodyOf_any (s : ByteArray) (w : World) (hs : s.size ≤ 140737488355328) : Calls Tryd.prog 97 #[.string s] w fun e w' => e = .returned (.tuple #[.string (B ((bod (L s)).getD [])), .bool (bod (L s)).isSome]) ∧ w = w' := by
  go_enter Tryd.func97, Tryd.ntmps97
  go_wp2
  go_loop [7] (fun i => ∃ k : Nat, i = .int .i64 k ∧ k ≤ s.size ∧ bod (L s) = (bod ((L s).drop k)).map ((L s).take k ++ ·)) (fun i => s.size - (intOf i).toNat)
  case atStart => exact ⟨0, rfl, Nat.zero_le _, by rw [List.drop_zero, List.take_zero]; cases bod (L s) <;> rfl⟩
  case round =>
    obtain ⟨k, rfl, hks, hc⟩ := hrel
    by_cases hp : k < s.size
    · rw [drop_cons s k hp] at hc
      by_cases he : s[k] = 59
      · have hb : (((s[k].toNat : Int)) == 59) = true := by rw [he]; rfl
        rw [bod, if_pos he] at hc
        have HC := Lib.hid hc; clear hc he
        go_wp2
        go_ret2
        refine ⟨ret_sb ?_ ?_, rfl⟩
        · rw [HC.out]
          exact B_of (by rw [L_extract]; simp)
        · rw [HC.out]; rfl
      · have hb : (((s[k].toNat : Int)) == 59) = false := u8_ne (b := 59) he
        by_cases h8 : s[k] = 38
        · have hb8 : (((s[k].toNat : Int)) == 38) = true := by rw [h8]; rfl
          rw [bod, if_neg he, if_pos h8] at hc
          have HC := Lib.hid hc; clear hc he h8
          go_wp2
          go_ret2
          refine ⟨ret_sb ?_ ?_, rfl⟩
          · rw [HC.out]; rfl
          · rw [HC.out]; rfl
        · have hb8 : (((s[k].toNat : Int)) == 38) = false := u8_ne (b := 38) h8
          rw [bod, if_neg he, if_neg h8] at hc
          have HC := Lib.hid hc; clear hc he h8
          go_wp2
          go_round
          case rel =>
            refine ⟨k + 1, by go_num, by omega, ?_⟩
            rw [HC.out, take_snoc s k hp]
            cases bod ((L s).drop (k + 1)) <;> simp
          case measure => simp [intOf]; omega
    · rw [drop_nil s k hp] at hc
      have HC := Lib.hid hc; clear hc
      go_wp2
      go_ret2
      refine ⟨ret_sb ?_ ?_, rfl⟩
      · rw [HC.out]; rfl
      · rw [HC.out]; rfl

/-- A body's kind: by its name, decimal, hexadecimal. -/
def knd (l : List UInt8) : Int := if l.head? = some 35 then (if l[1]? = some 120 ∨ l[1]? = some 88 then 2 else 1) else 0
def rst (l : List UInt8) : List UInt8 := if l.head? = some 35 then (if l[1]? = some 120 ∨ l[1]? = some 88 then l.drop 2 else l.drop 1) else l
theorem L_at (s : ByteArray) (k : Nat) (h : k < s.size) : (L s)[k]? = some s[k] := by
  rw [List.getElem?_eq_getElem (by rw [size_L]; exact h)]; rfl
theorem L_far (s : ByteArray) (k : Nat) (h : ¬ k < s.size) : (L s)[k]? = none := List.getElem?_eq_none (by rw [size_L]; omega)
theorem head_at (s : ByteArray) : (L s).head? = (L s)[0]? := by rw [List.head?_eq_getElem?]
theorem empty_ne {s : ByteArray} (h : 0 < s.size) : (s.toList == (ByteArray.mk #[]).toList) = false := by
  rw [eq_of_toList, decide_eq_false_iff_not]
  intro e
  rw [e] at h
  exact absurd h (by decide)

theorem below_dN {N : Nat} {w0 w : World} (h : Below N w0 w) (n : Nat) : Below N w0 (w.drewN n) := ⟨h.1, h.2, h.3, h.4, h.5⟩
theorem ne_empty {s : ByteArray} (h : 0 < s.size) : ¬ s.toList = [] := fun e => by
  have : s.size = 0 := by rw [← size_L, ← toList_L, e]; rfl
  omega

set_option maxHeartbeats 1000000 in
theorem kindOf_any (s : ByteArray) (w : World) (hs : s.size ≤ 140737488355328) : Calls Tryd.prog 109 #[.string s] w fun e w' => e = .returned (.tuple #[.int .i64 (knd (L s)), .string (B (rst (L s)))]) ∧ Below w.heap.size w w' := by
  by_cases h0 : 0 < s.size
  · have he0 := empty_ne h0
    have hn0 := ne_empty h0
    have hie : s.toList.isEmpty = false := by simpa using hn0
    by_cases h35 : s[0] = 35
    · have hb : (((s[0].toNat : Int)) != 35) = false := by rw [h35]; rfl
      have hh : (L s).head? = some 35 := by rw [head_at, L_at s 0 h0, h35]
      by_cases hx : ∃ h1 : 1 < s.size, s[1] = 120 ∨ s[1] = 88
      · obtain ⟨h1, hx⟩ := hx
        have k1 : knd (L s) = 2 := by
          unfold knd
          rw [if_pos hh, L_at s 1 h1, if_pos (by simpa using hx)]
        have k2 : B (rst (L s)) = s.extract 2 s.size := by
          unfold rst
          rw [if_pos hh, L_at s 1 h1, if_pos (by simpa using hx), ← L_end, B_L]
        rw [k1, k2]
        clear k1 k2 hh h35
        rcases hx with hx | hx
        · have hb1 : (((s[1].toNat : Int)) == 120) = true := by rw [hx]; rfl
          clear hx
          have hz : (2 : Int) ≤ s.size := by omega
          go_enter Tryd.func109, Tryd.ntmps109
          go_wp2
          go_quiet (fail)
          go_wp2
          go_ret2
          exact ⟨rfl, below_dN (Below.refl _ _) _⟩
        · have hb1 : (((s[1].toNat : Int)) == 120) = false := by rw [hx]; rfl
          have hb2 : (((s[1].toNat : Int)) == 88) = true := by rw [hx]; rfl
          clear hx
          have hz : (2 : Int) ≤ s.size := by omega
          go_enter Tryd.func109, Tryd.ntmps109
          go_wp2
          go_quiet (fail)
          go_wp2
          go_ret2
          exact ⟨rfl, below_dN (Below.refl _ _) _⟩
      · have hx' : ¬ ((L s)[1]? = some 120 ∨ (L s)[1]? = some 88) := by
          intro e
          by_cases h1 : 1 < s.size
          · rw [L_at s 1 h1] at e
            exact hx ⟨h1, by simpa using e⟩
          · rw [L_far s 1 h1] at e
            simp at e
        have k1 : knd (L s) = 1 := by
          unfold knd
          rw [if_pos hh, if_neg hx']
        have k2 : B (rst (L s)) = s.extract 1 s.size := by
          unfold rst
          rw [if_pos hh, if_neg hx', ← L_end, B_L]
        rw [k1, k2]
        clear k1 k2 hh h35 hx'
        by_cases h1 : 1 < s.size
        · have hb1 : (((s[1].toNat : Int)) == 120) = false := u8_ne (b := 120) fun e => hx ⟨h1, .inl e⟩
          have hb2 : (((s[1].toNat : Int)) == 88) = false := u8_ne (b := 88) fun e => hx ⟨h1, .inr e⟩
          clear hx
          go_enter Tryd.func109, Tryd.ntmps109
          go_wp2
          go_quiet (fail)
          go_wp2
          go_ret2
          exact ⟨rfl, below_dN (Below.refl _ _) _⟩
        · clear hx
          go_enter Tryd.func109, Tryd.ntmps109
          go_wp2
          go_quiet (fail)
          go_wp2
          go_ret2
          exact ⟨rfl, below_dN (Below.refl _ _) _⟩
    · have hb : (((s[0].toNat : Int)) != 35) = true := by
        have := u8_ne (b := 35) h35
        rw [show (((35 : UInt8).toNat : Int)) = 35 from rfl] at this
        rw [bne, this]; rfl
      have hh : ¬ (L s).head? = some 35 := by rw [head_at, L_at s 0 h0]; simpa using h35
      have k1 : knd (L s) = 0 := by
        unfold knd
        rw [if_neg hh]
      have k2 : B (rst (L s)) = s := by
        unfold rst
        rw [if_neg hh, B_L]
      rw [k1, k2]
      clear k1 k2 hh h35
      go_enter Tryd.func109, Tryd.ntmps109
      go_wp2
      go_ret2
      exact ⟨rfl, Below.refl _ _⟩
  · obtain rfl : s = ByteArray.mk #[] := L_inj (by
      have : (L s).length = 0 := by rw [size_L]; omega
      exact List.eq_nil_of_length_eq_zero this)
    go_enter Tryd.func109, Tryd.ntmps109
    go_wp2
    go_ret2
    exact ⟨rfl, Below.refl _ _⟩

end Go.Proofs.YtoijeljjehjfjaaDoor.Re
