/-
  Walks of stage 4: textsEnd, Normal.
-/
import Derived.Test.YtblefklfgaohfaaRowWalkK
namespace Go.Proofs.Ytblefklfgaohfaa.Ro
set_option linter.unusedVariables false
set_option linter.unusedSimpArgs false
open Go.RowKit Ba

/-- The place behind so many more texts. -/
def j1 (n k : Nat) : Nat := k + 1 + n

set_option maxRecDepth 100000 in
set_option maxHeartbeats 1000000 in
theorem textsEnd_any (A : Option Addr) (c : Nat) (l : List Cw) (j : Nat) (x : Cw) (w : World) (hr : Rr w w.heap.size A l) (hc : l.length ≤ c) (hm : l.length ≤ 1000000) (hx : l.drop j = x :: l.drop (j + 1)) (hj : j < l.length) :
    Calls Try.prog 49 #[.slice A l.length c, .int .i64 j] w fun e w' => e = .returned (.int .i64 (j1 (nexts x.ro.depth (ros (l.drop (j + 1)))) j : Nat)) ∧ ∃ n, w' = w.drewN n := by
  obtain ⟨E, hE⟩ : ∃ E, j1 (nexts x.ro.depth (ros (l.drop (j + 1)))) j = E := ⟨_, rfl⟩
  rw [hE]
  obtain ⟨b, off, y, rfl, hb, hdy, hy, _, _⟩ := hr.at_ j hj
  obtain rfl : y = x := by
    rw [hx] at hdy
    injection hdy with e
    exact e.symm
  have hg0 := (range5 hy).1
  have HE := Lib.hid hE
  clear hE hy hdy hx
  go_enter Try.func49, Try.ntmps49
  go_wp2
  go_loopw [5] (fun v wr => ∃ k : Nat, v = .int .i64 k ∧ k ≤ l.length ∧ k + nexts y.ro.depth (ros (l.drop k)) = E ∧ ∃ n, wr = w.drewN n) (fun v _ => l.length - (intOf v).toNat)
  case atStart => exact ⟨j + 1, by go_num, by omega, HE.out, 0, rfl⟩
  case round =>
    clear HE
    obtain ⟨k, rfl, hk, hv, n, rfl⟩ := hrel
    by_cases hp : k < l.length
    · obtain ⟨b', off', z, e, _, hdz, hz, _, _⟩ := hr.at_ k hp
      injection e with e
      injection e with e1 e2
      subst e1 e2
      have hz0 := (range5 hz).1
      have hz1 := (range5 hz).2.1
      cases h1 : z.ro.kind == 1 with
      | true =>
        cases h2 : z.ro.depth == y.ro.depth with
        | true =>
          have h3 : nexts y.ro.depth (ros (l.drop k)) = nexts y.ro.depth (ros (l.drop (k + 1))) + 1 := take_step hdz (by rw [h1, h2]; rfl)
          rw [h3] at hv
          have HV := Lib.hid hv
          clear hv hz hdz h3
          go_wp2
          go_quiet (fail)
          go_wp2
          go_roundw
          case rel => exact ⟨k + 1, by go_num, by omega, by have := HV.out; omega, _, rfl⟩
          case measure => simp [intOf]; omega
        | false =>
          have h3 : nexts y.ro.depth (ros (l.drop k)) = 0 := take_stop hdz (by rw [h1, h2]; rfl)
          rw [h3] at hv
          have HV := Lib.hid hv
          clear hv hz hdz h3
          go_wp2
          go_quiet (fail)
          go_wp2
          go_ret
          exact ⟨ret_int (by rw [← HV.out]; rfl), _, World.drewN_drewN _ _ _⟩
      | false =>
        have h3 : nexts y.ro.depth (ros (l.drop k)) = 0 := take_stop hdz (by rw [h1]; rfl)
        rw [h3] at hv
        have HV := Lib.hid hv
        clear hv hz hdz h3
        go_wp2
        go_quiet (fail)
        go_wp2
        go_ret
        exact ⟨ret_int (by rw [← HV.out]; rfl), _, World.drewN_drewN _ _ _⟩
    · have hp' : decide (k < l.length) = false := decide_eq_false hp
      rw [List.drop_eq_nil_of_le (by omega)] at hv
      have HV := Lib.hid hv
      clear hv
      go_wp2
      go_quiet (fail)
      go_wp2
      go_ret
      exact ⟨ret_int (by rw [← HV.out]; rfl), _, World.drewN_drewN _ _ _⟩

theorem normal_text {x : Ro} {r : List Ro} (h : x.kind = 1) : normal (x :: r) = (if txt (x :: r.take (nexts x.depth r)) = [] then [] else [⟨x.depth, 1, .empty, B (txt (x :: r.take (nexts x.depth r))), []⟩]) ++ normal (r.drop (nexts x.depth r)) := by
  rw [normal, if_pos h]
theorem normal_other {x : Ro} {r : List Ro} (h : ¬ x.kind = 1) : normal (x :: r) = x :: normal r := by
  rw [normal, if_neg h]
theorem normal_nil : normal [] = [] := by rw [normal]
theorem len_nexts (d : Int) (l : List Ro) : nexts d l ≤ l.length := (List.takeWhile_sublist _).length_le

theorem part_cons {l : List Cw} {k n : Nat} {x : Cw} (h : l.drop k = x :: l.drop (k + 1)) : (l.take (k + 1 + n)).drop k = x :: (l.drop (k + 1)).take n := by
  rw [List.drop_take, h, show k + 1 + n - k = n + 1 from by omega, List.take_succ_cons]
theorem Rr.mids {w : World} {N b off : Nat} {l : List Cw} (h : Rr w N (some ⟨b, off, none⟩) l) (i j cap : Nat) (hij : i ≤ j) (hj : j ≤ l.length) (hc : l.length ≤ cap) (hne : i < cap) :
    Rr w N (some ⟨b, off + i * 5, none⟩) ((l.take j).drop i) := by
  have := h.mid i j cap hij hj hc hne
  rw [Option.map_some, WideShapes.add_plain] at this
  exact this
theorem fr_none (N : Nat) (w : World) (r : Ro) (h : r.attrs = []) : Fr N w ⟨r, none, 0⟩ := by
  refine ⟨?_, by rw [h]; exact fun _ hx => by simp at hx⟩
  show w.ownsRow N _ 2 (.slice none r.attrs.length 0) r.attrs.length (r.attrs.flatMap acells)
  rw [h]
  exact World.ownsRow_nil w N _ 2
abbrev textRow (d : Int) (D : ByteArray) : Cw := ⟨⟨d, 1, .empty, D, []⟩, none, 0⟩

set_option maxRecDepth 100000 in
set_option maxHeartbeats 1000000 in
theorem Normal_any (A : Option Addr) (c : Nat) (l : List Cw) (w : World) (hr : Rr w w.heap.size A l) (hc : l.length ≤ c) (hm : l.length ≤ 1000000) (ht : (txt (ros l)).length ≤ 1000000000) (hf : Few (ros l)) (hh : Held (ros l)) :
    Calls Try.prog 33 #[.slice A l.length c] w fun e w' => ∃ v l', e = .returned v ∧ Ow w.heap.size w' v l' ∧ (∀ x ∈ l', Fr w.heap.size w' x) ∧ ros l' = normal (ros l) ∧ Below w.heap.size w w' := by
  obtain ⟨V, hV⟩ : ∃ V, normal (ros l) = V := ⟨_, rfl⟩
  rw [hV]
  have HV := Lib.hid hV
  clear hV
  go_enter Try.func33, Try.ntmps33
  go_wp2
  go_loopw [3, 4] (fun v i wr => ∃ (k : Nat) (acc : List Cw), i = .int .i64 k ∧ k ≤ l.length ∧ acc.length ≤ k ∧ Ow w.heap.size wr v acc ∧ (∀ x ∈ acc, Fr w.heap.size wr x) ∧ ros acc ++ normal (ros (l.drop k)) = V ∧ Below w.heap.size w wr) (fun _ i _ => l.length - (intOf i).toNat)
  case atStart => exact ⟨0, [], rfl, by omega, by simp, Ow.nil _ _, fun _ h => by simp at h, HV.out, Below.refl _ _⟩
  case round =>
    clear HV
    obtain ⟨k, acc, rfl, hk, hal, hown, hfr, hros, hbel⟩ := hrel
    have hsz := hbel.size
    have hrw := hr.below hbel
    by_cases hp : k < l.length
    · obtain ⟨b, off, x, hA, hb, hdx, hx, hxa, hxm⟩ := hrw.at_ k hp
      have g0 := (range5 hx).1
      have g1 := (range5 hx).2.1
      rw [hdx, ros_cons] at hros
      subst hA
      cases h1 : x.ro.kind == 1 with
      | false =>
        have h1' : (x.ro.kind != 1) = true := by rw [bne, h1]; rfl
        rw [normal_other (beq_eq_false_iff_ne.1 h1)] at hros
        have hpart := hrw.mids k (k + 1) c (by omega) (by omega) hc (by omega)
        have e : (l.take (k + 1)).drop k = [x] := by rw [show k + 1 = k + 1 + 0 from rfl, part_cons hdx]; rfl
        rw [e] at hpart
        have HP := Lib.hid hpart; have HO := Lib.hid hown; have HF := Lib.hid hfr; have HR := Lib.hid hros
        have hfx : Few (ros [x]) := fun z hz => by
          obtain rfl := List.mem_singleton.1 hz
          exact hf.at_ hxm
        have hhx : Held (ros [x]) := fun z hz => by
          obtain rfl := List.mem_singleton.1 hz
          exact hh _ (List.mem_map.2 ⟨x, hxm, rfl⟩)
        clear hpart hown hfr hros hrw e hdx hx hxa
        have HFX := Lib.hid hfx; have HHX := Lib.hid hhx
        clear hfx hhx
        have hal2 : acc.length ≤ 1000000 := by omega
        go_wp2_with fail
        refine (appendMoved_any w.heap.size _ acc _ (c - k) [x] 0 wr hsz HO.out HF.out hal2 HP.out (by simp; omega) (by simp) HFX.out HHX.out.fits).mono ?_
        rintro e w2 ⟨v2, l2, rfl, ho2, hf2, hr2, hb2⟩
        rw [deeper_zero] at hr2
        have HO2 := Lib.hid ho2; have HF2 := Lib.hid hf2; have HR2 := Lib.hid hr2; have HB2 := Lib.hid hb2
        clear ho2 hf2 hr2 hb2
        go_wp2
        go_roundw
        case rel =>
          have hl2 : l2.length = acc.length + 1 := by rw [← len_ros, HR2.out, List.length_append, len_ros]; rfl
          exact ⟨k + 1, l2, by go_num, by omega, by omega, HO2.out, HF2.out, by rw [HR2.out, List.append_assoc]; exact HR.out, hbel.trans HB2.out⟩
        case measure => simp [intOf]; omega
      | true =>
        have h1' : (x.ro.kind != 1) = false := by rw [bne, h1]; rfl
        rw [normal_text (beq_iff_eq.1 h1)] at hros
        obtain ⟨n, hn⟩ : ∃ n, nexts x.ro.depth (ros (l.drop (k + 1))) = n := ⟨_, rfl⟩
        have hnl := len_nexts x.ro.depth (ros (l.drop (k + 1)))
        rw [hn, len_ros, List.length_drop] at hnl
        rw [hn] at hros
        obtain ⟨E, hE⟩ : ∃ E, k + 1 + n = E := ⟨_, rfl⟩
        have hEl : E ≤ l.length := by omega
        have hEk : k < E := by omega
        have hpart := hrw.mids k E c (by omega) hEl hc (by omega)
        have hlen := len_part l k E hEl
        have hpr : ros ((l.take E).drop k) = x.ro :: (ros (l.drop (k + 1))).take n := by rw [← hE, part_cons hdx, ros_cons, ros_take]
        have hte : (txt (ros ((l.take E).drop k))).length ≤ 1000000000 := by rw [ros_part]; exact Nat.le_trans (txt_part _ _ _) ht
        rw [← hpr, ros_drop, List.drop_drop, hE] at hros
        have hee : j1 (nexts x.ro.depth (ros (l.drop (k + 1)))) k = E := by rw [hn, ← hE]; rfl
        obtain ⟨m, hm1⟩ : ∃ m, (l.take E).drop k = m := ⟨_, rfl⟩
        rw [hm1] at hpart hlen hte hros
        obtain ⟨D, hD⟩ : ∃ D, B (txt (ros m)) = D := ⟨_, rfl⟩
        rw [hD] at hros
        have HP := Lib.hid hpart; have HO := Lib.hid hown; have HF := Lib.hid hfr; have HL := Lib.hid hlen; have HD := Lib.hid hD; have HTE := Lib.hid hte; have HEE := Lib.hid hee; have HRW := Lib.hid hrw; have HDX := Lib.hid hdx
        have hal2 : acc.length ≤ 1000000 := by omega
        have hmc : m.length ≤ c - k := by omega
        have hmm : m.length ≤ 1000000 := by omega
        cases hte0 : txt (ros m) with
        | nil =>
          rw [if_pos hte0, List.nil_append] at hros
          have hDl : D.toList = [] := by rw [← hD, toList_B, hte0]
          have hDe : D.toList.isEmpty = true := by rw [hDl]; rfl
          have HR := Lib.hid hros
          clear hpart hown hfr hlen hte hee hrw hdx hm1 hE hn hx hxa hros hte0 hD hpr
          go_wp2_with fail
          refine (textsEnd_any _ c l k x wr (HRW.out.more hsz) hc hm HDX.out hp).mono ?_
          rintro e w1 ⟨rfl, nd, rfl⟩
          rw [HEE.out]
          go_wp2_with fail
          rw [← HL.out]
          refine (joined_any _ (c - k) m (wr.drewN nd) (by exact HP.out.more hsz) hmc hmm HTE.out).mono ?_
          rintro e w2 ⟨rfl, hb2⟩
          rw [HD.out]
          have HB2 : Hid (Below wr.heap.size wr w2) := Lib.hid ((below_dN (Below.refl _ wr) nd).trans hb2)
          clear hb2
          go_wp2
          go_roundw
          case rel => exact ⟨E, acc, rfl, by omega, by omega, HO.out.below HB2.out, fun z hz => (HF.out z hz).below HB2.out, HR.out, hbel.trans (HB2.out.mono hsz)⟩
          case measure => simp [intOf]; omega
        | cons u us =>
          rw [if_neg (by rw [hte0]; exact fun h => by cases h)] at hros
          have hDl : ¬ D.toList = [] := by rw [← hD, toList_B, hte0]; exact fun h => by cases h
          have hDe : D.toList.isEmpty = false := by rw [← hD, toList_B, hte0]; rfl
          have HR := Lib.hid hros
          clear hpart hown hfr hlen hte hee hrw hdx hm1 hE hn hx hxa hros hte0 hD hpr
          go_wp2_with fail
          refine (textsEnd_any _ c l k x wr (HRW.out.more hsz) hc hm HDX.out hp).mono ?_
          rintro e w1 ⟨rfl, nd, rfl⟩
          rw [HEE.out]
          go_wp2_with fail
          rw [← HL.out]
          refine (joined_any _ (c - k) m (wr.drewN nd) (by exact HP.out.more hsz) hmc hmm HTE.out).mono ?_
          rintro e w2 ⟨rfl, hb2⟩
          rw [HD.out]
          have HB2 : Hid (Below wr.heap.size wr w2) := Lib.hid ((below_dN (Below.refl _ wr) nd).trans hb2)
          clear hb2
          have hgd : w2.cell? ⟨b, off + k * 5, none⟩ = some (.int .i64 x.ro.depth) := (HB2.out.cell (p := ⟨b, off + k * 5, none⟩) (Nat.lt_of_lt_of_le hb hsz)).trans g0
          have hsz2 := Nat.le_trans hsz HB2.out.size
          have HFN : Hid (Fr w.heap.size w2 (textRow x.ro.depth D)) := Lib.hid (fr_none _ _ _ rfl)
          have hal3 : acc.length ≤ 2000000 := by omega
          go_wp2_with (at_builtin; refine app_row w2 rfl (.tmp 36) (.tmp 44) rfl w.heap.size _ acc (textRow x.ro.depth D) rfl (HO.out.below HB2.out) HFN.out.att HFN.out.ap w2.heap.size rfl rfl hal3 hsz2 ?_; intro v3 w3 ho3 hk3 hf3)
          go_roundw
          case rel =>
            refine ⟨E, acc ++ [textRow x.ro.depth D], rfl, by omega, by simp; omega, ho3, fun z hz => ?_, by rw [ros_append, List.append_assoc]; exact HR.out, hk3 w (hbel.trans (HB2.out.mono hsz))⟩
            rcases List.mem_append.1 hz with h | h
            · exact hf3 z ((HF.out z h).below HB2.out)
            · obtain rfl := List.mem_singleton.1 h
              exact fr_none _ _ _ rfl
          case measure => simp [intOf]; omega
    · rw [List.drop_eq_nil_of_le (by omega)] at hros
      have HR := Lib.hid hros
      clear hros hrw
      go_wp2
      go_ret
      exact ⟨_, acc, rfl, hown, hfr, by rw [← HR.out, show ros [] = [] from rfl, normal_nil, List.append_nil], hbel⟩

end Go.Proofs.Ytblefklfgaohfaa.Ro
