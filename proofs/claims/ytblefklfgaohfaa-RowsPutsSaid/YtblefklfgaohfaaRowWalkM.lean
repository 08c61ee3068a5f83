/-
  Walks of stage 4: boltingref04.Normal.
-/
import Derived.Test.YtblefklfgaohfaaRowWalkL
import Derived.StillTailTactics
import Derived.Deep.RegionHeld3
import Derived.Deep.CutRange
namespace Go.Proofs.Ytblefklfgaohfaa.Ro
set_option linter.unusedVariables false
set_option linter.unusedSimpArgs false
open Go.RowKit Ba

def sets (xs : List Value) : Nat → List Value → List Value
  | _, [] => xs
  | o, v :: r => sets (xs.set o v) (o + 1) r
theorem sets_end : ∀ (vs us F : List Value), us.length = vs.length → sets (F ++ us) F.length vs = F ++ vs
  | [], us, F, h => by
    have : us = [] := List.eq_nil_of_length_eq_zero h
    rw [this]
    rfl
  | v :: r, [], F, h => by cases h
  | v :: r, u :: us, F, h => by
    rw [sets, List.set_append_right F.length v (Nat.le_refl _), Nat.sub_self, List.set_cons_zero]
    have := sets_end r us (F ++ [v]) (by simpa using h)
    rw [List.length_append, List.append_assoc, List.append_assoc] at this
    exact this
theorem stored_many {N g n cap : Nat} {e : TypeId} {size : Nat} : ∀ (vs : List Value) (o : Nat) (w : World) (xs : List Value), w.ownsRow N e size (.slice (some ⟨g, 0, none⟩) n cap) n xs →
    (w.setCells g o vs).ownsRow N e size (.slice (some ⟨g, 0, none⟩) n cap) n (sets xs o vs) ∧ w.grownBy (w.setCells g o vs) (some g)
  | [], o, w, xs, h => ⟨h, World.grownBy.refl w _⟩
  | v :: r, o, w, xs, h => by
    obtain ⟨h1, h2⟩ := World.ownsRow.stored h o v
    obtain ⟨h3, h4⟩ := stored_many r (o + 1) _ _ h1
    exact ⟨h3, h2.trans h4⟩
/-- The last row of the call's own, stored anew. -/
theorem Ow.last {N g cap : Nat} {w : World} {init : List Cw} {y y' : Cw} (h : Ow N w (.slice (some ⟨g, 0, none⟩) (init.length + 1) cap) (init ++ [y])) (hy : Att w w.heap.size y') (ha : Ap w N y') :
    Ow N (w.setCells g (init.length * 5) (cells y')) (.slice (some ⟨g, 0, none⟩) (init.length + 1) cap) (init ++ [y']) ∧ w.grownBy (w.setCells g (init.length * 5) (cells y')) (some g) := by
  obtain ⟨h1, h2⟩ := h
  rw [List.length_append, List.flatMap_append] at h1
  have h1 : w.ownsRow N 43 5 (.slice (some ⟨g, 0, none⟩) (init.length + 1) cap) (init.length + 1) (init.flatMap cells ++ cells y) := by simpa using h1
  obtain ⟨h3, h4⟩ := stored_many (cells y') (init.length * 5) w _ h1
  rw [← flat_len cells 5 len_cells init, sets_end (cells y') (cells y) _ rfl, flat_len cells 5 len_cells init] at h3
  refine ⟨⟨?_, fun z hz => ?_⟩, h4⟩
  · rw [List.length_append, List.flatMap_append]
    simpa using h3
  · rcases List.mem_append.1 hz with hz | hz
    · have := h2 z (List.mem_append_left _ hz)
      exact ⟨this.1.grown h1 h4 this.2, this.2.grown h1 h4⟩
    · obtain rfl := List.mem_singleton.1 hz
      exact ⟨hy.grown h1 h4 ha, ha.grown h1 h4⟩
theorem Ow.there {N g cap : Nat} {w : World} {init : List Cw} {y : Cw} (h : Ow N w (.slice (some ⟨g, 0, none⟩) (init.length + 1) cap) (init ++ [y])) : w.there g (init.length * 5) 5 := by
  obtain ⟨h1, _⟩ := h
  rw [List.length_append, List.flatMap_append] at h1
  have h1 : w.ownsRow N 43 5 (.slice (some ⟨g, 0, none⟩) (init.length + 1) cap) (init.length + 1) (init.flatMap cells ++ cells y) := by simpa using h1
  intro j hj
  refine ⟨?_, h1.frozenAt _⟩
  rw [h1.cellAt _ (by omega), List.getElem?_eq_getElem (by rw [List.length_append, flat_len cells 5 len_cells, len_cells]; omega)]
  rfl

/-- One more row, as the reference joins it to what there is. -/
def stepN (acc : List Ro) (x : Ro) : List Ro :=
  if x.kind = 1 ∧ x.data.toList = [] then acc
  else match acc.getLast? with
    | some y => if x.kind = 1 ∧ y.kind = 1 ∧ y.depth = x.depth then acc.dropLast ++ [{ y with data := y.data ++ x.data }] else acc ++ [x]
    | none => acc ++ [x]
theorem stepN_empty {acc : List Ro} {x : Ro} (h1 : x.kind = 1) (h2 : x.data.toList = []) : stepN acc x = acc := if_pos ⟨h1, h2⟩
theorem stepN_first {x : Ro} (h : ¬ (x.kind = 1 ∧ x.data.toList = [])) : stepN [] x = [x] := if_neg h
theorem stepN_join {acc : List Ro} {x y : Ro} (h : ¬ (x.kind = 1 ∧ x.data.toList = [])) (hj : x.kind = 1 ∧ y.kind = 1 ∧ y.depth = x.depth) : stepN (acc ++ [y]) x = acc ++ [{ y with data := y.data ++ x.data }] := by
  rw [stepN, if_neg h, List.getLast?_concat, List.dropLast_concat]
  exact if_pos hj
theorem stepN_more {acc : List Ro} {x y : Ro} (h : ¬ (x.kind = 1 ∧ x.data.toList = [])) (hj : ¬ (x.kind = 1 ∧ y.kind = 1 ∧ y.depth = x.depth)) : stepN (acc ++ [y]) x = acc ++ [y] ++ [x] := by
  rw [stepN, if_neg h, List.getLast?_concat]
  exact if_neg hj
def refNormal (l : List Ro) : List Ro := l.foldl stepN []
theorem fold_at {l : List Cw} {k : Nat} {x : Cw} (h : l.drop k = x :: l.drop (k + 1)) : refNormal (ros (l.take (k + 1))) = stepN (refNormal (ros (l.take k))) x.ro := by
  rw [take_at h, ros_append, refNormal, List.foldl_append]
  rfl
theorem txt_stepN (acc : List Ro) (x : Ro) : txt (stepN acc x) = txt acc ++ txt [x] := by
  by_cases h : x.kind = 1 ∧ x.data.toList = []
  · rw [stepN_empty h.1 h.2, txt_text h.1, ← toList_L, h.2, List.append_nil]
  · rcases List.eq_nil_or_concat acc with rfl | ⟨init, y, rfl⟩
    · rw [stepN_first h]
      rfl
    · rw [List.concat_eq_append]
      by_cases hj : x.kind = 1 ∧ y.kind = 1 ∧ y.depth = x.depth
      · rw [stepN_join h hj, txt_append, txt_append, List.append_assoc, txt_text hj.1, txt_text hj.2.1, txt_text (x := { y with data := y.data ++ x.data }) hj.2.1, L_append]
      · rw [stepN_more h hj, txt_append]
theorem txt_refNormal (l : List Ro) : txt (refNormal l) = txt l := by
  unfold refNormal
  have : ∀ (l acc : List Ro), txt (l.foldl stepN acc) = txt acc ++ txt l := by
    intro l
    induction l with
    | nil => intro acc; exact (List.append_nil _).symm
    | cons x r ih =>
      intro acc
      rw [List.foldl_cons, ih, txt_stepN, List.append_assoc, ← txt_append]
      rfl
  rw [this]
  rfl

theorem ros_single : ∀ {l : List Cw} {r : Ro}, ros l = [r] → ∃ z, l = [z] ∧ z.ro = r
  | [], _, h => by cases h
  | [z], _, h => ⟨z, rfl, by injection h⟩
  | _ :: _ :: _, _, h => by
    rw [ros_cons, ros_cons] at h
    injection h with _ h
    cases h
theorem Ow.pos {N : Nat} {w : World} {v : Value} {init : List Cw} {y : Cw} (h : Ow N w v (init ++ [y])) :
    ∃ g cap, v = .slice (some ⟨g, 0, none⟩) (init.length + 1) cap ∧ init.length + 1 ≤ cap ∧ cap ≤ maxLen ∧ N ≤ g ∧ g < w.heap.size ∧ w.rangeAt g (init.length * 5) (cells y) := by
  have hl : (init ++ [y]).length = init.length + 1 := by simp
  obtain ⟨A, c, hv, h1, h2, _, h4⟩ := h.form
  rcases h.1.2 with ⟨_, hn⟩ | ⟨g, cap, cur, hv', hg, hh, hn, hm, _⟩
  · omega
  · rw [hl] at hv' hn
    refine ⟨g, cap, hv', hn, hm, hg, (Array.getElem?_eq_some_iff.1 hh).1, ?_⟩
    obtain ⟨b, off, e, _, hc⟩ := h4.1 (by omega)
    rw [hv', hl] at hv
    injection hv with e1
    rw [← e1] at e
    injection e with e
    injection e with e2 e3
    subst e2 e3
    have := hc init.length (by omega)
    rw [Nat.zero_add] at this
    simpa using this

/-- A row with another one's data behind its own. -/
abbrev joinRow (y x : Cw) : Cw := ⟨⟨y.ro.depth, y.ro.kind, y.ro.name, y.ro.data ++ x.ro.data, y.ro.attrs⟩, y.A, y.c⟩
theorem one5 (a b : Int) (c d : ByteArray) (e : Option Addr) (f g : Nat) : (#[.int .i64 a, .int .i64 b, .string c, .string d, .slice e f g] : Array Value).all (·.oneCell') = true := by simp [Value.oneCell']
theorem box_new (w : World) (x : Cw) : (w.alloc (rowO x)).cell? ⟨w.heap.size, 0, none⟩ = some (.int .i64 x.ro.depth) ∧ (w.alloc (rowO x)).cell? ⟨w.heap.size, 1, none⟩ = some (.int .i64 x.ro.kind) ∧ (w.alloc (rowO x)).cell? ⟨w.heap.size, 2, none⟩ = some (.string x.ro.name) ∧ (w.alloc (rowO x)).cell? ⟨w.heap.size, 3, none⟩ = some (.string x.ro.data) ∧ (w.alloc (rowO x)).cell? ⟨w.heap.size, 4, none⟩ = some (.slice x.A x.ro.attrs.length x.c) ∧ ∀ j, (w.alloc (rowO x)).frozen? ⟨w.heap.size, j, none⟩ = false := by
  refine ⟨box_at w x 0, box_at w x 1, box_at w x 2, box_at w x 3, box_at w x 4, fun j => ?_⟩
  unfold World.frozen?
  rw [heap_alloc_new]
  simp

set_option maxRecDepth 100000 in
set_option maxHeartbeats 2000000 in
theorem refNormal_any (A : Option Addr) (c : Nat) (l : List Cw) (w : World) (hr : Rr w w.heap.size A l) (hc : l.length ≤ c) (hm : l.length ≤ 1000000) (ht : (txt (ros l)).length ≤ 1000000000) (hf : Few (ros l)) (hh : Held (ros l)) :
    Calls Try.prog 34 #[.slice A l.length c] w fun e w' => ∃ v l', e = .returned v ∧ Ow w.heap.size w' v l' ∧ ros l' = refNormal (ros l) ∧ Below w.heap.size w w' := by
  go_enter Try.func34, Try.ntmps34
  go_wp2
  go_loopw [3, 4] (fun v i wr => ∃ (k : Nat) (acc : List Cw), i = .int .i64 k ∧ k ≤ l.length ∧ acc.length ≤ k ∧ Ow w.heap.size wr v acc ∧ ros acc = refNormal (ros (l.take k)) ∧ Below w.heap.size w wr) (fun _ i _ => l.length - (intOf i).toNat)
  case atStart => exact ⟨0, [], rfl, by omega, by simp, Ow.made w, rfl, below_new w _⟩
  case round =>
    obtain ⟨k, acc, rfl, hk, hal, hown, hros, hbel⟩ := hrel
    have hsz := hbel.size
    have hrw := hr.below hbel
    by_cases hp : k < l.length
    · obtain ⟨b, off, x, hA, hb, hdx, hx, hxa, hxm⟩ := hrw.at_ k hp
      have hstep := fold_at hdx
      rw [← hros] at hstep
      have htx := txt_refNormal (ros (l.take (k + 1)))
      rw [hstep] at htx
      have htl := txt_take (ros l) (k + 1)
      rw [ros_take, ← htx, txt_stepN, List.length_append] at htl
      subst hA
      have hpart := hrw.mids k (k + 1) c (by omega) (by omega) hc (by omega)
      have e : (l.take (k + 1)).drop k = [x] := by rw [show k + 1 = k + 1 + 0 from rfl, part_cons hdx]; rfl
      rw [e] at hpart
      have hfx : Few (ros [x]) := fun z hz => by
        obtain rfl := List.mem_singleton.1 hz
        exact hf.at_ hxm
      have hhx : Held (ros [x]) := fun z hz => by
        obtain rfl := List.mem_singleton.1 hz
        exact hh _ (List.mem_map.2 ⟨x, hxm, rfl⟩)
      have HP := Lib.hid (hpart.more hsz); have HO := Lib.hid hown; have HST := Lib.hid hstep; have HTL := Lib.hid htl; have HX := Lib.hid (range5 hx)
      have HFX := Lib.hid hfx; have HHX := Lib.hid hhx
      clear hpart hown hros hrw e hdx hx hxa hstep htx htl hfx hhx
      go_wp2_with fail
      refine (Moved_any _ (c - k) [x] 0 wr HP.out (by simp; omega) (by simp) HFX.out HHX.out.fits).mono ?_
      rintro e w1 ⟨v5, l5, rfl, ho5, hf5, hr5, hb5⟩
      rw [deeper_zero] at hr5
      obtain ⟨x5, hl5, hx5⟩ := ros_single hr5
      subst hl5
      obtain ⟨A5, c5, rfl, hc5, _, hn5, hrr5⟩ := ho5.form
      have hap5 : ∀ y ∈ [x5], Ap w1 w.heap.size y := fun y hy => ((hf5 y hy).mono hsz).ap
      have HO1 : Hid (Ow w.heap.size w1 _ acc) := Lib.hid (HO.out.below hb5)
      have g0 := (hb5.cell (p := ⟨b, off + k * 5, none⟩) (Nat.lt_of_lt_of_le hb hsz)).trans HX.out.1
      have g1 := (hb5.cell (p := ⟨b, off + k * 5 + 1, none⟩) (Nat.lt_of_lt_of_le hb hsz)).trans HX.out.2.1
      have g3 := (hb5.cell (p := ⟨b, off + k * 5 + 3, none⟩) (Nat.lt_of_lt_of_le hb hsz)).trans HX.out.2.2.2.1
      have hsz1 : w.heap.size ≤ w1.heap.size := Nat.le_trans hsz hb5.size
      have HX5 := Lib.hid hx5; have HR5 := Lib.hid hrr5; have HAP5 := Lib.hid hap5; have HN5 := Lib.hid hn5; have HB5 := Lib.hid hb5
      clear ho5 hf5 hr5 hb5 hx5 hrr5 hap5 hn5 HO HP HX HFX HHX
      cases h1 : x.ro.kind == 1 with
      | false =>
        have hst : ¬ (x.ro.kind = 1 ∧ x.ro.data.toList = []) := fun h => by rw [h.1] at h1; cases h1
        have hk1 : ¬ x.ro.kind = 1 := beq_eq_false_iff_ne.1 h1
        have HS : Hid (stepN (ros acc) x.ro = ros acc ++ [x.ro]) := by
          rcases List.eq_nil_or_concat (ros acc) with e | ⟨i0, y0, e⟩
          · rw [e]; exact stepN_first hst
          · rw [e, List.concat_eq_append]; exact stepN_more hst (fun h => hk1 h.1)
        clear hst hk1
        obtain ⟨va, ca, hva, hca1, _, _, _⟩ := HO1.out.form
        subst hva
        go_wp2
        go_quiet (fail)
        go_wp2_with (at_builtin; refine app_rows (w1.drewN nq) rfl (.tmp 89) (.tmp 90) rfl w.heap.size _ acc [x5] A5 c5 rfl (by exact HO1.out) rfl HN5.out (by exact HR5.out) (by exact HAP5.out) (by simp; omega) hsz1 ?_; intro v3 w3 ho3 hk3 _)
        go_roundw
        case rel =>
          exact ⟨k + 1, acc ++ [x5], by go_num, by omega, by simp at hal ⊢; omega, ho3, by rw [ros_append, HST.out, HS.out, ← HX5.out]; rfl, hk3 w (below_dN (hbel.trans (HB5.out.mono hsz)) nq)⟩
        case measure => simp [intOf]; omega
      | true =>
        have hk1 : x.ro.kind = 1 := beq_iff_eq.1 h1
        by_cases hD : x.ro.data.toList = []
        · have hDe : x.ro.data.toList.isEmpty = true := by rw [hD]; rfl
          have HS := Lib.hid (stepN_empty (acc := ros acc) hk1 hD)
          clear hk1
          obtain ⟨va, ca, hva, hca1, _, _, _⟩ := HO1.out.form
          subst hva
          go_wp2
          go_roundw
          case rel => exact ⟨k + 1, acc, by go_num, by omega, by omega, HO1.out, by rw [HST.out, HS.out], hbel.trans (HB5.out.mono hsz)⟩
          case measure => simp [intOf]; omega
        · have hDe : x.ro.data.toList.isEmpty = false := by
            cases e : x.ro.data.toList with
            | nil => exact absurd e hD
            | cons _ _ => rfl
          have hst : ¬ (x.ro.kind = 1 ∧ x.ro.data.toList = []) := fun h => hD h.2
          rcases List.eq_nil_or_concat acc with hacc | ⟨init, y, hacc⟩
          · subst hacc
            have HS : Hid (stepN (ros []) x.ro = ros [] ++ [x.ro]) := Lib.hid (stepN_first hst)
            clear hst hk1
            obtain ⟨va, ca, hva, hca1, _, _, _⟩ := HO1.out.form
            subst hva
            have hz : decide (0 < 0) = false := rfl
            go_wp2
            go_quiet (fail)
            go_wp2_with (at_builtin; refine app_rows (w1.drewN nq) rfl (.tmp 89) (.tmp 90) rfl w.heap.size _ [] [x5] A5 c5 rfl (by exact HO1.out) rfl HN5.out (by exact HR5.out) (by exact HAP5.out) (by simp) hsz1 ?_; intro v3 w3 ho3 hk3 _)
            go_roundw
            case rel =>
              exact ⟨k + 1, [] ++ [x5], by go_num, by omega, by simp, ho3, by rw [ros_append, HST.out, HS.out, ← HX5.out]; rfl, hk3 w (below_dN (hbel.trans (HB5.out.mono hsz)) nq)⟩
            case measure => simp [intOf]; omega
          · rw [List.concat_eq_append] at hacc
            subst hacc
            obtain ⟨g, cap, hv, hcap, hcm, hg1, hg2, hyc⟩ := HO1.out.pos
            subst hv
            unfold maxLen at hcm
            obtain ⟨y0, y1, y2, y3, y4⟩ := range5 (v0 := .int .i64 y.ro.depth) (v1 := .int .i64 y.ro.kind) (v2 := .string y.ro.name) (v3 := .string y.ro.data) (v4 := .slice y.A y.ro.attrs.length y.c) hyc
            have hil : (init ++ [y]).length = init.length + 1 := by simp
            have hil2 : init.length ≤ 1000000 := by rw [hil] at hal; omega
            have hros : ros (init ++ [y]) = ros init ++ [y.ro] := ros_append _ _
            cases hyk : y.ro.kind == 1 with
            | false =>
              have HS : Hid (stepN (ros (init ++ [y])) x.ro = ros (init ++ [y]) ++ [x.ro]) := Lib.hid (by rw [hros]; exact stepN_more hst fun h => beq_eq_false_iff_ne.1 hyk h.2.1)
              clear hst hk1 hyc hil hros
              go_wp2
              go_quiet (fail)
              go_wp2_with (at_builtin; refine app_rows (w1.drewN nq) rfl (.tmp 89) (.tmp 90) rfl w.heap.size _ (init ++ [y]) [x5] A5 c5 rfl (by exact HO1.out) rfl HN5.out (by exact HR5.out) (by exact HAP5.out) (by simp; omega) hsz1 ?_; intro v3 w3 ho3 hk3 _)
              go_roundw
              case rel =>
                exact ⟨k + 1, (init ++ [y]) ++ [x5], by go_num, by omega, by simp at hal ⊢; omega, ho3, by rw [ros_append, HST.out, HS.out, ← HX5.out]; rfl, hk3 w (below_dN (hbel.trans (HB5.out.mono hsz)) nq)⟩
              case measure => simp [intOf]; omega
            | true =>
              cases hyd : y.ro.depth == x.ro.depth with
              | false =>
                have HS : Hid (stepN (ros (init ++ [y])) x.ro = ros (init ++ [y]) ++ [x.ro]) := Lib.hid (by rw [hros]; exact stepN_more hst fun h => beq_eq_false_iff_ne.1 hyd h.2.2)
                clear hst hk1 hyc hil hros
                go_wp2
                go_quiet (fail)
                go_wp2_with (at_builtin; refine app_rows (w1.drewN nq) rfl (.tmp 89) (.tmp 90) rfl w.heap.size _ (init ++ [y]) [x5] A5 c5 rfl (by exact HO1.out) rfl HN5.out (by exact HR5.out) (by exact HAP5.out) (by simp; omega) hsz1 ?_; intro v3 w3 ho3 hk3 _)
                go_roundw
                case rel =>
                  exact ⟨k + 1, (init ++ [y]) ++ [x5], by go_num, by omega, by simp at hal ⊢; omega, ho3, by rw [ros_append, HST.out, HS.out, ← HX5.out]; rfl, hk3 w (below_dN (hbel.trans (HB5.out.mono hsz)) nq)⟩
                case measure => simp [intOf]; omega
              | true =>
                have HS : Hid (stepN (ros (init ++ [y])) x.ro = ros init ++ [{ y.ro with data := y.ro.data ++ x.ro.data }]) := Lib.hid (by rw [hros]; exact stepN_join hst ⟨hk1, beq_iff_eq.1 hyk, beq_iff_eq.1 hyd⟩)
                have hb2 : y.ro.data.size + x.ro.data.size ≤ 140737488351232 := by
                  have := HTL.out
                  rw [hros, txt_append, txt_text (beq_iff_eq.1 hyk), txt_text hk1, List.length_append, size_L, size_L] at this
                  omega
                have hya := HO1.out.2 y (by simp)
                have HYA := Lib.hid hya
                clear hst hk1 hil hros hya
                go_wp2
                go_quiet (fail)
                obtain ⟨w2, hw2⟩ : ∃ w2, w1.drewN nq = w2 := ⟨_, rfl⟩
                have hb12 : Below w1.heap.size w1 w2 := hw2 ▸ below_dN (Below.refl _ w1) nq
                have hs12 : w2.heap.size = w1.heap.size := by rw [← hw2]; rfl
                have hyr : w2.rangeAt g (init.length * 5) [.int .i64 y.ro.depth, .int .i64 y.ro.kind, .string y.ro.name, .string y.ro.data, .slice y.A y.ro.attrs.length y.c] := hw2 ▸ hyc
                have hx3 : w2.cell? ⟨b, off + k * 5 + 3, none⟩ = some (.string x.ro.data) := hw2 ▸ g3
                rw [hw2]
                clear hw2 hyc y0 y1 y2 y3 y4 g0 g1 g3
                have HB12 := Lib.hid hb12; have HS12 := Lib.hid hs12
                clear hb12 hs12
                go_wp2_with (refine wpList_load_mid rfl 43 (.tmp 73) rfl g (init.length * 5) rfl _ _ hyr Try.underlying43 rfl size_row ?_)
                have HO2 : Hid (Ow w.heap.size w2 _ (init ++ [y])) := Lib.hid (HO1.out.below HB12.out)
                obtain ⟨W3, hW3⟩ : ∃ W3, w2.alloc (rowO y) = W3 := ⟨_, rfl⟩
                obtain ⟨c0, c1, c2, c3, c4, cf⟩ := box_new w2 y
                have hx3' : (w2.alloc (rowO y)).cell? ⟨b, off + k * 5 + 3, none⟩ = some (.string x.ro.data) := (World.cell?_alloc_some w2 _ _ (by rw [hx3]; rfl)).trans hx3
                have hB3 : Below w2.heap.size w2 (w2.alloc (rowO y)) := below_new w2 _
                rw [hW3] at c0 c1 c2 c3 c4 cf hx3' hB3
                show Code.wp _ _ _ _ (w2.alloc (rowO y))
                rw [hW3]
                have HB3 := Lib.hid hB3
                clear hW3 hB3 hx3 hyr
                obtain ⟨n2, hn2⟩ : ∃ n2, w2.heap.size = n2 := ⟨_, rfl⟩
                rw [hn2] at c0 c1 c2 c3 c4 cf ⊢
                have cf3 := cf 3
                clear cf
                have HN2 := Lib.hid hn2
                clear hn2
                have hb3 : ¬ (y.ro.data.size + x.ro.data.size > 9223372036854775807) := by omega
                go_still_tail 9, (by kernel_rfl)
                change wpList _ _ _ _ _ W3.drew
                obtain ⟨W4, hW4⟩ : ∃ W4, W3.drew = W4 := ⟨_, rfl⟩
                have hB4 : Below W3.heap.size W3 W4 := hW4 ▸ below_dN (Below.refl _ W3) 1
                replace c0 : W4.cell? ⟨n2, 0, none⟩ = some (.int .i64 y.ro.depth) := by rw [← hW4]; exact c0
                replace c1 : W4.cell? ⟨n2, 1, none⟩ = some (.int .i64 y.ro.kind) := by rw [← hW4]; exact c1
                replace c2 : W4.cell? ⟨n2, 2, none⟩ = some (.string y.ro.name) := by rw [← hW4]; exact c2
                replace c3 : W4.cell? ⟨n2, 3, none⟩ = some (.string y.ro.data) := by rw [← hW4]; exact c3
                replace c4 : W4.cell? ⟨n2, 4, none⟩ = some (.slice y.A y.ro.attrs.length y.c) := by rw [← hW4]; exact c4
                replace cf3 : W4.frozen? ⟨n2, 3, none⟩ = false := by rw [← hW4]; exact cf3
                rw [hW4]
                have HB4 := Lib.hid (bt HB3.out hB4)
                clear hW4 hB4 hx3'
                have hB5 : Below w2.heap.size w2 (W4.setCell ⟨n2, 3, none⟩ (.string (y.ro.data ++ x.ro.data))) := HB4.out.setCell (by rw [HN2.out]; exact Nat.le_refl _) _
                have HO5 := Lib.hid (HO2.out.below hB5)
                have HB5' := Lib.hid hB5
                clear hB5
                have HT : Hid ((W4.setCell ⟨n2, 3, none⟩ (.string (y.ro.data ++ x.ro.data))).there g (init.length * 5) (#[.int .i64 y.ro.depth, .int .i64 y.ro.kind, .string y.ro.name, .string (y.ro.data ++ x.ro.data), .slice y.A y.ro.attrs.length y.c] : Array Value).size) := Lib.hid HO5.out.there
                have H1 : Hid ((#[.int .i64 y.ro.depth, .int .i64 y.ro.kind, .string y.ro.name, .string (y.ro.data ++ x.ro.data), .slice y.A y.ro.attrs.length y.c] : Array Value).all (·.oneCell') = true) := Lib.hid (one5 _ _ _ _ _ _ _)
                go_wp2_with (show wpList _ _ _ (⟨none, Op.store 43 (.tmp 88) (.tmp 87), _, _, _, _⟩ :: _) _ _; refine wpList_store_mid rfl 43 (.tmp 88) (.tmp 87) rfl g (init.length * 5) #[.int .i64 y.ro.depth, .int .i64 y.ro.kind, .string y.ro.name, .string (y.ro.data ++ x.ro.data), .slice y.A y.ro.attrs.length y.c] rfl rfl HT.out size_row H1.out ?_)
                have hat5 : Att (W4.setCell ⟨n2, 3, none⟩ (.string (y.ro.data ++ x.ro.data))) (W4.setCell ⟨n2, 3, none⟩ (.string (y.ro.data ++ x.ro.data))).heap.size (joinRow y x) := (((show Att w1 w1.heap.size (joinRow y x) from HYA.out.1).below HB12.out).more HB12.out.size |>.below HB5'.out).more HB5'.out.size
                have hap5' : Ap (W4.setCell ⟨n2, 3, none⟩ (.string (y.ro.data ++ x.ro.data))) w.heap.size (joinRow y x) := ((show Ap w1 w.heap.size (joinRow y x) from HYA.out.2).below HB12.out).below HB5'.out
                obtain ⟨ho6, hg6⟩ := HO5.out.last hat5 hap5'
                have hs2 : w.heap.size ≤ w2.heap.size := Nat.le_trans hsz1 HB12.out.size
                have hb6 := ((hbel.trans (HB5.out.mono hsz)).trans (HB12.out.mono hsz1)).trans (HB5'.out.mono hs2)
                have hb7 := hb6.grown hg6 hb6.size fun q hq => by injection hq with hq; omega
                have HO6 := Lib.hid ho6; have HB7 := Lib.hid hb7
                clear ho6 hb7 hg6 hb6 hap5' hat5
                go_roundw
                case rel => exact ⟨k + 1, init ++ [joinRow y x], by go_num, by omega, by simp at hal ⊢; omega, HO6.out, by rw [HST.out, HS.out, ros_append]; rfl, HB7.out⟩
                case measure => simp [intOf]; omega
    · rw [List.take_of_length_le (by omega)] at hros
      have HR := Lib.hid hros
      clear hros hrw
      go_wp2
      go_ret
      exact ⟨_, acc, rfl, hown, HR.out, hbel⟩

end Go.Proofs.Ytblefklfgaohfaa.Ro
