/-
  Walks of stage 5's laws NamesKinds, NamesMay, NamesCloses: each returns true.
-/
import Derived.Test.YtjgnbmebmjecpaaNamesFixed
import Derived.Test.YtjgnbmebmjecpaaNamesWalkD
import Derived.Test.YtjgnbmebmjecpaaNamesWalkE
import Derived.Test.YtjgnbmebmjecpaaSmall
namespace Go.Proofs.Ytjgnbmebmjecpaa.Na
set_option linter.unusedSimpArgs false
set_option linter.unusedVariables false
open Go.RowKit Ba Fm Fo Nm

theorem has1 (w : World) (v : Value) (l : List ByteArray) (s : ByteArray) (q : Bool) (N : Nat) (hv : Sown N w v l) (hl : l.length ≤ 1000) (h : isIn s l = q) :
    Calls Try.prog 12 #[v, .string s] w fun e w' => e = .returned (.bool q) ∧ w = w' := by
  have k := hasS w v l s (sv_own hv) hl
  rw [h] at k
  exact k

set_option maxRecDepth 100000 in
set_option maxHeartbeats 4000000 in
theorem law_kinds (s : ByteArray) (hs : s.size ≤ 140737488351232) (w : World) :
    Calls Try.prog 3 #[.string s] w fun e w' => e = .returned (.bool true) ∧ Below w.heap.size w w' := by
  obtain ⟨q1, h1⟩ : ∃ q, isIn s voidL = q := ⟨_, rfl⟩
  obtain ⟨q2, h2⟩ : ∃ q, isIn s rawL = q := ⟨_, rfl⟩
  obtain ⟨q3, h3⟩ : ∃ q, isIn s softL = q := ⟨_, rfl⟩
  obtain ⟨q4, h4⟩ : ∃ q, isIn s blockL = q := ⟨_, rfl⟩
  obtain ⟨q5, h5⟩ : ∃ q, isIn s goneL = q := ⟨_, rfl⟩
  have H1 := Lib.hid h1; have H2 := Lib.hid h2; have H3 := Lib.hid h3; have H4 := Lib.hid h4; have H5 := Lib.hid h5
  clear h1 h2 h3 h4 h5
  go_enter Try.func3, Try.ntmps3
  go_wp2_with fail
  refine (fixed_any w).mono ?_
  rintro e w1 ⟨rfl, hb1⟩
  go_wp2_with fail
  refine (void1 w1 s q1 H1.out).mono ?_
  rintro e w2 ⟨rfl, hb2⟩
  have hb2 := bt hb1 hb2
  clear hb1
  go_wp2_with fail
  refine (refVoid_any w2).mono ?_
  rintro e w3 ⟨v3, rfl, ho3, hb3⟩
  have hb3 := bt hb2 hb3
  clear hb2
  go_wp2_with fail
  refine (has1 w3 v3 voidL s q1 _ ho3 (by decide) H1.out).mono ?_
  rintro e w4 ⟨rfl, rfl⟩
  clear ho3
  go_wp2_with fail
  refine (raw1 w3 s q2 H2.out).mono ?_
  rintro e w4 ⟨rfl, hb4⟩
  have hb4 := bt hb3 hb4
  clear hb3
  go_wp2_with fail
  refine (refRaw_any w4).mono ?_
  rintro e w5 ⟨v5, rfl, ho5, hb5⟩
  have hb5 := bt hb4 hb5
  clear hb4
  go_wp2_with fail
  refine (has1 w5 v5 rawL s q2 _ ho5 (by decide) H2.out).mono ?_
  rintro e w6 ⟨rfl, rfl⟩
  clear ho5
  go_wp2_with fail
  refine (soft1 w5 s q3 H3.out).mono ?_
  rintro e w6 ⟨rfl, hb6⟩
  have hb6 := bt hb5 hb6
  clear hb5
  go_wp2_with fail
  refine (refSoft_any w6).mono ?_
  rintro e w7 ⟨v7, rfl, ho7, hb7⟩
  have hb7 := bt hb6 hb7
  clear hb6
  go_wp2_with fail
  refine (has1 w7 v7 softL s q3 _ ho7 (by decide) H3.out).mono ?_
  rintro e w8 ⟨rfl, rfl⟩
  clear ho7
  go_wp2_with fail
  refine (block1 w7 s q4 H4.out).mono ?_
  rintro e w8 ⟨rfl, hb8⟩
  have hb8 := bt hb7 hb8
  clear hb7
  go_wp2_with fail
  refine (refBlock_any w8).mono ?_
  rintro e w9 ⟨v9, rfl, ho9, hb9⟩
  have hb9 := bt hb8 hb9
  clear hb8
  go_wp2_with fail
  refine (has1 w9 v9 blockL s q4 _ ho9 (by decide) H4.out).mono ?_
  rintro e w10 ⟨rfl, rfl⟩
  clear ho9
  go_wp2_with fail
  refine (gone1 w9 s q5 H5.out).mono ?_
  rintro e w10 ⟨rfl, hb10⟩
  have hb10 := bt hb9 hb10
  clear hb9
  go_wp2_with fail
  refine (refGone_any w10).mono ?_
  rintro e w11 ⟨v11, rfl, ho11, hb11⟩
  have hb11 := bt hb10 hb11
  clear hb10
  go_wp2_with fail
  refine (has1 w11 v11 goneL s q5 _ ho11 (by decide) H5.out).mono ?_
  rintro e w12 ⟨rfl, rfl⟩
  clear ho11
  go_wp2
  go_ret
  exact ⟨rfl, hb11⟩

theorem may1 (w : World) (s : ByteArray) (a q : Bool) (hs : s.size ≤ 140737488355328) (h : mayB s a = q) : Calls Try.prog 29 #[.string s, .bool a] w fun e w' => e = .returned (.bool q) ∧ w = w' := by
  have k := may_any s a w hs
  rw [h] at k
  exact k

set_option maxRecDepth 100000 in
set_option maxHeartbeats 4000000 in
theorem law_may (s : ByteArray) (hs : s.size ≤ 140737488351232) (w : World) :
    Calls Try.prog 5 #[.string s] w fun e w' => e = .returned (.bool true) ∧ Below w.heap.size w w' := by
  obtain ⟨q1, h1⟩ : ∃ q, rightB s = q := ⟨_, rfl⟩
  obtain ⟨q2, h2⟩ : ∃ q, attrB s = q := ⟨_, rfl⟩
  have h3 : mayB s false = q1 := h1
  have h4 : mayB s true = q2 := h2
  have H1 := Lib.hid h1; have H2 := Lib.hid h2; have H3 := Lib.hid h3; have H4 := Lib.hid h4
  clear h1 h2 h3 h4
  go_enter Try.func5, Try.ntmps5
  go_wp2_with fail
  refine (fixed_any w).mono ?_
  rintro e w1 ⟨rfl, hb1⟩
  go_wp2_with fail
  refine (right1 w1 s q1 (by omega) H1.out).mono ?_
  rintro e w2 ⟨rfl, rfl⟩
  go_wp2_with fail
  refine (may1 w1 s false q1 (by omega) H3.out).mono ?_
  rintro e w2 ⟨rfl, rfl⟩
  go_wp2_with fail
  refine (attr1 w1 s q2 (by omega) H2.out).mono ?_
  rintro e w2 ⟨rfl, rfl⟩
  go_wp2_with fail
  refine (may1 w1 s true q2 (by omega) H4.out).mono ?_
  rintro e w2 ⟨rfl, rfl⟩
  go_wp2
  go_ret
  exact ⟨rfl, hb1⟩

theorem refCloses1 (w : World) (s : ByteArray) (r : List ByteArray) (h : closesL s = r) : Calls Try.prog 25 #[.string s] w fun e w' => ∃ v, e = .returned v ∧ Sown w.heap.size w' v r ∧ Below w.heap.size w w' := by
  have k := refCloses_any s w
  rw [h] at k
  exact k
theorem refWalls1 (w : World) (s : ByteArray) (r : List ByteArray) (h : wallsL s = r) : Calls Try.prog 26 #[.string s] w fun e w' => ∃ v, e = .returned v ∧ Sown w.heap.size w' v r ∧ Below w.heap.size w w' := by
  have k := refWalls_any s w
  rw [h] at k
  exact k
theorem is1 (w : World) (v : Value) (l : List ByteArray) (hv : Sv w w.heap.size v l) (hl : l.length ≤ 60) (ha : Asc lt l) :
    Calls Try.prog 27 #[v] w fun e w' => e = .returned (.bool true) ∧ Below w.heap.size w w' := by
  obtain ⟨A, c, rfl, _, _, hr⟩ := hv
  exact is_any A c l w hr (by omega) ha

set_option maxRecDepth 100000 in
set_option maxHeartbeats 4000000 in
theorem law_closes (s : ByteArray) (hs : s.size ≤ 140737488351232) (w : World) :
    Calls Try.prog 4 #[.string s] w fun e w' => e = .returned (.bool true) ∧ Below w.heap.size w w' := by
  obtain ⟨_, _, _, hl1, hl2⟩ := pair_facts s
  obtain ⟨ha1, ha2⟩ := pair_asc s
  obtain ⟨r, h1⟩ : ∃ r, closesL s = r := ⟨_, rfl⟩
  obtain ⟨t, h2⟩ : ∃ t, wallsL s = t := ⟨_, rfl⟩
  rw [h1] at hl1 ha1
  rw [h2] at hl2 ha2
  have H1 := Lib.hid h1; have H2 := Lib.hid h2; have HA1 := Lib.hid ha1; have HA2 := Lib.hid ha2
  clear h1 h2 ha1 ha2
  go_enter Try.func4, Try.ntmps4
  go_wp2
  go_loopw [3, 4, 5, 6, 7] (fun i _ _ _ _ wr => ∃ j : Nat, i = .int .i64 j ∧ j ≤ 2 ∧ Below w.heap.size w wr) (fun i _ _ _ _ _ => 2 - (intOf i).toNat)
  case atStart => exact ⟨0, rfl, Nat.zero_le _, Below.refl _ _⟩
  case round =>
    obtain ⟨w5, hw5⟩ : ∃ x, x = wr := ⟨_, rfl⟩
    subst hw5
    obtain ⟨j, rfl, hj2, hbel⟩ := hrel
    by_cases hp : j < 2
    · go_wp2_with fail
      refine (closes1 w5 s r H1.out).mono ?_
      rintro e w6 ⟨v6, rfl, ho6, hb6⟩
      have hg6 := World.ownsRow.lt ho6
      have HG6 := Lib.hid hg6
      clear hg6
      go_wp2_with fail
      refine (walls1 w6 s t H2.out).mono ?_
      rintro e w7 ⟨v7, rfl, ho7, hb7⟩
      have ho67 := ho6.below hb7 (Nat.le_refl _)
      have hb57 := bt hb6 hb7
      clear ho6 hb7
      go_wp2_with fail
      refine (refCloses1 w7 s r H1.out).mono ?_
      rintro e w8 ⟨v8, rfl, ho8, hb8⟩
      have ho68 := ho67.below hb8 (Nat.le_refl _)
      have ho78 := ho7.below hb8 (Nat.le_refl _)
      have hb58 := bt hb57 hb8
      clear ho67 ho7 hb57 hb8
      go_wp2_with fail
      refine (equalS w8 v6 v8 r (sv_own ho68) (sv_own ho8) (by omega)).mono ?_
      rintro e w9 ⟨rfl, hb9⟩
      have ho69 := ho68.below hb9 (Nat.le_refl _)
      have ho79 := ho78.below hb9 (Nat.le_refl _)
      have hb59 := bt hb58 hb9
      clear ho68 ho78 ho8 hb58 hb9
      go_wp2_with fail
      refine (refWalls1 w9 s t H2.out).mono ?_
      rintro e w10 ⟨v10, rfl, ho10, hb10⟩
      have ho6a := ho69.below hb10 (Nat.le_refl _)
      have ho7a := ho79.below hb10 (Nat.le_refl _)
      have hb5a := bt hb59 hb10
      clear ho69 ho79 hb59 hb10
      go_wp2_with fail
      refine (equalS w10 v7 v10 t (sv_own ho7a) (sv_own ho10) (by omega)).mono ?_
      rintro e w11 ⟨rfl, hb11⟩
      have ho6b := ho6a.below hb11 (Nat.le_refl _)
      have ho7b := ho7a.below hb11 (Nat.le_refl _)
      have hb5b := bt hb5a hb11
      clear ho6a ho7a ho10 hb5a hb11
      go_wp2_with fail
      refine (is1 w11 v6 r (sv_own ho6b) (by omega) HA1.out).mono ?_
      rintro e w12 ⟨rfl, hb12⟩
      have ho6c := ho6b.below hb12 (Nat.le_refl _)
      have ho7c := ho7b.below hb12 (Nat.le_refl _)
      have hb5c := bt hb5b hb12
      clear ho6b ho7b hb5b hb12
      go_wp2_with fail
      refine (is1 w12 v7 t (sv_own ho7c) (by omega) HA2.out).mono ?_
      rintro e w13 ⟨rfl, hb13⟩
      have ho6d := ho6c.below hb13 (Nat.le_refl _)
      have ho7d := ho7c.below hb13 (Nat.le_refl _)
      have hb5d := bt hb5c hb13
      clear ho6c ho7c hb5c hb13
      have hN1 := hb6.size
      clear hb6
      obtain ⟨A, c, hv, _, _, _⟩ := sv_own ho6d
      subst hv
      obtain ⟨C, d, hv, _, _, _⟩ := sv_own ho7d
      subst hv
      go_wp2
      go_loopw [6] (fun i wr => ∃ (x : Nat) (l : List ByteArray), i = .int .i64 x ∧ x ≤ r.length ∧ l.length = r.length ∧ Sown w5.heap.size wr (.slice A r.length c) l ∧ Sown w6.heap.size wr (.slice C t.length d) t ∧ Below w5.heap.size w5 wr) (fun i _ => r.length - (intOf i).toNat)
      case atStart => exact ⟨0, r, rfl, Nat.zero_le _, rfl, ho6d, ho7d, hb5d⟩
      case round =>
        clear ho6d ho7d hb5d
        obtain ⟨w14, hw14⟩ : ∃ x, x = wr := ⟨_, rfl⟩
        subst hw14
        obtain ⟨x, l, rfl, hxr, hlr, hown, hown2, hbl⟩ := hrel
        have HLR := Lib.hid hlr; clear hlr
        by_cases hq : x < r.length
        · obtain ⟨g, cap, hv⟩ := own_form hown (by have := HLR.out; omega)
          rw [HLR.out] at hv
          injection hv with hA _ hc
          subst hA
          obtain ⟨hcell, hfz⟩ := own_cell hown HLR.out x hq
          obtain ⟨hst, hng⟩ := own_store hown HLR.out x ⟨#[120]⟩
          have hbs := hbl.setCell (p := ⟨g, x, none⟩) hng (.string ⟨#[120]⟩)
          have hown3 := own_other hown2 (p := ⟨g, x, none⟩) (HG6.out g rfl).2 (.string ⟨#[120]⟩)
          clear hc
          go_wp2
          go_roundw
          case rel => exact ⟨x + 1, l.set x ⟨#[120]⟩, by go_num, by omega, by rw [List.length_set]; exact HLR.out, hst, hown3, hbs⟩
          case measure => simp [intOf]; omega
        · go_wp2
          go_loopw [7] (fun i wr => ∃ (x : Nat) (l : List ByteArray), i = .int .i64 x ∧ x ≤ t.length ∧ l.length = t.length ∧ Sown w6.heap.size wr (.slice C t.length d) l ∧ Below w5.heap.size w5 wr) (fun i _ => t.length - (intOf i).toNat)
          case atStart => exact ⟨0, t, rfl, Nat.zero_le _, rfl, hown2, hbl⟩
          case round =>
            clear hown hown2 hbl HLR
            obtain ⟨y, m, rfl, hyr, hmr, hown, hbl⟩ := hrel
            have HLR := Lib.hid hmr; clear hmr
            by_cases hq2 : y < t.length
            · obtain ⟨g, cap, hv⟩ := own_form hown (by have := HLR.out; omega)
              rw [HLR.out] at hv
              injection hv with hA _ hc
              subst hA
              obtain ⟨hcell, hfz⟩ := own_cell hown HLR.out y hq2
              obtain ⟨hst, hng⟩ := own_store hown HLR.out y ⟨#[120]⟩
              have hbs := hbl.setCell (p := ⟨g, y, none⟩) (Nat.le_trans hN1 hng) (.string ⟨#[120]⟩)
              clear hc
              go_wp2
              go_roundw
              case rel => exact ⟨y + 1, m.set y ⟨#[120]⟩, by go_num, by omega, by rw [List.length_set]; exact HLR.out, hst, hbs⟩
              case measure => simp [intOf]; omega
            · go_wp2
              go_roundw
              case rel => exact ⟨j + 1, by go_num, by omega, bt hbel hbl⟩
              case measure => simp [intOf]; omega
    · go_wp2_with fail
      refine (fixed_any w5).mono ?_
      rintro e w6 ⟨rfl, hb6⟩
      go_wp2
      go_ret
      exact ⟨rfl, bt hbel hb6⟩

end Go.Proofs.Ytjgnbmebmjecpaa.Na
