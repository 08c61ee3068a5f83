/-
  Walks of stage 6's reference: note.
-/
import Derived.Test.YtjhhhlomkfnniaaDoorTokRefE
namespace Go.Proofs.YtjhhhlomkfnniaaDoor.To
set_option linter.unusedSimpArgs false
set_option linter.unusedVariables false
open Go.RowKit Ba Fm Fo Tm Nm Na
open Rm (dec dec_ne)
open Ro (below_new At acells len_acells Sh Ra range2)
open Re (Tab)

theorem Tb.f {w : World} {g : Nat} {x : Tw} (h : Tb w g x) (j : Nat) : w.frozen? ⟨g, j, none⟩ = false := by
  unfold Tb at h
  simp [World.frozen?, h]
theorem Tb.lt {w : World} {g : Nat} {x : Tw} (h : Tb w g x) : g < w.heap.size := (Array.getElem?_eq_some_iff.1 h).1
theorem Tb.below {w w' : World} {g : Nat} {x : Tw} (h : Tb w g x) (hb : Below w.heap.size w w') : Tb w' g x := (hb.block g h.lt).trans h
theorem Tb.kept {w w' : World} {g b : Nat} {x : Tw} (h : Tb w g x) (hg : w.grownBy w' (some b)) (hne : g ≠ b) : Tb w' g x := (hg.block g h.lt (by simpa using hne)).trans h
theorem Tb.other {w : World} {g b j : Nat} {x : Tw} (h : Tb w g x) (hne : g ≠ b) (u : Value) : Tb (w.setCell ⟨b, j, none⟩ u) g x := h.kept (g_set w b j u) hne
theorem Tb.set2 {w : World} {g : Nat} {x : Tw} (h : Tb w g x) (d : ByteArray) : Tb (w.setCell ⟨g, 2, none⟩ (.string d)) g ⟨⟨x.tk.kind, x.tk.name, d, x.tk.attrs, x.tk.self⟩, x.A, x.c⟩ := by
  unfold Tb at h ⊢
  simp [World.setCell, Array.getElem?_modify, h]
theorem Tb.set0 {w : World} {g : Nat} {x : Tw} (h : Tb w g x) (k : Int) : Tb (w.setCell ⟨g, 0, none⟩ (.int .i64 k)) g ⟨⟨k, x.tk.name, x.tk.data, x.tk.attrs, x.tk.self⟩, x.A, x.c⟩ := by
  unfold Tb at h ⊢
  simp [World.setCell, Array.getElem?_modify, h]
theorem Tb.set4 {w : World} {g : Nat} {x : Tw} (h : Tb w g x) (b : Bool) : Tb (w.setCell ⟨g, 4, none⟩ (.bool b)) g ⟨⟨x.tk.kind, x.tk.name, x.tk.data, x.tk.attrs, b⟩, x.A, x.c⟩ := by
  unfold Tb at h ⊢
  simp [World.setCell, Array.getElem?_modify, h]
theorem Tb.set3 {w : World} {g : Nat} {x : Tw} (h : Tb w g x) (A : Option Addr) (c : Nat) (l : List At) : Tb (w.setCell ⟨g, 3, none⟩ (.slice A l.length c)) g ⟨⟨x.tk.kind, x.tk.name, x.tk.data, l, x.tk.self⟩, A, c⟩ := by
  unfold Tb at h ⊢
  simp [World.setCell, Array.getElem?_modify, h]
theorem Tb.over {w : World} {g : Nat} {y : Tw} (h : Tb w g y) (x : Tw) : Tb (((((w.setCell ⟨g, 0, none⟩ (.int .i64 x.tk.kind)).setCell ⟨g, 1, none⟩ (.string x.tk.name)).setCell ⟨g, 2, none⟩ (.string x.tk.data)).setCell ⟨g, 3, none⟩ (.slice x.A x.tk.attrs.length x.c)).setCell ⟨g, 4, none⟩ (.bool x.tk.self)) g x := by
  unfold Tb at h ⊢
  simp [World.setCell, Array.getElem?_modify, h]
theorem below_over {N : Nat} {w w' : World} (h : Below N w w') {g : Nat} (hg : N ≤ g) (a b c d e : Value) : Below N w (((((w'.setCell ⟨g, 0, none⟩ a).setCell ⟨g, 1, none⟩ b).setCell ⟨g, 2, none⟩ c).setCell ⟨g, 3, none⟩ d).setCell ⟨g, 4, none⟩ e) :=
  ((((h.setCell hg _).setCell hg _).setCell hg _).setCell hg _).setCell hg _

/-- A token with a kind and a text alone. -/
abbrev T0 (k : Int) (d : ByteArray) : Tw := ⟨⟨k, ⟨#[]⟩, d, [], false⟩, none, 0⟩
theorem Tb.z {w : World} {g : Nat} {k : Int} {d : ByteArray} (h : Tb w g (T0 k d)) : w.cell? ⟨g, 0, none⟩ = some (.int .i64 k) ∧ w.cell? ⟨g, 1, none⟩ = some (.string ⟨#[]⟩) ∧ w.cell? ⟨g, 2, none⟩ = some (.string d) ∧ w.cell? ⟨g, 3, none⟩ = some (.slice none 0 0) ∧ w.cell? ⟨g, 4, none⟩ = some (.bool false) := h.c

theorem Tb.over0 {w : World} {g : Nat} {y : Tw} (h : Tb w g y) (k : Int) (d : ByteArray) : Tb (((((w.setCell ⟨g, 0, none⟩ (.int .i64 k)).setCell ⟨g, 1, none⟩ (.string ⟨#[]⟩)).setCell ⟨g, 2, none⟩ (.string d)).setCell ⟨g, 3, none⟩ (.slice none 0 0)).setCell ⟨g, 4, none⟩ (.bool false)) g (T0 k d) := h.over (T0 k d)

/-- Is this the beginning of a doctype? -/
def doc9 (s : ByteArray) (i : Nat) : Bool := decide (i + 9 ≤ s.size) && (decide (lowL (L (s.extract i (i + 9))) = [60, 33, 100, 111, 99, 116, 121, 112, 101]) && !by1 lr ((L s).drop (i + 9)))

/-- What begins at a place with < and is no tag: its kind, its text, and the rest. -/
def noted (s : ByteArray) (i : Nat) : Option (Int × ByteArray × List UInt8) :=
  if pre [60, 33, 45, 45] ((L s).drop i) = true then some (3, B (comm ((L s).drop (i + 4))).1, (comm ((L s).drop (i + 4))).2)
  else if doc9 s i = true then some (4, B (trimL (closed ((L s).drop (i + 9))).1), (closed ((L s).drop (i + 9))).2)
  else if pre [60, 33] ((L s).drop i) = true ∨ (pre [60, 47] ((L s).drop i) = true ∧ i + 2 < s.size) then some (3, B (closed ((L s).drop (i + 2))).1, (closed ((L s).drop (i + 2))).2)
  else if pre [60, 63] ((L s).drop i) = true then some (3, B (closed ((L s).drop (i + 1))).1, (closed ((L s).drop (i + 1))).2)
  else none

set_option maxRecDepth 100000 in
set_option maxHeartbeats 4000000 in
theorem note_any (s : ByteArray) (i : Nat) (w : World) (hs : s.size ≤ 140737488351232) (hi : i < s.size) :
    Calls Tryd.prog 29 #[.string s, .int .i64 i] w fun e w' => ∃ (k : Int) (d : ByteArray) (n : Nat), e = .returned (.tuple #[.agg #[.int .i64 k, .string ⟨#[]⟩, .string d, .slice none 0 0, .bool false], .int .i64 n]) ∧ Below w.heap.size w w' ∧
      (∀ x, noted s i = some x → x = (k, d, (L s).drop n) ∧ n ≤ s.size ∧ i < n) ∧ (noted s i = none → n = i) := by
  have hs' : s.size ≤ 140737488355328 := by omega
  obtain ⟨Z, hZ⟩ : ∃ n, noted s i = n := ⟨_, rfl⟩
  have hno : noted s i = Z := hZ
  unfold noted at hno
  rw [hZ]
  clear hZ
  go_enter Tryd.func29, Tryd.ntmps29
  go_wp2_with fail
  generalize hW1 : (w.alloc (.cells #[.int .i64 0, .string ⟨#[]⟩, .string ⟨#[]⟩, .slice none 0 0, .bool false] 35)).alloc (.cells #[.int .i64 3, .string ⟨#[]⟩, .string ⟨#[]⟩, .slice none 0 0, .bool false] 35) = W1
  have hx0 : Tb W1 w.heap.size (T0 0 ⟨#[]⟩) := by rw [← hW1]; exact (Tb.new w (T0 0 ⟨#[]⟩)).below (below_new _ _)
  obtain ⟨g1, hg1⟩ : ∃ g, (w.alloc (.cells #[.int .i64 0, .string ⟨#[]⟩, .string ⟨#[]⟩, .slice none 0 0, .bool false] 35)).heap.size = g := ⟨_, rfl⟩
  have hx1 : Tb W1 g1 (T0 3 ⟨#[]⟩) := by rw [← hW1, ← hg1]; exact Tb.new _ (T0 3 ⟨#[]⟩)
  have hbw : Below w.heap.size w W1 := by rw [← hW1]; exact bt (below_new w _) (below_new _ _)
  have hg1' : w.heap.size + 1 = g1 := by rw [← hg1]; simp
  rw [hg1']
  obtain ⟨g0, hg0⟩ : ∃ g, w.heap.size = g := ⟨_, rfl⟩
  have hgl : w.heap.size ≤ g1 := by omega
  have hne' : g0 ≠ g1 := by omega
  rw [hg0] at hx0 ⊢
  have HX0 := Lib.hid hx0; have HX1 := Lib.hid hx1; have HBW := Lib.hid hbw; have HG0 := Lib.hid hg0; have HGL := Lib.hid hgl
  clear hx0 hx1 hbw hg0 hgl hW1 hg1 hg1'
  cases h1 : pre [60, 33, 45, 45] ((L s).drop i) with
  | true =>
    rw [h1, if_pos rfl] at hno
    have hl := pre_len h1
    rw [List.length_drop, size_L] at hl
    have hi4 : i + 4 ≤ s.size := by simp at hl; omega
    have H1 := Lib.hid h1; clear h1 hl
    refine (refAt1 s _ i W1 [60, 33, 45, 45] true hs' (by omega) (by decide) (by decide) rfl H1.out).mono ?_
    rintro e w' ⟨rfl, rfl⟩
    go_wp2_with fail
    refine (refComment_any s (i + 4) W1 hs hi4).mono ?_
    rintro e w' ⟨n, rfl, hn, hin0, hd, rfl⟩
    have hin : i < n := by omega
    obtain ⟨dd, hdd⟩ : ∃ d, B (comm ((L s).drop (i + 4))).1 = d := ⟨_, rfl⟩
    rw [hdd] at hno
    rw [hdd]
    rw [← hd] at hno
    have hx1 := HX1.out.set2 dd
    obtain ⟨y0, y1, y2, y3, y4⟩ := HX1.out.z
    obtain ⟨k0, k1, k2, k3, k4⟩ := (show Tb _ _ (T0 3 dd) from hx1).z
    obtain ⟨r0, r1, r2, r3, r4⟩ := HX0.out.z
    have q0 := HX0.out.f 0; have q1 := HX0.out.f 1; have q2 := HX0.out.f 2; have q3 := HX0.out.f 3; have q4 := HX0.out.f 4; have p2 := HX1.out.f 2
    have HNO := Lib.hid hno; clear hno hx1 hd hdd
    go_wp2
    refine bodyPost_ret (v := .tuple #[.agg #[.int .i64 3, .string ⟨#[]⟩, .string dd, .slice none 0 0, .bool false], .int .i64 (n : Int)]) ?_ rfl ⟨3, dd, n, rfl, ?_, ?_, ?_⟩
    · have hf := Tb.over0 (HX0.out.other hne' (b := g1) (j := 2) (.string dd)) 3 dd
      obtain ⟨z0, z1, z2, z3, z4⟩ := hf.z
      simp [results, Tryd.results29, go_sem, z0, z1, z2, z3, z4]
    · exact below_over (HBW.out.setCell HGL.out _) (Nat.le_of_eq HG0.out) _ _ _ _ _
    · intro x hx
      rw [← HNO.out] at hx
      injection hx with hx
      subst hx
      exact ⟨rfl, hn, hin⟩
    · intro h
      rw [← HNO.out] at h
      cases h
  | false =>
    rw [h1, if_neg (by simp)] at hno
    have H1 := Lib.hid h1; clear h1
    refine (refAt1 s _ i W1 [60, 33, 45, 45] false hs' (by omega) (by decide) (by decide) rfl H1.out).mono ?_
    rintro e w' ⟨rfl, rfl⟩
    go_upto_region 6 with fail
    go_cut [49] from 29 to 49 (fun c wx => c = .bool (doc9 s i) ∧ Below W1.heap.size W1 wx)
    case first =>
      by_cases h9 : i + 9 ≤ s.size
      · have h9b : decide ((i : Int) + 9 ≤ s.size) = true := decide_eq_true (by omega)
        have i0 : (0 : Int) ≤ (i : Int) := by omega
        have i1 : (i : Int) ≤ (i : Int) + 9 := by omega
        have i2 : (i : Int) + 9 ≤ (s.size : Int) := by omega
        obtain ⟨q2, hq2⟩ : ∃ q, decide (lowL (L (s.extract i (i + 9))) = [60, 33, 100, 111, 99, 116, 121, 112, 101]) = q := ⟨_, rfl⟩
        obtain ⟨q3, hq3⟩ : ∃ q, by1 lr ((L s).drop (i + 9)) = q := ⟨_, rfl⟩
        have hdo : doc9 s i = (q2 && !q3) := by unfold doc9; rw [hq2, hq3, decide_eq_true h9, Bool.true_and]
        have heq : ((B (lowL (L (s.extract i (i + 9))))).toList == [60, 33, 100, 111, 99, 116, 121, 112, 101]) = q2 := by
          rw [toList_L, L_B, ← hq2, Bool.eq_iff_iff, beq_iff_eq, decide_eq_true_iff]
        have hsz : (s.extract i (i + 9)).size ≤ 140737488355328 := Nat.le_trans (size_extract _ _ _) hs'
        have HQ3 := Lib.hid hq3; have HDO := Lib.hid hdo; clear hq2 hq3 hdo hno
        cases q2 <;> cases q3
        all_goals
          go_wp2_with fail
          refine (Fo.refLower_any _ _ hsz).mono ?_
          rintro e w4 ⟨rfl, hb4⟩
          go_wp2_with (go_at_call 26; refine (letterAt_any s (i + 9) _ _ hs' HQ3.out).mono ?_; rintro e w' ⟨rfl, rfl⟩)
          go_meet
          exact ⟨by rw [HDO.out]; rfl, hb4⟩
      · have h9b : decide ((i : Int) + 9 ≤ s.size) = false := decide_eq_false (by omega)
        have hdo : doc9 s i = false := by unfold doc9; rw [decide_eq_false h9]; rfl
        have HDO := Lib.hid hdo; clear hdo hno
        go_wp2_with fail
        go_meet
        exact ⟨by rw [HDO.out], Below.refl _ _⟩
    case rest =>
      obtain ⟨rfl, hbx⟩ := hcut
      have hx0' := HX0.out.below hbx; have hx1' := HX1.out.below hbx
      have hbw' := HBW.out.trans (hbx.mono HBW.out.size)
      have HX0 := Lib.hid hx0'; have HX1 := Lib.hid hx1'; have HBW := Lib.hid hbw'; clear hx0' hx1' hbw' hbx
      cases hdoc : doc9 s i with
      | true =>
        rw [hdoc] at hno
        have HDOC := Lib.hid hdoc; clear hdoc
        rw [if_pos rfl] at hno
        have hi9 : i + 9 ≤ s.size := by
          have h9 := HDOC.out
          unfold doc9 at h9
          rw [Bool.and_eq_true] at h9
          exact of_decide_eq_true h9.1
        go_wp2_with fail
        refine (other_any s (i + 9) _ hs hi9).mono ?_
        rintro e w' ⟨n, rfl, hn, hin0, hin1, hd, rfl⟩
        have hin : i < n := by omega
        have hcs : (B (closed ((L s).drop (i + 9))).1).size ≤ 140737488355328 := by
          rw [size_B]
          have := sum_closed ((L s).drop (i + 9))
          rw [List.length_drop, size_L] at this
          omega
        go_wp2_with fail
        refine (Fo.refTrim_any _ _ hcs).mono ?_
        rw [L_B]
        rintro e w' ⟨rfl, rfl⟩
        obtain ⟨dd, hdd⟩ : ∃ d, B (trimL (closed ((L s).drop (i + 9))).1) = d := ⟨_, rfl⟩
        rw [hdd] at hno
        rw [hdd]
        rw [← hd] at hno
        obtain ⟨y0, y1, y2, y3, y4⟩ := HX1.out.z
        obtain ⟨r0, r1, r2, r3, r4⟩ := HX0.out.z
        have q0 := HX0.out.f 0; have q1 := HX0.out.f 1; have q2 := HX0.out.f 2; have q3 := HX0.out.f 3; have q4 := HX0.out.f 4; have p2 := HX1.out.f 2
        have HNO := Lib.hid hno; clear hno hd hdd hcs
        go_wp2
        refine bodyPost_ret (v := .tuple #[.agg #[.int .i64 4, .string ⟨#[]⟩, .string dd, .slice none 0 0, .bool false], .int .i64 (n : Int)]) ?_ rfl ⟨4, dd, n, rfl, ?_, ?_, ?_⟩
        · have hf := Tb.over0 HX0.out 4 dd
          obtain ⟨z0, z1, z2, z3, z4⟩ := hf.z
          simp [results, Tryd.results29, go_sem, z0, z1, z2, z3, z4]
        · exact below_over (HBW.out) (Nat.le_of_eq HG0.out) _ _ _ _ _
        · intro x hx
          rw [← HNO.out] at hx
          injection hx with hx
          subst hx
          exact ⟨rfl, hn, hin⟩
        · intro h
          rw [← HNO.out] at h
          cases h
      | false =>
        rw [hdoc, if_neg (by simp)] at hno
        clear hdoc
        cases h3 : pre [60, 33] ((L s).drop i) with
        | true =>
          rw [if_pos (.inl h3)] at hno
          have hl := pre_len h3
          rw [List.length_drop, size_L] at hl
          have hi2 : i + 2 ≤ s.size := by simp at hl; omega
          have H3 := Lib.hid h3; clear h3 hl
          go_wp2_with fail
          refine (refAt1 s _ i _ [60, 33] true hs' (by omega) (by decide) (by decide) rfl H3.out).mono ?_
          rintro e w' ⟨rfl, rfl⟩
          go_wp2_with fail
          refine (other_any s (i + 2) _ hs (by omega)).mono ?_
          rintro e w' ⟨n, rfl, hn, hin0, hin1, hd, rfl⟩
          have hin : i < n := by omega
          obtain ⟨dd, hdd⟩ : ∃ d, B (closed ((L s).drop (i + 2))).1 = d := ⟨_, rfl⟩
          rw [hdd] at hno
          rw [hdd]
          rw [← hd] at hno
          have hx1 := HX1.out.set2 dd
          obtain ⟨y0, y1, y2, y3, y4⟩ := HX1.out.z
          obtain ⟨r0, r1, r2, r3, r4⟩ := HX0.out.z
          have q0 := HX0.out.f 0; have q1 := HX0.out.f 1; have q2 := HX0.out.f 2; have q3 := HX0.out.f 3; have q4 := HX0.out.f 4; have p2 := HX1.out.f 2
          obtain ⟨k0, k1, k2, k3, k4⟩ := (show Tb _ _ (T0 3 dd) from hx1).z
          have HNO := Lib.hid hno; clear hno hx1 hd hdd
          go_wp2
          refine bodyPost_ret (v := .tuple #[.agg #[.int .i64 3, .string ⟨#[]⟩, .string dd, .slice none 0 0, .bool false], .int .i64 (n : Int)]) ?_ rfl ⟨3, dd, n, rfl, ?_, ?_, ?_⟩
          · have hf := Tb.over0 (HX0.out.other hne' (b := g1) (j := 2) (.string dd)) 3 dd
            obtain ⟨z0, z1, z2, z3, z4⟩ := hf.z
            simp [results, Tryd.results29, go_sem, z0, z1, z2, z3, z4]
          · exact below_over (HBW.out.setCell HGL.out _) (Nat.le_of_eq HG0.out) _ _ _ _ _
          · intro x hx
            rw [← HNO.out] at hx
            injection hx with hx
            subst hx
            exact ⟨rfl, hn, hin⟩
          · intro h
            rw [← HNO.out] at h
            cases h
        | false =>
          have H3 := Lib.hid h3
          cases h4 : pre [60, 47] ((L s).drop i) with
          | true =>
            have H4 := Lib.hid h4
            by_cases h5 : i + 2 < s.size
            · have h5b : decide ((i : Int) + 2 < s.size) = true := decide_eq_true (by omega)
              rw [if_pos (.inr ⟨h4, h5⟩)] at hno
              clear h3 h4
              go_wp2_with fail
              refine (refAt1 s _ i _ [60, 33] false hs' (by omega) (by decide) (by decide) rfl H3.out).mono ?_
              rintro e w' ⟨rfl, rfl⟩
              go_wp2_with fail
              refine (refAt1 s _ i _ [60, 47] true hs' (by omega) (by decide) (by decide) rfl H4.out).mono ?_
              rintro e w' ⟨rfl, rfl⟩
              go_wp2_with fail
              refine (other_any s (i + 2) _ hs (by omega)).mono ?_
              rintro e w' ⟨n, rfl, hn, hin0, hin1, hd, rfl⟩
              have hin : i < n := by omega
              obtain ⟨dd, hdd⟩ : ∃ d, B (closed ((L s).drop (i + 2))).1 = d := ⟨_, rfl⟩
              rw [hdd] at hno
              rw [hdd]
              rw [← hd] at hno
              have hx1 := HX1.out.set2 dd
              obtain ⟨y0, y1, y2, y3, y4⟩ := HX1.out.z
              obtain ⟨r0, r1, r2, r3, r4⟩ := HX0.out.z
              have q0 := HX0.out.f 0; have q1 := HX0.out.f 1; have q2 := HX0.out.f 2; have q3 := HX0.out.f 3; have q4 := HX0.out.f 4; have p2 := HX1.out.f 2
              obtain ⟨k0, k1, k2, k3, k4⟩ := (show Tb _ _ (T0 3 dd) from hx1).z
              have HNO := Lib.hid hno; clear hno hx1 hd hdd
              go_wp2
              refine bodyPost_ret (v := .tuple #[.agg #[.int .i64 3, .string ⟨#[]⟩, .string dd, .slice none 0 0, .bool false], .int .i64 (n : Int)]) ?_ rfl ⟨3, dd, n, rfl, ?_, ?_, ?_⟩
              · have hf := Tb.over0 (HX0.out.other hne' (b := g1) (j := 2) (.string dd)) 3 dd
                obtain ⟨z0, z1, z2, z3, z4⟩ := hf.z
                simp [results, Tryd.results29, go_sem, z0, z1, z2, z3, z4]
              · exact below_over (HBW.out.setCell HGL.out _) (Nat.le_of_eq HG0.out) _ _ _ _ _
              · intro x hx
                rw [← HNO.out] at hx
                injection hx with hx
                subst hx
                exact ⟨rfl, hn, hin⟩
              · intro h
                rw [← HNO.out] at h
                cases h
            · have h5b : decide ((i : Int) + 2 < s.size) = false := decide_eq_false (by omega)
              rw [if_neg (by rw [h3]; rintro (h | h); cases h; exact h5 h.2)] at hno
              clear h3 h4
              go_wp2_with fail
              refine (refAt1 s _ i _ [60, 33] false hs' (by omega) (by decide) (by decide) rfl H3.out).mono ?_
              rintro e w' ⟨rfl, rfl⟩
              go_wp2_with fail
              refine (refAt1 s _ i _ [60, 47] true hs' (by omega) (by decide) (by decide) rfl H4.out).mono ?_
              rintro e w' ⟨rfl, rfl⟩
              cases h6 : pre [60, 63] ((L s).drop i) with
              | true =>
                rw [h6, if_pos rfl] at hno
                have hl := pre_len h6
                rw [List.length_drop, size_L] at hl
                have hi2 : i + 1 < s.size := by simp at hl; omega
                have H6 := Lib.hid h6; clear h6 hl
                go_wp2_with fail
                refine (refAt1 s _ i _ [60, 63] true hs' (by omega) (by decide) (by decide) rfl H6.out).mono ?_
                rintro e w' ⟨rfl, rfl⟩
                go_wp2_with fail
                refine (other_any s (i + 1) _ hs (by omega)).mono ?_
                rintro e w' ⟨n, rfl, hn, hin0, hin1, hd, rfl⟩
                have hin : i < n := by omega
                obtain ⟨dd, hdd⟩ : ∃ d, B (closed ((L s).drop (i + 1))).1 = d := ⟨_, rfl⟩
                rw [hdd] at hno
                rw [hdd]
                rw [← hd] at hno
                have hx1 := HX1.out.set2 dd
                obtain ⟨y0, y1, y2, y3, y4⟩ := HX1.out.z
                obtain ⟨r0, r1, r2, r3, r4⟩ := HX0.out.z
                have q0 := HX0.out.f 0; have q1 := HX0.out.f 1; have q2 := HX0.out.f 2; have q3 := HX0.out.f 3; have q4 := HX0.out.f 4; have p2 := HX1.out.f 2
                obtain ⟨k0, k1, k2, k3, k4⟩ := (show Tb _ _ (T0 3 dd) from hx1).z
                have HNO := Lib.hid hno; clear hno hx1 hd hdd
                go_wp2
                refine bodyPost_ret (v := .tuple #[.agg #[.int .i64 3, .string ⟨#[]⟩, .string dd, .slice none 0 0, .bool false], .int .i64 (n : Int)]) ?_ rfl ⟨3, dd, n, rfl, ?_, ?_, ?_⟩
                · have hf := Tb.over0 (HX0.out.other hne' (b := g1) (j := 2) (.string dd)) 3 dd
                  obtain ⟨z0, z1, z2, z3, z4⟩ := hf.z
                  simp [results, Tryd.results29, go_sem, z0, z1, z2, z3, z4]
                · exact below_over (HBW.out.setCell HGL.out _) (Nat.le_of_eq HG0.out) _ _ _ _ _
                · intro x hx
                  rw [← HNO.out] at hx
                  injection hx with hx
                  subst hx
                  exact ⟨rfl, hn, hin⟩
                · intro h
                  rw [← HNO.out] at h
                  cases h
              | false =>
                rw [h6, if_neg (by simp)] at hno
                have H6 := Lib.hid h6; clear h6
                go_wp2_with fail
                refine (refAt1 s _ i _ [60, 63] false hs' (by omega) (by decide) (by decide) rfl H6.out).mono ?_
                rintro e w' ⟨rfl, rfl⟩
                obtain ⟨y0, y1, y2, y3, y4⟩ := HX1.out.z
                obtain ⟨r0, r1, r2, r3, r4⟩ := HX0.out.z
                have q0 := HX0.out.f 0; have q1 := HX0.out.f 1; have q2 := HX0.out.f 2; have q3 := HX0.out.f 3; have q4 := HX0.out.f 4; have p2 := HX1.out.f 2
                have HNO := Lib.hid hno; clear hno
                go_wp2
                refine bodyPost_ret (v := .tuple #[.agg #[.int .i64 3, .string ⟨#[]⟩, .string ⟨#[]⟩, .slice none 0 0, .bool false], .int .i64 (i : Int)]) ?_ rfl ⟨3, ⟨#[]⟩, i, rfl, ?_, ?_, ?_⟩
                · have hf := Tb.over0 HX0.out 3 ⟨#[]⟩
                  obtain ⟨z0, z1, z2, z3, z4⟩ := hf.z
                  simp [results, Tryd.results29, go_sem, z0, z1, z2, z3, z4]
                · exact below_over (HBW.out) (Nat.le_of_eq HG0.out) _ _ _ _ _
                · intro x hx
                  rw [← HNO.out] at hx
                  cases hx
                · intro h
                  rfl
          | false =>
            have H4 := Lib.hid h4
            rw [if_neg (by rw [h3, h4]; simp)] at hno
            clear h3 h4
            go_wp2_with fail
            refine (refAt1 s _ i _ [60, 33] false hs' (by omega) (by decide) (by decide) rfl H3.out).mono ?_
            rintro e w' ⟨rfl, rfl⟩
            go_wp2_with fail
            refine (refAt1 s _ i _ [60, 47] false hs' (by omega) (by decide) (by decide) rfl H4.out).mono ?_
            rintro e w' ⟨rfl, rfl⟩
            cases h6 : pre [60, 63] ((L s).drop i) with
            | true =>
              rw [h6, if_pos rfl] at hno
              have hl := pre_len h6
              rw [List.length_drop, size_L] at hl
              have hi2 : i + 1 < s.size := by simp at hl; omega
              have H6 := Lib.hid h6; clear h6 hl
              go_wp2_with fail
              refine (refAt1 s _ i _ [60, 63] true hs' (by omega) (by decide) (by decide) rfl H6.out).mono ?_
              rintro e w' ⟨rfl, rfl⟩
              go_wp2_with fail
              refine (other_any s (i + 1) _ hs (by omega)).mono ?_
              rintro e w' ⟨n, rfl, hn, hin0, hin1, hd, rfl⟩
              have hin : i < n := by omega
              obtain ⟨dd, hdd⟩ : ∃ d, B (closed ((L s).drop (i + 1))).1 = d := ⟨_, rfl⟩
              rw [hdd] at hno
              rw [hdd]
              rw [← hd] at hno
              have hx1 := HX1.out.set2 dd
              obtain ⟨y0, y1, y2, y3, y4⟩ := HX1.out.z
              obtain ⟨r0, r1, r2, r3, r4⟩ := HX0.out.z
              have q0 := HX0.out.f 0; have q1 := HX0.out.f 1; have q2 := HX0.out.f 2; have q3 := HX0.out.f 3; have q4 := HX0.out.f 4; have p2 := HX1.out.f 2
              obtain ⟨k0, k1, k2, k3, k4⟩ := (show Tb _ _ (T0 3 dd) from hx1).z
              have HNO := Lib.hid hno; clear hno hx1 hd hdd
              go_wp2
              refine bodyPost_ret (v := .tuple #[.agg #[.int .i64 3, .string ⟨#[]⟩, .string dd, .slice none 0 0, .bool false], .int .i64 (n : Int)]) ?_ rfl ⟨3, dd, n, rfl, ?_, ?_, ?_⟩
              · have hf := Tb.over0 (HX0.out.other hne' (b := g1) (j := 2) (.string dd)) 3 dd
                obtain ⟨z0, z1, z2, z3, z4⟩ := hf.z
                simp [results, Tryd.results29, go_sem, z0, z1, z2, z3, z4]
              · exact below_over (HBW.out.setCell HGL.out _) (Nat.le_of_eq HG0.out) _ _ _ _ _
              · intro x hx
                rw [← HNO.out] at hx
                injection hx with hx
                subst hx
                exact ⟨rfl, hn, hin⟩
              · intro h
                rw [← HNO.out] at h
                cases h
            | false =>
              rw [h6, if_neg (by simp)] at hno
              have H6 := Lib.hid h6; clear h6
              go_wp2_with fail
              refine (refAt1 s _ i _ [60, 63] false hs' (by omega) (by decide) (by decide) rfl H6.out).mono ?_
              rintro e w' ⟨rfl, rfl⟩
              obtain ⟨y0, y1, y2, y3, y4⟩ := HX1.out.z
              obtain ⟨r0, r1, r2, r3, r4⟩ := HX0.out.z
              have q0 := HX0.out.f 0; have q1 := HX0.out.f 1; have q2 := HX0.out.f 2; have q3 := HX0.out.f 3; have q4 := HX0.out.f 4; have p2 := HX1.out.f 2
              have HNO := Lib.hid hno; clear hno
              go_wp2
              refine bodyPost_ret (v := .tuple #[.agg #[.int .i64 3, .string ⟨#[]⟩, .string ⟨#[]⟩, .slice none 0 0, .bool false], .int .i64 (i : Int)]) ?_ rfl ⟨3, ⟨#[]⟩, i, rfl, ?_, ?_, ?_⟩
              · have hf := Tb.over0 HX0.out 3 ⟨#[]⟩
                obtain ⟨z0, z1, z2, z3, z4⟩ := hf.z
                simp [results, Tryd.results29, go_sem, z0, z1, z2, z3, z4]
              · exact below_over (HBW.out) (Nat.le_of_eq HG0.out) _ _ _ _ _
              · intro x hx
                rw [← HNO.out] at hx
                cases hx
              · intro h
                rfl

end Go.Proofs.YtjhhhlomkfnniaaDoor.To
