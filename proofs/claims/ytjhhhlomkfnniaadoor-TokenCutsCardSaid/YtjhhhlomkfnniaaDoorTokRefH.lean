/-
  Walks of stage 6's reference: tag.
-/
import Derived.Test.YtjhhhlomkfnniaaDoorTokRefG
namespace Go.Proofs.YtjhhhlomkfnniaaDoor.To
set_option linter.unusedSimpArgs false
set_option linter.unusedVariables false
open Go.RowKit Ba Fm Fo Tm Nm Na
open Rm (dec dec_ne)
open Ro (below_new At acells len_acells Sh Ra range2)
open Re (Tab)

/-- Is a slash directly ahead of a place, behind another one? -/
def sfAt (s : ByteArray) (m k : Nat) : Bool := decide (m < k) && by1 (is 47) ((L s).drop (k - 1))
theorem sfAt_self (s : ByteArray) (m : Nat) : sfAt s m m = false := by unfold sfAt; simp
theorem sfAt_next (s : ByteArray) (m k : Nat) (hmk : m ≤ k) (hk : k < s.size) : sfAt s m (k + 1) = (s[k] == 47) := by
  unfold sfAt
  rw [decide_eq_true (by omega), Bool.true_and, Nat.add_sub_cancel, drop_cons s k hk]
  rfl

theorem Tb.off {w w' : World} {g N : Nat} {x : Tw} {v : Value} {l : List At} (h : Tb w g x) (hv : Aw N w v l) (hg : w.grownBy w' v.ownBlock) : Tb w' g x :=
  (hg.block g h.lt (fun e => hv.ne h (by decide) e.symm)).trans h

/-- What the loop over a tag's attributes has come to, by the reference. -/
structure Tl (w wr : World) (g0 g1 : Nat) (s nm : ByteArray) (m0 m : Nat) (A : Option Addr) (c : Nat) (l : List At) : Prop where
  m_le : m ≤ s.size
  m0_le : m0 ≤ m
  b0 : Tb wr g0 (T0 0 ⟨#[]⟩)
  b1 : Tb wr g1 ⟨⟨0, nm, ⟨#[]⟩, l, false⟩, A, c⟩
  own : Aw w.heap.size wr (.slice A l.length c) l
  bel : Below w.heap.size w wr
  eq : attrs false [] ((L s).drop m0) = attrs false l ((L s).drop m)
  few : l.length ≤ m
theorem Aw.below {N : Nat} {w w' : World} {A : Option Addr} {c : Nat} {l : List At} (h : Aw N w (.slice A l.length c) l) (hb : Below w.heap.size w w') : Aw N w' (.slice A l.length c) l := Fr.below (h.fr 0 ⟨#[]⟩ ⟨#[]⟩ false) hb
theorem Aw.ra {N : Nat} {w : World} {A : Option Addr} {c : Nat} {l : List At} (h : Aw N w (.slice A l.length c) l) : Ra w w.heap.size A l := (Fr.att (h.fr 0 ⟨#[]⟩ ⟨#[]⟩ false)).2.2.2.1
theorem Tl.below {w wr w' : World} {g0 g1 m0 m c : Nat} {s nm : ByteArray} {A : Option Addr} {l : List At} (h : Tl w wr g0 g1 s nm m0 m A c l) (hb : Below wr.heap.size wr w') : Tl w w' g0 g1 s nm m0 m A c l :=
  ⟨h.m_le, h.m0_le, h.b0.below hb, h.b1.below hb, h.own.below hb, h.bel.trans (hb.mono h.bel.size), h.eq, h.few⟩
theorem Tb.t {w : World} {g : Nat} {nm : ByteArray} {l : List At} {sf : Bool} {A : Option Addr} {c : Nat} (h : Tb w g ⟨⟨0, nm, ⟨#[]⟩, l, sf⟩, A, c⟩) : w.cell? ⟨g, 0, none⟩ = some (.int .i64 0) ∧ w.cell? ⟨g, 1, none⟩ = some (.string nm) ∧ w.cell? ⟨g, 2, none⟩ = some (.string ⟨#[]⟩) ∧ w.cell? ⟨g, 3, none⟩ = some (.slice A l.length c) ∧ w.cell? ⟨g, 4, none⟩ = some (.bool sf) := h.c
theorem Tb.overT {w : World} {g : Nat} {y : Tw} (h : Tb w g y) (nm : ByteArray) (l : List At) (sf : Bool) (A : Option Addr) (c : Nat) : Tb (((((w.setCell ⟨g, 0, none⟩ (.int .i64 0)).setCell ⟨g, 1, none⟩ (.string nm)).setCell ⟨g, 2, none⟩ (.string ⟨#[]⟩)).setCell ⟨g, 3, none⟩ (.slice A l.length c)).setCell ⟨g, 4, none⟩ (.bool sf)) g ⟨⟨0, nm, ⟨#[]⟩, l, sf⟩, A, c⟩ := h.over ⟨⟨0, nm, ⟨#[]⟩, l, sf⟩, A, c⟩
/-- Attributes of the call's own stay where a token's box is written. -/
theorem Aw.boxes {N : Nat} {w : World} {v : Value} {l : List At} {g j : Nat} {x : Tw} (h : Aw N w v l) (hb : Tb w g x) (u : Value) : Aw N (w.setCell ⟨g, j, none⟩ u) v l := h.kept (g_set w g j u) (.inr (h.ne hb (by decide)))
theorem Aw.over {N : Nat} {w : World} {v : Value} {l : List At} {g : Nat} {y : Tw} (h : Aw N w v l) (hb : Tb w g y) (nm : ByteArray) (l' : List At) (sf : Bool) (A : Option Addr) (c : Nat) : Aw N (((((w.setCell ⟨g, 0, none⟩ (.int .i64 0)).setCell ⟨g, 1, none⟩ (.string nm)).setCell ⟨g, 2, none⟩ (.string ⟨#[]⟩)).setCell ⟨g, 3, none⟩ (.slice A l'.length c)).setCell ⟨g, 4, none⟩ (.bool sf)) v l := by
  have h1 := h.boxes hb (j := 0) (.int .i64 0)
  have b1 := hb.set0 0
  have h2 := h1.boxes b1 (j := 1) (.string nm)
  have b2 : Tb ((w.setCell ⟨g, 0, none⟩ (.int .i64 0)).setCell ⟨g, 1, none⟩ (.string nm)) g ⟨⟨0, nm, y.tk.data, y.tk.attrs, y.tk.self⟩, y.A, y.c⟩ := by
    unfold Tb at hb ⊢
    simp [World.setCell, Array.getElem?_modify, hb]
  have h3 := h2.boxes b2 (j := 2) (.string ⟨#[]⟩)
  have b3 := b2.set2 ⟨#[]⟩
  have h4 := h3.boxes b3 (j := 3) (.slice A l'.length c)
  have b4 := b3.set3 A c l'
  exact h4.boxes b4 (j := 4) (.bool sf)

set_option maxRecDepth 100000 in
set_option maxHeartbeats 8000000 in
theorem refTag_any (s : ByteArray) (i : Nat) (w : World) (hs : s.size ≤ 1000000) (hi : i ≤ s.size) :
    Calls Tryd.prog 28 #[.string s, .int .i64 i] w fun e w' => ∃ (x : Tw) (n : Nat), e = .returned (.tuple #[tokV x, .int .i64 n]) ∧ Below w.heap.size w w' ∧
      ((n ≤ s.size ∧ i < n ∧ Fr w.heap.size w' x ∧ ∃ l sf, attrs false [] (from_ en ((L s).drop i)) = some (l, sf, (L s).drop n) ∧ x.tk = ⟨0, B (lowL (upTo en ((L s).drop i))), ⟨#[]⟩, l, sf⟩) ∨
       (n = s.size + 1 ∧ attrs false [] (from_ en ((L s).drop i)) = none)) := by
  have hs' : s.size ≤ 140737488355328 := by omega
  have hs2 : s.size ≤ 140737488351232 := by omega
  go_enter Tryd.func28, Tryd.ntmps28
  go_upto_block 0 with fail
  generalize hW1 : w.alloc (.cells #[.int .i64 0, .string ⟨#[]⟩, .string ⟨#[]⟩, .slice none 0 0, .bool false] 35) = W1
  have hx0 : Tb W1 w.heap.size (T0 0 ⟨#[]⟩) := by rw [← hW1]; exact Tb.new w (T0 0 ⟨#[]⟩)
  have hbw : Below w.heap.size w W1 := by rw [← hW1]; exact below_new w _
  have HX0 := Lib.hid hx0; have HBW := Lib.hid hbw; clear hx0 hbw hW1
  go_cut [6] from 12 to 24 (fun k wx => ∃ m : Nat, k = .int .i64 m ∧ m ≤ s.size ∧ i ≤ m ∧ (L s).drop m = from_ en ((L s).drop i) ∧ s.extract i m = B (upTo en ((L s).drop i)) ∧ wx = W1)
  case first =>
    go_wp2_with fail
    go_loop [6] (fun k => ∃ m : Nat, k = .int .i64 m ∧ Far (by1 en) s i m) (fun k => s.size - (intOf k).toNat)
    case atStart => exact ⟨i, rfl, .start hi⟩
    case round =>
      obtain ⟨m, rfl, hf⟩ := hrel
      have hm := hf.2.1
      have him := hf.1
      by_cases hp : m < s.size
      · have hlt : decide ((m : Int) < s.size) = true := decide_eq_true (by omega)
        cases hen : en s[m] with
        | true =>
          have hd := hf.done (.inl (by1_at _ s m hp true hen))
          have HD := Lib.hid hd; have HE := Lib.hid hen; clear hf hd hen
          go_wp2_with (go_at_call 48; refine (stops_any s[m] _).mono ?_; rw [HE.out]; rintro e w' ⟨rfl, rfl⟩)
          go_meet
          exact ⟨m, rfl, hm, him, HD.out.2, HD.out.1, rfl⟩
        | false =>
          have hn := hf.next hp (by1_at _ s m hp false hen)
          have HN := Lib.hid hn; have HE := Lib.hid hen; clear hf hn hen
          go_wp2_with (go_at_call 48; refine (stops_any s[m] _).mono ?_; rw [HE.out]; rintro e w' ⟨rfl, rfl⟩)
          go_round
          case rel => exact ⟨m + 1, by go_num, HN.out⟩
          case measure => simp [intOf]; omega
      · have hlt : decide ((m : Int) < s.size) = false := decide_eq_false (by omega)
        have hd := hf.done (.inr hp)
        have HD := Lib.hid hd; clear hf hd
        go_wp2
        go_meet
        exact ⟨m, rfl, hm, him, HD.out.2, HD.out.1, rfl⟩
  case rest =>
    obtain ⟨m0, rfl, hm0, him0, hd0, hx, rfl⟩ := hcut
    have hsx : (s.extract i m0).size ≤ 140737488355328 := Nat.le_trans (size_extract _ _ _) hs'
    have i0 : (0 : Int) ≤ (i : Int) := by omega
    have i1 : (i : Int) ≤ (m0 : Int) := by omega
    have i2 : (m0 : Int) ≤ (s.size : Int) := by omega
    have HD0 := Lib.hid hd0; have HX := Lib.hid hx; clear hd0 hx
    go_wp2_with fail
    refine (Fo.refLower_any _ _ hsx).mono ?_
    rw [HX.out, L_B]
    rintro e w4 ⟨rfl, hb4⟩
    obtain ⟨nm, hnm⟩ : ∃ n, B (lowL (upTo en ((L s).drop i))) = n := ⟨_, rfl⟩
    rw [hnm]
    have hx4 := HX0.out.below hb4
    have hb4' := HBW.out.trans (hb4.mono HBW.out.size)
    have hz4 := hx4.lt
    have hnew : Tb (w4.alloc (.cells #[.int .i64 0, .string nm, .string ⟨#[]⟩, .slice none 0 0, .bool false] 35)) w4.heap.size ⟨⟨0, nm, ⟨#[]⟩, [], false⟩, none, 0⟩ := Tb.new w4 ⟨⟨0, nm, ⟨#[]⟩, [], false⟩, none, 0⟩
    have hx5 : Tb (w4.alloc (.cells #[.int .i64 0, .string nm, .string ⟨#[]⟩, .slice none 0 0, .bool false] 35)) w.heap.size (T0 0 ⟨#[]⟩) := hx4.below (below_new w4 _)
    have hb5 := bt hb4' (below_new w4 (.cells #[.int .i64 0, .string nm, .string ⟨#[]⟩, .slice none 0 0, .bool false] 35))
    have hgl : w.heap.size < w4.heap.size := hz4
    have HNM := Lib.hid hnm; have HN1 := Lib.hid hnew; have HX5 := Lib.hid hx5; have HB5 := Lib.hid hb5
    clear hx4 hb4 hb4' hz4 hnm hnew hx5 hb5 HX HX0 HBW
    go_wp2_with fail
    obtain ⟨g0, hg0⟩ : ∃ g, w.heap.size = g := ⟨_, rfl⟩
    obtain ⟨g1, hg1⟩ : ∃ g, w4.heap.size = g := ⟨_, rfl⟩
    have hst : Tl w (w4.alloc (.cells #[.int .i64 0, .string nm, .string ⟨#[]⟩, .slice none 0 0, .bool false] 35)) g0 g1 s nm m0 m0 none 0 [] :=
      ⟨hm0, Nat.le_refl _, by rw [← hg0]; exact HX5.out, by rw [← hg1]; exact HN1.out, Aw.nil _ _, HB5.out, rfl, Nat.zero_le _⟩
    have hne : g0 ≠ g1 := by omega
    have hgl' : w.heap.size ≤ g1 := by omega
    have HG0 := Lib.hid hg0; have HGL := Lib.hid hgl'
    rw [hg0, hg1]
    rw [hg0, hg1] at hgl
    clear hg0 hg1 hgl' HX5 HN1 HB5
    generalize w4.alloc (.cells #[.int .i64 0, .string nm, .string ⟨#[]⟩, .slice none 0 0, .bool false] 35) = W5 at *
    go_loopw [6] (fun v6 wr => ∃ m l A c, v6 = .int .i64 ((m : Nat) : Int) ∧ Tl w wr g0 g1 s nm m0 m A c l) (fun v6 _ => s.size - (intOf v6).toNat)
    case atStart => exact ⟨m0, [], none, 0, rfl, hst⟩
    case round =>
      clear hst
      obtain ⟨m, l, A, c, rfl, ht⟩ := hrel
      have hm := ht.m_le
      have hm00 := ht.m0_le
      have HT := Lib.hid ht; clear ht
      go_upto_block 4 with fail
      go_cut [6] from 31 to 100 (fun k wx => ∃ m2 : Nat, k = .int .i64 m2 ∧ m ≤ m2 ∧ m2 ≤ s.size ∧ attrs false l ((L s).drop m) = attrs (sfAt s m m2) l ((L s).drop m2) ∧ (m2 < s.size → ∀ h : m2 < s.size, s[m2] ≠ 47 ∧ sp s[m2] = false) ∧ wx = wr)
      case first =>
        go_wp2_with fail
        go_loop [6] (fun k => ∃ m2 : Nat, k = .int .i64 m2 ∧ m ≤ m2 ∧ m2 ≤ s.size ∧ attrs false l ((L s).drop m) = attrs (sfAt s m m2) l ((L s).drop m2)) (fun k => s.size - (intOf k).toNat)
        case atStart => exact ⟨m, rfl, Nat.le_refl _, hm, by rw [sfAt_self]⟩
        case round =>
          obtain ⟨m2, rfl, hmm, hm2, he⟩ := hrel
          by_cases hp : m2 < s.size
          · have hlt : decide ((m2 : Int) < s.size) = true := decide_eq_true (by omega)
            have e47 : ((s[m2].toNat : Int) == 47) = (s[m2] == 47) := u8_eq (b := 47)
            have hsn := sfAt_next s m m2 hmm hp
            cases hsp : sp s[m2] with
            | true =>
              have h62 : s[m2] ≠ 62 := fun e => by rw [e] at hsp; exact absurd hsp (by decide)
              rw [drop_cons s m2 hp, attrs_skip _ _ _ h62 (.inr hsp), ← hsn] at he
              have HE := Lib.hid he; have HS := Lib.hid hsp; clear he hsp hsn h62 e47
              go_wp2_with (go_at_call 50; refine (refSpace_any s[m2] _).mono ?_; rw [HS.out]; rintro e w' ⟨rfl, rfl⟩)
              go_round
              case rel => exact ⟨m2 + 1, by go_num, by omega, by omega, HE.out⟩
              case measure => simp [intOf]; omega
            | false =>
              cases h47 : (s[m2] == 47) with
              | true =>
                rw [h47] at e47
                have e := beq_iff_eq.1 h47
                have h62 : s[m2] ≠ 62 := fun e' => by rw [e] at e'; exact absurd e' (by decide)
                rw [drop_cons s m2 hp, attrs_skip _ _ _ h62 (.inl e), ← hsn] at he
                have HE := Lib.hid he; have HS := Lib.hid hsp; clear he hsp hsn h62 h47 e
                go_wp2_with (go_at_call 50; refine (refSpace_any s[m2] _).mono ?_; rw [HS.out]; rintro e w' ⟨rfl, rfl⟩)
                go_round
                case rel => exact ⟨m2 + 1, by go_num, by omega, by omega, HE.out⟩
                case measure => simp [intOf]; omega
              | false =>
                rw [h47] at e47
                have hno : s[m2] ≠ 47 := by simpa using h47
                have HE := Lib.hid he; have HS := Lib.hid hsp; have HNO := Lib.hid hno; clear he hsp hsn hno h47
                go_wp2_with (go_at_call 50; refine (refSpace_any s[m2] _).mono ?_; rw [HS.out]; rintro e w' ⟨rfl, rfl⟩)
                go_meet
                exact ⟨m2, rfl, hmm, hm2, HE.out, fun _ _ => ⟨HNO.out, HS.out⟩, rfl⟩
          · have hlt : decide ((m2 : Int) < s.size) = false := decide_eq_false (by omega)
            have HE := Lib.hid he; clear he
            go_wp2
            go_meet
            exact ⟨m2, rfl, hmm, hm2, HE.out, fun h => absurd h hp, rfl⟩
      case rest =>
        obtain ⟨m2, rfl, hmm, hm2, he, hstop, rfl⟩ := hcut
        by_cases hp : m2 < s.size
        · have hge : decide ((m2 : Int) ≥ s.size) = false := decide_eq_false (by omega)
          obtain ⟨hn47, hnsp⟩ := hstop hp hp
          have e62 : ((s[m2].toNat : Int) == 62) = (s[m2] == 62) := u8_eq (b := 62)
          by_cases h62 : s[m2] = 62
          · rw [drop_cons s m2 hp, h62, attrs_end] at he
            rw [h62] at e62
            have e62 : ((s[m2].toNat : Int) == 62) = true := by rw [h62]; rfl
            by_cases hgt : m < m2
            · have hgtb : decide ((m2 : Int) > (m : Int)) = true := decide_eq_true (by omega)
              have hi1 : m2 - 1 < s.size := by omega
              have e47 : ((s[m2 - 1].toNat : Int) == 47) = (s[m2 - 1] == 47) := u8_eq (b := 47)
              have hsf : sfAt s m m2 = (s[m2 - 1] == 47) := by unfold sfAt; rw [decide_eq_true hgt, Bool.true_and, drop_cons s (m2 - 1) hi1]; rfl
              rw [hsf] at he
              obtain ⟨sf, hsfe⟩ : ∃ q, (s[m2 - 1] == 47) = q := ⟨_, rfl⟩
              rw [hsfe] at he e47
              have j0 : (0 : Int) ≤ (m2 : Int) - 1 := by omega
              have j1 : (m2 : Int) - 1 < (s.size : Int) := by omega
              have HE := Lib.hid he; clear he hsf hsfe hstop hn47 hnsp h62
              obtain ⟨y0, y1, y2, y3, y4⟩ := HT.out.b1.t
              obtain ⟨r0, r1, r2, r3, r4⟩ := HT.out.b0.z
              have q0 := HT.out.b0.f 0; have q1 := HT.out.b0.f 1; have q2 := HT.out.b0.f 2; have q3 := HT.out.b0.f 3; have q4 := HT.out.b0.f 4; have p4 := HT.out.b1.f 4; have p3 := HT.out.b1.f 3
              have hx1 := HT.out.b1.set4 sf
              obtain ⟨k0, k1, k2, k3, k4⟩ := (show Tb _ _ ⟨⟨0, nm, ⟨#[]⟩, l, sf⟩, A, c⟩ from hx1).t
              clear hx1
              go_wp2
              refine bodyPost_ret (v := .tuple #[tokV ⟨⟨0, nm, ⟨#[]⟩, l, sf⟩, A, c⟩, .int .i64 ((m2 + 1 : Nat) : Int)]) ?_ rfl ⟨⟨⟨0, nm, ⟨#[]⟩, l, sf⟩, A, c⟩, m2 + 1, rfl, ?_, ?_⟩
              · have hf := Tb.overT (HT.out.b0.other hne (b := g1) (j := 4) (.bool sf)) nm l sf A c
                obtain ⟨z0, z1, z2, z3, z4⟩ := hf.t
                simp [results, Tryd.results28, go_sem, z0, z1, z2, z3, z4]
              · exact below_over (HT.out.bel.setCell HGL.out _) (Nat.le_of_eq HG0.out) _ _ _ _ _
              · left
                refine ⟨by omega, by omega, ?_, l, sf, ?_, by rw [HNM.out]⟩
                · exact Aw.fr (Aw.over (HT.out.own.boxes HT.out.b1 (j := 4) (.bool sf)) (HT.out.b0.other hne (b := g1) (j := 4) (.bool sf)) nm l sf A c) _ _ _ _
                · rw [← HD0.out, HT.out.eq, HE.out]
            · have hgtb : decide ((m2 : Int) > (m : Int)) = false := decide_eq_false (by omega)
              have hsf : sfAt s m m2 = false := by rw [show m2 = m from by omega]; exact sfAt_self s m
              rw [hsf] at he
              have HE := Lib.hid he; clear he hsf hstop hn47 hnsp h62
              obtain ⟨y0, y1, y2, y3, y4⟩ := HT.out.b1.t
              obtain ⟨r0, r1, r2, r3, r4⟩ := HT.out.b0.z
              have q0 := HT.out.b0.f 0; have q1 := HT.out.b0.f 1; have q2 := HT.out.b0.f 2; have q3 := HT.out.b0.f 3; have q4 := HT.out.b0.f 4; have p4 := HT.out.b1.f 4; have p3 := HT.out.b1.f 3
              have hx1 := HT.out.b1.set4 false
              obtain ⟨k0, k1, k2, k3, k4⟩ := (show Tb _ _ ⟨⟨0, nm, ⟨#[]⟩, l, false⟩, A, c⟩ from hx1).t
              clear hx1
              go_wp2
              refine bodyPost_ret (v := .tuple #[tokV ⟨⟨0, nm, ⟨#[]⟩, l, false⟩, A, c⟩, .int .i64 ((m2 + 1 : Nat) : Int)]) ?_ rfl ⟨⟨⟨0, nm, ⟨#[]⟩, l, false⟩, A, c⟩, m2 + 1, rfl, ?_, ?_⟩
              · have hf := Tb.overT (HT.out.b0.other hne (b := g1) (j := 4) (.bool false)) nm l false A c
                obtain ⟨z0, z1, z2, z3, z4⟩ := hf.t
                simp [results, Tryd.results28, go_sem, z0, z1, z2, z3, z4]
              · exact below_over (HT.out.bel.setCell HGL.out _) (Nat.le_of_eq HG0.out) _ _ _ _ _
              · left
                refine ⟨by omega, by omega, ?_, l, false, ?_, by rw [HNM.out]⟩
                · exact Aw.fr (Aw.over (HT.out.own.boxes HT.out.b1 (j := 4) (.bool false)) (HT.out.b0.other hne (b := g1) (j := 4) (.bool false)) nm l false A c) _ _ _ _
                · rw [← HD0.out, HT.out.eq, HE.out]
          · have h62b : (s[m2] == 62) = false := by simpa using h62
            rw [h62b] at e62
            clear h62b
            have hcon := drop_cons s m2 hp
            rw [hcon, attrs_attr _ _ _ h62 (by rw [hnsp]; simpa using hn47)] at he
            have hnl := len_name s[m2] ((L s).drop (m2 + 1))
            rw [List.length_drop, size_L] at hnl
            have HE := Lib.hid he; have HC := Lib.hid hcon; have HNL := Lib.hid hnl; clear he hcon hstop hn47 hnsp h62 hnl
            go_wp2_with fail
            refine (refAttr_any s m2 s[m2] ((L s).drop (m2 + 1)) _ hs2 hp HC.out).mono ?_
            rintro e w6 ⟨a, n, rfl, hfound, hb6⟩
            have hT7 := (HT.out.below hb6).below (below_new w6 (.cells #[.string a.name, .string a.value] 37))
            have hbx := Bx.new w6 a.name a.value
            have HT7 := Lib.hid hT7; have HB := Lib.hid hbx; have HT6 := Lib.hid (HT.out.below hb6); clear hT7 hbx hb6 HT
            rcases hfound with ⟨hn, hin, hxa, hdn⟩ | ⟨hn, h0⟩
            · have hgt : decide ((n : Int) > (s.size : Int)) = false := decide_eq_false (by omega)
              have hnm2 : a.name.size ≤ maxLen := by
                rw [hxa]; have := HNL.out; unfold maxLen; omega
              have he := HE.out
              rw [← hxa, ← hdn] at he
              obtain ⟨q, hq⟩ : ∃ q, Tm.known l a.name = q := ⟨_, rfl⟩
              have hra := HT7.out.own.ra
              have hfew := HT7.out.few
              obtain ⟨y0, y1, y2, y3, y4⟩ := HT7.out.b1.t
              have p3 := HT7.out.b1.f 3
              have x0 := HB.out.c0; have x1 := HB.out.c1
              have HE2 := Lib.hid he; have HQ := Lib.hid hq; have HRA := Lib.hid hra; have HNM2 := Lib.hid hnm2; clear he hq hra hxa hdn HE hnm2
              go_wp2_with fail
              obtain ⟨g9, hg9⟩ : ∃ g, w6.heap.size = g := ⟨_, rfl⟩
              rw [hg9] at HB x0 x1 ⊢
              clear hg9 HT6
              generalize w6.alloc (.cells #[.string a.name, .string a.value] 37) = W7 at *
              refine (refKnown_any A c _ l a.name _ HRA.out (by omega) q HQ.out).mono ?_
              rintro e w' ⟨rfl, rfl⟩
              cases q with
              | true =>
                go_wp2
                go_roundw
                case rel =>
                  have hp2 : put l a = l := by unfold put; rw [if_pos HQ.out]
                  have he := HE2.out
                  rw [hp2] at he
                  have h7 := HT7.out
                  exact ⟨n, l, A, c, rfl, hn, by omega, h7.b0, h7.b1, h7.own, h7.bel, by rw [h7.eq, he], by omega⟩
                case measure => simp [intOf]; omega
              | false =>
                have hl4 : l.length ≤ 4000000000 := by omega
                have hT8 := HT7.out
                have hZ : w.heap.size ≤ W7.heap.size := hT8.bel.size
                have HZ := Lib.hid hZ
                clear hT8 hZ
                go_wp2_with (at_builtin; refine app_attr W7 rfl (.tmp 95) (.tmp 97) rfl w.heap.size (.slice A l.length c) l a rfl HT7.out.own HNM2.out W7.heap.size rfl rfl hl4 HZ.out ?_; intro v7 w7 hw7 hg7; obtain ⟨A7, c7, rfl⟩ := hw7.form; have hb17 := HT7.out.b1.off HT7.out.own hg7; have g3 := hb17.f 3; have g33 := hb17.t.2.2.2.1; have HW7 := Lib.hid hw7; have HG7 := Lib.hid hg7; have HB17 := Lib.hid hb17; clear hw7 hg7 hb17 y0 y1 y2 y3 y4 p3 x0 x1)
                go_roundw
                case rel =>
                  have hp2 : put l a = l ++ [a] := by unfold put; rw [if_neg (by rw [HQ.out]; simp)]
                  have he := HE2.out
                  rw [hp2] at he
                  have h7 := HT7.out
                  have hbel := h7.bel.grown HG7.out h7.bel.size (fun k hk => (World.ownsRow.lt h7.own.1 k hk).1)
                  refine ⟨n, l ++ [a], A7, c7, rfl, hn, by omega, ?_, ?_, ?_, hbel.setCell HGL.out _, by rw [h7.eq, he], by rw [List.length_append]; simp; omega⟩
                  · exact (h7.b0.off h7.own HG7.out).other hne _
                  · have h3 := HB17.out.set3 A7 c7 (l ++ [a])
                    rw [List.length_append] at h3
                    exact h3
                  · exact HW7.out.boxes HB17.out _
                case measure => simp [intOf]; omega
            · have hgt : decide ((n : Int) > (s.size : Int)) = true := decide_eq_true (by omega)
              have he := HE.out
              rw [h0, attrs_nil] at he
              have HT := HT7
              have HE := Lib.hid he; clear he h0
              obtain rfl : n = s.size + 1 := hn
              obtain ⟨y0, y1, y2, y3, y4⟩ := HT.out.b1.t
              obtain ⟨r0, r1, r2, r3, r4⟩ := HT.out.b0.z
              have q0 := HT.out.b0.f 0; have q1 := HT.out.b0.f 1; have q2 := HT.out.b0.f 2; have q3 := HT.out.b0.f 3; have q4 := HT.out.b0.f 4; have p4 := HT.out.b1.f 4; have p3 := HT.out.b1.f 3
              go_wp2
              refine bodyPost_ret (v := .tuple #[tokV ⟨⟨0, nm, ⟨#[]⟩, l, false⟩, A, c⟩, .int .i64 ((s.size + 1 : Nat) : Int)]) ?_ rfl ⟨⟨⟨0, nm, ⟨#[]⟩, l, false⟩, A, c⟩, s.size + 1, rfl, ?_, ?_⟩
              · have hf := Tb.overT HT.out.b0 nm l false A c
                obtain ⟨z0, z1, z2, z3, z4⟩ := hf.t
                simp [results, Tryd.results28, go_sem, z0, z1, z2, z3, z4]
              · exact below_over (HT.out.bel) (Nat.le_of_eq HG0.out) _ _ _ _ _
              · right
                refine ⟨rfl, ?_⟩
                rw [← HD0.out, HT.out.eq, HE.out]
        · have hge : decide ((m2 : Int) ≥ s.size) = true := decide_eq_true (by omega)
          rw [drop_nil s m2 hp, attrs_nil] at he
          have HE := Lib.hid he; clear he hstop
          obtain ⟨y0, y1, y2, y3, y4⟩ := HT.out.b1.t
          obtain ⟨r0, r1, r2, r3, r4⟩ := HT.out.b0.z
          have q0 := HT.out.b0.f 0; have q1 := HT.out.b0.f 1; have q2 := HT.out.b0.f 2; have q3 := HT.out.b0.f 3; have q4 := HT.out.b0.f 4; have p4 := HT.out.b1.f 4; have p3 := HT.out.b1.f 3
          go_wp2
          refine bodyPost_ret (v := .tuple #[tokV ⟨⟨0, nm, ⟨#[]⟩, l, false⟩, A, c⟩, .int .i64 ((s.size + 1 : Nat) : Int)]) ?_ rfl ⟨⟨⟨0, nm, ⟨#[]⟩, l, false⟩, A, c⟩, s.size + 1, rfl, ?_, ?_⟩
          · have hf := Tb.overT HT.out.b0 nm l false A c
            obtain ⟨z0, z1, z2, z3, z4⟩ := hf.t
            simp [results, Tryd.results28, go_sem, z0, z1, z2, z3, z4]
          · exact below_over (HT.out.bel) (Nat.le_of_eq HG0.out) _ _ _ _ _
          · right
            refine ⟨rfl, ?_⟩
            rw [← HD0.out, HT.out.eq, HE.out]

end Go.Proofs.YtjhhhlomkfnniaaDoor.To
