/-
  Walk of stage 6's reference: attr.
-/
import Derived.Test.YtjhhhlomkfnniaaDoorTokRefA
import Derived.Test.YtjhhhlomkfnniaaDoorTokFacts2
import Derived.Deep.CutBlock
import Derived.Deep.DeepCutAuto
namespace Go.Proofs.YtjhhhlomkfnniaaDoor.To
set_option linter.unusedSimpArgs false
set_option linter.unusedVariables false
open Go.RowKit Ba Fm Fo Tm
open Rm (dec)
open Ro (below_new At acells len_acells Sh Ra)
open Re (Tab)

theorem pre_one (c : UInt8) (l : List UInt8) : pre [c] l = hd c l := by
  cases l with
  | nil => unfold pre hd; simp [by1]
  | cons a r => rw [pre_cons, pre_nil, Bool.and_true]; rfl

/-- What an attribute that begins at a place comes to, and where it ends. -/
def Found (s : ByteArray) (i : Nat) (c : UInt8) (r : List UInt8) (x : Ro.At) (n : Nat) : Prop :=
  (n ≤ s.size ∧ i < n ∧ x = (attr c r).1 ∧ (L s).drop n = (attr c r).2) ∨ (n = s.size + 1 ∧ (attr c r).2 = [])

set_option maxRecDepth 100000 in
set_option maxHeartbeats 4000000 in
theorem refAttr_any (s : ByteArray) (i : Nat) (c : UInt8) (r : List UInt8) (w : World) (hs : s.size ≤ 140737488351232) (hi : i < s.size) (hcr : (L s).drop i = c :: r) :
    Calls Tryd.prog 51 #[.string s, .int .i64 i] w fun e w' => ∃ (x : Ro.At) (n : Nat), e = .returned (.tuple #[.agg #[.string x.name, .string x.value], .int .i64 n]) ∧ Found s i c r x n ∧ Below w.heap.size w w' := by
  have hs' : s.size ≤ 140737488355328 := by omega
  have hr : (L s).drop (i + 1) = r ∧ s[i] = c := by
    have := drop_cons s i hi
    rw [hcr] at this
    injection this with h1 h2
    exact ⟨h2.symm, h1.symm⟩
  obtain ⟨hr, hc⟩ := hr
  have HR := Lib.hid hr; have HC := Lib.hid hc; clear hr hc hcr
  go_enter Tryd.func51, Tryd.ntmps51
  go_upto_block 0 with fail
  go_cut [6] from 13 to 31 (fun k wx => ∃ m : Nat, k = .int .i64 m ∧ m ≤ s.size ∧ (L s).drop m = from_ ea ((L s).drop (i + 1)) ∧ wx = w.alloc (.cells #[.string ⟨#[]⟩, .string ⟨#[]⟩] 37))
  case first =>
    go_wp2_with fail
    go_loop [6] (fun k => ∃ m : Nat, k = .int .i64 m ∧ Far (by1 ea) s (i + 1) m) (fun k => s.size - (intOf k).toNat)
    case atStart => exact ⟨i + 1, by go_num, .start (by omega)⟩
    case round =>
      obtain ⟨m, rfl, hf⟩ := hrel
      have hm := hf.2.1
      by_cases hp : m < s.size
      · have hlt : decide ((m : Int) < s.size) = true := decide_eq_true (by omega)
        have e61 : ((s[m].toNat : Int) == 61) = (s[m] == 61) := u8_eq (b := 61)
        cases hen : en s[m] with
        | true =>
          have hd := (hf.done (.inl (by1_at _ s m hp true (by unfold ea; rw [hen, Bool.or_true])))).2
          have HD := Lib.hid hd; have HE := Lib.hid hen; clear hf hd hen e61
          go_wp2_with (go_at_call 48; refine (stops_any s[m] _).mono ?_; rw [HE.out]; rintro e w' ⟨rfl, rfl⟩)
          go_meet
          exact ⟨m, rfl, hm, HD.out, rfl⟩
        | false =>
          cases h61 : (s[m] == 61) with
          | true =>
            rw [h61] at e61
            have hd := (hf.done (.inl (by1_at _ s m hp true (by unfold ea; rw [h61, Bool.true_or])))).2
            have HD := Lib.hid hd; have HE := Lib.hid hen; clear hf hd hen h61
            go_wp2_with (go_at_call 48; refine (stops_any s[m] _).mono ?_; rw [HE.out]; rintro e w' ⟨rfl, rfl⟩)
            go_meet
            exact ⟨m, rfl, hm, HD.out, rfl⟩
          | false =>
            rw [h61] at e61
            have hn := hf.next hp (by1_at _ s m hp false (by unfold ea; rw [h61, hen]; rfl))
            have HN := Lib.hid hn; have HE := Lib.hid hen; clear hf hn hen h61
            go_wp2_with (go_at_call 48; refine (stops_any s[m] _).mono ?_; rw [HE.out]; rintro e w' ⟨rfl, rfl⟩)
            go_round
            case rel => exact ⟨m + 1, by go_num, HN.out⟩
            case measure => simp [intOf]; omega
      · have hlt : decide ((m : Int) < s.size) = false := decide_eq_false (by omega)
        have hd := (hf.done (.inr hp)).2
        have HD := Lib.hid hd; clear hf hd
        go_wp2
        go_meet
        exact ⟨m, rfl, hm, HD.out, rfl⟩
  case rest =>
    obtain ⟨m, rfl, hm, hd, rfl⟩ := hcut
    obtain ⟨hkm, hex⟩ := span_one hi hm hd
    rw [HR.out] at hd
    rw [HR.out, HC.out] at hex
    have hbx : Bx (w.alloc (.cells #[.string ⟨#[]⟩, .string ⟨#[]⟩] 37)) w.heap.size ⟨#[]⟩ ⟨#[]⟩ := Bx.new w _ _
    have hsx : (s.extract i m).size ≤ 140737488355328 := Nat.le_trans (size_extract _ _ _) hs'
    have hbw := below_new w (.cells #[.string ⟨#[]⟩, .string ⟨#[]⟩] 37)
    have hgz : w.heap.size < (w.alloc (.cells #[.string ⟨#[]⟩, .string ⟨#[]⟩] 37)).heap.size := by simp
    have i0 : (0 : Int) ≤ (i : Int) := by omega
    have i1 : (i : Int) ≤ (m : Int) := by omega
    have i2 : (m : Int) ≤ (s.size : Int) := by omega
    have HX := Lib.hid hbx; have HD := Lib.hid hd; have HE := Lib.hid hex; have HB := Lib.hid hbw; clear hbx hd hex hbw
    generalize w.alloc (.cells #[.string ⟨#[]⟩, .string ⟨#[]⟩] 37) = W1 at *
    go_wp2_with fail
    refine (Fo.refLower_any _ W1 hsx).mono ?_
    rintro e w4 ⟨rfl, hb4⟩
    rw [HE.out]
    have hx4 := HX.out.below hb4
    have hb4' := bt HB.out hb4
    have hz4 := hx4.lt
    have HX4 := Lib.hid hx4; have HB4 := Lib.hid hb4'; clear HX HB hx4 hb4' hb4 hgz
    go_wp2_with fail
    generalize hW5 : w4.alloc (.cells #[.string (B (lowL (c :: upTo ea r))), .string ⟨#[]⟩] 37) = W5
    have hx1 : Bx W5 w4.heap.size (B (lowL (c :: upTo ea r))) ⟨#[]⟩ := by rw [← hW5]; exact Bx.new w4 _ _
    have hx0 : Bx W5 w.heap.size ⟨#[]⟩ ⟨#[]⟩ := by rw [← hW5]; exact HX4.out.below (below_new w4 _)
    have hb5 : Below w.heap.size w W5 := by rw [← hW5]; exact bt HB4.out (below_new w4 _)
    have hne : w4.heap.size ≠ w.heap.size := by omega
    obtain ⟨nm, hnm⟩ : ∃ n, B (lowL (c :: upTo ea r)) = n := ⟨_, rfl⟩
    rw [hnm] at hx1
    have hat : attr c r = (⟨nm, B (valued (trimS (from_ ea r))).1⟩, (valued (trimS (from_ ea r))).2) := by rw [attr_eq, hnm]
    obtain ⟨g0, hg0⟩ : ∃ g, w.heap.size = g := ⟨_, rfl⟩
    obtain ⟨g1, hg1⟩ : ∃ g, w4.heap.size = g := ⟨_, rfl⟩
    rw [hg0, hg1] at hne
    rw [hg0] at hx0
    rw [hg1] at hx1
    rw [hg0, hg1]
    have hgl : w.heap.size ≤ g1 := by omega
    have hne' : g0 ≠ g1 := fun e => hne e.symm
    clear hW5 HX4 HB4 hz4
    have HGL := Lib.hid hgl; clear hgl
    have HX0 := Lib.hid hx0; have HX1 := Lib.hid hx1; have HB5 := Lib.hid hb5; have HAT := Lib.hid hat; have HG0 := Lib.hid hg0
    clear hx0 hx1 hb5 hat hg0 hg1 hnm HE
    refine (spaces_any s m W5 hs' hm).mono ?_
    rintro e w' ⟨e1, rfl, hme, hes, hde, rfl⟩
    rw [HD.out] at hde
    cases h61 : hd 61 ((L s).drop e1) with
    | false =>
      have hv := valued_no h61
      rw [hde] at hv
      have HV := Lib.hid hv; have HDE := Lib.hid hde; have H61 := Lib.hid h61; clear hv hde h61 HD
      go_wp2_with fail
      refine (refAt1 s _ e1 _ [61] false hs' (by omega) (by decide) (by decide) rfl (by rw [pre_one]; exact H61.out)).mono ?_
      rintro e w' ⟨rfl, rfl⟩
      by_cases hz : e1 = s.size
      · have hzb : ((e1 : Int) == (s.size : Int)) = true := by rw [beq_iff_eq]; omega
        have HZ := Lib.hid hz; clear hz
        have r0 := HX0.out.c0; have r1 := HX0.out.c1; have q0 := HX0.out.f 0; have q1 := HX0.out.f 1; have k0 := HX1.out.c0; have k1 := HX1.out.c1
        go_wp2
        refine bodyPost_ret (v := .tuple #[.agg #[.string nm, .string ⟨#[]⟩], .int .i64 ((s.size + 1 : Nat) : Int)]) ?_ rfl ⟨⟨nm, ⟨#[]⟩⟩, s.size + 1, rfl, .inr ⟨rfl, ?_⟩, ?_⟩
        · have hf := (HX0.out.set0 nm).set1 ⟨#[]⟩
          have z0 := hf.c0; have z1 := hf.c1
          simp [results, Tryd.results51, go_sem, z0, z1]
        · rw [HAT.out, HV.out, ← HDE.out, HZ.out, drop_nil s _ (by omega)]
        · exact (HB5.out.setCell (Nat.le_of_eq HG0.out) _).setCell (Nat.le_of_eq HG0.out) _
      · have hzb : ((e1 : Int) == (s.size : Int)) = false := by rw [beq_eq_false_iff_ne]; omega
        have HZ := Lib.hid hz; clear hz
        have r0 := HX0.out.c0; have r1 := HX0.out.c1; have q0 := HX0.out.f 0; have q1 := HX0.out.f 1; have k0 := HX1.out.c0; have k1 := HX1.out.c1
        go_wp2
        refine bodyPost_ret (v := .tuple #[.agg #[.string nm, .string ⟨#[]⟩], .int .i64 (e1 : Int)]) ?_ rfl ⟨⟨nm, ⟨#[]⟩⟩, e1, rfl, .inl ⟨hes, by omega, ?_, ?_⟩, ?_⟩
        · have hf := (HX0.out.set0 nm).set1 ⟨#[]⟩
          have z0 := hf.c0; have z1 := hf.c1
          simp [results, Tryd.results51, go_sem, z0, z1]
        · rw [HAT.out, HV.out]; rfl
        · rw [HAT.out, HV.out, ← HDE.out]
        · exact (HB5.out.setCell (Nat.le_of_eq HG0.out) _).setCell (Nat.le_of_eq HG0.out) _
    | true =>
      have hv := valued_yes h61
      rw [hde] at hv
      have hdr := hd_drop hes h61
      rw [if_pos rfl, hde] at hdr
      obtain ⟨hes1, hdr⟩ := hdr
      have HV := Lib.hid hv; have H61 := Lib.hid h61; have HDR := Lib.hid hdr; clear hv h61 hdr hde HD
      go_wp2_with fail
      refine (refAt1 s _ e1 _ [61] true hs' (by omega) (by decide) (by decide) rfl (by rw [pre_one]; exact H61.out)).mono ?_
      rintro e w' ⟨rfl, rfl⟩
      go_wp2_with fail
      refine (spaces_any s (e1 + 1) W5 hs' hes1).mono ?_
      rintro e w' ⟨k2, rfl, hk1, hk2, hd2, rfl⟩
      have hd2 : (L s).drop k2 = trimS ((trimS (from_ ea r)).drop 1) := by rw [hd2]; exact congrArg trimS HDR.out
      obtain ⟨tl, htl⟩ : ∃ l, trimS ((trimS (from_ ea r)).drop 1) = l := ⟨_, rfl⟩
      have hat2 : attr c r = (⟨nm, B (dec (value tl).1)⟩, (value tl).2) := by rw [HAT.out, HV.out, htl]
      rw [htl] at hd2
      have HAT2 := Lib.hid hat2; have HD2 := Lib.hid hd2; clear hat2 hd2 htl HAT HV H61 HDR
      by_cases hz : k2 < s.size
      · have hzb : ((k2 : Int) == (s.size : Int)) = false := by rw [beq_eq_false_iff_ne]; omega
        obtain ⟨c2, hc2⟩ : ∃ x, s[k2] = x := ⟨_, rfl⟩
        have htc : tl = c2 :: (L s).drop (k2 + 1) := by rw [← HD2.out, drop_cons s k2 hz, hc2]
        have e34 : ((s[k2].toNat : Int) == 34) = (c2 == 34) := by rw [← hc2]; exact u8_eq (b := 34)
        have e39 : ((s[k2].toNat : Int) == 39) = (c2 == 39) := by rw [← hc2]; exact u8_eq (b := 39)
        cases h34 : (c2 == 34) with
        | true =>
          rw [h34] at e34
          have hv : value tl = quo c2 ((L s).drop (k2 + 1)) := by
            rw [beq_iff_eq.1 h34] at htc ⊢
            rw [htc]
            exact value_34 rfl
          clear h34 e39
          have hL : L (s.extract k2 (k2 + 1)) = [c2] := by
            rw [L_extract, drop_cons s k2 hz, hc2, show k2 + 1 - k2 = 1 from by omega]; rfl
          have hsz1 : (s.extract k2 (k2 + 1)).size = 1 := by rw [← size_L, hL]; rfl
          have hpe : pre [c2] = by1 (is c2) := funext fun l => pre_one c2 l
          have i4 : (0 : Int) ≤ (k2 : Int) := by omega
          have i5 : (k2 : Int) ≤ (k2 : Int) + 1 := by omega
          have i6 : (k2 : Int) + 1 ≤ (s.size : Int) := by omega
          have HV2 := Lib.hid hv; have HL := Lib.hid hL; have HPE := Lib.hid hpe; have HC2 := Lib.hid hc2; clear hv hL hpe hc2 htc
          go_wp2_with fail
          refine (find_any s (s.extract k2 (k2 + 1)) (k2 + 1) W5 hs' (by omega) (by omega) (by omega)).mono ?_
          rintro e w' ⟨q, rfl, hf, hstop, -, rfl⟩
          rw [HL.out, HPE.out] at hf hstop
          obtain ⟨hq1, hq2⟩ := hf.done hstop
          have hqle := hf.2.1
          have hkq := hf.1
          have HQ1 := Lib.hid hq1; have HQ2 := Lib.hid hq2; clear hf hstop hq1 hq2 hsz1
          by_cases hqz : q < s.size
          · have hqb : ((q : Int) == (s.size : Int)) = false := by rw [beq_eq_false_iff_ne]; omega
            have hzs : (s.extract (k2 + 1) q).size ≤ 140737488351232 := Nat.le_trans (size_extract _ _ _) hs
            go_wp2_with fail
            refine (Re.refDecode_any (s.extract (k2 + 1) q) W5 hzs).mono ?_
            rintro e w6 ⟨rfl, hb6⟩
            rw [HQ1.out, L_B]
            obtain ⟨vv, hvv⟩ : ∃ v, B (dec (lead (by1 (is c2)) ((L s).drop (k2 + 1)))) = v := ⟨_, rfl⟩
            rw [hvv]
            have hx06 := HX0.out.below hb6
            have hx16 := HX1.out.below hb6
            have hb6' := HB5.out.trans (hb6.mono HB5.out.size)
            have r0 := hx06.c0; have r1 := hx06.c1; have q0 := hx06.f 0; have q1 := hx06.f 1; have k0 := hx16.c0; have k1 := hx16.c1; have p0 := hx16.f 0; have p1 := hx16.f 1
            have HVV := Lib.hid hvv; have HX06 := Lib.hid hx06; have HB6 := Lib.hid hb6'; clear hvv hx06 hx16 hb6 hb6' hzs
            go_wp2
            refine bodyPost_ret (v := .tuple #[.agg #[.string nm, .string vv], .int .i64 ((q + 1 : Nat) : Int)]) ?_ rfl ⟨⟨nm, vv⟩, q + 1, rfl, .inl ⟨by omega, by omega, ?_, ?_⟩, ?_⟩
            · have hf := ((HX06.out.other hne' (b := g1) (j := 1) (.string vv)).set0 nm).set1 vv
              have z0 := hf.c0; have z1 := hf.c1
              simp [results, Tryd.results51, go_sem, z0, z1]
            · rw [HAT2.out, HV2.out, ← HVV.out]; rfl
            · rw [HAT2.out, HV2.out]
              show _ = (trail (by1 (is c2)) _).drop 1
              rw [← HQ2.out, List.drop_drop]
            · exact ((HB6.out.setCell HGL.out _).setCell (Nat.le_of_eq HG0.out) _).setCell (Nat.le_of_eq HG0.out) _
          · have hqb : ((q : Int) == (s.size : Int)) = true := by rw [beq_iff_eq]; omega
            have r0 := HX0.out.c0; have r1 := HX0.out.c1; have q0 := HX0.out.f 0; have q1 := HX0.out.f 1; have k0 := HX1.out.c0; have k1 := HX1.out.c1
            go_wp2
            refine bodyPost_ret (v := .tuple #[.agg #[.string nm, .string ⟨#[]⟩], .int .i64 ((s.size + 1 : Nat) : Int)]) ?_ rfl ⟨⟨nm, ⟨#[]⟩⟩, s.size + 1, rfl, .inr ⟨rfl, ?_⟩, ?_⟩
            · have hf := (HX0.out.set0 nm).set1 ⟨#[]⟩
              have z0 := hf.c0; have z1 := hf.c1
              simp [results, Tryd.results51, go_sem, z0, z1]
            · rw [HAT2.out, HV2.out]
              show (trail (by1 (is c2)) _).drop 1 = []
              rw [← HQ2.out, drop_nil s q hqz]; rfl
            · exact (HB5.out.setCell (Nat.le_of_eq HG0.out) _).setCell (Nat.le_of_eq HG0.out) _
        | false =>
          rw [h34] at e34
          cases h39 : (c2 == 39) with
          | true =>
            rw [h39] at e39
            have hv : value tl = quo c2 ((L s).drop (k2 + 1)) := by
              rw [beq_iff_eq.1 h39] at htc ⊢
              rw [htc]
              exact value_39 rfl rfl
            clear h34 h39
            have hL : L (s.extract k2 (k2 + 1)) = [c2] := by
              rw [L_extract, drop_cons s k2 hz, hc2, show k2 + 1 - k2 = 1 from by omega]; rfl
            have hsz1 : (s.extract k2 (k2 + 1)).size = 1 := by rw [← size_L, hL]; rfl
            have hpe : pre [c2] = by1 (is c2) := funext fun l => pre_one c2 l
            have i4 : (0 : Int) ≤ (k2 : Int) := by omega
            have i5 : (k2 : Int) ≤ (k2 : Int) + 1 := by omega
            have i6 : (k2 : Int) + 1 ≤ (s.size : Int) := by omega
            have HV2 := Lib.hid hv; have HL := Lib.hid hL; have HPE := Lib.hid hpe; have HC2 := Lib.hid hc2; clear hv hL hpe hc2 htc
            go_wp2_with fail
            refine (find_any s (s.extract k2 (k2 + 1)) (k2 + 1) W5 hs' (by omega) (by omega) (by omega)).mono ?_
            rintro e w' ⟨q, rfl, hf, hstop, -, rfl⟩
            rw [HL.out, HPE.out] at hf hstop
            obtain ⟨hq1, hq2⟩ := hf.done hstop
            have hqle := hf.2.1
            have hkq := hf.1
            have HQ1 := Lib.hid hq1; have HQ2 := Lib.hid hq2; clear hf hstop hq1 hq2 hsz1
            by_cases hqz : q < s.size
            · have hqb : ((q : Int) == (s.size : Int)) = false := by rw [beq_eq_false_iff_ne]; omega
              have hzs : (s.extract (k2 + 1) q).size ≤ 140737488351232 := Nat.le_trans (size_extract _ _ _) hs
              go_wp2_with fail
              refine (Re.refDecode_any (s.extract (k2 + 1) q) W5 hzs).mono ?_
              rintro e w6 ⟨rfl, hb6⟩
              rw [HQ1.out, L_B]
              obtain ⟨vv, hvv⟩ : ∃ v, B (dec (lead (by1 (is c2)) ((L s).drop (k2 + 1)))) = v := ⟨_, rfl⟩
              rw [hvv]
              have hx06 := HX0.out.below hb6
              have hx16 := HX1.out.below hb6
              have hb6' := HB5.out.trans (hb6.mono HB5.out.size)
              have r0 := hx06.c0; have r1 := hx06.c1; have q0 := hx06.f 0; have q1 := hx06.f 1; have k0 := hx16.c0; have k1 := hx16.c1; have p0 := hx16.f 0; have p1 := hx16.f 1
              have HVV := Lib.hid hvv; have HX06 := Lib.hid hx06; have HB6 := Lib.hid hb6'; clear hvv hx06 hx16 hb6 hb6' hzs
              go_wp2
              refine bodyPost_ret (v := .tuple #[.agg #[.string nm, .string vv], .int .i64 ((q + 1 : Nat) : Int)]) ?_ rfl ⟨⟨nm, vv⟩, q + 1, rfl, .inl ⟨by omega, by omega, ?_, ?_⟩, ?_⟩
              · have hf := ((HX06.out.other hne' (b := g1) (j := 1) (.string vv)).set0 nm).set1 vv
                have z0 := hf.c0; have z1 := hf.c1
                simp [results, Tryd.results51, go_sem, z0, z1]
              · rw [HAT2.out, HV2.out, ← HVV.out]; rfl
              · rw [HAT2.out, HV2.out]
                show _ = (trail (by1 (is c2)) _).drop 1
                rw [← HQ2.out, List.drop_drop]
              · exact ((HB6.out.setCell HGL.out _).setCell (Nat.le_of_eq HG0.out) _).setCell (Nat.le_of_eq HG0.out) _
            · have hqb : ((q : Int) == (s.size : Int)) = true := by rw [beq_iff_eq]; omega
              have r0 := HX0.out.c0; have r1 := HX0.out.c1; have q0 := HX0.out.f 0; have q1 := HX0.out.f 1; have k0 := HX1.out.c0; have k1 := HX1.out.c1
              go_wp2
              refine bodyPost_ret (v := .tuple #[.agg #[.string nm, .string ⟨#[]⟩], .int .i64 ((s.size + 1 : Nat) : Int)]) ?_ rfl ⟨⟨nm, ⟨#[]⟩⟩, s.size + 1, rfl, .inr ⟨rfl, ?_⟩, ?_⟩
              · have hf := (HX0.out.set0 nm).set1 ⟨#[]⟩
                have z0 := hf.c0; have z1 := hf.c1
                simp [results, Tryd.results51, go_sem, z0, z1]
              · rw [HAT2.out, HV2.out]
                show (trail (by1 (is c2)) _).drop 1 = []
                rw [← HQ2.out, drop_nil s q hqz]; rfl
              · exact (HB5.out.setCell (Nat.le_of_eq HG0.out) _).setCell (Nat.le_of_eq HG0.out) _
          | false =>
            rw [h39] at e39
            have hv : value tl = (upTo ev tl, from_ ev tl) := by
              refine value_no ?_ ?_
              · rw [htc]; exact h34
              · rw [htc]; exact h39
            have HV2 := Lib.hid hv; clear hv htc hc2
            go_upto_block 2 with fail
            go_cut [10] from 105 to 123 (fun k wx => ∃ v : Nat, k = .int .i64 v ∧ v ≤ s.size ∧ k2 ≤ v ∧ s.extract k2 v = B (upTo ev tl) ∧ (L s).drop v = from_ ev tl ∧ wx = W5)
            case first =>
              go_wp2_with fail
              go_loop [10] (fun k => ∃ m : Nat, k = .int .i64 m ∧ Far (by1 ev) s k2 m) (fun k => s.size - (intOf k).toNat)
              case atStart => exact ⟨k2, rfl, .start hk2⟩
              case round =>
                obtain ⟨m, rfl, hf⟩ := hrel
                have hm := hf.2.1
                have hkm := hf.1
                by_cases hp : m < s.size
                · have hlt : decide ((m : Int) < s.size) = true := decide_eq_true (by omega)
                  have e62 : ((s[m].toNat : Int) == 62) = (s[m] == 62) := u8_eq (b := 62)
                  cases hsp : sp s[m] with
                  | true =>
                    have hd := hf.done (.inl (by1_at _ s m hp true (by unfold ev; rw [hsp, Bool.or_true])))
                    rw [HD2.out] at hd
                    have HD := Lib.hid hd; have HE := Lib.hid hsp; clear hf hd hsp e62
                    go_wp2_with (go_at_call 50; refine (refSpace_any s[m] _).mono ?_; rw [HE.out]; rintro e w' ⟨rfl, rfl⟩)
                    go_meet
                    exact ⟨m, rfl, hm, hkm, HD.out.1, HD.out.2, rfl⟩
                  | false =>
                    cases h62 : (s[m] == 62) with
                    | true =>
                      rw [h62] at e62
                      have hd := hf.done (.inl (by1_at _ s m hp true (by unfold ev; rw [h62, Bool.true_or])))
                      rw [HD2.out] at hd
                      have HD := Lib.hid hd; have HE := Lib.hid hsp; clear hf hd hsp h62
                      go_wp2_with (go_at_call 50; refine (refSpace_any s[m] _).mono ?_; rw [HE.out]; rintro e w' ⟨rfl, rfl⟩)
                      go_meet
                      exact ⟨m, rfl, hm, hkm, HD.out.1, HD.out.2, rfl⟩
                    | false =>
                      rw [h62] at e62
                      have hn := hf.next hp (by1_at _ s m hp false (by unfold ev; rw [h62, hsp]; rfl))
                      have HN := Lib.hid hn; have HE := Lib.hid hsp; clear hf hn hsp h62
                      go_wp2_with (go_at_call 50; refine (refSpace_any s[m] _).mono ?_; rw [HE.out]; rintro e w' ⟨rfl, rfl⟩)
                      go_round
                      case rel => exact ⟨m + 1, by go_num, HN.out⟩
                      case measure => simp [intOf]; omega
                · have hlt : decide ((m : Int) < s.size) = false := decide_eq_false (by omega)
                  have hd := hf.done (.inr hp)
                  rw [HD2.out] at hd
                  have HD := Lib.hid hd; clear hf hd
                  go_wp2
                  go_meet
                  exact ⟨m, rfl, hm, hkm, HD.out.1, HD.out.2, rfl⟩
            case rest =>
              obtain ⟨v, rfl, hvs, hkv, hx, hdv, rfl⟩ := hcut
              have hzs : (s.extract k2 v).size ≤ 140737488351232 := Nat.le_trans (size_extract _ _ _) hs
              have i4 : (0 : Int) ≤ (k2 : Int) := by omega
              have i5 : (k2 : Int) ≤ (v : Int) := by omega
              have i6 : (v : Int) ≤ (s.size : Int) := by omega
              have HXX := Lib.hid hx; have HDV := Lib.hid hdv; clear hx hdv
              go_wp2_with fail
              refine (Re.refDecode_any (s.extract k2 v) _ hzs).mono ?_
              rintro e w6 ⟨rfl, hb6⟩
              rw [HXX.out, L_B]
              obtain ⟨vv, hvv⟩ : ∃ v, B (dec (upTo ev tl)) = v := ⟨_, rfl⟩
              rw [hvv]
              have hx06 := HX0.out.below hb6
              have hx16 := HX1.out.below hb6
              have hb6' := HB5.out.trans (hb6.mono HB5.out.size)
              have r0 := hx06.c0; have r1 := hx06.c1; have q0 := hx06.f 0; have q1 := hx06.f 1; have k0 := hx16.c0; have k1 := hx16.c1; have p0 := hx16.f 0; have p1 := hx16.f 1
              have HVV := Lib.hid hvv; have HX06 := Lib.hid hx06; have HB6 := Lib.hid hb6'; clear hvv hx06 hx16 hb6 hb6' hzs
              by_cases hvz : v = s.size
              · have hvb : ((v : Int) == (s.size : Int)) = true := by rw [beq_iff_eq]; omega
                have HZ := Lib.hid hvz; clear hvz
                go_wp2
                refine bodyPost_ret (v := .tuple #[.agg #[.string nm, .string vv], .int .i64 ((s.size + 1 : Nat) : Int)]) ?_ rfl ⟨⟨nm, vv⟩, s.size + 1, rfl, .inr ⟨rfl, ?_⟩, ?_⟩
                · have hf := ((HX06.out.other hne' (b := g1) (j := 1) (.string vv)).set0 nm).set1 vv
                  have z0 := hf.c0; have z1 := hf.c1
                  simp [results, Tryd.results51, go_sem, z0, z1]
                · rw [HAT2.out, HV2.out]
                  show from_ ev tl = []
                  rw [← HDV.out, HZ.out, drop_nil s _ (by omega)]
                · exact ((HB6.out.setCell HGL.out _).setCell (Nat.le_of_eq HG0.out) _).setCell (Nat.le_of_eq HG0.out) _
              · have hvb : ((v : Int) == (s.size : Int)) = false := by rw [beq_eq_false_iff_ne]; omega
                have HZ := Lib.hid hvz; clear hvz
                go_wp2
                refine bodyPost_ret (v := .tuple #[.agg #[.string nm, .string vv], .int .i64 (v : Int)]) ?_ rfl ⟨⟨nm, vv⟩, v, rfl, .inl ⟨by omega, by omega, ?_, ?_⟩, ?_⟩
                · have hf := ((HX06.out.other hne' (b := g1) (j := 1) (.string vv)).set0 nm).set1 vv
                  have z0 := hf.c0; have z1 := hf.c1
                  simp [results, Tryd.results51, go_sem, z0, z1]
                · rw [HAT2.out, HV2.out, ← HVV.out]
                · rw [HAT2.out, HV2.out, HDV.out]
                · exact ((HB6.out.setCell HGL.out _).setCell (Nat.le_of_eq HG0.out) _).setCell (Nat.le_of_eq HG0.out) _
      · have hzb : ((k2 : Int) == (s.size : Int)) = true := by rw [beq_iff_eq]; omega
        have ht0 : tl = [] := by rw [← HD2.out]; exact drop_nil s k2 hz
        have HT0 := Lib.hid ht0; clear ht0
        have r0 := HX0.out.c0; have r1 := HX0.out.c1; have q0 := HX0.out.f 0; have q1 := HX0.out.f 1; have k0 := HX1.out.c0; have k1 := HX1.out.c1
        go_wp2
        refine bodyPost_ret (v := .tuple #[.agg #[.string nm, .string ⟨#[]⟩], .int .i64 ((s.size + 1 : Nat) : Int)]) ?_ rfl ⟨⟨nm, ⟨#[]⟩⟩, s.size + 1, rfl, .inr ⟨rfl, ?_⟩, ?_⟩
        · have hf := (HX0.out.set0 nm).set1 ⟨#[]⟩
          have z0 := hf.c0; have z1 := hf.c1
          simp [results, Tryd.results51, go_sem, z0, z1]
        · rw [HAT2.out, HT0.out]; rfl
        · exact (HB5.out.setCell (Nat.le_of_eq HG0.out) _).setCell (Nat.le_of_eq HG0.out) _

end Go.Proofs.YtjhhhlomkfnniaaDoor.To
