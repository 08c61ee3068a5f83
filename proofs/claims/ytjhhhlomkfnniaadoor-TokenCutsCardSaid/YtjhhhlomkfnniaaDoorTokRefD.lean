/-
  Walks of stage 6's reference: comment, other, told.
-/
import Derived.Test.YtjhhhlomkfnniaaDoorTokRefC
import Derived.Test.YtjhhhlomkfnniaaDoorNamesRaw
namespace Go.Proofs.YtjhhhlomkfnniaaDoor.Rm
open Ba
theorem enc_ne (n : Nat) : enc n ≠ [] := by
  unfold enc
  repeat' split
  all_goals simp
theorem code_ne (n : Int) : code n ≠ [] := by
  unfold code
  split
  · simp
  · split
    · simp
    · exact enc_ne _
theorem meant_ne {s t : List UInt8} (h : meant s = some t) : t ≠ [] := by
  unfold meant at h
  split at h
  · split at h
    · obtain ⟨h1, n, rfl⟩ := numL_some h
      exact code_ne n
    · obtain ⟨h1, n, rfl⟩ := numL_some h
      exact code_ne n
  · obtain ⟨n, h1, rfl⟩ := look_some h
    exact code_ne _
theorem fst_ne {l : List UInt8} (h : l ≠ []) : (fst l).1 ≠ [] := by
  cases l with
  | nil => exact absurd rfl h
  | cons c r =>
    rw [fst_cons]
    split
    · cases hr : refAt r with
      | none => simp
      | some p =>
        obtain ⟨t, k⟩ := p
        unfold refAt at hr
        cases hc : cutAt r with
        | none => rw [hc] at hr; cases hr
        | some b =>
          rw [hc] at hr
          simp only at hr
          cases hm : meant b with
          | none => rw [hm] at hr; cases hr
          | some x =>
            rw [hm] at hr
            simp only [Option.map_some, Option.some.injEq, Prod.mk.injEq] at hr
            obtain ⟨rfl, rfl⟩ := hr
            exact meant_ne hm
    · simp
theorem dec_ne {l : List UInt8} (h : l ≠ []) : dec l ≠ [] := by
  rw [dec_step h]
  intro e
  exact fst_ne h (List.append_eq_nil_iff.1 e).1
end Go.Proofs.YtjhhhlomkfnniaaDoor.Rm

namespace Go.Proofs.YtjhhhlomkfnniaaDoor.To
set_option linter.unusedSimpArgs false
set_option linter.unusedVariables false
open Go.RowKit Ba Fm Fo Tm
open Rm (dec dec_ne)
open Ro (below_new At acells len_acells Sh Ra range2)
open Re (Tab)

/-- A search, place by place. -/
theorem far_of {p : List UInt8 → Bool} {s : ByteArray} {k m : Nat} (hkm : k ≤ m) (hm : m ≤ s.size) (h : ∀ j, k ≤ j → j < m → p ((L s).drop j) = false) : Far p s k m := by
  induction m with
  | zero =>
    obtain rfl : k = 0 := by omega
    exact .start hm
  | succ m ih =>
    by_cases e : k = m + 1
    · rw [e]; exact .start hm
    · exact (ih (by omega) (by omega) (fun j h1 h2 => h j h1 (by omega))).next (by omega) (h m (by omega) (by omega))
theorem min_le (a b : Nat) : min a b ≤ a ∧ min a b ≤ b := by omega

theorem other_any (s : ByteArray) (i : Nat) (w : World) (hs : s.size ≤ 140737488351232) (hi : i ≤ s.size) :
    Calls Tryd.prog 54 #[.string s, .int .i64 i] w fun e w' => ∃ n : Nat, e = .returned (.tuple #[.string (B (closed ((L s).drop i)).1), .int .i64 n]) ∧ n ≤ s.size ∧ i ≤ n ∧ (i < s.size → i < n) ∧ (L s).drop n = (closed ((L s).drop i)).2 ∧ w = w' := by
  have hs' : s.size ≤ 140737488355328 := by omega
  go_enter Tryd.func54, Tryd.ntmps54
  go_wp2_with fail
  refine (find_any s _ i w hs' hi (by decide) (by decide)).mono ?_
  rintro e w' ⟨q, rfl, hf, hstop, -, rfl⟩
  have hpe : pre (L ⟨#[62]⟩) = by1 gt := funext fun l => pre_one 62 l
  rw [hpe] at hf hstop
  obtain ⟨hq1, hq2⟩ := hf.done hstop
  have hqle := hf.2.1
  have hiq := hf.1
  have i0 : (0 : Int) ≤ (i : Int) := by omega
  have i1 : (i : Int) ≤ (q : Int) := by omega
  have i2 : (q : Int) ≤ (s.size : Int) := by omega
  obtain ⟨j, hj1, hj2, hj3, hmin⟩ := Sm.min_any s.size (q + 1) ((q : Int) + 1) (by omega) w
  have HQ1 := Lib.hid hq1; have HQ2 := Lib.hid hq2; have HJ := Lib.hid hj3; clear hf hstop hq1 hq2 hpe hj3
  go_wp2
  go_ret2
  refine ⟨j, ?_, hj1, ?_, ?_, ?_, rfl⟩
  · rw [HQ1.out]; rfl
  · have := HJ.out; omega
  · intro h; have := HJ.out; omega
  · show _ = (trail (by1 gt) _).drop 1
    rw [← HQ2.out, List.drop_drop]
    have := HJ.out
    by_cases h : q + 1 ≤ s.size
    · rw [show j = q + 1 from by omega]
    · rw [drop_nil s j (by omega), drop_nil s (q + 1) (by omega)]

set_option maxHeartbeats 2000000 in
theorem refComment_any (s : ByteArray) (i : Nat) (w : World) (hs : s.size ≤ 140737488351232) (hi : i ≤ s.size) :
    Calls Tryd.prog 53 #[.string s, .int .i64 i] w fun e w' => ∃ n : Nat, e = .returned (.tuple #[.string (B (comm ((L s).drop i)).1), .int .i64 n]) ∧ n ≤ s.size ∧ i ≤ n ∧ (L s).drop n = (comm ((L s).drop i)).2 ∧ w = w' := by
  have hs' : s.size ≤ 140737488355328 := by omega
  cases h1 : pre [62] ((L s).drop i) with
  | true =>
    have hc := comm_gt h1
    have hl := pre_len h1
    rw [List.length_drop, size_L] at hl
    have H1 := Lib.hid h1; have HC := Lib.hid hc; have HL := Lib.hid hl; clear h1 hc hl
    go_enter Tryd.func53, Tryd.ntmps53
    go_wp2_with fail
    refine (refAt1 s _ i w [62] true hs' (by omega) (by decide) (by decide) rfl H1.out).mono ?_
    rintro e w' ⟨rfl, rfl⟩
    go_wp2
    go_ret2
    have hl := HL.out
    simp at hl
    refine ⟨i + 1, ?_, by omega, by omega, ?_, rfl⟩
    · rw [HC.out]; rfl
    · rw [HC.out, List.drop_drop]
  | false =>
  cases h2 : pre [45, 62] ((L s).drop i) with
  | true =>
    have hc := comm_dash h1 h2
    have hl := pre_len h2
    rw [List.length_drop, size_L] at hl
    have H1 := Lib.hid h1; have H2 := Lib.hid h2; have HC := Lib.hid hc; have HL := Lib.hid hl; clear h1 h2 hc hl
    go_enter Tryd.func53, Tryd.ntmps53
    go_wp2_with fail
    refine (refAt1 s _ i w [62] false hs' (by omega) (by decide) (by decide) rfl H1.out).mono ?_
    rintro e w' ⟨rfl, rfl⟩
    go_wp2_with fail
    refine (refAt1 s _ i w [45, 62] true hs' (by omega) (by decide) (by decide) rfl H2.out).mono ?_
    rintro e w' ⟨rfl, rfl⟩
    go_wp2
    go_ret2
    have hl := HL.out
    simp at hl
    refine ⟨i + 2, ?_, by omega, by omega, ?_, rfl⟩
    · rw [HC.out]; rfl
    · rw [HC.out, List.drop_drop]
  | false =>
    have hc := comm_on h1 h2
    have H1 := Lib.hid h1; have H2 := Lib.hid h2; have HC := Lib.hid hc; clear h1 h2 hc
    go_enter Tryd.func53, Tryd.ntmps53
    go_wp2_with fail
    refine (refAt1 s _ i w [62] false hs' (by omega) (by decide) (by decide) rfl H1.out).mono ?_
    rintro e w' ⟨rfl, rfl⟩
    go_wp2_with fail
    refine (refAt1 s _ i w [45, 62] false hs' (by omega) (by decide) (by decide) rfl H2.out).mono ?_
    rintro e w' ⟨rfl, rfl⟩
    go_wp2_with fail
    refine (find_any s _ i w hs' hi (by decide) (by decide)).mono ?_
    rintro e w' ⟨a, rfl, hfa, hsa, hna, rfl⟩
    have HNA := Lib.hid hna; have HSA := Lib.hid hsa; clear hna hsa
    go_wp2_with fail
    refine (find_any s _ i w hs' hi (by decide) (by decide)).mono ?_
    rintro e w' ⟨b, rfl, hfb, hsb, hnb, rfl⟩
    have hla : L ⟨#[45, 45, 62]⟩ = [45, 45, 62] := rfl
    have hlb : L ⟨#[45, 45, 33, 62]⟩ = [45, 45, 33, 62] := rfl
    have hsa := HSA.out
    have hna := HNA.out
    rw [hla] at hsa hna
    rw [hlb] at hsb hnb
    have hal := hfa.2.1; have hbl := hfb.2.1; have hia := hfa.1; have hib := hfb.1
    have hfar : Far cend s i (min a b) := far_of (by omega) (by omega) (fun j j1 j2 => by
      unfold cend
      rw [hna j j1 (by omega), hnb j j1 (by omega)]; rfl)
    have i0 : (0 : Int) ≤ (i : Int) := by omega
    have i1 : (i : Int) ≤ (a : Int) := by omega
    have i2 : (a : Int) ≤ (s.size : Int) := by omega
    have i3 : (i : Int) ≤ (b : Int) := by omega
    have i4 : (b : Int) ≤ (s.size : Int) := by omega
    clear HNA HSA hla hlb hfa hfb
    by_cases hab : a ≤ b
    · rw [show min a b = a from by omega] at hfar
      have hd := hfar.done (by
        rcases hsa with h | h
        · left; unfold cend; rw [h]; rfl
        · exact .inr h)
      have habi : decide ((a : Int) ≤ (b : Int)) = true := decide_eq_true (by omega)
      obtain ⟨j, hj1, hj2, hj3, hmin⟩ := Sm.min_any s.size (a + 3) ((a : Int) + 3) (by omega) w
      have HD := Lib.hid hd; have HJ := Lib.hid hj3; have HSA := Lib.hid hsa; clear hd hj3 hsa hsb hna hnb hfar
      go_wp2
      go_ret2
      have hj := HJ.out
      refine ⟨j, ?_, hj1, by omega, ?_, rfl⟩
      · rw [HC.out, HD.out.1]; rfl
      · rw [HC.out]
        show _ = (trail cend _).drop _
        rw [← HD.out.2]
        rcases HSA.out with h | h
        · rw [if_pos h, List.drop_drop]
          have hl := pre_len h
          rw [List.length_drop, size_L] at hl
          simp at hl
          rw [show j = a + 3 from by omega]
        · rw [drop_nil s j (by omega), drop_nil s a h, List.drop_nil]
    · rw [show min a b = b from by omega] at hfar
      have hb : pre [45, 45, 33, 62] ((L s).drop b) = true := hsb.resolve_right (by omega)
      have hd := hfar.done (.inl (by unfold cend; rw [hb, Bool.or_true]))
      have hnb2 := hna b hib (by omega)
      have habi : decide ((a : Int) ≤ (b : Int)) = false := decide_eq_false (by omega)
      have hl := pre_len hb
      rw [List.length_drop, size_L] at hl
      simp at hl
      have HD := Lib.hid hd; have HN := Lib.hid hnb2; clear hd hnb2 hsa hsb hna hnb hfar hb
      go_wp2
      go_ret2
      refine ⟨b + 4, ?_, by omega, by omega, ?_, rfl⟩
      · rw [HC.out, HD.out.1]; rfl
      · rw [HC.out]
        show _ = (trail cend _).drop _
        rw [← HD.out.2, if_neg (by rw [HN.out]; simp), List.drop_drop]

theorem Ot.add {N : Nat} {w w' : World} {v v' : Value} {l : List Tw} {y : Tw} (ho : Ot N w v l) (hy : Fr N w y) (hw : Ow N w' v' (l ++ [y])) (hf : ∀ z, Fr N w z → Fr N w' z) : Ot N w' v' (l ++ [y]) :=
  ⟨hw.1, fun x hx => by
    rcases List.mem_append.1 hx with hx | hx
    · exact hf x (ho.2 x hx)
    · rw [List.mem_singleton.1 hx]; exact hf y hy⟩

theorem g_first {w w1 w2 : World} {row : Option Nat} (h : Below w.heap.size w w1) (hg : w1.grownBy w2 row) (hr : ∀ j, row = some j → j < w.heap.size) : w.grownBy w2 row :=
  ⟨hg.os.trans h.os, hg.tape.trans h.tape, hg.output.trans h.output, Nat.le_trans h.size hg.size, fun i hi hne => (hg.block i (Nat.lt_of_lt_of_le hi h.size) hne).trans (h.block i hi)⟩

set_option maxRecDepth 100000 in
set_option maxHeartbeats 2000000 in
theorem told_any (N : Nat) (v : Value) (l : List Tw) (u : ByteArray) (w : World) (ho : Ot N w v l) (hN : N ≤ w.heap.size) (hu : u.size ≤ 140737488351232) (hl : l.length ≤ 2000000) :
    Calls Tryd.prog 27 #[v, .string u] w fun e w' => ∃ v' l', e = .returned v' ∧ Ot N w' v' l' ∧ tks l' = tks l ++ txt (dec (L u)) ∧ l'.length ≤ l.length + 1 ∧ w.heap.size ≤ w'.heap.size ∧ w.grownBy w' v.ownBlock ∧ ∀ w0, Below N w0 w → Below N w0 w' := by
  by_cases hp : 0 < u.size
  · have hne := L_ne hp
    have he : u.toList.isEmpty = false := by rw [toList_L]; simpa using hne
    have hd : dec (L u) ≠ [] := dec_ne hne
    have HO := Lib.hid ho; have HD := Lib.hid hd; clear ho hne hd
    go_enter Tryd.func27, Tryd.ntmps27
    go_wp2_with fail
    refine (Re.refDecode_any u w hu).mono ?_
    rintro e w1 ⟨rfl, hb1⟩
    obtain ⟨d, hd⟩ : ∃ d, B (dec (L u)) = d := ⟨_, rfl⟩
    rw [hd]
    have ho1 := HO.out.below hb1
    have hfr : Fr N w1 ⟨⟨0, ⟨#[]⟩, d, [], false⟩, none, 0⟩ := fr_none N w1 _ rfl
    have hZ : N ≤ w1.heap.size := Nat.le_trans hN hb1.size
    have HO1 := Lib.hid ho1; have HF := Lib.hid hfr; have HDD := Lib.hid hd; have HB1 := Lib.hid hb1; clear ho1 hfr hd hb1
    go_wp2_with (at_builtin; refine app_tok2 w1 rfl (.tmp 7) (.tmp 11) rfl N v l ⟨⟨0, ⟨#[]⟩, d, [], false⟩, none, 0⟩ rfl HO1.out.ow HF.out.att HF.out.ap w1.heap.size rfl rfl hl hZ ?_; intro v4 w4 how hk hf hg; obtain ⟨A4, cc4, rfl⟩ := form1 how; have HK := Lib.hid hk; have HFF := Lib.hid hf; have HG := Lib.hid hg; have HOW := Lib.hid how; clear hk hf hg how)
    go_ret
    refine ⟨_, _, rfl, Ot.add HO1.out HF.out HOW.out HFF.out, ?_, by simp, Nat.le_trans HB1.out.size HG.out.size, g_first HB1.out HG.out (fun j hj => (World.ownsRow.lt HO.out.1 j hj).2), fun w0 h0 => HK.out w0 (h0.trans (HB1.out.mono hN))⟩
    rw [tks_append]
    unfold txt
    rw [if_neg HD.out, ← HDD.out]
    rfl
  · have hd := isEmpty_L hp
    have he : u.toList.isEmpty = true := by rw [toList_L, hd]; rfl
    have hD : txt (dec (L u)) = [] := by rw [hd]; unfold txt; rw [if_pos Rm.dec_nil]
    have HO := Lib.hid ho; have HD := Lib.hid hD; clear ho hd hD
    go_enter Tryd.func27, Tryd.ntmps27
    go_wp2
    go_ret
    exact ⟨_, l, rfl, HO.out, by rw [HD.out, List.append_nil], by omega, Nat.le_refl _, World.grownBy.refl _ _, fun _ h => h⟩

end Go.Proofs.YtjhhhlomkfnniaaDoor.To
