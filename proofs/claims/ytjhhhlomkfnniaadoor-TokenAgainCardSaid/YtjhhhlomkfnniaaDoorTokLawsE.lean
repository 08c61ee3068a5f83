/-
  Walk of stage 6's law TokenAgain: it returns true.
-/
import Derived.Test.YtjhhhlomkfnniaaDoorTokGoodAll
import Derived.Test.YtjhhhlomkfnniaaDoorTokLawsB
namespace Go.Proofs.YtjhhhlomkfnniaaDoor.Tm
set_option linter.unusedVariables false
set_option linter.unusedSimpArgs false
open Ba Fm Rm Nm
open Ro (At)

theorem len_txt (p : List UInt8) : (txt p).length ≤ 1 := by
  unfold txt
  split <;> simp
theorem fin_size : ∀ (T : List Tk) (h : Bool) (p : List UInt8), (fin h p T).length ≤ 2 * T.length + 1 ∧ bulk (fin h p T) ≤ p.length + bulk T
  | [], h, p => by
    refine ⟨?_, ?_⟩
    · show (txt p).length ≤ _
      have := len_txt p
      simp only [List.length_nil]
      omega
    · show bulk (txt p) ≤ _
      have := bulk_txt p
      omega
  | t :: r, h, p => by
    by_cases hk : t.kind = 0
    · cases h with
      | true =>
        rw [fin_held hk]
        obtain ⟨i1, i2⟩ := fin_size r false []
        rw [To.bulk_cons, To.bulk_cons, List.length_cons, List.length_cons]
        simp only [List.length_nil] at i2
        exact ⟨by omega, by omega⟩
      | false =>
        rw [fin_text hk]
        obtain ⟨i1, i2⟩ := fin_size r false (p ++ L t.data)
        have hd : (L t.data).length ≤ bulkT t := by
          rw [size_L]
          unfold bulkT
          omega
        rw [To.bulk_cons, List.length_cons]
        rw [List.length_append] at i2
        exact ⟨by omega, by omega⟩
    · rw [fin_other hk]
      obtain ⟨i1, i2⟩ := fin_size r (holds t) []
      have h1 := len_txt p
      have h2 := bulk_txt p
      rw [bulk_append, To.bulk_cons, To.bulk_cons, List.length_append, List.length_cons, List.length_cons]
      simp only [List.length_nil] at i2
      exact ⟨by omega, by omega⟩
theorem cut_back (s : List UInt8) : cut (wAll false (cut s)) = fin false [] (cut s) := by
  have h1 := good_cut (good_all s) [] [] clo_nil
  rwa [List.nil_append] at h1

end Go.Proofs.YtjhhhlomkfnniaaDoor.Tm
namespace Go.Proofs.YtjhhhlomkfnniaaDoor.To
set_option linter.unusedSimpArgs false
set_option linter.unusedVariables false
open Go.RowKit Ba Fm Fo Tm Sm
open Re (Tab)

set_option maxRecDepth 100000 in
set_option maxHeartbeats 8000000 in
theorem law_again (a : ByteArray) (ha : a.size ≤ 140737488351232) (w : World) (hT : Tab w) :
    Calls Tryd.prog 9 #[.string a] w fun e w' => e = .returned (.bool true) ∧ Below w.heap.size w w' := by
  obtain ⟨k1, hk1, hk2, -, hmin⟩ := min_any a.size 300 300 rfl w
  obtain ⟨u, hu⟩ : ∃ u, a.extract 0 k1 = u := ⟨_, rfl⟩
  have hus : u.size = k1 := by rw [← hu]; exact size_take a k1 hk1
  obtain ⟨t0, h0⟩ : ∃ t, within [] (L u) = t := ⟨_, rfl⟩
  obtain ⟨u1, e1⟩ : ∃ x, wAll false t0 = x := ⟨_, rfl⟩
  obtain ⟨t1, h1⟩ : ∃ t, cut u1 = t := ⟨_, rfl⟩
  obtain ⟨u2, e2⟩ : ∃ x, wAll false t1 = x := ⟨_, rfl⟩
  have hc0 : cut (L u) = t0 := by rw [← h0, within_nil]
  have h2 : cut u2 = t1 := by
    rw [← e2, ← h1, ← e1, ← hc0]; exact again (L u)
  have z0 : bulk t0 ≤ 600 ∧ t0.length ≤ 900 := by
    have q1 := bulk_cut (L u); have q2 := cut_len (L u)
    rw [size_L, hus] at q1 q2
    rw [hc0] at q1 q2
    exact ⟨by omega, by omega⟩
  have hf : t1 = fin false [] t0 := by rw [← h1, ← e1, ← hc0]; exact cut_back (L u)
  have z1 : bulk t1 ≤ 600 ∧ t1.length ≤ 1801 := by
    have := fin_size t0 false []
    rw [← hf] at this
    obtain ⟨i1, i2⟩ := this
    simp only [List.length_nil] at i2
    exact ⟨by omega, by omega⟩
  have y1 : u1.length ≤ 300000 := by
    have := len_wAll t0 false
    rw [e1] at this
    omega
  have y2 : u2.length ≤ 300000 := by
    have := len_wAll t1 false
    rw [e2] at this
    omega
  have H1 : within [] (L (B u1)) = t1 := by rw [within_nil, L_B, h1]
  have H2 : within [] (L (B u2)) = t1 := by rw [within_nil, L_B, h2]
  have zu : u.size ≤ 300000 := by omega
  obtain ⟨zb0, zl0⟩ := z0
  obtain ⟨zb1, zl1⟩ := z1
  have HU := Lib.hid hu; have HT := Lib.hid hT
  have Q0 := Lib.hid h0; have Q1 := Lib.hid H1; have Q2 := Lib.hid H2; have E1 := Lib.hid e1; have E2 := Lib.hid e2
  clear hu hT h0 h1 e1 e2 hc0 h2 hf H1 H2 hus
  go_enter Tryd.func9, Tryd.ntmps9
  go_wp2_with fail
  rw [HU.out]
  clear hmin HU ha hk1 hk2
  refine (cutT u w t0 zu HT.out Q0.out).mono ?_
  rintro e w1 ⟨V1, rfl, r1, b1⟩
  go_wp2_with fail
  refine (writeT r1 (by omega) (by omega) u1 E1.out).mono ?_
  rintro e w2 ⟨rfl, b2⟩
  have B2 := bt b1 b2
  go_wp2_with fail
  refine (cutT (B u1) w2 t1 (by rw [size_B]; exact y1) (HT.out.below B2) Q1.out).mono ?_
  rintro e w3 ⟨V3, rfl, r3, b3⟩
  have B3 := bt B2 b3
  go_wp2_with fail
  refine (writeT r3 (by omega) (by omega) u2 E2.out).mono ?_
  rintro e w4 ⟨rfl, b4⟩
  have B4 := bt B3 b4
  go_wp2_with fail
  refine (cutT (B u2) w4 t1 (by rw [size_B]; exact y2) (HT.out.below B4) Q2.out).mono ?_
  rintro e w5 ⟨V5, rfl, r5, b5⟩
  have B5 := bt B4 b5
  go_wp2_with fail
  refine (writeT r5 (by omega) (by omega) u2 E2.out).mono ?_
  rintro e w6 ⟨rfl, b6⟩
  have B6 := bt B5 b6
  have HT6 := Lib.hid (HT.out.below B6); have BB6 := Lib.hid B6
  clear r1 r3 r5 b1 b2 b3 b4 b5 b6 B2 B3 B4 B5 B6
  go_wp2_with fail
  refine (fixed_any _ HT6.out).mono ?_
  rintro e w7 ⟨rfl, b7⟩
  go_wp2
  go_ret
  exact ⟨rfl, bt BB6.out b7⟩

end Go.Proofs.YtjhhhlomkfnniaaDoor.To
