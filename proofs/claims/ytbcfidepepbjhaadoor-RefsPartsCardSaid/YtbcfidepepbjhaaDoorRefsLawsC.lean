/-
  Walk of stage 3's law RefsParts: it returns true.
-/
import Derived.Test.YtbcfidepepbjhaaDoorRefsLawsB
namespace Go.Proofs.YtbcfidepepbjhaaDoor.Re
open Go.RowKit Ba Rm
set_option linter.unusedVariables false

theorem B_cat {a b : ByteArray} {x : List UInt8} (h : x = L a ++ L b) : a ++ b = B x := B_of (by rw [L_append, h])

set_option maxRecDepth 100000 in
set_option maxHeartbeats 4000000 in
theorem law_parts (s z : ByteArray) (hs : s.size ≤ 140737488351232) (hz : z.size ≤ 140737488351232) (w : World) (ht : Tab w) :
    Calls Tryd.prog 7 #[.string s, .string z] w fun e w' => e = .returned (.bool true) ∧ Below w.heap.size w w' := by
  obtain ⟨k, hk1, hk2, -, hmin⟩ := min_any s.size 500 500 rfl w
  obtain ⟨m, hm1, hm2, -, hmin2⟩ := min_any z.size 500 500 rfl w
  obtain ⟨u, hu⟩ : ∃ u, s.extract 0 k = u := ⟨_, rfl⟩
  obtain ⟨v, hv⟩ : ∃ v, z.extract 0 m = v := ⟨_, rfl⟩
  have hus : u.size ≤ 500 := by rw [← hu]; exact Nat.le_trans (cut_size s k) hk2
  have hvs : v.size ≤ 500 := by rw [← hv]; exact Nat.le_trans (cut_size z m) hm2
  obtain ⟨q1, hq1⟩ : ∃ q, hasL 38 (L u) = q := ⟨_, rfl⟩
  obtain ⟨q2, hq2⟩ : ∃ q, hasL 194 (L u) = q := ⟨_, rfl⟩
  have HQ1 := Lib.hid hq1; have HQ2 := Lib.hid hq2
  clear hq1 hq2
  cases q1 with
  | true =>
    go_enter Tryd.func7, Tryd.ntmps7
    go_wp2_with fail
    refine (has1 w u 38 true (by omega) _ rfl HQ1.out).mono ?_
    rintro e w2 ⟨rfl, rfl⟩
    go_wp2_with fail
    refine (fixed_any w ht).mono ?_
    rintro e w3 ⟨rfl, hb3⟩
    go_wp2
    go_ret
    exact ⟨rfl, hb3⟩
  | false =>
  cases q2 with
  | true =>
    go_enter Tryd.func7, Tryd.ntmps7
    go_wp2_with fail
    refine (has1 w u 38 false (by omega) _ rfl HQ1.out).mono ?_
    rintro e w2 ⟨rfl, rfl⟩
    go_wp2_with fail
    refine (has1 w u 194 true (by omega) _ rfl HQ2.out).mono ?_
    rintro e w2 ⟨rfl, rfl⟩
    go_wp2_with fail
    refine (fixed_any w ht).mono ?_
    rintro e w3 ⟨rfl, hb3⟩
    go_wp2
    go_ret
    exact ⟨rfl, hb3⟩
  | false =>
    have n1 := hasL_no.1 HQ1.out
    have n2 := hasL_no.1 HQ2.out
    obtain ⟨c, hc⟩ : ∃ c, u ++ v = c := ⟨_, rfl⟩
    have hcL : L c = L u ++ L v := by rw [← hc, L_append]
    have hcs : c.size ≤ 1000 := by rw [← hc, size_append]; omega
    obtain ⟨dc, hdc⟩ : ∃ x, B (dec (L c)) = x := ⟨_, rfl⟩
    obtain ⟨db, hdb⟩ : ∃ x, B (dec (L v)) = x := ⟨_, rfl⟩
    obtain ⟨tc, htc⟩ : ∃ x, B (esc false (L c)) = x := ⟨_, rfl⟩
    obtain ⟨ta, hta⟩ : ∃ x, B (esc false (L u)) = x := ⟨_, rfl⟩
    obtain ⟨tb, htb⟩ : ∃ x, B (esc false (L v)) = x := ⟨_, rfl⟩
    obtain ⟨vc, hvc⟩ : ∃ x, B (esc true (L c)) = x := ⟨_, rfl⟩
    obtain ⟨va, hva⟩ : ∃ x, B (esc true (L u)) = x := ⟨_, rfl⟩
    obtain ⟨vb, hvb⟩ : ∃ x, B (esc true (L v)) = x := ⟨_, rfl⟩
    have e1 : u ++ db = dc := by
      rw [← hdc, ← hdb, hcL, dec_plain _ _ n1]
      exact B_cat (by rw [L_B])
    have e2 : ta ++ tb = tc := by
      rw [← htc, ← hta, ← htb, hcL, esc_append _ _ _ n2]
      exact B_append _ _
    have e3 : va ++ vb = vc := by
      rw [← hvc, ← hva, ← hvb, hcL, esc_append _ _ _ n2]
      exact B_append _ _
    have z1 : db.size ≤ 500 := by rw [← hdb, size_B]; exact Nat.le_trans (len_dec _) (by rw [size_L]; exact hvs)
    have z2 : ta.size ≤ 3000 := by rw [← hta]; exact Nat.le_trans (esc_small false u) (by omega)
    have z3 : tb.size ≤ 3000 := by rw [← htb]; exact Nat.le_trans (esc_small false v) (by omega)
    have z4 : va.size ≤ 3000 := by rw [← hva]; exact Nat.le_trans (esc_small true u) (by omega)
    have z5 : vb.size ≤ 3000 := by rw [← hvb]; exact Nat.le_trans (esc_small true v) (by omega)
    have HDC := Lib.hid hdc; have HDB := Lib.hid hdb; have HTC := Lib.hid htc; have HTA := Lib.hid hta; have HTB := Lib.hid htb
    have HVC := Lib.hid hvc; have HVA := Lib.hid hva; have HVB := Lib.hid hvb
    clear hdc hdb htc hta htb hvc hva hvb hcL n1 n2
    go_enter Tryd.func7, Tryd.ntmps7
    go_wp2_with fail
    refine (has1 w u 38 false (by omega) _ rfl HQ1.out).mono ?_
    rintro e w2 ⟨rfl, rfl⟩
    go_wp2_with fail
    refine (has1 w u 194 false (by omega) _ rfl HQ2.out).mono ?_
    rintro e w2 ⟨rfl, rfl⟩
    clear hmin hmin2
    go_wp2_with fail
    refine (decode1 w c dc ht (by omega) HDC.out).mono ?_
    rintro e w1 ⟨rfl, hb1⟩
    go_wp2_with fail
    refine (decode1 w1 v db (ht.below hb1) (by omega) HDB.out).mono ?_
    rintro e w2 ⟨rfl, hb2⟩
    have g2 := bt hb1 hb2
    clear hb1 hb2
    go_wp2_with fail
    refine (text1 w2 c tc (by omega) HTC.out).mono ?_
    rintro e w3 ⟨rfl, hb3⟩
    go_wp2_with fail
    refine (text1 w3 u ta (by omega) HTA.out).mono ?_
    rintro e w4 ⟨rfl, hb4⟩
    go_wp2_with fail
    refine (text1 w4 v tb (by omega) HTB.out).mono ?_
    rintro e w5 ⟨rfl, hb5⟩
    have g5 := bt g2 (bt hb3 (bt hb4 hb5))
    clear g2 hb3 hb4 hb5
    go_wp2_with fail
    refine (valueOf1 w5 c vc (by omega) HVC.out).mono ?_
    rintro e w6 ⟨rfl, hb6⟩
    go_wp2_with fail
    refine (valueOf1 w6 u va (by omega) HVA.out).mono ?_
    rintro e w7 ⟨rfl, hb7⟩
    go_wp2_with fail
    refine (valueOf1 w7 v vb (by omega) HVB.out).mono ?_
    rintro e w8 ⟨rfl, hb8⟩
    have g8 := bt g5 (bt hb6 (bt hb7 hb8))
    clear g5 hb6 hb7 hb8
    go_wp2_with fail
    refine (fixed_any w8 (ht.below g8)).mono ?_
    rintro e w9 ⟨rfl, hb9⟩
    go_wp2
    go_ret
    exact ⟨rfl, bt g8 hb9⟩

end Go.Proofs.YtbcfidepepbjhaaDoor.Re
