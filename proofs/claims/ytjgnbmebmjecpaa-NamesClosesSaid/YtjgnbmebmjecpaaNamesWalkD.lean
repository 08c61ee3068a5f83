/-
  Walks of stage 5: bolting/boltingref05.Closes: what an element closes, and what ends the search.
-/
import Derived.Test.YtjgnbmebmjecpaaNamesWalkA
import Derived.Test.YtjgnbmebmjecpaaNamesOwn
namespace Go.Proofs.Ytjgnbmebmjecpaa.Na
set_option linter.unusedSimpArgs false
set_option linter.unusedVariables false
open Go.RowKit Ba Fm Fo Nm

set_option maxRecDepth 100000 in
set_option maxHeartbeats 4000000 in
theorem refCloses_any (s : ByteArray) (w : World) : Calls Try.prog 25 #[.string s] w fun e w' => ∃ v, e = .returned v ∧ Sown w.heap.size w' v (closesL s) ∧ Below w.heap.size w w' := by
  by_cases h0 : s = n_li
  · obtain ⟨⟨f0, f1, f2, f3, f4, f5, f6, f7, f8, f9, f10⟩, hcl, hwl, htb, hbl⟩ := own_li h0
    rw [hcl]
    have hb := below_one w (.cells ([n_li].map sc).toArray 9)
    have hs := sown_lit w [n_li] (by decide)
    have HX := Lib.hid h0; have HTB := Lib.hid htb
    clear h0 hcl hwl htb hbl
    go_enter Try.func25, Try.ntmps25
    rw [← HX.out] at hs hb
    rw [← HX.out]
    go_wp2
    go_ret
    exact ⟨_, rfl, hs, hb⟩
  by_cases h1 : s = n_dd
  · obtain ⟨⟨f0, f1, f2, f3, f4, f5, f6, f7, f8, f9, f10⟩, hcl, hwl, htb, hbl⟩ := own_dd h1
    rw [hcl]
    have hb := below_one w (.cells ([n_dd, n_dt].map sc).toArray 9)
    have hs := sown_lit w [n_dd, n_dt] (by decide)
    have HX := Lib.hid h1; have HTB := Lib.hid htb
    clear h0 h1 hcl hwl htb hbl
    go_enter Try.func25, Try.ntmps25
    go_wp2
    go_ret
    exact ⟨_, rfl, hs, hb⟩
  by_cases h2 : s = n_dt
  · obtain ⟨⟨f0, f1, f2, f3, f4, f5, f6, f7, f8, f9, f10⟩, hcl, hwl, htb, hbl⟩ := own_dt h2
    rw [hcl]
    have hb := below_one w (.cells ([n_dd, n_dt].map sc).toArray 9)
    have hs := sown_lit w [n_dd, n_dt] (by decide)
    have HX := Lib.hid h2; have HTB := Lib.hid htb
    clear h0 h1 h2 hcl hwl htb hbl
    go_enter Try.func25, Try.ntmps25
    go_wp2
    go_ret
    exact ⟨_, rfl, hs, hb⟩
  by_cases h3 : s = n_option
  · obtain ⟨⟨f0, f1, f2, f3, f4, f5, f6, f7, f8, f9, f10⟩, hcl, hwl, htb, hbl⟩ := own_option h3
    rw [hcl]
    have hb := below_one w (.cells ([n_option].map sc).toArray 9)
    have hs := sown_lit w [n_option] (by decide)
    have HX := Lib.hid h3; have HTB := Lib.hid htb
    clear h0 h1 h2 h3 hcl hwl htb hbl
    go_enter Try.func25, Try.ntmps25
    rw [← HX.out] at hs hb
    rw [← HX.out]
    go_wp2
    go_ret
    exact ⟨_, rfl, hs, hb⟩
  by_cases h4 : s = n_optgroup
  · obtain ⟨⟨f0, f1, f2, f3, f4, f5, f6, f7, f8, f9, f10⟩, hcl, hwl, htb, hbl⟩ := own_optgroup h4
    rw [hcl]
    have hb := below_one w (.cells ([n_optgroup, n_option].map sc).toArray 9)
    have hs := sown_lit w [n_optgroup, n_option] (by decide)
    have HX := Lib.hid h4; have HTB := Lib.hid htb
    clear h0 h1 h2 h3 h4 hcl hwl htb hbl
    go_enter Try.func25, Try.ntmps25
    go_wp2
    go_ret
    exact ⟨_, rfl, hs, hb⟩
  by_cases h5 : s = n_tr
  · obtain ⟨⟨f0, f1, f2, f3, f4, f5, f6, f7, f8, f9, f10⟩, hcl, hwl, htb, hbl⟩ := own_tr h5
    rw [hcl]
    have hb := below_one w (.cells ([n_td, n_th, n_tr].map sc).toArray 9)
    have hs := sown_lit w [n_td, n_th, n_tr] (by decide)
    have HX := Lib.hid h5; have HTB := Lib.hid htb
    clear h0 h1 h2 h3 h4 h5 hcl hwl htb hbl
    go_enter Try.func25, Try.ntmps25
    go_wp2
    go_ret
    exact ⟨_, rfl, hs, hb⟩
  by_cases h6 : s = n_td
  · obtain ⟨⟨f0, f1, f2, f3, f4, f5, f6, f7, f8, f9, f10⟩, hcl, hwl, htb, hbl⟩ := own_td h6
    rw [hcl]
    have hb := below_one w (.cells ([n_td, n_th].map sc).toArray 9)
    have hs := sown_lit w [n_td, n_th] (by decide)
    have HX := Lib.hid h6; have HTB := Lib.hid htb
    clear h0 h1 h2 h3 h4 h5 h6 hcl hwl htb hbl
    go_enter Try.func25, Try.ntmps25
    go_wp2
    go_ret
    exact ⟨_, rfl, hs, hb⟩
  by_cases h7 : s = n_th
  · obtain ⟨⟨f0, f1, f2, f3, f4, f5, f6, f7, f8, f9, f10⟩, hcl, hwl, htb, hbl⟩ := own_th h7
    rw [hcl]
    have hb := below_one w (.cells ([n_td, n_th].map sc).toArray 9)
    have hs := sown_lit w [n_td, n_th] (by decide)
    have HX := Lib.hid h7; have HTB := Lib.hid htb
    clear h0 h1 h2 h3 h4 h5 h6 h7 hcl hwl htb hbl
    go_enter Try.func25, Try.ntmps25
    go_wp2
    go_ret
    exact ⟨_, rfl, hs, hb⟩
  by_cases h8 : s = n_tbody
  · obtain ⟨⟨f0, f1, f2, f3, f4, f5, f6, f7, f8, f9, f10⟩, hcl, hwl, htb, hbl⟩ := own_tbody h8
    rw [hcl]
    have hb := below_one w (.cells ([n_tbody, n_td, n_tfoot, n_th, n_thead, n_tr].map sc).toArray 9)
    have hs := sown_lit w [n_tbody, n_td, n_tfoot, n_th, n_thead, n_tr] (by decide)
    have HX := Lib.hid h8; have HTB := Lib.hid htb
    clear h0 h1 h2 h3 h4 h5 h6 h7 h8 hcl hwl htb hbl
    go_enter Try.func25, Try.ntmps25
    go_wp2_with fail
    refine (refTable_any w).mono ?_
    rintro e w1 ⟨v1, rfl, ho1, hb1⟩
    go_wp2_with fail
    refine (hasS w1 v1 tableL s (sv_own ho1) (by decide)).mono ?_
    rintro e w2 ⟨rfl, rfl⟩
    rw [HTB.out]
    go_wp2_with fail
    refine (refTable_any w1).mono ?_
    rintro e w2 ⟨v2, rfl, ho2, hb2⟩
    go_wp2
    go_ret
    exact ⟨v2, rfl, ho2.mono hb1.size, bt hb1 hb2⟩
  by_cases h9 : s = n_tfoot
  · obtain ⟨⟨f0, f1, f2, f3, f4, f5, f6, f7, f8, f9, f10⟩, hcl, hwl, htb, hbl⟩ := own_tfoot h9
    rw [hcl]
    have hb := below_one w (.cells ([n_tbody, n_td, n_tfoot, n_th, n_thead, n_tr].map sc).toArray 9)
    have hs := sown_lit w [n_tbody, n_td, n_tfoot, n_th, n_thead, n_tr] (by decide)
    have HX := Lib.hid h9; have HTB := Lib.hid htb
    clear h0 h1 h2 h3 h4 h5 h6 h7 h8 h9 hcl hwl htb hbl
    go_enter Try.func25, Try.ntmps25
    go_wp2_with fail
    refine (refTable_any w).mono ?_
    rintro e w1 ⟨v1, rfl, ho1, hb1⟩
    go_wp2_with fail
    refine (hasS w1 v1 tableL s (sv_own ho1) (by decide)).mono ?_
    rintro e w2 ⟨rfl, rfl⟩
    rw [HTB.out]
    go_wp2_with fail
    refine (refTable_any w1).mono ?_
    rintro e w2 ⟨v2, rfl, ho2, hb2⟩
    go_wp2
    go_ret
    exact ⟨v2, rfl, ho2.mono hb1.size, bt hb1 hb2⟩
  by_cases h10 : s = n_thead
  · obtain ⟨⟨f0, f1, f2, f3, f4, f5, f6, f7, f8, f9, f10⟩, hcl, hwl, htb, hbl⟩ := own_thead h10
    rw [hcl]
    have hb := below_one w (.cells ([n_tbody, n_td, n_tfoot, n_th, n_thead, n_tr].map sc).toArray 9)
    have hs := sown_lit w [n_tbody, n_td, n_tfoot, n_th, n_thead, n_tr] (by decide)
    have HX := Lib.hid h10; have HTB := Lib.hid htb
    clear h0 h1 h2 h3 h4 h5 h6 h7 h8 h9 h10 hcl hwl htb hbl
    go_enter Try.func25, Try.ntmps25
    go_wp2_with fail
    refine (refTable_any w).mono ?_
    rintro e w1 ⟨v1, rfl, ho1, hb1⟩
    go_wp2_with fail
    refine (hasS w1 v1 tableL s (sv_own ho1) (by decide)).mono ?_
    rintro e w2 ⟨rfl, rfl⟩
    rw [HTB.out]
    go_wp2_with fail
    refine (refTable_any w1).mono ?_
    rintro e w2 ⟨v2, rfl, ho2, hb2⟩
    go_wp2
    go_ret
    exact ⟨v2, rfl, ho2.mono hb1.size, bt hb1 hb2⟩
  obtain ⟨⟨f0, f1, f2, f3, f4, f5, f6, f7, f8, f9, f10⟩, hcl, hwl, htb⟩ := own_none h0 h1 h2 h3 h4 h5 h6 h7 h8 h9 h10
  clear h0 h1 h2 h3 h4 h5 h6 h7 h8 h9 h10
  rw [hcl]
  have HTB := Lib.hid htb
  clear htb
  clear hcl hwl
  obtain ⟨q, hq⟩ : ∃ q, isIn s blockL = q := ⟨_, rfl⟩
  rw [hq]
  have HQ := Lib.hid hq
  clear hq
  cases q with
  | true =>
    rw [if_pos rfl]
    go_enter Try.func25, Try.ntmps25
    go_wp2_with fail
    refine (refTable_any w).mono ?_
    rintro e w1 ⟨v1, rfl, ho1, hb1⟩
    go_wp2_with fail
    refine (hasS w1 v1 tableL s (sv_own ho1) (by decide)).mono ?_
    rintro e w2 ⟨rfl, rfl⟩
    rw [HTB.out]
    go_wp2_with fail
    refine (refBlock_any w1).mono ?_
    rintro e w2 ⟨v2, rfl, ho2, hb2⟩
    go_wp2_with fail
    refine (hasS w2 v2 blockL s (sv_own ho2) (by decide)).mono ?_
    rintro e w3 ⟨rfl, rfl⟩
    rw [HQ.out]
    have hb12 := bt hb1 hb2
    have hb3 := below_one w2 (.cells ([n_p].map sc).toArray 9)
    have hs3 := sown_lit w2 [n_p] (by decide)
    go_wp2
    go_ret
    exact ⟨_, rfl, hs3.mono hb12.size, bt hb12 hb3⟩
    | false =>
    rw [if_neg (by decide)]
    go_enter Try.func25, Try.ntmps25
    go_wp2_with fail
    refine (refTable_any w).mono ?_
    rintro e w1 ⟨v1, rfl, ho1, hb1⟩
    go_wp2_with fail
    refine (hasS w1 v1 tableL s (sv_own ho1) (by decide)).mono ?_
    rintro e w2 ⟨rfl, rfl⟩
    rw [HTB.out]
    go_wp2_with fail
    refine (refBlock_any w1).mono ?_
    rintro e w2 ⟨v2, rfl, ho2, hb2⟩
    go_wp2_with fail
    refine (hasS w2 v2 blockL s (sv_own ho2) (by decide)).mono ?_
    rintro e w3 ⟨rfl, rfl⟩
    rw [HQ.out]
    have hb12 := bt hb1 hb2
    have hb3 := below_one w2 (.cells (([] : List ByteArray).map sc).toArray 9)
    have hs3 := sown_lit w2 [] (by decide)
    go_wp2
    go_ret
    exact ⟨_, rfl, hs3.mono hb12.size, bt hb12 hb3⟩

end Go.Proofs.Ytjgnbmebmjecpaa.Na
