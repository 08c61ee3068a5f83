/-
  Walks of stage 5: bolting/boltingref05.Walls: what an element closes, and what ends the search.
  Walks of stage 7: the document's own Found, closed, para, opened, Nested.
  Stage 7: walks of the reference: ended, once, joined.
  Attributes in memory: what a slice of them reads as.
  Tokens in memory: what a slice of rows reads as, their attributes, a row loaded, a row in a box.
  Rows and attributes of the call's own: what they hold, what is kept where another one grows, append of a row and of attributes.
  Slices of bytes of the call's own: what they hold, the string of them. For every stage.
  fold.Space.
  boltingref02.Space.
  Walks of stage 2, for later stages: fold.lowerByte, Letter, Lower, Same, Trim, boltingref02.Letter, Lower, Trim.
  Walks of stage 3: refs.Code, boltingref03's Char and Code, the digits, has, end, bodyOf, kindOf.
-/
import Derived.Test.YtdplbcchkjpcdaaGreatDoorCk01
import Derived.Test.YtdplbcchkjpcdaaGreatDoorCk02
import Derived.Deep.MidRow
import Derived.BigQuiet
import Derived.Deep.QuietTactic
import Derived.Lib.ConvBytes
namespace Go.Proofs.YtdplbcchkjpcdaaGreatDoor.Na
set_option maxRecDepth 100000
set_option linter.unusedSimpArgs false
set_option linter.unusedVariables false
open Go.RowKit Ba Fm Fo Nm
set_option maxRecDepth 100000 in
set_option maxHeartbeats 4000000 in
theorem refWalls_any (s : ByteArray) (w : World) : Calls Tryz.prog 65 #[.string s] w fun e w' => ∃ v, e = .returned v ∧ Sown w.heap.size w' v (wallsL s) ∧ Below w.heap.size w w' := by
  by_cases h0 : s = n_li
  · obtain ⟨⟨f0, f1, f2, f3, f4, f5, f6, f7, f8, f9, f10⟩, hcl, hwl, htb, hbl⟩ := own_li h0
    rw [hwl]
    have hb := below_one w (.cells ([n_menu, n_ol, n_template, n_ul].map sc).toArray 9)
    have hs := sown_lit w [n_menu, n_ol, n_template, n_ul] (by decide)
    have HX := Lib.hid h0; have HTB := Lib.hid htb
    clear h0 hcl hwl htb hbl
    go_enter Tryz.func65, Tryz.ntmps65
    go_wp2
    go_ret
    exact ⟨_, rfl, hs, hb⟩
  by_cases h1 : s = n_dd
  · obtain ⟨⟨f0, f1, f2, f3, f4, f5, f6, f7, f8, f9, f10⟩, hcl, hwl, htb, hbl⟩ := own_dd h1
    rw [hwl]
    have hb := below_one w (.cells ([n_dl, n_template].map sc).toArray 9)
    have hs := sown_lit w [n_dl, n_template] (by decide)
    have HX := Lib.hid h1; have HTB := Lib.hid htb
    clear h0 h1 hcl hwl htb hbl
    go_enter Tryz.func65, Tryz.ntmps65
    go_wp2
    go_ret
    exact ⟨_, rfl, hs, hb⟩
  by_cases h2 : s = n_dt
  · obtain ⟨⟨f0, f1, f2, f3, f4, f5, f6, f7, f8, f9, f10⟩, hcl, hwl, htb, hbl⟩ := own_dt h2
    rw [hwl]
    have hb := below_one w (.cells ([n_dl, n_template].map sc).toArray 9)
    have hs := sown_lit w [n_dl, n_template] (by decide)
    have HX := Lib.hid h2; have HTB := Lib.hid htb
    clear h0 h1 h2 hcl hwl htb hbl
    go_enter Tryz.func65, Tryz.ntmps65
    go_wp2
    go_ret
    exact ⟨_, rfl, hs, hb⟩
  by_cases h3 : s = n_option
  · obtain ⟨⟨f0, f1, f2, f3, f4, f5, f6, f7, f8, f9, f10⟩, hcl, hwl, htb, hbl⟩ := own_option h3
    rw [hwl]
    have hb := below_one w (.cells ([n_select, n_template].map sc).toArray 9)
    have hs := sown_lit w [n_select, n_template] (by decide)
    have HX := Lib.hid h3; have HTB := Lib.hid htb
    clear h0 h1 h2 h3 hcl hwl htb hbl
    go_enter Tryz.func65, Tryz.ntmps65
    go_wp2
    go_ret
    exact ⟨_, rfl, hs, hb⟩
  by_cases h4 : s = n_optgroup
  · obtain ⟨⟨f0, f1, f2, f3, f4, f5, f6, f7, f8, f9, f10⟩, hcl, hwl, htb, hbl⟩ := own_optgroup h4
    rw [hwl]
    have hb := below_one w (.cells ([n_select, n_template].map sc).toArray 9)
    have hs := sown_lit w [n_select, n_template] (by decide)
    have HX := Lib.hid h4; have HTB := Lib.hid htb
    clear h0 h1 h2 h3 h4 hcl hwl htb hbl
    go_enter Tryz.func65, Tryz.ntmps65
    go_wp2
    go_ret
    exact ⟨_, rfl, hs, hb⟩
  by_cases h5 : s = n_tr
  · obtain ⟨⟨f0, f1, f2, f3, f4, f5, f6, f7, f8, f9, f10⟩, hcl, hwl, htb, hbl⟩ := own_tr h5
    rw [hwl]
    have hb := below_one w (.cells ([n_table, n_template].map sc).toArray 9)
    have hs := sown_lit w [n_table, n_template] (by decide)
    have HX := Lib.hid h5; have HTB := Lib.hid htb
    clear h0 h1 h2 h3 h4 h5 hcl hwl htb hbl
    go_enter Tryz.func65, Tryz.ntmps65
    go_wp2_with fail
    refine (refTable_any w).mono ?_
    rintro e w1 ⟨v1, rfl, ho1, hb1⟩
    go_wp2_with fail
    refine (hasS w1 v1 tableL s (sv_own ho1) (by decide)).mono ?_
    rintro e w2 ⟨rfl, rfl⟩
    rw [HTB.out]
    have hb3 := below_one w1 (.cells ([n_table, n_template].map sc).toArray 9)
    have hs3 := sown_lit w1 [n_table, n_template] (by decide)
    go_wp2
    go_ret
    exact ⟨_, rfl, hs3.mono hb1.size, bt hb1 hb3⟩
  by_cases h6 : s = n_td
  · obtain ⟨⟨f0, f1, f2, f3, f4, f5, f6, f7, f8, f9, f10⟩, hcl, hwl, htb, hbl⟩ := own_td h6
    rw [hwl]
    have hb := below_one w (.cells ([n_table, n_template].map sc).toArray 9)
    have hs := sown_lit w [n_table, n_template] (by decide)
    have HX := Lib.hid h6; have HTB := Lib.hid htb
    clear h0 h1 h2 h3 h4 h5 h6 hcl hwl htb hbl
    go_enter Tryz.func65, Tryz.ntmps65
    go_wp2_with fail
    refine (refTable_any w).mono ?_
    rintro e w1 ⟨v1, rfl, ho1, hb1⟩
    go_wp2_with fail
    refine (hasS w1 v1 tableL s (sv_own ho1) (by decide)).mono ?_
    rintro e w2 ⟨rfl, rfl⟩
    rw [HTB.out]
    have hb3 := below_one w1 (.cells ([n_table, n_template].map sc).toArray 9)
    have hs3 := sown_lit w1 [n_table, n_template] (by decide)
    go_wp2
    go_ret
    exact ⟨_, rfl, hs3.mono hb1.size, bt hb1 hb3⟩
  by_cases h7 : s = n_th
  · obtain ⟨⟨f0, f1, f2, f3, f4, f5, f6, f7, f8, f9, f10⟩, hcl, hwl, htb, hbl⟩ := own_th h7
    rw [hwl]
    have hb := below_one w (.cells ([n_table, n_template].map sc).toArray 9)
    have hs := sown_lit w [n_table, n_template] (by decide)
    have HX := Lib.hid h7; have HTB := Lib.hid htb
    clear h0 h1 h2 h3 h4 h5 h6 h7 hcl hwl htb hbl
    go_enter Tryz.func65, Tryz.ntmps65
    go_wp2_with fail
    refine (refTable_any w).mono ?_
    rintro e w1 ⟨v1, rfl, ho1, hb1⟩
    go_wp2_with fail
    refine (hasS w1 v1 tableL s (sv_own ho1) (by decide)).mono ?_
    rintro e w2 ⟨rfl, rfl⟩
    rw [HTB.out]
    have hb3 := below_one w1 (.cells ([n_table, n_template].map sc).toArray 9)
    have hs3 := sown_lit w1 [n_table, n_template] (by decide)
    go_wp2
    go_ret
    exact ⟨_, rfl, hs3.mono hb1.size, bt hb1 hb3⟩
  by_cases h8 : s = n_tbody
  · obtain ⟨⟨f0, f1, f2, f3, f4, f5, f6, f7, f8, f9, f10⟩, hcl, hwl, htb, hbl⟩ := own_tbody h8
    rw [hwl]
    have hb := below_one w (.cells ([n_table, n_template].map sc).toArray 9)
    have hs := sown_lit w [n_table, n_template] (by decide)
    have HX := Lib.hid h8; have HTB := Lib.hid htb
    clear h0 h1 h2 h3 h4 h5 h6 h7 h8 hcl hwl htb hbl
    go_enter Tryz.func65, Tryz.ntmps65
    go_wp2_with fail
    refine (refTable_any w).mono ?_
    rintro e w1 ⟨v1, rfl, ho1, hb1⟩
    go_wp2_with fail
    refine (hasS w1 v1 tableL s (sv_own ho1) (by decide)).mono ?_
    rintro e w2 ⟨rfl, rfl⟩
    rw [HTB.out]
    have hb3 := below_one w1 (.cells ([n_table, n_template].map sc).toArray 9)
    have hs3 := sown_lit w1 [n_table, n_template] (by decide)
    go_wp2
    go_ret
    exact ⟨_, rfl, hs3.mono hb1.size, bt hb1 hb3⟩
  by_cases h9 : s = n_tfoot
  · obtain ⟨⟨f0, f1, f2, f3, f4, f5, f6, f7, f8, f9, f10⟩, hcl, hwl, htb, hbl⟩ := own_tfoot h9
    rw [hwl]
    have hb := below_one w (.cells ([n_table, n_template].map sc).toArray 9)
    have hs := sown_lit w [n_table, n_template] (by decide)
    have HX := Lib.hid h9; have HTB := Lib.hid htb
    clear h0 h1 h2 h3 h4 h5 h6 h7 h8 h9 hcl hwl htb hbl
    go_enter Tryz.func65, Tryz.ntmps65
    go_wp2_with fail
    refine (refTable_any w).mono ?_
    rintro e w1 ⟨v1, rfl, ho1, hb1⟩
    go_wp2_with fail
    refine (hasS w1 v1 tableL s (sv_own ho1) (by decide)).mono ?_
    rintro e w2 ⟨rfl, rfl⟩
    rw [HTB.out]
    have hb3 := below_one w1 (.cells ([n_table, n_template].map sc).toArray 9)
    have hs3 := sown_lit w1 [n_table, n_template] (by decide)
    go_wp2
    go_ret
    exact ⟨_, rfl, hs3.mono hb1.size, bt hb1 hb3⟩
  by_cases h10 : s = n_thead
  · obtain ⟨⟨f0, f1, f2, f3, f4, f5, f6, f7, f8, f9, f10⟩, hcl, hwl, htb, hbl⟩ := own_thead h10
    rw [hwl]
    have hb := below_one w (.cells ([n_table, n_template].map sc).toArray 9)
    have hs := sown_lit w [n_table, n_template] (by decide)
    have HX := Lib.hid h10; have HTB := Lib.hid htb
    clear h0 h1 h2 h3 h4 h5 h6 h7 h8 h9 h10 hcl hwl htb hbl
    go_enter Tryz.func65, Tryz.ntmps65
    go_wp2_with fail
    refine (refTable_any w).mono ?_
    rintro e w1 ⟨v1, rfl, ho1, hb1⟩
    go_wp2_with fail
    refine (hasS w1 v1 tableL s (sv_own ho1) (by decide)).mono ?_
    rintro e w2 ⟨rfl, rfl⟩
    rw [HTB.out]
    have hb3 := below_one w1 (.cells ([n_table, n_template].map sc).toArray 9)
    have hs3 := sown_lit w1 [n_table, n_template] (by decide)
    go_wp2
    go_ret
    exact ⟨_, rfl, hs3.mono hb1.size, bt hb1 hb3⟩
  obtain ⟨⟨f0, f1, f2, f3, f4, f5, f6, f7, f8, f9, f10⟩, hcl, hwl, htb⟩ := own_none h0 h1 h2 h3 h4 h5 h6 h7 h8 h9 h10
  clear h0 h1 h2 h3 h4 h5 h6 h7 h8 h9 h10
  rw [hwl]
  have HTB := Lib.hid htb
  clear htb
  clear hcl hwl
  go_enter Tryz.func65, Tryz.ntmps65
  go_wp2_with fail
  refine (refTable_any w).mono ?_
  rintro e w1 ⟨v1, rfl, ho1, hb1⟩
  go_wp2_with fail
  refine (hasS w1 v1 tableL s (sv_own ho1) (by decide)).mono ?_
  rintro e w2 ⟨rfl, rfl⟩
  rw [HTB.out]
  have hb3 := below_one w1 (.cells ([n_button, n_caption, n_table, n_td, n_template, n_th].map sc).toArray 9)
  have hs3 := sown_lit w1 [n_button, n_caption, n_table, n_td, n_template, n_th] (by decide)
  go_wp2
  go_ret
  exact ⟨_, rfl, hs3.mono hb1.size, bt hb1 hb3⟩

end Go.Proofs.YtdplbcchkjpcdaaGreatDoor.Na

namespace Go.Proofs.YtdplbcchkjpcdaaGreatDoor.Bu
set_option maxRecDepth 100000
set_option linter.unusedVariables false
set_option linter.unusedSimpArgs false
open Go.RowKit Ba Fm Fo Nm Bm
theorem Sv.up3 {w w' : World} {v : Value} {l : List ByteArray} (h : Sv w w.heap.size v l) (hb : Below w.heap.size w w') : Sv w' w'.heap.size v l := (h.below hb (Nat.le_refl _)).more hb.size
theorem refHas1 (V : Value) (l : List ByteArray) (s : ByteArray) (w : World) (h : Sv w w.heap.size V l) (hl : l.length ≤ 1000) (q : Bool) (hq : isIn s l = q) :
    Calls Tryz.prog 28 #[V, .string s] w fun e w' => e = .returned (.bool q) ∧ w = w' := by
  obtain ⟨A, c, rfl, _, _, hr⟩ := h
  subst hq
  exact has_any A c w.heap.size l s w hr (by omega)
theorem idx_hit {ns ws o : List ByteArray} {k : Nat} (hk : k < o.length) (h : isIn o[k] ns = true) : idx ns ws (o.take (k + 1)) = k := by
  unfold idx
  rw [found_hit (List.getElem?_eq_getElem hk) h]
  show ((o.take k).reverse.length : Int) = k
  rw [List.length_reverse, List.length_take]
  omega
theorem idx_wall {ns ws o : List ByteArray} {k : Nat} (hk : k < o.length) (h : isIn o[k] ns = false) (h' : isIn o[k] ws = true) : idx ns ws (o.take (k + 1)) = -1 := by
  unfold idx
  rw [found_wall (List.getElem?_eq_getElem hk) h h']
theorem idx_past {ns ws o : List ByteArray} {k : Nat} (hk : k < o.length) (h : isIn o[k] ns = false) (h' : isIn o[k] ws = false) : idx ns ws (o.take (k + 1)) = idx ns ws (o.take k) := by
  unfold idx
  rw [found_past (List.getElem?_eq_getElem hk) h h']

set_option maxRecDepth 100000 in
set_option maxHeartbeats 1000000 in
theorem refFound_any (A : Option Addr) (c : Nat) (V1 V2 : Value) (l ns ws : List ByteArray) (w : World) (hm : l.length ≤ 1000000) (hr : Rd w w.heap.size A l) (h1 : Sv w w.heap.size V1 ns) (h2 : Sv w w.heap.size V2 ws) (hn1 : ns.length ≤ 1000) (hn2 : ws.length ≤ 1000) :
    Calls Tryz.prog 68 #[.slice A l.length c, V1, V2] w fun e w' => e = .returned (.int .i64 (idx ns ws l)) ∧ w = w' := by
  obtain ⟨q, hq⟩ : ∃ q, idx ns ws l = q := ⟨_, rfl⟩
  rw [hq]
  have h0 : idx ns ws (l.take l.length) = q := by rw [List.take_length]; exact hq
  have HV1 := Lib.hid h1; have HV2 := Lib.hid h2; have H0 := Lib.hid h0
  clear h1 h2 hq h0
  go_enter Tryz.func68, Tryz.ntmps68
  go_wp2
  go_loop [7] (fun v => ∃ (k : Nat) (i : Int), v = .int .i64 i ∧ i + 1 = k ∧ k ≤ l.length ∧ idx ns ws (l.take k) = q) (fun v => (intOf v + 1).toNat)
  case atStart => exact ⟨l.length, _, rfl, by omega, Nat.le_refl _, H0.out⟩
  case round =>
    obtain ⟨k, i, rfl, hi, hk, hix⟩ := hrel
    by_cases hp : 0 < k
    · obtain ⟨m, rfl⟩ : ∃ m, k = m + 1 := ⟨k - 1, by omega⟩
      obtain rfl : i = (m : Int) := by omega
      have hml : m < l.length := by omega
      obtain ⟨b, off, rfl, hb, hc⟩ := hr (by omega)
      have hcell := hc m hml
      have hge : decide ((0 : Int) ≤ (m : Int)) = true := decide_eq_true (by omega)
      clear hr hc
      cases hx : isIn l[m] ns with
      | true =>
        rw [idx_hit hml hx] at hix
        have HIX := Lib.hid hix; have HX := Lib.hid hx
        clear hix hx
        go_wp2_with fail
        refine (refHas1 V1 ns _ w HV1.out hn1 true HX.out).mono ?_
        rintro e w1 ⟨rfl, rfl⟩
        go_wp2
        go_ret
        exact ⟨by rw [← HIX.out]; rfl, rfl⟩
      | false =>
      cases hy : isIn l[m] ws with
      | true =>
        rw [idx_wall hml hx hy] at hix
        have HIX := Lib.hid hix; have HX := Lib.hid hx; have HY := Lib.hid hy
        clear hix hx hy
        go_wp2_with fail
        refine (refHas1 V1 ns _ w HV1.out hn1 false HX.out).mono ?_
        rintro e w1 ⟨rfl, rfl⟩
        go_wp2_with fail
        refine (refHas1 V2 ws _ w HV2.out hn2 true HY.out).mono ?_
        rintro e w1 ⟨rfl, rfl⟩
        go_wp2
        go_ret
        exact ⟨by rw [← HIX.out]; rfl, rfl⟩
      | false =>
        rw [idx_past hml hx hy] at hix
        have HIX := Lib.hid hix; have HX := Lib.hid hx; have HY := Lib.hid hy
        clear hix hx hy
        go_wp2_with fail
        refine (refHas1 V1 ns _ w HV1.out hn1 false HX.out).mono ?_
        rintro e w1 ⟨rfl, rfl⟩
        go_wp2_with fail
        refine (refHas1 V2 ws _ w HV2.out hn2 false HY.out).mono ?_
        rintro e w1 ⟨rfl, rfl⟩
        go_wp2
        go_round
        case rel => exact ⟨m, _, rfl, by omega, by omega, HIX.out⟩
        case measure => simp [intOf]
    · obtain rfl : k = 0 := by omega
      obtain rfl : i = -1 := by omega
      have HIX := Lib.hid hix
      clear hix
      go_wp2
      go_ret
      exact ⟨by rw [← HIX.out]; rfl, rfl⟩

theorem refFound1 (V V1 V2 : Value) (l ns ws : List ByteArray) (w : World) (hm : l.length ≤ 1000000) (A : Option Addr) (c : Nat) (hV : V = .slice A l.length c) (hr : Rd w w.heap.size A l) (h1 : Sv w w.heap.size V1 ns) (h2 : Sv w w.heap.size V2 ws) (hn1 : ns.length ≤ 1000) (hn2 : ws.length ≤ 1000) (i : Int) (hi : idx ns ws l = i) :
    Calls Tryz.prog 68 #[V, V1, V2] w fun e w' => e = .returned (.int .i64 i) ∧ w = w' := by
  subst hV; subst hi
  exact refFound_any A c V1 V2 l ns ws w hm hr h1 h2 hn1 hn2

set_option maxRecDepth 100000 in
set_option maxHeartbeats 1000000 in
theorem refClosed_any (V V1 V2 : Value) (l ns ws : List ByteArray) (w : World) (hm : l.length ≤ 1000000) (h0 : Sv w w.heap.size V l) (h1 : Sv w w.heap.size V1 ns) (h2 : Sv w w.heap.size V2 ws) (hn1 : ns.length ≤ 1000) (hn2 : ws.length ≤ 1000) :
    Calls Tryz.prog 63 #[V, V1, V2] w fun e w' => ∃ v, e = .returned v ∧ Sown w.heap.size w' v (closedS ns ws l.reverse).reverse ∧ Below w.heap.size w w' := by
  obtain ⟨A, c, rfl, hc, hA, hr⟩ := h0
  have HV1 := Lib.hid h1; have HV2 := Lib.hid h2; have HR := Lib.hid hr
  clear h1 h2 hr
  obtain ⟨i, hi⟩ : ∃ i, idx ns ws l = i := ⟨_, rfl⟩
  go_enter Tryz.func63, Tryz.ntmps63
  go_wp2_with fail
  refine (refFound1 _ V1 V2 l ns ws w hm A c rfl HR.out HV1.out HV2.out hn1 hn2 i hi).mono ?_
  rintro e w1 ⟨rfl, rfl⟩
  have HI := Lib.hid hi
  clear hi
  go_wp2
  go_loop [0, 7] (fun v x => ∃ (k : Nat) (j : Int), v = .slice A k c ∧ x = .int .i64 j ∧ k ≤ l.length ∧ idx ns ws (l.take k) = j ∧ closedS ns ws (l.take k).reverse = closedS ns ws l.reverse) (fun v _ => lenOf v)
  case atStart => exact ⟨l.length, i, rfl, rfl, Nat.le_refl _, by rw [List.take_length]; exact HI.out, by rw [List.take_length]⟩
  case round =>
    obtain ⟨k, j, rfl, rfl, hk, hj, hcl⟩ := hrel
    rcases idx_take (ns := ns) (ws := ws) (o := l.take k) with ⟨e1, e2⟩ | ⟨m, e1, hmk, e2⟩
    · rw [hj] at e1
      subst e1
      rw [closedS_no e2] at hcl
      have hfin : (closedS ns ws l.reverse).reverse = l.take k := by rw [← hcl, List.reverse_reverse]
      have HFIN := Lib.hid hfin
      have hkl : (l.take k).length = k := by rw [List.length_take]; omega
      have hs0 := Sown.made w
      have HS0 := Lib.hid hs0; have HKL := Lib.hid hkl
      clear hcl hj e2 hs0 hkl hfin
      go_wp2_with (at_builtin; refine app_all _ rfl (.tmp 21) (.tmp 22) rfl w.heap.size _ [] (l.take k) A c w.heap.size rfl HS0.out (by rw [HKL.out]; rfl) hA ((HR.out.take k).below (below_one w _) (Nat.le_refl _)) (by rw [HKL.out]; simp; omega) (by simp) ?_; intro v' w' hown' hk' _)
      go_ret
      exact ⟨v', rfl, by rw [HFIN.out]; exact hown', hk' w (below_one w _)⟩
    · rw [hj] at e1
      subst e1
      have hlk : (l.take k).length = k := by rw [List.length_take]; omega
      rw [hlk] at hmk
      have et : (l.take k).take m = l.take m := by rw [List.take_take, Nat.min_eq_left (by omega)]
      rw [closedS_yes e2, et] at hcl
      have hge : decide ((0 : Int) ≤ (m : Int)) = true := decide_eq_true (by omega)
      have hml : (l.take m).length = m := by rw [List.length_take]; omega
      obtain ⟨i2, hi2⟩ : ∃ i, idx ns ws (l.take m) = i := ⟨_, rfl⟩
      have HC := Lib.hid hcl; have HML := Lib.hid hml; have HI2 := Lib.hid hi2
      clear hcl hj e2 hml hi2 et hlk
      have hm0 : (0 : Int) ≤ (m : Int) := by omega
      have hmc : (m : Int) ≤ (c : Int) := by omega
      go_wp2_with fail
      refine (refFound1 _ V1 V2 (l.take m) ns ws w (by rw [HML.out]; omega) A c (by rw [HML.out]) (HR.out.take m) HV1.out HV2.out hn1 hn2 i2 HI2.out).mono ?_
      rintro e w4 ⟨rfl, rfl⟩
      go_wp2
      go_round
      case rel => exact ⟨m, i2, rfl, rfl, by omega, HI2.out, HC.out⟩
      case measure => simp [lenOf]; omega

theorem para1 (n : ByteArray) (w : World) (q : Bool) (hq : para n = q) : Calls Tryz.prog 66 #[.string n] w fun e w' => e = .returned (.bool q) ∧ w = w' := by
  cases q with
  | true =>
    rcases para_true hq with q1 | ⟨q1, q2⟩ | ⟨q1, q2, q3⟩
    all_goals
      clear hq
      go_enter Tryz.func66, Tryz.ntmps66
      go_wp2
      go_ret
      exact ⟨rfl, rfl⟩
  | false =>
    obtain ⟨q1, q2, q3⟩ := para_false hq
    clear hq
    go_enter Tryz.func66, Tryz.ntmps66
    go_wp2
    go_ret
    exact ⟨rfl, rfl⟩

set_option maxRecDepth 100000 in
set_option maxHeartbeats 1000000 in
theorem refOpened_any (V : Value) (l : List ByteArray) (n : ByteArray) (w : World) (hm : l.length ≤ 1000000) (h0 : Sv w w.heap.size V l) :
    Calls Tryz.prog 31 #[V, .string n] w fun e w' => ∃ v, e = .returned v ∧ Sown w.heap.size w' v (openedS n l.reverse).reverse ∧ Below w.heap.size w w' := by
  have hL1 := closes_len n
  have hL2 := walls_len n
  have HV := Lib.hid h0
  clear h0
  go_enter Tryz.func31, Tryz.ntmps31
  go_wp2_with fail
  refine (Na.refCloses_any n w).mono ?_
  rintro e w1 ⟨V1, rfl, s1, b1⟩
  go_wp2_with fail
  refine (Na.refWalls_any n w1).mono ?_
  rintro e w2 ⟨V2, rfl, s2, b2⟩
  have B2 := bt b1 b2
  have v1 : Sv w2 w2.heap.size V1 (closesL n) := sv_own (s1.below b2 (Nat.le_refl _))
  go_wp2_with fail
  refine (refClosed_any V V1 V2 l (closesL n) (wallsL n) w2 hm ((HV.out.below B2 (Nat.le_refl _)).more B2.size) v1 (sv_own s2) hL1 hL2).mono ?_
  rintro e w3 ⟨V3, rfl, s3, b3⟩
  have B3 := bt B2 b3
  obtain ⟨o, ho⟩ : ∃ o, (closedS (closesL n) (wallsL n) l.reverse).reverse = o := ⟨_, rfl⟩
  rw [ho] at s3
  have hor : closedS (closesL n) (wallsL n) l.reverse = o.reverse := by rw [← ho, List.reverse_reverse]
  have hol : o.length ≤ 1000000 := by
    rw [← ho, List.length_reverse]
    have := (closedS_end (closesL n) (wallsL n) l.reverse).2.length_le
    rw [List.length_reverse] at this
    omega
  have HS3 := Lib.hid s3; have HB3 := Lib.hid B3; have HOR := Lib.hid hor
  have hsz := B2.size
  clear s1 s2 s3 b1 b2 b3 B2 B3 v1 ho hor HV
  cases hp : para n with
  | true =>
    have HO := Lib.hid (opened_yes hp l.reverse)
    go_wp2_with fail
    refine (para1 n w3 true hp).mono ?_
    rintro e w4 ⟨rfl, rfl⟩
    go_wp2_with fail
    refine (Na.refWalls_any n_p (w3.alloc (.cells #[.string n_p] 9))).mono ?_
    rintro e w5 ⟨V5, rfl, s5, b5⟩
    have hb5 := bt (below_one w3 (.cells #[.string n_p] 9)) b5
    have v3 : Sv w5 w5.heap.size V3 o := Sv.up3 (sv_own HS3.out) hb5
    have vp : Sv w5 w5.heap.size (.slice (some ⟨w3.heap.size, 0, none⟩) 1 1) [n_p] := Sv.up3 (sv_lit w3 [n_p]) b5
    go_wp2_with fail
    refine (refClosed_any V3 _ V5 o [n_p] (wallsL n_p) w5 hol v3 vp (sv_own s5) (by simp) (walls_len _)).mono ?_
    rintro e w6 ⟨V6, rfl, s6, b6⟩
    have HS6 := Lib.hid s6; have HB6 := Lib.hid (bt HB3.out (bt hb5 b6))
    have hz5 := hb5.size
    have hz3 := HB3.out.size
    clear s5 b5 hb5 v3 vp s6 b6
    go_wp2
    go_ret
    refine ⟨V6, rfl, ?_, HB6.out⟩
    rw [HO.out, HOR.out]
    exact HS6.out.mono (by omega)
  | false =>
    have HO := Lib.hid (opened_no hp l.reverse)
    go_wp2_with fail
    refine (para1 n w3 false hp).mono ?_
    rintro e w4 ⟨rfl, rfl⟩
    go_wp2
    go_ret
    refine ⟨V3, rfl, ?_, HB3.out⟩
    rw [HO.out, HOR.out, List.reverse_reverse]
    exact HS3.out.mono hsz

end Go.Proofs.YtdplbcchkjpcdaaGreatDoor.Bu

namespace Go.Proofs.YtdplbcchkjpcdaaGreatDoor.Bu
set_option maxRecDepth 100000
set_option linter.unusedVariables false
set_option linter.unusedSimpArgs false
open Go.RowKit Ba Fm Fo Nm Bm
/-- What ended says. -/
def EndSays (w : World) (V : Value) (l : List ByteArray) (n : ByteArray) (e : Ending) (w' : World) : Prop :=
  (match findS [n] (endWalls n) l.reverse with
  | none => e = .returned (.tuple #[V, .bool false])
  | some r => ∃ v, e = .returned (.tuple #[v, .bool true]) ∧ Sown w.heap.size w' v r.reverse) ∧ Below w.heap.size w w'
theorem EndSays.no {w w' : World} {V : Value} {l : List ByteArray} {n : ByteArray} (h : findS [n] (endWalls n) l.reverse = none) (hb : Below w.heap.size w w') : EndSays w V l n (.returned (.tuple #[V, .bool false])) w' := by
  unfold EndSays
  rw [h]
  exact ⟨rfl, hb⟩
theorem EndSays.yes {w w' : World} {V : Value} {l : List ByteArray} {n : ByteArray} {m : Nat} (v : Value) (h : findS [n] (endWalls n) l.reverse = some (l.take m).reverse) (hs : Sown w.heap.size w' v ([] ++ l.take m)) (hb : Below w.heap.size w w') : EndSays w V l n (.returned (.tuple #[v, .bool true])) w' := by
  unfold EndSays
  rw [h]
  exact ⟨⟨v, rfl, by rw [List.reverse_reverse]; exact hs⟩, hb⟩
theorem refFound2 (V V1 V2 : Value) (l ns ws : List ByteArray) (w : World) (hm : l.length ≤ 1000000) (h0 : Sv w w.heap.size V l) (h1 : Sv w w.heap.size V1 ns) (h2 : Sv w w.heap.size V2 ws) (hn1 : ns.length ≤ 1000) (hn2 : ws.length ≤ 1000) (i : Int) (hi : idx ns ws l = i) :
    Calls Tryz.prog 68 #[V, V1, V2] w fun e w' => e = .returned (.int .i64 i) ∧ w = w' := by
  obtain ⟨A, c, rfl, _, _, hr⟩ := h0
  exact refFound1 _ V1 V2 l ns ws w hm A c rfl hr h1 h2 hn1 hn2 i hi
theorem table_eq (n : ByteArray) : (n.toList == [116, 97, 98, 108, 101]) = decide (n = n_table) := by
  have e1 : n_table.toList = [116, 97, 98, 108, 101] := by rw [toList_L]
  rw [← e1, eq_of_toList]
theorem ends_yes {n : ByteArray} (h : n = n_table ∨ isIn n tableL = true) : endWalls n = wallsL n_tr := by unfold endWalls; rw [if_pos h]
theorem ends_no {n : ByteArray} (h : n ≠ n_table) (h' : isIn n tableL = false) : endWalls n = wallsL n_p := by unfold endWalls; rw [if_neg (by rw [h']; simp [h])]

set_option maxRecDepth 100000 in
set_option maxHeartbeats 2000000 in
theorem refEnded_any (V : Value) (l : List ByteArray) (n : ByteArray) (w : World) (hm : l.length ≤ 1000000) (h0 : Sv w w.heap.size V l) :
    Calls Tryz.prog 34 #[V, .string n] w fun e w' => EndSays w V l n e w' := by
  obtain ⟨A, c, rfl, hc, hA, hr⟩ := h0
  have HR := Lib.hid hr; have HV0 := Lib.hid (show Sv w w.heap.size (.slice A l.length c) l from ⟨A, c, rfl, hc, hA, hr⟩)
  clear hr
  go_enter Tryz.func34, Tryz.ntmps34
  go_wp2_with fail
  refine (Na.refWalls_any n_p w).mono ?_
  rintro e w1 ⟨VP, rfl, sp, bp⟩
  have HSP := Lib.hid sp; have HBP := Lib.hid bp
  clear sp bp
  have gtab := table_eq n
  by_cases ht : n = n_table
  · rw [decide_eq_true ht] at gtab
    have HWE := Lib.hid (ends_yes (.inl ht))
    clear ht
    go_wp2_with fail
    refine (Na.refWalls_any n_tr w1).mono ?_
    rintro e w2 ⟨VW, rfl, sw, bw⟩
    obtain ⟨ws, hws⟩ : ∃ ws, wallsL n_tr = ws := ⟨_, rfl⟩
    rw [hws] at sw
    have HWS := Lib.hid (show endWalls n = ws from by rw [HWE.out, hws]); have HWL := Lib.hid (show ws.length ≤ 1000 from by rw [← hws]; exact walls_len _)
    have HVW := Lib.hid (sv_own sw); have HB := Lib.hid (bt HBP.out bw)
    clear sw bw hws
    obtain ⟨i, hi⟩ : ∃ i, idx [n] ws l = i := ⟨_, rfl⟩
    have HI := Lib.hid hi
    clear hi
    go_wp2_with fail
    refine (refFound2 _ _ VW l [n] ws (w2.alloc (.cells #[.string n] 9)) hm (Sv.up3 HV0.out (bt HB.out (below_one w2 (.cells #[.string n] 9)))) (sv_lit w2 [n]) (Sv.up3 HVW.out (below_one w2 _)) (by simp) HWL.out i HI.out).mono ?_
    rintro e x ⟨rfl, rfl⟩
    rcases idx_take (ns := [n]) (ws := ws) (o := l) with ⟨e1, e2⟩ | ⟨m, e1, hmk, e2⟩
    · rw [HI.out] at e1
      subst e1
      have HE2 := Lib.hid e2
      have HBZ := Lib.hid (bt HB.out (below_one w2 (.cells #[.string n] 9)))
      clear e2
      go_wp2
      go_ret2
      refine EndSays.no ?_ HBZ.out
      rw [HWS.out]; exact HE2.out
    · rw [HI.out] at e1
      subst e1
      have hge : decide ((m : Int) < (0 : Int)) = false := decide_eq_false (by omega)
      have hge2 : decide (m < 0) = false := decide_eq_false (by omega)
      have hml : (l.take m).length = m := by rw [List.length_take]; omega
      have hm0 : (0 : Int) ≤ (m : Int) := by omega
      have hmc : (m : Int) ≤ (c : Int) := by omega
      obtain ⟨w9, hw9⟩ : ∃ w9, w2.alloc (.cells #[.string n] 9) = w9 := ⟨_, rfl⟩
      have HBZ := Lib.hid (show Below w.heap.size w w9 from by rw [← hw9]; exact bt HB.out (below_one w2 (.cells #[.string n] 9)))
      have HS0 := Lib.hid (Sown.made w9); have HML := Lib.hid hml; have HE2 := Lib.hid e2
      have HRM := Lib.hid (((HR.out.below HBZ.out (Nat.le_refl _)).take m).below (below_one w9 (.cells #[] 9)) HBZ.out.size)
      clear e2 hml
      rw [hw9]
      clear hw9
      go_wp2_with (at_builtin; refine app_all _ rfl (.tmp 25) (.tmp 28) rfl w9.heap.size _ [] (l.take m) A c w.heap.size rfl HS0.out (by rw [HML.out]; rfl) hA HRM.out (by rw [HML.out]; simp; omega) (by simp) ?_; intro v' w' hown' hk' _)
      go_ret2
      refine EndSays.yes v' ?_ (hown'.mono HBZ.out.size) (bt HBZ.out (hk' w9 (below_one w9 _)))
      rw [HWS.out]; exact HE2.out
  · rw [decide_eq_false ht] at gtab
    have HNT := Lib.hid ht
    clear ht
    obtain ⟨q, hq⟩ : ∃ q, isIn n tableL = q := ⟨_, rfl⟩
    go_wp2_with fail
    refine (Na.refTable_any w1).mono ?_
    rintro e w2 ⟨VT, rfl, st, bt2⟩
    have HVT := Lib.hid (sv_own st); have HB2 := Lib.hid (bt HBP.out bt2); have HVP2 := Lib.hid (Sv.up3 (sv_own HSP.out) bt2)
    clear st bt2
    go_wp2_with fail
    refine (refHas1 VT tableL n w2 HVT.out (by decide) q hq).mono ?_
    rintro e w3 ⟨rfl, rfl⟩
    cases q with
    | true =>
      have HWE := Lib.hid (ends_yes (.inr hq))
      clear hq
      go_wp2_with fail
      refine (Na.refWalls_any n_tr w2).mono ?_
      rintro e w4 ⟨VW, rfl, sw, bw⟩
      obtain ⟨ws, hws⟩ : ∃ ws, wallsL n_tr = ws := ⟨_, rfl⟩
      rw [hws] at sw
      have HWS := Lib.hid (show endWalls n = ws from by rw [HWE.out, hws]); have HWL := Lib.hid (show ws.length ≤ 1000 from by rw [← hws]; exact walls_len _)
      have HVW := Lib.hid (sv_own sw); have HB := Lib.hid (bt HB2.out bw)
      clear sw bw hws
      obtain ⟨i, hi⟩ : ∃ i, idx [n] ws l = i := ⟨_, rfl⟩
      have HI := Lib.hid hi
      clear hi
      go_wp2_with fail
      refine (refFound2 _ _ VW l [n] ws (w4.alloc (.cells #[.string n] 9)) hm (Sv.up3 HV0.out (bt HB.out (below_one w4 (.cells #[.string n] 9)))) (sv_lit w4 [n]) (Sv.up3 HVW.out (below_one w4 _)) (by simp) HWL.out i HI.out).mono ?_
      rintro e x ⟨rfl, rfl⟩
      rcases idx_take (ns := [n]) (ws := ws) (o := l) with ⟨e1, e2⟩ | ⟨m, e1, hmk, e2⟩
      · rw [HI.out] at e1
        subst e1
        have HE2 := Lib.hid e2
        have HBZ := Lib.hid (bt HB.out (below_one w4 (.cells #[.string n] 9)))
        clear e2
        go_wp2
        go_ret2
        refine EndSays.no ?_ HBZ.out
        rw [HWS.out]; exact HE2.out
      · rw [HI.out] at e1
        subst e1
        have hge : decide ((m : Int) < (0 : Int)) = false := decide_eq_false (by omega)
        have hge2 : decide (m < 0) = false := decide_eq_false (by omega)
        have hml : (l.take m).length = m := by rw [List.length_take]; omega
        have hm0 : (0 : Int) ≤ (m : Int) := by omega
        have hmc : (m : Int) ≤ (c : Int) := by omega
        obtain ⟨w9, hw9⟩ : ∃ w9, w4.alloc (.cells #[.string n] 9) = w9 := ⟨_, rfl⟩
        have HBZ := Lib.hid (show Below w.heap.size w w9 from by rw [← hw9]; exact bt HB.out (below_one w4 (.cells #[.string n] 9)))
        have HS0 := Lib.hid (Sown.made w9); have HML := Lib.hid hml; have HE2 := Lib.hid e2
        have HRM := Lib.hid (((HR.out.below HBZ.out (Nat.le_refl _)).take m).below (below_one w9 (.cells #[] 9)) HBZ.out.size)
        clear e2 hml
        rw [hw9]
        clear hw9
        go_wp2_with (at_builtin; refine app_all _ rfl (.tmp 25) (.tmp 28) rfl w9.heap.size _ [] (l.take m) A c w.heap.size rfl HS0.out (by rw [HML.out]; rfl) hA HRM.out (by rw [HML.out]; simp; omega) (by simp) ?_; intro v' w' hown' hk' _)
        go_ret2
        refine EndSays.yes v' ?_ (hown'.mono HBZ.out.size) (bt HBZ.out (hk' w9 (below_one w9 _)))
        rw [HWS.out]; exact HE2.out
    | false =>
      obtain ⟨VW, hVW⟩ : ∃ VW, VP = VW := ⟨_, rfl⟩
      subst hVW
      obtain ⟨ws, hws⟩ : ∃ ws, wallsL n_p = ws := ⟨_, rfl⟩
      have HWS := Lib.hid (show endWalls n = ws from by rw [ends_no HNT.out hq, hws]); have HWL := Lib.hid (show ws.length ≤ 1000 from by rw [← hws]; exact walls_len _)
      have HVW := Lib.hid (show Sv w2 w2.heap.size VP ws from by rw [← hws]; exact HVP2.out); have HB := HB2
      clear hq hws
      obtain ⟨i, hi⟩ : ∃ i, idx [n] ws l = i := ⟨_, rfl⟩
      have HI := Lib.hid hi
      clear hi
      go_wp2_with fail
      refine (refFound2 _ _ VP l [n] ws (w2.alloc (.cells #[.string n] 9)) hm (Sv.up3 HV0.out (bt HB.out (below_one w2 (.cells #[.string n] 9)))) (sv_lit w2 [n]) (Sv.up3 HVW.out (below_one w2 _)) (by simp) HWL.out i HI.out).mono ?_
      rintro e x ⟨rfl, rfl⟩
      rcases idx_take (ns := [n]) (ws := ws) (o := l) with ⟨e1, e2⟩ | ⟨m, e1, hmk, e2⟩
      · rw [HI.out] at e1
        subst e1
        have HE2 := Lib.hid e2
        have HBZ := Lib.hid (bt HB.out (below_one w2 (.cells #[.string n] 9)))
        clear e2
        go_wp2
        go_ret2
        refine EndSays.no ?_ HBZ.out
        rw [HWS.out]; exact HE2.out
      · rw [HI.out] at e1
        subst e1
        have hge : decide ((m : Int) < (0 : Int)) = false := decide_eq_false (by omega)
        have hge2 : decide (m < 0) = false := decide_eq_false (by omega)
        have hml : (l.take m).length = m := by rw [List.length_take]; omega
        have hm0 : (0 : Int) ≤ (m : Int) := by omega
        have hmc : (m : Int) ≤ (c : Int) := by omega
        obtain ⟨w9, hw9⟩ : ∃ w9, w2.alloc (.cells #[.string n] 9) = w9 := ⟨_, rfl⟩
        have HBZ := Lib.hid (show Below w.heap.size w w9 from by rw [← hw9]; exact bt HB.out (below_one w2 (.cells #[.string n] 9)))
        have HS0 := Lib.hid (Sown.made w9); have HML := Lib.hid hml; have HE2 := Lib.hid e2
        have HRM := Lib.hid (((HR.out.below HBZ.out (Nat.le_refl _)).take m).below (below_one w9 (.cells #[] 9)) HBZ.out.size)
        clear e2 hml
        rw [hw9]
        clear hw9
        go_wp2_with (at_builtin; refine app_all _ rfl (.tmp 25) (.tmp 28) rfl w9.heap.size _ [] (l.take m) A c w.heap.size rfl HS0.out (by rw [HML.out]; rfl) hA HRM.out (by rw [HML.out]; simp; omega) (by simp) ?_; intro v' w' hown' hk' _)
        go_ret2
        refine EndSays.yes v' ?_ (hown'.mono HBZ.out.size) (bt HBZ.out (hk' w9 (below_one w9 _)))
        rw [HWS.out]; exact HE2.out

end Go.Proofs.YtdplbcchkjpcdaaGreatDoor.Bu

namespace Go.Proofs.YtdplbcchkjpcdaaGreatDoor.Ro
set_option maxRecDepth 100000
set_option linter.unusedVariables false
set_option linter.unusedSimpArgs false
open Go.RowKit Ba
def acells (a : At) : List Value := [.string a.name, .string a.value]
theorem len_acells (x : At) : (acells x).length = 2 := rfl
/-- These attributes lie at A, below block N. -/
def Ra (w : World) (N : Nat) (A : Option Addr) (l : List At) : Prop :=
  0 < l.length → ∃ b off, A = some ⟨b, off, none⟩ ∧ b < N ∧ ∀ j (h : j < l.length), w.rangeAt b (off + j * 2) (acells l[j])
/-- Their names are no longer than a string can be. -/
def Sh (l : List At) : Prop := ∀ a ∈ l, a.name.size ≤ maxLen
theorem range_keep {w w' : World} {b o : Nat} {cs : List Value} (h : w.rangeAt b o cs) (hk : ∀ o, w'.cell? ⟨b, o, none⟩ = w.cell? ⟨b, o, none⟩) : w'.rangeAt b o cs := fun j v hv => (hk _).trans (h j v hv)
theorem Ra.keep {w w' : World} {N : Nat} {A : Option Addr} {l : List At} (h : Ra w N A l) (hk : ∀ b o, b < N → w'.cell? ⟨b, o, none⟩ = w.cell? ⟨b, o, none⟩) : Ra w' N A l := fun h0 => by
  obtain ⟨b, off, e, hb, hc⟩ := h h0
  exact ⟨b, off, e, hb, fun j hj => range_keep (hc j hj) fun o => hk b o hb⟩
theorem Ra.more {w : World} {N M : Nat} {A : Option Addr} {l : List At} (h : Ra w N A l) (hN : N ≤ M) : Ra w M A l := fun h0 => by
  obtain ⟨b, off, e, hb, hc⟩ := h h0
  exact ⟨b, off, e, by omega, hc⟩
theorem Ra.below {w w' : World} {N M : Nat} {A : Option Addr} {l : List At} (h : Ra w N A l) (hb : Below M w w') (hN : N ≤ M := by exact Nat.le_refl _) : Ra w' N A l := h.keep fun b o hbN => hb.cell (p := ⟨b, o, none⟩) (show b < M by omega)
theorem Ra.nil (w : World) (N : Nat) (A : Option Addr) : Ra w N A [] := fun h => absurd h (by simp)
theorem info_attr : (Tryz.prog.info? 66).map (fun i => (i.zero, i.size, i.bytes)) = some (some (.agg #[.string .empty, .string .empty]), 2, 32) := by kernel_rfl
theorem range5 {w : World} {b o : Nat} {v0 v1 v2 v3 v4 : Value} (h : w.rangeAt b o [v0, v1, v2, v3, v4]) :
    w.cell? ⟨b, o, none⟩ = some v0 ∧ w.cell? ⟨b, o + 1, none⟩ = some v1 ∧ w.cell? ⟨b, o + 2, none⟩ = some v2 ∧ w.cell? ⟨b, o + 3, none⟩ = some v3 ∧ w.cell? ⟨b, o + 4, none⟩ = some v4 :=
  ⟨h 0 _ rfl, h 1 _ rfl, h 2 _ rfl, h 3 _ rfl, h 4 _ rfl⟩
theorem range2 {w : World} {b o : Nat} {v0 v1 : Value} (h : w.rangeAt b o [v0, v1]) : w.cell? ⟨b, o, none⟩ = some v0 ∧ w.cell? ⟨b, o + 1, none⟩ = some v1 := ⟨h 0 _ rfl, h 1 _ rfl⟩
theorem Ra.at_ {w : World} {N : Nat} {A : Option Addr} {l : List At} (h : Ra w N A l) (k : Nat) (hk : k < l.length) :
    ∃ b off x, A = some ⟨b, off, none⟩ ∧ b < N ∧ l.drop k = x :: l.drop (k + 1) ∧ w.rangeAt b (off + k * 2) [.string x.name, .string x.value] ∧ x ∈ l := by
  obtain ⟨b, off, e, hb, hc⟩ := h (by omega)
  exact ⟨b, off, l[k], e, hb, List.drop_eq_getElem_cons hk, hc k hk, List.getElem_mem _⟩
theorem below_new (w : World) (o : Obj) : Below w.heap.size w (w.alloc o) := (Below.refl _ _).alloc (Nat.le_refl _) _
theorem getElem_of_drop {α : Type} {l : List α} {k : Nat} {x : α} {r : List α} (h : l.drop k = x :: r) : l[k]? = some x := by
  have := List.getElem?_drop (xs := l) (i := k) (j := 0)
  rw [h] at this
  simpa using this.symm
theorem len_part {α : Type} (l : List α) (i j : Nat) (hj : j ≤ l.length) : ((l.take j).drop i).length = j - i := by
  rw [List.length_drop, List.length_take]
  omega
theorem flat_at {α : Type} (f : α → List Value) (m : Nat) (hm : ∀ x, (f x).length = m) : ∀ (l : List α) (j i : Nat) (h : j < l.length), i < m → (l.flatMap f)[j * m + i]? = (f l[j])[i]?
  | [], j, _, h, _ => absurd h (by simp)
  | x :: r, 0, i, _, hi => by
    rw [List.flatMap_cons, List.getElem?_append_left (by rw [hm]; omega)]
    simp
  | x :: r, j + 1, i, h, hi => by
    rw [List.flatMap_cons, List.getElem?_append_right (by rw [hm, Nat.add_mul]; omega), hm, show (j + 1) * m + i - m = j * m + i from by rw [Nat.add_mul]; omega]
    rw [flat_at f m hm r j i (by simpa using h) hi]
    rfl
theorem flat_len {α : Type} (f : α → List Value) (m : Nat) (hm : ∀ x, (f x).length = m) : ∀ l : List α, (l.flatMap f).length = l.length * m
  | [] => by simp
  | x :: r => by rw [List.flatMap_cons, List.length_append, hm, flat_len f m hm r, List.length_cons, Nat.add_mul]; omega
theorem acells_one (l : List At) : ∀ u ∈ l.flatMap acells, u.oneCell' = true := by
  intro u hu
  obtain ⟨x, _, hu⟩ := List.mem_flatMap.1 hu
  simp only [acells, List.mem_cons, List.not_mem_nil, or_false] at hu
  rcases hu with rfl | rfl <;> rfl
end Go.Proofs.YtdplbcchkjpcdaaGreatDoor.Ro

namespace Go.Proofs.YtdplbcchkjpcdaaGreatDoor.To
set_option maxRecDepth 100000
set_option linter.unusedVariables false
set_option linter.unusedSimpArgs false
open Go.RowKit Ba Tm
open Ro (At acells len_acells Ra Sh range_keep info_attr range2 range5 below_new getElem_of_drop len_part flat_at flat_len acells_one)
/-- A row as it lies: where its attributes are, and how much room is there. -/
structure Tw where
  tk : Tk
  A : Option Addr
  c : Nat

def cells (x : Tw) : List Value := [.int .i64 x.tk.kind, .string x.tk.name, .string x.tk.data, .slice x.A x.tk.attrs.length x.c, .bool x.tk.self]
theorem len_cells (x : Tw) : (cells x).length = 5 := rfl
def Att (w : World) (N : Nat) (x : Tw) : Prop := x.tk.attrs.length ≤ x.c ∧ (x.A = none → x.c = 0) ∧ x.c ≤ maxLen ∧ Ra w N x.A x.tk.attrs ∧ Sh x.tk.attrs
/-- These rows lie at A, below block N, and their attributes. -/
def Rr (w : World) (N : Nat) (A : Option Addr) (l : List Tw) : Prop :=
  (0 < l.length → ∃ b off, A = some ⟨b, off, none⟩ ∧ b < N ∧ ∀ j (h : j < l.length), w.rangeAt b (off + j * 5) (cells l[j])) ∧ ∀ x ∈ l, Att w N x
/-- A row as a value. -/
abbrev tokV (x : Tw) : Value := .agg #[.int .i64 x.tk.kind, .string x.tk.name, .string x.tk.data, .slice x.A x.tk.attrs.length x.c, .bool x.tk.self]
def tks (l : List Tw) : List Tk := l.map Tw.tk
theorem len_tks (l : List Tw) : (tks l).length = l.length := List.length_map _
theorem tks_drop (l : List Tw) (k : Nat) : (tks l).drop k = tks (l.drop k) := by simp [tks, List.map_drop]
theorem tks_append (a b : List Tw) : tks (a ++ b) = tks a ++ tks b := by simp [tks]
theorem tks_cons (a : Tw) (b : List Tw) : tks (a :: b) = a.tk :: tks b := rfl

theorem Att.keep {w w' : World} {N : Nat} {x : Tw} (h : Att w N x) (hk : ∀ b o, b < N → w'.cell? ⟨b, o, none⟩ = w.cell? ⟨b, o, none⟩) : Att w' N x := ⟨h.1, h.2.1, h.2.2.1, h.2.2.2.1.keep hk, h.2.2.2.2⟩
theorem Att.more {w : World} {N M : Nat} {x : Tw} (h : Att w N x) (hN : N ≤ M) : Att w M x := ⟨h.1, h.2.1, h.2.2.1, h.2.2.2.1.more hN, h.2.2.2.2⟩
theorem Att.below {w w' : World} {N M : Nat} {x : Tw} (h : Att w N x) (hb : Below M w w') (hN : N ≤ M := by exact Nat.le_refl _) : Att w' N x := h.keep fun b o hbN => hb.cell (p := ⟨b, o, none⟩) (show b < M by omega)
theorem Rr.keep {w w' : World} {N : Nat} {A : Option Addr} {l : List Tw} (h : Rr w N A l) (hk : ∀ b o, b < N → w'.cell? ⟨b, o, none⟩ = w.cell? ⟨b, o, none⟩) : Rr w' N A l :=
  ⟨fun h0 => by
    obtain ⟨b, off, e, hb, hc⟩ := h.1 h0
    exact ⟨b, off, e, hb, fun j hj => range_keep (hc j hj) fun o => hk b o hb⟩, fun x hx => (h.2 x hx).keep hk⟩
theorem Rr.more {w : World} {N M : Nat} {A : Option Addr} {l : List Tw} (h : Rr w N A l) (hN : N ≤ M) : Rr w M A l :=
  ⟨fun h0 => by
    obtain ⟨b, off, e, hb, hc⟩ := h.1 h0
    exact ⟨b, off, e, by omega, hc⟩, fun x hx => (h.2 x hx).more hN⟩
theorem Rr.below {w w' : World} {N M : Nat} {A : Option Addr} {l : List Tw} (h : Rr w N A l) (hb : Below M w w') (hN : N ≤ M := by exact Nat.le_refl _) : Rr w' N A l := h.keep fun b o hbN => hb.cell (p := ⟨b, o, none⟩) (show b < M by omega)
theorem Rr.nil (w : World) (N : Nat) (A : Option Addr) : Rr w N A [] := ⟨fun h => absurd h (by simp), fun _ h => by simp at h⟩
/-- A part of it: what the model makes of l[i:j]. -/
theorem Rr.part {w : World} {N : Nat} {A : Option Addr} {l : List Tw} (h : Rr w N A l) (i j cap : Nat) (hij : i ≤ j) (hj : j ≤ l.length) (hc : l.length ≤ cap) :
    Rr w N (if cap = i then A else A.map (·.add (i * 5))) ((l.take j).drop i) := by
  refine ⟨fun h0 => ?_, fun x hx => h.2 x (List.mem_of_mem_take (List.mem_of_mem_drop hx))⟩
  rw [List.length_drop, List.length_take] at h0
  obtain ⟨b, off, e, hb, hcc⟩ := h.1 (by omega)
  rw [if_neg (by omega), e]
  refine ⟨b, off + i * 5, by simp [WideShapes.add_plain], hb, fun k hk => ?_⟩
  rw [List.length_drop, List.length_take] at hk
  have := hcc (i + k) (by omega)
  rw [show off + i * 5 + k * 5 = off + (i + k) * 5 from by omega]
  simpa using this

theorem info_tok : (Tryz.prog.info? 44).map (fun i => (i.zero, i.size, i.bytes)) = some (some (.agg #[.int .i64 0, .string .empty, .string .empty, .slice none 0 0, .bool false]), 5, 72) := by kernel_rfl
/-- The row at k. -/
theorem Rr.at_ {w : World} {N : Nat} {A : Option Addr} {l : List Tw} (h : Rr w N A l) (k : Nat) (hk : k < l.length) :
    ∃ b off x, A = some ⟨b, off, none⟩ ∧ b < N ∧ l.drop k = x :: l.drop (k + 1) ∧ w.rangeAt b (off + k * 5) [.int .i64 x.tk.kind, .string x.tk.name, .string x.tk.data, .slice x.A x.tk.attrs.length x.c, .bool x.tk.self] ∧ Att w N x ∧ x ∈ l := by
  obtain ⟨b, off, e, hb, hc⟩ := h.1 (by omega)
  exact ⟨b, off, l[k], e, hb, List.drop_eq_getElem_cons hk, hc k hk, h.2 _ (List.getElem_mem _), List.getElem_mem _⟩
/-- A row in a box of its own. -/
abbrev tokO (x : Tw) : Obj := .cells #[.int .i64 x.tk.kind, .string x.tk.name, .string x.tk.data, .slice x.A x.tk.attrs.length x.c, .bool x.tk.self] 44
theorem box_at (w : World) (x : Tw) (j : Nat) : (w.alloc (tokO x)).cell? ⟨w.heap.size, j, none⟩ = (cells x)[j]? := by
  rw [World.cell?_alloc_mark]
  match j with
  | 0 | 1 | 2 | 3 | 4 => rfl
  | j + 5 => simp [cells]
theorem box_kept {w w3 : World} {x : Tw} (hb : Below (w.alloc (tokO x)).heap.size (w.alloc (tokO x)) w3) (j : Nat) : w3.cell? ⟨w.heap.size, j, none⟩ = (cells x)[j]? :=
  (hb.cell (p := ⟨w.heap.size, j, none⟩) (by simp)).trans (box_at w x j)
theorem Att.boxed {w w0 : World} {x : Tw} (h : Att w w0.heap.size x) (hb : Below w0.heap.size w0 w) (o : Obj) : Att (w.alloc o) (w.alloc o).heap.size x :=
  ((h.more hb.size).below (below_new w o)).more (by simp)
/-- l[i:j] where i is ahead of the room's end. -/
theorem Rr.mid {w : World} {N : Nat} {A : Option Addr} {l : List Tw} (h : Rr w N A l) (i j cap : Nat) (hij : i ≤ j) (hj : j ≤ l.length) (hc : l.length ≤ cap) (hne : i < cap) :
    Rr w N (Option.map (fun x => x.add (i * 5)) A) ((l.take j).drop i) := by
  have := h.part i j cap hij hj hc
  rwa [if_neg (by omega)] at this
end Go.Proofs.YtdplbcchkjpcdaaGreatDoor.To

namespace Go.Proofs.YtdplbcchkjpcdaaGreatDoor.To
set_option maxRecDepth 100000
set_option linter.unusedVariables false
set_option linter.unusedSimpArgs false
open Go.RowKit Ba Tm
open Ro (At acells len_acells Ra Sh range_keep info_attr range2 range5 below_new getElem_of_drop len_part flat_at flat_len acells_one)
/-- The attributes of a row lie where no row of the call's own can lie. -/
def Ap (w : World) (N : Nat) (x : Tw) : Prop := 0 < x.tk.attrs.length → ∃ b off, x.A = some ⟨b, off, none⟩ ∧ (b < N ∨ ∃ cs fr, w.heap[b]? = some (.cells cs 66 fr))
/-- The attributes of a row are the call's own. -/
def Fr (N : Nat) (w : World) (x : Tw) : Prop := w.ownsRow N 66 2 (.slice x.A x.tk.attrs.length x.c) x.tk.attrs.length (x.tk.attrs.flatMap acells) ∧ Sh x.tk.attrs
/-- v is a slice of rows of the call's own. -/
def Ow (N : Nat) (w : World) (v : Value) (l : List Tw) : Prop := w.ownsRow N 44 5 v l.length (l.flatMap cells) ∧ ∀ x ∈ l, Att w w.heap.size x ∧ Ap w N x

theorem Fr.att {N : Nat} {w : World} {x : Tw} (h : Fr N w x) : Att w w.heap.size x := by
  obtain ⟨⟨hl, h⟩, hs⟩ := h
  rcases h with ⟨hv, hn⟩ | ⟨g, cap, cur, hv, hg, hh, hn, hm, hsz, ht⟩
  · injection hv with e1 e2 e3
    refine ⟨by omega, fun _ => e3, by rw [e3]; exact Nat.zero_le _, fun h0 => by omega, hs⟩
  · have hh0 : w.ownsRow N 66 2 (.slice x.A x.tk.attrs.length x.c) x.tk.attrs.length (x.tk.attrs.flatMap acells) := ⟨hl, .inr ⟨g, cap, cur, hv, hg, hh, hn, hm, hsz, ht⟩⟩
    injection hv with e1 _ e3
    refine ⟨by omega, (fun e => by rw [e] at e1; cases e1), by rw [e3]; exact hm, fun h0 => ⟨g, 0, e1, (Array.getElem?_eq_some_iff.1 hh).1, fun j hj i v hv => ?_⟩, hs⟩
    have hi : i < 2 := (List.getElem?_eq_some_iff.1 hv).1
    have := World.ownsRow.cells hh0 (g := g) (by rw [e1]; rfl) (j * 2 + i) v (by rw [flat_at acells 2 len_acells _ _ _ hj hi]; exact hv)
    rw [WideShapes.add_plain] at this
    rw [show 0 + j * 2 + i = 0 + (j * 2 + i) from by omega]
    exact this
theorem Fr.ap {N : Nat} {w : World} {x : Tw} (h : Fr N w x) : Ap w N x := fun h0 => by
  obtain ⟨⟨_, h⟩, _⟩ := h
  rcases h with ⟨hv, hn⟩ | ⟨g, cap, cur, hv, hg, hh, _⟩
  · omega
  · injection hv with e1
    exact ⟨g, 0, e1, .inr ⟨_, _, hh⟩⟩
theorem Fr.below {N M : Nat} {w w' : World} {x : Tw} (h : Fr N w x) (hb : Below M w w') (hM : w.heap.size ≤ M := by exact Nat.le_refl _) : Fr N w' x := by
  refine ⟨⟨h.1.1, ?_⟩, h.2⟩
  rcases h.1.2 with hn | ⟨g, cap, cur, hv, hg, hh, rest⟩
  · exact .inl hn
  · refine .inr ⟨g, cap, cur, hv, hg, ?_, rest⟩
    have hlt : g < w.heap.size := (Array.getElem?_eq_some_iff.1 hh).1
    rw [hb.block g (by omega)]
    exact hh
theorem Ap.below {N M : Nat} {w w' : World} {x : Tw} (h : Ap w N x) (hb : Below M w w') (hM : w.heap.size ≤ M := by exact Nat.le_refl _) : Ap w' N x := fun h0 => by
  obtain ⟨b, off, e, h⟩ := h h0
  refine ⟨b, off, e, ?_⟩
  rcases h with h | ⟨cs, fr, h⟩
  · exact .inl h
  · refine .inr ⟨cs, fr, ?_⟩
    have hlt : b < w.heap.size := (Array.getElem?_eq_some_iff.1 h).1
    rw [hb.block b (by omega)]
    exact h
theorem Att.apart {N : Nat} {w : World} {x : Tw} (h : Att w N x) : Ap w N x := fun h0 => by
  obtain ⟨b, off, e, hb, _⟩ := h.2.2.2.1 h0
  exact ⟨b, off, e, .inl hb⟩
theorem Ow.nil (N : Nat) (w : World) : Ow N w (.slice none 0 0) [] := ⟨World.ownsRow_nil w N _ 5, fun _ h => by simp at h⟩
theorem Ow.made (w : World) : Ow w.heap.size (w.alloc (.cells #[] 44)) (.slice (some ⟨w.heap.size, 0, none⟩) 0 0) [] :=
  ⟨World.ownsRow_made w #[] 0 (Nat.le_refl _) (Nat.zero_le _) rfl, fun _ h => by simp at h⟩
theorem Ow.below {N M : Nat} {w w' : World} {v : Value} {l : List Tw} (h : Ow N w v l) (hb : Below M w w') (hM : w.heap.size ≤ M := by exact Nat.le_refl _) : Ow N w' v l := by
  refine ⟨⟨h.1.1, ?_⟩, fun x hx => ⟨((h.2 x hx).1.below hb hM).more hb.size, (h.2 x hx).2.below hb hM⟩⟩
  rcases h.1.2 with hn | ⟨g, cap, cur, hv, hg, hh, rest⟩
  · exact .inl hn
  · refine .inr ⟨g, cap, cur, hv, hg, ?_, rest⟩
    have hlt : g < w.heap.size := (Array.getElem?_eq_some_iff.1 hh).1
    rw [hb.block g (by omega)]
    exact hh
theorem Ow.alloc {N : Nat} {w : World} {v : Value} {l : List Tw} (h : Ow N w v l) (o : Obj) : Ow N (w.alloc o) v l := h.below (below_new w o)
theorem Ow.mono {N N' : Nat} {w : World} {v : Value} {l : List Tw} (h : Ow N w v l) (hN : N' ≤ N) (hl : ∀ x ∈ l, Ap w N' x) : Ow N' w v l := ⟨World.ownsRow.mono h.1 hN, fun x hx => ⟨(h.2 x hx).1, hl x hx⟩⟩
/-- What a slice of the call's own is, and reads as. -/
theorem Ow.form {N : Nat} {w : World} {v : Value} {l : List Tw} (h : Ow N w v l) : ∃ A c, v = .slice A l.length c ∧ l.length ≤ c ∧ c ≤ maxLen ∧ (A = none → c = 0) ∧ Rr w w.heap.size A l := by
  rcases h.1.2 with ⟨hv, hl⟩ | ⟨g, cap, cur, hv, hg, hh, hn, hm, hs, ht⟩
  · have : l = [] := List.eq_nil_of_length_eq_zero hl
    subst this
    exact ⟨none, 0, hv, Nat.le_refl _, Nat.zero_le _, fun _ => rfl, Rr.nil _ _ _⟩
  · refine ⟨some ⟨g, 0, none⟩, cap, hv, hn, hm, (fun e => by cases e), fun _ => ⟨g, 0, rfl, (Array.getElem?_eq_some_iff.1 hh).1, fun j hj i u hu => ?_⟩, fun x hx => (h.2 x hx).1⟩
    have hi : i < 5 := (List.getElem?_eq_some_iff.1 hu).1
    subst hv
    have := World.ownsRow.cells h.1 (g := g) rfl (j * 5 + i) u (by rw [flat_at cells 5 len_cells _ _ _ hj hi]; exact hu)
    rw [WideShapes.add_plain] at this
    rw [show 0 + j * 5 + i = 0 + (j * 5 + i) from by omega]
    exact this

/-- A block of attributes is none of rows. -/
theorem block_ne {N n : Nat} {w : World} {v : Value} {xs : List Value} {b : Nat} {cs : Array Value} {fr : Nat × Nat} (h : w.ownsRow N 44 5 v n xs) (hb : w.heap[b]? = some (.cells cs 66 fr)) : some b ≠ v.ownBlock := by
  rcases h.2 with ⟨rfl, _⟩ | ⟨g, cap, cur, rfl, _, hh, _⟩
  · simp [Value.ownBlock]
  · intro e
    have e : b = g := by simpa [Value.ownBlock] using e
    subst e
    rw [hb] at hh
    injection hh with hh
    injection hh with _ ht
    exact absurd ht (by decide)
theorem low_ne {N n : Nat} {w : World} {v : Value} {xs : List Value} {b : Nat} (h : w.ownsRow N 44 5 v n xs) (hb : b < N) : some b ≠ v.ownBlock := fun e => by
  have := (World.ownsRow.lt h b e.symm).1
  omega
theorem Att.grown {N n : Nat} {w w' : World} {v : Value} {xs : List Value} {y : Tw} (h : w.ownsRow N 44 5 v n xs) (hg : w.grownBy w' v.ownBlock) (hy : Att w w.heap.size y) (ha : Ap w N y) : Att w' w'.heap.size y := by
  refine ⟨hy.1, hy.2.1, hy.2.2.1, fun h0 => ?_, hy.2.2.2.2⟩
  obtain ⟨b, off, e, hb, hc⟩ := hy.2.2.2.1 h0
  obtain ⟨b', off', e', ha⟩ := ha h0
  rw [e] at e'
  injection e' with e'
  injection e' with e1 e2
  subst e1 e2
  have hne : some b ≠ v.ownBlock := by
    rcases ha with ha | ⟨cs, fr, ha⟩
    · exact low_ne h ha
    · exact block_ne h ha
  exact ⟨b, off, e, Nat.lt_of_lt_of_le hb hg.size, fun j hj => range_keep (hc j hj) fun o => World.cell?_of_block (a := ⟨b, o, none⟩) (hg.block b hb hne)⟩
theorem Ap.grown {N n : Nat} {w w' : World} {v : Value} {xs : List Value} {y : Tw} (h : w.ownsRow N 44 5 v n xs) (hg : w.grownBy w' v.ownBlock) (ha : Ap w N y) : Ap w' N y := fun h0 => by
  obtain ⟨b, off, e, ha⟩ := ha h0
  refine ⟨b, off, e, ?_⟩
  rcases ha with ha | ⟨cs, fr, ha⟩
  · exact .inl ha
  · exact .inr ⟨cs, fr, (hg.block b (Array.getElem?_eq_some_iff.1 ha).1 (block_ne h ha)).trans ha⟩
theorem Fr.grown {N n : Nat} {w w' : World} {v : Value} {xs : List Value} {y : Tw} (h : w.ownsRow N 44 5 v n xs) (hg : w.grownBy w' v.ownBlock) (hy : Fr N w y) : Fr N w' y := by
  refine ⟨⟨hy.1.1, ?_⟩, hy.2⟩
  rcases hy.1.2 with hn | ⟨g, cap, cur, hv, hg', hh, rest⟩
  · exact .inl hn
  · exact .inr ⟨g, cap, cur, hv, hg', (hg.block g (Array.getElem?_eq_some_iff.1 hh).1 (block_ne h hh)).trans hh, rest⟩

theorem tok_cells_new (w : World) (x : Tw) : ∀ j u, (cells x)[j]? = some u → (w.alloc (tokO x)).cell? ((⟨w.heap.size, 0, none⟩ : Addr).add j) = some u := fun j u hu => by
  rw [WideShapes.add_plain, Nat.zero_add]
  exact (box_at w x j).trans hu
theorem cells_one (x : Tw) : ∀ u ∈ cells x, u.oneCell' = true := by
  intro u hu
  simp only [cells, List.mem_cons, List.not_mem_nil, or_false] at hu
  rcases hu with rfl | rfl | rfl | rfl | rfl <;> rfl
end Go.Proofs.YtdplbcchkjpcdaaGreatDoor.To

namespace Go.Proofs.YtdplbcchkjpcdaaGreatDoor.Ba
set_option maxRecDepth 100000
set_option linter.unusedSimpArgs false
set_option linter.unusedVariables false
open Go.RowKit
def bc (b : UInt8) : Value := .int .u8 b.toNat
/-- v is a slice of bytes of the call's own that holds l. -/
def OwnB (N : Nat) (w : World) (v : Value) (l : List UInt8) : Prop := w.ownsRow N 5 1 v l.length (l.map bc)
theorem info_u8 : (Tryz.prog.info? 5).map (fun i => (i.zero, i.size, i.bytes)) = some (some (.int .u8 0), 1, 1) := by kernel_rfl
theorem OwnB.alloc {N : Nat} {w : World} {v : Value} {l : List UInt8} (h : OwnB N w v l) (o : Obj) : OwnB N (w.alloc o) v l := World.ownsRow.alloc h o
theorem OwnB.below {N : Nat} {w0 w w' : World} {v : Value} {l : List UInt8} (h : OwnB N w v l) (hg : w.grownBy w' v.ownBlock) (hb : Below N w0 w) (hN : N ≤ w.heap.size) : Below N w0 w' :=
  hb.grown hg hN fun k hk => (h.lt k hk).1
theorem OwnB.keep {N M : Nat} {w w' : World} {v : Value} {l : List UInt8} (h : OwnB N w v l) (hb : Below M w w') (hM : w.heap.size ≤ M := by exact Nat.le_refl _) : OwnB N w' v l := by
  refine ⟨h.1, ?_⟩
  rcases h.2 with hn | ⟨g, cap, cur, hv, hg, hh, rest⟩
  · exact .inl hn
  · refine .inr ⟨g, cap, cur, hv, hg, ?_, rest⟩
    have hlt : g < w.heap.size := (Array.getElem?_eq_some_iff.1 hh).1
    rw [hb.block g (by omega)]
    exact hh
theorem OwnB.made (w : World) : OwnB w.heap.size (w.alloc (.cells #[] 5)) (.slice (some ⟨w.heap.size, 0, none⟩) 0 0) [] :=
  World.ownsRow_made w #[] 0 (Nat.le_refl _) (Nat.zero_le _) rfl
theorem OwnB.string {N : Nat} {w : World} {v : Value} {l : List UInt8} (h : OwnB N w v l) : (convert 74 9 v).run Tryz.prog w = .ok (.string (B l)) w := by
  rcases h.2 with ⟨hv, hl⟩ | ⟨g, cap, cur, hv, hb, hgg, rest⟩
  · have : l = [] := List.eq_nil_of_length_eq_zero hl
    subst this hv
    rw [run_convert_bytes_string w _ _ _ none 0 0 Tryz.underlying74 Tryz.underlying5 Tryz.underlying9]
    rfl
  · subst hv
    exact run_convert_bytes_back w _ _ _ ⟨g, 0, none⟩ cap l Tryz.underlying74 Tryz.underlying5 Tryz.underlying9 fun j hj => World.ownsRow.cells h rfl j _ (by simp [bc, hj])
theorem OwnB.appended {N : Nat} {w : World} {v : Value} {l m : List UInt8} {n : Nat} (h : w.ownsRow N 5 1 v n (l.map bc ++ m.map bc)) (hn : n = l.length + m.length) : OwnB N w v (l ++ m) := by
  unfold OwnB
  rw [List.map_append, List.length_append, ← hn]
  exact h
/-- append of one byte, in a block of its own. -/
theorem app_byte {ops : Array Oper} {rest : List Oper} {o : Oper} {a : Act} {Q : Exit → Act → World → Prop} (w : World) (hgd : o.guard = none) (s x : Operand)
    (ho : o.op = .call { callee := .builtin .append, args := #[s, x], argTypes := #[74, 74] })
    (N : Nat) (v : Value) (l : List UInt8) (y : UInt8) (hs : a.eval s = v) (hown : OwnB N w v l) (hx : a.eval x = .slice (some ⟨w.heap.size, 0, none⟩) 1 1)
    (hl : l.length + 1 ≤ 140737488355328) (hN : N ≤ w.heap.size)
    (h : ∀ v' w', OwnB N w' v' (l ++ [y]) → (∀ w0, Below N w0 w → Below N w0 w') → wpList Tryz.prog ops Q rest (a.put o.dst v') w') :
    wpList Tryz.prog ops Q (o :: rest) a (w.alloc (.cells #[.int .u8 y.toNat] 5)) := by
  obtain ⟨i0, hi, hz0, hz1, hz2⟩ := info_parts info_u8
  have hown' : OwnB N (w.alloc (.cells #[.int .u8 y.toNat] 5)) v l := hown.alloc _
  have hsz : (w.alloc (.cells #[.int .u8 y.toNat] 5)).heap.size = w.heap.size + 1 := by simp
  refine wpList_append_own _ hgd s x 74 ho N 5 i0 (.int .u8 0) 1 1 Tryz.underlying74 hi hz0 hz1 hz2 rfl (by decide) v l.length (l.map bc) hs hown' ⟨w.heap.size, 0, none⟩ 1 1 [.int .u8 y.toNat] hx rfl (cell_one_new _ _ _) (by intro u hu; simp at hu; subst hu; rfl) (by unfold maxLen; omega) (by omega) (by omega) ?_
  intro v' w' ho2 hg2 _
  exact h v' w' (OwnB.appended (m := [y]) ho2 rfl) fun w0 hb => hown'.below hg2 (hb.alloc hN _) (by omega)

theorem strCells_b (s : ByteArray) : Lib.strCells s = (L s).map bc := rfl
/-- append of a string's bytes onto bytes of the call's own. -/
theorem app_strb {ops : Array Oper} {rest : List Oper} {o : Oper} {a : Act} {Q : Exit → Act → World → Prop} (w : World) (hgd : o.guard = none) (s x : Operand)
    (ho : o.op = .call { callee := .builtin .append, args := #[s, x], argTypes := #[74, 9] })
    (N : Nat) (v : Value) (l : List UInt8) (t : ByteArray) (hs : a.eval s = v) (hown : OwnB N w v l) (hx : a.eval x = .string t)
    (hl : l.length + t.size ≤ 140737488355328) (hN : N ≤ w.heap.size)
    (h : ∀ v' w', OwnB N w' v' (l ++ L t) → (∀ w0, Below N w0 w → Below N w0 w') → wpList Tryz.prog ops Q rest (a.put o.dst v') w') :
    wpList Tryz.prog ops Q (o :: rest) a w := by
  obtain ⟨i0, hi, hz0, hz1, hz2⟩ := info_parts info_u8
  refine Lib.wpList_append_own_string _ hgd s x 74 9 ho N 5 i0 Tryz.underlying74 Tryz.underlying9 hi hz0 hz1 hz2 v l.length (l.map bc) hs hown t hx (by unfold maxLen; omega) hl hN ?_
  intro v2 w2 hown2 hgrow2 _
  refine h v2 w2 ?_ fun w0 hb => hown.below hgrow2 hb hN
  rw [strCells_b] at hown2
  exact OwnB.appended hown2 (by rw [size_L])
theorem OwnB.nil (N : Nat) (w : World) : OwnB N w (.slice none 0 0) [] := World.ownsRow_nil w N _ 1

end Go.Proofs.YtdplbcchkjpcdaaGreatDoor.Ba

namespace Go.Proofs.YtdplbcchkjpcdaaGreatDoor.Fo
set_option maxRecDepth 100000
set_option linter.unusedSimpArgs false
set_option linter.unusedVariables false
open Go.RowKit Ba Fm
theorem space_any (c : UInt8) (w : World) :
    Calls Tryz.prog 101 #[.int .u8 c.toNat] w fun e w' => e = .returned (.bool (sp c)) ∧ w = w' := by
  have e9 : ((c.toNat : Int) == 9) = (c == 9) := u8_eq (b := 9)
  have e10 : ((c.toNat : Int) == 10) = (c == 10) := u8_eq (b := 10)
  have e12 : ((c.toNat : Int) == 12) = (c == 12) := u8_eq (b := 12)
  have e13 : ((c.toNat : Int) == 13) = (c == 13) := u8_eq (b := 13)
  have e32 : ((c.toNat : Int) == 32) = (c == 32) := u8_eq (b := 32)
  cases h9 : (c == 9) <;> cases h10 : (c == 10) <;> cases h12 : (c == 12) <;> cases h13 : (c == 13) <;> cases h32 : (c == 32)
  all_goals
    rw [h9] at e9
    rw [h10] at e10
    rw [h12] at e12
    rw [h13] at e13
    rw [h32] at e32
    have H9 := Lib.hid h9; have H10 := Lib.hid h10; have H12 := Lib.hid h12; have H13 := Lib.hid h13; have H32 := Lib.hid h32
    clear h9 h10 h12 h13 h32
    go_enter Tryz.func101, Tryz.ntmps101
    go_wp2
    go_ret
    exact ⟨ret_bool (by unfold sp; rw [H9.out, H10.out, H12.out, H13.out, H32.out]; rfl), rfl⟩

end Go.Proofs.YtdplbcchkjpcdaaGreatDoor.Fo

namespace Go.Proofs.YtdplbcchkjpcdaaGreatDoor.Fo
set_option maxRecDepth 100000
set_option linter.unusedSimpArgs false
set_option linter.unusedVariables false
open Go.RowKit Ba Fm
theorem refSpace_any (c : UInt8) (w : World) :
    Calls Tryz.prog 76 #[.int .u8 c.toNat] w fun e w' => e = .returned (.bool (sp c)) ∧ w = w' := by
  have e9 : ((c.toNat : Int) == 9) = (c == 9) := u8_eq (b := 9)
  have e10 : ((c.toNat : Int) == 10) = (c == 10) := u8_eq (b := 10)
  have e12 : ((c.toNat : Int) == 12) = (c == 12) := u8_eq (b := 12)
  have e13 : ((c.toNat : Int) == 13) = (c == 13) := u8_eq (b := 13)
  have e32 : ((c.toNat : Int) == 32) = (c == 32) := u8_eq (b := 32)
  cases h9 : (c == 9) <;> cases h10 : (c == 10) <;> cases h12 : (c == 12) <;> cases h13 : (c == 13) <;> cases h32 : (c == 32)
  all_goals
    rw [h9] at e9
    rw [h10] at e10
    rw [h12] at e12
    rw [h13] at e13
    rw [h32] at e32
    have H9 := Lib.hid h9; have H10 := Lib.hid h10; have H12 := Lib.hid h12; have H13 := Lib.hid h13; have H32 := Lib.hid h32
    clear h9 h10 h12 h13 h32
    go_enter Tryz.func76, Tryz.ntmps76
    go_wp2
    go_ret
    exact ⟨ret_bool (by unfold sp; rw [H9.out, H10.out, H12.out, H13.out, H32.out]; rfl), rfl⟩

end Go.Proofs.YtdplbcchkjpcdaaGreatDoor.Fo

namespace Go.Proofs.YtdplbcchkjpcdaaGreatDoor.Fo
set_option maxRecDepth 100000
set_option linter.unusedSimpArgs false
set_option linter.unusedVariables false
open Go.RowKit Ba Fm

theorem lowerByte_any (c : UInt8) (w : World) :
    Calls Tryz.prog 118 #[.int .u8 c.toNat] w fun e w' => e = .returned (.int .u8 (low c).toNat) ∧ w = w' := by
  have hc := c.toNat_lt
  by_cases h1 : 65 ≤ c.toNat
  · by_cases h2 : c.toNat ≤ 90
    · have hl : ((low c).toNat : Int) = c.toNat + 32 := by
        unfold low
        rw [if_pos ⟨UInt8.le_iff_toNat_le.2 h1, UInt8.le_iff_toNat_le.2 h2⟩, UInt8.toNat_add]
        simp
        omega
      have HL := Lib.hid hl; clear hl
      go_enter Tryz.func118, Tryz.ntmps118
      go_wp2
      go_ret
      exact ⟨ret_int (by rw [HL.out]; omega), rfl⟩
    · have hl : low c = c := by
        unfold low
        rw [if_neg]
        rintro ⟨_, h⟩
        exact h2 (UInt8.le_iff_toNat_le.1 h)
      have HL := Lib.hid hl; clear hl
      go_enter Tryz.func118, Tryz.ntmps118
      go_wp2
      go_ret
      exact ⟨ret_int (by rw [HL.out]), rfl⟩
  · have hl : low c = c := by
      unfold low
      rw [if_neg]
      rintro ⟨h, _⟩
      exact h1 (UInt8.le_iff_toNat_le.1 h)
    have HL := Lib.hid hl; clear hl
    go_enter Tryz.func118, Tryz.ntmps118
    go_wp2
    go_ret
    exact ⟨ret_int (by rw [HL.out]), rfl⟩

theorem letter_any (c : UInt8) (w : World) :
    Calls Tryz.prog 94 #[.int .u8 c.toNat] w fun e w' => e = .returned (.bool (lr c)) ∧ w = w' := by
  have hc := c.toNat_lt
  have hl := (low c).toNat_lt
  have hv : lr c = (decide ((97 : Int) ≤ (low c).toNat) && decide (((low c).toNat : Int) ≤ 122)) := by
    have hlow : ((low c).toNat : Int) = if 65 ≤ c.toNat ∧ c.toNat ≤ 90 then c.toNat + 32 else c.toNat := by
      unfold low
      have e1 : (65 ≤ c ∧ c ≤ 90) ↔ (65 ≤ c.toNat ∧ c.toNat ≤ 90) := by rw [UInt8.le_iff_toNat_le, UInt8.le_iff_toNat_le]; exact Iff.rfl
      by_cases h : 65 ≤ c.toNat ∧ c.toNat ≤ 90
      · rw [if_pos (e1.2 h), if_pos h, UInt8.toNat_add]; simp; omega
      · rw [if_neg (fun q => h (e1.1 q)), if_neg h]
    unfold lr
    rw [hlow, Bool.eq_iff_iff]
    simp only [Bool.or_eq_true, Bool.and_eq_true, decide_eq_true_eq, UInt8.le_iff_toNat_le]
    have e65 : (65 : UInt8).toNat = 65 := rfl
    have e90 : (90 : UInt8).toNat = 90 := rfl
    have e97 : (97 : UInt8).toNat = 97 := rfl
    have e122 : (122 : UInt8).toNat = 122 := rfl
    rw [e65, e90, e97, e122]
    split <;> omega
  have HV := Lib.hid hv; clear hv hc
  by_cases h1 : (97 : Int) ≤ (low c).toNat
  · by_cases h2 : ((low c).toNat : Int) ≤ 122
    · go_enter Tryz.func94, Tryz.ntmps94
      go_wp2_with (go_at_call 118; refine (lowerByte_any c _).mono ?_; rintro e w' ⟨rfl, rfl⟩)
      go_ret
      exact ⟨ret_bool (by rw [HV.out]; simp [h1, h2]), rfl⟩
    · go_enter Tryz.func94, Tryz.ntmps94
      go_wp2_with (go_at_call 118; refine (lowerByte_any c _).mono ?_; rintro e w' ⟨rfl, rfl⟩)
      go_ret
      exact ⟨ret_bool (by rw [HV.out]; simp [h1, h2]), rfl⟩
  · go_enter Tryz.func94, Tryz.ntmps94
    go_wp2_with (go_at_call 118; refine (lowerByte_any c _).mono ?_; rintro e w' ⟨rfl, rfl⟩)
    go_ret
    exact ⟨ret_bool (by rw [HV.out, decide_eq_false (by omega)]; rfl), rfl⟩

theorem lr_of (c : UInt8) : lr c = ((decide ((65 : Int) ≤ c.toNat) && decide ((c.toNat : Int) ≤ 90)) || (decide ((97 : Int) ≤ c.toNat) && decide ((c.toNat : Int) ≤ 122))) := by
  unfold lr
  rw [Bool.eq_iff_iff]
  simp only [Bool.or_eq_true, Bool.and_eq_true, decide_eq_true_eq, UInt8.le_iff_toNat_le]
  have e65 : (65 : UInt8).toNat = 65 := rfl
  have e90 : (90 : UInt8).toNat = 90 := rfl
  have e97 : (97 : UInt8).toNat = 97 := rfl
  have e122 : (122 : UInt8).toNat = 122 := rfl
  rw [e65, e90, e97, e122]
  omega

theorem refLetter_any (c : UInt8) (w : World) :
    Calls Tryz.prog 73 #[.int .u8 c.toNat] w fun e w' => e = .returned (.bool (lr c)) ∧ w = w' := by
  have HV := Lib.hid (lr_of c)
  have hc := c.toNat_lt
  by_cases h1 : (65 : Int) ≤ c.toNat <;> by_cases h2 : (c.toNat : Int) ≤ 90 <;> by_cases h3 : (97 : Int) ≤ c.toNat <;> by_cases h4 : (c.toNat : Int) ≤ 122
  all_goals
    first
    | omega
    | (go_enter Tryz.func73, Tryz.ntmps73
       go_wp2
       go_ret
       exact ⟨ret_bool (by rw [HV.out]; simp [h1, h2, h3, h4]), rfl⟩)

set_option maxHeartbeats 1000000 in
theorem lower_any (s : ByteArray) (w : World) (hs : s.size ≤ 140737488355328) :
    Calls Tryz.prog 97 #[.string s] w fun e w' => e = .returned (.string (B (lowL (L s)))) ∧ Below w.heap.size w w' := by
  obtain ⟨i0, hi, hz0, hz1, hz2⟩ := info_parts info_u8
  go_enter Tryz.func97, Tryz.ntmps97
  go_wp2_with (at_make; refine wpList_make_own _ rfl (.const (.int .i64 0)) (.tmp 6) 74 rfl w.heap.size 5 i0 (.int .u8 0) 1 Tryz.underlying74 hi hz0 hz1 .i64 .i64 _ s.size rfl rfl rfl (by rw [hz2]; omega) (by unfold maxLen; omega) (Nat.le_refl _) ?_; intro w1 hown hgrow)
  have hb0 : Below w.heap.size w w1 := (Below.refl w.heap.size w).grown hgrow (Nat.le_refl _) (by simp)
  have ho0 : OwnB w.heap.size w1 (.slice (some ⟨w.heap.size, 0, none⟩) 0 s.size) [] := hown
  clear hown hgrow
  go_loopw [3, 10] (fun v i wr => ∃ (k : Nat), i = .int .i64 k ∧ k ≤ s.size ∧ OwnB w.heap.size wr v (lowL ((L s).take k)) ∧ Below w.heap.size w wr) (fun _ i _ => s.size - (intOf i).toNat)
  case atStart => exact ⟨0, rfl, Nat.zero_le _, ho0, hb0⟩
  case round =>
    clear ho0 hb0
    obtain ⟨k, rfl, hks, hown, hbel⟩ := hrel
    have hN := hbel.size
    by_cases hp : k < s.size
    · have hlen : (lowL ((L s).take k)).length + 1 ≤ 140737488355328 := by rw [len_lowL, List.length_take, size_L]; omega
      go_wp2_with (first | (go_at_call 118; refine (lowerByte_any s[k] _).mono ?_; rintro e w' ⟨rfl, rfl⟩) | (at_builtin; refine app_byte wr rfl (.tmp 13) (.tmp 18) rfl w.heap.size _ (lowL ((L s).take k)) (low s[k]) rfl hown rfl hlen hN ?_; intro v2 w2 hown2 hk2))
      go_roundw
      case rel =>
        refine ⟨k + 1, by go_num, by omega, ?_, hk2 _ hbel⟩
        rw [take_snoc s k hp, lowL_append]
        exact hown2
      case measure => simp [intOf]; omega
    · have hcv := hown.string
      go_wp2
      go_ret
      refine ⟨ret_str ?_, hbel⟩
      rw [List.take_of_length_le (by rw [size_L]; omega)]

theorem same_any (a b : ByteArray) (w : World) (ha : a.size ≤ 140737488355328) (hb : b.size ≤ 140737488355328) :
    Calls Tryz.prog 114 #[.string a, .string b] w fun e w' => e = .returned (.bool (decide (lowL (L a) = lowL (L b)))) ∧ Below w.heap.size w w' := by
  go_enter Tryz.func114, Tryz.ntmps114
  go_wp2_with fail
  refine (lower_any a _ ha).mono ?_
  rintro e w1 ⟨rfl, hb1⟩
  go_wp2_with fail
  refine (lower_any b _ hb).mono ?_
  rintro e w2 ⟨rfl, hb2⟩
  go_wp2
  go_ret
  refine ⟨ret_bool ?_, bt hb1 hb2⟩
  rw [eq_of_toList]
  exact decide_eq_decide.2 ⟨B_inj, fun h => by rw [h]⟩

theorem trim_cut (s : ByteArray) (k m : Nat) (hkm : k < m) (hm : m ≤ s.size) : ((L s).drop k).take (m - k) = ((L s).drop k).take (m - 1 - k) ++ [s[m - 1]'(by omega)] := by
  have e : m - k = (m - 1 - k) + 1 := by omega
  rw [e, List.take_succ_eq_append_getElem (by rw [List.length_drop, size_L]; omega)]
  congr 2
  rw [List.getElem_drop]
  have : k + (m - 1 - k) = m - 1 := by omega
  simp only [this]
  rfl

set_option maxHeartbeats 1000000 in
theorem trim_any (s : ByteArray) (w : World) (hs : s.size ≤ 140737488355328) :
    Calls Tryz.prog 59 #[.string s] w fun e w' => e = .returned (.string (B (trimL (L s)))) ∧ w = w' := by
  go_enter Tryz.func59, Tryz.ntmps59
  go_wp2
  go_loop [3] (fun i => ∃ k : Nat, i = .int .i64 k ∧ k ≤ s.size ∧ trimS ((L s).drop k) = trimS (L s)) (fun i => s.size - (intOf i).toNat)
  case atStart => exact ⟨0, rfl, Nat.zero_le _, by simp⟩
  case round =>
    obtain ⟨k, rfl, hks, hc⟩ := hrel
    by_cases hp : k < s.size
    · rw [drop_cons s k hp] at hc
      cases hsp : sp s[k] with
      | true =>
        rw [trimS_sp _ hsp] at hc
        have HC := Lib.hid hc; have HS := Lib.hid hsp; clear hc hsp
        go_wp2_with (go_at_call 101; refine (space_any s[k] _).mono ?_; rw [HS.out]; rintro e w' ⟨rfl, rfl⟩)
        go_round
        case rel => exact ⟨k + 1, by go_num, by omega, HC.out⟩
        case measure => simp [intOf]; omega
      | false =>
        rw [trimS_no _ hsp, ← drop_cons s k hp] at hc
        have HC := Lib.hid hc; have HS := Lib.hid hsp; clear hc hsp
        go_wp2_with (go_at_call 101; refine (space_any s[k] _).mono ?_; rw [HS.out]; rintro e w' ⟨rfl, rfl⟩)
        go_loop [4] (fun i => ∃ m : Nat, i = .int .i64 m ∧ k ≤ m ∧ m ≤ s.size ∧ trimE (((L s).drop k).take (m - k)) = trimE ((L s).drop k)) (fun i => (intOf i).toNat)
        case atStart => exact ⟨s.size, rfl, hks, Nat.le_refl _, by rw [List.take_of_length_le (by rw [List.length_drop, size_L]; omega)]⟩
        case round =>
          obtain ⟨m, rfl, hkm, hms, hd⟩ := hrel
          by_cases hq : k < m
          · have hcut := trim_cut s k m hq hms
            cases hsq : sp (s[m - 1]'(by omega)) with
            | true =>
              rw [hcut, trimE_sp _ hsq] at hd
              have HD := Lib.hid hd; have HQ := Lib.hid hsq; clear hd hsq hcut
              have hm1 : 1 ≤ m := by omega
              obtain ⟨j, rfl⟩ : ∃ j, m = j + 1 := ⟨m - 1, by omega⟩
              go_wp2_with (go_at_call 101; refine (space_any (s[j]'(by omega)) _).mono ?_; rw [show sp (s[j]'(by omega)) = true from HQ.out]; rintro e w' ⟨rfl, rfl⟩)
              go_round
              case rel => exact ⟨j, by go_num, by omega, by omega, HD.out⟩
              case measure => simp [intOf]
            | false =>
              rw [hcut, trimE_no _ hsq, ← hcut] at hd
              have HD := Lib.hid hd; have HQ := Lib.hid hsq; clear hd hsq hcut
              obtain ⟨j, rfl⟩ : ∃ j, m = j + 1 := ⟨m - 1, by omega⟩
              go_wp2_with (go_at_call 101; refine (space_any (s[j]'(by omega)) _).mono ?_; rw [show sp (s[j]'(by omega)) = false from HQ.out]; rintro e w' ⟨rfl, rfl⟩)
              go_ret
              refine ⟨ret_str (B_of ?_), rfl⟩
              rw [L_extract, HD.out, trimL, ← HC.out]
          · have HD := Lib.hid hd; clear hd
            go_wp2
            go_ret
            refine ⟨ret_str (B_of ?_), rfl⟩
            have h1 := HD.out
            obtain rfl : m = k := by omega
            rw [Nat.sub_self, List.take_zero] at h1
            rw [L_extract, Nat.sub_self, List.take_zero, trimL, ← HC.out, ← h1, trimE_nil]
    · have HC := Lib.hid hc; clear hc
      go_wp2
      go_loop [4] (fun i => i = .int .i64 s.size) (fun _ => 0)
      case atStart => exact rfl
      case round =>
        subst hrel
        go_wp2
        go_ret
        refine ⟨ret_str (B_of ?_), rfl⟩
        have h1 := HC.out
        rw [drop_nil s k hp] at h1
        rw [L_extract, drop_nil s k hp, trimL, ← h1]
        simp [trimS_nil, trimE_nil]

/-- Block g holds these bytes, as a string's conversion lays them. -/
def Raw (w : World) (g : Nat) (l : List UInt8) : Prop := ∃ cs : Array Value, w.heap[g]? = some (.cells cs 5 (cs.size, cs.size + 1)) ∧ l.length ≤ cs.size ∧ ∀ j (h : j < l.length), cs[j]? = some (bc l[j])

theorem Raw.cell {w : World} {g : Nat} {l : List UInt8} (h : Raw w g l) (j : Nat) (hj : j < l.length) : w.cell? ⟨g, j, none⟩ = some (.int .u8 (l[j].toNat : Int)) := by
  obtain ⟨cs, hg, _, hc⟩ := h
  rw [cell_of_row w g j cs _ _ hg, hc j hj]
  rfl
theorem Raw.frozen {w : World} {g : Nat} {l : List UInt8} (h : Raw w g l) (j : Nat) (hj : j < l.length) : w.frozen? ⟨g, j, none⟩ = false := by
  obtain ⟨cs, hg, hl, _⟩ := h
  simp [World.frozen?, hg]
  omega
theorem Raw.set {w : World} {g : Nat} {l : List UInt8} (h : Raw w g l) (j : Nat) (y : UInt8) : Raw (w.setCell ⟨g, j, none⟩ (.int .u8 (y.toNat : Int))) g (l.set j y) := by
  obtain ⟨cs, hg, hl, hc⟩ := h
  refine ⟨cs.setIfInBounds j (.int .u8 (y.toNat : Int)), ?_, by simpa using hl, fun i hi => ?_⟩
  · simp [World.setCell, Array.getElem?_modify, hg]
  · rw [List.length_set] at hi
    rw [Array.getElem?_setIfInBounds, List.getElem_set]
    by_cases hij : j = i
    · subst hij
      simp [bc]
      omega
    · simp [hij, hc i hi]
theorem Raw.string {w : World} {g c : Nat} {l : List UInt8} (h : Raw w g l) : (convert 74 9 (.slice (some ⟨g, 0, none⟩) l.length c)).run Tryz.prog w = .ok (.string (B l)) w :=
  run_convert_bytes_back w _ _ _ ⟨g, 0, none⟩ c l Tryz.underlying74 Tryz.underlying5 Tryz.underlying9 fun j hj => by
    rw [WideShapes.add_plain, Nat.zero_add]
    exact h.cell j hj
theorem Raw.new (w : World) (s : ByteArray) : Raw (Lib.bytesWorld w 5 s) w.heap.size (L s) := by
  refine ⟨_, Lib.bytesWorld_at_new w _ s, ?_, fun j hj => ?_⟩
  · unfold Lib.bytesCells
    rw [size_L]
    simp
  · rw [size_L] at hj
    simp [Lib.bytesCells, Array.getElem?_append, hj, bc]
theorem below_bytesWorld (w : World) (s : ByteArray) : Below w.heap.size w (Lib.bytesWorld w 5 s) :=
  ⟨rfl, rfl, rfl, by rw [Lib.bytesWorld_size]; omega, fun k hk => Lib.bytesWorld_at_old w _ s k hk⟩

/-- The bytes, the first k of them in small letters. -/
def lowTo (l : List UInt8) (k : Nat) : List UInt8 := lowL (l.take k) ++ l.drop k
theorem lowTo_len (l : List UInt8) (k : Nat) : (lowTo l k).length = l.length := by
  unfold lowTo
  rw [List.length_append, len_lowL, List.length_take, List.length_drop]
  omega
theorem lowTo_get (l : List UInt8) (k : Nat) (h : k < l.length) (h' : k < (lowTo l k).length) : (lowTo l k)[k] = l[k] := by
  have e : (lowTo l k)[k]? = some l[k] := by
    unfold lowTo
    have e0 : (lowL (l.take k)).length = k := by rw [len_lowL, List.length_take]; omega
    rw [List.getElem?_append_right (by omega), e0, Nat.sub_self, List.getElem?_drop, Nat.add_zero, List.getElem?_eq_getElem h]
  rw [List.getElem?_eq_getElem h'] at e
  exact Option.some.inj e
theorem lowTo_set (l : List UInt8) (k : Nat) (h : k < l.length) : (lowTo l k).set k (low l[k]) = lowTo l (k + 1) := by
  unfold lowTo
  have e0 : (lowL (l.take k)).length = k := by rw [len_lowL, List.length_take]; omega
  rw [List.set_append_right _ _ (by omega), e0, Nat.sub_self, List.take_succ_eq_append_getElem h, lowL_append, List.drop_eq_getElem_cons h, List.set_cons_zero, List.append_assoc]
  rfl
theorem lowTo_same (l : List UInt8) (k : Nat) (h : k < l.length) (hl : low l[k] = l[k]) : lowTo l k = lowTo l (k + 1) := by
  unfold lowTo
  rw [List.take_succ_eq_append_getElem h, lowL_append, List.drop_eq_getElem_cons h]
  simp [lowL, hl]

set_option maxHeartbeats 1000000 in
theorem refLower_any (s : ByteArray) (w : World) (hs : s.size ≤ 140737488355328) :
    Calls Tryz.prog 75 #[.string s] w fun e w' => e = .returned (.string (B (lowL (L s)))) ∧ Below w.heap.size w w' := by
  have hcv := Lib.run_convert_string_bytes (P := Tryz.prog) w 9 74 5 s (u := .string) Tryz.underlying9 Tryz.underlying74 Tryz.underlying5
  have hr0 := Raw.new w s
  have hb0 := below_bytesWorld w s
  generalize Lib.bytesWorld w 5 s = w1 at *
  generalize grownCap w s.size 0 5 = c at *
  go_enter Tryz.func75, Tryz.ntmps75
  go_wp2
  clear hcv
  go_loopw [4] (fun i wr => ∃ (k : Nat), i = .int .i64 k ∧ k ≤ s.size ∧ Raw wr w.heap.size (lowTo (L s) k) ∧ Below w.heap.size w wr) (fun i _ => s.size - (intOf i).toNat)
  case atStart => exact ⟨0, rfl, Nat.zero_le _, hr0, hb0⟩
  case round =>
    clear hr0 hb0
    obtain ⟨k, rfl, hks, hraw, hbel⟩ := hrel
    by_cases hp : k < s.size
    · have hpl : k < (L s).length := by rw [size_L]; exact hp
      have hpl' : k < (lowTo (L s) k).length := by rw [lowTo_len]; exact hpl
      have hcell := hraw.cell k hpl'
      have hfz := hraw.frozen k hpl'
      rw [lowTo_get _ _ hpl] at hcell
      have hcell' : wr.cell? ⟨w.heap.size, k, none⟩ = some (.int .u8 (s[k].toNat : Int)) := hcell
      clear hcell
      have hc := s[k].toNat_lt
      by_cases h1 : (65 : Int) ≤ s[k].toNat
      · by_cases h2 : (s[k].toNat : Int) ≤ 90
        · have hl : ((low s[k]).toNat : Int) = s[k].toNat + 32 := by
            unfold low
            rw [if_pos ⟨UInt8.le_iff_toNat_le.2 (by have e : (65 : UInt8).toNat = 65 := rfl; omega), UInt8.le_iff_toNat_le.2 (by have e : (90 : UInt8).toNat = 90 := rfl; omega)⟩, UInt8.toNat_add]
            simp
            omega
          have hset := hraw.set k (low s[k])
          have hls : (lowTo (L s) k).set k (low s[k]) = lowTo (L s) (k + 1) := lowTo_set (L s) k hpl
          rw [hls, hl] at hset
          have hbs : Below w.heap.size w (wr.setCell ⟨w.heap.size, k, none⟩ (.int .u8 (s[k].toNat + 32))) := hbel.setCell (Nat.le_refl _) _
          have HS := Lib.hid hset; clear hset hl hls
          go_wp2
          go_roundw
          case rel => exact ⟨k + 1, by go_num, by omega, HS.out, hbs⟩
          case measure => simp [intOf]; omega
        · have hl : low s[k] = s[k] := by
            unfold low
            rw [if_neg]
            rintro ⟨_, h⟩
            have := UInt8.le_iff_toNat_le.1 h
            have e : (90 : UInt8).toNat = 90 := rfl
            omega
          have hsame := lowTo_same _ _ hpl hl
          rw [hsame] at hraw
          clear hl hsame
          go_wp2
          go_roundw
          case rel => exact ⟨k + 1, by go_num, by omega, hraw, hbel⟩
          case measure => simp [intOf]; omega
      · have hl : low s[k] = s[k] := by
          unfold low
          rw [if_neg]
          rintro ⟨h, _⟩
          have := UInt8.le_iff_toNat_le.1 h
          have e : (65 : UInt8).toNat = 65 := rfl
          omega
        have hsame := lowTo_same _ _ hpl hl
        rw [hsame] at hraw
        clear hl hsame
        go_wp2
        go_roundw
        case rel => exact ⟨k + 1, by go_num, by omega, hraw, hbel⟩
        case measure => simp [intOf]; omega
    · obtain rfl : k = s.size := by omega
      have hcv := hraw.string (c := c)
      rw [lowTo_len, size_L] at hcv
      go_wp2
      go_ret
      refine ⟨ret_str ?_, hbel⟩
      unfold lowTo
      rw [List.take_of_length_le (by rw [size_L]; exact Nat.le_refl _), List.drop_eq_nil_of_le (by rw [size_L]; exact Nat.le_refl _), List.append_nil]

set_option maxHeartbeats 1000000 in
theorem refTrim_any (s : ByteArray) (w : World) (hs : s.size ≤ 140737488355328) :
    Calls Tryz.prog 81 #[.string s] w fun e w' => e = .returned (.string (B (trimL (L s)))) ∧ w = w' := by
  go_enter Tryz.func81, Tryz.ntmps81
  go_wp2
  go_loop [3] (fun i => ∃ k : Nat, i = .int .i64 k ∧ k ≤ s.size ∧ trimS ((L s).drop k) = trimS (L s)) (fun i => s.size - (intOf i).toNat)
  case atStart => exact ⟨0, rfl, Nat.zero_le _, by simp⟩
  case round =>
    obtain ⟨k, rfl, hks, hc⟩ := hrel
    by_cases hp : k < s.size
    · rw [drop_cons s k hp] at hc
      cases hsp : sp s[k] with
      | true =>
        rw [trimS_sp _ hsp] at hc
        have HC := Lib.hid hc; have HS := Lib.hid hsp; clear hc hsp
        go_wp2_with (go_at_call 76; refine (refSpace_any s[k] _).mono ?_; rw [HS.out]; rintro e w' ⟨rfl, rfl⟩)
        go_round
        case rel => exact ⟨k + 1, by go_num, by omega, HC.out⟩
        case measure => simp [intOf]; omega
      | false =>
        rw [trimS_no _ hsp, ← drop_cons s k hp] at hc
        have HC := Lib.hid hc; have HS := Lib.hid hsp; clear hc hsp
        go_wp2_with (go_at_call 76; refine (refSpace_any s[k] _).mono ?_; rw [HS.out]; rintro e w' ⟨rfl, rfl⟩)
        go_loop [4] (fun i => ∃ m : Nat, i = .int .i64 m ∧ k ≤ m ∧ m ≤ s.size ∧ trimE (((L s).drop k).take (m - k)) = trimE ((L s).drop k)) (fun i => (intOf i).toNat)
        case atStart => exact ⟨s.size, rfl, hks, Nat.le_refl _, by rw [List.take_of_length_le (by rw [List.length_drop, size_L]; omega)]⟩
        case round =>
          obtain ⟨m, rfl, hkm, hms, hd⟩ := hrel
          by_cases hq : k < m
          · have hcut := trim_cut s k m hq hms
            cases hsq : sp (s[m - 1]'(by omega)) with
            | true =>
              rw [hcut, trimE_sp _ hsq] at hd
              have HD := Lib.hid hd; have HQ := Lib.hid hsq; clear hd hsq hcut
              have hm1 : 1 ≤ m := by omega
              obtain ⟨j, rfl⟩ : ∃ j, m = j + 1 := ⟨m - 1, by omega⟩
              go_wp2_with (go_at_call 76; refine (refSpace_any (s[j]'(by omega)) _).mono ?_; rw [show sp (s[j]'(by omega)) = true from HQ.out]; rintro e w' ⟨rfl, rfl⟩)
              go_round
              case rel => exact ⟨j, by go_num, by omega, by omega, HD.out⟩
              case measure => simp [intOf]
            | false =>
              rw [hcut, trimE_no _ hsq, ← hcut] at hd
              have HD := Lib.hid hd; have HQ := Lib.hid hsq; clear hd hsq hcut
              obtain ⟨j, rfl⟩ : ∃ j, m = j + 1 := ⟨m - 1, by omega⟩
              go_wp2_with (go_at_call 76; refine (refSpace_any (s[j]'(by omega)) _).mono ?_; rw [show sp (s[j]'(by omega)) = false from HQ.out]; rintro e w' ⟨rfl, rfl⟩)
              go_ret
              refine ⟨ret_str (B_of ?_), rfl⟩
              rw [L_extract, HD.out, trimL, ← HC.out]
          · have HD := Lib.hid hd; clear hd
            go_wp2
            go_ret
            refine ⟨ret_str (B_of ?_), rfl⟩
            have h1 := HD.out
            obtain rfl : m = k := by omega
            rw [Nat.sub_self, List.take_zero] at h1
            rw [L_extract, Nat.sub_self, List.take_zero, trimL, ← HC.out, ← h1, trimE_nil]
    · have HC := Lib.hid hc; clear hc
      go_wp2
      go_loop [4] (fun i => i = .int .i64 s.size) (fun _ => 0)
      case atStart => exact rfl
      case round =>
        subst hrel
        go_wp2
        go_ret
        refine ⟨ret_str (B_of ?_), rfl⟩
        have h1 := HC.out
        rw [drop_nil s k hp] at h1
        rw [L_extract, drop_nil s k hp, trimL, ← h1]
        simp [trimS_nil, trimE_nil]

end Go.Proofs.YtdplbcchkjpcdaaGreatDoor.Fo

namespace Go.Proofs.YtdplbcchkjpcdaaGreatDoor.Re
set_option maxRecDepth 100000
set_option linter.unusedSimpArgs false
set_option linter.unusedVariables false
open Go.RowKit Ba Rm
theorem str_of (w : World) (l : List UInt8) (k : Nat) (hk : k = l.length) : (convert 74 9 (.slice (some ⟨w.heap.size, 0, none⟩) k k)).run Tryz.prog (w.alloc (.cells (l.map bc).toArray 5)) = .ok (.string (B l)) (w.alloc (.cells (l.map bc).toArray 5)) := by
  subst hk
  refine run_convert_bytes_back _ _ _ _ ⟨w.heap.size, 0, none⟩ l.length l Tryz.underlying74 Tryz.underlying5 Tryz.underlying9 fun j hj => ?_
  rw [WideShapes.add_plain]
  rw [World.cell?_alloc_mark]
  simp [bc, hj]

theorem bc_of (m : Nat) (h : m < 256) (x : Int) (hx : x = m) : Value.int .u8 x = bc (UInt8.ofNat m) := by
  unfold bc
  rw [hx, UInt8.toNat_ofNat', Nat.mod_eq_of_lt h]
theorem str_at (w : World) (l : List UInt8) (cs : Array Value) (k : Nat) (hk : k = l.length) (hc : cs = (l.map bc).toArray) : (convert 74 9 (.slice (some ⟨w.heap.size, 0, none⟩) k k)).run Tryz.prog (w.alloc (.cells cs 5)) = .ok (.string (B l)) (w.alloc (.cells cs 5)) := by
  rw [hc]
  exact str_of w l k hk
theorem below_new (w : World) (o : Obj) : Below w.heap.size w (w.alloc o) := (Below.refl _ _).alloc (Nat.le_refl _) _

set_option maxRecDepth 100000 in
theorem char1 (n : Nat) (h : n < 128) (w : World) : Calls Tryz.prog 132 #[.int .i64 n] w fun e w' => e = .returned (.string (B (enc n))) ∧ Below w.heap.size w w' := by
  have hcv := str_at w (enc n) #[.int .u8 (n : Int)] 1 (by simp [enc, h]) (by rw [bc_of n (by omega) n rfl]; simp [enc, h])
  go_enter Tryz.func132, Tryz.ntmps132
  go_wp2
  go_ret
  exact ⟨rfl, below_new _ _⟩
set_option maxRecDepth 100000 in
theorem char2 (n : Nat) (h0 : ¬ n < 128) (h : n < 2048) (w : World) : Calls Tryz.prog 132 #[.int .i64 n] w fun e w' => e = .returned (.string (B (enc n))) ∧ Below w.heap.size w w' := by
  have hcv := str_at w (enc n) #[.int .u8 (192 + (n : Int) / 64), .int .u8 (128 + (n : Int) % 64)] 2 (by simp [enc, h0, h]) (by rw [bc_of (192 + n / 64) (by omega) _ (by omega), bc_of (128 + n % 64) (by omega) _ (by omega)]; simp [enc, h0, h])
  go_enter Tryz.func132, Tryz.ntmps132
  go_wp2
  go_ret
  exact ⟨rfl, below_new _ _⟩
set_option maxRecDepth 100000 in
set_option maxHeartbeats 400000 in
theorem char3 (n : Nat) (h0 : ¬ n < 128) (h1 : ¬ n < 2048) (h : n < 65536) (w : World) : Calls Tryz.prog 132 #[.int .i64 n] w fun e w' => e = .returned (.string (B (enc n))) ∧ Below w.heap.size w w' := by
  obtain ⟨a, ha⟩ : ∃ a : Nat, (n : Int) / 64 = a := ⟨n / 64, by omega⟩
  have hcv := str_at w (enc n) #[.int .u8 (224 + (n : Int) / 4096), .int .u8 (128 + (a : Int) % 64), .int .u8 (128 + (n : Int) % 64)] 3 (by simp [enc, h0, h1, h]) (by rw [bc_of (224 + n / 4096) (by omega) _ (by omega), bc_of (128 + n / 64 % 64) (by omega) _ (by omega), bc_of (128 + n % 64) (by omega) _ (by omega)]; simp [enc, h0, h1, h])
  have k0 : ¬ (n : Int) < 128 := by omega
  have k1 : ¬ (n : Int) < 2048 := by omega
  have k2 : (n : Int) < 65536 := by omega
  clear h0 h1 h
  go_enter Tryz.func132, Tryz.ntmps132
  go_wp2
  go_ret
  exact ⟨rfl, below_new _ _⟩
set_option maxRecDepth 100000 in
set_option maxHeartbeats 400000 in
theorem char4 (n : Nat) (h0 : ¬ n < 128) (h1 : ¬ n < 2048) (h2 : ¬ n < 65536) (h : n < 1114112) (w : World) : Calls Tryz.prog 132 #[.int .i64 n] w fun e w' => e = .returned (.string (B (enc n))) ∧ Below w.heap.size w w' := by
  obtain ⟨a, ha⟩ : ∃ a : Nat, (n : Int) / 64 = a := ⟨n / 64, by omega⟩
  obtain ⟨b, hb⟩ : ∃ b : Nat, (n : Int) / 4096 = b := ⟨n / 4096, by omega⟩
  have hcv := str_at w (enc n) #[.int .u8 (240 + (n : Int) / 262144), .int .u8 (128 + (b : Int) % 64), .int .u8 (128 + (a : Int) % 64), .int .u8 (128 + (n : Int) % 64)] 4 (by simp [enc, h0, h1, h2]) (by rw [bc_of (240 + n / 262144) (by omega) _ (by omega), bc_of (128 + n / 4096 % 64) (by omega) _ (by omega), bc_of (128 + n / 64 % 64) (by omega) _ (by omega), bc_of (128 + n % 64) (by omega) _ (by omega)]; simp [enc, h0, h1, h2])
  have k0 : ¬ (n : Int) < 128 := by omega
  have k1 : ¬ (n : Int) < 2048 := by omega
  have k2 : ¬ (n : Int) < 65536 := by omega
  have k3 : (n : Int) < 1114112 := by omega
  clear h0 h1 h2 h
  go_enter Tryz.func132, Tryz.ntmps132
  go_wp2
  go_ret
  exact ⟨rfl, below_new _ _⟩
theorem char_any (n : Nat) (h : n < 1114112) (w : World) : Calls Tryz.prog 132 #[.int .i64 n] w fun e w' => e = .returned (.string (B (enc n))) ∧ Below w.heap.size w w' := by
  by_cases h0 : n < 128
  · exact char1 n h0 w
  by_cases h1 : n < 2048
  · exact char2 n h0 h1 w
  by_cases h2 : n < 65536
  · exact char3 n h0 h1 h2 w
  · exact char4 n h0 h1 h2 h w

theorem refCode_any (n : Int) (w : World) : Calls Tryz.prog 122 #[.int .i64 n] w fun e w' => e = .returned (.string (B (code n))) ∧ Below w.heap.size w w' := by
  by_cases hb : n < 1 ∨ 1114111 < n ∨ (55296 ≤ n ∧ n ≤ 57343)
  · have hc : code n = enc 65533 := by
      have : bad n = true := by unfold bad; rcases hb with h | h | ⟨h1, h2⟩ <;> simp [*]
      unfold code
      rw [if_pos this]
      decide
    rw [hc]
    rcases hb with h | h | ⟨h1, h2⟩
    all_goals
      go_enter Tryz.func122, Tryz.ntmps122
      go_wp2_with fail
      refine (char_any 65533 (by omega) w).mono ?_
      rintro e w1 ⟨rfl, hb1⟩
      go_wp2
      go_ret
      exact ⟨rfl, hb1⟩
  · have hbad : bad n = false := by
      unfold bad
      simp only [Bool.or_eq_false_iff, decide_eq_false_iff_not, Bool.and_eq_false_iff]
      omega
    by_cases h13 : n = 13
    · subst h13
      go_enter Tryz.func122, Tryz.ntmps122
      go_wp2_with fail
      refine (char_any 10 (by omega) w).mono ?_
      rintro e w1 ⟨rfl, hb1⟩
      go_wp2
      go_ret
      exact ⟨rfl, hb1⟩
    · obtain ⟨m, rfl⟩ : ∃ m : Nat, n = m := ⟨n.toNat, by omega⟩
      have hc : code m = enc m := by
        unfold code
        rw [hbad, if_neg (by simp), if_neg h13]
        rfl
      rw [hc]
      clear hc hbad
      have h1 : ¬ (m : Int) < 1 := by omega
      have h2 : ¬ 1114111 < (m : Int) := by omega
      by_cases h3 : 55296 ≤ (m : Int)
      · have h4 : ¬ (m : Int) ≤ 57343 := by omega
        clear hb
        go_enter Tryz.func122, Tryz.ntmps122
        go_wp2_with fail
        refine (char_any m (by omega) w).mono ?_
        rintro e w1 ⟨rfl, hb1⟩
        go_wp2
        go_ret
        exact ⟨rfl, hb1⟩
      · clear hb
        go_enter Tryz.func122, Tryz.ntmps122
        go_wp2_with fail
        refine (char_any m (by omega) w).mono ?_
        rintro e w1 ⟨rfl, hb1⟩
        go_wp2
        go_ret
        exact ⟨rfl, hb1⟩

theorem valid_of (m : Nat) (h : m < 1114112) (hs : ¬ (55296 ≤ m ∧ m ≤ 57343)) : Utf8.valid (m : Int) = true := by
  unfold Utf8.valid
  simp only [Bool.or_eq_true, Bool.and_eq_true, decide_eq_true_eq]
  omega
theorem enc_eq (m : Nat) (h : m < 1114112) (hs : ¬ (55296 ≤ m ∧ m ≤ 57343)) : Utf8.encode (m : Int) = B (enc m) := by
  have hv := valid_of m h hs
  unfold Utf8.encode enc
  rw [hv]
  simp only [if_true, Int.toNat_natCast]
  clear hv h hs
  by_cases h0 : m < 128
  · rw [if_pos h0, if_pos h0]; rfl
  by_cases h1 : m < 2048
  · rw [if_neg h0, if_pos h1, if_neg h0, if_pos h1]; rfl
  by_cases h2 : m < 65536
  · rw [if_neg h0, if_neg h1, if_pos h2, if_neg h0, if_neg h1, if_pos h2]; rfl
  · rw [if_neg h0, if_neg h1, if_neg h2, if_neg h0, if_neg h1, if_neg h2]; rfl

theorem code_any (n : Int) (w : World) (hn : (Lit.int .i64 n).wf = true) : Calls Tryz.prog 127 #[.int .i64 n] w fun e w' => e = .returned (.string (B (code n))) ∧ w = w' := by
  by_cases hb : n < 1 ∨ 1114111 < n ∨ (55296 ≤ n ∧ n ≤ 57343)
  · have hc : code n = [239, 191, 189] := by
      have : bad n = true := by unfold bad; rcases hb with h | h | ⟨h1, h2⟩ <;> simp [*]
      unfold code
      rw [if_pos this]
    rw [hc]
    rcases hb with h | h | ⟨h1, h2⟩
    all_goals
      go_enter Tryz.func127, Tryz.ntmps127
      go_wp2
      go_ret
      exact ⟨rfl, rfl⟩
  · have hbad : bad n = false := by
      unfold bad
      simp only [Bool.or_eq_false_iff, decide_eq_false_iff_not, Bool.and_eq_false_iff]
      omega
    by_cases h13 : n = 13
    · subst h13
      go_enter Tryz.func127, Tryz.ntmps127
      go_wp2
      go_ret
      exact ⟨rfl, rfl⟩
    · obtain ⟨m, rfl⟩ : ∃ m : Nat, n = m := ⟨n.toNat, by omega⟩
      have hc : code m = enc m := by
        unfold code
        rw [hbad, if_neg (by simp), if_neg h13]
        rfl
      rw [hc, ← enc_eq m (by omega) (by omega)]
      clear hc hbad hn
      have h1 : ¬ (m : Int) < 1 := by omega
      have h2 : ¬ 1114111 < (m : Int) := by omega
      by_cases h3 : 55296 ≤ (m : Int)
      · have h4 : ¬ (m : Int) ≤ 57343 := by omega
        clear hb
        go_enter Tryz.func127, Tryz.ntmps127
        go_wp2
        go_ret
        exact ⟨rfl, rfl⟩
      · clear hb
        go_enter Tryz.func127, Tryz.ntmps127
        go_wp2
        go_ret
        exact ⟨rfl, rfl⟩

end Go.Proofs.YtdplbcchkjpcdaaGreatDoor.Re
