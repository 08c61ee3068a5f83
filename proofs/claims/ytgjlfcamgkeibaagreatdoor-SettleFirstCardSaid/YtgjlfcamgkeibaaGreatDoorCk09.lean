/-
  Walks of stage 7: start of the builder.
  Stage 7, in plain words: joined rows have no more attributes each, and the same text; nothing of the program.
  Walks of stage 7: take of the builder; Tree, In, Parse.
  Walks of stage 1: chars.Count, chars.startsReplaced, chars.Sample: each returns what the plain function of CharsSpec says, for every string.
  Walks of stage 1: chars.Decode, chars.Lines, chars.Ready: each returns the string that the plain function of CharsSpec says, where that string and the argument have at most 2^47 bytes.
  Walks of stage 1: chars.Lines, chars.Ready: each returns the string that the plain function of CharsSpec says, where that string and the argument have at most 2^47 bytes.
  Walks of stage 7: In, Parse.
  Stage 8, in plain words: what is written of clean trees is ready.
  Stage 8, in plain words: what is cut of clean bytes is clean.
  Stage 8, in plain words: what is parsed comes back.
  Stage 8, in plain words: how long what was parsed is, written.
  Plain mathematics of stage 14: trees filtered, written and parsed, round by round. It speaks of no program.
  Walks of stage 7: In and Parse of as many bytes as there may be.
  Walks of stage 14: written and parsed again; Stable.
  Configurations in memory: what a slice of api.Per reads as, a configuration as a value, and in a box.
  Slices of api.Per of the call's own: what they hold, what is kept where another one grows, append.
-/
import Derived.Test.YtgjlfcamgkeibaaGreatDoorCk08
import Derived.Test.YtgjlfcamgkeibaaGreatDoorRows
import Derived.Test.YtgjlfcamgkeibaaGreatDoorCk03
import Derived.WalkKit
import Derived.WalkSpells
import Derived.Lib.OthersKept
import Derived.Lib.Hide
import Derived.Lib.Strings
import Derived.OpenShut
import Derived.WalkLawsBesides
import Derived.Lib.AppendStr
import Derived.WalkSmall
import Derived.Laws.IdiomStrings
import Derived.Test.YtgjlfcamgkeibaaGreatDoorCk06
import Derived.Test.YtgjlfcamgkeibaaGreatDoorCk07
import Derived.Test.YtgjlfcamgkeibaaGreatDoorCk02
import Derived.Deep.MidRow
import Derived.BigQuiet
import Derived.Deep.QuietTactic
namespace Go.Proofs.YtgjlfcamgkeibaaGreatDoor.Bu
set_option maxRecDepth 100000
set_option linter.unusedVariables false
set_option linter.unusedSimpArgs false
open Go.RowKit Ba Fm Fo Nm Bm
open Ro (At Ro Cw ros Fr Ow Att Ap Rr Sh Ra acells len_acells cells len_cells rowV rowO info_row info_attr below_new len_ros ros_append)
open Tm (Tk put)
open To (Tw Aw tokV tokO tks)
theorem step_app_str {ops : Array Oper} {o : Oper} {a : Act} {K : Act → World → Prop} {Q : Exit → Act → World → Prop} {E : Prop} (W : World) (hgd : o.guard = none) (s x : Operand)
    (ho : o.op = .call { callee := .builtin .append, args := #[s, x], argTypes := #[23, 23] })
    (W0 : World) (N : Nat) (v : Value) (l : List ByteArray) (z : ByteArray) (hr : Sown N W0 v l) (hg : W0.grownBy W none) (hN : N ≤ W0.heap.size) (hl : l.length ≤ 2000000)
    (hs : a.eval s = v) (g0 : Nat) (hx : a.eval x = .slice (some ⟨g0, 0, none⟩) 1 1) (hz : W.heap[g0]? = some (.cells #[.string z] 9))
    (h : ∀ g cap w', w'.ownsRow N 9 1 (.slice (some ⟨g, 0, none⟩) (l.length + 1) cap) (l.length + 1) (l.map sc ++ [.string z]) → W0.grownBy w' v.ownBlock → K (a.put o.dst (.slice (some ⟨g, 0, none⟩) (l.length + 1) cap)) w') :
    if Region.wanted o (yielded ops a.tmps) = true then Oper.wp Tryz.prog o a W K Q else E := by
  obtain ⟨i0, hi, hz0, hz1, hz2⟩ := info_parts info_str
  have hown : W.ownsRow N 9 1 v l.length (l.map sc) := World.ownsRow.kept hr hg (by cases hv : v.ownBlock with
    | none => exact .inl rfl
    | some k => right; simp)
  refine step_append_lies W hgd s x 23 ho N 9 i0 _ 1 16 Tryz.underlying23 hi hz0 hz1 hz2 rfl (by decide) v l.length (l.map sc) hs hown ⟨g0, 0, none⟩ 1 1 [.string z] hx rfl (fun j u hu => World.news_of_block hz j u hu) (by simp [Value.oneCell']) (by decide) (by unfold maxLen; omega) (by omega) (Nat.le_trans hN hg.size) _ rfl ?_
  intro g cap w1 h1 h2 _ _
  exact h g cap w1 h1 ⟨h2.os.trans hg.os, h2.tape.trans hg.tape, h2.output.trans hg.output, Nat.le_trans hg.size h2.size, fun i hi hne => (h2.block i (Nat.lt_of_lt_of_le hi hg.size) hne).trans (hg.block i hi (by simp))⟩

theorem Bc.overS {N : Nat} {w w' : World} {b : Nat} {vo vr : Value} {n : Int} {big : Bool} {o : List ByteArray} (h : Bc w b vo vr n big) (hr : Sown N w vo o) (hg : w.grownBy w' vo.ownBlock) : Bc w' b vo vr n big := (hg.block b h.lt (fun e => own_ne hr h (by decide) e.symm)).trans h
theorem Bg.push {N : Nat} {w w1 : World} {b : Nat} {vo vr v' : Value} {o : List ByteArray} {l : List Cw} {z : ByteArray} {n : Int} {big : Bool} (hc : Bc w b vo vr n big) (ho : Sown N w vo o) (hr : Or N w vr l) (hN : N ≤ b)
    (h1 : w1.ownsRow N 9 1 v' (o.length + 1) (o.map sc ++ [.string z])) (hg : w.grownBy w1 vo.ownBlock) :
    Bg N (w1.setCell ⟨b, 0, none⟩ v') b (o ++ [z]) l n big ∧ ∀ w0, Below N w0 w → Below N w0 (w1.setCell ⟨b, 0, none⟩ v') := by
  have hrc : Bc w1 b vo vr n big := Bc.overS hc ho hg
  have hor : Or N w1 vr l := hr.apart ho hg (by decide) (by decide)
  have hs : Sown N w1 v' (o ++ [z]) := Sown.appended (m := [z]) h1 rfl
  have hgs := g_set w1 b 0 v'
  refine ⟨⟨v', vr, hrc.set0 v', Sown.keptB hs hgs hrc (by decide), hor.kept hgs hrc (by decide) (by decide), hN⟩, fun w0 h0 => ?_⟩
  have hlt := hc.lt
  exact (h0.grown hg (by omega) fun k hk => (World.ownsRow.lt ho k hk).1).setCell hN _

theorem leftOpen1 (V : Value) (l : List ByteArray) (n : ByteArray) (w : World) (hm : l.length ≤ 1000000) (A : Option Addr) (c : Nat) (hV : V = .slice A l.length c) (hc : l.length ≤ c) (hr : Rd w w.heap.size A l) :
    Calls Tryz.prog 206 #[V, .string n] w fun e w' => ∃ k : Nat, e = .returned (.slice A k c) ∧ k ≤ l.length ∧ (l.take k).reverse = openedS n l.reverse ∧ Below w.heap.size w w' := by
  subst hV
  exact leftOpen_any A c l n w hm hc hr

theorem start_no (b : Nat) (x : Tw) (w : World) (h : noName x.tk.name = true) :
    Calls Tryz.prog 170 #[bp b, tokV x] w fun e w' => e = .returned (.tuple #[]) ∧ Below w.heap.size w w' := by
  go_enter Tryz.func170, Tryz.ntmps170
  go_wp2_with fail
  refine (passedOver_any x.tk.name _ true h).mono ?_
  rintro e w1 ⟨rfl, b1⟩
  go_wp2
  first | go_end0 | refine bodyPost_ret (results_none rfl _ _ _) rfl ?_
  exact ⟨rfl, bt (below_new w _) b1⟩

def startS (st : St) (n : ByteArray) (at_ : List At) : St := ⟨if isIn n voidL = true then openedS n st.stk else n :: openedS n st.stk, st.out ++ [⟨(openedS n st.stk).length, 0, n, ⟨#[]⟩, once at_⟩]⟩

set_option maxRecDepth 100000 in
set_option maxHeartbeats 4000000 in
theorem start_any (N b m T : Nat) (st : St) (x : Tw) (w : World) (h : Bt N w b st false m T) (hx : To.Att w N x) (hm : m < 1000000) (hal : x.tk.attrs.length ≤ 1000000) (h1 : noName x.tk.name = false) :
    Calls Tryz.prog 170 #[bp b, tokV x] w fun e w' => e = .returned (.tuple #[]) ∧ Bt N w' b (startS st x.tk.name x.tk.attrs) (tooBig (startS st x.tk.name x.tk.attrs).out) (m + 1) T ∧ Below N w w' := by
  have hNz := h.n
  go_enter Tryz.func170, Tryz.ntmps170
  go_wp2_with fail
  refine (passedOver_any x.tk.name _ false h1).mono ?_
  rintro e w2 ⟨rfl, b2⟩
  obtain ⟨hb2, hB2⟩ := h.below (bt (below_new w _) b2)
  have hbox : w2.heap[w.heap.size]? = some (tokO x) := (b2.block w.heap.size (by simp)).trans (World.alloc_heap_new _ _)
  have HX := Lib.hid hx
  clear h hx b2
  obtain ⟨⟨l, ⟨vo, vr, hc, ho, hr, hN⟩, hf, hn, hl, ht, hxl⟩, hsm⟩ := hb2
  obtain ⟨so, hso⟩ : ∃ so, st.stk.reverse = so := ⟨_, rfl⟩
  have hsl : so.length = st.stk.length := by rw [← hso, List.length_reverse]
  have hsr : so.reverse = st.stk := by rw [← hso, List.reverse_reverse]
  rw [hso] at ho
  obtain ⟨Ao, co, hv, hco, _, hro⟩ := ho.form
  subst hv
  have c0 := hc.c0; have f0 := hc.f 0; have hz := hc.lt
  have hol : so.length ≤ 1000000 := by omega
  have y1 : w2.cell? ⟨w.heap.size, 1, none⟩ = some (.string x.tk.name) := by rw [cell_of_row w2 w.heap.size 1 _ _ _ hbox]; rfl
  have hgz : w.heap.size < w2.heap.size := (Array.getElem?_eq_some_iff.1 hbox).1
  have hne : w.heap.size ≠ b := by omega
  have HC := Lib.hid hc; have HO := Lib.hid ho; have HR := Lib.hid hr; have HRO := Lib.hid hro; have HBX := Lib.hid hbox; have HBW := Lib.hid hB2; have HSR := Lib.hid hsr; have HSL := Lib.hid hsl
  have HREST := Lib.hid (show full (ros l) ∧ Ro.normal (ros l) = st.out ∧ l.length ≤ m ∧ (Ro.txt (ros l)).length ≤ T ∧ (∀ y ∈ l, y.ro.attrs.length ≤ 1000000 ∧ 0 ≤ y.ro.depth ∧ y.ro.depth ≤ 1000000) ∧ st.stk.length ≤ m from ⟨hf, hn, hl, ht, hxl, hsm⟩)
  clear hc ho hr hro hbox hB2 hsr hsl hf hn hl ht hxl hsm hso h1
  go_upto_region 2 with (fail)
  go_cut [3] from 7 to 16 (fun s3 wx => s3 = .pointer (some ⟨w.heap.size, 0, none⟩) ∧ ∃ k : Nat, k ≤ so.length ∧ (so.take k).reverse = openedS x.tk.name st.stk ∧ Bc wx b (.slice Ao k co) vr (st.out.length : Nat) false ∧ Sown N wx (.slice Ao k co) (so.take k) ∧ Or N wx vr l ∧ Below N w wx ∧ wx.heap[w.heap.size]? = some (tokO x))
  case first =>
    go_region_law (go_simp; go_at_call 206; refine (leftOpen1 _ so x.tk.name w2.drew hol Ao co rfl hco HRO.out).mono ?_; rintro e w3 ⟨k, rfl, hk, hop, b3⟩; have hb3 : Below w2.heap.size w2 w3 := bt (show Below w2.heap.size w2 w2.drew from below_dN (Below.refl _ _) 1) b3; have hc3 := HC.out.below hb3; have c3 := hc3.c0; have f3 := hc3.f 0; have HC3 := Lib.hid hc3; have HB3 := Lib.hid hb3; have HOP := Lib.hid hop; clear hc3 b3 hb3 hop)
    all_goals go_wp2_with fail
    all_goals go_meet
    all_goals
      have hgs := g_set w3 b 0 (.slice Ao k co)
      have ho3 := HO.out.below HB3.out (Nat.le_refl _)
      refine ⟨rfl, k, hk, by rw [HOP.out, HSR.out], HC3.out.set0 _, Sown.keptB (Sown.cut ho3 hk) hgs HC3.out (by decide), (HR.out.below HB3.out).kept hgs HC3.out (by decide) (by decide), (HBW.out.trans (HB3.out.mono (by omega))).setCell hN _, ?_⟩
      rw [hgs.block _ (Nat.lt_of_lt_of_le hgz HB3.out.size) (by simpa using hne)]
      exact (HB3.out.block _ hgz).trans HBX.out
  case rest =>
  obtain ⟨rfl, k, hk, hop, hc, ho, hr, hBW, hbox⟩ := hcut
  rename World => w4
  obtain ⟨hf, hn, hl, ht, hxl, hsm⟩ := HREST.out
  have hkl : (so.take k).length = k := by rw [List.length_take]; omega
  have hok : (openedS x.tk.name st.stk).length = k := by rw [← hop, List.length_reverse, hkl]
  have hks : k ≤ m := by have := HSL.out; omega
  have hbt : Bt N w4 b ⟨openedS x.tk.name st.stk, st.out⟩ false m T := ⟨⟨l, ⟨_, vr, hc, by show Sown N w4 _ (openedS x.tk.name st.stk).reverse; rw [← hop, List.reverse_reverse]; exact ho, hr, hN⟩, hf, hn, hl, ht, hxl⟩, by show (openedS x.tk.name st.stk).length ≤ m; omega⟩
  have hx4 : To.Att w4 N x := HX.out.below hBW
  have hb4 := hbt.n.2
  have z1 : w4.cell? ⟨w.heap.size, 1, none⟩ = some (.string x.tk.name) := by rw [cell_of_row w4 w.heap.size 1 _ _ _ hbox]; rfl
  have z3 : w4.cell? ⟨w.heap.size, 3, none⟩ = some (.slice x.A x.tk.attrs.length x.c) := by rw [cell_of_row w4 w.heap.size 3 _ _ _ hbox]; rfl
  have hg4 : w.heap.size < w4.heap.size := (Array.getElem?_eq_some_iff.1 hbox).1
  have hol2 := once_len x.tk.attrs
  have HKM := Lib.hid (show (openedS x.tk.name st.stk).length ≤ m from by omega)
  have HBT := Lib.hid hbt; have HX4 := Lib.hid hx4; have HBX4 := Lib.hid hbox; have HBW4 := Lib.hid hBW
  clear hbt hx4 hbox hBW hc ho hr hop hkl hok hf hn hl ht hxl hsm hks c0 f0 y1
  clear HREST HSL HSR HC HO HR HRO HBX HBW HX
  go_upto_region 3 with (fail)
  obtain ⟨ro, hro⟩ : ∃ ro, addRow st.out ⟨((openedS x.tk.name st.stk).length : Nat), 0, x.tk.name, ⟨#[]⟩, once x.tk.attrs⟩ = ro := ⟨_, rfl⟩
  go_cut [3] from 17 to 24 (fun s3 wx => s3 = .pointer (some ⟨w.heap.size, 0, none⟩) ∧ Bt N wx b ⟨openedS x.tk.name st.stk, ro⟩ (tooBig ro) (m + 1) T ∧ Below N w wx ∧ wx.heap[w.heap.size]? = some (tokO x))
  case first =>
    go_region_held3 (fun w' => w'.cell? ⟨w.heap.size, 1, none⟩ = some (.string x.tk.name) ∧ w'.cell? ⟨w.heap.size, 3, none⟩ = some (.slice x.A x.tk.attrs.length x.c)) (first | exact ⟨e1, e3⟩ | exact ⟨d1, d3⟩ | exact ⟨z1, z3⟩ | go_keep) (first
      | (go_at_call 169; refine (add_bt N b m T ⟨openedS x.tk.name st.stk, st.out⟩ false ⟨⟨0, 0, x.tk.name, ⟨#[]⟩, once x.tk.attrs⟩, A5, c5⟩ w5 _ rfl HBT5.out HAW.out hm (by simp) (by show (once x.tk.attrs).length ≤ 1000000; omega) 0 (by simp)).mono ?_; rintro e w6 ⟨rfl, h6, b6, k6⟩; have hbx6 := (k6 _ _ _ HBX5.out).trans HBX5.out; have e1 : w6.cell? ⟨w.heap.size, 1, none⟩ = some (.string x.tk.name) := (cell_of_row w6 w.heap.size 1 _ _ _ hbx6).trans rfl; have e3 : w6.cell? ⟨w.heap.size, 3, none⟩ = some (.slice x.A x.tk.attrs.length x.c) := (cell_of_row w6 w.heap.size 3 _ _ _ hbx6).trans rfl; have HBX6 := Lib.hid hbx6; have H6 := Lib.hid h6; have HBW6 := Lib.hid (HBW5.out.trans b6); clear hbx6 h6 b6 k6)
      | (go_at_call 207; refine (firsts_any x.A x.c x.tk.attrs w4.drew (HX4.out.2.2.2.1.more (by have := hNz.1; show N ≤ w4.heap.size; omega)) HX4.out.2.2.2.2 HX4.out.1 hal).mono ?_; rintro e w5 ⟨v5, rfl, haw, b5⟩; obtain ⟨A5, c5, rfl⟩ := haw.form; have hb5 : Below w4.heap.size w4 w5 := bt (show Below w4.heap.size w4 w4.drew from below_dN (Below.refl _ _) 1) b5; have hbx5 := (hb5.block _ hg4).trans HBX4.out; have d1 : w5.cell? ⟨w.heap.size, 1, none⟩ = some (.string x.tk.name) := (cell_of_row w5 w.heap.size 1 _ _ _ hbx5).trans rfl; have d3 : w5.cell? ⟨w.heap.size, 3, none⟩ = some (.slice x.A x.tk.attrs.length x.c) := (cell_of_row w5 w.heap.size 3 _ _ _ hbx5).trans rfl; have hbt5 := HBT.out.below hb5; have haw5 : Fr N w5 ⟨⟨0, 0, x.tk.name, ⟨#[]⟩, once x.tk.attrs⟩, A5, c5⟩ := ⟨World.ownsRow.mono haw.1 (by have := hNz.1; show N ≤ w4.heap.size; omega), haw.2⟩; have HBX5 := Lib.hid hbx5; have HBT5 := Lib.hid hbt5.1; have HAW := Lib.hid haw5; have HBW5 := Lib.hid (HBW4.out.trans hbt5.2); clear hbx5 hbt5 haw5 haw hb5 b5))
    all_goals go_wp2_with fail
    all_goals go_meet
    all_goals
      refine ⟨rfl, ?_, HBW6.out, HBX6.out⟩
      rw [← hro]
      exact H6.out
  case rest =>
  obtain ⟨rfl, hbt, hBW, hbox⟩ := hcut
  rename World => w7
  have hst : startS st x.tk.name x.tk.attrs = ⟨if isIn x.tk.name voidL = true then openedS x.tk.name st.stk else x.tk.name :: openedS x.tk.name st.stk, ro⟩ := by
    unfold startS
    rw [← hro]
    rfl
  have z1' : w7.cell? ⟨w.heap.size, 1, none⟩ = some (.string x.tk.name) := (cell_of_row w7 w.heap.size 1 _ _ _ hbox).trans rfl
  have HBX7 := Lib.hid hbox; have HB7 := Lib.hid hbt; have HBW7 := Lib.hid hBW; have HST := Lib.hid hst
  clear z1 z3 hbox hbt hBW hst hro HBT HX4 HBX4 HBW4
  cases hv : isIn x.tk.name voidL with
  | true =>
    go_wp2_with fail
    refine (void1 x.tk.name w7 true hv).mono ?_
    rintro e w8 ⟨rfl, b8⟩
    obtain ⟨h8, hB8⟩ := HB7.out.below b8
    have H8 := Lib.hid h8; have HB8 := Lib.hid (HBW7.out.trans hB8)
    clear h8 hB8 b8 z1'
    go_wp2
    first | go_end0 | refine bodyPost_ret (results_none rfl _ _ _) rfl ?_
    rw [HST.out, if_pos hv]
    exact ⟨rfl, H8.out, HB8.out⟩
  | false =>
    go_wp2_with fail
    refine (void1 x.tk.name w7 false hv).mono ?_
    rintro e w8 ⟨rfl, b8⟩
    obtain ⟨h8, hB8⟩ := HB7.out.below b8
    have hbx8 := (b8.block _ (Array.getElem?_eq_some_iff.1 HBX7.out).1).trans HBX7.out
    obtain ⟨⟨l, ⟨vo, vr, hc, ho, hr, hN⟩, hf, hn, hl, ht, hxl⟩, hsm⟩ := h8
    obtain ⟨s2, hs2⟩ : ∃ s2, (openedS x.tk.name st.stk).reverse = s2 := ⟨_, rfl⟩
    rw [show (St.mk (openedS x.tk.name st.stk) ro).stk.reverse = s2 from hs2] at ho
    have hs2l : s2.length = (openedS x.tk.name st.stk).length := by rw [← hs2, List.length_reverse]
    have y1 : w8.cell? ⟨w.heap.size, 1, none⟩ = some (.string x.tk.name) := (cell_of_row w8 w.heap.size 1 _ _ _ hbx8).trans rfl
    have c0 := hc.c0; have f0 := hc.f 0; have hz8 := hc.lt
    have hg8 : w.heap.size < w8.heap.size := (Array.getElem?_eq_some_iff.1 hbx8).1
    have hN8 : N ≤ w8.heap.size := by omega
    have hsm2 : s2.length ≤ 2000000 := by
      have : (openedS x.tk.name st.stk).length ≤ m + 1 := hsm
      omega
    have HC := Lib.hid hc; have HO := Lib.hid ho; have HR := Lib.hid hr; have HB8 := Lib.hid (HBW7.out.trans hB8)
    have HREST := Lib.hid (show full (ros l) ∧ Ro.normal (ros l) = ro ∧ l.length ≤ m + 1 ∧ (Ro.txt (ros l)).length ≤ T ∧ (∀ y ∈ l, y.ro.attrs.length ≤ 1000000 ∧ 0 ≤ y.ro.depth ∧ y.ro.depth ≤ 1000000) from ⟨hf, hn, hl, ht, hxl⟩)
    have HS2 := Lib.hid hs2; have HS2L := Lib.hid hs2l
    clear hc ho hr hB8 hbx8 hf hn hl ht hxl b8 z1' hs2 hs2l hsm
    go_upto_region 5 with (fail)
    go_region_law (refine step_app_str _ (by rfl) (.tmp 33) (.tmp 36) (by rfl) w8 N vo s2 x.tk.name HO.out (by first | exact (World.grownBy_alloc w8 _ _).trans (g_dN _ 1 _) | exact (g_dN w8 1 _).trans (World.grownBy_alloc _ _ _)) hN8 hsm2 (by simp [Act.eval, Act.put]) _ (by simp [Act.eval, Act.put]) (World.alloc_heap_new _ _) ?_; intro g cap w9 hown9 hg9; have hc9 := Bc.overS HC.out HO.out hg9; have c9 := hc9.c0; have f9 := hc9.f 0; clear hc9)
    all_goals go_wp2
    all_goals go_end0
    all_goals
      obtain ⟨r1, r2⟩ := Bg.push HC.out HO.out HR.out hN hown9 hg9
      obtain ⟨hf, hn, hl, ht, hxl⟩ := HREST.out
      rw [HST.out, if_neg (by rw [hv]; simp)]
      refine ⟨rfl, ⟨⟨l, ?_, hf, hn, hl, ht, hxl⟩, ?_⟩, r2 _ HB8.out⟩
      · show Bg N _ b (x.tk.name :: openedS x.tk.name st.stk).reverse l _ _
        rw [List.reverse_cons, HS2.out]
        exact r1
      · show (x.tk.name :: openedS x.tk.name st.stk).length ≤ m + 1
        rw [List.length_cons]
        have := HKM.out
        omega

theorem step_0 {st : St} {t : Tk} (h : t.kind = 0) : stepB st t = if t.data = ⟨#[]⟩ then st else ⟨st.stk, addText st.out st.stk.length t.data⟩ := by unfold stepB; rw [if_pos h]
theorem step_3 {st : St} {t : Tk} (h : t.kind = 3) : stepB st t = ⟨st.stk, addRow st.out ⟨st.stk.length, 2, ⟨#[]⟩, t.data, []⟩⟩ := by
  unfold stepB
  rw [if_neg (by rw [h]; decide), if_pos h]
  rfl
theorem step_1 {st : St} {t : Tk} (h : t.kind = 1) : stepB st t = if noName t.name = true then st else startS st t.name t.attrs := by
  unfold stepB
  rw [if_neg (by rw [h]; decide), if_neg (by rw [h]; decide), if_pos h]
  rfl
theorem step_2 {st : St} {t : Tk} (h : t.kind = 2) : stepB st t = if noName t.name = true ∨ isIn t.name voidL = true then st else endS st t.name := by
  unfold stepB
  rw [if_neg (by rw [h]; decide), if_neg (by rw [h]; decide), if_neg (by rw [h]; decide), if_pos h]
  rfl
theorem step_no {st : St} {t : Tk} (h0 : t.kind ≠ 0) (h1 : t.kind ≠ 1) (h2 : t.kind ≠ 2) (h3 : t.kind ≠ 3) : stepB st t = st := by
  unfold stepB
  rw [if_neg h0, if_neg h3, if_neg h1, if_neg h2]

end Go.Proofs.YtgjlfcamgkeibaaGreatDoor.Bu

namespace Go.Proofs.YtgjlfcamgkeibaaGreatDoor.Bm
set_option linter.unusedVariables false
set_option linter.unusedSimpArgs false
open Ba Fm Nm
open Ro (At Ro)
open Tm (Tk put)
def mild (K : Nat) (l : List Ro) : Prop := ∀ x ∈ l, x.attrs.length ≤ K
theorem mild_add {K : Nat} {o : List Ro} {d : Int} {t : ByteArray} (h : mild K o) : mild K (addText o d t) := by
  unfold addText
  cases hy : o.getLast? with
  | none =>
    intro x hx
    rcases List.mem_append.1 hx with e | e
    · exact h x e
    · rw [List.mem_singleton.1 e]; exact Nat.zero_le _
  | some z =>
    show mild K (if z.kind = 1 ∧ z.depth = d then _ else _)
    split
    · intro x hx
      rcases List.mem_append.1 hx with e | e
      · exact h x (List.dropLast_subset _ e)
      · rw [List.mem_singleton.1 e]; exact h z (List.mem_of_getLast? hy)
    · intro x hx
      rcases List.mem_append.1 hx with e | e
      · exact h x e
      · rw [List.mem_singleton.1 e]; exact Nat.zero_le _
theorem txt_add (o : List Ro) (d : Int) (t : ByteArray) : Ro.txt (addText o d t) = Ro.txt o ++ L t := by
  unfold addText
  cases hy : o.getLast? with
  | none => show Ro.txt (o ++ [_]) = _; rw [Ro.txt_append, Ro.txt_text rfl]
  | some z =>
    show Ro.txt (if z.kind = 1 ∧ z.depth = d then _ else _) = _
    split
    · rename_i hc
      have ho := last_snoc hy
      have e1 : Ro.txt o = Ro.txt o.dropLast ++ L z.data := by
        have := congrArg Ro.txt ho
        rw [Ro.txt_append, Ro.txt_text hc.1] at this
        exact this
      rw [Ro.txt_append, e1, Ro.txt_text (show (⟨z.depth, z.kind, z.name, z.data ++ t, z.attrs⟩ : Ro).kind = 1 from hc.1), List.append_assoc]
      show _ ++ L (z.data ++ t) = _
      rw [L_append]
    · rw [Ro.txt_append, Ro.txt_text rfl]
theorem mild_normal {K : Nat} (l : List Ro) : full l → mild K l → mild K (Ro.normal l) ∧ Ro.txt (Ro.normal l) = Ro.txt l := by
  induction hn : l.length using Nat.strongRecOn generalizing l with
  | ind n ih =>
    subst hn
    intro h hk
    rcases snoc_cases l with rfl | ⟨m, y, rfl⟩
    · rw [Ro.normal]; exact ⟨(fun x hx => by cases hx), rfl⟩
    · obtain ⟨h1, h2⟩ := ih m.length (by rw [List.length_append]; exact Nat.lt_succ_self _) m rfl (full_init h) (fun x hx => hk x (List.mem_append_left _ hx))
      rw [normal_snoc m y h]
      split
      · rename_i hy
        exact ⟨mild_add h1, by rw [txt_add, h2, Ro.txt_append, Ro.txt_text hy]⟩
      · rename_i hy
        refine ⟨fun x hx => ?_, by rw [Ro.txt_append, Ro.txt_append, h2]⟩
        rcases List.mem_append.1 hx with e | e
        · exact h1 x e
        · rw [List.mem_singleton.1 e]; exact hk y (List.mem_append_right _ (List.mem_singleton.2 rfl))

end Go.Proofs.YtgjlfcamgkeibaaGreatDoor.Bm

namespace Go.Proofs.YtgjlfcamgkeibaaGreatDoor.Bu
set_option maxRecDepth 100000
set_option linter.unusedVariables false
set_option linter.unusedSimpArgs false
open Go.RowKit Ba Fm Fo Nm Bm
open Ro (At Ro Cw ros Fr Ow Att Ap Rr Sh Ra Rv acells len_acells cells len_cells rowV rowO info_row info_attr below_new len_ros ros_append)
open Tm (Tk put)
open To (Tw Aw tokV tokO tks)
set_option maxRecDepth 100000 in
set_option maxHeartbeats 2000000 in
theorem take_any (N b m T : Nat) (st : St) (x : Tw) (w : World) (h : Bt N w b st false m T) (hx : To.Att w N x) (hm : m < 1000000) (hal : x.tk.attrs.length ≤ 1000000) (hbig : tooBig st.out = false) :
    Calls Tryz.prog 118 #[bp b, tokV x] w fun e w' => e = .returned (.tuple #[]) ∧ Bt N w' b (stepB st x.tk) (tooBig (stepB st x.tk).out) (m + 1) (T + x.tk.data.size) ∧ Below N w w' := by
  obtain ⟨h1, hB1⟩ := h.below (below_new w (tokO x))
  have hx1 : To.Att (w.alloc (tokO x)) N x := hx.below hB1
  have H1 := Lib.hid h1; have HX := Lib.hid hx1; have HB := Lib.hid hB1
  have hsame : Bt N (w.alloc (tokO x)) b st (tooBig st.out) (m + 1) (T + x.tk.data.size) := by rw [hbig]; exact h1.more (Nat.le_succ _) (Nat.le_add_right _ _)
  have HSM := Lib.hid hsame
  clear h hx h1 hB1 hx1 hsame
  by_cases k0 : x.tk.kind = 0
  · have g0 : (x.tk.kind == 0) = true := beq_iff_eq.2 k0
    have HS := Lib.hid (step_0 (st := st) k0)
    clear k0
    by_cases hd : x.tk.data = ⟨#[]⟩
    · have hs : stepB st x.tk = st := by rw [HS.out, if_pos hd]
      have HS2 := Lib.hid hs; have HD := Lib.hid hd
      clear hs hd HS
      go_enter Tryz.func118, Tryz.ntmps118
      go_wp2_with fail
      refine (text_no b x.tk.data _ HD.out).mono ?_
      rintro e w2 ⟨rfl, rfl⟩
      go_wp2
      first | go_end0 | refine bodyPost_ret (results_none rfl _ _ _) rfl ?_
      rw [HS2.out]
      exact ⟨rfl, HSM.out, HB.out⟩
    · have hs : stepB st x.tk = ⟨st.stk, addText st.out st.stk.length x.tk.data⟩ := by rw [HS.out, if_neg hd]
      have HS2 := Lib.hid hs; have HD := Lib.hid hd
      clear hs hd HS
      go_enter Tryz.func118, Tryz.ntmps118
      go_wp2_with fail
      refine (text_yes N b m T st false x.tk.data _ H1.out hm HD.out).mono ?_
      rintro e w2 ⟨rfl, h2, b2⟩
      have H2 := Lib.hid h2; have B2 := Lib.hid (HB.out.trans b2)
      clear h2 b2
      go_wp2
      first | go_end0 | refine bodyPost_ret (results_none rfl _ _ _) rfl ?_
      rw [HS2.out]
      exact ⟨rfl, H2.out, B2.out⟩
  have g0 : (x.tk.kind == 0) = false := beq_eq_false_iff_ne.2 k0
  by_cases k3 : x.tk.kind = 3
  · have g3 : (x.tk.kind == 3) = true := beq_iff_eq.2 k3
    have HS := Lib.hid (step_3 (st := st) k3)
    clear k0 k3
    go_enter Tryz.func118, Tryz.ntmps118
    go_wp2_with fail
    refine (add_bt N b m T st false ⟨⟨0, 2, ⟨#[]⟩, x.tk.data, []⟩, none, 0⟩ _ _ rfl H1.out (fr_row N _ _ rfl) hm (by simp) (by simp) x.tk.data.size (by simp)).mono ?_
    rintro e w2 ⟨rfl, h2, b2, _⟩
    have H2 := Lib.hid h2; have B2 := Lib.hid (HB.out.trans b2)
    clear h2 b2
    go_wp2
    first | go_end0 | refine bodyPost_ret (results_none rfl _ _ _) rfl ?_
    rw [HS.out]
    exact ⟨rfl, H2.out, B2.out⟩
  have g3 : (x.tk.kind == 3) = false := beq_eq_false_iff_ne.2 k3
  by_cases k1 : x.tk.kind = 1
  · have g1 : (x.tk.kind == 1) = true := beq_iff_eq.2 k1
    have HS := Lib.hid (step_1 (st := st) k1)
    clear k0 k3 k1
    cases hn : noName x.tk.name with
    | true =>
      have hs : stepB st x.tk = st := by rw [HS.out, if_pos hn]
      have HS2 := Lib.hid hs; have HN := Lib.hid hn
      clear hs hn HS
      go_enter Tryz.func118, Tryz.ntmps118
      go_wp2_with fail
      refine (start_no b x _ HN.out).mono ?_
      rintro e w2 ⟨rfl, b2⟩
      obtain ⟨h2, hb2⟩ := HSM.out.below b2
      have H2 := Lib.hid h2; have B2 := Lib.hid (HB.out.trans hb2)
      clear h2 b2 hb2
      go_wp2
      first | go_end0 | refine bodyPost_ret (results_none rfl _ _ _) rfl ?_
      rw [HS2.out]
      exact ⟨rfl, H2.out, B2.out⟩
    | false =>
      have hs : stepB st x.tk = startS st x.tk.name x.tk.attrs := by rw [HS.out, if_neg (by rw [hn]; simp)]
      have HS2 := Lib.hid hs; have HN := Lib.hid hn
      clear hs hn HS
      go_enter Tryz.func118, Tryz.ntmps118
      go_wp2_with fail
      refine (start_any N b m T st x _ H1.out HX.out hm hal HN.out).mono ?_
      rintro e w2 ⟨rfl, h2, b2⟩
      have H2 := Lib.hid h2; have B2 := Lib.hid (HB.out.trans b2)
      clear h2 b2
      go_wp2
      first | go_end0 | refine bodyPost_ret (results_none rfl _ _ _) rfl ?_
      rw [HS2.out]
      exact ⟨rfl, H2.out.more (Nat.le_refl _) (Nat.le_add_right _ _), B2.out⟩
  have g1 : (x.tk.kind == 1) = false := beq_eq_false_iff_ne.2 k1
  by_cases k2 : x.tk.kind = 2
  · have g2 : (x.tk.kind == 2) = true := beq_iff_eq.2 k2
    have HS := Lib.hid (step_2 (st := st) k2)
    clear k0 k3 k1 k2
    by_cases hn : noName x.tk.name = true ∨ (noName x.tk.name = false ∧ isIn x.tk.name voidL = true)
    · have hs : stepB st x.tk = st := by rw [HS.out, if_pos (hn.imp id And.right)]
      have HS2 := Lib.hid hs; have HN := Lib.hid hn
      clear hs hn HS
      go_enter Tryz.func118, Tryz.ntmps118
      go_wp2_with fail
      refine (end_no b x.tk.name _ HN.out).mono ?_
      rintro e w2 ⟨rfl, b2⟩
      obtain ⟨h2, hb2⟩ := HSM.out.below b2
      have H2 := Lib.hid h2; have B2 := Lib.hid (HB.out.trans hb2)
      clear h2 b2 hb2
      go_wp2
      first | go_end0 | refine bodyPost_ret (results_none rfl _ _ _) rfl ?_
      rw [HS2.out]
      exact ⟨rfl, H2.out, B2.out⟩
    · have hn1 : noName x.tk.name = false := by
        cases h : noName x.tk.name with
        | true => exact absurd (.inl h) hn
        | false => rfl
      have hn2 : isIn x.tk.name voidL = false := by
        cases h : isIn x.tk.name voidL with
        | true => exact absurd (.inr ⟨hn1, h⟩) hn
        | false => rfl
      have hs : stepB st x.tk = endS st x.tk.name := by rw [HS.out, if_neg (by rw [hn1, hn2]; simp)]
      have HS2 := Lib.hid hs; have HN1 := Lib.hid hn1; have HN2 := Lib.hid hn2; have HBIG := Lib.hid hbig
      clear hs hn hn1 hn2 HS hbig
      go_enter Tryz.func118, Tryz.ntmps118
      go_wp2_with fail
      refine (end_any N b m T st x.tk.name _ H1.out hm HN1.out HN2.out HBIG.out).mono ?_
      rintro e w2 ⟨rfl, h2, b2⟩
      have H2 := Lib.hid h2; have B2 := Lib.hid (HB.out.trans b2)
      clear h2 b2
      go_wp2
      first | go_end0 | refine bodyPost_ret (results_none rfl _ _ _) rfl ?_
      rw [HS2.out]
      exact ⟨rfl, H2.out.more (Nat.le_refl _) (Nat.le_add_right _ _), B2.out⟩
  have g2 : (x.tk.kind == 2) = false := beq_eq_false_iff_ne.2 k2
  have HS := Lib.hid (step_no (st := st) k0 k1 k2 k3)
  clear k0 k1 k2 k3
  go_enter Tryz.func118, Tryz.ntmps118
  go_wp2
  first | go_end0 | refine bodyPost_ret (results_none rfl _ _ _) rfl ?_
  rw [HS.out]
  exact ⟨rfl, HSM.out, HB.out⟩

def dsum : List Tk → Nat
  | [] => 0
  | t :: r => t.data.size + dsum r
theorem tree_cons (st : St) (t : Tk) (r : List Tk) : treeB st (t :: r) = if tooBig (stepB st t).out = true then none else treeB (stepB st t) r := rfl

def TreeSays (w : World) (t : List Tk) (e : Ending) (w' : World) : Prop :=
  (match treeB ⟨[], []⟩ t with
  | none => e = .returned (.tuple #[.slice none 0 0, .int .i64 2])
  | some o => ∃ v y, e = .returned (.tuple #[v, .int .i64 0]) ∧ Ow w.heap.size w' v y ∧ (∀ z ∈ y, Fr w.heap.size w' z) ∧ ros y = o ∧ Ro.Few o ∧ (Ro.txt o).length ≤ 1000000000) ∧ Below w.heap.size w w'
theorem TreeSays.no {w w' : World} {t : List Tk} {e : Ending} (h : treeB ⟨[], []⟩ t = none) (he : e = .returned (.tuple #[.slice none 0 0, .int .i64 2])) (hb : Below w.heap.size w w') : TreeSays w t e w' := by
  refine ⟨?_, hb⟩
  rw [h]
  exact he
theorem TreeSays.yes {w w' : World} {t : List Tk} {e : Ending} {o : List Ro} (h : treeB ⟨[], []⟩ t = some o) (he : ∃ v y, e = .returned (.tuple #[v, .int .i64 0]) ∧ Ow w.heap.size w' v y ∧ (∀ z ∈ y, Fr w.heap.size w' z) ∧ ros y = o ∧ Ro.Few o ∧ (Ro.txt o).length ≤ 1000000000) (hb : Below w.heap.size w w') : TreeSays w t e w' := by
  refine ⟨?_, hb⟩
  rw [h]
  exact he

set_option maxRecDepth 100000 in
set_option maxHeartbeats 4000000 in
theorem Tree_any (A : Option Addr) (c : Nat) (l : List Tw) (w : World) (hr : To.Rr w w.heap.size A l) (hc : l.length ≤ c) (hl : l.length ≤ 700000) (hd : dsum (tks l) ≤ 1000000000) (hat : ∀ x ∈ l, x.tk.attrs.length ≤ 1000000) :
    Calls Tryz.prog 74 #[.slice A l.length c] w fun e w' => TreeSays w (tks l) e w' := by
  obtain ⟨W0, hW0⟩ : ∃ W0, w.alloc (.cells #[.slice none 0 0, .slice none 0 0, .int .i64 0, .bool false] 116) = W0 := ⟨_, rfl⟩
  have h0 : Bt w.heap.size W0 w.heap.size ⟨[], []⟩ false 0 0 := by
    rw [← hW0]
    exact ⟨⟨[], ⟨.slice none 0 0, .slice none 0 0, World.alloc_heap_new _ _, Sown.nil _ _, Or.nil _ _, Nat.le_refl _⟩, full_nil, by unfold ros; rw [List.map_nil, Ro.normal], Nat.le_refl _, Nat.le_refl _, fun x hx => by cases hx⟩, Nat.le_refl _⟩
  have hb0 : Below w.heap.size w W0 := by rw [← hW0]; exact below_one w _
  obtain ⟨Z, hZ⟩ : ∃ Z, w.heap.size = Z := ⟨_, rfl⟩
  go_enter Tryz.func74, Tryz.ntmps74
  go_wp2
  rw [hZ] at h0 hb0 hr
  go_loopw [9] (fun i wr => ∃ (k T : Nat) (st : St), i = .int .i64 k ∧ k ≤ l.length ∧ Bt Z wr Z st false k T ∧ tooBig st.out = false ∧ treeB ⟨[], []⟩ (tks l) = treeB st ((tks l).drop k) ∧ T + dsum ((tks l).drop k) ≤ 1000000000 ∧ Below Z w wr) (fun i _ => l.length - (intOf i).toNat)
  case atStart => exact ⟨0, 0, ⟨[], []⟩, rfl, Nat.zero_le _, h0, by decide, by rw [List.drop_zero], by rw [List.drop_zero]; omega, hb0⟩
  case round =>
    clear h0 hb0 hW0
    obtain ⟨k, T, st, rfl, hk, hbt, hbig, htr, hT, hbel⟩ := hrel
    by_cases hp : k < l.length
    · obtain ⟨b, off, x, rfl, hb, hdx, hx, hxa, hxm⟩ := (hr.below hbel).at_ k hp
      obtain ⟨x0, x1, x2, x3, x4⟩ := Ro.range5 hx
      have hdr : (tks l).drop k = x.tk :: (tks l).drop (k + 1) := by rw [To.tks_drop, hdx, To.tks_cons, ← To.tks_drop]
      rw [hdr, tree_cons] at htr
      rw [hdr] at hT
      have hT2 : T + x.tk.data.size + dsum ((tks l).drop (k + 1)) ≤ 1000000000 := by
        have : dsum (x.tk :: (tks l).drop (k + 1)) = x.tk.data.size + dsum ((tks l).drop (k + 1)) := rfl
        omega
      have hb1 := below_new wr (tokO x)
      obtain ⟨h1, hB1⟩ := hbt.below hb1
      have hxa1 : To.Att (wr.alloc (tokO x)) Z x := hxa.below hB1
      have hbz : Z < wr.heap.size := hbt.n.2
      have H1 := Lib.hid h1; have HX := Lib.hid hxa1; have HB1 := Lib.hid (hbel.trans hB1); have HTR := Lib.hid htr; have HT2 := Lib.hid hT2; have HBIG := Lib.hid hbig
      have hal := hat x hxm
      clear hbt hbig htr hT hbel hdx hx hxa hxm hdr hT2 hb1 h1 hB1 hxa1
      cases hq : tooBig (stepB st x.tk).out with
      | true =>
        have HQ := Lib.hid hq
        clear hq
        go_wp2_with fail
        refine (take_any Z Z k T st x (wr.alloc (tokO x)) H1.out HX.out (by omega) hal HBIG.out).mono ?_
        rintro e w2 ⟨rfl, h2, b2⟩
        rw [HQ.out] at h2
        obtain ⟨⟨l2, ⟨vo, vr, hc2, _⟩, _⟩, _⟩ := h2
        have c3 := hc2.c3
        have HB2 := Lib.hid (HB1.out.trans b2)
        clear hc2 b2
        go_wp2
        go_ret2
        exact TreeSays.no (by rw [HTR.out, if_pos HQ.out]) rfl (hZ ▸ HB2.out)
      | false =>
        have HQ := Lib.hid hq
        clear hq
        go_wp2_with fail
        refine (take_any Z Z k T st x (wr.alloc (tokO x)) H1.out HX.out (by omega) hal HBIG.out).mono ?_
        rintro e w2 ⟨rfl, h2, b2⟩
        rw [HQ.out] at h2
        have H2 := Lib.hid h2
        obtain ⟨⟨l2, ⟨vo, vr, hc2, _⟩, _⟩, _⟩ := h2
        have c3 := hc2.c3
        have HB2 := Lib.hid (HB1.out.trans b2)
        clear hc2 b2
        go_wp2
        go_roundw
        case rel => exact ⟨k + 1, T + x.tk.data.size, stepB st x.tk, by go_num, by omega, H2.out, HQ.out, by rw [HTR.out, if_neg (by rw [HQ.out]; simp)], HT2.out, HB2.out⟩
        case measure => simp [intOf]; omega
    · rw [List.drop_eq_nil_of_le (by rw [To.len_tks]; omega)] at htr hT
      obtain ⟨⟨l2, ⟨vo, vr, hc2, ho2, hr2, hN2⟩, hf, hn, hl2, ht, hx2⟩, _⟩ := hbt
      obtain ⟨A2, c2, rfl, hcc, _, _, hrr⟩ := hr2.form
      have c1 := hc2.c1
      have hfew : Ro.Few (ros l2) := fun y hy => by
        obtain ⟨z, hz, rfl⟩ := List.mem_map.1 hy
        exact (hx2 z hz).1
      have hheld : Ro.Held (ros l2) := fun y hy => by
        obtain ⟨z, hz, rfl⟩ := List.mem_map.1 hy
        have := (hx2 z hz).2
        omega
      have HR := Lib.hid hrr; have HF := Lib.hid hfew; have HH := Lib.hid hheld; have HN := Lib.hid hn; have HTR := Lib.hid htr; have HB := Lib.hid hbel
      have hT3 : (Ro.txt (ros l2)).length ≤ 1000000000 := by omega
      obtain ⟨hmi, hmt⟩ := mild_normal (K := 1000000) (ros l2) hf hfew
      rw [hn] at hmi hmt
      have HMI := Lib.hid (show Ro.Few st.out from hmi); have HMT := Lib.hid (show (Ro.txt st.out).length ≤ 1000000000 from by rw [hmt]; exact hT3)
      clear hmi hmt
      clear hc2 ho2 hr2 hf hn ht hx2 hrr hfew hheld htr hT hbel hbig
      go_wp2_with fail
      refine (Ro.Normal_any A2 c2 l2 wr HR.out hcc (by omega) hT3 HF.out HH.out).mono ?_
      rintro e w3 ⟨v, y, rfl, ho, hfr, hros, b3⟩
      have HO := Lib.hid ho; have HFR := Lib.hid hfr; have HROS := Lib.hid hros; have B3 := Lib.hid b3
      clear ho hfr hros b3
      have hzw : Z ≤ wr.heap.size := by have := HB.out.size; omega
      go_wp2
      go_ret2
      exact TreeSays.yes (o := st.out) HTR.out ⟨v, y, rfl, HO.out.mono (by omega) (fun z hz => (show Fr w.heap.size w3 z from ⟨World.ownsRow.mono (HFR.out z hz).1 (by omega), (HFR.out z hz).2⟩).ap), fun z hz => ⟨World.ownsRow.mono (HFR.out z hz).1 (by omega), (HFR.out z hz).2⟩, by rw [HROS.out, HN.out], HMI.out, HMT.out⟩ (hZ ▸ HB.out.trans (B3.out.mono hzw))

end Go.Proofs.YtgjlfcamgkeibaaGreatDoor.Bu

namespace Go.Proofs.YtgjlfcamgkeibaaGreatDoor.Ch
set_option linter.unusedSimpArgs false
set_option linter.unusedVariables false
open Go.RowKit
abbrev L (s : ByteArray) : List UInt8 := s.data.toList
theorem size_L (s : ByteArray) : (L s).length = s.size := by rw [Array.length_toList]; rfl
theorem drop_ne (s : ByteArray) (k : Nat) (h : k < s.size) : (L s).drop k ≠ [] := by
  intro e
  have := congrArg List.length e
  rw [List.length_drop, size_L] at this
  simp at this; omega
theorem drop_nil (s : ByteArray) (k : Nat) (h : ¬ k < s.size) : (L s).drop k = [] := List.drop_eq_nil_of_le (by rw [size_L]; omega)

theorem ret_str {a b : ByteArray} (h : a = b) : Ending.returned (.string a) = .returned (.string b) := by rw [h]

def B (l : List UInt8) : ByteArray := ⟨l.toArray⟩
theorem L_B (l : List UInt8) : L (B l) = l := by simp [B]
theorem size_B (l : List UInt8) : (B l).size = l.length := by rw [← size_L, L_B]
end Go.Proofs.YtgjlfcamgkeibaaGreatDoor.Ch

namespace Go.Proofs.YtgjlfcamgkeibaaGreatDoor.Ch
set_option maxRecDepth 100000
set_option linter.unusedSimpArgs false
set_option linter.unusedVariables false
open Go.RowKit
def bc (b : UInt8) : Value := .int .u8 b.toNat
def Own (N : Nat) (w : World) (v : Value) (l : List UInt8) : Prop := w.ownsRow N 5 1 v l.length (l.map bc)

theorem info_u8 : (Tryz.prog.info? 5).map (fun i => (i.zero, i.size, i.bytes)) = some (some (.int .u8 0), 1, 1) := by kernel_rfl

theorem Own.iterAt {N : Nat} {w : World} {v : Value} {l : List UInt8} (h : Own N w v l) {k : Nat} {s : ByteArray} {pos : Nat} (hk : w.heap[k]? = some (.stringIter s pos)) (pos' : Nat) : Own N (w.iterAt k s pos') v l := by
  refine ⟨h.1, ?_⟩
  rcases h.2 with hn | ⟨g, cap, cur, hv, hb, hg, rest⟩
  · exact .inl hn
  · have hkg : g ≠ k := by
      intro e1
      rw [e1, hk] at hg
      cases hg
    exact .inr ⟨g, cap, cur, hv, hb, (Lib.iterAt_other w k g s pos' hkg).trans hg, rest⟩

theorem Own.iterKept {N : Nat} {w w' : World} {v : Value} {l : List UInt8} (h : Own N w v l) (hg : w.grownBy w' v.ownBlock) {k : Nat} {s : ByteArray} {pos : Nat} (hk : w.heap[k]? = some (.stringIter s pos)) : w'.heap[k]? = some (.stringIter s pos) := by
  have hlt : k < w.heap.size := (Array.getElem?_eq_some_iff.1 hk).1
  rw [hg.block k hlt, hk]
  intro e
  rcases h.2 with ⟨hv, _⟩ | ⟨g, cap, cur, hv, hb, hgg, rest⟩
  · rw [hv] at e; simp [Value.ownBlock] at e
  · rw [hv] at e; simp [Value.ownBlock] at e
    rw [← e, hk] at hgg; cases hgg

theorem Own.below {N : Nat} {w0 w w' : World} {v : Value} {l : List UInt8} (h : Own N w v l) (hg : w.grownBy w' v.ownBlock) (hb : Below N w0 w) (hN : N ≤ w.heap.size) : Below N w0 w' :=
  hb.grown hg hN fun k hk => (h.lt k hk).1

theorem Own.string {N : Nat} {w : World} {v : Value} {l : List UInt8} (h : Own N w v l) : (convert 88 9 v).run Tryz.prog w = .ok (.string (B l)) w := by
  rcases h.2 with ⟨hv, hl⟩ | ⟨g, cap, cur, hv, hb, hgg, rest⟩
  · have : l = [] := List.eq_nil_of_length_eq_zero hl
    subst this hv
    rw [run_convert_bytes_string w _ _ _ none 0 0 Tryz.underlying88 Tryz.underlying5 Tryz.underlying9]
    rfl
  · subst hv
    exact run_convert_bytes_back w _ _ _ ⟨g, 0, none⟩ cap l Tryz.underlying88 Tryz.underlying5 Tryz.underlying9 fun j hj => World.ownsRow.cells h rfl j _ (by simp [bc, hj])

theorem strCells_L (s : ByteArray) : Lib.strCells s = (L s).map bc := rfl

theorem Own.appended {N : Nat} {w : World} {v : Value} {l m : List UInt8} {n : Nat} (h : w.ownsRow N 5 1 v n (l.map bc ++ m.map bc)) (hn : n = l.length + m.length) : Own N w v (l ++ m) := by
  unfold Own
  rw [List.map_append, List.length_append, ← hn]
  exact h

theorem L_def (s : ByteArray) : L s = s.data.toList := rfl
theorem enc_F : L (Utf8.encode 65533) = F :=
  (L_def _).trans ((congrArg (fun z : Int => (Utf8.encode z).data.toList) (show (65533 : Int) = ((0xFFFD : Nat) : Int) from rfl)).trans F_good.enc)
theorem enc_r (r : Nat) (h : r ≠ 0) : L (Utf8.encode r) = encR r := (L_def _).trans (encR_pos h).symm

set_option maxHeartbeats 1000000 in
theorem decode_any (s : ByteArray) (w : World) (hs : s.size ≤ 140737488355328) (hd : (dL (L s)).length ≤ 140737488355328) :
    Calls Tryz.prog 125 #[.string s] w fun e w' => e = .returned (.string (B (dL (L s)))) ∧ Below w.heap.size w w' := by
  obtain ⟨i0, hi, hz0, hz1, hz2⟩ := info_parts info_u8
  go_enter Tryz.func125, Tryz.ntmps125
  go_wp2_with (at_make; refine wpList_make_own _ rfl (.const (.int .i64 0)) (.tmp 7) 88 rfl w.heap.size 5 i0 (.int .u8 0) 1 Tryz.underlying88 hi hz0 hz1 .i64 .i64 _ s.size rfl rfl rfl (by rw [hz2]; omega) (by unfold maxLen; omega) (Nat.le_refl _) ?_; intro w1 hown hgrow)
  have hk0 : (w1.iter s 0).heap[w1.heap.size]? = some (.stringIter s 0) := World.iter_heap w1 s 0
  have hb0 : Below w.heap.size w (w1.iter s 0) := ((Below.refl w.heap.size w).grown hgrow (Nat.le_refl _) (by simp)).alloc hgrow.size _
  have ho0 : Own w.heap.size (w1.iter s 0) (.slice (some ⟨w.heap.size, 0, none⟩) 0 s.size) [] := World.ownsRow.alloc hown _
  have hsz1 := hgrow.size
  clear hown hgrow
  have HK0 := Lib.hid hk0; clear hk0
  go_loopw [3, 5] (fun v _ wr => ∃ (pos : Nat) (acc : List UInt8), wr.heap[w1.heap.size]? = some (.stringIter s pos) ∧ Own w.heap.size wr v acc ∧ acc ++ dL ((L s).drop pos) = dL (L s) ∧ Below w.heap.size w wr) (fun _ _ wr => s.size - wr.iterPos w1.heap.size)
  case atStart => exact ⟨0, [], HK0.out, ho0, by simp, hb0⟩
  case round =>
    clear ho0 hb0 HK0
    obtain ⟨pos, acc, hk, hown, hc, hbel⟩ := hrel
    have hpos : wr.iterPos w1.heap.size = pos := iterPos_of hk
    have HC := Lib.hid hc; clear hc
    have HP := Lib.hid hpos; clear hpos
    by_cases hp : pos < s.size
    · have hnx : ∀ ty, (Instr.next (.pointer (some ⟨w1.heap.size, 0, none⟩)) true ty).run Tryz.prog wr = _ := fun ty => Lib.run_next_any_at wr _ s pos ty hk hp
      have hdp := dec_pos _ (drop_ne s pos hp)
      have hst := dL_step _ (drop_ne s pos hp)
      rw [List.drop_drop] at hst
      rw [← decode_eq] at hst hdp
      have hk' := Lib.iterAt_heap wr w1.heap.size s pos (pos + (Utf8.decode s pos).2) hk
      have hown' := hown.iterAt hk (pos + (Utf8.decode s pos).2)
      have hbel' := Lib.below_iterAt hbel (k := w1.heap.size) hsz1 s (pos + (Utf8.decode s pos).2)
      have hN : w.heap.size ≤ (wr.iterAt w1.heap.size s (pos + (Utf8.decode s pos).2)).heap.size := hbel'.size
      have HS := Lib.hid hst; clear hst
      have HK := Lib.hid hk'; clear hk hk'
      clear hown hbel
      by_cases hr : (Utf8.decode s pos).1 = 0
      · have hrb : (((Utf8.decode s pos).1 : Int) == 0) = true := by rw [hr]; rfl
        have HR := Lib.hid hr; clear hr
        have he : L (Utf8.encode 65533) = F := enc_F
        have hbd : acc.length + (Utf8.encode 65533).size ≤ 140737488355328 := by
          have h1 := congrArg List.length HC.out
          rw [HS.out, HR.out, encR_zero, List.length_append, List.length_append] at h1
          rw [← size_L, he]; omega
        have HE := Lib.hid he; clear he
        go_wp2_with (at_builtin; refine Lib.wpList_append_own_string _ rfl (.tmp 16) (.tmp 18) 88 9 rfl w.heap.size 5 i0 Tryz.underlying88 Tryz.underlying9 hi hz0 hz1 hz2 _ acc.length (acc.map bc) rfl hown' _ rfl (by unfold maxLen; omega) hbd hN ?_; intro v2 w2 hown2 hgrow2 _)
        go_roundw
        case rel =>
          refine ⟨pos + (Utf8.decode s pos).2, acc ++ F, hown'.iterKept hgrow2 HK.out, ?_, ?_, hown'.below hgrow2 hbel' hN⟩
          · rw [strCells_L, HE.out] at hown2
            exact Own.appended hown2 (by rw [← size_L, HE.out])
          · rw [← HC.out, HS.out, List.append_assoc]; rw [HR.out, encR_zero]
        case measure =>
          rw [iterPos_of (hown'.iterKept hgrow2 HK.out), HP.out]
          omega
      · have hrb : (((Utf8.decode s pos).1 : Int) == 0) = false := by simpa using fun h => hr (by omega)
        have he : L (Utf8.encode (Utf8.decode s pos).1) = encR (Utf8.decode s pos).1 := enc_r _ hr
        clear hr
        have hbd : acc.length + (Utf8.encode (Utf8.decode s pos).1).size ≤ 140737488355328 := by
          have h1 := congrArg List.length HC.out
          rw [HS.out, List.length_append, List.length_append] at h1
          rw [← size_L, he]; omega
        have HE := Lib.hid he; clear he
        go_wp2_with (at_builtin; refine Lib.wpList_append_own_string _ rfl (.tmp 16) (.tmp 18) 88 9 rfl w.heap.size 5 i0 Tryz.underlying88 Tryz.underlying9 hi hz0 hz1 hz2 _ acc.length (acc.map bc) rfl hown' _ rfl (by unfold maxLen; omega) hbd hN ?_; intro v2 w2 hown2 hgrow2 _)
        go_roundw
        case rel =>
          refine ⟨pos + (Utf8.decode s pos).2, acc ++ encR (Utf8.decode s pos).1, hown'.iterKept hgrow2 HK.out, ?_, ?_, hown'.below hgrow2 hbel' hN⟩
          · rw [strCells_L, HE.out] at hown2
            exact Own.appended hown2 (by rw [← size_L, HE.out])
          · rw [← HC.out, HS.out, List.append_assoc]
        case measure =>
          rw [iterPos_of (hown'.iterKept hgrow2 HK.out), HP.out]
          omega
    · have hnx : ∀ ty, (Instr.next (.pointer (some ⟨w1.heap.size, 0, none⟩)) true ty).run Tryz.prog wr = _ := fun ty => Lib.run_next_end_at wr _ s pos ty hk hp
      have hcv := hown.string
      clear hk
      go_wp2
      go_ret
      refine ⟨ret_str ?_, hbel⟩
      have h1 := HC.out
      rw [drop_nil s pos hp, dL_nil, List.append_nil] at h1
      rw [h1]

end Go.Proofs.YtgjlfcamgkeibaaGreatDoor.Ch

namespace Go.Proofs.YtgjlfcamgkeibaaGreatDoor.Ch
set_option maxRecDepth 100000
set_option linter.unusedSimpArgs false
set_option linter.unusedVariables false
open Go.RowKit
theorem drop_cons (s : ByteArray) (k : Nat) (h : k < s.size) : (L s).drop k = s[k] :: (L s).drop (k + 1) := by
  rw [List.drop_eq_getElem_cons (by rw [size_L]; exact h)]
  rfl

def was (s : ByteArray) (k : Nat) : Bool := (L s)[k - 1]? == some 13 && decide (0 < k)

theorem was_zero (s : ByteArray) : was s 0 = false := by simp [was]
theorem was_succ (s : ByteArray) (k : Nat) (h : k < s.size) : was s (k + 1) = (s[k] == 13) := by
  have : (L s)[k]? = some s[k] := by rw [List.getElem?_eq_getElem (by rw [size_L]; exact h)]; rfl
  simp [was, this]

theorem bd {acc rest total : List UInt8} {x : UInt8} {n : Nat} (h : (acc ++ [x]) ++ rest = total) (ht : total.length ≤ n) : acc.length + 1 ≤ n := by
  have h1 := congrArg List.length h
  rw [List.length_append, List.length_append, List.length_cons, List.length_nil] at h1
  omega

theorem Own.alloc {N : Nat} {w : World} {v : Value} {l : List UInt8} (h : Own N w v l) (o : Obj) : Own N (w.alloc o) v l := World.ownsRow.alloc h o

set_option maxHeartbeats 1000000 in
theorem lines_any (s : ByteArray) (w : World) (hs : s.size ≤ 140737488355328) :
    Calls Tryz.prog 124 #[.string s] w fun e w' => e = .returned (.string (B (ln false (L s)))) ∧ Below w.heap.size w w' := by
  obtain ⟨i0, hi, hz0, hz1, hz2⟩ := info_parts info_u8
  have hll := ln_len false (L s)
  rw [size_L] at hll
  go_enter Tryz.func124, Tryz.ntmps124
  go_wp2_with (at_make; refine wpList_make_own _ rfl (.const (.int .i64 0)) (.tmp 6) 88 rfl w.heap.size 5 i0 (.int .u8 0) 1 Tryz.underlying88 hi hz0 hz1 .i64 .i64 _ s.size rfl rfl rfl (by rw [hz2]; omega) (by unfold maxLen; omega) (Nat.le_refl _) ?_; intro w1 hown hgrow)
  have hb0 : Below w.heap.size w w1 := (Below.refl w.heap.size w).grown hgrow (Nat.le_refl _) (by simp)
  have ho0 : Own w.heap.size w1 (.slice (some ⟨w.heap.size, 0, none⟩) 0 s.size) [] := hown
  clear hown hgrow
  go_loopw [3, 4, 10] (fun v _ i wr => ∃ (k : Nat) (acc : List UInt8), i = .int .i64 k ∧ k ≤ s.size ∧ Own w.heap.size wr v acc ∧ acc ++ ln (was s k) ((L s).drop k) = ln false (L s) ∧ Below w.heap.size w wr) (fun _ _ i _ => s.size - (intOf i).toNat)
  case atStart => exact ⟨0, [], rfl, Nat.zero_le _, ho0, by simp [was_zero], hb0⟩
  case round =>
    clear ho0 hb0
    obtain ⟨k, acc, rfl, hks, hown, hc, hbel⟩ := hrel
    have hN := hbel.size
    by_cases hp : k < s.size
    · have hdc := drop_cons s k hp
      rw [hdc] at hc
      have hws := was_succ s k hp
      have HW := Lib.hid hws; clear hws hdc
      by_cases h13 : s[k] = 13
      · have hb13 : ((s[k].toNat : Int) == 13) = true := by rw [h13]; rfl
        have hc' : (acc ++ [10]) ++ ln (was s (k + 1)) ((L s).drop (k + 1)) = ln false (L s) := by
          rw [← hc, h13, ln_13, HW.out, h13, List.append_assoc]; rfl
        have hbd := bd hc' hll
        have HC := Lib.hid hc'; clear hc hc' h13
        go_wp2_with (at_builtin; refine wpList_append_own _ rfl (.tmp 24) (.tmp 25) 88 rfl w.heap.size 5 i0 (.int .u8 0) 1 1 Tryz.underlying88 hi hz0 hz1 hz2 rfl (by decide) _ acc.length (acc.map bc) rfl (hown.alloc _) ⟨wr.heap.size, 0, none⟩ 1 1 [.int .u8 10] rfl rfl (cell_one_new _ _ _) (by intro u hu; simp at hu; subst hu; rfl) (by unfold maxLen; omega) (by omega) (by simp; omega) ?_; intro v2 w2 hown2 hgrow2 _)
        go_roundw
        case rel => exact ⟨k + 1, acc ++ [10], by go_num, by omega, Own.appended (m := [10]) hown2 rfl, HC.out, (hown.alloc _).below hgrow2 (hbel.alloc hN _) (by simp; omega)⟩
        case measure => simp [intOf]; omega
      · have hb13 : ((s[k].toNat : Int) == 13) = false := by
          simpa using fun h => h13 (u8_ext (by simpa using (by omega : s[k].toNat = 13)))
        have hn13 : (s[k] == 13) = false := by simpa using h13
        by_cases h10 : s[k] = 10
        · have hb10 : ((s[k].toNat : Int) == 10) = true := by rw [h10]; rfl
          by_cases h0 : 0 < k
          · obtain ⟨j, rfl⟩ : ∃ j, k = j + 1 := ⟨k - 1, by omega⟩
            have hj : j < s.size := by omega
            have hws := was_succ s j hj
            by_cases hj13 : s[j] = 13
            · have hbj : ((s[j].toNat : Int) == 13) = true := by rw [hj13]; rfl
              have hc' : acc ++ ln (was s (j + 1 + 1)) ((L s).drop (j + 1 + 1)) = ln false (L s) := by
                rw [← hc, h10, HW.out, hn13, hws, hj13]
                exact congrArg (acc ++ ·) (ln_10 _).symm
              have HC := Lib.hid hc'; clear hc hc' hws hj13 h10 h13 hn13 h0
              go_wp2_with fail
              go_roundw
              case rel => exact ⟨j + 1 + 1, acc, by go_num, by omega, hown, HC.out, hbel⟩
              case measure => simp [intOf]; omega
            · have hbj : ((s[j].toNat : Int) == 13) = false := by
                simpa using fun h => hj13 (u8_ext (by simpa using (by omega : s[j].toNat = 13)))
              have hc' : (acc ++ [s[j + 1]]) ++ ln (was s (j + 1 + 1)) ((L s).drop (j + 1 + 1)) = ln false (L s) := by
                rw [← hc, ln_other _ _ _ h13 ?_, HW.out, hn13, List.append_assoc]; rfl
                rw [hws]; simp [hj13]
              have hbd := bd hc' hll
              have HC := Lib.hid hc'; clear hc hc' hws hj13 h10 h13 hn13 h0
              go_wp2_with (at_builtin; refine wpList_append_own _ rfl (.tmp 13) (.tmp 17) 88 rfl w.heap.size 5 i0 (.int .u8 0) 1 1 Tryz.underlying88 hi hz0 hz1 hz2 rfl (by decide) _ acc.length (acc.map bc) rfl (hown.alloc _) ⟨wr.heap.size, 0, none⟩ 1 1 [.int .u8 s[j + 1].toNat] rfl rfl (cell_one_new _ _ _) (by intro u hu; simp at hu; subst hu; rfl) (by unfold maxLen; omega) (by omega) (by simp; omega) ?_; intro v2 w2 hown2 hgrow2 _)
              go_roundw
              case rel => exact ⟨j + 1 + 1, acc ++ [s[j + 1]], by go_num, by omega, Own.appended (m := [s[j + 1]]) hown2 rfl, HC.out, (hown.alloc _).below hgrow2 (hbel.alloc hN _) (by simp; omega)⟩
              case measure => simp [intOf]; omega
          · obtain rfl : k = 0 := by omega
            have hc' : (acc ++ [s[0]]) ++ ln (was s (0 + 1)) ((L s).drop (0 + 1)) = ln false (L s) := by
              rw [← hc, ln_other _ _ _ h13 ?_, HW.out, hn13, List.append_assoc]; rfl
              rw [was_zero]; simp
            have hbd := bd hc' hll
            have HC := Lib.hid hc'; clear hc hc' h10 h13 hn13 h0
            go_wp2_with (at_builtin; refine wpList_append_own _ rfl (.tmp 13) (.tmp 17) 88 rfl w.heap.size 5 i0 (.int .u8 0) 1 1 Tryz.underlying88 hi hz0 hz1 hz2 rfl (by decide) _ acc.length (acc.map bc) rfl (hown.alloc _) ⟨wr.heap.size, 0, none⟩ 1 1 [.int .u8 s[0].toNat] rfl rfl (cell_one_new _ _ _) (by intro u hu; simp at hu; subst hu; rfl) (by unfold maxLen; omega) (by omega) (by simp; omega) ?_; intro v2 w2 hown2 hgrow2 _)
            go_roundw
            case rel => exact ⟨0 + 1, acc ++ [s[0]], by go_num, by omega, Own.appended (m := [s[0]]) hown2 rfl, HC.out, (hown.alloc _).below hgrow2 (hbel.alloc hN _) (by simp; omega)⟩
            case measure => simp [intOf]; omega
        · have hb10 : ((s[k].toNat : Int) == 10) = false := by
            simpa using fun h => h10 (u8_ext (by simpa using (by omega : s[k].toNat = 10)))
          have hc' : (acc ++ [s[k]]) ++ ln (was s (k + 1)) ((L s).drop (k + 1)) = ln false (L s) := by
            rw [← hc, ln_other _ _ _ h13 (fun x => h10 x.1), HW.out, hn13, List.append_assoc]; rfl
          have hbd := bd hc' hll
          have HC := Lib.hid hc'; clear hc hc'
          clear h13 h10 hn13
          go_wp2_with (at_builtin; refine wpList_append_own _ rfl (.tmp 13) (.tmp 17) 88 rfl w.heap.size 5 i0 (.int .u8 0) 1 1 Tryz.underlying88 hi hz0 hz1 hz2 rfl (by decide) _ acc.length (acc.map bc) rfl (hown.alloc _) ⟨wr.heap.size, 0, none⟩ 1 1 [.int .u8 s[k].toNat] rfl rfl (cell_one_new _ _ _) (by intro u hu; simp at hu; subst hu; rfl) (by unfold maxLen; omega) (by omega) (by simp; omega) ?_; intro v2 w2 hown2 hgrow2 _)
          go_roundw
          case rel => exact ⟨k + 1, acc ++ [s[k]], by go_num, by omega, Own.appended (m := [s[k]]) hown2 rfl, HC.out, (hown.alloc _).below hgrow2 (hbel.alloc hN _) (by simp; omega)⟩
          case measure => simp [intOf]; omega
    · have hcv := hown.string
      rw [List.drop_eq_nil_of_le (by rw [size_L]; omega)] at hc
      have HC := Lib.hid hc; clear hc
      go_wp2
      go_ret
      refine ⟨ret_str ?_, hbel⟩
      have h1 := HC.out
      rw [show ln (was s k) [] = [] from by cases (was s k) <;> rfl, List.append_nil] at h1
      rw [h1]

theorem ready_any (s : ByteArray) (w : World) (hs : s.size ≤ 140737488355328) (hd : (dL (L s)).length ≤ 140737488355328) :
    Calls Tryz.prog 76 #[.string s] w fun e w' => e = .returned (.string (B (ln false (dL (L s))))) ∧ Below w.heap.size w w' := by
  go_enter Tryz.func76, Tryz.ntmps76
  go_wp2_with fail
  refine (decode_any s _ hs hd).mono ?_
  rintro e w1 ⟨rfl, hb1⟩
  go_wp2_with fail
  refine (lines_any (B (dL (L s))) _ (by rw [size_B]; exact hd)).mono ?_
  rintro e w2 ⟨rfl, hb2⟩
  go_wp2
  go_ret
  exact ⟨ret_str (by rw [L_B]), hb1.trans (hb2.mono hb1.size)⟩

end Go.Proofs.YtgjlfcamgkeibaaGreatDoor.Ch

namespace Go.Proofs.YtgjlfcamgkeibaaGreatDoor.Bu
set_option maxRecDepth 100000
set_option linter.unusedVariables false
set_option linter.unusedSimpArgs false
open Go.RowKit Ba Fm Fo Nm Bm
open Ro (At Ro Cw ros Fr Ow Rv)
open Tm (Tk within bulk bulkT bulkA)
open To (Tw tks)
open Re (Tab)
def rdy (l : List UInt8) : List UInt8 := Ch.ln false (Ch.dL l)
theorem len_rdy (l : List UInt8) : (rdy l).length ≤ 3 * l.length := Nat.le_trans (Ch.ln_len _ _) (Ch.len_dL l)
theorem dsum_bulk : ∀ l : List Tk, dsum l ≤ bulk l
  | [] => Nat.zero_le _
  | t :: r => by
    have := dsum_bulk r
    show t.data.size + dsum r ≤ (List.map bulkT (t :: r)).sum
    rw [List.map_cons, List.sum_cons]
    have e : bulkT t = t.name.size + t.data.size + bulkA t.attrs + t.attrs.length := rfl
    have e2 : bulk r = (List.map bulkT r).sum := rfl
    omega
def SaysM (w : World) (r : Option (List Ro)) (e : Ending) (w' : World) : Prop :=
  (match r with
  | none => e = .returned (.tuple #[.slice none 0 0, .int .i64 2])
  | some o => ∃ v y, e = .returned (.tuple #[v, .int .i64 0]) ∧ Rv w' v y ∧ ros y = o ∧ Ro.Few o ∧ (Ro.txt o).length ≤ 1000000000) ∧ Below w.heap.size w w'
theorem TreeSays.cases {w w' : World} {t : List Tk} {e : Ending} (h : TreeSays w t e w') :
    (treeB ⟨[], []⟩ t = none ∧ e = .returned (.tuple #[.slice none 0 0, .int .i64 2]) ∧ Below w.heap.size w w') ∨
    (∃ o v y, treeB ⟨[], []⟩ t = some o ∧ e = .returned (.tuple #[v, .int .i64 0]) ∧ Ow w.heap.size w' v y ∧ (∀ z ∈ y, Fr w.heap.size w' z) ∧ ros y = o ∧ (Ro.Few o ∧ (Ro.txt o).length ≤ 1000000000) ∧ Below w.heap.size w w') := by
  obtain ⟨h1, h2⟩ := h
  cases ht : treeB ⟨[], []⟩ t with
  | none => rw [ht] at h1; exact .inl ⟨rfl, h1, h2⟩
  | some o =>
    rw [ht] at h1
    obtain ⟨v, y, e1, e2, e3, e4, e5⟩ := h1
    exact .inr ⟨o, v, y, rfl, e1, e2, e3, e4, e5, h2⟩
theorem good_zero : ∀ {l : List Ro} {p : List ByteArray}, goodFrom p l → ∀ x ∈ l, 0 ≤ x.depth
  | [], p, _, x, h => by cases h
  | y :: l, p, h, x, hx => by
    rcases List.mem_cons.1 hx with e | e
    · rw [e]; exact h.1.1
    · exact good_zero h.2 x e
theorem tree_held {t : List Tk} {o : List Ro} (h : treeB ⟨[], []⟩ t = some o) : Ro.Held o := fun x hx => by
  obtain ⟨h1, _, _, h2⟩ := tree_all h
  have := good_zero h1 x hx
  have := h2.2 x hx
  omega

end Go.Proofs.YtgjlfcamgkeibaaGreatDoor.Bu

namespace Go.Proofs.YtgjlfcamgkeibaaGreatDoor.Wm
set_option linter.unusedVariables false
set_option linter.unusedSimpArgs false
open Ba Fm Rm Nm Bm
open Ro (At Ro)
open Ch (rL)
open Bu (rdy)
open Wr (insideB)
def Cl (l : List UInt8) : Prop := rL l = true ∧ (0 : UInt8) ∉ l ∧ (13 : UInt8) ∉ l
end Go.Proofs.YtgjlfcamgkeibaaGreatDoor.Wm

namespace Go.Proofs.YtgjlfcamgkeibaaGreatDoor.Wm
set_option linter.unusedVariables false
set_option linter.unusedSimpArgs false
open Ba Fm Rm Nm Bm
open Ro (At Ro)
open Ch (rL)
open Bu (rdy)
open Tm (lead trail by1 pre Tk tx txt comm cend isEnd)
end Go.Proofs.YtgjlfcamgkeibaaGreatDoor.Wm

namespace Go.Proofs.YtgjlfcamgkeibaaGreatDoor.Wm
set_option linter.unusedVariables false
set_option linter.unusedSimpArgs false
open Ba Fm Rm Nm Bm
open Ro (At Ro)
open Bu (rdy)
open Tm (lead trail by1 pre Tk tx txt comm cend isEnd EndOf nmOk asOk softOr rawB softB bg mk cut cont attrs from_ upTo en)
def sofRow (p : List ByteArray) (x : Ro) : Prop := ∀ n, 0 < x.depth → p[x.depth.toNat - 1]? = some n → softOr (L n) = true → x.kind = 1 ∧ (rawB (L n) = true → lead (isEnd (L n)) (L x.data) = L x.data)
def sofFrom (p : List ByteArray) : List Ro → Prop
  | [] => True
  | x :: r => sofRow p x ∧ sofFrom (pathStep p x) r
theorem sof_snoc : ∀ {p : List ByteArray} {l : List Ro} {x : Ro}, sofFrom p l → sofRow (pathFrom p l) x → sofFrom p (l ++ [x])
  | p, [], x, _, h => ⟨h, trivial⟩
  | p, y :: l, x, h, hx => ⟨h.1, sof_snoc h.2 hx⟩
theorem sof_init : ∀ {p : List ByteArray} {l : List Ro} {x : Ro}, sofFrom p (l ++ [x]) → sofFrom p l ∧ sofRow (pathFrom p l) x
  | p, [], x, h => ⟨trivial, h.1⟩
  | p, y :: l, x, h => by
    obtain ⟨h1, h2⟩ := sof_init (l := l) h.2
    exact ⟨⟨h.1, h1⟩, h2⟩
def rowOk (x : Ro) : Prop := (x.kind = 0 → nmOk (L x.name) ∧ asOk x.attrs) ∧ (x.kind = 2 → ∀ t, comm (L x.data ++ ([45, 45, 62] ++ t)) = (L x.data, t))

theorem free_row {p r : List ByteArray} {x : Ro} (ht : p.take r.length = r.reverse) (hd : x.depth = (r.length : Int)) (hf : ∀ n ∈ r, softOr (L n) = false) : sofRow p x := fun n h0 hn hs => by
  have hto : x.depth.toNat = r.length := by omega
  rw [hto] at hn
  have h1 : (p.take r.length)[r.length - 1]? = some n := by rw [List.getElem?_take, if_pos (by omega)]; exact hn
  rw [ht] at h1
  have := hf n (List.mem_reverse.1 (List.mem_of_getElem? h1))
  rw [hs] at this; cases this
structure Bt (st : St) : Prop where
  inv : Inv st
  sof : sofFrom [] st.out
  rows : ∀ x ∈ st.out, rowOk x
theorem Bt.row {st : St} (h : Bt st) {r : List ByteArray} (hr : r <:+ st.stk) (hf : ∀ n ∈ st.stk, softOr (L n) = false) (x : Ro) (hd : x.depth = (r.length : Int)) (hx : rowOk x) : sofFrom [] (st.out ++ [x]) ∧ ∀ y ∈ st.out ++ [x], rowOk y :=
  ⟨sof_snoc h.sof (free_row (take_suffix h.inv.eq hr) hd fun n hn => hf n (hr.subset hn)), fun y hy => by
    rcases List.mem_append.1 hy with e | e
    · exact h.rows y e
    · rw [List.mem_singleton.1 e]; exact hx⟩
theorem text_ok (d : Int) (t : ByteArray) : rowOk ⟨d, 1, ⟨#[]⟩, t, []⟩ := ⟨fun e => absurd e (show ¬ (1 : Int) = 0 by decide), fun e => absurd e (show ¬ (1 : Int) = 2 by decide)⟩
theorem Bt.text {st : St} (h : Bt st) (hf : ∀ n ∈ st.stk, softOr (L n) = false) (t : ByteArray) : sofFrom [] (addText st.out st.stk.length t) ∧ ∀ y ∈ addText st.out st.stk.length t, rowOk y := by
  have hnew := h.row (List.suffix_refl _) hf ⟨st.stk.length, 1, ⟨#[]⟩, t, []⟩ rfl (text_ok _ _)
  unfold addText
  split
  · rename_i y hy
    split
    · rename_i hyk
      have he := Bm.last_snoc hy
      have hs := h.sof
      rw [he] at hs
      obtain ⟨s1, s2⟩ := sof_init hs
      have hi := h.inv.eq
      have hp : pathFrom [] st.out = pathStep (pathFrom [] st.out.dropLast) y := by
        conv => lhs; rw [he]
        exact pathFrom_snoc _ _ _
      refine ⟨sof_snoc s1 (free_row (r := st.stk) ?_ hyk.2 hf), fun z hz => ?_⟩
      · rw [hp] at hi
        unfold pathStep at hi
        rw [if_neg (by omega), List.append_nil, List.take_take, show y.depth.toNat = st.stk.length by omega, Nat.min_self] at hi
        exact hi
      · rcases List.mem_append.1 hz with e | e
        · exact h.rows z (List.dropLast_subset _ e)
        · rw [List.mem_singleton.1 e]
          exact ⟨fun e => absurd e (by show ¬ y.kind = 0; omega), fun e => absurd e (by show ¬ y.kind = 2; omega)⟩
    · exact hnew
  · exact hnew
theorem not_end {n : List UInt8} {t : Tk} {r : List Tk} (hk : t.kind ≠ 2) : ¬ EndOf n (t :: r) := fun h => by
  rcases h with h | ⟨q, h⟩
  · cases h
  · injection h with h _
    rw [h] at hk
    exact hk rfl
def Mode (s : List ByteArray) (T : List Tk) : Prop := (∀ n ∈ s, softOr (L n) = false) ∨ ∃ n q, s = n :: q ∧ (∀ m ∈ q, softOr (L m) = false) ∧ softOr (L n) = true ∧ EndOf (L n) T
theorem Mode.free {s : List ByteArray} {t : Tk} {r : List Tk} (h : Mode s (t :: r)) (hk : t.kind ≠ 2) : ∀ n ∈ s, softOr (L n) = false := by
  rcases h with h | ⟨n, q, _, _, _, he⟩
  · exact h
  · exact absurd he (not_end hk)
end Go.Proofs.YtgjlfcamgkeibaaGreatDoor.Wm

namespace Go.Proofs.YtgjlfcamgkeibaaGreatDoor.Wm
set_option linter.unusedVariables false
set_option linter.unusedSimpArgs false
open Ba Fm Rm Nm Bm
open Ro (At Ro)
open Bu (rdy)
open Tm (Tk bulkA bulkT bulk within)
open Wr (rb insideB rest)
def cost (x : Ro) : Nat := if x.kind = 0 then 5 + 2 * x.name.size + 6 * bulkA x.attrs + 4 * x.attrs.length else if x.kind = 1 then 6 * x.data.size else 7 + x.data.size
def costs (l : List Ro) : Nat := (l.map cost).sum
theorem costs_append (a b : List Ro) : costs (a ++ b) = costs a + costs b := by unfold costs; rw [List.map_append, List.sum_append]
theorem costs_one (x : Ro) : costs [x] = cost x := by unfold costs; rw [List.map_cons, List.map_nil, List.sum_cons, List.sum_nil, Nat.add_zero]
theorem bulk_once (l : List At) : bulkA (once l) ≤ bulkA l ∧ (once l).length ≤ l.length := by
  have hput : ∀ (acc : List At) (a : At), bulkA (Tm.put acc a) ≤ bulkA acc + (a.name.size + a.value.size) ∧ (Tm.put acc a).length ≤ acc.length + 1 := fun acc a => by
    unfold Tm.put
    split
    · omega
    · unfold bulkA
      rw [List.map_append, List.sum_append, List.length_append]
      simp
  have : ∀ (l acc : List At), bulkA (l.foldl Tm.put acc) ≤ bulkA acc + bulkA l ∧ (l.foldl Tm.put acc).length ≤ acc.length + l.length := fun l => by
    induction l with
    | nil => intro acc; exact ⟨Nat.le_add_right _ _, Nat.le_add_right _ _⟩
    | cons a r ih =>
      intro acc
      obtain ⟨i1, i2⟩ := ih (Tm.put acc a)
      obtain ⟨p1, p2⟩ := hput acc a
      have e : bulkA (a :: r) = a.name.size + a.value.size + bulkA r := by simp [bulkA]
      rw [List.foldl_cons, List.length_cons]
      omega
  obtain ⟨h1, h2⟩ := this l []
  have e : bulkA [] = 0 := rfl
  have e2 : ([] : List At).length = 0 := rfl
  unfold once
  omega
theorem cost_step (st : St) (t : Tk) : costs (stepB st t).out ≤ costs st.out + (6 * bulkT t + 7) := by
  have hb : bulkT t = t.name.size + t.data.size + bulkA t.attrs + t.attrs.length := rfl
  unfold stepB
  split
  · split
    · omega
    · have hnew : ∀ d : Int, cost ⟨d, 1, ⟨#[]⟩, t.data, []⟩ ≤ 6 * bulkT t + 7 := fun d => by
        unfold cost
        rw [if_neg (show ¬ (1 : Int) = 0 by decide), if_pos rfl]
        show 6 * t.data.size ≤ _
        omega
      show costs (addText st.out st.stk.length t.data) ≤ _
      unfold addText
      split
      · rename_i y hy
        split
        · rename_i hyk
          have he := Bm.last_snoc hy
          have hc : costs st.out = costs st.out.dropLast + cost y := by
            conv => lhs; rw [he]
            rw [costs_append, costs_one]
          rw [costs_append, costs_one, hc]
          have hy1 : cost y = 6 * y.data.size := by unfold cost; rw [if_neg (by omega), if_pos hyk.1]
          have hy2 : cost ⟨y.depth, y.kind, y.name, y.data ++ t.data, y.attrs⟩ = 6 * (y.data.size + t.data.size) := by
            unfold cost
            rw [if_neg (show ¬ y.kind = 0 by omega), if_pos (show y.kind = 1 from hyk.1)]
            show 6 * (y.data ++ t.data).size = _
            rw [size_append]
          rw [hy1, hy2]
          omega
        · rw [costs_append, costs_one]; have := hnew st.stk.length; omega
      · rw [costs_append, costs_one]; have := hnew st.stk.length; omega
  split
  · rw [costs_append, costs_one]
    have : cost ⟨st.stk.length, 2, ⟨#[]⟩, t.data, []⟩ = 7 + t.data.size := rfl
    omega
  split
  · split
    · omega
    · rw [costs_append, costs_one]
      have e : cost ⟨(openedS t.name st.stk).length, 0, t.name, ⟨#[]⟩, once t.attrs⟩ = 5 + 2 * t.name.size + 6 * bulkA (once t.attrs) + 4 * (once t.attrs).length := rfl
      obtain ⟨h1, h2⟩ := bulk_once t.attrs
      omega
  split
  · split
    · omega
    · split
      · exact Nat.le_add_right _ _
      · split
        · rw [costs_append, costs_one]
          have e : cost ⟨st.stk.length, 0, n_p, ⟨#[]⟩, []⟩ = 7 := rfl
          omega
        · omega
  · omega
theorem cost_tree : ∀ {T : List Tk} {st : St} {o : List Ro}, treeB st T = some o → costs o ≤ costs st.out + (6 * bulk T + 7 * T.length)
  | [], st, o, h => by
    injection h with h
    rw [← h]; exact Nat.le_add_right _ _
  | t :: r, st, o, h => by
    rw [tree_cons'] at h
    split at h
    · cases h
    · have h1 := cost_tree h
      have h2 := cost_step st t
      have e : bulk (t :: r) = bulkT t + bulk r := by unfold bulk; rw [List.map_cons, List.sum_cons]
      rw [e, List.length_cons]
      omega
theorem rb_cost {x : Ro} (h : Ro.okRow x = true) : rb x ≤ cost x := by
  unfold rb cost
  by_cases h0 : x.kind = 0
  · rw [if_pos h0]
    obtain ⟨hr, _⟩ := raw_row h h0
    have hd : x.data.size = 0 := by rw [hr]; rfl
    omega
  · rw [if_neg h0]
    have hn : x.name.size = 0 ∧ x.attrs = [] := by
      unfold Ro.okRow at h
      rw [if_neg (by simpa using h0)] at h
      simp only [Bool.and_eq_true] at h
      obtain ⟨⟨_, h1⟩, h2⟩ := h
      refine ⟨by rw [Bm.empty_name h1]; rfl, List.eq_nil_of_length_eq_zero (by have := beq_iff_eq.1 h2; omega)⟩
    rw [hn.1, hn.2]
    have e : bulkA [] = 0 := rfl
    rw [e]
    simp only [List.length_nil]
    split <;> omega
theorem cost_mem {l : List Ro} {x : Ro} (h : x ∈ l) : cost x ≤ costs l := by
  unfold costs
  induction l with
  | nil => cases h
  | cons y r ih =>
    rw [List.map_cons, List.sum_cons]
    rcases List.mem_cons.1 h with rfl | h
    · omega
    · have := ih h; omega
end Go.Proofs.YtgjlfcamgkeibaaGreatDoor.Wm

namespace Go.Proofs.YtgjlfcamgkeibaaGreatDoor.Se
set_option linter.unusedVariables false
set_option linter.unusedSimpArgs false
open Ba Ro
open Co (Cf)
open Cn (errI outL cleanL K nr jn jt Wd fo_right one fateN attrsF)
open Wm (cost costs)
open Wr (rb insideB)
open Bm (treeB)
open Bu (rdy)
open Tm (bulkA within)
def par (s : List UInt8) : Option (List Ro) := if 65536 < s.length then none else treeB ⟨[], []⟩ (within [] (rdy s))
def loopM (c : Cf) (s : Bool) : Nat → Nat → List Ro → List Ro × Nat × Int
  | 0, n, _ => ([], n, 0)
  | k + 1, n, l => if errI c l = 0 then
      match par (insideB (outL c s l) (-1)) with
      | none => ([], n + 1, 0)
      | some p => if p = outL c s l then (p, n + 1, 0) else if k = 0 then ([], n + 1, 0) else loopM c s k (n + 1) p
    else ([], n, errI c l)
def stableB (l : List Ro) : Bool := decide (par (insideB l (-1)) = some l)

theorem cost_filter (x : Ro) (p : At → Bool) (e : Int) : cost ⟨e, x.kind, x.name, x.data, x.attrs.filter p⟩ ≤ cost x := by
  have h1 : ∀ l : List At, bulkA (l.filter p) ≤ bulkA l := by
    intro l
    unfold bulkA
    induction l with
    | nil => exact Nat.le_refl _
    | cons a r ih =>
      rw [List.filter_cons]
      split
      · rw [List.map_cons, List.map_cons, List.sum_cons, List.sum_cons]; omega
      · rw [List.map_cons, List.sum_cons]; omega
  have h2 := h1 x.attrs
  have h3 := List.length_filter_le p x.attrs
  unfold cost
  show (if x.kind = 0 then _ else _) ≤ (if x.kind = 0 then _ else _)
  split
  · show 5 + 2 * x.name.size + 6 * bulkA (x.attrs.filter p) + 4 * (x.attrs.filter p).length ≤ _
    omega
  · exact Nat.le_refl _
theorem costs_cons (x : Ro) (l : List Ro) : costs (x :: l) = cost x + costs l := by unfold costs; rw [List.map_cons, List.sum_cons]
theorem costs_nil : costs [] = 0 := rfl
theorem costs_K {g : Ro → Nat} {f : Ro → List At} (hf : ∀ (x : Ro) (e : Int), cost ⟨e, x.kind, x.name, x.data, f x⟩ ≤ cost x) {d : Int} {r : List Ro} (h : Wd d r) : ∀ e : Int, costs (K g f e r) ≤ costs r := by
  refine Cn.fo_ind (P := fun d r => ∀ e : Int, costs (K g f e r) ≤ costs r) (fun d e => Nat.le_refl _) ?_ d r h
  intro d x b r h1 h0 h2 h3 h4 h5 ihb ihr e
  rw [Cn.K_tree e h1 h3 h4, Wm.costs_append, costs_cons, Wm.costs_append]
  have hr := ihr e
  unfold one
  split
  · rw [costs_nil]; omega
  · split
    · have := ihb (e + 1); have := hf x e
      rw [costs_cons]; omega
    · have := ihb e; omega
theorem cost_text (d : Int) (z : ByteArray) : cost ⟨d, 1, .empty, z, []⟩ = 6 * z.size := by
  unfold cost; rw [if_neg (show ¬ (1 : Int) = 0 by decide), if_pos rfl]
theorem costs_jt (d : Int) (a : List UInt8) (m : List Ro) : costs (jt d a m) ≤ 6 * a.length + costs m := by
  unfold jt
  split
  · omega
  · cases m with
    | nil => rw [costs_cons, cost_text, size_B]; omega
    | cons y t =>
      show costs (if _ then _ else _) ≤ _
      split
      · rename_i hy
        rw [costs_cons, costs_cons, cost_text, size_B, List.length_append, size_L]
        have : cost y = 6 * y.data.size := by unfold cost; rw [if_neg (by rw [hy.1]; decide), if_pos hy.1]
        omega
      · rw [costs_cons, cost_text, size_B]; omega
theorem costs_nr : ∀ l : List Ro, costs (nr l) ≤ costs l
  | [] => Nat.le_refl _
  | x :: l => by
    have ih := costs_nr l
    rw [Cn.nr_cons, costs_cons]
    by_cases hk : x.kind = 1
    · rw [Cn.jn_text hk]
      have h1 := costs_jt x.depth (L x.data) (nr l)
      have h2 : cost x = 6 * x.data.size := by unfold cost; rw [if_neg (by rw [hk]; decide), if_pos hk]
      rw [size_L] at h1
      omega
    · rw [Cn.jn_other hk, costs_cons]; omega
theorem costs_clean (c : Cf) (s : Bool) {l : List Ro} (h : right l = true) : costs (cleanL c s l) ≤ costs l := by
  rw [Cn.clean_nr c s h]
  exact Nat.le_trans (costs_nr _) (costs_K (fun x e => cost_filter x _ e) (fo_right h) 0)

structure Fit (l : List Ro) : Prop where
  len : l.length ≤ 4096
  row : ∀ x ∈ l, rb x ≤ 7000000
  sum : costs l ≤ 7000000
theorem Fit.nil : Fit [] := ⟨Nat.zero_le _, fun x h => (by cases h), Nat.zero_le _⟩
theorem at_bulk {l : List At} {a : At} (h : a ∈ l) : a.name.size + a.value.size ≤ bulkA l := by
  unfold bulkA
  induction l with
  | nil => cases h
  | cons y r ih =>
    rw [List.map_cons, List.sum_cons]
    rcases List.mem_cons.1 h with rfl | h
    · omega
    · have := ih h; omega
theorem Fit.small {l : List Ro} (h : Fit l) : Rz.Small l := fun x hx => by
  have := h.row x hx
  unfold rb at this
  refine ⟨by omega, by omega, fun a ha => ?_⟩
  have := at_bulk ha
  exact ⟨by omega, by omega⟩
theorem txt_costs : ∀ l : List Ro, (txt l).length ≤ costs l
  | [] => Nat.le_refl _
  | x :: l => by
    have ih := txt_costs l
    rw [txt, List.length_append, costs_cons]
    split
    · rename_i hk
      have : cost x = 6 * x.data.size := by unfold cost; rw [if_neg (by rw [hk]; decide), if_pos hk]
      rw [size_L]; omega
    · rw [List.length_nil]; omega
theorem Fit.txt {l : List Ro} (h : Fit l) : (txt l).length ≤ 1000000000 := by
  have := txt_costs l; have := h.sum; omega
theorem Fit.of {l : List Ro} (h : l.length ≤ 4096) (hr : right l = true) (hc : costs l ≤ 7000000) : Fit l :=
  ⟨h, fun x hx => by
    have h1 := Wm.rb_cost (Ro.right_ok _ 0 hr x hx)
    have h2 := Wm.cost_mem hx
    omega, hc⟩
theorem out_right (c : Cf) (s : Bool) (l : List Ro) : right (outL c s l) = true := by
  unfold outL
  split
  · rename_i h
    exact Cn.clean_right c s (check_parts (Cn.err_ok.1 h).2).2
  · rfl
theorem out_fit {c : Cf} {s : Bool} {l : List Ro} (h : Fit l) : Fit (outL c s l) := by
  refine .of ?_ (out_right c s l) ?_
  · unfold outL
    split
    · rename_i h1
      exact Nat.le_trans (Cn.clean_len c s (check_parts (Cn.err_ok.1 h1).2).2) h.len
    · exact Nat.zero_le _
  · unfold outL
    split
    · rename_i h1
      exact Nat.le_trans (costs_clean c s (check_parts (Cn.err_ok.1 h1).2).2) h.sum
    · exact Nat.zero_le _

theorem par_tree {s : List UInt8} {o : List Ro} (h : par s = some o) : s.length ≤ 65536 ∧ treeB ⟨[], []⟩ (within [] (rdy s)) = some o := by
  unfold par at h
  split at h
  · cases h
  · exact ⟨by omega, h⟩
theorem par_check {s : List UInt8} {o : List Ro} (h : par s = some o) : check o = 0 ∧ right o = true ∧ Nrm o := by
  obtain ⟨_, h⟩ := par_tree h
  obtain ⟨_, h2, h3, h4⟩ := Bm.tree_all h
  refine ⟨check_of ?_ h2, h2, ?_⟩
  · cases he : exceeds o 4096 60 with
    | false => rfl
    | true =>
      rcases (exceeds_iff _ _ _).1 he with h | ⟨x, hx, h⟩
      · have := h4.1; omega
      · have := h4.2 x hx; omega
  · rw [← h3]; exact nrm_normal _ _ 0 (Nat.le_refl _) h2
theorem par_fit {s : List UInt8} {o : List Ro} (h : par s = some o) : Fit o := by
  obtain ⟨hs, ht⟩ := par_tree h
  have hct := Wm.cost_tree ht
  have hlr := Bu.len_rdy s
  have hwl := Tm.within_len [] (rdy s)
  have hwb := Tm.bulk_within [] (rdy s)
  have hc0 : costs (⟨[], []⟩ : Bm.St).out = 0 := rfl
  obtain ⟨_, _, _, h4⟩ := Bm.tree_all ht
  exact .of h4.1 (par_check h).2.1 (by omega)
theorem par_err {c : Cf} {l : List Ro} {s : List UInt8} {o : List Ro} (h : errI c l = 0) (hp : par s = some o) : errI c o = 0 := Cn.err_ok.2 ⟨(Cn.err_ok.1 h).1, (par_check hp).1⟩
theorem out_err {c : Cf} {s : Bool} {l : List Ro} (h : errI c l = 0) : errI c (outL c s l) = 0 := by
  obtain ⟨h1, h2⟩ := Cn.err_ok.1 h
  rw [outL, if_pos h]
  exact Cn.err_ok.2 ⟨h1, Cn.clean_check c s h2⟩
theorem out_again {c : Cf} {s : Bool} {l : List Ro} (h : errI c l = 0) : outL c s (outL c s l) = outL c s l := by
  have h2 := out_err (s := s) h
  rw [outL, if_pos h2, outL, if_pos h]
  exact Cn.clean_again c s (check_parts (Cn.err_ok.1 h).2).2
theorem par_nil : par [] = some [] := by
  unfold par
  rw [if_neg (by decide)]
  have h1 : rdy [] = [] := rfl
  rw [h1, show within [] [] = [] from by rw [Tm.within_eval]; rfl]
  rfl
theorem ins_nil : insideB [] (-1) = [] := by
  unfold insideB
  rw [if_pos rfl]
  have h : Wr.rest [] (-1) 0 = [] := rfl
  rw [h, Wm.wr_nil]
theorem nil_stable : stableB [] = true := by
  unfold stableB
  rw [ins_nil, par_nil]
  exact decide_eq_true rfl
theorem err_nil {c : Cf} {l : List Ro} (h : errI c l = 0) : errI c [] = 0 := Cn.err_ok.2 ⟨(Cn.err_ok.1 h).1, by decide⟩
theorem out_nil (c : Cf) (s : Bool) : outL c s [] = [] := by
  unfold outL
  split
  · show normal (K _ _ 0 []) = []
    rw [Cn.K_nil, normal_nil]
  · rfl
theorem loop_fit (c : Cf) (s : Bool) : ∀ (k n : Nat) (l : List Ro), Fit l → Fit (loopM c s k n l).1
  | 0, n, l, _ => Fit.nil
  | k + 1, n, l, h => by
    rw [loopM]
    split
    · cases hp : par (insideB (outL c s l) (-1)) with
      | none => exact Fit.nil
      | some p =>
        have hf := par_fit hp
        show Fit (if p = _ then _ else _ : List Ro × Nat × Int).1
        split
        · exact hf
        · split
          · exact Fit.nil
          · exact loop_fit c s k (n + 1) p hf
    · exact Fit.nil
theorem loop_err {c : Cf} {s : Bool} {k n : Nat} {l : List Ro} (h : errI c l ≠ 0) : loopM c s (k + 1) n l = ([], n, errI c l) := by
  rw [loopM, if_neg h]
theorem loop_ok (c : Cf) (s : Bool) : ∀ (k n : Nat) (l : List Ro), errI c l = 0 → ∃ T m, loopM c s (k + 1) n l = (T, m, 0) ∧ n < m ∧ m ≤ n + k + 1 ∧ (T = [] ∨ ∃ x, errI c x = 0 ∧ T = outL c s x) ∧ par (insideB T (-1)) = some T ∧ (m = n + 1 → T = [] ∨ T = outL c s l)
  | k, n, l, h => by
    have hnil : par (insideB [] (-1)) = some [] := by have := nil_stable; unfold stableB at this; exact of_decide_eq_true this
    rw [loopM, if_pos h]
    cases hp : par (insideB (outL c s l) (-1)) with
    | none => exact ⟨[], n + 1, rfl, by omega, by omega, .inl rfl, hnil, fun _ => .inl rfl⟩
    | some p =>
      show ∃ T m, (if p = _ then _ else _ : List Ro × Nat × Int) = _ ∧ _
      by_cases he : p = outL c s l
      · rw [if_pos he]
        exact ⟨p, n + 1, rfl, by omega, by omega, .inr ⟨l, h, he⟩, by rw [he] at hp ⊢; exact hp, fun _ => .inr he⟩
      · rw [if_neg he]
        cases k with
        | zero => exact ⟨[], n + 1, rfl, by omega, by omega, .inl rfl, hnil, fun _ => .inl rfl⟩
        | succ k =>
          rw [if_neg (by omega)]
          obtain ⟨T, m, h1, h2, h3, h4, h5, _⟩ := loop_ok c s k (n + 1) p (par_err h hp)
          exact ⟨T, m, h1, by omega, by omega, h4, h5, fun e => by omega⟩
theorem loop_one {c : Cf} {s : Bool} {k n : Nat} {T : List Ro} (he : errI c T = 0) (h : outL c s T = T) (hp : par (insideB T (-1)) = some T) : loopM c s (k + 1) n T = (T, n + 1, 0) := by
  rw [loopM, if_pos he, h, hp]
  show (if T = T then _ else _ : List Ro × Nat × Int) = _
  rw [if_pos rfl]
theorem loop_again {c : Cf} {s : Bool} {k n : Nat} {l : List Ro} (h : errI c l = 0) : ∃ T m, loopM c s (k + 1) n l = (T, m, 0) ∧ n < m ∧ m ≤ n + k + 1 ∧ errI c T = 0 ∧ outL c s T = T ∧ par (insideB T (-1)) = some T ∧ ∀ j i, loopM c s (j + 1) i T = (T, i + 1, 0) := by
  obtain ⟨T, m, h1, h2, h3, h4, h5, _⟩ := loop_ok c s k n l h
  have h6 : errI c T = 0 ∧ outL c s T = T := by
    rcases h4 with rfl | ⟨x, hx, rfl⟩
    · exact ⟨err_nil h, out_nil c s⟩
    · exact ⟨out_err hx, out_again hx⟩
  exact ⟨T, m, h1, h2, h3, h6.1, h6.2, h5, fun j i => loop_one h6.1 h6.2 h5⟩
theorem out_safe {c : Cf} {l : List Ro} (h : outL c true l = l) : Rk.safeB l = true := by
  unfold outL at h
  split at h
  · rename_i he
    have := Cn.clean_safe c (check_parts (Cn.err_ok.1 he).2).2
    rwa [h] at this
  · rw [← h]; rfl
theorem loop_first {c : Cf} {s : Bool} {k n : Nat} {l : List Ro} (h : errI c l = 0) : (stableB (outL c s l) = true → loopM c s (k + 1) n l = (outL c s l, n + 1, 0)) ∧ (stableB (outL c s l) = false → ∃ T m, loopM c s (k + 1) n l = (T, m, 0) ∧ (n + 1 < m ∨ T = [])) := by
  unfold stableB
  refine ⟨fun hp => ?_, fun hp => ?_⟩
  · have hp := of_decide_eq_true hp
    rw [loopM, if_pos h, hp]
    show (if _ = _ then _ else _ : List Ro × Nat × Int) = _
    rw [if_pos rfl]
  · have hp := of_decide_eq_false hp
    obtain ⟨T, m, h1, h2, h3, h4, h5, h6⟩ := loop_ok c s k n l h
    refine ⟨T, m, h1, ?_⟩
    by_cases hm : m = n + 1
    · rcases h6 hm with h | h
      · exact .inr h
      · rw [h] at h5; exact absurd h5 hp
    · exact .inl (by omega)
end Go.Proofs.YtgjlfcamgkeibaaGreatDoor.Se

namespace Go.Proofs.YtgjlfcamgkeibaaGreatDoor.Bu
set_option maxRecDepth 100000
set_option linter.unusedVariables false
set_option linter.unusedSimpArgs false
open Go.RowKit Ba Fm Fo Nm Bm
open Ro (At Ro Cw ros Fr Ow Rv cells)
open Tm (Tk within bulk bulkT bulkA)
open To (Tw tks)
open Re (Tab)
theorem readyW (s : ByteArray) (w : World) (hs : s.size ≤ 65536) :
    Calls Tryz.prog 76 #[.string s] w fun e w' => e = .returned (.string (B (rdy (L s)))) ∧ Below w.heap.size w w' := by
  have hsz := size_L s
  have hdl := Ch.len_dL (L s)
  refine (Ch.ready_any s w (by omega) (show (Ch.dL (L s)).length ≤ _ from by omega)).mono ?_
  rintro e w1 ⟨rfl, b1⟩
  exact ⟨rfl, b1⟩
set_option maxRecDepth 100000 in
set_option maxHeartbeats 1000000 in
theorem InW_any (s nm : ByteArray) (w : World) (hs : s.size ≤ 65536) (hn : nm.size ≤ 140737488351232) (hT : Tab w) (hwl : (within (L nm) (rdy (L s))).length ≤ 700000) :
    Calls Tryz.prog 40 #[.string s, .string nm] w fun e w' => SaysM w (treeB ⟨[], []⟩ (within (L nm) (rdy (L s)))) e w' := by
  have h : decide ((65536 : Int) < (s.size : Int)) = false := decide_eq_false (by omega)
  have hsz := size_L s
  have hdl := Ch.len_dL (L s)
  have hrl := len_rdy (L s)
  have HT := Lib.hid hT
  clear hT
  go_enter Tryz.func40, Tryz.ntmps40
  go_wp2_with fail
  refine (readyW s w hs).mono ?_
  rintro e w1 ⟨rfl, b1⟩
  have hT1 := HT.out.below b1
  have HB1 := Lib.hid b1
  clear b1
  go_wp2_with fail
  refine (To.In_any (B (rdy (L s))) nm w1 (by rw [size_B]; omega) hn hT1).mono ?_
  rintro e w2 ⟨V, l, rfl, ho, hl, b2⟩
  rw [L_B] at hl
  obtain ⟨A, c, rfl, hc, _, _, hr⟩ := ho.form
  have hwb := Tm.bulk_within (L nm) (rdy (L s))
  have hl' : tks l = within (L nm) (rdy (L s)) := hl
  have hll : l.length ≤ 700000 := by rw [← To.len_tks, hl']; omega
  have hds : dsum (tks l) ≤ 1000000000 := by
    have := dsum_bulk (tks l)
    rw [hl'] at this ⊢
    omega
  have hat : ∀ x ∈ l, x.tk.attrs.length ≤ 1000000 := fun x hx => by
    have h1 := Tm.bulk_mem (l := tks l) (t := x.tk) (List.mem_map.2 ⟨x, hx, rfl⟩)
    rw [hl'] at h1
    unfold bulkT at h1
    omega
  have HL := Lib.hid hl'; have HR := Lib.hid hr; have HB2 := Lib.hid (bt HB1.out b2)
  clear hl hl' hr ho b2 hwb hT1 hdl hrl hsz hwl
  go_wp2_with fail
  refine (Tree_any A c l w2 HR.out hc hll hds hat).mono ?_
  intro e w3 h3
  rw [HL.out] at h3
  rcases h3.cases with ⟨ht, rfl, b3⟩ | ⟨o, v, y, ht, rfl, how, hfr, hros, hmi, b3⟩
  · have HTR := Lib.hid ht
    clear ht h3
    go_wp2
    go_ret2
    rw [HTR.out]
    exact ⟨rfl, bt HB2.out b3⟩
  · have HTR := Lib.hid ht; have HO := Lib.hid how; have HRO := Lib.hid hros; have HB3 := Lib.hid (bt HB2.out b3)
    clear ht h3 how hfr hros b3
    go_wp2
    go_ret2
    rw [HTR.out]
    exact ⟨⟨v, y, rfl, HO.out.rv (by rw [HRO.out]; exact tree_held HTR.out), HRO.out, hmi⟩, HB3.out⟩

end Go.Proofs.YtgjlfcamgkeibaaGreatDoor.Bu

namespace Go.Proofs.YtgjlfcamgkeibaaGreatDoor.Se
set_option maxRecDepth 100000
set_option linter.unusedVariables false
set_option linter.unusedSimpArgs false
open Go.RowKit Ba Ro
open Wr (rb insideB rsum)
open Bu (SaysM rdy)
open Re (Tab)
theorem rsum_le {l : List Ro} {n : Nat} (h : ∀ x ∈ l, rb x ≤ n) : rsum l ≤ l.length * n := by
  unfold rsum
  induction l with
  | nil => simp
  | cons x r ih =>
    have h1 := h x List.mem_cons_self
    have h2 := ih fun y hy => h y (List.mem_cons_of_mem _ hy)
    rw [List.map_cons, List.sum_cons, List.length_cons, Nat.succ_mul]
    omega
theorem Fit.wide {l : List Ro} (h : Fit l) (i : Int) : (insideB l i).length ≤ 200000000000 := by
  have h1 := Wm.len_inside l i
  have h2 := rsum_le h.row
  have h3 := Nat.mul_le_mul_right 7000000 h.len
  have h4 := h.len
  omega
set_option maxRecDepth 100000 in
set_option maxHeartbeats 400000 in
theorem inBig (s nm : ByteArray) (w : World) (hs : 65536 < s.size) (hz : s.size ≤ 140737488355328) :
    Calls Tryz.prog 40 #[.string s, .string nm] w fun e w' => e = .returned (.tuple #[.slice none 0 0, .int .i64 2]) ∧ Below w.heap.size w w' := by
  have h : decide ((65536 : Int) < (s.size : Int)) = true := decide_eq_true (by omega)
  go_enter Tryz.func40, Tryz.ntmps40
  go_wp2
  go_ret2
  exact ⟨rfl, Below.refl _ _⟩
set_option maxRecDepth 100000 in
set_option maxHeartbeats 400000 in
theorem parseM (s : ByteArray) (w : World) (r : Option (List Ro)) (hs : s.size ≤ 65536) (hT : Tab w) (hwl : (Tm.within [] (rdy (L s))).length ≤ 700000) (hr : Bm.treeB ⟨[], []⟩ (Tm.within [] (rdy (L s))) = r) :
    Calls Tryz.prog 21 #[.string s] w fun e w' => SaysM w r e w' := by
  have HC := Lib.hid (Bu.InW_any s ⟨#[]⟩ w hs (by decide) hT hwl)
  have e0 : Bm.treeB ⟨[], []⟩ (Tm.within (L ⟨#[]⟩) (rdy (L s))) = r := hr
  rw [e0] at HC
  clear hr e0
  go_enter Tryz.func21, Tryz.ntmps21
  go_wp2_with fail
  refine HC.out.mono ?_
  intro e w1 h1
  cases r with
  | none =>
    obtain ⟨rfl, b1⟩ := h1
    go_wp2
    go_ret2
    exact ⟨rfl, b1⟩
  | some o =>
    obtain ⟨⟨v, y, rfl, hv, hy, hm⟩, b1⟩ := h1
    have HV := Lib.hid hv; have HY := Lib.hid hy; have HM := Lib.hid hm
    clear hv hy hwl hm HC
    go_wp2
    go_ret2
    exact ⟨⟨v, y, rfl, HV.out, HY.out, HM.out⟩, b1⟩
set_option maxRecDepth 100000 in
set_option maxHeartbeats 400000 in
theorem parse14 (s : ByteArray) (w : World) (r : Option (List Ro)) (hs : s.size ≤ 200000000000) (hT : Tab w) (hr : par (L s) = r) :
    Calls Tryz.prog 21 #[.string s] w fun e w' => SaysM w r e w' := by
  unfold par at hr
  rw [size_L] at hr
  by_cases h : 65536 < s.size
  · rw [if_pos h] at hr
    subst hr
    go_enter Tryz.func21, Tryz.ntmps21
    go_wp2_with fail
    refine (inBig s _ w h (by omega)).mono ?_
    rintro e w1 ⟨rfl, hb⟩
    go_wp2
    go_ret2
    exact ⟨rfl, hb⟩
  · rw [if_neg h] at hr
    have hlr := Bu.len_rdy (L s)
    have hwl := Tm.within_len [] (rdy (L s))
    rw [size_L] at hlr
    exact parseM s w r (by omega) hT (by omega) hr
theorem write14 (v : Value) (x : List Cw) (w : World) (h : Rv w v x) (hf : Fit (ros x)) (q : ByteArray) (hq : B (insideB (ros x) (-1)) = q) :
    Calls Tryz.prog 22 #[v] w fun e w' => e = .returned (.string q) ∧ Below w.heap.size w w' := by
  obtain ⟨A, c, rfl, hc, hm, hrr, hh⟩ := h
  subst hq
  have hl := hf.len
  rw [len_ros] at hl
  exact Wr.Rows_any A c x w hrr hc (by omega) (fun y hy => Nat.le_trans (hf.row y.ro (List.mem_map_of_mem hy)) (by omega)) (Nat.le_trans (hf.wide (-1)) (by omega))
set_option maxRecDepth 100000 in
set_option maxHeartbeats 400000 in
theorem again14 (v : Value) (x : List Cw) (w : World) (h : Rv w v x) (hf : Fit (ros x)) (hT : Tab w) (r : Option (List Ro)) (hr : par (insideB (ros x) (-1)) = r) :
    Calls Tryz.prog 38 #[v] w fun e w' => SaysM w r e w' := by
  obtain ⟨S, hS⟩ : ∃ S, B (insideB (ros x) (-1)) = S := ⟨_, rfl⟩
  have hLS : insideB (ros x) (-1) = L S := by rw [← hS, L_B]
  have hw := hf.wide (-1)
  rw [hLS, size_L] at hw
  rw [hLS] at hr
  have HT := Lib.hid hT; have HR := Lib.hid hr; have HW := Lib.hid hw; have HC := Lib.hid (write14 v x w h hf S hS)
  clear hT hr hw hLS hS h hf
  go_enter Tryz.func38, Tryz.ntmps38
  go_wp2_with fail
  refine HC.out.mono ?_
  rintro e w1 ⟨rfl, b1⟩
  have HB1 := Lib.hid b1; clear b1
  go_wp2_with fail
  refine (parse14 S w1 r HW.out (HT.out.below HB1.out) HR.out).mono ?_
  intro e w2 h2
  cases r with
  | none =>
    obtain ⟨rfl, b2⟩ := h2
    go_wp2
    go_ret2
    exact ⟨rfl, bt HB1.out b2⟩
  | some o =>
    obtain ⟨⟨u, y, rfl, hv, hy, hm⟩, b2⟩ := h2
    have HV := Lib.hid hv; have HY := Lib.hid hy; have HB2 := Lib.hid (bt HB1.out b2); have HM := Lib.hid hm
    clear hv hy hm b2 HR
    go_wp2
    go_ret2
    exact ⟨⟨u, y, rfl, HV.out, HY.out, HM.out⟩, HB2.out⟩
set_option maxRecDepth 100000 in
set_option maxHeartbeats 400000 in
theorem stable14 (v : Value) (x : List Cw) (w : World) (h : Rv w v x) (hf : Fit (ros x)) (hT : Tab w) (q : Bool) (hq : stableB (ros x) = q) :
    Calls Tryz.prog 17 #[v] w fun e w' => e = .returned (.bool q) ∧ Below w.heap.size w w' := by
  obtain ⟨r, hr⟩ : ∃ r, par (insideB (ros x) (-1)) = r := ⟨_, rfl⟩
  unfold stableB at hq
  rw [hr] at hq
  have hl := hf.len
  rw [len_ros] at hl
  have HV := Lib.hid h; have HQ := Lib.hid hq; have HC := Lib.hid (again14 v x w h hf hT r hr); have HR := Lib.hid hr
  clear h hq hf hT hr
  go_enter Tryz.func17, Tryz.ntmps17
  go_wp2_with fail
  refine HC.out.mono ?_
  intro e w1 h1
  cases r with
  | none =>
    obtain ⟨rfl, b1⟩ := h1
    have HB := Lib.hid b1
    clear HC b1
    go_wp2
    go_ret
    exact ⟨by rw [← HQ.out]; rfl, HB.out⟩
  | some o =>
    obtain ⟨⟨u, y, rfl, hv, hy, -⟩, b1⟩ := h1
    have hof := (par_fit HR.out).len
    rw [← hy, len_ros] at hof
    have hqq : decide (ros y = ros x) = q := by rw [← HQ.out, hy]; simp
    have HS := Lib.hid (same1 u v y x w1 q hv (HV.out.below b1) (by omega) (by omega) hqq); have HB1 := Lib.hid b1
    clear hv hy b1 HC hqq
    go_wp2_with fail
    refine HS.out.mono ?_
    rintro e w2 ⟨rfl, b2⟩
    go_wp2
    go_ret
    exact ⟨rfl, bt HB1.out b2⟩

end Go.Proofs.YtgjlfcamgkeibaaGreatDoor.Se

namespace Go.Proofs.YtgjlfcamgkeibaaGreatDoor.Co
set_option maxRecDepth 100000
set_option linter.unusedVariables false
set_option linter.unusedSimpArgs false
open Go.RowKit Ba Fm Fo Nm Rk
structure Pw where
  pe : Pe
  A : Option Addr
  c : Nat
def pcells (x : Pw) : List Value := [.string x.pe.el, .slice x.A x.pe.at_.length x.c]
theorem len_pcells (x : Pw) : (pcells x).length = 2 := rfl
abbrev perV (x : Pw) : Value := .agg #[.string x.pe.el, .slice x.A x.pe.at_.length x.c]
def pes (l : List Pw) : List Pe := l.map Pw.pe
theorem len_pes (l : List Pw) : (pes l).length = l.length := List.length_map _
theorem pes_append (a b : List Pw) : pes (a ++ b) = pes a ++ pes b := by simp [pes]
theorem pes_take (l : List Pw) (k : Nat) : (pes l).take k = pes (l.take k) := by simp [pes, List.map_take]
def Sx (w : World) (N : Nat) (x : Pw) : Prop := Sv w N (.slice x.A x.pe.at_.length x.c) x.pe.at_
def Pr (w : World) (N : Nat) (A : Option Addr) (l : List Pw) : Prop :=
  (0 < l.length → ∃ b off, A = some ⟨b, off, none⟩ ∧ b < N ∧ ∀ j (h : j < l.length), w.rangeAt b (off + j * 2) (pcells l[j])) ∧ ∀ x ∈ l, Sx w N x
def Pv (w : World) (N : Nat) (v : Value) (l : List Pw) : Prop := ∃ A c, v = .slice A l.length c ∧ l.length ≤ c ∧ (A = none → c = 0) ∧ Pr w N A l

theorem range_keep12 {w w' : World} {b o : Nat} {cs : List Value} (h : w.rangeAt b o cs) (hk : ∀ o, w'.cell? ⟨b, o, none⟩ = w.cell? ⟨b, o, none⟩) : w'.rangeAt b o cs := fun j v hv => (hk _).trans (h j v hv)
theorem Sx.below {w w' : World} {N M : Nat} {x : Pw} (h : Sx w N x) (hb : Below M w w') (hN : N ≤ M := by exact Nat.le_refl _) : Sx w' N x := Sv.below h hb hN
theorem Sx.more {w : World} {N M : Nat} {x : Pw} (h : Sx w N x) (hN : N ≤ M) : Sx w M x := Sv.more h hN
theorem Pr.below {w w' : World} {N M : Nat} {A : Option Addr} {l : List Pw} (h : Pr w N A l) (hb : Below M w w') (hN : N ≤ M := by exact Nat.le_refl _) : Pr w' N A l :=
  ⟨fun h0 => by
    obtain ⟨b, off, e, hbN, hc⟩ := h.1 h0
    exact ⟨b, off, e, hbN, fun j hj => range_keep12 (hc j hj) fun o => hb.cell (p := ⟨b, o, none⟩) (show b < M by omega)⟩, fun x hx => (h.2 x hx).below hb hN⟩
theorem Pr.more {w : World} {N M : Nat} {A : Option Addr} {l : List Pw} (h : Pr w N A l) (hN : N ≤ M) : Pr w M A l :=
  ⟨fun h0 => by
    obtain ⟨b, off, e, hb, hc⟩ := h.1 h0
    exact ⟨b, off, e, by omega, hc⟩, fun x hx => (h.2 x hx).more hN⟩
theorem Pr.nil (w : World) (N : Nat) (A : Option Addr) : Pr w N A [] := ⟨fun h => absurd h (by simp), fun _ h => by simp at h⟩
theorem Pv.below {w w' : World} {N M : Nat} {v : Value} {l : List Pw} (h : Pv w N v l) (hb : Below M w w') (hN : N ≤ M := by exact Nat.le_refl _) : Pv w' N v l := by
  obtain ⟨A, c, h1, h2, h3, h4⟩ := h
  exact ⟨A, c, h1, h2, h3, h4.below hb hN⟩
theorem Pv.more {w : World} {N M : Nat} {v : Value} {l : List Pw} (h : Pv w N v l) (hN : N ≤ M) : Pv w M v l := by
  obtain ⟨A, c, h1, h2, h3, h4⟩ := h
  exact ⟨A, c, h1, h2, h3, h4.more hN⟩
theorem Pr.at_ {w : World} {N : Nat} {A : Option Addr} {l : List Pw} (h : Pr w N A l) (k : Nat) (hk : k < l.length) :
    ∃ b off x, A = some ⟨b, off, none⟩ ∧ b < N ∧ l[k]? = some x ∧ w.rangeAt b (off + k * 2) [.string x.pe.el, .slice x.A x.pe.at_.length x.c] ∧ Sx w N x ∧ x ∈ l := by
  obtain ⟨b, off, e, hb, hc⟩ := h.1 (by omega)
  exact ⟨b, off, l[k], e, hb, List.getElem?_eq_getElem hk, hc k hk, h.2 _ (List.getElem_mem _), List.getElem_mem _⟩
theorem info_per : (Tryz.prog.info? 57).map (fun i => (i.zero, i.size, i.bytes)) = some (some (.agg #[.string .empty, .slice none 0 0]), 2, 40) := by kernel_rfl
theorem range2p {w : World} {b o : Nat} {v0 v1 : Value} (h : w.rangeAt b o [v0, v1]) : w.cell? ⟨b, o, none⟩ = some v0 ∧ w.cell? ⟨b, o + 1, none⟩ = some v1 := ⟨h 0 _ rfl, h 1 _ rfl⟩

/-! ### A configuration -/
abbrev confV (c : Cf) (vE vR vA vP : Value) : Value := .agg #[.bool c.allow, .bool c.attrsAllow, vE, vR, vA, vP, .bool c.comments, .bool c.dataAttrs]
abbrev confO (c : Cf) (vE vR vA vP : Value) : Obj := .cells #[.bool c.allow, .bool c.attrsAllow, vE, vR, vA, vP, .bool c.comments, .bool c.dataAttrs] 26
theorem size_conf : (Tryz.prog.info? 26).map (·.size) = some 8 := by kernel_rfl
structure Cp (w : World) (N : Nat) (c : Cf) (vE vR vA vP : Value) (l : List Pw) : Prop where
  e : Sv w N vE c.els
  r : Sv w N vR c.reps
  a : Sv w N vA c.ats
  p : Pv w N vP l
  m : pes l = c.per
def Cv (w : World) (N : Nat) (v : Value) (c : Cf) : Prop := ∃ vE vR vA vP l, v = confV c vE vR vA vP ∧ Cp w N c vE vR vA vP l
theorem Cp.below {w w' : World} {N M : Nat} {c : Cf} {vE vR vA vP : Value} {l : List Pw} (h : Cp w N c vE vR vA vP l) (hb : Below M w w') (hN : N ≤ M := by exact Nat.le_refl _) : Cp w' N c vE vR vA vP l := ⟨h.e.below hb hN, h.r.below hb hN, h.a.below hb hN, h.p.below hb hN, h.m⟩
theorem Cp.more {w : World} {N M : Nat} {c : Cf} {vE vR vA vP : Value} {l : List Pw} (h : Cp w N c vE vR vA vP l) (hN : N ≤ M) : Cp w M c vE vR vA vP l := ⟨h.e.more hN, h.r.more hN, h.a.more hN, h.p.more hN, h.m⟩
theorem Cp.on {w w' : World} {c : Cf} {vE vR vA vP : Value} {l : List Pw} (h : Cp w w.heap.size c vE vR vA vP l) (hb : Below w.heap.size w w') : Cp w' w'.heap.size c vE vR vA vP l := (h.below hb).more hb.size
theorem Cv.below {w w' : World} {N M : Nat} {v : Value} {c : Cf} (h : Cv w N v c) (hb : Below M w w') (hN : N ≤ M := by exact Nat.le_refl _) : Cv w' N v c := by
  obtain ⟨vE, vR, vA, vP, l, e, h⟩ := h
  exact ⟨vE, vR, vA, vP, l, e, h.below hb hN⟩
theorem Cv.more {w : World} {N M : Nat} {v : Value} {c : Cf} (h : Cv w N v c) (hN : N ≤ M) : Cv w M v c := by
  obtain ⟨vE, vR, vA, vP, l, e, h⟩ := h
  exact ⟨vE, vR, vA, vP, l, e, h.more hN⟩
theorem Cv.on {w w' : World} {v : Value} {c : Cf} (h : Cv w w.heap.size v c) (hb : Below w.heap.size w w') : Cv w' w'.heap.size v c := (h.below hb).more hb.size
theorem sv_on {w w' : World} {v : Value} {l : List ByteArray} (h : Sv w w.heap.size v l) (hb : Below w.heap.size w w') : Sv w' w'.heap.size v l := (Sv.below h hb (Nat.le_refl _)).more hb.size
theorem Pv.on {w w' : World} {v : Value} {l : List Pw} (h : Pv w w.heap.size v l) (hb : Below w.heap.size w w') : Pv w' w'.heap.size v l := (h.below hb).more hb.size
def Bx (w : World) (b : Nat) (c : Cf) (vE vR vA vP : Value) : Prop := w.rangeAt b 0 [.bool c.allow, .bool c.attrsAllow, vE, vR, vA, vP, .bool c.comments, .bool c.dataAttrs]
theorem Bx.new (w : World) (c : Cf) (vE vR vA vP : Value) : Bx (w.alloc (confO c vE vR vA vP)) w.heap.size c vE vR vA vP := fun j v hv => by
  rw [Nat.zero_add, World.cell?_alloc_mark]
  match j, hv with
  | 0, hv | 1, hv | 2, hv | 3, hv | 4, hv | 5, hv | 6, hv | 7, hv => exact hv
  | j + 8, hv => simp at hv
theorem Bx.below {w w' : World} {b M : Nat} {c : Cf} {vE vR vA vP : Value} (h : Bx w b c vE vR vA vP) (hb : Below M w w') (hM : b < M) : Bx w' b c vE vR vA vP := range_keep12 h fun o => hb.cell (p := ⟨b, o, none⟩) hM
theorem Bx.at_ {w : World} {b : Nat} {c : Cf} {vE vR vA vP : Value} (h : Bx w b c vE vR vA vP) :
    w.cell? ⟨b, 0, none⟩ = some (.bool c.allow) ∧ w.cell? ⟨b, 1, none⟩ = some (.bool c.attrsAllow) ∧ w.cell? ⟨b, 2, none⟩ = some vE ∧ w.cell? ⟨b, 3, none⟩ = some vR ∧ w.cell? ⟨b, 4, none⟩ = some vA ∧ w.cell? ⟨b, 5, none⟩ = some vP ∧ w.cell? ⟨b, 6, none⟩ = some (.bool c.comments) ∧ w.cell? ⟨b, 7, none⟩ = some (.bool c.dataAttrs) :=
  ⟨h 0 _ rfl, h 1 _ rfl, h 2 _ rfl, h 3 _ rfl, h 4 _ rfl, h 5 _ rfl, h 6 _ rfl, h 7 _ rfl⟩
theorem below_new12 (w : World) (o : Obj) : Below w.heap.size w (w.alloc o) := (Below.refl _ _).alloc (Nat.le_refl _) _
theorem bel_eq12 {w w1 w2 : World} {n : Nat} (h : Below n w w1) (he : w2.heap = w1.heap) (ho : w2.os = w1.os) (ht : w2.tape = w1.tape) (hp : w2.output = w1.output) : Below n w w2 := ⟨ho.trans h.os, ht.trans h.tape, hp.trans h.output, by rw [he]; exact h.size, fun b hb => by rw [he]; exact h.block b hb⟩
def Hb (w : World) (g : Nat) (cs : Array Value) : Prop := w.heap[g]? = some (.cells cs 26)
theorem gcell12 (w : World) (b j : Nat) (u : Value) : w.grownBy (w.setCell ⟨b, j, none⟩ u) (some b) :=
  ⟨rfl, rfl, rfl, by simp [World.setCell], fun k _ hk => Below.heap_setCell _ _ _ _ (fun e => hk (by simp [e]))⟩
theorem gcells12 (b : Nat) : ∀ (vs : List Value) (o : Nat) (w : World), w.grownBy (w.setCells b o vs) (some b)
  | [], _, w => World.grownBy.refl w _
  | v :: r, o, w => (gcell12 w b o v).trans (gcells12 b r (o + 1) _)
theorem Hb.new (w : World) (cs : Array Value) : Hb (w.alloc (.cells cs 26)) w.heap.size cs := heap_alloc_new w _
theorem Hb.keep {w w' : World} {g : Nat} {cs : Array Value} (h : Hb w g cs) (hb : w'.heap[g]? = w.heap[g]?) : Hb w' g cs := hb.trans h
theorem Hb.lt {w : World} {g : Nat} {cs : Array Value} (h : Hb w g cs) : g < w.heap.size := (Array.getElem?_eq_some_iff.1 h).1
theorem Hb.below {w w' : World} {g M : Nat} {cs : Array Value} (h : Hb w g cs) (hb : Below M w w') (hM : g < M) : Hb w' g cs := h.keep (hb.block g hM)
theorem Hb.on {w w' : World} {g : Nat} {cs : Array Value} (h : Hb w g cs) (hb : Below w.heap.size w w') : Hb w' g cs := h.below hb h.lt
theorem Hb.set {w : World} {g : Nat} {cs : Array Value} (h : Hb w g cs) (j : Nat) (u : Value) (hj : j < cs.size := by simp) : Hb (w.setCell ⟨g, j, none⟩ u) g (cs.set j u hj) := by
  unfold Hb at h ⊢
  simp [World.setCell, Array.getElem?_modify, h, Array.setIfInBounds, hj]
theorem Hb.cell {w : World} {g : Nat} {cs : Array Value} (h : Hb w g cs) (j : Nat) (u : Value) (hu : cs[j]? = some u) : w.cell? ⟨g, j, none⟩ = some u := by
  rw [cell_of_row w g j _ _ _ h]
  exact hu
theorem Hb.f {w : World} {g : Nat} {cs : Array Value} (h : Hb w g cs) (j : Nat) : w.frozen? ⟨g, j, none⟩ = false := by
  unfold Hb at h
  simp [World.frozen?, h]
theorem Hb.there {w : World} {g : Nat} {cs : Array Value} (h : Hb w g cs) (n : Nat) (hn : n = cs.size) : w.there g 0 n := fun j hj => by
  rw [Nat.zero_add]
  exact ⟨by rw [h.cell j _ (Array.getElem?_eq_getElem (hn ▸ hj))]; rfl, h.f j⟩
theorem Hb.range {w : World} {g : Nat} {cs : Array Value} (h : Hb w g cs) : w.rangeAt g 0 cs.toList := fun j u hu => by
  rw [Nat.zero_add]
  exact h.cell j u (by rwa [Array.getElem?_toList] at hu)
structure Sm (c : Cf) : Prop where
  e : c.els.length ≤ 1000
  r : c.reps.length ≤ 1000
  a : c.ats.length ≤ 1000
  p : c.per.length ≤ 1000
  pa : ∀ p ∈ c.per, p.at_.length ≤ 1000
  es : ∀ s ∈ c.els, s.size ≤ 140737488355328
  rs : ∀ s ∈ c.reps, s.size ≤ 140737488355328
  as_ : ∀ s ∈ c.ats, s.size ≤ 140737488355328
  ps : ∀ p ∈ c.per, p.el.size ≤ 140737488355328 ∧ ∀ s ∈ p.at_, s.size ≤ 140737488355328

end Go.Proofs.YtgjlfcamgkeibaaGreatDoor.Co

namespace Go.Proofs.YtgjlfcamgkeibaaGreatDoor.Co
set_option maxRecDepth 100000
set_option linter.unusedVariables false
set_option linter.unusedSimpArgs false
open Go.RowKit Ba Fm Fo
theorem flat_at12 {α : Type} (f : α → List Value) (m : Nat) (hm : ∀ x, (f x).length = m) : ∀ (l : List α) (j i : Nat) (h : j < l.length), i < m → (l.flatMap f)[j * m + i]? = (f l[j])[i]?
  | [], j, _, h, _ => absurd h (by simp)
  | x :: r, 0, i, _, hi => by
    rw [List.flatMap_cons, List.getElem?_append_left (by rw [hm]; omega)]
    simp
  | x :: r, j + 1, i, h, hi => by
    rw [List.flatMap_cons, List.getElem?_append_right (by rw [hm, Nat.add_mul]; omega), hm, show (j + 1) * m + i - m = j * m + i from by rw [Nat.add_mul]; omega]
    rw [flat_at12 f m hm r j i (by simpa using h) hi]
    rfl
def Ap (w : World) (N : Nat) (x : Pw) : Prop := 0 < x.pe.at_.length → ∃ b off, x.A = some ⟨b, off, none⟩ ∧ (b < N ∨ ∃ cs fr, w.heap[b]? = some (.cells cs 9 fr))
def Fp (N : Nat) (w : World) (x : Pw) : Prop := Sown N w (.slice x.A x.pe.at_.length x.c) x.pe.at_
def Po (N : Nat) (w : World) (v : Value) (l : List Pw) : Prop := w.ownsRow N 57 2 v l.length (l.flatMap pcells) ∧ ∀ x ∈ l, Sx w w.heap.size x ∧ Ap w N x

theorem Fp.sx {N : Nat} {w : World} {x : Pw} (h : Fp N w x) : Sx w w.heap.size x := sv_own h
theorem Fp.ap {N M : Nat} {w : World} {x : Pw} (h : Fp N w x) : Ap w M x := fun h0 => by
  rcases h.2 with ⟨hv, hn⟩ | ⟨g, cap, cur, hv, hg, hh, _⟩
  · omega
  · injection hv with e1
    exact ⟨g, 0, e1, .inr ⟨_, _, hh⟩⟩
theorem Fp.below {N M : Nat} {w w' : World} {x : Pw} (h : Fp N w x) (hb : Below M w w') (hM : w.heap.size ≤ M := by exact Nat.le_refl _) : Fp N w' x := Sown.below h hb hM
theorem Fp.mono {N N' : Nat} {w : World} {x : Pw} (h : Fp N w x) (hN : N' ≤ N) : Fp N' w x := Sown.mono h hN
theorem Ap.below {N M : Nat} {w w' : World} {x : Pw} (h : Ap w N x) (hb : Below M w w') (hM : w.heap.size ≤ M := by exact Nat.le_refl _) : Ap w' N x := fun h0 => by
  obtain ⟨b, off, e, h⟩ := h h0
  refine ⟨b, off, e, ?_⟩
  rcases h with h | ⟨cs, fr, h⟩
  · exact .inl h
  · refine .inr ⟨cs, fr, ?_⟩
    have hlt : b < w.heap.size := (Array.getElem?_eq_some_iff.1 h).1
    rw [hb.block b (by omega)]
    exact h
theorem Ap.more {N M : Nat} {w : World} {x : Pw} (h : Ap w N x) (hN : N ≤ M) : Ap w M x := fun h0 => by
  obtain ⟨b, off, e, h⟩ := h h0
  exact ⟨b, off, e, h.imp (fun h => by omega) id⟩
theorem Sx.apart {N : Nat} {w : World} {x : Pw} (h : Sx w N x) : Ap w N x := fun h0 => by
  obtain ⟨b, off, e, hb, _⟩ := Sv.rd h h0
  exact ⟨b, off, e, .inl hb⟩
theorem Po.nil (N : Nat) (w : World) : Po N w (.slice none 0 0) [] := ⟨World.ownsRow_nil w N _ 2, fun _ h => by simp at h⟩
theorem Po.made (w : World) : Po w.heap.size (w.alloc (.cells #[] 57)) (.slice (some ⟨w.heap.size, 0, none⟩) 0 0) [] :=
  ⟨World.ownsRow_made w #[] 0 (Nat.le_refl _) (Nat.zero_le _) rfl, fun _ h => by simp at h⟩
theorem Po.below {N M : Nat} {w w' : World} {v : Value} {l : List Pw} (h : Po N w v l) (hb : Below M w w') (hM : w.heap.size ≤ M := by exact Nat.le_refl _) : Po N w' v l := by
  refine ⟨⟨h.1.1, ?_⟩, fun x hx => ⟨((h.2 x hx).1.below hb hM).more hb.size, (h.2 x hx).2.below hb hM⟩⟩
  rcases h.1.2 with hn | ⟨g, cap, cur, hv, hg, hh, rest⟩
  · exact .inl hn
  · refine .inr ⟨g, cap, cur, hv, hg, ?_, rest⟩
    have hlt : g < w.heap.size := (Array.getElem?_eq_some_iff.1 hh).1
    rw [hb.block g (by omega)]
    exact hh
theorem Po.alloc {N : Nat} {w : World} {v : Value} {l : List Pw} (h : Po N w v l) (o : Obj) : Po N (w.alloc o) v l := h.below (below_new12 w o)
theorem Po.form {N : Nat} {w : World} {v : Value} {l : List Pw} (h : Po N w v l) : ∃ A c, v = .slice A l.length c ∧ l.length ≤ c ∧ c ≤ maxLen ∧ (A = none → c = 0) ∧ Pr w w.heap.size A l := by
  rcases h.1.2 with ⟨hv, hl⟩ | ⟨g, cap, cur, hv, hg, hh, hn, hm, hs, ht⟩
  · have : l = [] := List.eq_nil_of_length_eq_zero hl
    subst this
    exact ⟨none, 0, hv, Nat.le_refl _, Nat.zero_le _, fun _ => rfl, Pr.nil _ _ _⟩
  · refine ⟨some ⟨g, 0, none⟩, cap, hv, hn, hm, (fun e => by cases e), fun _ => ⟨g, 0, rfl, (Array.getElem?_eq_some_iff.1 hh).1, fun j hj i u hu => ?_⟩, fun x hx => (h.2 x hx).1⟩
    have hi : i < 2 := (List.getElem?_eq_some_iff.1 hu).1
    subst hv
    have := World.ownsRow.cells h.1 (g := g) rfl (j * 2 + i) u (by rw [flat_at12 pcells 2 len_pcells _ _ _ hj hi]; exact hu)
    rw [WideShapes.add_plain] at this
    rw [show 0 + j * 2 + i = 0 + (j * 2 + i) from by omega]
    exact this
theorem Po.pv {N : Nat} {w : World} {v : Value} {l : List Pw} (h : Po N w v l) : Pv w w.heap.size v l := by
  obtain ⟨A, c, e, h1, _, h2, h3⟩ := h.form
  exact ⟨A, c, e, h1, h2, h3⟩

theorem pblock_ne {N n : Nat} {w : World} {v : Value} {xs : List Value} {b : Nat} {cs : Array Value} {fr : Nat × Nat} (h : w.ownsRow N 57 2 v n xs) (hb : w.heap[b]? = some (.cells cs 9 fr)) : some b ≠ v.ownBlock := by
  rcases h.2 with ⟨rfl, _⟩ | ⟨g, cap, cur, rfl, _, hh, _⟩
  · simp [Value.ownBlock]
  · intro e
    have e : b = g := by simpa [Value.ownBlock] using e
    subst e
    rw [hb] at hh
    injection hh with hh
    injection hh with _ ht
    exact absurd ht (by decide)
theorem plow_ne {N n : Nat} {w : World} {v : Value} {xs : List Value} {b : Nat} (h : w.ownsRow N 57 2 v n xs) (hb : b < N) : some b ≠ v.ownBlock := fun e => by
  have := (World.ownsRow.lt h b e.symm).1
  omega
theorem Sx.grown {N n : Nat} {w w' : World} {v : Value} {xs : List Value} {y : Pw} (h : w.ownsRow N 57 2 v n xs) (hg : w.grownBy w' v.ownBlock) (hy : Sx w w.heap.size y) (ha : Ap w N y) : Sx w' w'.heap.size y := by
  obtain ⟨A, c, e, h1, h2, h3⟩ := hy
  injection e with e1 e2 e3
  refine ⟨A, c, by rw [e1, e3], h1, h2, fun h0 => ?_⟩
  obtain ⟨b, off, e, hb, hc⟩ := h3 h0
  obtain ⟨b', off', e', ha⟩ := ha h0
  rw [e1, e] at e'
  injection e' with e'
  injection e' with e4 e5
  subst e4 e5
  have hne : some b ≠ v.ownBlock := by
    rcases ha with ha | ⟨cs, fr, ha⟩
    · exact plow_ne h ha
    · exact pblock_ne h ha
  exact ⟨b, off, e, Nat.lt_of_lt_of_le hb hg.size, fun j hj => (World.cell?_of_block (a := ⟨b, off + j, none⟩) (hg.block b hb hne)).trans (hc j hj)⟩
theorem Ap.grown {N n : Nat} {w w' : World} {v : Value} {xs : List Value} {y : Pw} (h : w.ownsRow N 57 2 v n xs) (hg : w.grownBy w' v.ownBlock) (ha : Ap w N y) : Ap w' N y := fun h0 => by
  obtain ⟨b, off, e, ha⟩ := ha h0
  refine ⟨b, off, e, ?_⟩
  rcases ha with ha | ⟨cs, fr, ha⟩
  · exact .inl ha
  · exact .inr ⟨cs, fr, (hg.block b (Array.getElem?_eq_some_iff.1 ha).1 (pblock_ne h ha)).trans ha⟩
abbrev perO (x : Pw) : Obj := .cells #[.string x.pe.el, .slice x.A x.pe.at_.length x.c] 57
theorem pbox_at (w : World) (x : Pw) (j : Nat) : (w.alloc (perO x)).cell? ⟨w.heap.size, j, none⟩ = (pcells x)[j]? := by
  rw [World.cell?_alloc_mark]
  match j with
  | 0 | 1 => rfl
  | j + 2 => simp [pcells]
theorem pbox_kept {w w3 : World} {x : Pw} (hb : Below (w.alloc (perO x)).heap.size (w.alloc (perO x)) w3) (j : Nat) : w3.cell? ⟨w.heap.size, j, none⟩ = (pcells x)[j]? :=
  (hb.cell (p := ⟨w.heap.size, j, none⟩) (by simp)).trans (pbox_at w x j)
theorem pcells_one (x : Pw) : ∀ u ∈ pcells x, u.oneCell' = true := by
  intro u hu
  simp only [pcells, List.mem_cons, List.not_mem_nil, or_false] at hu
  rcases hu with rfl | rfl <;> rfl
theorem Sx.boxed {w w0 : World} {x : Pw} (h : Sx w w0.heap.size x) (hb : Below w0.heap.size w0 w) (o : Obj) : Sx (w.alloc o) (w.alloc o).heap.size x :=
  ((h.more hb.size).below (below_new12 w o)).more (by simp)
theorem row_boxed {w w' : World} {N size n g : Nat} {e : TypeId} {v : Value} {xs : List Value} {cs : Array Value} (h : w.ownsRow N e size v n xs) (he : e ≠ 26) (hb : Hb w g cs) (hg : w.grownBy w' (some g)) : w'.ownsRow N e size v n xs := by
  refine ⟨h.1, ?_⟩
  rcases h.2 with hn | ⟨b, cap, cur, hv, hN, hh, rest⟩
  · exact .inl hn
  · refine .inr ⟨b, cap, cur, hv, hN, ?_, rest⟩
    have hne : b ≠ g := fun e' => by
      subst e'
      unfold Hb at hb
      rw [hb] at hh
      injection hh with hh
      injection hh with _ ht
      exact he ht.symm
    rw [hg.block b (Array.getElem?_eq_some_iff.1 hh).1 (by simpa using hne)]
    exact hh
theorem own_boxed {w w' : World} {N g : Nat} {v : Value} {l : List ByteArray} {cs : Array Value} (h : Sown N w v l) (hb : Hb w g cs) (hg : w.grownBy w' (some g)) : Sown N w' v l := row_boxed h (by decide) hb hg
theorem po_of {N : Nat} {w : World} {v : Value} {l : List Pw} (h : w.ownsRow N 57 2 v l.length (l.flatMap pcells)) (hf : ∀ x ∈ l, Fp N w x) : Po N w v l := ⟨h, fun x hx => ⟨(hf x hx).sx, (hf x hx).ap⟩⟩

theorem row_elder {w w' : World} {N size n : Nat} {e : TypeId} {v : Value} {xs : List Value} {row : Option Nat} (h : w.ownsRow N e size v n xs) (hg : w.grownBy w' row) (hr : ∀ b, row = some b → b < N) : w'.ownsRow N e size v n xs := by
  refine ⟨h.1, ?_⟩
  rcases h.2 with hn | ⟨b, cap, cur, hv, hN, hh, rest⟩
  · exact .inl hn
  · refine .inr ⟨b, cap, cur, hv, hN, ?_, rest⟩
    rw [hg.block b (Array.getElem?_eq_some_iff.1 hh).1 (fun e => by have := hr b e.symm; omega)]
    exact hh
structure Own12 (N : Nat) (w : World) (c : Cf) (vE vR vA vP : Value) (l : List Pw) : Prop where
  e : Sown N w vE c.els
  r : Sown N w vR c.reps
  a : Sown N w vA c.ats
  p : Po N w vP l
  f : ∀ x ∈ l, Fp N w x
  m : pes l = c.per
def Cow (N : Nat) (w : World) (v : Value) (c : Cf) : Prop := ∃ vE vR vA vP l, v = confV c vE vR vA vP ∧ Own12 N w c vE vR vA vP l
theorem Own12.cp {N : Nat} {w : World} {c : Cf} {vE vR vA vP : Value} {l : List Pw} (h : Own12 N w c vE vR vA vP l) : Cp w w.heap.size c vE vR vA vP l := ⟨sv_own h.e, sv_own h.r, sv_own h.a, h.p.pv, h.m⟩
theorem Own12.below {N : Nat} {w w' : World} {c : Cf} {vE vR vA vP : Value} {l : List Pw} (h : Own12 N w c vE vR vA vP l) (hb : Below w.heap.size w w') : Own12 N w' c vE vR vA vP l :=
  ⟨h.e.below hb (Nat.le_refl _), h.r.below hb (Nat.le_refl _), h.a.below hb (Nat.le_refl _), h.p.below hb, fun x hx => (h.f x hx).below hb, h.m⟩
theorem Own12.mono {N M : Nat} {w : World} {c : Cf} {vE vR vA vP : Value} {l : List Pw} (h : Own12 N w c vE vR vA vP l) (hN : M ≤ N) : Own12 M w c vE vR vA vP l :=
  ⟨h.e.mono hN, h.r.mono hN, h.a.mono hN, ⟨World.ownsRow.mono h.p.1 hN, fun x hx => ⟨(h.p.2 x hx).1, (h.f x hx).ap⟩⟩, fun x hx => (h.f x hx).mono hN, h.m⟩
theorem Own12.boxed {N g : Nat} {w w' : World} {c : Cf} {vE vR vA vP : Value} {l : List Pw} {cs : Array Value} (h : Own12 N w c vE vR vA vP l) (hb : Hb w g cs) (hg : w.grownBy w' (some g)) : Own12 N w' c vE vR vA vP l :=
  have hf : ∀ x ∈ l, Fp N w' x := fun x hx => own_boxed (h.f x hx) hb hg
  ⟨own_boxed h.e hb hg, own_boxed h.r hb hg, own_boxed h.a hb hg, po_of (row_boxed h.p.1 (by decide) hb hg) hf, hf, h.m⟩
theorem Cow.cv {N : Nat} {w : World} {v : Value} {c : Cf} (h : Cow N w v c) : Cv w w.heap.size v c := by
  obtain ⟨vE, vR, vA, vP, l, e, h⟩ := h
  exact ⟨vE, vR, vA, vP, l, e, h.cp⟩
theorem Cow.below {N : Nat} {w w' : World} {v : Value} {c : Cf} (h : Cow N w v c) (hb : Below w.heap.size w w') : Cow N w' v c := by
  obtain ⟨vE, vR, vA, vP, l, e, h⟩ := h
  exact ⟨vE, vR, vA, vP, l, e, h.below hb⟩
theorem Cow.mono {N M : Nat} {w : World} {v : Value} {c : Cf} (h : Cow N w v c) (hN : M ≤ N) : Cow M w v c := by
  obtain ⟨vE, vR, vA, vP, l, e, h⟩ := h
  exact ⟨vE, vR, vA, vP, l, e, h.mono hN⟩
theorem po_shape {N : Nat} {w : World} {v : Value} {l : List Pw} (h : Po N w v l) : ∃ A n c, v = .slice A n c := by
  obtain ⟨A, c, e, _⟩ := h.form
  exact ⟨A, _, c, e⟩
theorem res_box {w : World} {g : Nat} {cs : Array Value} {c : Cf} {vE vR vA vP : Value} (h : Hb w g cs) (hc : cs.size = 8) :
    ∃ W, W = w.setCells g 0 [.bool c.allow, .bool c.attrsAllow, vE, vR, vA, vP, .bool c.comments, .bool c.dataAttrs] ∧ w.grownBy W (some g) ∧ Bx W g c vE vR vA vP :=
  ⟨_, rfl, gcells12 g _ 0 w, World.rangeAt_setCells_same w g 0 [.bool c.allow, .bool c.attrsAllow, vE, vR, vA, vP, .bool c.comments, .bool c.dataAttrs] (h.there 8 hc.symm)⟩

end Go.Proofs.YtgjlfcamgkeibaaGreatDoor.Co
