/-
  Walks of stage 7: end of the builder.
  Walks of stage 7: start of the builder.
  Stage 7, in plain words: joined rows have no more attributes each, and the same text; nothing of the program.
  Walks of stage 7: take of the builder; Tree, In, Parse.
  Walks of stage 6: what a '<' begins, whether an end tag stands here. Walks of stage 6: begun, isEndTag. Walks of stage 6: plain, upToEndTag of the reader.
-/
import Derived.Test.YtoijeljjehjfjaaDoorCk05
import Derived.Test.YtoijeljjehjfjaaDoorCk02
namespace Go.Proofs.YtoijeljjehjfjaaDoor.Bu
set_option maxRecDepth 100000
set_option linter.unusedVariables false
set_option linter.unusedSimpArgs false
open Go.RowKit Ba Fm Fo Nm Bm
open Ro (At Ro Cw ros Fr Ow Att Ap Rr Sh Ra acells len_acells cells len_cells rowV rowO info_row info_attr below_new len_ros ros_append)
theorem end_no (b : Nat) (n : ByteArray) (w : World) (h : noName n = true ∨ (noName n = false ∧ isIn n voidL = true)) :
    Calls Tryd.prog 64 #[bp b, .string n] w fun e w' => e = .returned (.tuple #[]) ∧ Below w.heap.size w w' := by
  rcases h with h | ⟨h, h'⟩
  · go_enter Tryd.func64, Tryd.ntmps64
    go_wp2_with fail
    refine (passedOver_any n w true h).mono ?_
    rintro e w1 ⟨rfl, b1⟩
    go_wp2
    first | go_end0 | refine bodyPost_ret (results_none rfl _ _ _) rfl ?_
    exact ⟨rfl, b1⟩
  · go_enter Tryd.func64, Tryd.ntmps64
    go_wp2_with fail
    refine (passedOver_any n w false h).mono ?_
    rintro e w1 ⟨rfl, b1⟩
    go_wp2_with fail
    refine (void1 n w1 true h').mono ?_
    rintro e w2 ⟨rfl, b2⟩
    go_wp2
    first | go_end0 | refine bodyPost_ret (results_none rfl _ _ _) rfl ?_
    exact ⟨rfl, bt b1 b2⟩

/-- The state behind a tag that ends. -/
def endS (st : St) (n : ByteArray) : St :=
  match findS [n] (endWalls n) st.stk with
  | some r => ⟨r, st.out⟩
  | none => if n = n_p then ⟨st.stk, st.out ++ [⟨st.stk.length, 0, n_p, ⟨#[]⟩, []⟩]⟩ else st
theorem ends_len (n : ByteArray) : (endWalls n).length ≤ 1000 := by
  unfold endWalls
  split
  · exact walls_len _
  · exact walls_len _
theorem p_of {n : ByteArray} (h : (n.toList == [112]) = true) : n = n_p := of_bytes h rfl
theorem p_no {n : ByteArray} (h : (n.toList == [112]) = false) : n ≠ n_p := not_bytes h rfl
theorem sv_one (w : World) (n : ByteArray) : Sv (w.alloc (.cells #[.string n] 9)) (w.alloc (.cells #[.string n] 9)).heap.size (.slice (some ⟨w.heap.size, 0, none⟩) 1 1) [n] := sv_lit w [n]
theorem Sv.drew {w : World} {v : Value} {l : List ByteArray} (h : Sv w w.heap.size v l) : Sv w.drew w.drew.heap.size v l := h
theorem Sv.up {w w' : World} {v : Value} {l : List ByteArray} (h : Sv w w.heap.size v l) (hb : Below w.heap.size w w') : Sv w' w'.heap.size v l := (h.below hb (Nat.le_refl _)).more hb.size

set_option maxRecDepth 100000 in
set_option maxHeartbeats 4000000 in
theorem end_any (N b m T : Nat) (st : St) (n : ByteArray) (w : World) (h : Bt N w b st false m T) (hm : m < 1000000) (h1 : noName n = false) (h2 : isIn n voidL = false) (hbig : tooBig st.out = false) :
    Calls Tryd.prog 64 #[bp b, .string n] w fun e w' => e = .returned (.tuple #[]) ∧ Bt N w' b (endS st n) (tooBig (endS st n).out) (m + 1) T ∧ Below N w w' := by
  have hel := ends_len n
  go_enter Tryd.func64, Tryd.ntmps64
  go_wp2_with fail
  refine (passedOver_any n w false h1).mono ?_
  rintro e w1 ⟨rfl, b1⟩
  go_wp2_with fail
  refine (void1 n w1 false h2).mono ?_
  rintro e w2 ⟨rfl, b2⟩
  obtain ⟨hb2, hB2⟩ := h.below (bt b1 b2)
  clear h
  have HB := Lib.hid hb2; have HBW := Lib.hid hB2
  obtain ⟨⟨l, ⟨vo, vr, hc, ho, hr, hN⟩, hrest⟩, hsm⟩ := hb2
  obtain ⟨so, hso⟩ : ∃ so, st.stk.reverse = so := ⟨_, rfl⟩
  have hsl : so.length = st.stk.length := by rw [← hso, List.length_reverse]
  rw [hso] at ho
  obtain ⟨Ao, co, hv, hco, _, hro⟩ := ho.form
  subst hv
  have c0 := hc.c0; have hz := hc.lt
  have hol : so.length ≤ 1000000 := by omega
  have HSO := Lib.hid hso; have HSL := Lib.hid hsl
  have HC := Lib.hid hc; have HRO := Lib.hid hro; have HSM := Lib.hid hsm
  have HA := Lib.hid (show Bc (w2.alloc (.cells #[.string n] 9)).drew b _ vr _ false from (hc.below (below_one w2 (.cells #[.string n] 9))).drew 1)
  have HZ := Lib.hid (show Bc w2.drew b _ vr _ false from hc)
  have hva : Sv (w2.alloc (.cells #[.string n] 9)).drew (w2.alloc (.cells #[.string n] 9)).drew.heap.size (.slice (some ⟨w2.heap.size, 0, none⟩) 1 1) [n] := sv_one w2 n
  have hba : Below w2.heap.size w2 (w2.alloc (.cells #[.string n] 9)).drew := below_dN (below_one w2 (.cells #[.string n] 9)) 1
  have HVA := Lib.hid hva; have HBA := Lib.hid hba
  clear hva hba
  clear hso hsl hc ho hr hro hrest hsm hB2 b1 b2 h1 h2
  go_upto_region 1 with (fail)
  obtain ⟨i, hi⟩ : ∃ i, idx [n] (endWalls n) so = i := ⟨_, rfl⟩
  have HI := Lib.hid hi
  clear hi
  go_cut [4] from 11 to 19 (fun s4 wx => s4 = .int .i64 i ∧ Below w2.heap.size w2 wx)
  case first =>
    go_region_held3 (fun w' => w'.cell? ⟨b, 0, none⟩ = some (.slice Ao so.length co)) (first | exact e0 | exact d0 | exact c0 | go_keep) (first
      | (go_at_call 80; first
          | (with_reducible show Calls _ _ _ (World.alloc _ _) _; refine (find1 _ _ _ 0 so [n] (endWalls n) (w3.alloc (.cells #[.string n] 9)) hol Ao co rfl ((HR3.out.below (below_one w3 _) (Nat.le_refl _)).more (by simp)) (sv_one w3 n) (Sv.up HW3.out (below_one w3 _)) (by simp) hel i HI.out).mono ?_; rintro e w4 ⟨rfl, b4⟩; have hc4 := (HC3.out.below (below_one w3 (.cells #[.string n] 9))).below b4; have e0 := hc4.c0; have HB4 := Lib.hid (bt (bt HB3.out (below_one w3 _)) b4); clear b4 hc4)
          | (refine (find1 _ _ _ 0 so [n] (endWalls n) w3 hol Ao co rfl HR3.out HV3.out HW3.out (by simp) hel i HI.out).mono ?_; rintro e w4 ⟨rfl, b4⟩; have hc4 := HC3.out.below b4; have e0 := hc4.c0; have HB4 := Lib.hid (bt HB3.out b4); clear b4 hc4))
      | (go_at_call 81; first
          | (with_reducible show Calls _ _ _ (World.drew (World.alloc _ _)) _; refine (endWalls_any n (w2.alloc (.cells #[.string n] 9)).drew).mono ?_; rintro e w3 ⟨Vw, rfl, sw, b3⟩; have hc3 := HA.out.below b3; have d0 := hc3.c0; have HC3 := Lib.hid hc3; have hb3 : Below w2.heap.size w2 w3 := bt HBA.out b3; have hr3 : Rd w3 w3.heap.size Ao so := (HRO.out.below hb3 (Nat.le_refl _)).more hb3.size; have hv3 : Sv w3 w3.heap.size (.slice (some ⟨w2.heap.size, 0, none⟩) 1 1) [n] := Sv.up HVA.out b3; have hw3 : Sv w3 w3.heap.size Vw (endWalls n) := sv_own sw; have HR3 := Lib.hid hr3; have HV3 := Lib.hid hv3; have HW3 := Lib.hid hw3; have HB3 := Lib.hid hb3; clear hc3 b3 hb3 sw hr3 hv3 hw3)
          | (refine (endWalls_any n w2.drew).mono ?_; rintro e w3 ⟨Vw, rfl, sw, b3⟩; have hc3 := HZ.out.below b3; have d0 := hc3.c0; have HC3 := Lib.hid hc3; have hb3 : Below w2.heap.size w2 w3 := bt (show Below w2.heap.size w2 w2.drew from below_dN (Below.refl _ _) 1) b3; have hr3 : Rd w3 w3.heap.size Ao so := (HRO.out.below hb3 (Nat.le_refl _)).more hb3.size; have hw3 : Sv w3 w3.heap.size Vw (endWalls n) := sv_own sw; have HR3 := Lib.hid hr3; have HW3 := Lib.hid hw3; have HB3 := Lib.hid hb3; clear hc3 b3 hb3 sw hr3 hw3)))
    all_goals go_wp2_with fail
    all_goals go_meet
    all_goals exact ⟨rfl, HB4.out⟩
  case rest =>
  obtain ⟨rfl, hb4⟩ := hcut
  rename World => w4
  obtain ⟨hB4, hW4⟩ := HB.out.below hb4
  have HWW := Lib.hid (HBW.out.trans hW4)
  clear HA HZ HVA HBA HC HRO HSM HB HBW c0 hW4
  have hRV : st.stk.reverse.reverse = st.stk := List.reverse_reverse _
  rw [HSO.out] at hRV
  rcases idx_take (ns := [n]) (ws := endWalls n) (o := so) with ⟨e1, e2⟩ | ⟨k, e1, hk, e2⟩
  · rw [HI.out] at e1
    subst e1
    rw [hRV] at e2
    cases hp : (n.toList == [112]) with
    | true =>
      have hes : endS st n = ⟨st.stk, addRow st.out ⟨(st.stk.length : Nat), 0, n, ⟨#[]⟩, []⟩⟩ := by
        unfold endS
        rw [e2, p_of hp]
        rfl
      have HES := Lib.hid hes
      have HB4 := Lib.hid hB4
      clear hes e2 hRV hB4
      go_wp2_with fail
      refine (add_bt N b m T st false ⟨⟨0, 0, n, ⟨#[]⟩, []⟩, none, 0⟩ w4 _ rfl HB4.out (fr_row N w4 _ rfl) hm (by simp) (by simp) 0 (by simp)).mono ?_
      rintro e w5 ⟨rfl, h5, b5, _⟩
      have H5 := Lib.hid h5; have B5 := Lib.hid (HWW.out.trans b5)
      clear h5 b5
      go_wp2
      first | go_end0 | refine bodyPost_ret (results_none rfl _ _ _) rfl ?_
      exact ⟨rfl, by rw [HES.out]; exact H5.out, B5.out⟩
    | false =>
      have hes : endS st n = st := by
        unfold endS
        rw [e2]
        show (if n = n_p then _ else st) = st
        rw [if_neg (p_no hp)]
      have HES := Lib.hid hes
      have HB4 := Lib.hid hB4
      clear hes e2 hRV hB4
      go_wp2
      first | go_end0 | refine bodyPost_ret (results_none rfl _ _ _) rfl ?_
      exact ⟨rfl, by rw [HES.out, hbig]; exact HB4.out.more (Nat.le_succ _) (Nat.le_refl _), HWW.out⟩
  · rw [HI.out] at e1
    subst e1
    rw [hRV] at e2
    have hes : endS st n = ⟨(so.take k).reverse, st.out⟩ := by
      unfold endS
      rw [e2]
    have HES := Lib.hid hes
    obtain ⟨⟨l, ⟨vo, vr, hc, ho, hr, hN⟩, hf, hn, hl, ht, hx⟩, hsm⟩ := hB4
    rw [HSO.out] at ho
    obtain ⟨Ao, co, rfl, hco, _, _⟩ := ho.form
    have c0 := hc.c0; have f0 := hc.f 0; have hz := hc.lt
    have hge : decide ((0 : Int) ≤ (k : Int)) = true := decide_eq_true (by omega)
    have i0 : (0 : Int) ≤ (k : Int) := by omega
    have i1 : (k : Int) ≤ (co : Int) := by omega
    have hcut := Sown.cut ho (Nat.le_of_lt hk)
    have hkl : (so.take k).length = k := by rw [List.length_take]; omega
    have HCU := Lib.hid hcut; have HC := Lib.hid hc; have HR := Lib.hid hr
    have HREST := Lib.hid (show full (ros l) ∧ Ro.normal (ros l) = st.out ∧ l.length ≤ m ∧ (Ro.txt (ros l)).length ≤ T ∧ ∀ x ∈ l, x.ro.attrs.length ≤ 1000000 ∧ 0 ≤ x.ro.depth ∧ x.ro.depth ≤ 1000000 from ⟨hf, hn, hl, ht, hx⟩)
    have HKL := Lib.hid hkl
    clear hes e2 hRV hc ho hr hf hn hl ht hx hcut hkl
    go_wp2
    first | go_end0 | refine bodyPost_ret (results_none rfl _ _ _) rfl ?_
    have hgs := g_set w4 b 0 (.slice Ao k co)
    obtain ⟨hf, hn, hl, ht, hx⟩ := HREST.out
    rw [HES.out]
    refine ⟨rfl, ⟨⟨l, ⟨.slice Ao k co, vr, ?_, ?_, HR.out.kept hgs HC.out (by decide) (by decide), hN⟩, hf, hn, by omega, ht, hx⟩, ?_⟩, ?_⟩
    · show Bc _ b _ vr _ (tooBig st.out)
      rw [hbig]
      exact HC.out.set0 _
    · show Sown N _ _ (so.take k).reverse.reverse
      rw [List.reverse_reverse]
      exact Sown.keptB HCU.out hgs HC.out (by decide)
    · show (so.take k).reverse.length ≤ m + 1
      rw [List.length_reverse, HKL.out]
      have := HSL.out
      omega
    · exact HWW.out.setCell hN _

end Go.Proofs.YtoijeljjehjfjaaDoor.Bu

namespace Go.Proofs.YtoijeljjehjfjaaDoor.Bu
set_option maxRecDepth 100000
set_option linter.unusedVariables false
set_option linter.unusedSimpArgs false
open Go.RowKit Ba Fm Fo Nm Bm
open Ro (At Ro Cw ros Fr Ow Att Ap Rr Sh Ra acells len_acells cells len_cells rowV rowO info_row info_attr below_new len_ros ros_append)
open Tm (Tk put)
open To (Tw Aw tokV tokO tks)
/-- append of one string onto the open elements of a builder, at a step of a region that draws. -/
theorem step_app_str {ops : Array Oper} {o : Oper} {a : Act} {K : Act → World → Prop} {Q : Exit → Act → World → Prop} {E : Prop} (W : World) (hgd : o.guard = none) (s x : Operand)
    (ho : o.op = .call { callee := .builtin .append, args := #[s, x], argTypes := #[36, 36] })
    (W0 : World) (N : Nat) (v : Value) (l : List ByteArray) (z : ByteArray) (hr : Sown N W0 v l) (hg : W0.grownBy W none) (hN : N ≤ W0.heap.size) (hl : l.length ≤ 2000000)
    (hs : a.eval s = v) (g0 : Nat) (hx : a.eval x = .slice (some ⟨g0, 0, none⟩) 1 1) (hz : W.heap[g0]? = some (.cells #[.string z] 9))
    (h : ∀ g cap w', w'.ownsRow N 9 1 (.slice (some ⟨g, 0, none⟩) (l.length + 1) cap) (l.length + 1) (l.map sc ++ [.string z]) → W0.grownBy w' v.ownBlock → K (a.put o.dst (.slice (some ⟨g, 0, none⟩) (l.length + 1) cap)) w') :
    if Region.wanted o (yielded ops a.tmps) = true then Oper.wp Tryd.prog o a W K Q else E := by
  obtain ⟨i0, hi, hz0, hz1, hz2⟩ := info_parts info_str
  have hown : W.ownsRow N 9 1 v l.length (l.map sc) := World.ownsRow.kept hr hg (by cases hv : v.ownBlock with
    | none => exact .inl rfl
    | some k => right; simp)
  refine step_append_lies W hgd s x 36 ho N 9 i0 _ 1 16 Tryd.underlying36 hi hz0 hz1 hz2 rfl (by decide) v l.length (l.map sc) hs hown ⟨g0, 0, none⟩ 1 1 [.string z] hx rfl (fun j u hu => World.news_of_block hz j u hu) (by simp [Value.oneCell']) (by decide) (by unfold maxLen; omega) (by omega) (Nat.le_trans hN hg.size) _ rfl ?_
  intro g cap w1 h1 h2 _ _
  exact h g cap w1 h1 ⟨h2.os.trans hg.os, h2.tape.trans hg.tape, h2.output.trans hg.output, Nat.le_trans hg.size h2.size, fun i hi hne => (h2.block i (Nat.lt_of_lt_of_le hi hg.size) hne).trans (hg.block i hi (by simp))⟩

theorem Bc.overS {N : Nat} {w w' : World} {b : Nat} {vo vr : Value} {n : Int} {big : Bool} {o : List ByteArray} (h : Bc w b vo vr n big) (hr : Sown N w vo o) (hg : w.grownBy w' vo.ownBlock) : Bc w' b vo vr n big := (hg.block b h.lt (fun e => own_ne hr h (by decide) e.symm)).trans h
/-- One more open element, and what stands behind the store. -/
theorem Bg.push {N : Nat} {w w1 : World} {b : Nat} {vo vr v' : Value} {o : List ByteArray} {l : List Cw} {z : ByteArray} {n : Int} {big : Bool} (hc : Bc w b vo vr n big) (ho : Sown N w vo o) (hr : Or N w vr l) (hN : N ≤ b)
    (h1 : w1.ownsRow N 9 1 v' (o.length + 1) (o.map sc ++ [.string z])) (hg : w.grownBy w1 vo.ownBlock) :
    Bg N (w1.setCell ⟨b, 0, none⟩ v') b (o ++ [z]) l n big ∧ ∀ w0, Below N w0 w → Below N w0 (w1.setCell ⟨b, 0, none⟩ v') := by
  have hrc : Bc w1 b vo vr n big := Bc.overS hc ho hg
  have hor : Or N w1 vr l := hr.apart ho hg (by decide) (by decide)
  have hs : Sown N w1 v' (o ++ [z]) := Sown.appended (m := [z]) h1 rfl
  have hgs := g_set w1 b 0 v'
  refine ⟨⟨v', vr, hrc.set0 v', Sown.keptB hs hgs hrc (by decide), hor.kept hgs hrc (by decide) (by decide), hN⟩, fun w0 h0 => ?_⟩
  have hlt := hc.lt
  exact (h0.grown hg (by omega) fun k hk => (World.ownsRow.lt ho k hk).1).setCell hN _

theorem leftOpen1 (V : Value) (l : List ByteArray) (n : ByteArray) (w : World) (hm : l.length ≤ 1000000) (A : Option Addr) (c : Nat) (hV : V = .slice A l.length c) (hc : l.length ≤ c) (hr : Rd w w.heap.size A l) :
    Calls Tryd.prog 41 #[V, .string n] w fun e w' => ∃ k : Nat, e = .returned (.slice A k c) ∧ k ≤ l.length ∧ (l.take k).reverse = openedS n l.reverse ∧ Below w.heap.size w w' := by
  subst hV
  exact leftOpen_any A c l n w hm hc hr

theorem start_no (b : Nat) (x : Tw) (w : World) (h : noName x.tk.name = true) :
    Calls Tryd.prog 63 #[bp b, tokV x] w fun e w' => e = .returned (.tuple #[]) ∧ Below w.heap.size w w' := by
  go_enter Tryd.func63, Tryd.ntmps63
  go_wp2_with fail
  refine (passedOver_any x.tk.name _ true h).mono ?_
  rintro e w1 ⟨rfl, b1⟩
  go_wp2
  first | go_end0 | refine bodyPost_ret (results_none rfl _ _ _) rfl ?_
  exact ⟨rfl, bt (below_new w _) b1⟩

/-- The state behind a tag that begins. -/
def startS (st : St) (n : ByteArray) (at_ : List At) : St := ⟨if isIn n voidL = true then openedS n st.stk else n :: openedS n st.stk, st.out ++ [⟨(openedS n st.stk).length, 0, n, ⟨#[]⟩, once at_⟩]⟩

set_option maxRecDepth 100000 in
set_option maxHeartbeats 4000000 in
theorem start_any (N b m T : Nat) (st : St) (x : Tw) (w : World) (h : Bt N w b st false m T) (hx : To.Att w N x) (hm : m < 1000000) (hal : x.tk.attrs.length ≤ 1000000) (h1 : noName x.tk.name = false) :
    Calls Tryd.prog 63 #[bp b, tokV x] w fun e w' => e = .returned (.tuple #[]) ∧ Bt N w' b (startS st x.tk.name x.tk.attrs) (tooBig (startS st x.tk.name x.tk.attrs).out) (m + 1) T ∧ Below N w w' := by
  have hNz := h.n
  go_enter Tryd.func63, Tryd.ntmps63
  go_wp2_with fail
  refine (passedOver_any x.tk.name _ false h1).mono ?_
  rintro e w2 ⟨rfl, b2⟩
  obtain ⟨hb2, hB2⟩ := h.below (bt (below_new w _) b2)
  have hbox : w2.heap[w.heap.size]? = some (tokO x) := (b2.block w.heap.size (by simp)).trans (World.alloc_heap_new _ _)
  have HX := Lib.hid hx
  clear h hx b2
  obtain ⟨⟨l, ⟨vo, vr, hc, ho, hr, hN⟩, hf, hn, hl, ht, hxl⟩, hsm⟩ := hb2
  obtain ⟨so, hso⟩ : ∃ so, st.stk.reverse = so := ⟨_, rfl⟩
  have hsl : so.length = st.stk.length := by rw [← hso, List.length_reverse]
  have hsr : so.reverse = st.stk := by rw [← hso, List.reverse_reverse]
  rw [hso] at ho
  obtain ⟨Ao, co, hv, hco, _, hro⟩ := ho.form
  subst hv
  have c0 := hc.c0; have f0 := hc.f 0; have hz := hc.lt
  have hol : so.length ≤ 1000000 := by omega
  have y1 : w2.cell? ⟨w.heap.size, 1, none⟩ = some (.string x.tk.name) := by rw [cell_of_row w2 w.heap.size 1 _ _ _ hbox]; rfl
  have hgz : w.heap.size < w2.heap.size := (Array.getElem?_eq_some_iff.1 hbox).1
  have hne : w.heap.size ≠ b := by omega
  have HC := Lib.hid hc; have HO := Lib.hid ho; have HR := Lib.hid hr; have HRO := Lib.hid hro; have HBX := Lib.hid hbox; have HBW := Lib.hid hB2; have HSR := Lib.hid hsr; have HSL := Lib.hid hsl
  have HREST := Lib.hid (show full (ros l) ∧ Ro.normal (ros l) = st.out ∧ l.length ≤ m ∧ (Ro.txt (ros l)).length ≤ T ∧ (∀ y ∈ l, y.ro.attrs.length ≤ 1000000 ∧ 0 ≤ y.ro.depth ∧ y.ro.depth ≤ 1000000) ∧ st.stk.length ≤ m from ⟨hf, hn, hl, ht, hxl, hsm⟩)
  clear hc ho hr hro hbox hB2 hsr hsl hf hn hl ht hxl hsm hso h1
  go_upto_region 2 with (fail)
  go_cut [3] from 7 to 16 (fun s3 wx => s3 = .pointer (some ⟨w.heap.size, 0, none⟩) ∧ ∃ k : Nat, k ≤ so.length ∧ (so.take k).reverse = openedS x.tk.name st.stk ∧ Bc wx b (.slice Ao k co) vr (st.out.length : Nat) false ∧ Sown N wx (.slice Ao k co) (so.take k) ∧ Or N wx vr l ∧ Below N w wx ∧ wx.heap[w.heap.size]? = some (tokO x))
  case first =>
    go_region_law (go_simp; go_at_call 41; refine (leftOpen1 _ so x.tk.name w2.drew hol Ao co rfl hco HRO.out).mono ?_; rintro e w3 ⟨k, rfl, hk, hop, b3⟩; have hb3 : Below w2.heap.size w2 w3 := bt (show Below w2.heap.size w2 w2.drew from below_dN (Below.refl _ _) 1) b3; have hc3 := HC.out.below hb3; have c3 := hc3.c0; have f3 := hc3.f 0; have HC3 := Lib.hid hc3; have HB3 := Lib.hid hb3; have HOP := Lib.hid hop; clear hc3 b3 hb3 hop)
    all_goals go_wp2_with fail
    all_goals go_meet
    all_goals
      have hgs := g_set w3 b 0 (.slice Ao k co)
      have ho3 := HO.out.below HB3.out (Nat.le_refl _)
      refine ⟨rfl, k, hk, by rw [HOP.out, HSR.out], HC3.out.set0 _, Sown.keptB (Sown.cut ho3 hk) hgs HC3.out (by decide), (HR.out.below HB3.out).kept hgs HC3.out (by decide) (by decide), (HBW.out.trans (HB3.out.mono (by omega))).setCell hN _, ?_⟩
      rw [hgs.block _ (Nat.lt_of_lt_of_le hgz HB3.out.size) (by simpa using hne)]
      exact (HB3.out.block _ hgz).trans HBX.out
  case rest =>
  obtain ⟨rfl, k, hk, hop, hc, ho, hr, hBW, hbox⟩ := hcut
  rename World => w4
  obtain ⟨hf, hn, hl, ht, hxl, hsm⟩ := HREST.out
  have hkl : (so.take k).length = k := by rw [List.length_take]; omega
  have hok : (openedS x.tk.name st.stk).length = k := by rw [← hop, List.length_reverse, hkl]
  have hks : k ≤ m := by have := HSL.out; omega
  have hbt : Bt N w4 b ⟨openedS x.tk.name st.stk, st.out⟩ false m T := ⟨⟨l, ⟨_, vr, hc, by show Sown N w4 _ (openedS x.tk.name st.stk).reverse; rw [← hop, List.reverse_reverse]; exact ho, hr, hN⟩, hf, hn, hl, ht, hxl⟩, by show (openedS x.tk.name st.stk).length ≤ m; omega⟩
  have hx4 : To.Att w4 N x := HX.out.below hBW
  have hb4 := hbt.n.2
  have z1 : w4.cell? ⟨w.heap.size, 1, none⟩ = some (.string x.tk.name) := by rw [cell_of_row w4 w.heap.size 1 _ _ _ hbox]; rfl
  have z3 : w4.cell? ⟨w.heap.size, 3, none⟩ = some (.slice x.A x.tk.attrs.length x.c) := by rw [cell_of_row w4 w.heap.size 3 _ _ _ hbox]; rfl
  have hg4 : w.heap.size < w4.heap.size := (Array.getElem?_eq_some_iff.1 hbox).1
  have hol2 := once_len x.tk.attrs
  have HKM := Lib.hid (show (openedS x.tk.name st.stk).length ≤ m from by omega)
  have HBT := Lib.hid hbt; have HX4 := Lib.hid hx4; have HBX4 := Lib.hid hbox; have HBW4 := Lib.hid hBW
  clear hbt hx4 hbox hBW hc ho hr hop hkl hok hf hn hl ht hxl hsm hks c0 f0 y1
  clear HREST HSL HSR HC HO HR HRO HBX HBW HX
  go_upto_region 3 with (fail)
  obtain ⟨ro, hro⟩ : ∃ ro, addRow st.out ⟨((openedS x.tk.name st.stk).length : Nat), 0, x.tk.name, ⟨#[]⟩, once x.tk.attrs⟩ = ro := ⟨_, rfl⟩
  go_cut [3] from 17 to 24 (fun s3 wx => s3 = .pointer (some ⟨w.heap.size, 0, none⟩) ∧ Bt N wx b ⟨openedS x.tk.name st.stk, ro⟩ (tooBig ro) (m + 1) T ∧ Below N w wx ∧ wx.heap[w.heap.size]? = some (tokO x))
  case first =>
    go_region_held3 (fun w' => w'.cell? ⟨w.heap.size, 1, none⟩ = some (.string x.tk.name) ∧ w'.cell? ⟨w.heap.size, 3, none⟩ = some (.slice x.A x.tk.attrs.length x.c)) (first | exact ⟨e1, e3⟩ | exact ⟨d1, d3⟩ | exact ⟨z1, z3⟩ | go_keep) (first
      | (go_at_call 62; refine (add_bt N b m T ⟨openedS x.tk.name st.stk, st.out⟩ false ⟨⟨0, 0, x.tk.name, ⟨#[]⟩, once x.tk.attrs⟩, A5, c5⟩ w5 _ rfl HBT5.out HAW.out hm (by simp) (by show (once x.tk.attrs).length ≤ 1000000; omega) 0 (by simp)).mono ?_; rintro e w6 ⟨rfl, h6, b6, k6⟩; have hbx6 := (k6 _ _ _ HBX5.out).trans HBX5.out; have e1 : w6.cell? ⟨w.heap.size, 1, none⟩ = some (.string x.tk.name) := (cell_of_row w6 w.heap.size 1 _ _ _ hbx6).trans rfl; have e3 : w6.cell? ⟨w.heap.size, 3, none⟩ = some (.slice x.A x.tk.attrs.length x.c) := (cell_of_row w6 w.heap.size 3 _ _ _ hbx6).trans rfl; have HBX6 := Lib.hid hbx6; have H6 := Lib.hid h6; have HBW6 := Lib.hid (HBW5.out.trans b6); clear hbx6 h6 b6 k6)
      | (go_at_call 79; refine (firsts_any x.A x.c x.tk.attrs w4.drew (HX4.out.2.2.2.1.more (by have := hNz.1; show N ≤ w4.heap.size; omega)) HX4.out.2.2.2.2 HX4.out.1 hal).mono ?_; rintro e w5 ⟨v5, rfl, haw, b5⟩; obtain ⟨A5, c5, rfl⟩ := haw.form; have hb5 : Below w4.heap.size w4 w5 := bt (show Below w4.heap.size w4 w4.drew from below_dN (Below.refl _ _) 1) b5; have hbx5 := (hb5.block _ hg4).trans HBX4.out; have d1 : w5.cell? ⟨w.heap.size, 1, none⟩ = some (.string x.tk.name) := (cell_of_row w5 w.heap.size 1 _ _ _ hbx5).trans rfl; have d3 : w5.cell? ⟨w.heap.size, 3, none⟩ = some (.slice x.A x.tk.attrs.length x.c) := (cell_of_row w5 w.heap.size 3 _ _ _ hbx5).trans rfl; have hbt5 := HBT.out.below hb5; have haw5 : Fr N w5 ⟨⟨0, 0, x.tk.name, ⟨#[]⟩, once x.tk.attrs⟩, A5, c5⟩ := ⟨World.ownsRow.mono haw.1 (by have := hNz.1; show N ≤ w4.heap.size; omega), haw.2⟩; have HBX5 := Lib.hid hbx5; have HBT5 := Lib.hid hbt5.1; have HAW := Lib.hid haw5; have HBW5 := Lib.hid (HBW4.out.trans hbt5.2); clear hbx5 hbt5 haw5 haw hb5 b5))
    all_goals go_wp2_with fail
    all_goals go_meet
    all_goals
      refine ⟨rfl, ?_, HBW6.out, HBX6.out⟩
      rw [← hro]
      exact H6.out
  case rest =>
  obtain ⟨rfl, hbt, hBW, hbox⟩ := hcut
  rename World => w7
  have hst : startS st x.tk.name x.tk.attrs = ⟨if isIn x.tk.name voidL = true then openedS x.tk.name st.stk else x.tk.name :: openedS x.tk.name st.stk, ro⟩ := by
    unfold startS
    rw [← hro]
    rfl
  have z1' : w7.cell? ⟨w.heap.size, 1, none⟩ = some (.string x.tk.name) := (cell_of_row w7 w.heap.size 1 _ _ _ hbox).trans rfl
  have HBX7 := Lib.hid hbox; have HB7 := Lib.hid hbt; have HBW7 := Lib.hid hBW; have HST := Lib.hid hst
  clear z1 z3 hbox hbt hBW hst hro HBT HX4 HBX4 HBW4
  cases hv : isIn x.tk.name voidL with
  | true =>
    go_wp2_with fail
    refine (void1 x.tk.name w7 true hv).mono ?_
    rintro e w8 ⟨rfl, b8⟩
    obtain ⟨h8, hB8⟩ := HB7.out.below b8
    have H8 := Lib.hid h8; have HB8 := Lib.hid (HBW7.out.trans hB8)
    clear h8 hB8 b8 z1'
    go_wp2
    first | go_end0 | refine bodyPost_ret (results_none rfl _ _ _) rfl ?_
    rw [HST.out, if_pos hv]
    exact ⟨rfl, H8.out, HB8.out⟩
  | false =>
    go_wp2_with fail
    refine (void1 x.tk.name w7 false hv).mono ?_
    rintro e w8 ⟨rfl, b8⟩
    obtain ⟨h8, hB8⟩ := HB7.out.below b8
    have hbx8 := (b8.block _ (Array.getElem?_eq_some_iff.1 HBX7.out).1).trans HBX7.out
    obtain ⟨⟨l, ⟨vo, vr, hc, ho, hr, hN⟩, hf, hn, hl, ht, hxl⟩, hsm⟩ := h8
    obtain ⟨s2, hs2⟩ : ∃ s2, (openedS x.tk.name st.stk).reverse = s2 := ⟨_, rfl⟩
    rw [show (St.mk (openedS x.tk.name st.stk) ro).stk.reverse = s2 from hs2] at ho
    have hs2l : s2.length = (openedS x.tk.name st.stk).length := by rw [← hs2, List.length_reverse]
    have y1 : w8.cell? ⟨w.heap.size, 1, none⟩ = some (.string x.tk.name) := (cell_of_row w8 w.heap.size 1 _ _ _ hbx8).trans rfl
    have c0 := hc.c0; have f0 := hc.f 0; have hz8 := hc.lt
    have hg8 : w.heap.size < w8.heap.size := (Array.getElem?_eq_some_iff.1 hbx8).1
    have hN8 : N ≤ w8.heap.size := by omega
    have hsm2 : s2.length ≤ 2000000 := by
      have : (openedS x.tk.name st.stk).length ≤ m + 1 := hsm
      omega
    have HC := Lib.hid hc; have HO := Lib.hid ho; have HR := Lib.hid hr; have HB8 := Lib.hid (HBW7.out.trans hB8)
    have HREST := Lib.hid (show full (ros l) ∧ Ro.normal (ros l) = ro ∧ l.length ≤ m + 1 ∧ (Ro.txt (ros l)).length ≤ T ∧ (∀ y ∈ l, y.ro.attrs.length ≤ 1000000 ∧ 0 ≤ y.ro.depth ∧ y.ro.depth ≤ 1000000) from ⟨hf, hn, hl, ht, hxl⟩)
    have HS2 := Lib.hid hs2; have HS2L := Lib.hid hs2l
    clear hc ho hr hB8 hbx8 hf hn hl ht hxl b8 z1' hs2 hs2l hsm
    go_upto_region 5 with (fail)
    go_region_law (refine step_app_str _ (by rfl) (.tmp 33) (.tmp 36) (by rfl) w8 N vo s2 x.tk.name HO.out (by first | exact (World.grownBy_alloc w8 _ _).trans (g_dN _ 1 _) | exact (g_dN w8 1 _).trans (World.grownBy_alloc _ _ _)) hN8 hsm2 (by simp [Act.eval, Act.put]) _ (by simp [Act.eval, Act.put]) (World.alloc_heap_new _ _) ?_; intro g cap w9 hown9 hg9; have hc9 := Bc.overS HC.out HO.out hg9; have c9 := hc9.c0; have f9 := hc9.f 0; clear hc9)
    all_goals go_wp2
    all_goals go_end0
    all_goals
      obtain ⟨r1, r2⟩ := Bg.push HC.out HO.out HR.out hN hown9 hg9
      obtain ⟨hf, hn, hl, ht, hxl⟩ := HREST.out
      rw [HST.out, if_neg (by rw [hv]; simp)]
      refine ⟨rfl, ⟨⟨l, ?_, hf, hn, hl, ht, hxl⟩, ?_⟩, r2 _ HB8.out⟩
      · show Bg N _ b (x.tk.name :: openedS x.tk.name st.stk).reverse l _ _
        rw [List.reverse_cons, HS2.out]
        exact r1
      · show (x.tk.name :: openedS x.tk.name st.stk).length ≤ m + 1
        rw [List.length_cons]
        have := HKM.out
        omega

/-- One token. -/
theorem step_0 {st : St} {t : Tk} (h : t.kind = 0) : stepB st t = if t.data = ⟨#[]⟩ then st else ⟨st.stk, addText st.out st.stk.length t.data⟩ := by unfold stepB; rw [if_pos h]
theorem step_3 {st : St} {t : Tk} (h : t.kind = 3) : stepB st t = ⟨st.stk, addRow st.out ⟨st.stk.length, 2, ⟨#[]⟩, t.data, []⟩⟩ := by
  unfold stepB
  rw [if_neg (by rw [h]; decide), if_pos h]
  rfl
theorem step_1 {st : St} {t : Tk} (h : t.kind = 1) : stepB st t = if noName t.name = true then st else startS st t.name t.attrs := by
  unfold stepB
  rw [if_neg (by rw [h]; decide), if_neg (by rw [h]; decide), if_pos h]
  rfl
theorem step_2 {st : St} {t : Tk} (h : t.kind = 2) : stepB st t = if noName t.name = true ∨ isIn t.name voidL = true then st else endS st t.name := by
  unfold stepB
  rw [if_neg (by rw [h]; decide), if_neg (by rw [h]; decide), if_neg (by rw [h]; decide), if_pos h]
  rfl
theorem step_no {st : St} {t : Tk} (h0 : t.kind ≠ 0) (h1 : t.kind ≠ 1) (h2 : t.kind ≠ 2) (h3 : t.kind ≠ 3) : stepB st t = st := by
  unfold stepB
  rw [if_neg h0, if_neg h3, if_neg h1, if_neg h2]

end Go.Proofs.YtoijeljjehjfjaaDoor.Bu

namespace Go.Proofs.YtoijeljjehjfjaaDoor.Bm
set_option linter.unusedVariables false
set_option linter.unusedSimpArgs false
open Ba Fm Nm
open Ro (At Ro)
open Tm (Tk put)
/-- What is true of attributes stays true; the texts' bytes stay. -/
def mild (K : Nat) (l : List Ro) : Prop := ∀ x ∈ l, x.attrs.length ≤ K
theorem mild_add {K : Nat} {o : List Ro} {d : Int} {t : ByteArray} (h : mild K o) : mild K (addText o d t) := by
  unfold addText
  cases hy : o.getLast? with
  | none =>
    intro x hx
    rcases List.mem_append.1 hx with e | e
    · exact h x e
    · rw [List.mem_singleton.1 e]; exact Nat.zero_le _
  | some z =>
    show mild K (if z.kind = 1 ∧ z.depth = d then _ else _)
    split
    · intro x hx
      rcases List.mem_append.1 hx with e | e
      · exact h x (List.dropLast_subset _ e)
      · rw [List.mem_singleton.1 e]; exact h z (List.mem_of_getLast? hy)
    · intro x hx
      rcases List.mem_append.1 hx with e | e
      · exact h x e
      · rw [List.mem_singleton.1 e]; exact Nat.zero_le _
theorem txt_add (o : List Ro) (d : Int) (t : ByteArray) : Ro.txt (addText o d t) = Ro.txt o ++ L t := by
  unfold addText
  cases hy : o.getLast? with
  | none => show Ro.txt (o ++ [_]) = _; rw [Ro.txt_append, Ro.txt_text rfl]
  | some z =>
    show Ro.txt (if z.kind = 1 ∧ z.depth = d then _ else _) = _
    split
    · rename_i hc
      have ho := last_snoc hy
      have e1 : Ro.txt o = Ro.txt o.dropLast ++ L z.data := by
        have := congrArg Ro.txt ho
        rw [Ro.txt_append, Ro.txt_text hc.1] at this
        exact this
      rw [Ro.txt_append, e1, Ro.txt_text (show (⟨z.depth, z.kind, z.name, z.data ++ t, z.attrs⟩ : Ro).kind = 1 from hc.1), List.append_assoc]
      show _ ++ L (z.data ++ t) = _
      rw [L_append]
    · rw [Ro.txt_append, Ro.txt_text rfl]
theorem mild_normal {K : Nat} (l : List Ro) : full l → mild K l → mild K (Ro.normal l) ∧ Ro.txt (Ro.normal l) = Ro.txt l := by
  induction hn : l.length using Nat.strongRecOn generalizing l with
  | ind n ih =>
    subst hn
    intro h hk
    rcases snoc_cases l with rfl | ⟨m, y, rfl⟩
    · rw [Ro.normal]; exact ⟨(fun x hx => by cases hx), rfl⟩
    · obtain ⟨h1, h2⟩ := ih m.length (by rw [List.length_append]; exact Nat.lt_succ_self _) m rfl (full_init h) (fun x hx => hk x (List.mem_append_left _ hx))
      rw [normal_snoc m y h]
      split
      · rename_i hy
        exact ⟨mild_add h1, by rw [txt_add, h2, Ro.txt_append, Ro.txt_text hy]⟩
      · rename_i hy
        refine ⟨fun x hx => ?_, by rw [Ro.txt_append, Ro.txt_append, h2]⟩
        rcases List.mem_append.1 hx with e | e
        · exact h1 x e
        · rw [List.mem_singleton.1 e]; exact hk y (List.mem_append_right _ (List.mem_singleton.2 rfl))

end Go.Proofs.YtoijeljjehjfjaaDoor.Bm

namespace Go.Proofs.YtoijeljjehjfjaaDoor.Bu
set_option maxRecDepth 100000
set_option linter.unusedVariables false
set_option linter.unusedSimpArgs false
open Go.RowKit Ba Fm Fo Nm Bm
open Ro (At Ro Cw ros Fr Ow Att Ap Rr Sh Ra Rv acells len_acells cells len_cells rowV rowO info_row info_attr below_new len_ros ros_append)
open Tm (Tk put)
open To (Tw Aw tokV tokO tks)
set_option maxRecDepth 100000 in
set_option maxHeartbeats 2000000 in
theorem take_any (N b m T : Nat) (st : St) (x : Tw) (w : World) (h : Bt N w b st false m T) (hx : To.Att w N x) (hm : m < 1000000) (hal : x.tk.attrs.length ≤ 1000000) (hbig : tooBig st.out = false) :
    Calls Tryd.prog 39 #[bp b, tokV x] w fun e w' => e = .returned (.tuple #[]) ∧ Bt N w' b (stepB st x.tk) (tooBig (stepB st x.tk).out) (m + 1) (T + x.tk.data.size) ∧ Below N w w' := by
  obtain ⟨h1, hB1⟩ := h.below (below_new w (tokO x))
  have hx1 : To.Att (w.alloc (tokO x)) N x := hx.below hB1
  have H1 := Lib.hid h1; have HX := Lib.hid hx1; have HB := Lib.hid hB1
  have hsame : Bt N (w.alloc (tokO x)) b st (tooBig st.out) (m + 1) (T + x.tk.data.size) := by rw [hbig]; exact h1.more (Nat.le_succ _) (Nat.le_add_right _ _)
  have HSM := Lib.hid hsame
  clear h hx h1 hB1 hx1 hsame
  by_cases k0 : x.tk.kind = 0
  · have g0 : (x.tk.kind == 0) = true := beq_iff_eq.2 k0
    have HS := Lib.hid (step_0 (st := st) k0)
    clear k0
    by_cases hd : x.tk.data = ⟨#[]⟩
    · have hs : stepB st x.tk = st := by rw [HS.out, if_pos hd]
      have HS2 := Lib.hid hs; have HD := Lib.hid hd
      clear hs hd HS
      go_enter Tryd.func39, Tryd.ntmps39
      go_wp2_with fail
      refine (text_no b x.tk.data _ HD.out).mono ?_
      rintro e w2 ⟨rfl, rfl⟩
      go_wp2
      first | go_end0 | refine bodyPost_ret (results_none rfl _ _ _) rfl ?_
      rw [HS2.out]
      exact ⟨rfl, HSM.out, HB.out⟩
    · have hs : stepB st x.tk = ⟨st.stk, addText st.out st.stk.length x.tk.data⟩ := by rw [HS.out, if_neg hd]
      have HS2 := Lib.hid hs; have HD := Lib.hid hd
      clear hs hd HS
      go_enter Tryd.func39, Tryd.ntmps39
      go_wp2_with fail
      refine (text_yes N b m T st false x.tk.data _ H1.out hm HD.out).mono ?_
      rintro e w2 ⟨rfl, h2, b2⟩
      have H2 := Lib.hid h2; have B2 := Lib.hid (HB.out.trans b2)
      clear h2 b2
      go_wp2
      first | go_end0 | refine bodyPost_ret (results_none rfl _ _ _) rfl ?_
      rw [HS2.out]
      exact ⟨rfl, H2.out, B2.out⟩
  have g0 : (x.tk.kind == 0) = false := beq_eq_false_iff_ne.2 k0
  by_cases k3 : x.tk.kind = 3
  · have g3 : (x.tk.kind == 3) = true := beq_iff_eq.2 k3
    have HS := Lib.hid (step_3 (st := st) k3)
    clear k0 k3
    go_enter Tryd.func39, Tryd.ntmps39
    go_wp2_with fail
    refine (add_bt N b m T st false ⟨⟨0, 2, ⟨#[]⟩, x.tk.data, []⟩, none, 0⟩ _ _ rfl H1.out (fr_row N _ _ rfl) hm (by simp) (by simp) x.tk.data.size (by simp)).mono ?_
    rintro e w2 ⟨rfl, h2, b2, _⟩
    have H2 := Lib.hid h2; have B2 := Lib.hid (HB.out.trans b2)
    clear h2 b2
    go_wp2
    first | go_end0 | refine bodyPost_ret (results_none rfl _ _ _) rfl ?_
    rw [HS.out]
    exact ⟨rfl, H2.out, B2.out⟩
  have g3 : (x.tk.kind == 3) = false := beq_eq_false_iff_ne.2 k3
  by_cases k1 : x.tk.kind = 1
  · have g1 : (x.tk.kind == 1) = true := beq_iff_eq.2 k1
    have HS := Lib.hid (step_1 (st := st) k1)
    clear k0 k3 k1
    cases hn : noName x.tk.name with
    | true =>
      have hs : stepB st x.tk = st := by rw [HS.out, if_pos hn]
      have HS2 := Lib.hid hs; have HN := Lib.hid hn
      clear hs hn HS
      go_enter Tryd.func39, Tryd.ntmps39
      go_wp2_with fail
      refine (start_no b x _ HN.out).mono ?_
      rintro e w2 ⟨rfl, b2⟩
      obtain ⟨h2, hb2⟩ := HSM.out.below b2
      have H2 := Lib.hid h2; have B2 := Lib.hid (HB.out.trans hb2)
      clear h2 b2 hb2
      go_wp2
      first | go_end0 | refine bodyPost_ret (results_none rfl _ _ _) rfl ?_
      rw [HS2.out]
      exact ⟨rfl, H2.out, B2.out⟩
    | false =>
      have hs : stepB st x.tk = startS st x.tk.name x.tk.attrs := by rw [HS.out, if_neg (by rw [hn]; simp)]
      have HS2 := Lib.hid hs; have HN := Lib.hid hn
      clear hs hn HS
      go_enter Tryd.func39, Tryd.ntmps39
      go_wp2_with fail
      refine (start_any N b m T st x _ H1.out HX.out hm hal HN.out).mono ?_
      rintro e w2 ⟨rfl, h2, b2⟩
      have H2 := Lib.hid h2; have B2 := Lib.hid (HB.out.trans b2)
      clear h2 b2
      go_wp2
      first | go_end0 | refine bodyPost_ret (results_none rfl _ _ _) rfl ?_
      rw [HS2.out]
      exact ⟨rfl, H2.out.more (Nat.le_refl _) (Nat.le_add_right _ _), B2.out⟩
  have g1 : (x.tk.kind == 1) = false := beq_eq_false_iff_ne.2 k1
  by_cases k2 : x.tk.kind = 2
  · have g2 : (x.tk.kind == 2) = true := beq_iff_eq.2 k2
    have HS := Lib.hid (step_2 (st := st) k2)
    clear k0 k3 k1 k2
    by_cases hn : noName x.tk.name = true ∨ (noName x.tk.name = false ∧ isIn x.tk.name voidL = true)
    · have hs : stepB st x.tk = st := by rw [HS.out, if_pos (hn.imp id And.right)]
      have HS2 := Lib.hid hs; have HN := Lib.hid hn
      clear hs hn HS
      go_enter Tryd.func39, Tryd.ntmps39
      go_wp2_with fail
      refine (end_no b x.tk.name _ HN.out).mono ?_
      rintro e w2 ⟨rfl, b2⟩
      obtain ⟨h2, hb2⟩ := HSM.out.below b2
      have H2 := Lib.hid h2; have B2 := Lib.hid (HB.out.trans hb2)
      clear h2 b2 hb2
      go_wp2
      first | go_end0 | refine bodyPost_ret (results_none rfl _ _ _) rfl ?_
      rw [HS2.out]
      exact ⟨rfl, H2.out, B2.out⟩
    · have hn1 : noName x.tk.name = false := by
        cases h : noName x.tk.name with
        | true => exact absurd (.inl h) hn
        | false => rfl
      have hn2 : isIn x.tk.name voidL = false := by
        cases h : isIn x.tk.name voidL with
        | true => exact absurd (.inr ⟨hn1, h⟩) hn
        | false => rfl
      have hs : stepB st x.tk = endS st x.tk.name := by rw [HS.out, if_neg (by rw [hn1, hn2]; simp)]
      have HS2 := Lib.hid hs; have HN1 := Lib.hid hn1; have HN2 := Lib.hid hn2; have HBIG := Lib.hid hbig
      clear hs hn hn1 hn2 HS hbig
      go_enter Tryd.func39, Tryd.ntmps39
      go_wp2_with fail
      refine (end_any N b m T st x.tk.name _ H1.out hm HN1.out HN2.out HBIG.out).mono ?_
      rintro e w2 ⟨rfl, h2, b2⟩
      have H2 := Lib.hid h2; have B2 := Lib.hid (HB.out.trans b2)
      clear h2 b2
      go_wp2
      first | go_end0 | refine bodyPost_ret (results_none rfl _ _ _) rfl ?_
      rw [HS2.out]
      exact ⟨rfl, H2.out.more (Nat.le_refl _) (Nat.le_add_right _ _), B2.out⟩
  have g2 : (x.tk.kind == 2) = false := beq_eq_false_iff_ne.2 k2
  have HS := Lib.hid (step_no (st := st) k0 k1 k2 k3)
  clear k0 k1 k2 k3
  go_enter Tryd.func39, Tryd.ntmps39
  go_wp2
  first | go_end0 | refine bodyPost_ret (results_none rfl _ _ _) rfl ?_
  rw [HS.out]
  exact ⟨rfl, HSM.out, HB.out⟩

/-- The bytes of all data. -/
def dsum : List Tk → Nat
  | [] => 0
  | t :: r => t.data.size + dsum r
theorem tree_cons (st : St) (t : Tk) (r : List Tk) : treeB st (t :: r) = if tooBig (stepB st t).out = true then none else treeB (stepB st t) r := rfl

/-- What Tree comes to. -/
def TreeSays (w : World) (t : List Tk) (e : Ending) (w' : World) : Prop :=
  (match treeB ⟨[], []⟩ t with
  | none => e = .returned (.tuple #[.slice none 0 0, .int .i64 2])
  | some o => ∃ v y, e = .returned (.tuple #[v, .int .i64 0]) ∧ Ow w.heap.size w' v y ∧ (∀ z ∈ y, Fr w.heap.size w' z) ∧ ros y = o ∧ Ro.Few o ∧ (Ro.txt o).length ≤ 1000000000) ∧ Below w.heap.size w w'
theorem TreeSays.no {w w' : World} {t : List Tk} {e : Ending} (h : treeB ⟨[], []⟩ t = none) (he : e = .returned (.tuple #[.slice none 0 0, .int .i64 2])) (hb : Below w.heap.size w w') : TreeSays w t e w' := by
  refine ⟨?_, hb⟩
  rw [h]
  exact he
theorem TreeSays.yes {w w' : World} {t : List Tk} {e : Ending} {o : List Ro} (h : treeB ⟨[], []⟩ t = some o) (he : ∃ v y, e = .returned (.tuple #[v, .int .i64 0]) ∧ Ow w.heap.size w' v y ∧ (∀ z ∈ y, Fr w.heap.size w' z) ∧ ros y = o ∧ Ro.Few o ∧ (Ro.txt o).length ≤ 1000000000) (hb : Below w.heap.size w w') : TreeSays w t e w' := by
  refine ⟨?_, hb⟩
  rw [h]
  exact he

set_option maxRecDepth 100000 in
set_option maxHeartbeats 4000000 in
theorem Tree_any (A : Option Addr) (c : Nat) (l : List Tw) (w : World) (hr : To.Rr w w.heap.size A l) (hc : l.length ≤ c) (hl : l.length ≤ 200000) (hd : dsum (tks l) ≤ 1000000000) (hat : ∀ x ∈ l, x.tk.attrs.length ≤ 1000000) :
    Calls Tryd.prog 12 #[.slice A l.length c] w fun e w' => TreeSays w (tks l) e w' := by
  obtain ⟨W0, hW0⟩ : ∃ W0, w.alloc (.cells #[.slice none 0 0, .slice none 0 0, .int .i64 0, .bool false] 59) = W0 := ⟨_, rfl⟩
  have h0 : Bt w.heap.size W0 w.heap.size ⟨[], []⟩ false 0 0 := by
    rw [← hW0]
    exact ⟨⟨[], ⟨.slice none 0 0, .slice none 0 0, World.alloc_heap_new _ _, Sown.nil _ _, Or.nil _ _, Nat.le_refl _⟩, full_nil, by unfold ros; rw [List.map_nil, Ro.normal], Nat.le_refl _, Nat.le_refl _, fun x hx => by cases hx⟩, Nat.le_refl _⟩
  have hb0 : Below w.heap.size w W0 := by rw [← hW0]; exact below_one w _
  obtain ⟨Z, hZ⟩ : ∃ Z, w.heap.size = Z := ⟨_, rfl⟩
  go_enter Tryd.func12, Tryd.ntmps12
  go_wp2
  rw [hZ] at h0 hb0 hr
  go_loopw [9] (fun i wr => ∃ (k T : Nat) (st : St), i = .int .i64 k ∧ k ≤ l.length ∧ Bt Z wr Z st false k T ∧ tooBig st.out = false ∧ treeB ⟨[], []⟩ (tks l) = treeB st ((tks l).drop k) ∧ T + dsum ((tks l).drop k) ≤ 1000000000 ∧ Below Z w wr) (fun i _ => l.length - (intOf i).toNat)
  case atStart => exact ⟨0, 0, ⟨[], []⟩, rfl, Nat.zero_le _, h0, by decide, by rw [List.drop_zero], by rw [List.drop_zero]; omega, hb0⟩
  case round =>
    clear h0 hb0 hW0
    obtain ⟨k, T, st, rfl, hk, hbt, hbig, htr, hT, hbel⟩ := hrel
    by_cases hp : k < l.length
    · obtain ⟨b, off, x, rfl, hb, hdx, hx, hxa, hxm⟩ := (hr.below hbel).at_ k hp
      obtain ⟨x0, x1, x2, x3, x4⟩ := Ro.range5 hx
      have hdr : (tks l).drop k = x.tk :: (tks l).drop (k + 1) := by rw [To.tks_drop, hdx, To.tks_cons, ← To.tks_drop]
      rw [hdr, tree_cons] at htr
      rw [hdr] at hT
      have hT2 : T + x.tk.data.size + dsum ((tks l).drop (k + 1)) ≤ 1000000000 := by
        have : dsum (x.tk :: (tks l).drop (k + 1)) = x.tk.data.size + dsum ((tks l).drop (k + 1)) := rfl
        omega
      have hb1 := below_new wr (tokO x)
      obtain ⟨h1, hB1⟩ := hbt.below hb1
      have hxa1 : To.Att (wr.alloc (tokO x)) Z x := hxa.below hB1
      have hbz : Z < wr.heap.size := hbt.n.2
      have H1 := Lib.hid h1; have HX := Lib.hid hxa1; have HB1 := Lib.hid (hbel.trans hB1); have HTR := Lib.hid htr; have HT2 := Lib.hid hT2; have HBIG := Lib.hid hbig
      have hal := hat x hxm
      clear hbt hbig htr hT hbel hdx hx hxa hxm hdr hT2 hb1 h1 hB1 hxa1
      cases hq : tooBig (stepB st x.tk).out with
      | true =>
        have HQ := Lib.hid hq
        clear hq
        go_wp2_with fail
        refine (take_any Z Z k T st x (wr.alloc (tokO x)) H1.out HX.out (by omega) hal HBIG.out).mono ?_
        rintro e w2 ⟨rfl, h2, b2⟩
        rw [HQ.out] at h2
        obtain ⟨⟨l2, ⟨vo, vr, hc2, _⟩, _⟩, _⟩ := h2
        have c3 := hc2.c3
        have HB2 := Lib.hid (HB1.out.trans b2)
        clear hc2 b2
        go_wp2
        go_ret2
        exact TreeSays.no (by rw [HTR.out, if_pos HQ.out]) rfl (hZ ▸ HB2.out)
      | false =>
        have HQ := Lib.hid hq
        clear hq
        go_wp2_with fail
        refine (take_any Z Z k T st x (wr.alloc (tokO x)) H1.out HX.out (by omega) hal HBIG.out).mono ?_
        rintro e w2 ⟨rfl, h2, b2⟩
        rw [HQ.out] at h2
        have H2 := Lib.hid h2
        obtain ⟨⟨l2, ⟨vo, vr, hc2, _⟩, _⟩, _⟩ := h2
        have c3 := hc2.c3
        have HB2 := Lib.hid (HB1.out.trans b2)
        clear hc2 b2
        go_wp2
        go_roundw
        case rel => exact ⟨k + 1, T + x.tk.data.size, stepB st x.tk, by go_num, by omega, H2.out, HQ.out, by rw [HTR.out, if_neg (by rw [HQ.out]; simp)], HT2.out, HB2.out⟩
        case measure => simp [intOf]; omega
    · rw [List.drop_eq_nil_of_le (by rw [To.len_tks]; omega)] at htr hT
      obtain ⟨⟨l2, ⟨vo, vr, hc2, ho2, hr2, hN2⟩, hf, hn, hl2, ht, hx2⟩, _⟩ := hbt
      obtain ⟨A2, c2, rfl, hcc, _, _, hrr⟩ := hr2.form
      have c1 := hc2.c1
      have hfew : Ro.Few (ros l2) := fun y hy => by
        obtain ⟨z, hz, rfl⟩ := List.mem_map.1 hy
        exact (hx2 z hz).1
      have hheld : Ro.Held (ros l2) := fun y hy => by
        obtain ⟨z, hz, rfl⟩ := List.mem_map.1 hy
        have := (hx2 z hz).2
        omega
      have HR := Lib.hid hrr; have HF := Lib.hid hfew; have HH := Lib.hid hheld; have HN := Lib.hid hn; have HTR := Lib.hid htr; have HB := Lib.hid hbel
      have hT3 : (Ro.txt (ros l2)).length ≤ 1000000000 := by omega
      obtain ⟨hmi, hmt⟩ := mild_normal (K := 1000000) (ros l2) hf hfew
      rw [hn] at hmi hmt
      have HMI := Lib.hid (show Ro.Few st.out from hmi); have HMT := Lib.hid (show (Ro.txt st.out).length ≤ 1000000000 from by rw [hmt]; exact hT3)
      clear hmi hmt
      clear hc2 ho2 hr2 hf hn ht hx2 hrr hfew hheld htr hT hbel hbig
      go_wp2_with fail
      refine (Ro.Normal_any A2 c2 l2 wr HR.out hcc (by omega) hT3 HF.out HH.out).mono ?_
      rintro e w3 ⟨v, y, rfl, ho, hfr, hros, b3⟩
      have HO := Lib.hid ho; have HFR := Lib.hid hfr; have HROS := Lib.hid hros; have B3 := Lib.hid b3
      clear ho hfr hros b3
      have hzw : Z ≤ wr.heap.size := by have := HB.out.size; omega
      go_wp2
      go_ret2
      exact TreeSays.yes (o := st.out) HTR.out ⟨v, y, rfl, HO.out.mono (by omega) (fun z hz => (show Fr w.heap.size w3 z from ⟨World.ownsRow.mono (HFR.out z hz).1 (by omega), (HFR.out z hz).2⟩).ap), fun z hz => ⟨World.ownsRow.mono (HFR.out z hz).1 (by omega), (HFR.out z hz).2⟩, by rw [HROS.out, HN.out], HMI.out, HMT.out⟩ (hZ ▸ HB.out.trans (B3.out.mono hzw))

end Go.Proofs.YtoijeljjehjfjaaDoor.Bu

namespace Go.Proofs.YtoijeljjehjfjaaDoor.To
set_option maxRecDepth 100000
set_option linter.unusedSimpArgs false
set_option linter.unusedVariables false
open Go.RowKit Ba Fm Fo Tm
theorem isEmpty_L {s : ByteArray} (h : ¬ 0 < s.size) : L s = [] := List.eq_nil_of_length_eq_zero (by rw [size_L]; omega)
theorem L_cons (s : ByteArray) (h : 0 < s.size) : L s = s[0] :: (L s).drop 1 := by
  have := drop_cons s 0 h
  rwa [List.drop_zero] at this
theorem letter1 (c : UInt8) (w : World) (q : Bool) (hq : lr c = q) : Calls Tryd.prog 99 #[.int .u8 c.toNat] w fun e w' => e = .returned (.bool q) ∧ w = w' := by
  subst hq
  exact letter_any c w

set_option maxHeartbeats 1000000 in
theorem slash_any (s : ByteArray) (w : World) (hs : s.size ≤ 140737488355328) : Calls Tryd.prog 100 #[.string s] w fun e w' => e = .returned (.int .i64 (slashed (L s))) ∧ w = w' := by
  by_cases hp : 0 < s.size
  · have hl := L_cons s hp
    have he : s.toList.isEmpty = false := by rw [toList_L, hl]; rfl
    cases hr : lr s[0] with
    | true =>
      have hv : slashed (L s) = 2 := by rw [hl]; simp [slashed, hr]
      have HR := Lib.hid hr; have HV := Lib.hid hv; clear hr hv hl
      go_enter Tryd.func100, Tryd.ntmps100
      go_wp2_with (go_at_call 99; refine (letter1 s[0] _ true HR.out).mono ?_; rintro e w' ⟨rfl, rfl⟩)
      go_ret
      exact ⟨ret_int (by rw [HV.out]; rfl), rfl⟩
    | false =>
      have e62 : ((s[0].toNat : Int) == 62) = (s[0] == 62) := u8_eq (b := 62)
      cases h62 : (s[0] == 62) with
      | true =>
        have hv : slashed (L s) = 3 := by rw [hl]; have := eq_of_beq h62; simp [slashed, hr, this]; rw [this] at hr; revert hr; decide
        rw [h62] at e62
        have HR := Lib.hid hr; have HV := Lib.hid hv; clear hr hv hl h62
        go_enter Tryd.func100, Tryd.ntmps100
        go_wp2_with (go_at_call 99; refine (letter1 s[0] _ false HR.out).mono ?_; rintro e w' ⟨rfl, rfl⟩)
        go_ret
        exact ⟨ret_int (by rw [HV.out]; rfl), rfl⟩
      | false =>
        have hv : slashed (L s) = 6 := by rw [hl]; have : ¬ s[0] = 62 := by simpa using h62
                                          simp [slashed, hr, this]
        rw [h62] at e62
        have HR := Lib.hid hr; have HV := Lib.hid hv; clear hr hv hl h62
        go_enter Tryd.func100, Tryd.ntmps100
        go_wp2_with (go_at_call 99; refine (letter1 s[0] _ false HR.out).mono ?_; rintro e w' ⟨rfl, rfl⟩)
        go_ret
        exact ⟨ret_int (by rw [HV.out]; rfl), rfl⟩
  · have hl := isEmpty_L hp
    have he : s.toList.isEmpty = true := by rw [toList_L, hl]; rfl
    have hv : slashed (L s) = 0 := by rw [hl]; rfl
    have HV := Lib.hid hv; clear hv hl
    go_enter Tryd.func100, Tryd.ntmps100
    go_wp2
    go_ret
    exact ⟨ret_int (by rw [HV.out]; rfl), rfl⟩

theorem starts1 (s t : ByteArray) (w : World) (tl : List UInt8) (q : Bool) (hs : s.size ≤ 140737488355328) (ht : t.size ≤ 140737488355328) (hl : L t = tl) (hq : pre tl (L s) = q) :
    Calls Tryd.prog 107 #[.string s, .string t] w fun e w' => e = .returned (.bool q) ∧ w = w' := by
  subst hl hq
  exact starts_any s t w hs ht
theorem same1 (a b : ByteArray) (w : World) (q : Bool) (ha : a.size ≤ 140737488355328) (hb : b.size ≤ 140737488355328) (hq : decide (lowL (L a) = lowL (L b)) = q) :
    Calls Tryd.prog 108 #[.string a, .string b] w fun e w' => e = .returned (.bool q) ∧ Below w.heap.size w w' := by
  subst hq
  exact same_any a b w ha hb

theorem marked_4 {r : List UInt8} (h : pre [45, 45] r = true) : marked r = 4 := by unfold marked; rw [if_pos h]
theorem marked_5 {r : List UInt8} (h : pre [45, 45] r = false) (h1 : lowL (r.take 7) = [100, 111, 99, 116, 121, 112, 101]) (h2 : by1 lr (r.drop 7) = false) : marked r = 5 := by unfold marked; rw [if_neg (by rw [h]; simp), if_pos ⟨h1, h2⟩]
theorem marked_6 {r : List UInt8} (h : pre [45, 45] r = false) (h1 : ¬ (lowL (r.take 7) = [100, 111, 99, 116, 121, 112, 101] ∧ by1 lr (r.drop 7) = false)) : marked r = 6 := by unfold marked; rw [if_neg (by rw [h]; simp), if_neg h1]
theorem word7 : L (⟨#[100, 111, 99, 116, 121, 112, 101]⟩ : ByteArray) = [100, 111, 99, 116, 121, 112, 101] ∧ lowL [100, 111, 99, 116, 121, 112, 101] = [100, 111, 99, 116, 121, 112, 101] := ⟨rfl, by decide⟩
theorem L_take (s : ByteArray) (n : Nat) : L (s.extract 0 n) = (L s).take n := by rw [L_extract, List.drop_zero, Nat.sub_zero]

set_option maxHeartbeats 2000000 in
theorem mark_any (s : ByteArray) (w : World) (hs : s.size ≤ 140737488355328) : Calls Tryd.prog 101 #[.string s] w fun e w' => e = .returned (.int .i64 (marked (L s))) ∧ Below w.heap.size w w' := by
  have h4 : (4 : Nat) ≤ 5 := by decide
  cases hpre : pre [45, 45] (L s) with
  | true =>
    have hv := marked_4 hpre
    have HP := Lib.hid hpre; have HV := Lib.hid hv; clear hpre hv
    go_enter Tryd.func101, Tryd.ntmps101
    go_wp2_with (go_at_call 107; refine (starts1 s _ _ [45, 45] true hs (by decide) rfl HP.out).mono ?_; rintro e w' ⟨rfl, rfl⟩)
    go_ret
    exact ⟨ret_int (by rw [HV.out]; rfl), Below.refl _ _⟩
  | false =>
    by_cases h7 : 7 ≤ s.size
    · have hd : decide ((s.size : Int) < 7) = false := decide_eq_false (by omega)
      have hx : (s.extract 0 7).size ≤ 140737488355328 := Nat.le_trans (size_extract _ _ _) hs
      have hsm : decide (lowL (L (s.extract 0 7)) = lowL (L (⟨#[100, 111, 99, 116, 121, 112, 101]⟩ : ByteArray))) = decide (lowL ((L s).take 7) = [100, 111, 99, 116, 121, 112, 101]) := by rw [L_take, word7.1, word7.2]
      by_cases hw : lowL ((L s).take 7) = [100, 111, 99, 116, 121, 112, 101]
      · rw [decide_eq_true hw] at hsm
        by_cases h8 : 7 < s.size
        · have hd8 : decide ((7 : Int) < s.size) = true := decide_eq_true (by omega)
          cases hr : lr s[7] with
          | true =>
            have hv := marked_6 hpre (fun e => by have := e.2; rw [by1_at lr s 7 h8 true hr] at this; cases this)
            have HP := Lib.hid hpre; have HV := Lib.hid hv; have HS := Lib.hid hsm; have HR := Lib.hid hr; clear hpre hv hsm hr hw
            go_enter Tryd.func101, Tryd.ntmps101
            go_wp2_with (first
              | (go_at_call 107; refine (starts1 s _ _ [45, 45] false hs (by decide) rfl HP.out).mono ?_; rintro e w' ⟨rfl, rfl⟩)
              | (go_at_call 108; refine (same1 _ _ w true hx (by decide) HS.out).mono ?_; rintro e w1 ⟨rfl, hb1⟩)
              | (go_at_call 99; refine (letter1 s[7] _ true HR.out).mono ?_; rintro e w' ⟨rfl, rfl⟩))
            go_ret
            exact ⟨ret_int (by rw [HV.out]; rfl), hb1⟩
          | false =>
            have hv := marked_5 hpre hw (by1_at lr s 7 h8 false hr)
            have HP := Lib.hid hpre; have HV := Lib.hid hv; have HS := Lib.hid hsm; have HR := Lib.hid hr; clear hpre hv hsm hr hw
            go_enter Tryd.func101, Tryd.ntmps101
            go_wp2_with (first
              | (go_at_call 107; refine (starts1 s _ _ [45, 45] false hs (by decide) rfl HP.out).mono ?_; rintro e w' ⟨rfl, rfl⟩)
              | (go_at_call 108; refine (same1 _ _ w true hx (by decide) HS.out).mono ?_; rintro e w1 ⟨rfl, hb1⟩)
              | (go_at_call 99; refine (letter1 s[7] _ false HR.out).mono ?_; rintro e w' ⟨rfl, rfl⟩))
            go_ret
            exact ⟨ret_int (by rw [HV.out]; rfl), hb1⟩
        · have hd8 : decide ((7 : Int) < s.size) = false := decide_eq_false (by omega)
          have hv := marked_5 hpre hw (by rw [drop_nil s 7 h8]; rfl)
          have HP := Lib.hid hpre; have HV := Lib.hid hv; have HS := Lib.hid hsm; clear hpre hv hsm hw
          go_enter Tryd.func101, Tryd.ntmps101
          go_wp2_with (first
            | (go_at_call 107; refine (starts1 s _ _ [45, 45] false hs (by decide) rfl HP.out).mono ?_; rintro e w' ⟨rfl, rfl⟩)
            | (go_at_call 108; refine (same1 _ _ w true hx (by decide) HS.out).mono ?_; rintro e w1 ⟨rfl, hb1⟩))
          go_ret
          exact ⟨ret_int (by rw [HV.out]; rfl), hb1⟩
      · rw [decide_eq_false hw] at hsm
        have hv := marked_6 hpre (fun e => hw e.1)
        have HP := Lib.hid hpre; have HV := Lib.hid hv; have HS := Lib.hid hsm; clear hpre hv hsm hw
        go_enter Tryd.func101, Tryd.ntmps101
        go_wp2_with (first
          | (go_at_call 107; refine (starts1 s _ _ [45, 45] false hs (by decide) rfl HP.out).mono ?_; rintro e w' ⟨rfl, rfl⟩)
          | (go_at_call 108; refine (same1 _ _ w false hx (by decide) HS.out).mono ?_; rintro e w1 ⟨rfl, hb1⟩))
        go_ret
        exact ⟨ret_int (by rw [HV.out]; rfl), hb1⟩
    · have hd : decide ((s.size : Int) < 7) = true := decide_eq_true (by omega)
      have hv := marked_6 hpre (fun e => by
        have := congrArg List.length e.1
        rw [len_lowL, List.length_take, size_L] at this
        simp at this
        omega)
      have HP := Lib.hid hpre; have HV := Lib.hid hv; clear hpre hv
      go_enter Tryd.func101, Tryd.ntmps101
      go_wp2_with (go_at_call 107; refine (starts1 s _ _ [45, 45] false hs (by decide) rfl HP.out).mono ?_; rintro e w' ⟨rfl, rfl⟩)
      go_ret
      exact ⟨ret_int (by rw [HV.out]; rfl), Below.refl _ _⟩

end Go.Proofs.YtoijeljjehjfjaaDoor.To

namespace Go.Proofs.YtoijeljjehjfjaaDoor.To
set_option maxRecDepth 100000
set_option linter.unusedSimpArgs false
set_option linter.unusedVariables false
open Go.RowKit Ba Fm Fo Tm
theorem below_d (w : World) (n : Nat) : Below w.heap.size w (w.drewN n) := ⟨rfl, rfl, rfl, Nat.le_refl _, fun _ _ => rfl⟩
theorem below_d2 {w w' : World} {n : Nat} (h : Below (w.drewN n).heap.size (w.drewN n) w') : Below w.heap.size w w' := ⟨h.os, h.tape, h.output, h.size, h.block⟩
theorem begun_two (a c : UInt8) (r : List UInt8) : Tm.begun (a :: c :: r) = if a = 60 then (if lr c = true then 1 else if c = 47 then slashed r else if c = 33 then marked r else if c = 63 then 6 else 0) else 0 := rfl
theorem L_two (s : ByteArray) (h : 2 ≤ s.size) : L s = s[0] :: s[1] :: (L s).drop 2 := by
  have h0 := L_cons s (by omega)
  rw [drop_cons s 1 (by omega)] at h0
  exact h0
theorem begun_few {s : ByteArray} (h : ¬ 2 ≤ s.size) : Tm.begun (L s) = 0 := by
  have hl : (L s).length < 2 := by rw [size_L]; omega
  match h : L s, hl with
  | [], _ => rfl
  | [a], _ =>
    show (if a = 60 then 0 else 0) = 0
    split <;> rfl
theorem slash1 (s : ByteArray) (w : World) (l : List UInt8) (hs : s.size ≤ 140737488355328) (hl : L s = l) : Calls Tryd.prog 100 #[.string s] w fun e w' => e = .returned (.int .i64 (slashed l)) ∧ w = w' := by
  subst hl
  exact slash_any s w hs
theorem mark1 (s : ByteArray) (w : World) (l : List UInt8) (hs : s.size ≤ 140737488355328) (hl : L s = l) : Calls Tryd.prog 101 #[.string s] w fun e w' => e = .returned (.int .i64 (marked l)) ∧ Below w.heap.size w w' := by
  subst hl
  exact mark_any s w hs

set_option maxHeartbeats 2000000 in
theorem begun_any (s : ByteArray) (w : World) (hs : s.size ≤ 140737488355328) : Calls Tryd.prog 85 #[.string s] w fun e w' => e = .returned (.int .i64 (Tm.begun (L s))) ∧ Below w.heap.size w w' := by
  by_cases h2 : 2 ≤ s.size
  · have hd : decide ((s.size : Int) < 2) = false := decide_eq_false (by omega)
    have hl := L_two s h2
    have hx : (s.extract 2 s.size).size ≤ 140737488355328 := Nat.le_trans (size_extract _ _ _) hs
    have hxl : L (s.extract 2 s.size) = (L s).drop 2 := L_end s 2
    have e60 : ((s[0].toNat : Int) == 60) = (s[0] == 60) := u8_eq (b := 60)
    have h1 : 1 < s.size := by omega
    have h0 : 0 < s.size := by omega
    have i2 : (2 : Int) ≤ (s.size : Int) := by omega
    have j1 : (1 : Int) < (s.size : Int) := by omega
    cases h60 : (s[0] == 60) with
    | false =>
      have hv : Tm.begun (L s) = 0 := by rw [hl, begun_two, if_neg (by simpa using h60)]
      rw [h60] at e60
      have HV := Lib.hid hv; clear hv hl h60 hxl
      go_enter Tryd.func85, Tryd.ntmps85
      go_wp2
      go_ret
      exact ⟨ret_int (by rw [HV.out]; rfl), Below.refl _ _⟩
    | true =>
      have hb : Tm.begun (L s) = if lr s[1] = true then 1 else if s[1] = 47 then slashed ((L s).drop 2) else if s[1] = 33 then marked ((L s).drop 2) else if s[1] = 63 then 6 else 0 := by
        conv => lhs; rw [hl]
        rw [begun_two, if_pos (by simpa using h60)]
      rw [h60] at e60
      have e47 : ((s[1].toNat : Int) == 47) = (s[1] == 47) := u8_eq (b := 47)
      have e33 : ((s[1].toNat : Int) == 33) = (s[1] == 33) := u8_eq (b := 33)
      have e63 : ((s[1].toNat : Int) == 63) = (s[1] == 63) := u8_eq (b := 63)
      have HX := Lib.hid hxl
      clear hl h60 hxl
      cases hr : lr s[1] with
      | true =>
        rw [if_pos hr] at hb
        have HV := Lib.hid hb; have HR := Lib.hid hr; clear hb hr
        go_enter Tryd.func85, Tryd.ntmps85
        go_wp2
        go_quiet (fail)
        go_wp2_with (go_at_call 99; refine (letter1 s[1] _ true HR.out).mono ?_; rintro e w' ⟨rfl, rfl⟩)
        go_ret
        exact ⟨ret_int (by rw [HV.out]; rfl), below_d _ _⟩
      | false =>
        rw [if_neg (by rw [hr]; simp)] at hb
        have HR := Lib.hid hr; clear hr
        cases h47 : (s[1] == 47) with
        | true =>
          rw [if_pos (by simpa using h47)] at hb
          rw [h47] at e47
          have HV := Lib.hid hb; clear hb h47
          go_enter Tryd.func85, Tryd.ntmps85
          go_wp2
          go_quiet (fail)
          go_wp2_with (first
            | (go_at_call 99; refine (letter1 s[1] _ false HR.out).mono ?_; rintro e w' ⟨rfl, rfl⟩)
            | (go_at_call 100; refine (slash1 _ _ _ hx HX.out).mono ?_; rintro e w' ⟨rfl, rfl⟩))
          go_ret
          exact ⟨ret_int (by rw [HV.out]), below_d _ _⟩
        | false =>
          rw [if_neg (by simpa using h47)] at hb
          rw [h47] at e47
          clear h47
          cases h33 : (s[1] == 33) with
          | true =>
            rw [if_pos (by simpa using h33)] at hb
            rw [h33] at e33
            have HV := Lib.hid hb; clear hb h33
            go_enter Tryd.func85, Tryd.ntmps85
            go_wp2
            go_quiet (fail)
            go_wp2_with (first
              | (go_at_call 99; refine (letter1 s[1] _ false HR.out).mono ?_; rintro e w' ⟨rfl, rfl⟩)
              | (go_at_call 101; refine (mark1 _ _ _ hx HX.out).mono ?_; rintro e w1 ⟨rfl, hb1⟩))
            go_ret
            exact ⟨ret_int (by rw [HV.out]), below_d2 hb1⟩
          | false =>
            rw [if_neg (by simpa using h33)] at hb
            rw [h33] at e33
            clear h33
            cases h63 : (s[1] == 63) with
            | true =>
              rw [if_pos (by simpa using h63)] at hb
              rw [h63] at e63
              have HV := Lib.hid hb; clear hb h63
              go_enter Tryd.func85, Tryd.ntmps85
              go_wp2
              go_quiet (fail)
              go_wp2_with (go_at_call 99; refine (letter1 s[1] _ false HR.out).mono ?_; rintro e w' ⟨rfl, rfl⟩)
              go_ret
              exact ⟨ret_int (by rw [HV.out]; rfl), below_d _ _⟩
            | false =>
              rw [if_neg (by simpa using h63)] at hb
              rw [h63] at e63
              have HV := Lib.hid hb; clear hb h63
              go_enter Tryd.func85, Tryd.ntmps85
              go_wp2
              go_quiet (fail)
              go_wp2_with (go_at_call 99; refine (letter1 s[1] _ false HR.out).mono ?_; rintro e w' ⟨rfl, rfl⟩)
              go_ret
              exact ⟨ret_int (by rw [HV.out]; rfl), below_d _ _⟩
  · have hd : decide ((s.size : Int) < 2) = true := decide_eq_true (by omega)
    have hv := begun_few h2
    have HV := Lib.hid hv; clear hv
    go_enter Tryd.func85, Tryd.ntmps85
    go_wp2
    go_ret
    exact ⟨ret_int (by rw [HV.out]; rfl), Below.refl _ _⟩

theorem isEnd_short {n s : ByteArray} (h : ¬ 2 + n.size < s.size) : isEnd (L n) (L s) = false := by
  unfold isEnd
  rw [size_L, drop_nil s _ h]
  simp [by1]
set_option maxHeartbeats 2000000 in
theorem isEndTag_any (s n : ByteArray) (w : World) (hs : s.size ≤ 140737488351232) (hn : n.size ≤ 140737488351232) :
    Calls Tryd.prog 96 #[.string s, .string n] w fun e w' => e = .returned (.bool (isEnd (L n) (L s))) ∧ Below w.heap.size w w' := by
  by_cases h2 : 2 + n.size < s.size
  · have hd : decide ((2 : Int) + n.size < s.size) = true := decide_eq_true (by omega)
    have hx : (s.extract 2 (2 + n.size)).size ≤ 140737488355328 := Nat.le_trans (size_extract _ _ _) (by omega)
    have i0 : (2 : Int) ≤ 2 + (n.size : Int) := by omega
    have i1 : (2 : Int) + (n.size : Int) ≤ (s.size : Int) := by omega
    have hxl : L (s.extract 2 (2 + n.size)) = ((L s).drop 2).take n.size := by rw [L_extract, Nat.add_sub_cancel_left]
    cases hp : pre [60, 47] (L s) with
    | false =>
      have hv : isEnd (L n) (L s) = false := by unfold isEnd; rw [hp]; rfl
      have HP := Lib.hid hp; have HV := Lib.hid hv; clear hp hv hxl
      go_enter Tryd.func96, Tryd.ntmps96
      go_wp2_with (go_at_call 107; refine (starts1 s _ _ [60, 47] false (by omega) (by decide) rfl HP.out).mono ?_; rintro e w' ⟨rfl, rfl⟩)
      go_ret
      exact ⟨ret_bool HV.out.symm, Below.refl _ _⟩
    | true =>
      have hsame : decide (lowL (L (s.extract 2 (2 + n.size))) = lowL (L n)) = decide (lowL (((L s).drop 2).take n.size) = lowL (L n)) := by rw [hxl]
      have hb1 : by1 en ((L s).drop (2 + n.size)) = en s[2 + n.size] := by rw [drop_cons s _ h2]; rfl
      have hv : isEnd (L n) (L s) = (decide (lowL (((L s).drop 2).take n.size) = lowL (L n)) && en s[2 + n.size]) := by unfold isEnd; rw [hp, size_L, hb1]; rfl
      cases hq : decide (lowL (((L s).drop 2).take n.size) = lowL (L n)) with
      | false =>
        rw [hq] at hv hsame
        have HP := Lib.hid hp; have HV := Lib.hid hv; have HS := Lib.hid hsame; clear hp hv hxl hsame hq hb1
        go_enter Tryd.func96, Tryd.ntmps96
        go_wp2_with (first
          | (go_at_call 107; refine (starts1 s _ _ [60, 47] true (by omega) (by decide) rfl HP.out).mono ?_; rintro e w' ⟨rfl, rfl⟩)
          | (go_at_call 108; refine (same1 _ _ w false hx (by omega) HS.out).mono ?_; rintro e w1 ⟨rfl, hb1⟩))
        go_ret
        exact ⟨ret_bool HV.out.symm, hb1⟩
      | true =>
        rw [hq] at hv hsame
        have HP := Lib.hid hp; have HV := Lib.hid hv; have HS := Lib.hid hsame; clear hp hv hxl hsame hq hb1
        go_enter Tryd.func96, Tryd.ntmps96
        go_wp2_with (first
          | (go_at_call 107; refine (starts1 s _ _ [60, 47] true (by omega) (by decide) rfl HP.out).mono ?_; rintro e w' ⟨rfl, rfl⟩)
          | (go_at_call 108; refine (same1 _ _ w true hx (by omega) HS.out).mono ?_; rintro e w1 ⟨rfl, hb1⟩)
          | (go_at_call 103; refine (endsName_any s[2 + n.size] _).mono ?_; rintro e w' ⟨rfl, rfl⟩))
        go_ret
        exact ⟨ret_bool HV.out.symm, hb1⟩
  · have hd : decide ((2 : Int) + n.size < s.size) = false := decide_eq_false (by omega)
    have hv := isEnd_short h2
    have HV := Lib.hid hv; clear hv
    go_enter Tryd.func96, Tryd.ntmps96
    go_wp2
    go_ret
    exact ⟨ret_bool HV.out.symm, Below.refl _ _⟩

end Go.Proofs.YtoijeljjehjfjaaDoor.To

namespace Go.Proofs.YtoijeljjehjfjaaDoor.To
set_option maxRecDepth 100000
set_option linter.unusedSimpArgs false
set_option linter.unusedVariables false
open Go.RowKit Ba Fm Fo Tm
theorem begun1 (s : ByteArray) (w : World) (l : List UInt8) (n : Nat) (hs : s.size ≤ 140737488355328) (hl : L s = l) (hn : Tm.begun l = n) : Calls Tryd.prog 85 #[.string s] w fun e w' => e = .returned (.int .i64 n) ∧ Below w.heap.size w w' := by
  subst hl hn
  exact begun_any s w hs
theorem endTag1 (s n : ByteArray) (w : World) (l : List UInt8) (q : Bool) (hs : s.size ≤ 140737488351232) (hn : n.size ≤ 140737488351232) (hl : L s = l) (hq : isEnd (L n) l = q) :
    Calls Tryd.prog 96 #[.string s, .string n] w fun e w' => e = .returned (.bool q) ∧ Below w.heap.size w w' := by
  subst hl hq
  exact isEndTag_any s n w hs hn
theorem rc_next {w wr w2 : World} {b k m : Nat} {s : ByteArray} {v : Value} (h : Rc wr b s m v) (hg : w.grownBy wr (some b)) (hb : Below wr.drew.heap.size wr.drew w2) : Rc w2 b s m v ∧ w.grownBy w2 (some b) :=
  ⟨(show Rc wr.drew b s m v from h).below hb, g_below (show w.grownBy wr.drew (some b) from ⟨hg.os, hg.tape, hg.output, hg.size, hg.block⟩) hb⟩

set_option maxRecDepth 100000 in
set_option maxHeartbeats 4000000 in
theorem plain_any (b k : Nat) (s : ByteArray) (v : Value) (w : World) (h : Rc w b s k v) (hk : k ≤ s.size) (hs : s.size ≤ 140737488351232) :
    Calls Tryd.prog 69 #[rp b] w fun e w' => e = .returned (.string (B (lead (bg) ((L s).drop k)))) ∧ ∃ m, m ≤ s.size ∧ (L s).drop m = trail (bg) ((L s).drop k) ∧ Rc w' b s m v ∧ w.grownBy w' (some b) := by
  have c1 := h.c1
  have hs' : s.size ≤ 140737488355328 := by omega
  go_enter Tryd.func69, Tryd.ntmps69
  go_wp2
  clear c1
  go_loopw [] (fun wr => ∃ m : Nat, Far (bg) s k m ∧ Rc wr b s m v ∧ w.grownBy wr (some b)) (fun wr => s.size - posOf wr b)
  case atStart => exact ⟨k, .start hk, h, World.grownBy.refl _ _⟩
  case round =>
    clear h
    obtain ⟨m, hf, h, hg⟩ := hrel
    have hm := hf.2.1
    have hkm := hf.1
    have c0 := h.c0; have c1 := h.c1; have f1 := h.f 1
    have hpos := h.pos
    by_cases hp : m < s.size
    · have hlt : decide ((m : Int) < s.size) = true := decide_eq_true (by omega)
      have hx : (s.extract m s.size).size ≤ 140737488351232 := Nat.le_trans (size_extract _ _ _) hs
      have hxl := L_end s m
      have i0 : (0 : Int) ≤ (m : Int) := by omega
      have i1 : (m : Int) ≤ (s.size : Int) := by omega
      cases hb : Tm.begun ((L s).drop m) with
      | zero =>
        have hf := hf.next hp (by unfold bg; rw [hb]; rfl)
        have H := Lib.hid h; have HF := Lib.hid hf; have HS := Lib.hid hb; have HP := Lib.hid hpos; have HG := Lib.hid hg; have HX := Lib.hid hxl; clear h hf hb hpos hg hxl
        go_wp2
        go_still_tail 20, (by kernel_rfl)
        change wpList _ _ _ _ _ wr.drew
        go_wp2_with fail
        refine (begun1 _ _ _ 0 (by omega) HX.out HS.out).mono ?_
        rintro e w2 ⟨rfl, hb2⟩
        obtain ⟨h2, hg2⟩ := rc_next (k := k) H.out HG.out hb2
        clear c0 c1 f1
        have c1 := h2.c1; have f1 := h2.f 1
        have H2 := Lib.hid h2; have HG2 := Lib.hid hg2; clear h2 hg2 hb2
        go_wp2
        go_roundw
        case rel => exact ⟨m + 1, HF.out, H2.out.set1 (m + 1), HG2.out.trans (g_set _ _ _ _)⟩
        case measure =>
          rw [show posOf (w2.setCell ⟨b, 1, none⟩ (.int .i64 (m + 1))) b = m + 1 from (H2.out.set1 (m + 1)).pos, HP.out]
          omega
      | succ n =>
        have hd := hf.done (.inl (by unfold bg; rw [hb]; rfl))
        have H := Lib.hid h; have HD := Lib.hid hd; have HS := Lib.hid hb; have HG := Lib.hid hg; have HX := Lib.hid hxl; clear h hf hb hpos hg hd hxl
        have hn0 : ((n + 1 : Nat) : Int) ≠ 0 := by omega
        have hn1 : (((n + 1 : Nat) : Int) == 0) = false := by simpa using hn0
        generalize hN : n + 1 = N at *
        go_wp2
        go_still_tail 20, (by kernel_rfl)
        change wpList _ _ _ _ _ wr.drew
        go_wp2_with fail
        refine (begun1 _ _ _ N (by omega) HX.out HS.out).mono ?_
        rintro e w2 ⟨rfl, hb2⟩
        obtain ⟨h2, hg2⟩ := rc_next (k := k) H.out HG.out hb2
        clear c0 c1 f1
        have c0 := h2.c0; have c1 := h2.c1
        have H2 := Lib.hid h2; have HG2 := Lib.hid hg2; clear h2 hg2 hb2
        go_wp2
        go_quiet (fail)
        go_wp2
        go_ret
        exact ⟨ret_str HD.out.1, m, hm, HD.out.2, H2.out, HG2.out.trans (g_dN _ _ _)⟩
    · have hlt : decide ((m : Int) < s.size) = false := decide_eq_false (by omega)
      have hd := hf.done (.inr hp)
      have H := Lib.hid h; have HD := Lib.hid hd; have HG := Lib.hid hg; clear h hf hpos hg hd
      go_wp2
      go_quiet (fail)
      go_wp2
      go_quiet (fail)
      go_wp2
      go_ret
      exact ⟨ret_str HD.out.1, m, hm, HD.out.2, H.out, (HG.out.trans (g_dN _ _ _)).trans (g_dN _ _ _)⟩

set_option maxRecDepth 100000 in
set_option maxHeartbeats 4000000 in
theorem upToEnd_any (b k : Nat) (s : ByteArray) (v : Value) (nm : ByteArray) (hnm : nm.size ≤ 140737488351232) (w : World) (h : Rc w b s k v) (hk : k ≤ s.size) (hs : s.size ≤ 140737488351232) :
    Calls Tryd.prog 83 #[rp b, .string nm] w fun e w' => e = .returned (.string (B (lead (isEnd (L nm)) ((L s).drop k)))) ∧ ∃ m, m ≤ s.size ∧ (L s).drop m = trail (isEnd (L nm)) ((L s).drop k) ∧ Rc w' b s m v ∧ w.grownBy w' (some b) := by
  have c1 := h.c1
  have hs' : s.size ≤ 140737488355328 := by omega
  go_enter Tryd.func83, Tryd.ntmps83
  go_wp2
  clear c1
  go_loopw [] (fun wr => ∃ m : Nat, Far (isEnd (L nm)) s k m ∧ Rc wr b s m v ∧ w.grownBy wr (some b)) (fun wr => s.size - posOf wr b)
  case atStart => exact ⟨k, .start hk, h, World.grownBy.refl _ _⟩
  case round =>
    clear h
    obtain ⟨m, hf, h, hg⟩ := hrel
    have hm := hf.2.1
    have hkm := hf.1
    have c0 := h.c0; have c1 := h.c1; have f1 := h.f 1
    have hpos := h.pos
    by_cases hp : m < s.size
    · have hlt : decide ((m : Int) < s.size) = true := decide_eq_true (by omega)
      have hx : (s.extract m s.size).size ≤ 140737488351232 := Nat.le_trans (size_extract _ _ _) hs
      have hxl := L_end s m
      have i0 : (0 : Int) ≤ (m : Int) := by omega
      have i1 : (m : Int) ≤ (s.size : Int) := by omega
      cases hb : isEnd (L nm) ((L s).drop m) with
      | false =>
        have hf := hf.next hp (hb)
        have H := Lib.hid h; have HF := Lib.hid hf; have HS := Lib.hid hb; have HP := Lib.hid hpos; have HG := Lib.hid hg; have HX := Lib.hid hxl; clear h hf hb hpos hg hxl
        go_wp2
        go_still_tail 21, (by kernel_rfl)
        change wpList _ _ _ _ _ wr.drew
        go_wp2_with fail
        refine (endTag1 _ _ _ _ false hx hnm HX.out HS.out).mono ?_
        rintro e w2 ⟨rfl, hb2⟩
        obtain ⟨h2, hg2⟩ := rc_next (k := k) H.out HG.out hb2
        clear c0 c1 f1
        have c1 := h2.c1; have f1 := h2.f 1
        have H2 := Lib.hid h2; have HG2 := Lib.hid hg2; clear h2 hg2 hb2
        go_wp2
        go_roundw
        case rel => exact ⟨m + 1, HF.out, H2.out.set1 (m + 1), HG2.out.trans (g_set _ _ _ _)⟩
        case measure =>
          rw [show posOf (w2.setCell ⟨b, 1, none⟩ (.int .i64 (m + 1))) b = m + 1 from (H2.out.set1 (m + 1)).pos, HP.out]
          omega
      | true =>
        have hd := hf.done (.inl (hb))
        have H := Lib.hid h; have HD := Lib.hid hd; have HS := Lib.hid hb; have HG := Lib.hid hg; have HX := Lib.hid hxl; clear h hf hb hpos hg hd hxl
        
        
        
        go_wp2
        go_still_tail 21, (by kernel_rfl)
        change wpList _ _ _ _ _ wr.drew
        go_wp2_with fail
        refine (endTag1 _ _ _ _ true hx hnm HX.out HS.out).mono ?_
        rintro e w2 ⟨rfl, hb2⟩
        obtain ⟨h2, hg2⟩ := rc_next (k := k) H.out HG.out hb2
        clear c0 c1 f1
        have c0 := h2.c0; have c1 := h2.c1
        have H2 := Lib.hid h2; have HG2 := Lib.hid hg2; clear h2 hg2 hb2
        go_wp2
        go_quiet (fail)
        go_wp2
        go_ret
        exact ⟨ret_str HD.out.1, m, hm, HD.out.2, H2.out, HG2.out.trans (g_dN _ _ _)⟩
    · have hlt : decide ((m : Int) < s.size) = false := decide_eq_false (by omega)
      have hd := hf.done (.inr hp)
      have H := Lib.hid h; have HD := Lib.hid hd; have HG := Lib.hid hg; clear h hf hpos hg hd
      go_wp2
      go_quiet (fail)
      go_wp2
      go_quiet (fail)
      go_wp2
      go_ret
      exact ⟨ret_str HD.out.1, m, hm, HD.out.2, H.out, (HG.out.trans (g_dN _ _ _)).trans (g_dN _ _ _)⟩

end Go.Proofs.YtoijeljjehjfjaaDoor.To
