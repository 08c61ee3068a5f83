/-
  Walks of stage 4: the fixed samples.
-/
import Derived.Test.YtblefklfgaohfaaRowWalkU
namespace Go.Proofs.Ytblefklfgaohfaa.Ro
set_option linter.unusedVariables false
set_option linter.unusedSimpArgs false
open Go.RowKit Ba

theorem f_put1 (A : Option Addr) (c b : Nat) (W : World) (hR : Rr W W.heap.size A theDiv) (hc : theDiv.length ≤ c) (hb : Rr W W.heap.size (some ⟨b, 0, none⟩) [bare (roC 0 sc)]) :
    Calls Try.prog 28 #[.slice A theDiv.length c, .int .i64 0, .int .i64 1, .slice (some ⟨b, 0, none⟩) 1 1] W fun e w' => ∃ v l', e = .returned (.tuple #[v, .int .i64 0]) ∧ Ow W.heap.size w' v l' ∧ ros l' = theP ∧ Below W.heap.size W w' := by
  refine (Put_any A (some ⟨b, 0, none⟩) c 1 theDiv [bare (roC 0 sc)] 0 1 W hR hb hc (Nat.le_refl _) (by decide) (by decide) few_div few_c deep_div).mono ?_
  rintro e w' ⟨v, l', rfl, ho, _, hros, hbl⟩
  rw [show put (ros theDiv) 0 1 (ros [bare (roC 0 sc)]) = (0, theP) from c_put1] at hros ⊢
  exact ⟨v, l', rfl, ho, hros, hbl⟩
theorem f_put2 (A : Option Addr) (c : Nat) (W : World) (hR : Rr W W.heap.size A theDiv) (hc : theDiv.length ≤ c) :
    Calls Try.prog 28 #[.slice A theDiv.length c, .int .i64 1, .int .i64 0, .slice none 0 0] W fun e w' => ∃ v, e = .returned (.tuple #[v, .int .i64 41]) ∧ Below W.heap.size W w' := by
  refine (Put_any A none c 0 theDiv [] 1 0 W hR (Rr.nil _ _ _) hc (Nat.le_refl _) (by decide) (by decide) few_div (fun _ h => by cases h) deep_div).mono ?_
  rintro e w' ⟨v, l', rfl, ho, _, hros, hbl⟩
  rw [show put (ros theDiv) 1 0 (ros []) = (41, []) from c_put2] at hros ⊢
  exact ⟨v, rfl, hbl⟩
theorem f_put3 (A : Option Addr) (c : Nat) (W : World) (hR : Rr W W.heap.size A theDiv) (hc : theDiv.length ≤ c) :
    Calls Try.prog 28 #[.slice A theDiv.length c, .int .i64 0, .int .i64 3, .slice none 0 0] W fun e w' => ∃ v, e = .returned (.tuple #[v, .int .i64 1]) ∧ Below W.heap.size W w' := by
  refine (Put_any A none c 0 theDiv [] 0 3 W hR (Rr.nil _ _ _) hc (Nat.le_refl _) (by decide) (by decide) few_div (fun _ h => by cases h) deep_div).mono ?_
  rintro e w' ⟨v, l', rfl, ho, _, hros, hbl⟩
  rw [show put (ros theDiv) 0 3 (ros []) = (1, []) from c_put3] at hros ⊢
  exact ⟨v, rfl, hbl⟩
theorem len_p {l : List Cw} (h : ros l = theP) : l.length = 4 := by rw [← len_ros, h]; rfl
theorem f_take (A : Option Addr) (c : Nat) (l : List Cw) (W : World) (hl : ros l = theP) (hR : Rr W W.heap.size A l) (hc : l.length ≤ c) :
    Calls Try.prog 30 #[.slice A l.length c, .int .i64 2] W fun e w' => ∃ v l', e = .returned (.tuple #[v, .int .i64 0]) ∧ Ow W.heap.size w' v l' ∧ ros l' = [roC 0 sc] ∧ Below W.heap.size W w' := by
  have h4 := len_p hl
  refine (Take_any A c l 2 W hR hc (by omega) (by omega) (by rw [hl]; exact few_p) (by rw [hl]; exact deep_p)).mono ?_
  rintro e w' ⟨v, l', rfl, ho, _, hros, hbl⟩
  rw [hl] at hros
  exact ⟨v, l', rfl, ho, hros.trans c_take, hbl⟩
theorem f_drop (A : Option Addr) (c : Nat) (l : List Cw) (W : World) (hl : ros l = theP) (hR : Rr W W.heap.size A l) (hc : l.length ≤ c) :
    Calls Try.prog 31 #[.slice A l.length c, .int .i64 2] W fun e w' => ∃ v l', e = .returned (.tuple #[v, .int .i64 0]) ∧ Ow W.heap.size w' v l' ∧ ros l' = ros theDiv ∧ Below W.heap.size W w' := by
  have h4 := len_p hl
  refine (Drop_any A c l 2 W hR hc (by omega) (by omega) (by rw [hl]; exact few_p) (by rw [hl]; exact deep_p)).mono ?_
  rintro e w' ⟨v, l', rfl, ho, _, hros, hbl⟩
  rw [hl] at hros
  exact ⟨v, l', rfl, ho, hros.trans c_drop, hbl⟩
theorem f_normal (A : Option Addr) (c : Nat) (W : World) (hR : Rr W W.heap.size A theDiv) (hc : theDiv.length ≤ c) :
    Calls Try.prog 33 #[.slice A theDiv.length c] W fun e w' => ∃ v l', e = .returned v ∧ Ow W.heap.size w' v l' ∧ ros l' = [roDiv, roT 1 sab] ∧ Below W.heap.size W w' := by
  refine (Normal_any A c theDiv W hR hc (by decide) c_len few_div deep_div.held).mono ?_
  rintro e w' ⟨v, l', rfl, ho, _, hros, hbl⟩
  exact ⟨v, l', rfl, ho, hros.trans c_normal, hbl⟩

def cArr : Array Value := #[Value.int .i64 0, Value.int .i64 2, Value.string { data := #[] }, Value.string { data := #[99] }, Value.slice none 0 0]
theorem f_same1 (A : Option Addr) (c : Nat) (l : List Cw) (W : World) (hl : ros l = [roC 0 sc]) (hR : Rr W W.heap.size A l) (hc : l.length ≤ c) :
    Calls Try.prog 16 #[.slice A l.length c, .slice (some ⟨W.heap.size, 0, none⟩) 1 1] (W.alloc (.cells cArr 43)) fun e w' => e = .returned (.bool true) ∧ Below W.heap.size W w' := by
  have hb := below_new W (Obj.cells cArr 43)
  have hoc := rows_new W [bare (roC 0 sc)] cArr 1 rfl (by decide) rfl (fun x hx => by
    simp only [List.mem_cons, List.not_mem_nil, or_false] at hx
    exact ⟨_, hx, rfl⟩)
  obtain ⟨Ac, cc, ev, _, _, _, hRc⟩ := hoc.form
  have e1 : (some ⟨W.heap.size, 0, none⟩ : Option Addr) = Ac := by injection ev
  have e2 : 1 = cc := by injection ev
  subst e1
  subst e2
  have h1 : l.length = 1 := by rw [← len_ros, hl]; rfl
  refine (refSame_any A (some ⟨W.heap.size, 0, none⟩) c 1 l [bare (roC 0 sc)] _ ((hR.below hb).more hb.size) hRc hc (Nat.le_refl _) (by omega) (by decide)).mono ?_
  rintro e w' ⟨rfl, hb2⟩
  exact ⟨ret_bool (decide_eq_true hl), hb.trans (hb2.mono hb.size)⟩
theorem f_same2 (A B : Option Addr) (c d : Nat) (l : List Cw) (W : World) (hl : ros l = ros theDiv) (hR : Rr W W.heap.size A l) (hc : l.length ≤ c) (hB : Rr W W.heap.size B theDiv) (hd : theDiv.length ≤ d) :
    Calls Try.prog 16 #[.slice A l.length c, .slice B theDiv.length d] W fun e w' => e = .returned (.bool true) ∧ Below W.heap.size W w' := by
  have h1 : l.length = 3 := by rw [← len_ros, hl]; rfl
  refine (refSame_any A B c d l theDiv W hR hB hc hd (by omega) (by decide)).mono ?_
  rintro e w' ⟨rfl, hb2⟩
  exact ⟨ret_bool (decide_eq_true hl), hb2⟩
theorem nums_new (w : World) : Nw w.heap.size (w.alloc (.cells #[.int .i64 1, .int .i64 2] 3)) (.slice (some ⟨w.heap.size, 0, none⟩) 2 2) [1, 2] :=
  ⟨rfl, .inr ⟨w.heap.size, 2, _, rfl, Nat.le_refl _, heap_alloc_new w _, by decide, by decide, rfl, rfl⟩⟩
theorem f_nums (Ak : Option Addr) (ck : Nat) (w : World) (hk : Rn w w.heap.size Ak [1, 2]) (hck : 2 ≤ ck) (hm : ck ≤ maxLen) :
    Calls Try.prog 23 #[.slice Ak 2 ck, .slice (some ⟨w.heap.size, 0, none⟩) 2 2] (w.alloc (.cells #[.int .i64 1, .int .i64 2] 3)) fun e w' => e = .returned (.bool true) ∧ Below w.heap.size w w' := by
  obtain ⟨A, c, ev, hc, hmc, hrn⟩ := (nums_new w).form
  have e1 : (some ⟨w.heap.size, 0, none⟩ : Option Addr) = A := by injection ev
  have e2 : 2 = c := by injection ev
  subst e1
  subst e2
  have hb := below_new w (Obj.cells #[.int .i64 1, .int .i64 2] 3)
  have hk2 : Rn (w.alloc (.cells #[.int .i64 1, .int .i64 2] 3)) (w.alloc (.cells #[.int .i64 1, .int .i64 2] 3)).heap.size Ak [1, 2] := fun h0 => by
    obtain ⟨b, off, e, hb1, hc⟩ := Rn.below hk hb (Nat.le_refl _) h0
    exact ⟨b, off, e, Nat.lt_of_lt_of_le hb1 hb.size, hc⟩
  refine (nums_any Ak (some ⟨w.heap.size, 0, none⟩) ck 2 [1, 2] [1, 2] _ hk2 hrn hck (Nat.le_refl _) hm (by decide)).mono ?_
  rintro e w' ⟨rfl, n, rfl⟩
  exact ⟨rfl, below_dN hb n⟩

set_option maxRecDepth 100000 in
set_option maxHeartbeats 4000000 in
theorem fixed_any (w : World) : Calls Try.prog 12 #[] w fun e w' => e = .returned (.bool true) ∧ Below w.heap.size w w' := by
  go_enter Try.func12, Try.ntmps12
  go_wp2_with fail
  refine (div_any w).mono ?_
  rintro e w1 ⟨v1, rfl, ho1, hb1⟩
  obtain ⟨A1, c1, rfl, hc1, _, _, hR1⟩ := ho1.form
  obtain ⟨bA, oA, rfl, _⟩ := hR1.1 (by decide)
  have hc3 : 3 ≤ c1 := hc1
  have hcn : ¬ c1 = 1 := by omega
  have hb2 := below_new w1 (Obj.cells #[Value.int .i64 0, Value.int .i64 2, Value.string { data := #[] }, Value.string { data := #[99] }, Value.slice none 0 0] 43)
  have hoc := rows_new w1 [bare (roC 0 sc)] #[Value.int .i64 0, Value.int .i64 2, Value.string { data := #[] }, Value.string { data := #[99] }, Value.slice none 0 0] 1 rfl (by decide) rfl (fun x hx => by
    simp only [List.mem_cons, List.not_mem_nil, or_false] at hx
    exact ⟨_, hx, rfl⟩)
  obtain ⟨Ac, cc, ev, _, _, _, hRc⟩ := hoc.form
  obtain ⟨rfl, _, rfl⟩ : some ⟨w1.heap.size, 0, none⟩ = Ac ∧ 1 = 1 ∧ 1 = cc := by injection ev; exact ⟨‹_›, rfl, ‹_›⟩
  have HP1 := Lib.hid (f_put1 (some ⟨bA, oA, none⟩) c1 w1.heap.size _ ((hR1.below hb2).more hb2.size) hc1 hRc)
  have HB1 := Lib.hid hb1; have HR1 := Lib.hid hR1; have HB2 := Lib.hid hb2
  clear ho1 hb1 hR1 hoc ev hRc hb2
  go_wp2_with fail
  refine HP1.out.mono ?_
  rintro e w2 ⟨vp, lp, rfl, hop, hrp, hb2⟩
  obtain ⟨Ap_, cp, rfl, hcp, _, _, hRp⟩ := hop.form
  have hb12 := HB2.out.trans (hb2.mono HB2.out.size)
  have HB12 := Lib.hid hb12; have HRP := Lib.hid hrp; have HRp := Lib.hid hRp
  have HR2 := Lib.hid ((HR1.out.below hb12).more hb12.size)
  clear hop hrp hb2 hRp hb12 HP1 HB2
  go_wp2_with fail
  refine (f_put2 (some ⟨bA, oA, none⟩) c1 w2 HR2.out hc1).mono ?_
  rintro e w3 ⟨vq, rfl, hb3⟩
  have HB3 := Lib.hid hb3
  have HR3 := Lib.hid ((HR2.out.below hb3).more hb3.size)
  have HRp3 := Lib.hid ((HRp.out.below hb3).more hb3.size)
  clear hb3 HRp
  go_wp2_with fail
  refine (f_put3 (some ⟨bA, oA, none⟩) c1 w3 HR3.out hc1).mono ?_
  rintro e w4 ⟨vr, rfl, hb4⟩
  have HB4 := Lib.hid hb4
  have HR4 := Lib.hid ((HR3.out.below hb4).more hb4.size)
  have HRp4 := Lib.hid ((HRp3.out.below hb4).more hb4.size)
  clear hb4 HRp3
  go_wp2_with fail
  refine (f_take Ap_ cp lp w4 HRP.out HRp4.out hcp).mono ?_
  rintro e w5 ⟨vt, lt, rfl, hot, hrt, hb5⟩
  obtain ⟨At_, ct, rfl, hct, _, _, hRt⟩ := hot.form
  have HB5 := Lib.hid hb5; have HRT := Lib.hid hrt
  have HR5 := Lib.hid ((HR4.out.below hb5).more hb5.size)
  have HRp5 := Lib.hid ((HRp4.out.below hb5).more hb5.size)
  have HRt5 := Lib.hid hRt
  clear hb5 hrt hot hRt HR2 HR3 HR4 HRp4
  go_wp2_with fail
  refine (f_drop Ap_ cp lp w5 HRP.out HRp5.out hcp).mono ?_
  rintro e w6 ⟨vd, ld, rfl, hod, hrd, hb6⟩
  obtain ⟨Ad_, cd, rfl, hcd, _, _, hRd⟩ := hod.form
  have HB6 := Lib.hid hb6; have HRD := Lib.hid hrd
  have HR6 := Lib.hid ((HR5.out.below hb6).more hb6.size)
  have HRt6 := Lib.hid ((HRt5.out.below hb6).more hb6.size)
  have HRd6 := Lib.hid hRd
  clear hb6 hrd hod hRd HR5 HRt5 HRp5
  go_wp2_with fail
  refine (TakeNo_any (some ⟨bA, oA, none⟩) theDiv.length c1 3 w6 hc1 (by decide)).mono ?_
  rintro e w7 ⟨rfl, rfl⟩
  go_wp2_with fail
  refine (f_normal (some ⟨bA, oA, none⟩) c1 w6 HR6.out hc1).mono ?_
  rintro e w8 ⟨vn, ln, rfl, hon, hrn, hb8⟩
  obtain ⟨An_, cn, rfl, hcn, _, _, hRn⟩ := hon.form
  have HB8 := Lib.hid (bt HB1.out (bt HB12.out (bt HB3.out (bt HB4.out (bt HB5.out (bt HB6.out hb8)))))); have HRN := Lib.hid hrn
  have HR8 := Lib.hid ((HR6.out.below hb8).more hb8.size)
  have HRt8 := Lib.hid ((HRt6.out.below hb8).more hb8.size)
  have HRd8 := Lib.hid ((HRd6.out.below hb8).more hb8.size)
  have HRn8 := Lib.hid hRn
  clear hb8 hrn hon hRn HR6 HRt6 HRd6 HB1 HB12 HB3 HB4 HB5 HB6
  go_wp2_with fail
  refine (Kids_any (some ⟨bA, oA, none⟩) c1 theDiv 0 w8 HR8.out hc1 (by decide) (by decide) (by decide) (by decide) (by decide)).mono ?_
  rintro e w9 ⟨vk, rfl, hok, hb9⟩
  rw [c_kids] at hok
  obtain ⟨Ak, ck, rfl, hck, hmk, hRk⟩ := Nw.form (l := [1, 2]) hok
  have HB9 := Lib.hid (bt HB8.out hb9)
  have HR9 := Lib.hid ((HR8.out.below hb9).more hb9.size)
  have HRt9 := Lib.hid ((HRt8.out.below hb9).more hb9.size)
  have HRd9 := Lib.hid ((HRd8.out.below hb9).more hb9.size)
  have HRn9 := Lib.hid ((HRn8.out.below hb9).more hb9.size)
  have HNU := Lib.hid (f_nums Ak ck w9 hRk hck hmk)
  clear hb9 hok hRk HR8 HRt8 HRd8 HRn8 HB8
  go_wp2_with fail
  refine HNU.out.mono ?_
  rintro e w10 ⟨rfl, hb10⟩
  have HB10 := Lib.hid (bt HB9.out hb10)
  have HR10 := Lib.hid ((HR9.out.below hb10).more hb10.size)
  have HRt10 := Lib.hid ((HRt9.out.below hb10).more hb10.size)
  have HRd10 := Lib.hid ((HRd9.out.below hb10).more hb10.size)
  have HRn10 := Lib.hid ((HRn9.out.below hb10).more hb10.size)
  clear hb10 HR9 HRt9 HRd9 HRn9 HB9 HNU
  have ht := Text_any (some ⟨bA, oA, none⟩) c1 theDiv 0 w10 HR10.out hc1 (by decide) c_len
  rw [c_text, sab] at ht
  have HT := Lib.hid ht
  clear ht
  go_wp2_with fail
  refine HT.out.mono ?_
  rintro e w11 ⟨rfl, hb11⟩
  have HB11 := Lib.hid (bt HB10.out hb11)
  have HR11 := Lib.hid ((HR10.out.below hb11).more hb11.size)
  have HRt11 := Lib.hid ((HRt10.out.below hb11).more hb11.size)
  have HRd11 := Lib.hid ((HRd10.out.below hb11).more hb11.size)
  have HRn11 := Lib.hid ((HRn10.out.below hb11).more hb11.size)
  clear hb11 HR10 HRt10 HRd10 HRn10 HB10 HT
  have hp := Parent_any (some ⟨bA, oA, none⟩) c1 theDiv 2 w11 HR11.out hc1 (by decide)
  rw [c_parent] at hp
  have HPA := Lib.hid hp
  clear hp
  go_wp2_with fail
  refine HPA.out.mono ?_
  rintro e w12 ⟨rfl, nn, hw⟩
  have hb12 : Below w11.heap.size w11 w12 := by rw [hw]; exact below_dN (Below.refl _ _) nn
  have HB12 := Lib.hid (bt HB11.out hb12)
  have HR12 := Lib.hid ((HR11.out.below hb12).more hb12.size)
  have HRt12 := Lib.hid ((HRt11.out.below hb12).more hb12.size)
  have HRd12 := Lib.hid ((HRd11.out.below hb12).more hb12.size)
  have HRn12 := Lib.hid ((HRn11.out.below hb12).more hb12.size)
  clear hw hb12 HR11 HRt11 HRd11 HRn11 HB11
  have he := End_any (some ⟨bA, oA, none⟩) c1 theDiv 0 w12 HR12.out hc1 (by decide)
  rw [c_end] at he
  have HEN := Lib.hid he
  have hlp := len_p HRP.out
  have HLP := Lib.hid hlp
  clear he HPA hlp
  go_wp2_with fail
  refine HEN.out.mono ?_
  rintro e w13 ⟨rfl, rfl⟩
  rw [HLP.out]
  have HS1 := Lib.hid (f_same1 At_ ct lt w12 HRT.out HRt12.out hct)
  go_wp2_with fail
  refine HS1.out.mono ?_
  rintro e w14 ⟨rfl, hb14⟩
  have HB14 := Lib.hid (bt HB12.out hb14)
  have HR14 := Lib.hid ((HR12.out.below hb14).more hb14.size)
  have HRd14 := Lib.hid ((HRd12.out.below hb14).more hb14.size)
  have HRn14 := Lib.hid ((HRn12.out.below hb14).more hb14.size)
  clear hb14 HR12 HRd12 HRn12 HB12 HS1 HEN HRt12
  go_wp2_with fail
  refine (f_same2 Ad_ (some ⟨bA, oA, none⟩) cd c1 ld w14 HRD.out HRd14.out hcd HR14.out hc1).mono ?_
  rintro e w15 ⟨rfl, hb15⟩
  have HB15 := Lib.hid (bt HB14.out hb15)
  have HR15 := Lib.hid ((HR14.out.below hb15).more hb15.size)
  have HRn15 := Lib.hid ((HRn14.out.below hb15).more hb15.size)
  clear hb15 HR14 HRd14 HRn14 HB14
  have hl2 : ln.length = 2 := by rw [← len_ros, HRN.out]; rfl
  obtain ⟨bn, on, y, hAn, _, hdy, hy, _, _⟩ := HRn15.out.at_ 1 (by omega)
  have hyd : y.ro.data = { data := #[97, 98] } := by
    have h1 : (ros ln)[1]? = some y.ro := by rw [ros, List.getElem?_map, getElem_of_drop hdy]; rfl
    rw [HRN.out] at h1
    have h2 : roT 1 sab = y.ro := Option.some.inj h1
    rw [← h2]; rfl
  obtain ⟨f0, f1, f2, f3, f4⟩ := range5 hy
  rw [hyd] at f3
  subst hAn
  have HL2 := Lib.hid hl2
  clear hdy hyd hy f0 f1 f2 f4 hl2
  rw [HL2.out]
  have hch := Check_any (some ⟨bA, oA, none⟩) c1 theDiv w15 HR15.out hc1 (by decide)
  rw [c_check] at hch
  have HCH := Lib.hid hch
  clear hch
  go_wp2_with fail
  refine HCH.out.mono ?_
  rintro e w16 ⟨rfl, hb16⟩
  have HB16 := Lib.hid (bt HB15.out hb16)
  have HR16 := Lib.hid ((HR15.out.below hb16).more hb16.size)
  clear hb16 HR15 HRn15 HB15 f3 HCH
  go_wp2_with fail
  have hpt := HR16.out.mids 1 3 c1 (by decide) (by decide) hc1 (by omega)
  have hc2 := Check_any (some ⟨bA, oA + 1 * 5, none⟩) (c1 - 1) ((theDiv.take 3).drop 1) w16 hpt (show 2 ≤ c1 - 1 by omega) (by decide)
  rw [show check (ros ((theDiv.take 3).drop 1)) = 40 from c_check2] at hc2
  have HC2 := Lib.hid hc2
  clear hpt hc2
  refine HC2.out.mono ?_
  rintro e w17 ⟨rfl, hb17⟩
  have HB17 := Lib.hid (bt HB16.out hb17)
  have HR17 := Lib.hid ((HR16.out.below hb17).more hb17.size)
  clear hb17 HR16 HB16 HC2
  go_wp2_with fail
  refine (div_any w17).mono ?_
  rintro e w18 ⟨v2, rfl, ho2, hb18⟩
  obtain ⟨A2, c2, rfl, hc2, _, _, hR2⟩ := ho2.form
  have HB18 := Lib.hid (bt HB17.out hb18)
  have hsm := Same_any (some ⟨bA, oA, none⟩) A2 c1 c2 theDiv theDiv w18 ((HR17.out.below hb18).more hb18.size) hR2 hc1 hc2 (by decide) (by decide)
  rw [decide_eq_true rfl] at hsm
  have HSM := Lib.hid hsm
  clear hb18 ho2 hR2 hsm HR17 HB17
  go_wp2_with fail
  refine HSM.out.mono ?_
  rintro e w19 ⟨rfl, hb19⟩
  go_wp2
  go_ret
  exact ⟨rfl, bt HB18.out hb19⟩

end Go.Proofs.Ytblefklfgaohfaa.Ro
