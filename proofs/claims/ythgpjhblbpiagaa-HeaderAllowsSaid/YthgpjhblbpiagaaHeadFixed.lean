/-
  boltinglaw15.fixed: the calls whose answers the document fixes.
-/
import Derived.Test.YthgpjhblbpiagaaHeadRefB
import Derived.IntWalk
namespace Go.Proofs.Ythgpjhblbpiagaa.He
set_option maxRecDepth 100000
set_option linter.unusedSimpArgs false
set_option linter.unusedVariables false
open Go.RowKit Ba Fm Fo Go.Maps

def kF : ByteArray := ⟨#[84, 114, 117, 115, 116, 101, 100, 45, 84, 121, 112, 101, 115, 32, 97, 32, 98, 32, 39, 97, 108, 108, 111, 119, 45, 100, 117, 112, 108, 105, 99, 97, 116, 101, 115, 39, 59, 32, 114, 101, 113, 117, 105, 114, 101, 45, 116, 114, 117, 115, 116, 101, 100, 45, 116, 121, 112, 101, 115, 45, 102, 111, 114, 32, 39, 115, 99, 114, 105, 112, 116, 39]⟩
def gF : Gd := ⟨true, false, [⟨#[97]⟩, ⟨#[98]⟩], false, true⟩
theorem parse_F : parseM kF false = gF := by kernel_rfl
theorem parse_0 : parseM ⟨#[]⟩ true = ⟨false, true, [], true, true⟩ := by kernel_rfl
theorem allow_b : allowB gF ⟨#[98]⟩ 1 = true := by kernel_rfl
theorem allow_c : allowB gF ⟨#[99]⟩ 0 = false := by kernel_rfl
theorem allow_0 : allowB gF ⟨#[]⟩ 0 = false := by kernel_rfl

/-- Parse, its answer named. -/
theorem parse1 (s : ByteArray) (r : Bool) (w : World) (hs : s.size ≤ 1000000) (g : Gd) (hg : parseM s r = g) :
    Calls Try.prog 13 #[.string s, .bool r] w fun e w' => ∃ A c, e = .returned (gV g (.slice A g.names.length c)) ∧ Sown w.heap.size w' (.slice A g.names.length c) g.names ∧ Below w.heap.size w w' :=
  (parse_any s r w hs).mono fun e w' ⟨v, he, hv, hb⟩ => by
    rw [hg] at hv
    obtain ⟨vN, rfl, ho⟩ := hv
    obtain ⟨A, c, rfl, _, _, _⟩ := ho.form
    exact ⟨A, c, he, ho, hb⟩
theorem allows1 (v : Value) (g : Gd) (n : ByteArray) (had : Int) (w : World) (h : Gv w w.heap.size v g) (hn : n.size ≤ 140737488355328) (hl : g.names.length ≤ 8796093022208) (q : Bool) (hq : allowB g n had = q) :
    Calls Try.prog 17 #[v, .string n, .int .i64 had] w fun e w' => e = .returned (.bool q) ∧ Below w.heap.size w w' := by
  have := allows_any v g n had w w.heap.size h (Nat.le_refl _) hn hl
  rw [hq] at this
  exact this
theorem gv_of {w : World} {N : Nat} {A : Option Addr} {c : Nat} {g : Gd} (h : Sown N w (.slice A g.names.length c) g.names) : Gv w w.heap.size (gV g (.slice A g.names.length c)) g := Gow.gv ⟨_, rfl, h⟩

set_option maxHeartbeats 4000000 in
theorem fixed15_any (w : World) : Calls Try.prog 16 #[] w fun e w' => e = .returned (.bool true) ∧ Below w.heap.size w w' := by
  go_enter Try.func16, Try.ntmps16
  go_wp2_with fail
  refine (parse1 kF false w (by decide) gF parse_F).mono ?_
  rintro e w1 ⟨A, c, rfl, ho, hb⟩
  rw [show gV gF (.slice A gF.names.length c) = .agg #[.bool true, .bool false, .slice A 2 c, .bool false, .bool true] from rfl]
  go_upto_region 2 with (fail)
  obtain ⟨W1, hW1⟩ : ∃ W1, w1.alloc (.cells #[.bool true, .bool false, .slice A 2 c, .bool false, .bool true] 26) = W1 := ⟨_, rfl⟩
  have hx1 : Hb W1 w1.heap.size #[.bool true, .bool false, .slice A 2 c, .bool false, .bool true] := by rw [← hW1]; exact Hb.new _ _
  have hb1 : Below w.heap.size w W1 := by rw [← hW1]; exact hb.alloc hb.size _
  have ho1 : Sown w.heap.size W1 (.slice A 2 c) gF.names := by rw [← hW1]; exact ho.alloc _
  obtain ⟨b1, hbb1⟩ : ∃ b, w1.heap.size = b := ⟨_, rfl⟩
  rw [hW1, hbb1]
  rw [hbb1] at hx1
  have HX1 := Lib.hid hx1; have HB1 := Lib.hid hb1; have HO1 := Lib.hid ho1
  clear hx1 hb1 ho1 ho hb hW1 hbb1
  go_wp2_with fail
  refine (parse1 ⟨#[]⟩ true W1 (by decide) _ parse_0).mono ?_
  rintro e w2 ⟨A2, c2, rfl, ho, hb⟩
  have hc2 : ∃ A3, Value.slice A2 0 c2 = .slice A3 0 c2 := ⟨_, rfl⟩
  rw [show gV ⟨false, true, [], true, true⟩ (.slice A2 ([] : List ByteArray).length c2) = .agg #[.bool false, .bool true, .slice A2 0 c2, .bool true, .bool true] from rfl]
  go_upto_region 3 with (fail)
  obtain ⟨W2, hW2⟩ : ∃ W2, w2.alloc (.cells #[.bool false, .bool true, .slice A2 0 c2, .bool true, .bool true] 26) = W2 := ⟨_, rfl⟩
  have hx2 : Hb W2 w2.heap.size #[.bool false, .bool true, .slice A2 0 c2, .bool true, .bool true] := by rw [← hW2]; exact Hb.new _ _
  have hb12 : Below W1.heap.size W1 W2 := by rw [← hW2]; exact hb.alloc hb.size _
  have hx1 := HX1.out.on hb12
  have ho2 : Sown W1.heap.size W2 (.slice A2 0 c2) [] := by rw [← hW2]; exact ho.alloc _
  have ho1 := HO1.out.below hb12 (Nat.le_refl _)
  obtain ⟨b2, hbb2⟩ : ∃ b, w2.heap.size = b := ⟨_, rfl⟩
  rw [hW2, hbb2]
  rw [hbb2] at hx2
  have hb02 := bt HB1.out hb12
  have hsv := sv_lit W2 [⟨#[97]⟩, ⟨#[98]⟩]
  obtain ⟨W3, hW3⟩ : ∃ W3, W2.alloc (.cells #[.string ⟨#[97]⟩, .string ⟨#[98]⟩] 9) = W3 := ⟨_, rfl⟩
  have hsv3 : Sv W3 W3.heap.size (.slice (some ⟨W2.heap.size, 0, none⟩) 2 2) gF.names := by rw [← hW3]; exact hsv
  have hb23 : Below W2.heap.size W2 W3 := by rw [← hW3]; exact (Below.refl _ _).alloc (Nat.le_refl _) _
  have hx13 := hx1.on hb23
  have hx23 := hx2.on hb23
  have ho13 := ho1.below hb23 (Nat.le_refl _)
  have ho23 := ho2.below hb23 (Nat.le_refl _)
  have hb03 := bt hb02 hb23
  have HX13 := Lib.hid hx13; have HX23 := Lib.hid hx23; have HO13 := Lib.hid ho13; have HO23 := Lib.hid ho23; have HB03 := Lib.hid hb03; have HSV := Lib.hid hsv3; have HW3 := Lib.hid hW3
  have HR1 := Lib.hid (fun (wx : World) (h : Below W3.heap.size W3 wx) => (hx13.on h).range)
  have HR0 := Lib.hid hx1.range
  clear hx13 hx23 ho13 ho23 hb03 hsv hsv3 hW3 hb23 hb02 hx1 hx2 ho1 ho2 ho hb hb12 hW2 hbb2 hc2 HX1 HB1 HO1
  go_wp2_with (first
    | (show wpList _ _ _ (⟨_, Op.load 26 (.tmp 1), _, _, _, _⟩ :: _) _ _; refine wpList_load_mid rfl 26 (.tmp 1) rfl b1 0 rfl _ _ HR0.out Try.underlying26 rfl size_guard ?_)
    | fail)
  rw [HW3.out]
  refine (same15_any _ _ gF W3 (show Gv W3 W3.heap.size (.agg #[.bool true, .bool false, .slice A 2 c, .bool false, .bool true]) gF from gv_of HO13.out)
    (show Gv W3 W3.heap.size (.agg #[.bool true, .bool false, .slice (some ⟨W2.heap.size, 0, none⟩) 2 2, .bool false, .bool true]) gF from by
      obtain ⟨A', c', e, h1, h2, h3⟩ := HSV.out
      exact ⟨A', c', by rw [← e]; rfl, h1, h2, h3⟩) (by decide)).mono ?_
  rintro e w4 ⟨rfl, hb⟩
  have hx24 := HX23.out.on hb
  have hx14 := HX13.out.on hb
  have ho14 := HO13.out.below hb (Nat.le_refl _)
  have ho24 := HO23.out.below hb (Nat.le_refl _)
  have hb04 := bt HB03.out hb
  obtain ⟨m0, m1, m2, m3, m4⟩ := hx24.at5
  have HX14 := Lib.hid hx14; have HO14 := Lib.hid ho14; have HO24 := Lib.hid ho24; have HB04 := Lib.hid hb04
  clear hx24 hx14 ho14 ho24 hb04 hb HX13 HX23 HO13 HO23 HB03 HSV HW3 HR1 HR0
  go_wp2_with fail
  have h0 : Gv w4 w4.heap.size (.agg #[.bool false, .bool true, .slice A2 0 c2, .bool true, .bool true]) ⟨false, true, [], true, true⟩ := gv_of (g := ⟨false, true, [], true, true⟩) HO24.out
  have h0' : Gv w4 w4.heap.size (.agg #[.bool false, .bool true, .slice none 0 0, .bool true, .bool true]) ⟨false, true, [], true, true⟩ := ⟨none, 0, rfl, Nat.le_refl _, fun _ => rfl, Rd.nil _ _ _⟩
  refine (same15_any _ _ ⟨false, true, [], true, true⟩ w4 h0 h0' (by decide)).mono ?_
  rintro e w5 ⟨rfl, hb⟩
  have hx15 := HX14.out.on hb
  have ho15 := HO14.out.below hb (Nat.le_refl _)
  have hb05 := bt HB04.out hb
  obtain ⟨n0, n1, n2, n3, n4⟩ := hx15.at5
  have hg5 : Gv w5 w5.heap.size (.agg #[.bool true, .bool false, .slice A 2 c, .bool false, .bool true]) gF := gv_of ho15
  have HX15 := Lib.hid hx15; have HO15 := Lib.hid ho15; have HB05 := Lib.hid hb05; have HG5 := Lib.hid hg5
  clear hx15 ho15 hb05 hb m0 m1 m2 m3 m4 HX14 HO14 HO24 HB04 h0 h0' hg5
  go_wp2_with fail
  refine (allows1 _ gF ⟨#[98]⟩ 1 w5 HG5.out (by decide) (by decide) true allow_b).mono ?_
  rintro e w6 ⟨rfl, hb⟩
  have hx16 := HX15.out.on hb
  have hg6 := HG5.out.on hb
  have hb06 := bt HB05.out hb
  obtain ⟨m0, m1, m2, m3, m4⟩ := hx16.at5
  have HX16 := Lib.hid hx16; have HB06 := Lib.hid hb06; have HG6 := Lib.hid hg6
  clear hx16 hb06 hb hg6 n0 n1 n2 n3 n4 HX15 HO15 HB05 HG5
  go_wp2_with fail
  refine (allows1 _ gF ⟨#[99]⟩ 0 w6 HG6.out (by decide) (by decide) false allow_c).mono ?_
  rintro e w7 ⟨rfl, hb⟩
  have hx17 := HX16.out.on hb
  have hg7 := HG6.out.on hb
  have hb07 := bt HB06.out hb
  obtain ⟨n0, n1, n2, n3, n4⟩ := hx17.at5
  have HB07 := Lib.hid hb07; have HG7 := Lib.hid hg7
  clear hx17 hb07 hb hg7 m0 m1 m2 m3 m4 HX16 HB06 HG6
  go_wp2_with fail
  refine (allows1 _ gF ⟨#[]⟩ 0 w7 HG7.out (by decide) (by decide) false allow_0).mono ?_
  rintro e w8 ⟨rfl, hb⟩
  go_wp2
  go_ret
  exact ⟨rfl, bt HB07.out hb⟩

end Go.Proofs.Ythgpjhblbpiagaa.He
