/-
  Walk of stage 15's law HeaderNames: it returns true.
-/
import Derived.Test.YthgpjhblbpiagaaHeadLaw
import Derived.Test.YthgpjhblbpiagaaHeadLawA
import Derived.Deep.RegionHeld3
namespace Go.Proofs.Ythgpjhblbpiagaa.He
set_option maxRecDepth 100000
set_option linter.unusedSimpArgs false
set_option linter.unusedVariables false
open Go.RowKit Ba Fm Fo Go.Maps

theorem name_small (s : ByteArray) (r : Bool) : ∀ z ∈ (parseM s r).names, z.size ≤ s.size := by
  unfold parseM guardD
  have key : ∀ (ds : List (List ByteArray)) (g : Gd), (∀ z ∈ g.names, z.size ≤ s.size) → (∀ d ∈ ds, ∀ z ∈ d, z.size ≤ s.size) → ∀ z ∈ (ds.foldl stepG g).names, z.size ≤ s.size := by
    intro ds
    induction ds with
    | nil => intro g h _; exact h
    | cons d ds ih =>
      intro g h hd
      rw [List.foldl_cons]
      refine ih _ ?_ fun x hx => hd x (by simp [hx])
      unfold stepG
      split
      · exact h
      · split
        · intro z hz
          rcases mem_namesF _ _ hz with hz | hz
          · cases hz
          · exact hd d (by simp) z (List.mem_of_mem_tail hz.1)
        · exact h
  exact key _ _ (fun z hz => by cases hz) fun d hd => (words_small s d hd).2

set_option maxHeartbeats 16000000 in
theorem law_names (s n : ByteArray) (had : Int) (hs : s.size ≤ 140737488351232) (hn : n.size ≤ 140737488351232) (hw : (Lit.int .i64 had).wf = true) (w : World) :
    Calls Try.prog 6 #[.string s, .string n, .int .i64 had] w fun e w' => e = .returned (.bool true) ∧ Below w.heap.size w w' := by
  obtain ⟨k, hk1, hk2, -, hmink⟩ := cut_any s.size 500 500 rfl w
  obtain ⟨u, hu⟩ : ∃ u, s.extract 0 k = u := ⟨_, rfl⟩
  have hus : u.size ≤ 500 := by rw [← hu]; exact Nat.le_trans (cut_le s k) hk2
  have HU := Lib.hid hu; clear hu
  obtain ⟨g, hg⟩ : ∃ g, parseM u false = g := ⟨_, rfl⟩
  have hgl : g.names.length ≤ 500 := by rw [← hg]; exact Nat.le_trans (len_guard u false) hus
  have hgv : ∀ z ∈ g.names, mayB z = true ∧ z.size ≤ 500 := fun z hz => by
    rw [← hg] at hz
    exact ⟨parse_valid u false z hz, Nat.le_trans (name_small u false z hz) hus⟩
  obtain ⟨on, rep, names, any, twice⟩ := g
  have hgl : names.length ≤ 500 := hgl
  have hgv : ∀ z ∈ names, mayB z = true ∧ z.size ≤ 500 := hgv
  obtain ⟨m, hm⟩ : ∃ m, names.length = m := ⟨_, rfl⟩
  have HM := Lib.hid hm; have HG := Lib.hid hg; have HGV := Lib.hid hgv
  rw [hm] at hgl
  clear hm hg hgv
  have hn8 : n.size ≤ 140737488355328 := by omega
  obtain ⟨n1, hn1⟩ : ∃ n1, n ++ ⟨#[32]⟩ = n1 := ⟨_, rfl⟩
  have hn1s : n1.size ≤ 140737488355328 := by rw [← hn1, size_append]; have : (⟨#[32]⟩ : ByteArray).size = 1 := rfl; omega
  have HN1 := Lib.hid hn1; have HN1S := Lib.hid hn1s; have HN8 := Lib.hid hn8
  clear hn1 hn1s hn8
  go_enter Try.func6, Try.ntmps6
  go_wp2_with fail
  simp only [HU.out]
  clear hmink
  refine (parse1 u false w (by omega) (⟨on, rep, names, any, twice⟩ : Gd) HG.out).mono ?_
  rintro e vw1 ⟨Aa, ca, rfl, ho, hb⟩
  rw [show gV (⟨on, rep, names, any, twice⟩ : Gd) (.slice Aa (Gd.names (⟨on, rep, names, any, twice⟩ : Gd)).length ca) = .agg #[.bool on, .bool rep, .slice Aa names.length ca, .bool any, .bool twice] from rfl]
  have hk := kb_new ho
  have hbw := below_box hb (.cells #[.bool on, .bool rep, .slice Aa names.length ca, .bool any, .bool twice] 26)
  go_upto_region 2 with (fail)
  obtain ⟨w1, hW⟩ : ∃ W, vw1.alloc (.cells #[.bool on, .bool rep, .slice Aa names.length ca, .bool any, .bool twice] 26) = W := ⟨_, rfl⟩
  obtain ⟨ba, hbb⟩ : ∃ b, vw1.heap.size = b := ⟨_, rfl⟩
  have hk2 : Kb w1 ba (⟨on, rep, names, any, twice⟩ : Gd) (.slice Aa names.length ca) := by rw [← hW, ← hbb]; exact hk
  rw [hW] at hbw
  rw [hW, hbb]
  have Ha_w1 := Lib.hid hk2
  have hB_w1 : Below w.heap.size w w1 := hbw
  have HB_w1 := Lib.hid hB_w1; clear hB_w1
  clear hk hk2 hbw hW hbb ho hb
  rw [HM.out]
  have hka := Ha_w1.out
  rw [HM.out] at hka
  replace Ha_w1 := Lib.hid hka
  clear hka
  obtain ⟨xa0, xa1, xa2, xa3, xa4⟩ := (show w1.cell? ⟨ba, 0, none⟩ = some (.bool on) ∧ w1.cell? ⟨ba, 1, none⟩ = some (.bool rep) ∧ w1.cell? ⟨ba, 2, none⟩ = some (.slice Aa m ca) ∧ w1.cell? ⟨ba, 3, none⟩ = some (.bool any) ∧ w1.cell? ⟨ba, 4, none⟩ = some (.bool twice) from Ha_w1.out.at5)
  go_upto_region 3 with (fail)
  have hx := Ha_w1.out.twin
  have hbw := below_box (Below.refl w1.heap.size w1) (.cells #[.bool on, .bool rep, .slice Aa m ca, .bool any, .bool twice] 26)
  have hbx0 : w.heap.size ≤ w1.heap.size := HB_w1.out.size
  have hltx : ba < w1.heap.size := Ha_w1.out.box.lt
  clear xa0 xa1 xa2 xa3 xa4
  obtain ⟨w2, hW⟩ : ∃ W, w1.alloc (.cells #[.bool on, .bool rep, .slice Aa m ca, .bool any, .bool twice] 26) = W := ⟨_, rfl⟩
  obtain ⟨bx, hbb⟩ : ∃ b, w1.heap.size = b := ⟨_, rfl⟩
  rw [hbb] at hbx0 hltx
  have hk2 : Kb w2 bx (⟨on, rep, names, any, twice⟩ : Gd) (.slice Aa m ca) := by rw [← hW, ← hbb]; exact hx
  rw [hW] at hbw
  rw [hW, hbb]
  have Hx_w2 := Lib.hid hk2
  have ha_w2 : Kb w2 ba (⟨on, rep, names, any, twice⟩ : Gd) (.slice Aa m ca) := Ha_w1.out.on hbw
  have Ha_w2 := Lib.hid ha_w2; clear ha_w2
  have hB_w2 : Below w.heap.size w w2 := bt HB_w1.out hbw
  have HB_w2 := Lib.hid hB_w2; clear hB_w2
  clear hx hk2 hbw hW hbb
  have fx := Hx_w2.out.box.f 3
  have kx := Hx_w2.out.box.cell 3 _ rfl
  go_upto_region 4 with (fail)
  obtain ⟨w3, hW⟩ : ∃ W, w2.setCell ⟨bx, 3, none⟩ (.bool true) = W := ⟨_, rfl⟩
  have hx3 : Kb w3 bx (⟨on, rep, names, true, twice⟩ : Gd) (.slice Aa m ca) := by rw [← hW]; exact Hx_w2.out.setAny true
  have ha3 : Kb w3 ba (⟨on, rep, names, any, twice⟩ : Gd) (.slice Aa m ca) := by rw [← hW]; exact Ha_w2.out.other Hx_w2.out.box Hx_w2.out.noStr (by omega) 3 _
  have hb3 : Below w.heap.size w w3 := by rw [← hW]; exact HB_w2.out.setCell hbx0 _
  rw [hW]
  have Ha_w3 := Lib.hid ha3; have Hx_w3 := Lib.hid hx3; have HB_w3 := Lib.hid hb3
  clear ha3 hx3 hb3 hW fx kx
  obtain ⟨xa0, xa1, xa2, xa3, xa4⟩ := (show w3.cell? ⟨ba, 0, none⟩ = some (.bool on) ∧ w3.cell? ⟨ba, 1, none⟩ = some (.bool rep) ∧ w3.cell? ⟨ba, 2, none⟩ = some (.slice Aa m ca) ∧ w3.cell? ⟨ba, 3, none⟩ = some (.bool any) ∧ w3.cell? ⟨ba, 4, none⟩ = some (.bool twice) from Ha_w3.out.at5)
  go_upto_region 5 with (fail)
  have hy := Ha_w3.out.twin
  have hbw := below_box (Below.refl w3.heap.size w3) (.cells #[.bool on, .bool rep, .slice Aa m ca, .bool any, .bool twice] 26)
  have hby0 : w.heap.size ≤ w3.heap.size := HB_w3.out.size
  have hlty : ba < w3.heap.size := Ha_w3.out.box.lt
  have hlxy : bx < w3.heap.size := Hx_w3.out.box.lt
  clear xa0 xa1 xa2 xa3 xa4
  obtain ⟨w4, hW⟩ : ∃ W, w3.alloc (.cells #[.bool on, .bool rep, .slice Aa m ca, .bool any, .bool twice] 26) = W := ⟨_, rfl⟩
  obtain ⟨bz, hbb⟩ : ∃ b, w3.heap.size = b := ⟨_, rfl⟩
  rw [hbb] at hby0 hlty hlxy
  have hk2 : Kb w4 bz (⟨on, rep, names, any, twice⟩ : Gd) (.slice Aa m ca) := by rw [← hW, ← hbb]; exact hy
  rw [hW] at hbw
  rw [hW, hbb]
  have Hz_w4 := Lib.hid hk2
  have ha_w4 : Kb w4 ba (⟨on, rep, names, any, twice⟩ : Gd) (.slice Aa m ca) := Ha_w3.out.on hbw
  have Ha_w4 := Lib.hid ha_w4; clear ha_w4
  have hx_w4 : Kb w4 bx (⟨on, rep, names, true, twice⟩ : Gd) (.slice Aa m ca) := Hx_w3.out.on hbw
  have Hx_w4 := Lib.hid hx_w4; clear hx_w4
  have hB_w4 : Below w.heap.size w w4 := bt HB_w3.out hbw
  have HB_w4 := Lib.hid hB_w4; clear hB_w4
  clear hy hk2 hbw hW hbb
  have fx := Hz_w4.out.box.f 4
  have kx := Hz_w4.out.box.cell 4 _ rfl
  go_upto_region 6 with (fail)
  obtain ⟨w5, hW⟩ : ∃ W, w4.setCell ⟨bz, 4, none⟩ (.bool true) = W := ⟨_, rfl⟩
  have hz5 : Kb w5 bz (⟨on, rep, names, any, true⟩ : Gd) (.slice Aa m ca) := by rw [← hW]; exact Hz_w4.out.setTwice true
  have ha5 : Kb w5 ba (⟨on, rep, names, any, twice⟩ : Gd) (.slice Aa m ca) := by rw [← hW]; exact Ha_w4.out.other Hz_w4.out.box Hz_w4.out.noStr (by omega) 4 _
  have hx5 : Kb w5 bx (⟨on, rep, names, true, twice⟩ : Gd) (.slice Aa m ca) := by rw [← hW]; exact Hx_w4.out.other Hz_w4.out.box Hz_w4.out.noStr (by omega) 4 _
  have hb5 : Below w.heap.size w w5 := by rw [← hW]; exact HB_w4.out.setCell hby0 _
  rw [hW]
  have Ha_w5 := Lib.hid ha5; have Hx_w5 := Lib.hid hx5; have Hz_w5 := Lib.hid hz5; have HB_w5 := Lib.hid hb5
  clear ha5 hx5 hz5 hb5 hW fx kx
  obtain ⟨q, hq⟩ : ∃ q, allowB (⟨on, rep, names, any, twice⟩ : Gd) n had = q := ⟨_, rfl⟩
  have HQ := Lib.hid hq; clear hq
  have hnl : names.length ≤ 8796093022208 := by have := HM.out; omega
  obtain ⟨xa0, xa1, xa2, xa3, xa4⟩ := (show w5.cell? ⟨ba, 0, none⟩ = some (.bool on) ∧ w5.cell? ⟨ba, 1, none⟩ = some (.bool rep) ∧ w5.cell? ⟨ba, 2, none⟩ = some (.slice Aa m ca) ∧ w5.cell? ⟨ba, 3, none⟩ = some (.bool any) ∧ w5.cell? ⟨ba, 4, none⟩ = some (.bool twice) from Ha_w5.out.at5)
  obtain ⟨xx0, xx1, xx2, xx3, xx4⟩ := (show w5.cell? ⟨bx, 0, none⟩ = some (.bool on) ∧ w5.cell? ⟨bx, 1, none⟩ = some (.bool rep) ∧ w5.cell? ⟨bx, 2, none⟩ = some (.slice Aa m ca) ∧ w5.cell? ⟨bx, 3, none⟩ = some (.bool true) ∧ w5.cell? ⟨bx, 4, none⟩ = some (.bool twice) from Hx_w5.out.at5)
  obtain ⟨xz0, xz1, xz2, xz3, xz4⟩ := (show w5.cell? ⟨bz, 0, none⟩ = some (.bool on) ∧ w5.cell? ⟨bz, 1, none⟩ = some (.bool rep) ∧ w5.cell? ⟨bz, 2, none⟩ = some (.slice Aa m ca) ∧ w5.cell? ⟨bz, 3, none⟩ = some (.bool any) ∧ w5.cell? ⟨bz, 4, none⟩ = some (.bool true) from Hz_w5.out.at5)
  go_wp2_with fail
  refine (allows1 _ (⟨on, rep, names, any, twice⟩ : Gd) n had w5 (show Gv w5 w5.heap.size (.agg #[.bool on, .bool rep, .slice Aa m ca, .bool any, .bool twice]) _ from Ha_w5.out.gv) HN8.out hnl q HQ.out).mono ?_
  rintro e w6 ⟨rfl, hb⟩
  clear xa0 xa1 xa2 xa3 xa4
  clear xx0 xx1 xx2 xx3 xx4
  clear xz0 xz1 xz2 xz3 xz4
  have ha_w6 : Kb w6 ba (⟨on, rep, names, any, twice⟩ : Gd) (.slice Aa m ca) := Ha_w5.out.on hb
  have Ha_w6 := Lib.hid ha_w6; clear ha_w6
  have hx_w6 : Kb w6 bx (⟨on, rep, names, true, twice⟩ : Gd) (.slice Aa m ca) := Hx_w5.out.on hb
  have Hx_w6 := Lib.hid hx_w6; clear hx_w6
  have hz_w6 : Kb w6 bz (⟨on, rep, names, any, true⟩ : Gd) (.slice Aa m ca) := Hz_w5.out.on hb
  have Hz_w6 := Lib.hid hz_w6; clear hz_w6
  have hB_w6 : Below w.heap.size w w6 := bt HB_w5.out hb
  have HB_w6 := Lib.hid hB_w6; clear hB_w6
  obtain ⟨xa0, xa1, xa2, xa3, xa4⟩ := (show w6.cell? ⟨ba, 0, none⟩ = some (.bool on) ∧ w6.cell? ⟨ba, 1, none⟩ = some (.bool rep) ∧ w6.cell? ⟨ba, 2, none⟩ = some (.slice Aa m ca) ∧ w6.cell? ⟨ba, 3, none⟩ = some (.bool any) ∧ w6.cell? ⟨ba, 4, none⟩ = some (.bool twice) from Ha_w6.out.at5)
  obtain ⟨xx0, xx1, xx2, xx3, xx4⟩ := (show w6.cell? ⟨bx, 0, none⟩ = some (.bool on) ∧ w6.cell? ⟨bx, 1, none⟩ = some (.bool rep) ∧ w6.cell? ⟨bx, 2, none⟩ = some (.slice Aa m ca) ∧ w6.cell? ⟨bx, 3, none⟩ = some (.bool true) ∧ w6.cell? ⟨bx, 4, none⟩ = some (.bool twice) from Hx_w6.out.at5)
  obtain ⟨xz0, xz1, xz2, xz3, xz4⟩ := (show w6.cell? ⟨bz, 0, none⟩ = some (.bool on) ∧ w6.cell? ⟨bz, 1, none⟩ = some (.bool rep) ∧ w6.cell? ⟨bz, 2, none⟩ = some (.slice Aa m ca) ∧ w6.cell? ⟨bz, 3, none⟩ = some (.bool any) ∧ w6.cell? ⟨bz, 4, none⟩ = some (.bool true) from Hz_w6.out.at5)
  clear hb
  cases q with
  | true =>
    go_wp2_with fail
    refine (allows1 _ (⟨on, rep, names, true, twice⟩ : Gd) n had w6 (show Gv w6 w6.heap.size (.agg #[.bool on, .bool rep, .slice Aa m ca, .bool true, .bool twice]) _ from Hx_w6.out.gv) HN8.out hnl true (allow_any HQ.out)).mono ?_
    rintro e w8 ⟨rfl, hb⟩
    clear xa0 xa1 xa2 xa3 xa4
    clear xx0 xx1 xx2 xx3 xx4
    clear xz0 xz1 xz2 xz3 xz4
    have ha_w8 : Kb w8 ba (⟨on, rep, names, any, twice⟩ : Gd) (.slice Aa m ca) := Ha_w6.out.on hb
    have Ha_w8 := Lib.hid ha_w8; clear ha_w8
    have hx_w8 : Kb w8 bx (⟨on, rep, names, true, twice⟩ : Gd) (.slice Aa m ca) := Hx_w6.out.on hb
    have Hx_w8 := Lib.hid hx_w8; clear hx_w8
    have hz_w8 : Kb w8 bz (⟨on, rep, names, any, true⟩ : Gd) (.slice Aa m ca) := Hz_w6.out.on hb
    have Hz_w8 := Lib.hid hz_w8; clear hz_w8
    have hB_w8 : Below w.heap.size w w8 := bt HB_w6.out hb
    have HB_w8 := Lib.hid hB_w8; clear hB_w8
    obtain ⟨xa0, xa1, xa2, xa3, xa4⟩ := (show w8.cell? ⟨ba, 0, none⟩ = some (.bool on) ∧ w8.cell? ⟨ba, 1, none⟩ = some (.bool rep) ∧ w8.cell? ⟨ba, 2, none⟩ = some (.slice Aa m ca) ∧ w8.cell? ⟨ba, 3, none⟩ = some (.bool any) ∧ w8.cell? ⟨ba, 4, none⟩ = some (.bool twice) from Ha_w8.out.at5)
    obtain ⟨xx0, xx1, xx2, xx3, xx4⟩ := (show w8.cell? ⟨bx, 0, none⟩ = some (.bool on) ∧ w8.cell? ⟨bx, 1, none⟩ = some (.bool rep) ∧ w8.cell? ⟨bx, 2, none⟩ = some (.slice Aa m ca) ∧ w8.cell? ⟨bx, 3, none⟩ = some (.bool true) ∧ w8.cell? ⟨bx, 4, none⟩ = some (.bool twice) from Hx_w8.out.at5)
    obtain ⟨xz0, xz1, xz2, xz3, xz4⟩ := (show w8.cell? ⟨bz, 0, none⟩ = some (.bool on) ∧ w8.cell? ⟨bz, 1, none⟩ = some (.bool rep) ∧ w8.cell? ⟨bz, 2, none⟩ = some (.slice Aa m ca) ∧ w8.cell? ⟨bz, 3, none⟩ = some (.bool any) ∧ w8.cell? ⟨bz, 4, none⟩ = some (.bool true) from Hz_w8.out.at5)
    clear hb
    go_wp2_with fail
    refine (allows1 _ (⟨on, rep, names, any, true⟩ : Gd) n had w8 (show Gv w8 w8.heap.size (.agg #[.bool on, .bool rep, .slice Aa m ca, .bool any, .bool true]) _ from Hz_w8.out.gv) HN8.out hnl true (allow_twice HQ.out)).mono ?_
    rintro e w9 ⟨rfl, hb⟩
    clear xa0 xa1 xa2 xa3 xa4
    clear xx0 xx1 xx2 xx3 xx4
    clear xz0 xz1 xz2 xz3 xz4
    have ha_w9 : Kb w9 ba (⟨on, rep, names, any, twice⟩ : Gd) (.slice Aa m ca) := Ha_w8.out.on hb
    have Ha_w9 := Lib.hid ha_w9; clear ha_w9
    have hx_w9 : Kb w9 bx (⟨on, rep, names, true, twice⟩ : Gd) (.slice Aa m ca) := Hx_w8.out.on hb
    have Hx_w9 := Lib.hid hx_w9; clear hx_w9
    have hz_w9 : Kb w9 bz (⟨on, rep, names, any, true⟩ : Gd) (.slice Aa m ca) := Hz_w8.out.on hb
    have Hz_w9 := Lib.hid hz_w9; clear hz_w9
    have hB_w9 : Below w.heap.size w w9 := bt HB_w8.out hb
    have HB_w9 := Lib.hid hB_w9; clear hB_w9
    obtain ⟨xa0, xa1, xa2, xa3, xa4⟩ := (show w9.cell? ⟨ba, 0, none⟩ = some (.bool on) ∧ w9.cell? ⟨ba, 1, none⟩ = some (.bool rep) ∧ w9.cell? ⟨ba, 2, none⟩ = some (.slice Aa m ca) ∧ w9.cell? ⟨ba, 3, none⟩ = some (.bool any) ∧ w9.cell? ⟨ba, 4, none⟩ = some (.bool twice) from Ha_w9.out.at5)
    obtain ⟨xx0, xx1, xx2, xx3, xx4⟩ := (show w9.cell? ⟨bx, 0, none⟩ = some (.bool on) ∧ w9.cell? ⟨bx, 1, none⟩ = some (.bool rep) ∧ w9.cell? ⟨bx, 2, none⟩ = some (.slice Aa m ca) ∧ w9.cell? ⟨bx, 3, none⟩ = some (.bool true) ∧ w9.cell? ⟨bx, 4, none⟩ = some (.bool twice) from Hx_w9.out.at5)
    obtain ⟨xz0, xz1, xz2, xz3, xz4⟩ := (show w9.cell? ⟨bz, 0, none⟩ = some (.bool on) ∧ w9.cell? ⟨bz, 1, none⟩ = some (.bool rep) ∧ w9.cell? ⟨bz, 2, none⟩ = some (.slice Aa m ca) ∧ w9.cell? ⟨bz, 3, none⟩ = some (.bool any) ∧ w9.cell? ⟨bz, 4, none⟩ = some (.bool true) from Hz_w9.out.at5)
    clear hb
    go_wp2_with fail
    refine (allows1 _ (⟨on, rep, names, any, twice⟩ : Gd) n 0 w9 (show Gv w9 w9.heap.size (.agg #[.bool on, .bool rep, .slice Aa m ca, .bool any, .bool twice]) _ from Ha_w9.out.gv) HN8.out hnl true (allow_zero HQ.out)).mono ?_
    rintro e w10 ⟨rfl, hb⟩
    clear xa0 xa1 xa2 xa3 xa4
    clear xx0 xx1 xx2 xx3 xx4
    clear xz0 xz1 xz2 xz3 xz4
    have ha_w10 : Kb w10 ba (⟨on, rep, names, any, twice⟩ : Gd) (.slice Aa m ca) := Ha_w9.out.on hb
    have Ha_w10 := Lib.hid ha_w10; clear ha_w10
    have hx_w10 : Kb w10 bx (⟨on, rep, names, true, twice⟩ : Gd) (.slice Aa m ca) := Hx_w9.out.on hb
    have Hx_w10 := Lib.hid hx_w10; clear hx_w10
    have hz_w10 : Kb w10 bz (⟨on, rep, names, any, true⟩ : Gd) (.slice Aa m ca) := Hz_w9.out.on hb
    have Hz_w10 := Lib.hid hz_w10; clear hz_w10
    have hB_w10 : Below w.heap.size w w10 := bt HB_w9.out hb
    have HB_w10 := Lib.hid hB_w10; clear hB_w10
    obtain ⟨xa0, xa1, xa2, xa3, xa4⟩ := (show w10.cell? ⟨ba, 0, none⟩ = some (.bool on) ∧ w10.cell? ⟨ba, 1, none⟩ = some (.bool rep) ∧ w10.cell? ⟨ba, 2, none⟩ = some (.slice Aa m ca) ∧ w10.cell? ⟨ba, 3, none⟩ = some (.bool any) ∧ w10.cell? ⟨ba, 4, none⟩ = some (.bool twice) from Ha_w10.out.at5)
    obtain ⟨xx0, xx1, xx2, xx3, xx4⟩ := (show w10.cell? ⟨bx, 0, none⟩ = some (.bool on) ∧ w10.cell? ⟨bx, 1, none⟩ = some (.bool rep) ∧ w10.cell? ⟨bx, 2, none⟩ = some (.slice Aa m ca) ∧ w10.cell? ⟨bx, 3, none⟩ = some (.bool true) ∧ w10.cell? ⟨bx, 4, none⟩ = some (.bool twice) from Hx_w10.out.at5)
    obtain ⟨xz0, xz1, xz2, xz3, xz4⟩ := (show w10.cell? ⟨bz, 0, none⟩ = some (.bool on) ∧ w10.cell? ⟨bz, 1, none⟩ = some (.bool rep) ∧ w10.cell? ⟨bz, 2, none⟩ = some (.slice Aa m ca) ∧ w10.cell? ⟨bz, 3, none⟩ = some (.bool any) ∧ w10.cell? ⟨bz, 4, none⟩ = some (.bool true) from Hz_w10.out.at5)
    clear hb
    go_upto_region 9 with (fail)
    obtain ⟨wr0, hwr0⟩ : ∃ W, w10 = W := ⟨_, rfl⟩
    have HAR := Ha_w10; have HBR := HB_w10
    rw [hwr0] at HAR HBR ⊢
    clear hwr0
    clear xa0 xa1 xa2 xa3 xa4
    clear xx0 xx1 xx2 xx3 xx4
    clear xz0 xz1 xz2 xz3 xz4
    go_wp2
    go_loopw [11] (fun i wi => ∃ j : Nat, i = .int .i64 j ∧ j ≤ m ∧ Hid (Kb wi ba (⟨on, rep, names, any, twice⟩ : Gd) (.slice Aa m ca)) ∧ Hid (Below w.heap.size w wi)) (fun i _ => m - (intOf i).toNat)
    case atStart => exact ⟨0, rfl, Nat.zero_le _, HAR, HBR⟩
    case round =>
      obtain ⟨j, rfl, hj, HK, HBI⟩ := hrel
      obtain ⟨w7, rfl⟩ : ∃ w7, w7 = wr := ⟨_, rfl⟩
      have Ha_w7 := HK
      obtain ⟨xa0, xa1, xa2, xa3, xa4⟩ := (show w7.cell? ⟨ba, 0, none⟩ = some (.bool on) ∧ w7.cell? ⟨ba, 1, none⟩ = some (.bool rep) ∧ w7.cell? ⟨ba, 2, none⟩ = some (.slice Aa m ca) ∧ w7.cell? ⟨ba, 3, none⟩ = some (.bool any) ∧ w7.cell? ⟨ba, 4, none⟩ = some (.bool twice) from Ha_w7.out.at5)
      by_cases hp : j < m
      · obtain ⟨-, hrd⟩ := HK.out.names
        obtain ⟨bn, on_, e1, hbn, hcc⟩ := hrd (by have := HM.out; show 0 < names.length; omega)
        have hcell := hcc j (by show j < names.length; have := HM.out; omega)
        obtain ⟨z, hz⟩ : ∃ z, names[j]'(by have := HM.out; omega) = z := ⟨_, rfl⟩
        have hzm := HGV.out z (by rw [← hz]; exact List.getElem_mem _)
        have hcell2 : w7.cell? ⟨bn, on_ + j, none⟩ = some (.string z) := by rw [← hz]; exact hcell
        have hal : allowB (⟨on, rep, names, any, twice⟩ : Gd) z 0 = true := allow_name hzm.1 (by show z ∈ names; rw [← hz]; exact List.getElem_mem _)
        have HA := Lib.hid (fun (wx : World) (hb : Below w7.heap.size w7 wx) => (allows1 _ (⟨on, rep, names, any, twice⟩ : Gd) z 0 wx (show Gv wx wx.heap.size (.agg #[.bool on, .bool rep, .slice Aa m ca, .bool any, .bool twice]) _ from (HK.out.on hb).gv) (by have := hzm.2; omega) hnl true hal).mono fun e w' ⟨h1, h2⟩ => (show e = Ending.returned (.bool true) ∧ Below w7.heap.size w7 w' from ⟨h1, bt hb h2⟩))
        have hj0 : (0 : Int) ≤ (j : Int) := by omega
        have hj1 : (j : Int) < (m : Int) := by omega
        subst e1
        clear hcell hcc hrd hz hzm hal
        have HS := Lib.hid (fun (wx : World) (hb : Below w7.heap.size w7 wx) => show wx.cell? ⟨ba, 0, none⟩ = some (.bool on) ∧ wx.cell? ⟨ba, 1, none⟩ = some (.bool rep) ∧ wx.cell? ⟨ba, 2, none⟩ = some (.slice (some ⟨bn, on_, none⟩) m ca) ∧ wx.cell? ⟨ba, 3, none⟩ = some (.bool any) ∧ wx.cell? ⟨ba, 4, none⟩ = some (.bool twice) ∧ wx.cell? ⟨bn, on_ + j, none⟩ = some (.string z) from ⟨(hb.cell (p := ⟨ba, 0, none⟩) (by show ba < w7.heap.size; exact HK.out.box.lt)).trans xa0, (hb.cell (p := ⟨ba, 1, none⟩) (by show ba < w7.heap.size; exact HK.out.box.lt)).trans xa1, (hb.cell (p := ⟨ba, 2, none⟩) (by show ba < w7.heap.size; exact HK.out.box.lt)).trans xa2, (hb.cell (p := ⟨ba, 3, none⟩) (by show ba < w7.heap.size; exact HK.out.box.lt)).trans xa3, (hb.cell (p := ⟨ba, 4, none⟩) (by show ba < w7.heap.size; exact HK.out.box.lt)).trans xa4, (hb.cell (p := ⟨bn, on_ + j, none⟩) hbn).trans hcell2⟩)
        go_wp2
        refine wp_region_noPanic ?_
        refine wp_region_held_drew (S := fun wx => wx.cell? ⟨ba, 0, none⟩ = some (.bool on) ∧ wx.cell? ⟨ba, 1, none⟩ = some (.bool rep) ∧ wx.cell? ⟨ba, 2, none⟩ = some (.slice (some ⟨bn, on_, none⟩) m ca) ∧ wx.cell? ⟨ba, 3, none⟩ = some (.bool any) ∧ wx.cell? ⟨ba, 4, none⟩ = some (.bool twice) ∧ wx.cell? ⟨bn, on_ + j, none⟩ = some (.string z)) (by kernel_rfl) ?_ (fun hHeld => ?_)
        · exact HS.out _ (bel_eq (Below.refl _ w7) rfl rfl rfl rfl)
        refine wpAnyH_take (i := 0) (oi := _) (v := ?_) rfl (by kernel_rfl) (by kernel_rfl) (by kernel_rfl) (fun _ _ _ h => h) (Or.inl ⟨by rfl, ?_⟩) (by assumption) ?_
        rotate_left
        · intro w hSw; (try dsimp only at hSw); go_simp; all_goals with_reducible rfl
        try simp only [Act.put, List.getElem_toArray, List.getElem_cons_zero, List.getElem_cons_succ, List.setIfInBounds_toArray, List.set_cons_zero, List.set_cons_succ]
        refine wpAnyH_take (i := 1) (oi := _) (v := ?_) rfl (by kernel_rfl) (by kernel_rfl) (by kernel_rfl) (fun _ _ _ h => h) (Or.inl ⟨by rfl, ?_⟩) (by assumption) ?_
        rotate_left
        · intro w hSw; (try dsimp only at hSw); go_simp; all_goals with_reducible rfl
        try simp only [Act.put, List.getElem_toArray, List.getElem_cons_zero, List.getElem_cons_succ, List.setIfInBounds_toArray, List.set_cons_zero, List.set_cons_succ]
        refine wpAnyH_take (i := 2) (oi := _) (v := ?_) rfl (by kernel_rfl) (by kernel_rfl) (by kernel_rfl) (fun _ _ _ h => h) (Or.inl ⟨by rfl, ?_⟩) (by assumption) ?_
        rotate_left
        · intro w hSw; (try dsimp only at hSw); go_simp; all_goals with_reducible rfl
        try simp only [Act.put, List.getElem_toArray, List.getElem_cons_zero, List.getElem_cons_succ, List.setIfInBounds_toArray, List.set_cons_zero, List.set_cons_succ]
        refine wpAnyH_take (i := 3) (oi := _) (v := ?_) rfl (by kernel_rfl) (by kernel_rfl) (by kernel_rfl) (fun _ _ _ h => h) (Or.inl ⟨by rfl, ?_⟩) (by assumption) ?_
        rotate_left
        · intro w hSw; (try dsimp only at hSw); go_simp; all_goals with_reducible rfl
        try simp only [Act.put, List.getElem_toArray, List.getElem_cons_zero, List.getElem_cons_succ, List.setIfInBounds_toArray, List.set_cons_zero, List.set_cons_succ]
        refine wpAnyH_take (i := 4) (oi := _) (v := ?_) rfl (by kernel_rfl) (by kernel_rfl) (by kernel_rfl) (fun _ _ _ h => h) (Or.inl ⟨by rfl, ?_⟩) (by assumption) ?_
        rotate_left
        · intro w hSw; (try dsimp only at hSw); go_simp; all_goals with_reducible rfl
        try simp only [Act.put, List.getElem_toArray, List.getElem_cons_zero, List.getElem_cons_succ, List.setIfInBounds_toArray, List.set_cons_zero, List.set_cons_succ]
        refine wpAnyH_take (i := 5) (oi := _) (v := ?_) rfl (by kernel_rfl) (by kernel_rfl) (by kernel_rfl) (fun _ _ _ h => h) (Or.inl ⟨by rfl, ?_⟩) (by assumption) ?_
        rotate_left
        · intro w hSw; (try dsimp only at hSw); go_simp; all_goals with_reducible rfl
        try simp only [Act.put, List.getElem_toArray, List.getElem_cons_zero, List.getElem_cons_succ, List.setIfInBounds_toArray, List.set_cons_zero, List.set_cons_succ]
        refine wpAnyH_ready (rs := [6]) (by kernel_rfl) (by simp) ?_
        refine AllReadyH.cons (o := _) rfl (fun K hK => ?_) AllReadyH.nil
        go_simp
        go_at_call 17
        refine (HA.out _ (by exact bel_eq (Below.refl _ w7) rfl rfl rfl rfl)).mono ?_
        rintro e x1 ⟨rfl, hbx⟩
        have HX1 := Lib.hid hbx; clear hbx
        go_wp2_with fail
        refine hK.out _ _ ?_ (fun hHeld => ?_)
        · exact HS.out _ (bel_eq HX1.out rfl rfl rfl rfl)
        clear hK K
        try simp only [Act.put, List.getElem_toArray, List.getElem_cons_zero, List.getElem_cons_succ, List.setIfInBounds_toArray, List.set_cons_zero, List.set_cons_succ]
        refine wpAnyH_take (i := 7) (oi := _) (v := ?_) rfl (by kernel_rfl) (by kernel_rfl) (by kernel_rfl) (fun _ _ _ h => h) (Or.inl ⟨by rfl, ?_⟩) (by assumption) ?_
        rotate_left
        · intro w hSw; (try dsimp only at hSw); go_simp; all_goals with_reducible rfl
        try simp only [Act.put, List.getElem_toArray, List.getElem_cons_zero, List.getElem_cons_succ, List.setIfInBounds_toArray, List.set_cons_zero, List.set_cons_succ]
        refine wpAnyH_done (by kernel_rfl) ?_ _
        refine NoPanic.normal ?_
        go_wp2
        go_roundw
        case rel => exact ⟨j + 1, by go_num, by omega, Lib.hid (HK.out.on (bel_eq HX1.out rfl rfl rfl rfl)), Lib.hid (bt HBI.out (bel_eq HX1.out rfl rfl rfl rfl))⟩
        case measure => simp [intOf]; omega
      · obtain rfl : j = m := by omega
        have e1 := allow_one (⟨on, rep, names, any, twice⟩ : Gd) n
        have e2 := allow_space (⟨on, rep, names, any, twice⟩ : Gd) n 0
        obtain ⟨q0, hq0⟩ : ∃ q0, allowB (⟨on, rep, names, any, twice⟩ : Gd) n 0 = q0 := ⟨_, rfl⟩
        rw [hq0] at e1
        have e1 : allowB (⟨on, rep, names, any, twice⟩ : Gd) n 1 = (q0 && twice) := e1
        rw [HN1.out] at e2
        have HE1 := Lib.hid e1; have HE2 := Lib.hid e2; have HQ0 := Lib.hid hq0
        clear e1 e2 hq0
        have hn1' := HN1.out
        have hsum : ¬ 9223372036854775807 < n.size + 1 := by omega
        have HA := Lib.hid (fun (wx : World) (hb : Below w7.heap.size w7 wx) (x : ByteArray) (h : Int) (p : Bool) (hx : x.size ≤ 140737488355328) (hp : allowB (⟨on, rep, names, any, twice⟩ : Gd) x h = p) => (allows1 _ (⟨on, rep, names, any, twice⟩ : Gd) x h wx (show Gv wx wx.heap.size (.agg #[.bool on, .bool rep, .slice Aa j ca, .bool any, .bool twice]) _ from (HK.out.on hb).gv) hx hnl p hp).mono fun e w' ⟨h1, h2⟩ => (show e = Ending.returned (.bool p) ∧ Below w7.heap.size w7 w' from ⟨h1, bt hb h2⟩))
        have HF := Lib.hid (fun (wx : World) (hb : Below w7.heap.size w7 wx) => (fixed15_any wx).mono fun e w' ⟨h1, h2⟩ => (show e = Ending.returned (.bool true) ∧ Below w7.heap.size w7 w' from ⟨h1, bt hb h2⟩))
        have HS := Lib.hid (fun (wx : World) (hb : Below w7.heap.size w7 wx) => show wx.cell? ⟨ba, 0, none⟩ = some (.bool on) ∧ wx.cell? ⟨ba, 1, none⟩ = some (.bool rep) ∧ wx.cell? ⟨ba, 2, none⟩ = some (.slice Aa j ca) ∧ wx.cell? ⟨ba, 3, none⟩ = some (.bool any) ∧ wx.cell? ⟨ba, 4, none⟩ = some (.bool twice) from ⟨(hb.cell (p := ⟨ba, 0, none⟩) (by show ba < w7.heap.size; exact HK.out.box.lt)).trans xa0, (hb.cell (p := ⟨ba, 1, none⟩) (by show ba < w7.heap.size; exact HK.out.box.lt)).trans xa1, (hb.cell (p := ⟨ba, 2, none⟩) (by show ba < w7.heap.size; exact HK.out.box.lt)).trans xa2, (hb.cell (p := ⟨ba, 3, none⟩) (by show ba < w7.heap.size; exact HK.out.box.lt)).trans xa3, (hb.cell (p := ⟨ba, 4, none⟩) (by show ba < w7.heap.size; exact HK.out.box.lt)).trans xa4⟩)
        cases q0 with
        | true =>
          have htt : (twice == twice) = true := by cases twice <;> rfl
          replace HE1 : Hid (allowB (⟨on, rep, names, any, twice⟩ : Gd) n 1 = twice) := Lib.hid (by rw [HE1.out]; rfl)
          go_wp2
          refine wp_region_noPanic ?_
          refine wp_region_held_drew (S := fun wx => wx.cell? ⟨ba, 0, none⟩ = some (.bool on) ∧ wx.cell? ⟨ba, 1, none⟩ = some (.bool rep) ∧ wx.cell? ⟨ba, 2, none⟩ = some (.slice Aa j ca) ∧ wx.cell? ⟨ba, 3, none⟩ = some (.bool any) ∧ wx.cell? ⟨ba, 4, none⟩ = some (.bool twice)) (by kernel_rfl) ?_ (fun hHeld => ?_)
          · exact HS.out _ (bel_eq (Below.refl _ w7) rfl rfl rfl rfl)
          refine wpAnyH_take (i := 0) (oi := _) (v := ?_) rfl (by kernel_rfl) (by kernel_rfl) (by kernel_rfl) (fun _ _ _ h => h) (Or.inl ⟨by rfl, ?_⟩) (by assumption) ?_
          rotate_left
          · intro w hSw; (try dsimp only at hSw); go_simp; all_goals with_reducible rfl
          try simp only [Act.put, List.getElem_toArray, List.getElem_cons_zero, List.getElem_cons_succ, List.setIfInBounds_toArray, List.set_cons_zero, List.set_cons_succ]
          refine wpAnyH_take (i := 1) (oi := _) (v := ?_) rfl (by kernel_rfl) (by kernel_rfl) (by kernel_rfl) (fun _ _ _ h => h) (Or.inl ⟨by rfl, ?_⟩) (by assumption) ?_
          rotate_left
          · intro w hSw; (try dsimp only at hSw); go_simp; all_goals with_reducible rfl
          try simp only [Act.put, List.getElem_toArray, List.getElem_cons_zero, List.getElem_cons_succ, List.setIfInBounds_toArray, List.set_cons_zero, List.set_cons_succ]
          refine wpAnyH_take (i := 3) (oi := _) (v := ?_) rfl (by kernel_rfl) (by kernel_rfl) (by kernel_rfl) (fun _ _ _ h => h) (Or.inl ⟨by rfl, ?_⟩) (by assumption) ?_
          rotate_left
          · intro w hSw; (try dsimp only at hSw); go_simp; all_goals with_reducible rfl
          try simp only [Act.put, List.getElem_toArray, List.getElem_cons_zero, List.getElem_cons_succ, List.setIfInBounds_toArray, List.set_cons_zero, List.set_cons_succ]
          refine wpAnyH_take (i := 4) (oi := _) (v := ?_) rfl (by kernel_rfl) (by kernel_rfl) (by kernel_rfl) (fun _ _ _ h => h) (Or.inl ⟨by rfl, ?_⟩) (by assumption) ?_
          rotate_left
          · intro w hSw; (try dsimp only at hSw); go_simp; all_goals with_reducible rfl
          try simp only [Act.put, List.getElem_toArray, List.getElem_cons_zero, List.getElem_cons_succ, List.setIfInBounds_toArray, List.set_cons_zero, List.set_cons_succ]
          refine wpAnyH_ready (rs := [2]) (by kernel_rfl) (by simp) ?_
          refine AllReadyH.cons (o := _) rfl (fun K hK => ?_) AllReadyH.nil
          go_simp
          go_at_call 17
          refine (HA.out _ (by exact bel_eq (Below.refl _ w7) rfl rfl rfl rfl) n 1 twice HN8.out HE1.out).mono ?_
          rintro e x2 ⟨rfl, hbx⟩
          have HX2 := Lib.hid hbx; clear hbx
          go_wp2_with fail
          refine hK.out _ _ ?_ (fun hHeld => ?_)
          · exact HS.out _ (bel_eq HX2.out rfl rfl rfl rfl)
          clear hK K
          try simp only [Act.put, List.getElem_toArray, List.getElem_cons_zero, List.getElem_cons_succ, List.setIfInBounds_toArray, List.set_cons_zero, List.set_cons_succ]
          refine wpAnyH_ready (rs := [5]) (by kernel_rfl) (by simp) ?_
          refine AllReadyH.cons (o := _) rfl (fun K hK => ?_) AllReadyH.nil
          go_simp
          go_at_call 17
          refine (HA.out _ (by exact bel_eq HX2.out rfl rfl rfl rfl) n 0 true HN8.out HQ0.out).mono ?_
          rintro e x25 ⟨rfl, hbx⟩
          have HX25 := Lib.hid hbx; clear hbx
          go_wp2_with fail
          refine hK.out _ _ ?_ (fun hHeld => ?_)
          · exact HS.out _ (bel_eq HX25.out rfl rfl rfl rfl)
          clear hK K
          try simp only [Act.put, List.getElem_toArray, List.getElem_cons_zero, List.getElem_cons_succ, List.setIfInBounds_toArray, List.set_cons_zero, List.set_cons_succ]
          refine wpAnyH_take (i := 6) (oi := _) (v := ?_) rfl (by kernel_rfl) (by kernel_rfl) (by kernel_rfl) (fun _ _ _ h => h) (Or.inl ⟨by rfl, ?_⟩) (by assumption) ?_
          rotate_left
          · intro w hSw; (try dsimp only at hSw); go_simp; all_goals with_reducible rfl
          try simp only [Act.put, List.getElem_toArray, List.getElem_cons_zero, List.getElem_cons_succ, List.setIfInBounds_toArray, List.set_cons_zero, List.set_cons_succ]
          refine wpAnyH_take (i := 7) (oi := _) (v := ?_) rfl (by kernel_rfl) (by kernel_rfl) (by kernel_rfl) (fun _ _ _ h => h) (Or.inl ⟨by rfl, ?_⟩) (by assumption) ?_
          rotate_left
          · intro w hSw; (try dsimp only at hSw); go_simp; all_goals with_reducible rfl
          try simp only [Act.put, List.getElem_toArray, List.getElem_cons_zero, List.getElem_cons_succ, List.setIfInBounds_toArray, List.set_cons_zero, List.set_cons_succ]
          refine wpAnyH_take (i := 8) (oi := _) (v := ?_) rfl (by kernel_rfl) (by kernel_rfl) (by kernel_rfl) (fun _ _ _ h => h) (Or.inl ⟨by rfl, ?_⟩) (by assumption) ?_
          rotate_left
          · intro w hSw; (try dsimp only at hSw); go_simp; all_goals with_reducible rfl
          try simp only [Act.put, List.getElem_toArray, List.getElem_cons_zero, List.getElem_cons_succ, List.setIfInBounds_toArray, List.set_cons_zero, List.set_cons_succ]
          refine wpAnyH_take (i := 9) (oi := _) (v := ?_) rfl (by kernel_rfl) (by kernel_rfl) (by kernel_rfl) (fun _ _ _ h => h) (Or.inl ⟨by rfl, ?_⟩) (by assumption) ?_
          rotate_left
          · intro w hSw; (try dsimp only at hSw); go_simp; all_goals with_reducible rfl
          try simp only [Act.put, List.getElem_toArray, List.getElem_cons_zero, List.getElem_cons_succ, List.setIfInBounds_toArray, List.set_cons_zero, List.set_cons_succ]
          refine wpAnyH_take (i := 10) (oi := _) (v := ?_) rfl (by kernel_rfl) (by kernel_rfl) (by kernel_rfl) (fun _ _ _ h => h) (Or.inl ⟨by rfl, ?_⟩) (by assumption) ?_
          rotate_left
          · intro w hSw; (try dsimp only at hSw); go_simp; all_goals with_reducible rfl
          try simp only [Act.put, List.getElem_toArray, List.getElem_cons_zero, List.getElem_cons_succ, List.setIfInBounds_toArray, List.set_cons_zero, List.set_cons_succ]
          refine wpAnyH_take (i := 11) (oi := _) (v := ?_) rfl (by kernel_rfl) (by kernel_rfl) (by kernel_rfl) (fun _ _ _ h => h) (Or.inl ⟨by rfl, ?_⟩) (by assumption) ?_
          rotate_left
          · intro w hSw; (try dsimp only at hSw); go_simp; all_goals with_reducible rfl
          try simp only [Act.put, List.getElem_toArray, List.getElem_cons_zero, List.getElem_cons_succ, List.setIfInBounds_toArray, List.set_cons_zero, List.set_cons_succ]
          refine wpAnyH_take (i := 12) (oi := _) (v := ?_) rfl (by kernel_rfl) (by kernel_rfl) (by kernel_rfl) (fun _ _ _ h => h) (Or.inl ⟨by rfl, ?_⟩) (by assumption) ?_
          rotate_left
          · intro w hSw; (try dsimp only at hSw); go_simp; all_goals with_reducible rfl
          try simp only [Act.put, List.getElem_toArray, List.getElem_cons_zero, List.getElem_cons_succ, List.setIfInBounds_toArray, List.set_cons_zero, List.set_cons_succ]
          refine wpAnyH_take (i := 13) (oi := _) (v := ?_) rfl (by kernel_rfl) (by kernel_rfl) (by kernel_rfl) (fun _ _ _ h => h) (Or.inl ⟨by rfl, ?_⟩) (by assumption) ?_
          rotate_left
          · intro w hSw; (try dsimp only at hSw); go_simp; all_goals with_reducible rfl
          try simp only [Act.put, List.getElem_toArray, List.getElem_cons_zero, List.getElem_cons_succ, List.setIfInBounds_toArray, List.set_cons_zero, List.set_cons_succ]
          refine wpAnyH_take (i := 14) (oi := _) (v := ?_) rfl (by kernel_rfl) (by kernel_rfl) (by kernel_rfl) (fun _ _ _ h => h) (Or.inl ⟨by rfl, ?_⟩) (by assumption) ?_
          rotate_left
          · intro w hSw; (try dsimp only at hSw); go_simp; (try rw [hn1']); all_goals with_reducible rfl
          try simp only [Act.put, List.getElem_toArray, List.getElem_cons_zero, List.getElem_cons_succ, List.setIfInBounds_toArray, List.set_cons_zero, List.set_cons_succ]
          refine wpAnyH_ready (rs := [15]) (by kernel_rfl) (by simp) ?_
          refine AllReadyH.cons (o := _) rfl (fun K hK => ?_) AllReadyH.nil
          go_simp
          go_at_call 17
          refine (HA.out _ (by exact bel_eq HX25.out rfl rfl rfl rfl) n1 0 false HN1S.out HE2.out).mono ?_
          rintro e x2515 ⟨rfl, hbx⟩
          have HX2515 := Lib.hid hbx; clear hbx
          go_wp2_with fail
          refine hK.out _ _ ?_ (fun hHeld => ?_)
          · exact HS.out _ (bel_eq HX2515.out rfl rfl rfl rfl)
          clear hK K
          try simp only [Act.put, List.getElem_toArray, List.getElem_cons_zero, List.getElem_cons_succ, List.setIfInBounds_toArray, List.set_cons_zero, List.set_cons_succ]
          refine wpAnyH_take (i := 16) (oi := _) (v := ?_) rfl (by kernel_rfl) (by kernel_rfl) (by kernel_rfl) (fun _ _ _ h => h) (Or.inl ⟨by rfl, ?_⟩) (by assumption) ?_
          rotate_left
          · intro w hSw; (try dsimp only at hSw); go_simp; all_goals with_reducible rfl
          try simp only [Act.put, List.getElem_toArray, List.getElem_cons_zero, List.getElem_cons_succ, List.setIfInBounds_toArray, List.set_cons_zero, List.set_cons_succ]
          refine wpAnyH_take (i := 17) (oi := _) (v := ?_) rfl (by kernel_rfl) (by kernel_rfl) (by kernel_rfl) (fun _ _ _ h => h) (Or.inl ⟨by rfl, ?_⟩) (by assumption) ?_
          rotate_left
          · intro w hSw; (try dsimp only at hSw); go_simp; all_goals with_reducible rfl
          try simp only [Act.put, List.getElem_toArray, List.getElem_cons_zero, List.getElem_cons_succ, List.setIfInBounds_toArray, List.set_cons_zero, List.set_cons_succ]
          refine wpAnyH_take (i := 18) (oi := _) (v := ?_) rfl (by kernel_rfl) (by kernel_rfl) (by kernel_rfl) (fun _ _ _ h => h) (Or.inl ⟨by rfl, ?_⟩) (by assumption) ?_
          rotate_left
          · intro w hSw; (try dsimp only at hSw); go_simp; all_goals with_reducible rfl
          try simp only [Act.put, List.getElem_toArray, List.getElem_cons_zero, List.getElem_cons_succ, List.setIfInBounds_toArray, List.set_cons_zero, List.set_cons_succ]
          refine wpAnyH_ready (rs := [19]) (by kernel_rfl) (by simp) ?_
          refine AllReadyH.cons (o := _) rfl (fun K hK => ?_) AllReadyH.nil
          go_simp
          go_at_call 16
          refine (HF.out _ (by exact bel_eq HX2515.out rfl rfl rfl rfl)).mono ?_
          rintro e x251519 ⟨rfl, hbx⟩
          have HX251519 := Lib.hid hbx; clear hbx
          go_wp2_with fail
          refine hK.out _ _ ?_ (fun hHeld => ?_)
          · exact HS.out _ (bel_eq HX251519.out rfl rfl rfl rfl)
          clear hK K
          try simp only [Act.put, List.getElem_toArray, List.getElem_cons_zero, List.getElem_cons_succ, List.setIfInBounds_toArray, List.set_cons_zero, List.set_cons_succ]
          refine wpAnyH_take (i := 20) (oi := _) (v := ?_) rfl (by kernel_rfl) (by kernel_rfl) (by kernel_rfl) (fun _ _ _ h => h) (Or.inl ⟨by rfl, ?_⟩) (by assumption) ?_
          rotate_left
          · intro w hSw; (try dsimp only at hSw); go_simp; all_goals with_reducible rfl
          try simp only [Act.put, List.getElem_toArray, List.getElem_cons_zero, List.getElem_cons_succ, List.setIfInBounds_toArray, List.set_cons_zero, List.set_cons_succ]
          refine wpAnyH_take (i := 21) (oi := _) (v := ?_) rfl (by kernel_rfl) (by kernel_rfl) (by kernel_rfl) (fun _ _ _ h => h) (Or.inl ⟨by rfl, ?_⟩) (by assumption) ?_
          rotate_left
          · intro w hSw; (try dsimp only at hSw); go_simp; all_goals with_reducible rfl
          try simp only [Act.put, List.getElem_toArray, List.getElem_cons_zero, List.getElem_cons_succ, List.setIfInBounds_toArray, List.set_cons_zero, List.set_cons_succ]
          refine wpAnyH_done (by kernel_rfl) ?_ _
          refine NoPanic.normal ?_
          go_wp2
          go_ret
          exact ⟨rfl, bt HBI.out (bel_eq HX251519.out rfl rfl rfl rfl)⟩
        | false =>
          replace HE1 : Hid (allowB (⟨on, rep, names, any, twice⟩ : Gd) n 1 = false) := Lib.hid (by rw [HE1.out]; rfl)
          go_wp2
          refine wp_region_noPanic ?_
          refine wp_region_held_drew (S := fun wx => wx.cell? ⟨ba, 0, none⟩ = some (.bool on) ∧ wx.cell? ⟨ba, 1, none⟩ = some (.bool rep) ∧ wx.cell? ⟨ba, 2, none⟩ = some (.slice Aa j ca) ∧ wx.cell? ⟨ba, 3, none⟩ = some (.bool any) ∧ wx.cell? ⟨ba, 4, none⟩ = some (.bool twice)) (by kernel_rfl) ?_ (fun hHeld => ?_)
          · exact HS.out _ (bel_eq (Below.refl _ w7) rfl rfl rfl rfl)
          refine wpAnyH_take (i := 0) (oi := _) (v := ?_) rfl (by kernel_rfl) (by kernel_rfl) (by kernel_rfl) (fun _ _ _ h => h) (Or.inl ⟨by rfl, ?_⟩) (by assumption) ?_
          rotate_left
          · intro w hSw; (try dsimp only at hSw); go_simp; all_goals with_reducible rfl
          try simp only [Act.put, List.getElem_toArray, List.getElem_cons_zero, List.getElem_cons_succ, List.setIfInBounds_toArray, List.set_cons_zero, List.set_cons_succ]
          refine wpAnyH_take (i := 1) (oi := _) (v := ?_) rfl (by kernel_rfl) (by kernel_rfl) (by kernel_rfl) (fun _ _ _ h => h) (Or.inl ⟨by rfl, ?_⟩) (by assumption) ?_
          rotate_left
          · intro w hSw; (try dsimp only at hSw); go_simp; all_goals with_reducible rfl
          try simp only [Act.put, List.getElem_toArray, List.getElem_cons_zero, List.getElem_cons_succ, List.setIfInBounds_toArray, List.set_cons_zero, List.set_cons_succ]
          refine wpAnyH_take (i := 3) (oi := _) (v := ?_) rfl (by kernel_rfl) (by kernel_rfl) (by kernel_rfl) (fun _ _ _ h => h) (Or.inl ⟨by rfl, ?_⟩) (by assumption) ?_
          rotate_left
          · intro w hSw; (try dsimp only at hSw); go_simp; all_goals with_reducible rfl
          try simp only [Act.put, List.getElem_toArray, List.getElem_cons_zero, List.getElem_cons_succ, List.setIfInBounds_toArray, List.set_cons_zero, List.set_cons_succ]
          refine wpAnyH_take (i := 4) (oi := _) (v := ?_) rfl (by kernel_rfl) (by kernel_rfl) (by kernel_rfl) (fun _ _ _ h => h) (Or.inl ⟨by rfl, ?_⟩) (by assumption) ?_
          rotate_left
          · intro w hSw; (try dsimp only at hSw); go_simp; all_goals with_reducible rfl
          try simp only [Act.put, List.getElem_toArray, List.getElem_cons_zero, List.getElem_cons_succ, List.setIfInBounds_toArray, List.set_cons_zero, List.set_cons_succ]
          refine wpAnyH_ready (rs := [2]) (by kernel_rfl) (by simp) ?_
          refine AllReadyH.cons (o := _) rfl (fun K hK => ?_) AllReadyH.nil
          go_simp
          go_at_call 17
          refine (HA.out _ (by exact bel_eq (Below.refl _ w7) rfl rfl rfl rfl) n 1 false HN8.out HE1.out).mono ?_
          rintro e x2 ⟨rfl, hbx⟩
          have HX2 := Lib.hid hbx; clear hbx
          go_wp2_with fail
          refine hK.out _ _ ?_ (fun hHeld => ?_)
          · exact HS.out _ (bel_eq HX2.out rfl rfl rfl rfl)
          clear hK K
          try simp only [Act.put, List.getElem_toArray, List.getElem_cons_zero, List.getElem_cons_succ, List.setIfInBounds_toArray, List.set_cons_zero, List.set_cons_succ]
          refine wpAnyH_ready (rs := [5]) (by kernel_rfl) (by simp) ?_
          refine AllReadyH.cons (o := _) rfl (fun K hK => ?_) AllReadyH.nil
          go_simp
          go_at_call 17
          refine (HA.out _ (by exact bel_eq HX2.out rfl rfl rfl rfl) n 0 false HN8.out HQ0.out).mono ?_
          rintro e x25 ⟨rfl, hbx⟩
          have HX25 := Lib.hid hbx; clear hbx
          go_wp2_with fail
          refine hK.out _ _ ?_ (fun hHeld => ?_)
          · exact HS.out _ (bel_eq HX25.out rfl rfl rfl rfl)
          clear hK K
          try simp only [Act.put, List.getElem_toArray, List.getElem_cons_zero, List.getElem_cons_succ, List.setIfInBounds_toArray, List.set_cons_zero, List.set_cons_succ]
          refine wpAnyH_take (i := 6) (oi := _) (v := ?_) rfl (by kernel_rfl) (by kernel_rfl) (by kernel_rfl) (fun _ _ _ h => h) (Or.inl ⟨by rfl, ?_⟩) (by assumption) ?_
          rotate_left
          · intro w hSw; (try dsimp only at hSw); go_simp; all_goals with_reducible rfl
          try simp only [Act.put, List.getElem_toArray, List.getElem_cons_zero, List.getElem_cons_succ, List.setIfInBounds_toArray, List.set_cons_zero, List.set_cons_succ]
          refine wpAnyH_take (i := 7) (oi := _) (v := undef) rfl (by kernel_rfl) (by kernel_rfl) (by kernel_rfl) (fun _ _ _ h => h) (Or.inr ⟨by rfl, rfl⟩) (by assumption) ?_
          try simp only [Act.put, List.getElem_toArray, List.getElem_cons_zero, List.getElem_cons_succ, List.setIfInBounds_toArray, List.set_cons_zero, List.set_cons_succ]
          refine wpAnyH_take (i := 8) (oi := _) (v := undef) rfl (by kernel_rfl) (by kernel_rfl) (by kernel_rfl) (fun _ _ _ h => h) (Or.inr ⟨by rfl, rfl⟩) (by assumption) ?_
          try simp only [Act.put, List.getElem_toArray, List.getElem_cons_zero, List.getElem_cons_succ, List.setIfInBounds_toArray, List.set_cons_zero, List.set_cons_succ]
          refine wpAnyH_take (i := 9) (oi := _) (v := ?_) rfl (by kernel_rfl) (by kernel_rfl) (by kernel_rfl) (fun _ _ _ h => h) (Or.inl ⟨by rfl, ?_⟩) (by assumption) ?_
          rotate_left
          · intro w hSw; (try dsimp only at hSw); go_simp; all_goals with_reducible rfl
          try simp only [Act.put, List.getElem_toArray, List.getElem_cons_zero, List.getElem_cons_succ, List.setIfInBounds_toArray, List.set_cons_zero, List.set_cons_succ]
          refine wpAnyH_take (i := 10) (oi := _) (v := ?_) rfl (by kernel_rfl) (by kernel_rfl) (by kernel_rfl) (fun _ _ _ h => h) (Or.inl ⟨by rfl, ?_⟩) (by assumption) ?_
          rotate_left
          · intro w hSw; (try dsimp only at hSw); go_simp; all_goals with_reducible rfl
          try simp only [Act.put, List.getElem_toArray, List.getElem_cons_zero, List.getElem_cons_succ, List.setIfInBounds_toArray, List.set_cons_zero, List.set_cons_succ]
          refine wpAnyH_take (i := 11) (oi := _) (v := ?_) rfl (by kernel_rfl) (by kernel_rfl) (by kernel_rfl) (fun _ _ _ h => h) (Or.inl ⟨by rfl, ?_⟩) (by assumption) ?_
          rotate_left
          · intro w hSw; (try dsimp only at hSw); go_simp; all_goals with_reducible rfl
          try simp only [Act.put, List.getElem_toArray, List.getElem_cons_zero, List.getElem_cons_succ, List.setIfInBounds_toArray, List.set_cons_zero, List.set_cons_succ]
          refine wpAnyH_take (i := 12) (oi := _) (v := ?_) rfl (by kernel_rfl) (by kernel_rfl) (by kernel_rfl) (fun _ _ _ h => h) (Or.inl ⟨by rfl, ?_⟩) (by assumption) ?_
          rotate_left
          · intro w hSw; (try dsimp only at hSw); go_simp; all_goals with_reducible rfl
          try simp only [Act.put, List.getElem_toArray, List.getElem_cons_zero, List.getElem_cons_succ, List.setIfInBounds_toArray, List.set_cons_zero, List.set_cons_succ]
          refine wpAnyH_take (i := 13) (oi := _) (v := ?_) rfl (by kernel_rfl) (by kernel_rfl) (by kernel_rfl) (fun _ _ _ h => h) (Or.inl ⟨by rfl, ?_⟩) (by assumption) ?_
          rotate_left
          · intro w hSw; (try dsimp only at hSw); go_simp; all_goals with_reducible rfl
          try simp only [Act.put, List.getElem_toArray, List.getElem_cons_zero, List.getElem_cons_succ, List.setIfInBounds_toArray, List.set_cons_zero, List.set_cons_succ]
          refine wpAnyH_take (i := 14) (oi := _) (v := ?_) rfl (by kernel_rfl) (by kernel_rfl) (by kernel_rfl) (fun _ _ _ h => h) (Or.inl ⟨by rfl, ?_⟩) (by assumption) ?_
          rotate_left
          · intro w hSw; (try dsimp only at hSw); go_simp; (try rw [hn1']); all_goals with_reducible rfl
          try simp only [Act.put, List.getElem_toArray, List.getElem_cons_zero, List.getElem_cons_succ, List.setIfInBounds_toArray, List.set_cons_zero, List.set_cons_succ]
          refine wpAnyH_ready (rs := [15]) (by kernel_rfl) (by simp) ?_
          refine AllReadyH.cons (o := _) rfl (fun K hK => ?_) AllReadyH.nil
          go_simp
          go_at_call 17
          refine (HA.out _ (by exact bel_eq HX25.out rfl rfl rfl rfl) n1 0 false HN1S.out HE2.out).mono ?_
          rintro e x2515 ⟨rfl, hbx⟩
          have HX2515 := Lib.hid hbx; clear hbx
          go_wp2_with fail
          refine hK.out _ _ ?_ (fun hHeld => ?_)
          · exact HS.out _ (bel_eq HX2515.out rfl rfl rfl rfl)
          clear hK K
          try simp only [Act.put, List.getElem_toArray, List.getElem_cons_zero, List.getElem_cons_succ, List.setIfInBounds_toArray, List.set_cons_zero, List.set_cons_succ]
          refine wpAnyH_take (i := 16) (oi := _) (v := ?_) rfl (by kernel_rfl) (by kernel_rfl) (by kernel_rfl) (fun _ _ _ h => h) (Or.inl ⟨by rfl, ?_⟩) (by assumption) ?_
          rotate_left
          · intro w hSw; (try dsimp only at hSw); go_simp; all_goals with_reducible rfl
          try simp only [Act.put, List.getElem_toArray, List.getElem_cons_zero, List.getElem_cons_succ, List.setIfInBounds_toArray, List.set_cons_zero, List.set_cons_succ]
          refine wpAnyH_take (i := 17) (oi := _) (v := ?_) rfl (by kernel_rfl) (by kernel_rfl) (by kernel_rfl) (fun _ _ _ h => h) (Or.inl ⟨by rfl, ?_⟩) (by assumption) ?_
          rotate_left
          · intro w hSw; (try dsimp only at hSw); go_simp; all_goals with_reducible rfl
          try simp only [Act.put, List.getElem_toArray, List.getElem_cons_zero, List.getElem_cons_succ, List.setIfInBounds_toArray, List.set_cons_zero, List.set_cons_succ]
          refine wpAnyH_take (i := 18) (oi := _) (v := ?_) rfl (by kernel_rfl) (by kernel_rfl) (by kernel_rfl) (fun _ _ _ h => h) (Or.inl ⟨by rfl, ?_⟩) (by assumption) ?_
          rotate_left
          · intro w hSw; (try dsimp only at hSw); go_simp; all_goals with_reducible rfl
          try simp only [Act.put, List.getElem_toArray, List.getElem_cons_zero, List.getElem_cons_succ, List.setIfInBounds_toArray, List.set_cons_zero, List.set_cons_succ]
          refine wpAnyH_ready (rs := [19]) (by kernel_rfl) (by simp) ?_
          refine AllReadyH.cons (o := _) rfl (fun K hK => ?_) AllReadyH.nil
          go_simp
          go_at_call 16
          refine (HF.out _ (by exact bel_eq HX2515.out rfl rfl rfl rfl)).mono ?_
          rintro e x251519 ⟨rfl, hbx⟩
          have HX251519 := Lib.hid hbx; clear hbx
          go_wp2_with fail
          refine hK.out _ _ ?_ (fun hHeld => ?_)
          · exact HS.out _ (bel_eq HX251519.out rfl rfl rfl rfl)
          clear hK K
          try simp only [Act.put, List.getElem_toArray, List.getElem_cons_zero, List.getElem_cons_succ, List.setIfInBounds_toArray, List.set_cons_zero, List.set_cons_succ]
          refine wpAnyH_take (i := 20) (oi := _) (v := ?_) rfl (by kernel_rfl) (by kernel_rfl) (by kernel_rfl) (fun _ _ _ h => h) (Or.inl ⟨by rfl, ?_⟩) (by assumption) ?_
          rotate_left
          · intro w hSw; (try dsimp only at hSw); go_simp; all_goals with_reducible rfl
          try simp only [Act.put, List.getElem_toArray, List.getElem_cons_zero, List.getElem_cons_succ, List.setIfInBounds_toArray, List.set_cons_zero, List.set_cons_succ]
          refine wpAnyH_take (i := 21) (oi := _) (v := ?_) rfl (by kernel_rfl) (by kernel_rfl) (by kernel_rfl) (fun _ _ _ h => h) (Or.inl ⟨by rfl, ?_⟩) (by assumption) ?_
          rotate_left
          · intro w hSw; (try dsimp only at hSw); go_simp; all_goals with_reducible rfl
          try simp only [Act.put, List.getElem_toArray, List.getElem_cons_zero, List.getElem_cons_succ, List.setIfInBounds_toArray, List.set_cons_zero, List.set_cons_succ]
          refine wpAnyH_done (by kernel_rfl) ?_ _
          refine NoPanic.normal ?_
          go_wp2
          go_ret
          exact ⟨rfl, bt HBI.out (bel_eq HX251519.out rfl rfl rfl rfl)⟩
  | false =>
    go_upto_region 9 with (fail)
    obtain ⟨wr0, hwr0⟩ : ∃ W, w6 = W := ⟨_, rfl⟩
    have HAR := Ha_w6; have HBR := HB_w6
    rw [hwr0] at HAR HBR ⊢
    clear hwr0
    clear xa0 xa1 xa2 xa3 xa4
    clear xx0 xx1 xx2 xx3 xx4
    clear xz0 xz1 xz2 xz3 xz4
    go_wp2
    go_loopw [11] (fun i wi => ∃ j : Nat, i = .int .i64 j ∧ j ≤ m ∧ Hid (Kb wi ba (⟨on, rep, names, any, twice⟩ : Gd) (.slice Aa m ca)) ∧ Hid (Below w.heap.size w wi)) (fun i _ => m - (intOf i).toNat)
    case atStart => exact ⟨0, rfl, Nat.zero_le _, HAR, HBR⟩
    case round =>
      obtain ⟨j, rfl, hj, HK, HBI⟩ := hrel
      obtain ⟨w7, rfl⟩ : ∃ w7, w7 = wr := ⟨_, rfl⟩
      have Ha_w7 := HK
      obtain ⟨xa0, xa1, xa2, xa3, xa4⟩ := (show w7.cell? ⟨ba, 0, none⟩ = some (.bool on) ∧ w7.cell? ⟨ba, 1, none⟩ = some (.bool rep) ∧ w7.cell? ⟨ba, 2, none⟩ = some (.slice Aa m ca) ∧ w7.cell? ⟨ba, 3, none⟩ = some (.bool any) ∧ w7.cell? ⟨ba, 4, none⟩ = some (.bool twice) from Ha_w7.out.at5)
      by_cases hp : j < m
      · obtain ⟨-, hrd⟩ := HK.out.names
        obtain ⟨bn, on_, e1, hbn, hcc⟩ := hrd (by have := HM.out; show 0 < names.length; omega)
        have hcell := hcc j (by show j < names.length; have := HM.out; omega)
        obtain ⟨z, hz⟩ : ∃ z, names[j]'(by have := HM.out; omega) = z := ⟨_, rfl⟩
        have hzm := HGV.out z (by rw [← hz]; exact List.getElem_mem _)
        have hcell2 : w7.cell? ⟨bn, on_ + j, none⟩ = some (.string z) := by rw [← hz]; exact hcell
        have hal : allowB (⟨on, rep, names, any, twice⟩ : Gd) z 0 = true := allow_name hzm.1 (by show z ∈ names; rw [← hz]; exact List.getElem_mem _)
        have HA := Lib.hid (fun (wx : World) (hb : Below w7.heap.size w7 wx) => (allows1 _ (⟨on, rep, names, any, twice⟩ : Gd) z 0 wx (show Gv wx wx.heap.size (.agg #[.bool on, .bool rep, .slice Aa m ca, .bool any, .bool twice]) _ from (HK.out.on hb).gv) (by have := hzm.2; omega) hnl true hal).mono fun e w' ⟨h1, h2⟩ => (show e = Ending.returned (.bool true) ∧ Below w7.heap.size w7 w' from ⟨h1, bt hb h2⟩))
        have hj0 : (0 : Int) ≤ (j : Int) := by omega
        have hj1 : (j : Int) < (m : Int) := by omega
        subst e1
        clear hcell hcc hrd hz hzm hal
        have HS := Lib.hid (fun (wx : World) (hb : Below w7.heap.size w7 wx) => show wx.cell? ⟨ba, 0, none⟩ = some (.bool on) ∧ wx.cell? ⟨ba, 1, none⟩ = some (.bool rep) ∧ wx.cell? ⟨ba, 2, none⟩ = some (.slice (some ⟨bn, on_, none⟩) m ca) ∧ wx.cell? ⟨ba, 3, none⟩ = some (.bool any) ∧ wx.cell? ⟨ba, 4, none⟩ = some (.bool twice) ∧ wx.cell? ⟨bn, on_ + j, none⟩ = some (.string z) from ⟨(hb.cell (p := ⟨ba, 0, none⟩) (by show ba < w7.heap.size; exact HK.out.box.lt)).trans xa0, (hb.cell (p := ⟨ba, 1, none⟩) (by show ba < w7.heap.size; exact HK.out.box.lt)).trans xa1, (hb.cell (p := ⟨ba, 2, none⟩) (by show ba < w7.heap.size; exact HK.out.box.lt)).trans xa2, (hb.cell (p := ⟨ba, 3, none⟩) (by show ba < w7.heap.size; exact HK.out.box.lt)).trans xa3, (hb.cell (p := ⟨ba, 4, none⟩) (by show ba < w7.heap.size; exact HK.out.box.lt)).trans xa4, (hb.cell (p := ⟨bn, on_ + j, none⟩) hbn).trans hcell2⟩)
        go_wp2
        refine wp_region_noPanic ?_
        refine wp_region_held_drew (S := fun wx => wx.cell? ⟨ba, 0, none⟩ = some (.bool on) ∧ wx.cell? ⟨ba, 1, none⟩ = some (.bool rep) ∧ wx.cell? ⟨ba, 2, none⟩ = some (.slice (some ⟨bn, on_, none⟩) m ca) ∧ wx.cell? ⟨ba, 3, none⟩ = some (.bool any) ∧ wx.cell? ⟨ba, 4, none⟩ = some (.bool twice) ∧ wx.cell? ⟨bn, on_ + j, none⟩ = some (.string z)) (by kernel_rfl) ?_ (fun hHeld => ?_)
        · exact HS.out _ (bel_eq (Below.refl _ w7) rfl rfl rfl rfl)
        refine wpAnyH_take (i := 0) (oi := _) (v := ?_) rfl (by kernel_rfl) (by kernel_rfl) (by kernel_rfl) (fun _ _ _ h => h) (Or.inl ⟨by rfl, ?_⟩) (by assumption) ?_
        rotate_left
        · intro w hSw; (try dsimp only at hSw); go_simp; all_goals with_reducible rfl
        try simp only [Act.put, List.getElem_toArray, List.getElem_cons_zero, List.getElem_cons_succ, List.setIfInBounds_toArray, List.set_cons_zero, List.set_cons_succ]
        refine wpAnyH_take (i := 1) (oi := _) (v := ?_) rfl (by kernel_rfl) (by kernel_rfl) (by kernel_rfl) (fun _ _ _ h => h) (Or.inl ⟨by rfl, ?_⟩) (by assumption) ?_
        rotate_left
        · intro w hSw; (try dsimp only at hSw); go_simp; all_goals with_reducible rfl
        try simp only [Act.put, List.getElem_toArray, List.getElem_cons_zero, List.getElem_cons_succ, List.setIfInBounds_toArray, List.set_cons_zero, List.set_cons_succ]
        refine wpAnyH_take (i := 2) (oi := _) (v := ?_) rfl (by kernel_rfl) (by kernel_rfl) (by kernel_rfl) (fun _ _ _ h => h) (Or.inl ⟨by rfl, ?_⟩) (by assumption) ?_
        rotate_left
        · intro w hSw; (try dsimp only at hSw); go_simp; all_goals with_reducible rfl
        try simp only [Act.put, List.getElem_toArray, List.getElem_cons_zero, List.getElem_cons_succ, List.setIfInBounds_toArray, List.set_cons_zero, List.set_cons_succ]
        refine wpAnyH_take (i := 3) (oi := _) (v := ?_) rfl (by kernel_rfl) (by kernel_rfl) (by kernel_rfl) (fun _ _ _ h => h) (Or.inl ⟨by rfl, ?_⟩) (by assumption) ?_
        rotate_left
        · intro w hSw; (try dsimp only at hSw); go_simp; all_goals with_reducible rfl
        try simp only [Act.put, List.getElem_toArray, List.getElem_cons_zero, List.getElem_cons_succ, List.setIfInBounds_toArray, List.set_cons_zero, List.set_cons_succ]
        refine wpAnyH_take (i := 4) (oi := _) (v := ?_) rfl (by kernel_rfl) (by kernel_rfl) (by kernel_rfl) (fun _ _ _ h => h) (Or.inl ⟨by rfl, ?_⟩) (by assumption) ?_
        rotate_left
        · intro w hSw; (try dsimp only at hSw); go_simp; all_goals with_reducible rfl
        try simp only [Act.put, List.getElem_toArray, List.getElem_cons_zero, List.getElem_cons_succ, List.setIfInBounds_toArray, List.set_cons_zero, List.set_cons_succ]
        refine wpAnyH_take (i := 5) (oi := _) (v := ?_) rfl (by kernel_rfl) (by kernel_rfl) (by kernel_rfl) (fun _ _ _ h => h) (Or.inl ⟨by rfl, ?_⟩) (by assumption) ?_
        rotate_left
        · intro w hSw; (try dsimp only at hSw); go_simp; all_goals with_reducible rfl
        try simp only [Act.put, List.getElem_toArray, List.getElem_cons_zero, List.getElem_cons_succ, List.setIfInBounds_toArray, List.set_cons_zero, List.set_cons_succ]
        refine wpAnyH_ready (rs := [6]) (by kernel_rfl) (by simp) ?_
        refine AllReadyH.cons (o := _) rfl (fun K hK => ?_) AllReadyH.nil
        go_simp
        go_at_call 17
        refine (HA.out _ (by exact bel_eq (Below.refl _ w7) rfl rfl rfl rfl)).mono ?_
        rintro e x1 ⟨rfl, hbx⟩
        have HX1 := Lib.hid hbx; clear hbx
        go_wp2_with fail
        refine hK.out _ _ ?_ (fun hHeld => ?_)
        · exact HS.out _ (bel_eq HX1.out rfl rfl rfl rfl)
        clear hK K
        try simp only [Act.put, List.getElem_toArray, List.getElem_cons_zero, List.getElem_cons_succ, List.setIfInBounds_toArray, List.set_cons_zero, List.set_cons_succ]
        refine wpAnyH_take (i := 7) (oi := _) (v := ?_) rfl (by kernel_rfl) (by kernel_rfl) (by kernel_rfl) (fun _ _ _ h => h) (Or.inl ⟨by rfl, ?_⟩) (by assumption) ?_
        rotate_left
        · intro w hSw; (try dsimp only at hSw); go_simp; all_goals with_reducible rfl
        try simp only [Act.put, List.getElem_toArray, List.getElem_cons_zero, List.getElem_cons_succ, List.setIfInBounds_toArray, List.set_cons_zero, List.set_cons_succ]
        refine wpAnyH_done (by kernel_rfl) ?_ _
        refine NoPanic.normal ?_
        go_wp2
        go_roundw
        case rel => exact ⟨j + 1, by go_num, by omega, Lib.hid (HK.out.on (bel_eq HX1.out rfl rfl rfl rfl)), Lib.hid (bt HBI.out (bel_eq HX1.out rfl rfl rfl rfl))⟩
        case measure => simp [intOf]; omega
      · obtain rfl : j = m := by omega
        have e1 := allow_one (⟨on, rep, names, any, twice⟩ : Gd) n
        have e2 := allow_space (⟨on, rep, names, any, twice⟩ : Gd) n 0
        obtain ⟨q0, hq0⟩ : ∃ q0, allowB (⟨on, rep, names, any, twice⟩ : Gd) n 0 = q0 := ⟨_, rfl⟩
        rw [hq0] at e1
        have e1 : allowB (⟨on, rep, names, any, twice⟩ : Gd) n 1 = (q0 && twice) := e1
        rw [HN1.out] at e2
        have HE1 := Lib.hid e1; have HE2 := Lib.hid e2; have HQ0 := Lib.hid hq0
        clear e1 e2 hq0
        have hn1' := HN1.out
        have hsum : ¬ 9223372036854775807 < n.size + 1 := by omega
        have HA := Lib.hid (fun (wx : World) (hb : Below w7.heap.size w7 wx) (x : ByteArray) (h : Int) (p : Bool) (hx : x.size ≤ 140737488355328) (hp : allowB (⟨on, rep, names, any, twice⟩ : Gd) x h = p) => (allows1 _ (⟨on, rep, names, any, twice⟩ : Gd) x h wx (show Gv wx wx.heap.size (.agg #[.bool on, .bool rep, .slice Aa j ca, .bool any, .bool twice]) _ from (HK.out.on hb).gv) hx hnl p hp).mono fun e w' ⟨h1, h2⟩ => (show e = Ending.returned (.bool p) ∧ Below w7.heap.size w7 w' from ⟨h1, bt hb h2⟩))
        have HF := Lib.hid (fun (wx : World) (hb : Below w7.heap.size w7 wx) => (fixed15_any wx).mono fun e w' ⟨h1, h2⟩ => (show e = Ending.returned (.bool true) ∧ Below w7.heap.size w7 w' from ⟨h1, bt hb h2⟩))
        have HS := Lib.hid (fun (wx : World) (hb : Below w7.heap.size w7 wx) => show wx.cell? ⟨ba, 0, none⟩ = some (.bool on) ∧ wx.cell? ⟨ba, 1, none⟩ = some (.bool rep) ∧ wx.cell? ⟨ba, 2, none⟩ = some (.slice Aa j ca) ∧ wx.cell? ⟨ba, 3, none⟩ = some (.bool any) ∧ wx.cell? ⟨ba, 4, none⟩ = some (.bool twice) from ⟨(hb.cell (p := ⟨ba, 0, none⟩) (by show ba < w7.heap.size; exact HK.out.box.lt)).trans xa0, (hb.cell (p := ⟨ba, 1, none⟩) (by show ba < w7.heap.size; exact HK.out.box.lt)).trans xa1, (hb.cell (p := ⟨ba, 2, none⟩) (by show ba < w7.heap.size; exact HK.out.box.lt)).trans xa2, (hb.cell (p := ⟨ba, 3, none⟩) (by show ba < w7.heap.size; exact HK.out.box.lt)).trans xa3, (hb.cell (p := ⟨ba, 4, none⟩) (by show ba < w7.heap.size; exact HK.out.box.lt)).trans xa4⟩)
        cases q0 with
        | true =>
          have htt : (twice == twice) = true := by cases twice <;> rfl
          replace HE1 : Hid (allowB (⟨on, rep, names, any, twice⟩ : Gd) n 1 = twice) := Lib.hid (by rw [HE1.out]; rfl)
          go_wp2
          refine wp_region_noPanic ?_
          refine wp_region_held_drew (S := fun wx => wx.cell? ⟨ba, 0, none⟩ = some (.bool on) ∧ wx.cell? ⟨ba, 1, none⟩ = some (.bool rep) ∧ wx.cell? ⟨ba, 2, none⟩ = some (.slice Aa j ca) ∧ wx.cell? ⟨ba, 3, none⟩ = some (.bool any) ∧ wx.cell? ⟨ba, 4, none⟩ = some (.bool twice)) (by kernel_rfl) ?_ (fun hHeld => ?_)
          · exact HS.out _ (bel_eq (Below.refl _ w7) rfl rfl rfl rfl)
          refine wpAnyH_take (i := 0) (oi := _) (v := ?_) rfl (by kernel_rfl) (by kernel_rfl) (by kernel_rfl) (fun _ _ _ h => h) (Or.inl ⟨by rfl, ?_⟩) (by assumption) ?_
          rotate_left
          · intro w hSw; (try dsimp only at hSw); go_simp; all_goals with_reducible rfl
          try simp only [Act.put, List.getElem_toArray, List.getElem_cons_zero, List.getElem_cons_succ, List.setIfInBounds_toArray, List.set_cons_zero, List.set_cons_succ]
          refine wpAnyH_take (i := 1) (oi := _) (v := ?_) rfl (by kernel_rfl) (by kernel_rfl) (by kernel_rfl) (fun _ _ _ h => h) (Or.inl ⟨by rfl, ?_⟩) (by assumption) ?_
          rotate_left
          · intro w hSw; (try dsimp only at hSw); go_simp; all_goals with_reducible rfl
          try simp only [Act.put, List.getElem_toArray, List.getElem_cons_zero, List.getElem_cons_succ, List.setIfInBounds_toArray, List.set_cons_zero, List.set_cons_succ]
          refine wpAnyH_take (i := 3) (oi := _) (v := ?_) rfl (by kernel_rfl) (by kernel_rfl) (by kernel_rfl) (fun _ _ _ h => h) (Or.inl ⟨by rfl, ?_⟩) (by assumption) ?_
          rotate_left
          · intro w hSw; (try dsimp only at hSw); go_simp; all_goals with_reducible rfl
          try simp only [Act.put, List.getElem_toArray, List.getElem_cons_zero, List.getElem_cons_succ, List.setIfInBounds_toArray, List.set_cons_zero, List.set_cons_succ]
          refine wpAnyH_take (i := 4) (oi := _) (v := ?_) rfl (by kernel_rfl) (by kernel_rfl) (by kernel_rfl) (fun _ _ _ h => h) (Or.inl ⟨by rfl, ?_⟩) (by assumption) ?_
          rotate_left
          · intro w hSw; (try dsimp only at hSw); go_simp; all_goals with_reducible rfl
          try simp only [Act.put, List.getElem_toArray, List.getElem_cons_zero, List.getElem_cons_succ, List.setIfInBounds_toArray, List.set_cons_zero, List.set_cons_succ]
          refine wpAnyH_ready (rs := [2]) (by kernel_rfl) (by simp) ?_
          refine AllReadyH.cons (o := _) rfl (fun K hK => ?_) AllReadyH.nil
          go_simp
          go_at_call 17
          refine (HA.out _ (by exact bel_eq (Below.refl _ w7) rfl rfl rfl rfl) n 1 twice HN8.out HE1.out).mono ?_
          rintro e x2 ⟨rfl, hbx⟩
          have HX2 := Lib.hid hbx; clear hbx
          go_wp2_with fail
          refine hK.out _ _ ?_ (fun hHeld => ?_)
          · exact HS.out _ (bel_eq HX2.out rfl rfl rfl rfl)
          clear hK K
          try simp only [Act.put, List.getElem_toArray, List.getElem_cons_zero, List.getElem_cons_succ, List.setIfInBounds_toArray, List.set_cons_zero, List.set_cons_succ]
          refine wpAnyH_ready (rs := [5]) (by kernel_rfl) (by simp) ?_
          refine AllReadyH.cons (o := _) rfl (fun K hK => ?_) AllReadyH.nil
          go_simp
          go_at_call 17
          refine (HA.out _ (by exact bel_eq HX2.out rfl rfl rfl rfl) n 0 true HN8.out HQ0.out).mono ?_
          rintro e x25 ⟨rfl, hbx⟩
          have HX25 := Lib.hid hbx; clear hbx
          go_wp2_with fail
          refine hK.out _ _ ?_ (fun hHeld => ?_)
          · exact HS.out _ (bel_eq HX25.out rfl rfl rfl rfl)
          clear hK K
          try simp only [Act.put, List.getElem_toArray, List.getElem_cons_zero, List.getElem_cons_succ, List.setIfInBounds_toArray, List.set_cons_zero, List.set_cons_succ]
          refine wpAnyH_take (i := 6) (oi := _) (v := ?_) rfl (by kernel_rfl) (by kernel_rfl) (by kernel_rfl) (fun _ _ _ h => h) (Or.inl ⟨by rfl, ?_⟩) (by assumption) ?_
          rotate_left
          · intro w hSw; (try dsimp only at hSw); go_simp; all_goals with_reducible rfl
          try simp only [Act.put, List.getElem_toArray, List.getElem_cons_zero, List.getElem_cons_succ, List.setIfInBounds_toArray, List.set_cons_zero, List.set_cons_succ]
          refine wpAnyH_take (i := 7) (oi := _) (v := ?_) rfl (by kernel_rfl) (by kernel_rfl) (by kernel_rfl) (fun _ _ _ h => h) (Or.inl ⟨by rfl, ?_⟩) (by assumption) ?_
          rotate_left
          · intro w hSw; (try dsimp only at hSw); go_simp; all_goals with_reducible rfl
          try simp only [Act.put, List.getElem_toArray, List.getElem_cons_zero, List.getElem_cons_succ, List.setIfInBounds_toArray, List.set_cons_zero, List.set_cons_succ]
          refine wpAnyH_take (i := 8) (oi := _) (v := ?_) rfl (by kernel_rfl) (by kernel_rfl) (by kernel_rfl) (fun _ _ _ h => h) (Or.inl ⟨by rfl, ?_⟩) (by assumption) ?_
          rotate_left
          · intro w hSw; (try dsimp only at hSw); go_simp; all_goals with_reducible rfl
          try simp only [Act.put, List.getElem_toArray, List.getElem_cons_zero, List.getElem_cons_succ, List.setIfInBounds_toArray, List.set_cons_zero, List.set_cons_succ]
          refine wpAnyH_take (i := 9) (oi := _) (v := ?_) rfl (by kernel_rfl) (by kernel_rfl) (by kernel_rfl) (fun _ _ _ h => h) (Or.inl ⟨by rfl, ?_⟩) (by assumption) ?_
          rotate_left
          · intro w hSw; (try dsimp only at hSw); go_simp; all_goals with_reducible rfl
          try simp only [Act.put, List.getElem_toArray, List.getElem_cons_zero, List.getElem_cons_succ, List.setIfInBounds_toArray, List.set_cons_zero, List.set_cons_succ]
          refine wpAnyH_take (i := 10) (oi := _) (v := ?_) rfl (by kernel_rfl) (by kernel_rfl) (by kernel_rfl) (fun _ _ _ h => h) (Or.inl ⟨by rfl, ?_⟩) (by assumption) ?_
          rotate_left
          · intro w hSw; (try dsimp only at hSw); go_simp; all_goals with_reducible rfl
          try simp only [Act.put, List.getElem_toArray, List.getElem_cons_zero, List.getElem_cons_succ, List.setIfInBounds_toArray, List.set_cons_zero, List.set_cons_succ]
          refine wpAnyH_take (i := 11) (oi := _) (v := ?_) rfl (by kernel_rfl) (by kernel_rfl) (by kernel_rfl) (fun _ _ _ h => h) (Or.inl ⟨by rfl, ?_⟩) (by assumption) ?_
          rotate_left
          · intro w hSw; (try dsimp only at hSw); go_simp; all_goals with_reducible rfl
          try simp only [Act.put, List.getElem_toArray, List.getElem_cons_zero, List.getElem_cons_succ, List.setIfInBounds_toArray, List.set_cons_zero, List.set_cons_succ]
          refine wpAnyH_take (i := 12) (oi := _) (v := ?_) rfl (by kernel_rfl) (by kernel_rfl) (by kernel_rfl) (fun _ _ _ h => h) (Or.inl ⟨by rfl, ?_⟩) (by assumption) ?_
          rotate_left
          · intro w hSw; (try dsimp only at hSw); go_simp; all_goals with_reducible rfl
          try simp only [Act.put, List.getElem_toArray, List.getElem_cons_zero, List.getElem_cons_succ, List.setIfInBounds_toArray, List.set_cons_zero, List.set_cons_succ]
          refine wpAnyH_take (i := 13) (oi := _) (v := ?_) rfl (by kernel_rfl) (by kernel_rfl) (by kernel_rfl) (fun _ _ _ h => h) (Or.inl ⟨by rfl, ?_⟩) (by assumption) ?_
          rotate_left
          · intro w hSw; (try dsimp only at hSw); go_simp; all_goals with_reducible rfl
          try simp only [Act.put, List.getElem_toArray, List.getElem_cons_zero, List.getElem_cons_succ, List.setIfInBounds_toArray, List.set_cons_zero, List.set_cons_succ]
          refine wpAnyH_take (i := 14) (oi := _) (v := ?_) rfl (by kernel_rfl) (by kernel_rfl) (by kernel_rfl) (fun _ _ _ h => h) (Or.inl ⟨by rfl, ?_⟩) (by assumption) ?_
          rotate_left
          · intro w hSw; (try dsimp only at hSw); go_simp; (try rw [hn1']); all_goals with_reducible rfl
          try simp only [Act.put, List.getElem_toArray, List.getElem_cons_zero, List.getElem_cons_succ, List.setIfInBounds_toArray, List.set_cons_zero, List.set_cons_succ]
          refine wpAnyH_ready (rs := [15]) (by kernel_rfl) (by simp) ?_
          refine AllReadyH.cons (o := _) rfl (fun K hK => ?_) AllReadyH.nil
          go_simp
          go_at_call 17
          refine (HA.out _ (by exact bel_eq HX25.out rfl rfl rfl rfl) n1 0 false HN1S.out HE2.out).mono ?_
          rintro e x2515 ⟨rfl, hbx⟩
          have HX2515 := Lib.hid hbx; clear hbx
          go_wp2_with fail
          refine hK.out _ _ ?_ (fun hHeld => ?_)
          · exact HS.out _ (bel_eq HX2515.out rfl rfl rfl rfl)
          clear hK K
          try simp only [Act.put, List.getElem_toArray, List.getElem_cons_zero, List.getElem_cons_succ, List.setIfInBounds_toArray, List.set_cons_zero, List.set_cons_succ]
          refine wpAnyH_take (i := 16) (oi := _) (v := ?_) rfl (by kernel_rfl) (by kernel_rfl) (by kernel_rfl) (fun _ _ _ h => h) (Or.inl ⟨by rfl, ?_⟩) (by assumption) ?_
          rotate_left
          · intro w hSw; (try dsimp only at hSw); go_simp; all_goals with_reducible rfl
          try simp only [Act.put, List.getElem_toArray, List.getElem_cons_zero, List.getElem_cons_succ, List.setIfInBounds_toArray, List.set_cons_zero, List.set_cons_succ]
          refine wpAnyH_take (i := 17) (oi := _) (v := ?_) rfl (by kernel_rfl) (by kernel_rfl) (by kernel_rfl) (fun _ _ _ h => h) (Or.inl ⟨by rfl, ?_⟩) (by assumption) ?_
          rotate_left
          · intro w hSw; (try dsimp only at hSw); go_simp; all_goals with_reducible rfl
          try simp only [Act.put, List.getElem_toArray, List.getElem_cons_zero, List.getElem_cons_succ, List.setIfInBounds_toArray, List.set_cons_zero, List.set_cons_succ]
          refine wpAnyH_take (i := 18) (oi := _) (v := ?_) rfl (by kernel_rfl) (by kernel_rfl) (by kernel_rfl) (fun _ _ _ h => h) (Or.inl ⟨by rfl, ?_⟩) (by assumption) ?_
          rotate_left
          · intro w hSw; (try dsimp only at hSw); go_simp; all_goals with_reducible rfl
          try simp only [Act.put, List.getElem_toArray, List.getElem_cons_zero, List.getElem_cons_succ, List.setIfInBounds_toArray, List.set_cons_zero, List.set_cons_succ]
          refine wpAnyH_ready (rs := [19]) (by kernel_rfl) (by simp) ?_
          refine AllReadyH.cons (o := _) rfl (fun K hK => ?_) AllReadyH.nil
          go_simp
          go_at_call 16
          refine (HF.out _ (by exact bel_eq HX2515.out rfl rfl rfl rfl)).mono ?_
          rintro e x251519 ⟨rfl, hbx⟩
          have HX251519 := Lib.hid hbx; clear hbx
          go_wp2_with fail
          refine hK.out _ _ ?_ (fun hHeld => ?_)
          · exact HS.out _ (bel_eq HX251519.out rfl rfl rfl rfl)
          clear hK K
          try simp only [Act.put, List.getElem_toArray, List.getElem_cons_zero, List.getElem_cons_succ, List.setIfInBounds_toArray, List.set_cons_zero, List.set_cons_succ]
          refine wpAnyH_take (i := 20) (oi := _) (v := ?_) rfl (by kernel_rfl) (by kernel_rfl) (by kernel_rfl) (fun _ _ _ h => h) (Or.inl ⟨by rfl, ?_⟩) (by assumption) ?_
          rotate_left
          · intro w hSw; (try dsimp only at hSw); go_simp; all_goals with_reducible rfl
          try simp only [Act.put, List.getElem_toArray, List.getElem_cons_zero, List.getElem_cons_succ, List.setIfInBounds_toArray, List.set_cons_zero, List.set_cons_succ]
          refine wpAnyH_take (i := 21) (oi := _) (v := ?_) rfl (by kernel_rfl) (by kernel_rfl) (by kernel_rfl) (fun _ _ _ h => h) (Or.inl ⟨by rfl, ?_⟩) (by assumption) ?_
          rotate_left
          · intro w hSw; (try dsimp only at hSw); go_simp; all_goals with_reducible rfl
          try simp only [Act.put, List.getElem_toArray, List.getElem_cons_zero, List.getElem_cons_succ, List.setIfInBounds_toArray, List.set_cons_zero, List.set_cons_succ]
          refine wpAnyH_done (by kernel_rfl) ?_ _
          refine NoPanic.normal ?_
          go_wp2
          go_ret
          exact ⟨rfl, bt HBI.out (bel_eq HX251519.out rfl rfl rfl rfl)⟩
        | false =>
          replace HE1 : Hid (allowB (⟨on, rep, names, any, twice⟩ : Gd) n 1 = false) := Lib.hid (by rw [HE1.out]; rfl)
          go_wp2
          refine wp_region_noPanic ?_
          refine wp_region_held_drew (S := fun wx => wx.cell? ⟨ba, 0, none⟩ = some (.bool on) ∧ wx.cell? ⟨ba, 1, none⟩ = some (.bool rep) ∧ wx.cell? ⟨ba, 2, none⟩ = some (.slice Aa j ca) ∧ wx.cell? ⟨ba, 3, none⟩ = some (.bool any) ∧ wx.cell? ⟨ba, 4, none⟩ = some (.bool twice)) (by kernel_rfl) ?_ (fun hHeld => ?_)
          · exact HS.out _ (bel_eq (Below.refl _ w7) rfl rfl rfl rfl)
          refine wpAnyH_take (i := 0) (oi := _) (v := ?_) rfl (by kernel_rfl) (by kernel_rfl) (by kernel_rfl) (fun _ _ _ h => h) (Or.inl ⟨by rfl, ?_⟩) (by assumption) ?_
          rotate_left
          · intro w hSw; (try dsimp only at hSw); go_simp; all_goals with_reducible rfl
          try simp only [Act.put, List.getElem_toArray, List.getElem_cons_zero, List.getElem_cons_succ, List.setIfInBounds_toArray, List.set_cons_zero, List.set_cons_succ]
          refine wpAnyH_take (i := 1) (oi := _) (v := ?_) rfl (by kernel_rfl) (by kernel_rfl) (by kernel_rfl) (fun _ _ _ h => h) (Or.inl ⟨by rfl, ?_⟩) (by assumption) ?_
          rotate_left
          · intro w hSw; (try dsimp only at hSw); go_simp; all_goals with_reducible rfl
          try simp only [Act.put, List.getElem_toArray, List.getElem_cons_zero, List.getElem_cons_succ, List.setIfInBounds_toArray, List.set_cons_zero, List.set_cons_succ]
          refine wpAnyH_take (i := 3) (oi := _) (v := ?_) rfl (by kernel_rfl) (by kernel_rfl) (by kernel_rfl) (fun _ _ _ h => h) (Or.inl ⟨by rfl, ?_⟩) (by assumption) ?_
          rotate_left
          · intro w hSw; (try dsimp only at hSw); go_simp; all_goals with_reducible rfl
          try simp only [Act.put, List.getElem_toArray, List.getElem_cons_zero, List.getElem_cons_succ, List.setIfInBounds_toArray, List.set_cons_zero, List.set_cons_succ]
          refine wpAnyH_take (i := 4) (oi := _) (v := ?_) rfl (by kernel_rfl) (by kernel_rfl) (by kernel_rfl) (fun _ _ _ h => h) (Or.inl ⟨by rfl, ?_⟩) (by assumption) ?_
          rotate_left
          · intro w hSw; (try dsimp only at hSw); go_simp; all_goals with_reducible rfl
          try simp only [Act.put, List.getElem_toArray, List.getElem_cons_zero, List.getElem_cons_succ, List.setIfInBounds_toArray, List.set_cons_zero, List.set_cons_succ]
          refine wpAnyH_ready (rs := [2]) (by kernel_rfl) (by simp) ?_
          refine AllReadyH.cons (o := _) rfl (fun K hK => ?_) AllReadyH.nil
          go_simp
          go_at_call 17
          refine (HA.out _ (by exact bel_eq (Below.refl _ w7) rfl rfl rfl rfl) n 1 false HN8.out HE1.out).mono ?_
          rintro e x2 ⟨rfl, hbx⟩
          have HX2 := Lib.hid hbx; clear hbx
          go_wp2_with fail
          refine hK.out _ _ ?_ (fun hHeld => ?_)
          · exact HS.out _ (bel_eq HX2.out rfl rfl rfl rfl)
          clear hK K
          try simp only [Act.put, List.getElem_toArray, List.getElem_cons_zero, List.getElem_cons_succ, List.setIfInBounds_toArray, List.set_cons_zero, List.set_cons_succ]
          refine wpAnyH_ready (rs := [5]) (by kernel_rfl) (by simp) ?_
          refine AllReadyH.cons (o := _) rfl (fun K hK => ?_) AllReadyH.nil
          go_simp
          go_at_call 17
          refine (HA.out _ (by exact bel_eq HX2.out rfl rfl rfl rfl) n 0 false HN8.out HQ0.out).mono ?_
          rintro e x25 ⟨rfl, hbx⟩
          have HX25 := Lib.hid hbx; clear hbx
          go_wp2_with fail
          refine hK.out _ _ ?_ (fun hHeld => ?_)
          · exact HS.out _ (bel_eq HX25.out rfl rfl rfl rfl)
          clear hK K
          try simp only [Act.put, List.getElem_toArray, List.getElem_cons_zero, List.getElem_cons_succ, List.setIfInBounds_toArray, List.set_cons_zero, List.set_cons_succ]
          refine wpAnyH_take (i := 6) (oi := _) (v := ?_) rfl (by kernel_rfl) (by kernel_rfl) (by kernel_rfl) (fun _ _ _ h => h) (Or.inl ⟨by rfl, ?_⟩) (by assumption) ?_
          rotate_left
          · intro w hSw; (try dsimp only at hSw); go_simp; all_goals with_reducible rfl
          try simp only [Act.put, List.getElem_toArray, List.getElem_cons_zero, List.getElem_cons_succ, List.setIfInBounds_toArray, List.set_cons_zero, List.set_cons_succ]
          refine wpAnyH_take (i := 7) (oi := _) (v := undef) rfl (by kernel_rfl) (by kernel_rfl) (by kernel_rfl) (fun _ _ _ h => h) (Or.inr ⟨by rfl, rfl⟩) (by assumption) ?_
          try simp only [Act.put, List.getElem_toArray, List.getElem_cons_zero, List.getElem_cons_succ, List.setIfInBounds_toArray, List.set_cons_zero, List.set_cons_succ]
          refine wpAnyH_take (i := 8) (oi := _) (v := undef) rfl (by kernel_rfl) (by kernel_rfl) (by kernel_rfl) (fun _ _ _ h => h) (Or.inr ⟨by rfl, rfl⟩) (by assumption) ?_
          try simp only [Act.put, List.getElem_toArray, List.getElem_cons_zero, List.getElem_cons_succ, List.setIfInBounds_toArray, List.set_cons_zero, List.set_cons_succ]
          refine wpAnyH_take (i := 9) (oi := _) (v := ?_) rfl (by kernel_rfl) (by kernel_rfl) (by kernel_rfl) (fun _ _ _ h => h) (Or.inl ⟨by rfl, ?_⟩) (by assumption) ?_
          rotate_left
          · intro w hSw; (try dsimp only at hSw); go_simp; all_goals with_reducible rfl
          try simp only [Act.put, List.getElem_toArray, List.getElem_cons_zero, List.getElem_cons_succ, List.setIfInBounds_toArray, List.set_cons_zero, List.set_cons_succ]
          refine wpAnyH_take (i := 10) (oi := _) (v := ?_) rfl (by kernel_rfl) (by kernel_rfl) (by kernel_rfl) (fun _ _ _ h => h) (Or.inl ⟨by rfl, ?_⟩) (by assumption) ?_
          rotate_left
          · intro w hSw; (try dsimp only at hSw); go_simp; all_goals with_reducible rfl
          try simp only [Act.put, List.getElem_toArray, List.getElem_cons_zero, List.getElem_cons_succ, List.setIfInBounds_toArray, List.set_cons_zero, List.set_cons_succ]
          refine wpAnyH_take (i := 11) (oi := _) (v := ?_) rfl (by kernel_rfl) (by kernel_rfl) (by kernel_rfl) (fun _ _ _ h => h) (Or.inl ⟨by rfl, ?_⟩) (by assumption) ?_
          rotate_left
          · intro w hSw; (try dsimp only at hSw); go_simp; all_goals with_reducible rfl
          try simp only [Act.put, List.getElem_toArray, List.getElem_cons_zero, List.getElem_cons_succ, List.setIfInBounds_toArray, List.set_cons_zero, List.set_cons_succ]
          refine wpAnyH_take (i := 12) (oi := _) (v := ?_) rfl (by kernel_rfl) (by kernel_rfl) (by kernel_rfl) (fun _ _ _ h => h) (Or.inl ⟨by rfl, ?_⟩) (by assumption) ?_
          rotate_left
          · intro w hSw; (try dsimp only at hSw); go_simp; all_goals with_reducible rfl
          try simp only [Act.put, List.getElem_toArray, List.getElem_cons_zero, List.getElem_cons_succ, List.setIfInBounds_toArray, List.set_cons_zero, List.set_cons_succ]
          refine wpAnyH_take (i := 13) (oi := _) (v := ?_) rfl (by kernel_rfl) (by kernel_rfl) (by kernel_rfl) (fun _ _ _ h => h) (Or.inl ⟨by rfl, ?_⟩) (by assumption) ?_
          rotate_left
          · intro w hSw; (try dsimp only at hSw); go_simp; all_goals with_reducible rfl
          try simp only [Act.put, List.getElem_toArray, List.getElem_cons_zero, List.getElem_cons_succ, List.setIfInBounds_toArray, List.set_cons_zero, List.set_cons_succ]
          refine wpAnyH_take (i := 14) (oi := _) (v := ?_) rfl (by kernel_rfl) (by kernel_rfl) (by kernel_rfl) (fun _ _ _ h => h) (Or.inl ⟨by rfl, ?_⟩) (by assumption) ?_
          rotate_left
          · intro w hSw; (try dsimp only at hSw); go_simp; (try rw [hn1']); all_goals with_reducible rfl
          try simp only [Act.put, List.getElem_toArray, List.getElem_cons_zero, List.getElem_cons_succ, List.setIfInBounds_toArray, List.set_cons_zero, List.set_cons_succ]
          refine wpAnyH_ready (rs := [15]) (by kernel_rfl) (by simp) ?_
          refine AllReadyH.cons (o := _) rfl (fun K hK => ?_) AllReadyH.nil
          go_simp
          go_at_call 17
          refine (HA.out _ (by exact bel_eq HX25.out rfl rfl rfl rfl) n1 0 false HN1S.out HE2.out).mono ?_
          rintro e x2515 ⟨rfl, hbx⟩
          have HX2515 := Lib.hid hbx; clear hbx
          go_wp2_with fail
          refine hK.out _ _ ?_ (fun hHeld => ?_)
          · exact HS.out _ (bel_eq HX2515.out rfl rfl rfl rfl)
          clear hK K
          try simp only [Act.put, List.getElem_toArray, List.getElem_cons_zero, List.getElem_cons_succ, List.setIfInBounds_toArray, List.set_cons_zero, List.set_cons_succ]
          refine wpAnyH_take (i := 16) (oi := _) (v := ?_) rfl (by kernel_rfl) (by kernel_rfl) (by kernel_rfl) (fun _ _ _ h => h) (Or.inl ⟨by rfl, ?_⟩) (by assumption) ?_
          rotate_left
          · intro w hSw; (try dsimp only at hSw); go_simp; all_goals with_reducible rfl
          try simp only [Act.put, List.getElem_toArray, List.getElem_cons_zero, List.getElem_cons_succ, List.setIfInBounds_toArray, List.set_cons_zero, List.set_cons_succ]
          refine wpAnyH_take (i := 17) (oi := _) (v := ?_) rfl (by kernel_rfl) (by kernel_rfl) (by kernel_rfl) (fun _ _ _ h => h) (Or.inl ⟨by rfl, ?_⟩) (by assumption) ?_
          rotate_left
          · intro w hSw; (try dsimp only at hSw); go_simp; all_goals with_reducible rfl
          try simp only [Act.put, List.getElem_toArray, List.getElem_cons_zero, List.getElem_cons_succ, List.setIfInBounds_toArray, List.set_cons_zero, List.set_cons_succ]
          refine wpAnyH_take (i := 18) (oi := _) (v := ?_) rfl (by kernel_rfl) (by kernel_rfl) (by kernel_rfl) (fun _ _ _ h => h) (Or.inl ⟨by rfl, ?_⟩) (by assumption) ?_
          rotate_left
          · intro w hSw; (try dsimp only at hSw); go_simp; all_goals with_reducible rfl
          try simp only [Act.put, List.getElem_toArray, List.getElem_cons_zero, List.getElem_cons_succ, List.setIfInBounds_toArray, List.set_cons_zero, List.set_cons_succ]
          refine wpAnyH_ready (rs := [19]) (by kernel_rfl) (by simp) ?_
          refine AllReadyH.cons (o := _) rfl (fun K hK => ?_) AllReadyH.nil
          go_simp
          go_at_call 16
          refine (HF.out _ (by exact bel_eq HX2515.out rfl rfl rfl rfl)).mono ?_
          rintro e x251519 ⟨rfl, hbx⟩
          have HX251519 := Lib.hid hbx; clear hbx
          go_wp2_with fail
          refine hK.out _ _ ?_ (fun hHeld => ?_)
          · exact HS.out _ (bel_eq HX251519.out rfl rfl rfl rfl)
          clear hK K
          try simp only [Act.put, List.getElem_toArray, List.getElem_cons_zero, List.getElem_cons_succ, List.setIfInBounds_toArray, List.set_cons_zero, List.set_cons_succ]
          refine wpAnyH_take (i := 20) (oi := _) (v := ?_) rfl (by kernel_rfl) (by kernel_rfl) (by kernel_rfl) (fun _ _ _ h => h) (Or.inl ⟨by rfl, ?_⟩) (by assumption) ?_
          rotate_left
          · intro w hSw; (try dsimp only at hSw); go_simp; all_goals with_reducible rfl
          try simp only [Act.put, List.getElem_toArray, List.getElem_cons_zero, List.getElem_cons_succ, List.setIfInBounds_toArray, List.set_cons_zero, List.set_cons_succ]
          refine wpAnyH_take (i := 21) (oi := _) (v := ?_) rfl (by kernel_rfl) (by kernel_rfl) (by kernel_rfl) (fun _ _ _ h => h) (Or.inl ⟨by rfl, ?_⟩) (by assumption) ?_
          rotate_left
          · intro w hSw; (try dsimp only at hSw); go_simp; all_goals with_reducible rfl
          try simp only [Act.put, List.getElem_toArray, List.getElem_cons_zero, List.getElem_cons_succ, List.setIfInBounds_toArray, List.set_cons_zero, List.set_cons_succ]
          refine wpAnyH_done (by kernel_rfl) ?_ _
          refine NoPanic.normal ?_
          go_wp2
          go_ret
          exact ⟨rfl, bt HBI.out (bel_eq HX251519.out rfl rfl rfl rfl)⟩

end Go.Proofs.Ythgpjhblbpiagaa.He
