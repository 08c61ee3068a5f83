/-
  Walks of stage 6's law TokenShapes: lower. Walks of stage 6's law TokenShapes: it returns true.
-/
import Derived.Test.YtjhhhlomkfnniaaDoorTokShape
import Derived.Test.YtjhhhlomkfnniaaDoorTokLawsA
import Derived.Test.YtjhhhlomkfnniaaDoorTokBulk
namespace Go.Proofs.YtjhhhlomkfnniaaDoor.To
set_option linter.unusedSimpArgs false
set_option linter.unusedVariables false
open Go.RowKit Ba Fm Fo Tm Sm
open Ro (At acells range2 range5)
open Re (Tab)

theorem okB_false {c : UInt8} (h : okB c = true) : (decide (65 ≤ (c.toNat : Int)) && decide ((c.toNat : Int) ≤ 90)) = false ∧ (c == 32) = false ∧ (c == 9) = false ∧ (c == 10) = false ∧ (c == 12) = false ∧ (c == 13) = false ∧ (c == 62) = false := by
  unfold okB at h
  have e65 : decide (65 ≤ c) = decide (65 ≤ (c.toNat : Int)) := decide_eq_decide.2 ⟨fun q => by have := UInt8.le_iff_toNat_le.1 q; have e : (65 : UInt8).toNat = 65 := rfl; omega, fun q => UInt8.le_iff_toNat_le.2 (by have e : (65 : UInt8).toNat = 65 := rfl; omega)⟩
  have e90 : decide (c ≤ 90) = decide ((c.toNat : Int) ≤ 90) := decide_eq_decide.2 ⟨fun q => by have := UInt8.le_iff_toNat_le.1 q; have e : (90 : UInt8).toNat = 90 := rfl; omega, fun q => UInt8.le_iff_toNat_le.2 (by have e : (90 : UInt8).toNat = 90 := rfl; omega)⟩
  rw [e65, e90, Bool.not_eq_true', Bool.or_eq_false_iff, Bool.or_eq_false_iff] at h
  obtain ⟨⟨h1, h2⟩, h3⟩ := h
  simp only [Bool.or_eq_false_iff] at h2
  exact ⟨h1, h2.1.1.1.1, h2.1.1.1.2, h2.1.1.2, h2.1.2, h2.2, h3⟩
theorem okN_at {s : ByteArray} (h : okN (L s) = true) (k : Nat) (hk : k < s.size) : okB s[k] = true := by
  unfold okN at h
  rw [List.all_eq_true] at h
  exact h _ (by
    have := List.getElem_mem (l := L s) (n := k) (by rw [size_L]; exact hk)
    exact this)
set_option maxRecDepth 100000 in
set_option maxHeartbeats 4000000 in
theorem lower_ok (s : ByteArray) (w : World) (hs : s.size ≤ 140737488351232) (h : okN (L s) = true) :
    Calls Tryd.prog 21 #[.string s] w fun e w' => e = .returned (.bool true) ∧ w = w' := by
  have H := Lib.hid h; clear h
  go_enter Tryd.func21, Tryd.ntmps21
  go_wp2
  go_loop [3] (fun i => ∃ k : Nat, i = .int .i64 k ∧ k ≤ s.size) (fun i => s.size - (intOf i).toNat)
  case atStart => exact ⟨0, rfl, Nat.zero_le _⟩
  case round =>
    obtain ⟨k, rfl, hk⟩ := hrel
    by_cases hp : k < s.size
    · obtain ⟨h0, h1, h2, h3, h4, h5, h6⟩ := okB_false (okN_at H.out k hp)
      have e32 : ((s[k].toNat : Int) == 32) = false := (u8_eq (b := 32)).trans h1
      have e9 : ((s[k].toNat : Int) == 9) = false := (u8_eq (b := 9)).trans h2
      have e10 : ((s[k].toNat : Int) == 10) = false := (u8_eq (b := 10)).trans h3
      have e12 : ((s[k].toNat : Int) == 12) = false := (u8_eq (b := 12)).trans h4
      have e13 : ((s[k].toNat : Int) == 13) = false := (u8_eq (b := 13)).trans h5
      have e62 : ((s[k].toNat : Int) == 62) = false := (u8_eq (b := 62)).trans h6
      clear h1 h2 h3 h4 h5 h6
      cases h65 : decide (65 ≤ (s[k].toNat : Int)) with
      | true =>
        rw [h65] at h0
        have h90 : decide ((s[k].toNat : Int) ≤ 90) = false := h0
        clear h0
        go_wp2
        go_round
        case rel => exact ⟨k + 1, by go_num, by omega⟩
        case measure => simp [intOf]; omega
      | false =>
        clear h0
        go_wp2
        go_round
        case rel => exact ⟨k + 1, by go_num, by omega⟩
        case measure => simp [intOf]; omega
    · go_wp2
      go_ret
      exact ⟨rfl, rfl⟩

end Go.Proofs.YtjhhhlomkfnniaaDoor.To

namespace Go.Proofs.YtjhhhlomkfnniaaDoor.To
set_option linter.unusedSimpArgs false
set_option linter.unusedVariables false
open Go.RowKit Ba Fm Fo Tm Sm
open Ro (At acells range2 range5 below_new)
open Re (Tab)

theorem lower1 (s : ByteArray) (w : World) (hs : s.size ≤ 140737488351232) (h : okN (L s) = true) :
    Calls Tryd.prog 21 #[.string s] w fun e w' => e = .returned (.bool true) ∧ w = w' := lower_ok s w hs h
theorem not_empty {s : ByteArray} (h : s ≠ B []) : s.toList.isEmpty = false := by
  rw [toList_L]
  cases hl : L s with
  | nil => exact absurd (by rw [← B_L s, hl]) h
  | cons a r => rfl
/-- What the attributes of a tag are, one by one. -/
theorem apart_at {l : List At} (h : okAs l) {j k : Nat} (hj : j < k) (hk : k < l.length) : (l[j]'(by omega)).name ≠ l[k].name := List.pairwise_iff_getElem.1 h.2 j k (by omega) hk hj

set_option maxRecDepth 100000 in
set_option maxHeartbeats 8000000 in
theorem law_shapes (a : ByteArray) (ha : a.size ≤ 140737488351232) (w : World) (hT : Tab w) :
    Calls Tryd.prog 6 #[.string a] w fun e w' => e = .returned (.bool true) ∧ Below w.heap.size w w' := by
  obtain ⟨k1, hk1, hk2, -, hmin⟩ := min_any a.size 500 500 rfl w
  obtain ⟨u, hu⟩ : ∃ u, a.extract 0 k1 = u := ⟨_, rfl⟩
  have hus : u.size = k1 := by rw [← hu]; exact size_take a k1 hk1
  have HU := Lib.hid hu; have HUS := Lib.hid hus; have HT := Lib.hid hT
  clear hu hus hT
  go_enter Tryd.func6, Tryd.ntmps6
  go_wp2_with fail
  rw [HU.out]
  have zu : u.size ≤ 500 := by have := HUS.out; omega
  clear hmin HU HUS ha hk1 hk2
  refine (cutT u w _ (by omega) HT.out rfl).mono ?_
  rintro e w1 ⟨V, rfl, t1, b1⟩
  obtain ⟨A, c, l, rfl, hc, hr, ht⟩ := t1
  have hsh : Shapes (tks l) := by rw [ht]; exact shape_within _ _
  have hbw : bulk (tks l) ≤ 1000 := by have := bulk_within [] (L u); rw [← ht, size_L] at this; omega
  have hln := within_len [] (L u)
  rw [← ht, size_L, len_tks] at hln
  rw [← ht, len_tks] at hc ⊢
  have HR := Lib.hid hr; have HS := Lib.hid hsh; have HB := Lib.hid b1; have HT1 := Lib.hid (HT.out.below b1)
  clear hr hsh ht b1
  go_wp2
  go_loopw [4] (fun i wr => ∃ k : Nat, i = .int .i64 k ∧ k ≤ l.length ∧ Below w1.heap.size w1 wr) (fun i _ => l.length - (intOf i).toNat)
  case atStart => exact ⟨0, rfl, Nat.zero_le _, Below.refl _ _⟩
  case round =>
    obtain ⟨k, rfl, hk, hbel⟩ := hrel
    have hsz := hbel.size
    by_cases hp : k < l.length
    · obtain ⟨b0, o0, x, rfl, _, hdx, hx, hxa, hxm⟩ := (HR.out.below hbel).at_ k hp
      obtain ⟨f0, f1, f2, f3, f4⟩ := range5 hx
      have hs : Shape x.tk := HS.out _ (List.mem_map_of_mem hxm)
      have hbt : bulkT x.tk ≤ 1000 := Nat.le_trans (bulk_mem (List.mem_map_of_mem hxm)) hbw
      have hns : x.tk.name.size ≤ 140737488351232 := by unfold bulkT at hbt; omega
      have HB1 := Lib.hid hbel; have HB2 := Lib.hid (hbel.alloc hsz (tokO x))
      clear hdx hx hxm hbel
      rcases hs with ⟨hk0, hn, hd, hat, hsf⟩ | ⟨hk0, hn, hd, hok, hat⟩ | ⟨hk0, hn, hd, hok, hat, hsf⟩ | ⟨hk0, hn, hat, hsf⟩ | ⟨hk0, hn, hat, hsf⟩
      · have hne : x.tk.data.toList.isEmpty = false := not_empty hd
        rw [hk0] at f0
        rw [show x.tk.name = ⟨#[]⟩ from hn] at f1
        rw [hat] at f3
        rw [hsf] at f4
        have HBX := Lib.hid HB1.out
        clear hk0 hn hd hat hsf hxa HB1 HB2
        go_wp2
        refine wp_loop_rounds 1 ?_
        rw [rounds_succ]
        go_wp2
        go_roundw
        case rel => exact ⟨k + 1, by go_num, by omega, HBX.out.alloc hsz _⟩
        case measure => simp [intOf]; omega
      · have hne : x.tk.name.toList.isEmpty = false := not_empty hn
        rw [hk0] at f0
        rw [show x.tk.data = ⟨#[]⟩ from hd] at f2
        have hl2 : x.tk.attrs.length ≤ 1000 := by unfold bulkT at hbt; omega
        have hbA : bulkA x.tk.attrs ≤ 1000 := by unfold bulkT at hbt; omega
        have hca := hxa.1
        have hcm := hxa.2.2.1
        unfold maxLen at hcm
        have HBX := Lib.hid HB1.out; have HOK := Lib.hid hok; have HAT := Lib.hid hat; have HRA := Lib.hid hxa.2.2.2.1
        clear hk0 hn hd hat hok hxa HB1 HB2 hbt
        go_wp2_with (go_at_call 21; refine (lower1 x.tk.name _ hns HOK.out).mono ?_; rintro e w' ⟨rfl, rfl⟩)
        obtain ⟨g, hg⟩ : ∃ g, wr.heap.size = g := ⟨_, rfl⟩
        have ht0 : Tb (wr.alloc (.cells #[.int .i64 1, .string x.tk.name, .string ⟨#[]⟩, .slice x.A x.tk.attrs.length x.c, .bool x.tk.self] 35)) wr.heap.size ⟨⟨1, x.tk.name, ⟨#[]⟩, x.tk.attrs, x.tk.self⟩, x.A, x.c⟩ := Tb.new wr ⟨⟨1, x.tk.name, ⟨#[]⟩, x.tk.attrs, x.tk.self⟩, x.A, x.c⟩
        have hwb := below_new wr (.cells #[.int .i64 1, .string x.tk.name, .string ⟨#[]⟩, .slice x.A x.tk.attrs.length x.c, .bool x.tk.self] 35)
        have hra2 := Ro.Ra.below (Ro.Ra.more HRA.out hsz) hwb
        have hbel2 := HBX.out.trans (hwb.mono hsz)
        obtain ⟨W1, hW1⟩ : ∃ W1, wr.alloc (.cells #[.int .i64 1, .string x.tk.name, .string ⟨#[]⟩, .slice x.A x.tk.attrs.length x.c, .bool x.tk.self] 35) = W1 := ⟨_, rfl⟩
        rw [hW1] at ht0 hra2 hbel2 ⊢
        rw [hg] at ht0 ⊢
        have c3 := ht0.c.2.2.2.1
        have HB3 := Lib.hid hbel2; have HR2 := Lib.hid hra2
        clear hg ht0 hwb hra2 hbel2 hW1 f0 f1 f2 f3 f4 HRA HBX
        go_loopw [7] (fun i wq => ∃ j : Nat, i = .int .i64 j ∧ j ≤ x.tk.attrs.length ∧ ∃ n, wq = W1.drewN n) (fun i _ => x.tk.attrs.length - (intOf i).toNat)
        case atStart => exact ⟨0, rfl, Nat.zero_le _, 0, rfl⟩
        case round =>
          obtain ⟨j, rfl, hj, n, rfl⟩ := hrel
          by_cases hpj : j < x.tk.attrs.length
          · obtain ⟨ba, oa, y, hA, _, hdy, hxy, _⟩ := Ro.Ra.at_ HR2.out j hpj
            obtain ⟨y0, y1⟩ := range2 hxy
            rw [hA] at c3
            have hyj : x.tk.attrs[j] = y := by
              rw [List.drop_eq_getElem_cons hpj] at hdy
              injection hdy
            obtain ⟨ho1, ho2⟩ := HAT.out.1 y (by rw [← hyj]; exact List.getElem_mem _)
            have hye : y.name.toList.isEmpty = false := not_empty ho1
            have hys : y.name.size ≤ 140737488351232 := by
              have := bulk_at x.tk.attrs j hpj
              rw [hyj] at this
              omega
            have HO2 := Lib.hid ho2; have HYJ := Lib.hid hyj; have HA := Lib.hid hA
            clear hdy hxy ho1 ho2 hyj hA
            go_wp2_with (go_at_call 21; refine (lower1 y.name _ hys HO2.out).mono ?_; rintro e w' ⟨rfl, rfl⟩)
            go_loopw [8] (fun i wq => ∃ m : Nat, i = .int .i64 m ∧ m ≤ j ∧ ∃ n, wq = W1.drewN n) (fun i _ => j - (intOf i).toNat)
            case atStart => exact ⟨0, rfl, Nat.zero_le _, n, rfl⟩
            case round =>
              obtain ⟨m, rfl, hm, n2, rfl⟩ := hrel
              by_cases hpm : m < j
              · obtain ⟨bz, oz, z, hA2, _, hdz, hxz, _⟩ := Ro.Ra.at_ HR2.out m (by omega)
                obtain ⟨z0, z1⟩ := range2 hxz
                have hzm : x.tk.attrs[m]'(by omega) = z := by
                  rw [List.drop_eq_getElem_cons (by omega)] at hdz
                  injection hdz
                have hez : some (⟨bz, oz, none⟩ : Addr) = some ⟨ba, oa, none⟩ := hA2.symm.trans HA.out
                injection hez with hez
                injection hez with hez1 hez2
                subst hez1 hez2
                have hap := apart_at HAT.out hpm hpj
                rw [hzm, HYJ.out] at hap
                have hnn := neq_L hap
                clear hdz hxz hzm hap hA2 z1
                go_wp2
                go_quiet (fail)
                go_wp2
                go_roundw
                case rel => exact ⟨m + 1, by go_num, by omega, _, rfl⟩
                case measure => simp [intOf]; omega
              · go_wp2
                go_roundw
                case rel => exact ⟨j + 1, by go_num, by omega, _, rfl⟩
                case measure => simp [intOf]; omega
          · go_wp2
            go_roundw
            case rel => exact ⟨k + 1, by go_num, by omega, below_dN HB3.out _⟩
            case measure => simp [intOf]; omega
      · have hne : x.tk.name.toList.isEmpty = false := not_empty hn
        rw [hk0] at f0
        rw [show x.tk.data = ⟨#[]⟩ from hd] at f2
        rw [hat] at f3
        rw [hsf] at f4
        have HBX := Lib.hid HB1.out; have HOK := Lib.hid hok
        clear hk0 hn hd hat hsf hok hxa HB1 HB2
        go_wp2_with (go_at_call 21; refine (lower1 x.tk.name _ hns HOK.out).mono ?_; rintro e w' ⟨rfl, rfl⟩)
        refine wp_loop_rounds 1 ?_
        rw [rounds_succ]
        go_wp2
        go_roundw
        case rel => exact ⟨k + 1, by go_num, by omega, HBX.out.alloc hsz _⟩
        case measure => simp [intOf]; omega
      · rw [hk0] at f0
        rw [show x.tk.name = ⟨#[]⟩ from hn] at f1
        rw [hat] at f3
        rw [hsf] at f4
        have HBX := Lib.hid HB1.out
        clear hk0 hn hat hsf hxa HB1 HB2
        go_wp2
        refine wp_loop_rounds 1 ?_
        rw [rounds_succ]
        go_wp2
        go_roundw
        case rel => exact ⟨k + 1, by go_num, by omega, HBX.out.alloc hsz _⟩
        case measure => simp [intOf]; omega
      · rw [hk0] at f0
        rw [show x.tk.name = ⟨#[]⟩ from hn] at f1
        rw [hat] at f3
        rw [hsf] at f4
        have HBX := Lib.hid HB1.out
        clear hk0 hn hat hsf hxa HB1 HB2
        go_wp2
        refine wp_loop_rounds 1 ?_
        rw [rounds_succ]
        go_wp2
        go_roundw
        case rel => exact ⟨k + 1, by go_num, by omega, HBX.out.alloc hsz _⟩
        case measure => simp [intOf]; omega
    · go_wp2_with fail
      refine (fixed_any _ (HT1.out.below hbel)).mono ?_
      rintro e w7 ⟨rfl, b7⟩
      go_wp2
      go_ret
      exact ⟨rfl, bt HB.out (bt hbel b7)⟩

end Go.Proofs.YtjhhhlomkfnniaaDoor.To
