/-
  Walk of stage 9's law LinkHides: it returns true.
-/
import Derived.Test.YtchholpiikeakaaLinkFixed
import Derived.Test.YtchholpiikeakaaLinkOpen
import Derived.Test.YtchholpiikeakaaSmall
import Derived.IntWalk
import Derived.Deep.CutBlock
import Derived.Deep.DeepCutAuto
import Derived.Deep.RegionHeld3
namespace Go.Proofs.Ytchholpiikeakaa.Lk
set_option maxRecDepth 100000
set_option linter.unusedSimpArgs false
set_option linter.unusedVariables false
open Go.RowKit Ba Fm Fo

/-- The byte that a place's number names: all of them are ignored. -/
def put3 (e : Nat) : UInt8 := if e = 0 then 9 else if e = 1 then 10 else 13
theorem put3_inn (e : Nat) : inn (put3 e) = true := by unfold put3; split <;> (try split) <;> rfl
theorem cell_put3 (w : World) (e : Nat) (he : e < 3) : (w.alloc (.cells #[.int .u8 9, .int .u8 10, .int .u8 13] 5)).cell? ⟨w.heap.size, e, none⟩ = some (.int .u8 ((put3 e).toNat : Int)) := by
  rw [World.cell?_alloc_at _ _ _ _ rfl]
  match e, he with
  | 0, _ => rfl
  | 1, _ => rfl
  | 2, _ => rfl

theorem strip_put (t : ByteArray) (k : Nat) (c : UInt8) (hk : k ≤ t.size) (hc : inn c = true) : stripL (L (t.extract 0 k ++ B [c] ++ t.extract k t.size)) = stripL (L t) := by
  rw [L_append, L_append, L_B, L_extract, L_end, List.drop_zero, Nat.sub_zero, strip_ins _ _ _ hc, List.take_append_drop]

theorem conv_one (w : World) (b : Nat) (c : UInt8) (h : w.cell? ⟨b, 0, none⟩ = some (.int .u8 (c.toNat : Int))) : (convert 28 9 (.slice (some ⟨b, 0, none⟩) 1 1)).run Try.prog w = .ok (.string (B [c])) w :=
  run_convert_bytes_back w _ _ _ ⟨b, 0, none⟩ 1 [c] Try.underlying28 Try.underlying5 Try.underlying9 fun j hj => by
    have : j = 0 := by simpa using hj
    subst this
    rw [WideShapes.add_plain]
    exact h

/-- The bytes, the first k of them in great letters. -/
def upK (l : List UInt8) (k : Nat) : List UInt8 := (l.take k).map up ++ l.drop k
theorem upK_len (l : List UInt8) (k : Nat) : (upK l k).length = l.length := by
  unfold upK
  rw [List.length_append, List.length_map, List.length_take, List.length_drop]
  omega
theorem upK_get (l : List UInt8) (k : Nat) (h : k < l.length) (h' : k < (upK l k).length) : (upK l k)[k] = l[k] := by
  have e : (upK l k)[k]? = some l[k] := by
    unfold upK
    have e0 : ((l.take k).map up).length = k := by rw [List.length_map, List.length_take]; omega
    rw [List.getElem?_append_right (by omega), e0, Nat.sub_self, List.getElem?_drop, Nat.add_zero, List.getElem?_eq_getElem h]
  rw [List.getElem?_eq_getElem h'] at e
  exact Option.some.inj e
theorem upK_set (l : List UInt8) (k : Nat) (h : k < l.length) : (upK l k).set k (up l[k]) = upK l (k + 1) := by
  unfold upK
  have e0 : ((l.take k).map up).length = k := by rw [List.length_map, List.length_take]; omega
  rw [List.set_append_right _ _ (by omega), e0, Nat.sub_self, List.take_succ_eq_append_getElem h, List.map_append, List.drop_eq_getElem_cons h, List.set_cons_zero, List.append_assoc]
  rfl
theorem upK_same (l : List UInt8) (k : Nat) (h : k < l.length) (hl : up l[k] = l[k]) : upK l k = upK l (k + 1) := by
  unfold upK
  rw [List.take_succ_eq_append_getElem h, List.map_append, List.drop_eq_getElem_cons h]
  simp [hl]
theorem up_yes (c : UInt8) (h1 : 97 ≤ c.toNat) (h2 : c.toNat ≤ 122) : ((up c).toNat : Int) = c.toNat - 32 := by
  unfold up
  rw [if_pos ⟨UInt8.le_iff_toNat_le.2 h1, UInt8.le_iff_toNat_le.2 h2⟩, UInt8.toNat_sub_of_le _ _ (UInt8.le_iff_toNat_le.2 (by have e : (32 : UInt8).toNat = 32 := rfl; omega))]
  have e : (32 : UInt8).toNat = 32 := rfl
  omega
theorem up_no (c : UInt8) (h : c.toNat < 97 ∨ 122 < c.toNat) : up c = c := by
  unfold up
  rw [if_neg]
  rintro ⟨h1, h2⟩
  have h1 := UInt8.le_iff_toNat_le.1 h1
  have h2 := UInt8.le_iff_toNat_le.1 h2
  have e1 : (97 : UInt8).toNat = 97 := rfl
  have e2 : (122 : UInt8).toNat = 122 := rfl
  omega
/-- All in great letters, or as they are. -/
def greatL (g : Bool) (l : List UInt8) : List UInt8 := if g = true then l.map up else l
theorem greatL_len (g : Bool) (l : List UInt8) : (greatL g l).length = l.length := by unfold greatL; split <;> simp
theorem great_scheme (g : Bool) (l : List UInt8) : schemeO (greatL g l) = schemeO l := by
  unfold greatL
  split
  · exact scheme_up l
  · rfl
theorem raw_below {w w' : World} {g : Nat} {l : List UInt8} (h : Raw w g l) (hb : Below w.heap.size w w') : Raw w' g l := by
  obtain ⟨cs, hg, rest⟩ := h
  have hlt : g < w.heap.size := (Array.getElem?_eq_some_iff.1 hg).1
  exact ⟨cs, (hb.block g hlt).trans hg, rest⟩
theorem cell1 (w : World) (x : Value) : (w.alloc (.cells #[x] 5)).cell? ⟨w.heap.size, 0, none⟩ = some x := by
  rw [World.cell?_alloc_at _ _ _ _ rfl]; rfl

set_option maxHeartbeats 4000000 in
theorem law_hides (s : ByteArray) (v : Value) (g : Bool) (l : List Int) (w : World) (hs : s.size ≤ 140737488351232) (hv : Iv w w.heap.size v l) (hl : l.length ≤ maxLen) :
    Calls Try.prog 5 #[.string s, v, .bool g] w fun e w' => e = .returned (.bool true) ∧ Below w.heap.size w w' := by
  unfold maxLen at hl
  obtain ⟨k0, hk1, hk2, -, hmin1⟩ := cut_any s.size 300 300 rfl w
  obtain ⟨u, hu⟩ : ∃ u, s.extract 0 k0 = u := ⟨_, rfl⟩
  have hus : u.size ≤ 300 := by rw [← hu]; exact Nat.le_trans (cut_le s k0) hk2
  have hul : u.size ≤ 140737488355328 := by omega
  have HU := Lib.hid hu
  clear hu
  obtain ⟨A, c, rfl, hlc, hcell⟩ := hv
  have HCE := Lib.hid hcell; clear hcell
  go_enter Try.func5, Try.ntmps5
  go_upto_region 2 with fail
  simp only [HU.out]
  clear hmin1
  go_upto_block 0 with fail
  go_cut [7] from 23 to 62 (fun sl wx => ∃ t : ByteArray, sl = .string t ∧ t.size ≤ 310 ∧ stripL (L t) = stripL (L u) ∧ Below w.heap.size w wx)
  case first =>
    go_wp2
    go_loopw [7, 8] (fun v i wr => ∃ (j : Nat) (t : ByteArray), v = .string t ∧ i = .int .i64 j ∧ j ≤ l.length ∧ j ≤ 10 ∧ t.size ≤ 300 + j ∧ stripL (L t) = stripL (L u) ∧ Below w.heap.size w wr) (fun _ i _ => l.length - (intOf i).toNat)
    case atStart => exact ⟨0, u, rfl, rfl, Nat.zero_le _, Nat.zero_le _, by omega, rfl, Below.refl _ _⟩
    case round =>
      obtain ⟨j, t, rfl, rfl, hj, hj10, hts, hst, hbel⟩ := hrel
      by_cases hp : j < l.length
      · by_cases hq : j < 10
        · obtain ⟨b, off, rfl, hb, hc⟩ := HCE.out (by omega)
          have hcj : wr.cell? ⟨b, off + j, none⟩ = some (.int .i64 l[j]) := (hbel.cell (p := ⟨b, off + j, none⟩) hb).trans (hc j hp)
          obtain ⟨a, ha, hax⟩ := Sm.and_small l[j] 65535 16 (by decide) (by decide)
          obtain ⟨a2, ha2, hax2⟩ := Sm.and_small (l[j] / 65536) 255 8 (by decide) (by decide)
          have hlp : (((65535 : Nat) : Int)) = 65535 := rfl
          have hlp2 : (((255 : Nat) : Int)) = 255 := rfl
          rw [hlp] at hax
          rw [hlp2] at hax2
          obtain ⟨k, hk⟩ : ∃ k, a % (t.size + 1) = k := ⟨_, rfl⟩
          obtain ⟨e, he⟩ : ∃ e, a2 % 3 = e := ⟨_, rfl⟩
          have hkt : k ≤ t.size := by have := Nat.mod_lt a (show 0 < t.size + 1 by omega); omega
          have he3 : e < 3 := by omega
          have y1 : (a : Int) % ((t.size : Int) + 1) = (k : Int) := by rw [← hk]; simp
          have y2 : (a2 : Int) % 3 = (e : Int) := by omega
          have hc3 := cell_put3 wr e he3
          have hbw : b < wr.heap.size := Nat.lt_of_lt_of_le hb hbel.size
          have hcj2 : (wr.alloc (.cells #[.int .u8 9, .int .u8 10, .int .u8 13] 5)).cell? ⟨b, off + j, none⟩ = some (.int .i64 l[j]) := (World.cell?_alloc_lt wr _ _ hbw).trans hcj
          have n1 : (j : Int) < (l.length : Int) := by omega
          have n2 : (0 : Int) ≤ (e : Int) := by omega
          have n3 : (e : Int) < 3 := by omega
          clear hlp hlp2 hk he hc
          have hinn := put3_inn e
          obtain ⟨d, hd⟩ : ∃ d, put3 e = d := ⟨_, rfl⟩
          rw [hd] at hc3 hinn
          have HS := Lib.hid ((strip_put t k d hkt hinn).trans hst)
          have sz : (t.extract 0 k ++ B [d] ++ t.extract k t.size).size ≤ 300 + (j + 1) := by
            rw [← size_L, L_append, L_append, L_B, L_extract, L_end, List.drop_zero, Nat.sub_zero, List.length_append, List.length_append, List.length_take, List.length_drop, size_L, List.length_singleton]
            omega
          have SZ := Lib.hid sz
          have hb1 : Below w.heap.size w (wr.alloc (.cells #[.int .u8 9, .int .u8 10, .int .u8 13] 5)) := hbel.alloc hbel.size _
          have HB := Lib.hid hb1
          have sx1 : (t.extract 0 k).size ≤ 310 := Nat.le_trans (size_extract _ _ _) (by omega)
          have sx3 : (t.extract k t.size).size ≤ 310 := Nat.le_trans (size_extract _ _ _) (by omega)
          have sx2 : (B [d]).size ≤ 1 := by rw [size_B]; exact Nat.le_refl _
          have k1 : (0 : Int) ≤ (k : Int) := by omega
          have k2 : (k : Int) ≤ t.size := by omega
          clear hbel hst hinn hd sz hb1
          go_wp2
          simp only [y1]
          clear hc3 hcj2 hcj hax hax2 y1 y2 n1 n2 n3
          obtain ⟨WA, hWA⟩ : ∃ WA, wr.alloc (.cells #[.int .u8 9, .int .u8 10, .int .u8 13] 5) = WA := ⟨_, rfl⟩
          rw [hWA] at HB
          rw [hWA]
          clear hWA
          have hcvA := conv_one (WA.alloc (.cells #[.int .u8 (d.toNat : Int)] 5)) WA.heap.size d (cell1 _ _)
          have hcvB := conv_one (WA.alloc (.cells #[.int .u8 (d.toNat : Int)] 5)).drew WA.heap.size d (cell1 WA _)
          have hcvC := conv_one (WA.drew.alloc (.cells #[.int .u8 (d.toNat : Int)] 5)) WA.heap.size d (cell1 WA.drew _)
          go_region
          all_goals go_wp2
          all_goals go_roundw
          case rel =>
            have hb2 := HB.out.alloc HB.out.size (.cells #[.int .u8 (d.toNat : Int)] 5)
            exact ⟨j + 1, _, rfl, by go_num, by omega, by omega, SZ.out, HS.out, ⟨hb2.os, hb2.tape, hb2.output, hb2.size, hb2.block⟩⟩
          case measure => simp [intOf]; omega
        · have HS := Lib.hid hst; have HB := Lib.hid hbel
          clear hst hbel
          go_wp2
          go_meet
          exact ⟨t, rfl, by omega, HS.out, HB.out⟩
      · have HS := Lib.hid hst; have HB := Lib.hid hbel
        clear hst hbel
        go_wp2
        go_meet
        exact ⟨t, rfl, by omega, HS.out, HB.out⟩
  case rest =>
  obtain ⟨t, rfl, hts, hst, hbw⟩ := hcut
  have hcv := Lib.run_convert_string_bytes (P := Try.prog) wc 9 28 5 t (u := .string) Try.underlying9 Try.underlying28 Try.underlying5
  have hr0 := Raw.new wc t
  have hb0 := below_bytesWorld wc t
  have htl : t.size ≤ 140737488355328 := by omega
  obtain ⟨G, hG⟩ : ∃ G, wc.heap.size = G := ⟨_, rfl⟩
  generalize Lib.bytesWorld wc 5 t = w1 at *
  generalize grownCap wc t.size 0 5 = c1 at *
  rw [hG] at hr0
  have hb1 := bt hbw hb0
  have hGw : w.heap.size ≤ G := by rw [← hG]; exact hbw.size
  have HS := Lib.hid hst
  clear hst hbw hb0 HCE
  go_upto_block 2 with fail
  go_cut [12] from 65 to 91 (fun _ wx => Raw wx G (greatL g (L t)) ∧ Below w.heap.size w wx)
  case first =>
    go_wp2
    clear hcv
    cases g with
    | false =>
      go_loopw [12] (fun i wr => ∃ k : Nat, i = .int .i64 k ∧ k ≤ t.size ∧ Raw wr G (L t) ∧ Below w.heap.size w wr) (fun i _ => t.size - (intOf i).toNat)
      case atStart => exact ⟨0, rfl, Nat.zero_le _, hr0, hb1⟩
      case round =>
        clear hr0 hb1
        obtain ⟨k, rfl, hks, hraw, hbel⟩ := hrel
        by_cases hp : k < t.size
        · have HR := Lib.hid hraw; have HB := Lib.hid hbel
          clear hraw hbel
          go_wp2
          go_roundw
          case rel => exact ⟨k + 1, by go_num, by omega, HR.out, HB.out⟩
          case measure => simp [intOf]; omega
        · have HR := Lib.hid hraw; have HB := Lib.hid hbel
          clear hraw hbel
          go_wp2
          go_meet
          exact ⟨HR.out, HB.out⟩
    | true =>
      go_loopw [12] (fun i wr => ∃ k : Nat, i = .int .i64 k ∧ k ≤ t.size ∧ Raw wr G (upK (L t) k) ∧ Below w.heap.size w wr) (fun i _ => t.size - (intOf i).toNat)
      case atStart => exact ⟨0, rfl, Nat.zero_le _, hr0, hb1⟩
      case round =>
        clear hr0 hb1
        obtain ⟨k, rfl, hks, hraw, hbel⟩ := hrel
        by_cases hp : k < t.size
        · have hpl : k < (L t).length := by rw [size_L]; exact hp
          have hpl' : k < (upK (L t) k).length := by rw [upK_len]; exact hpl
          have hcell := hraw.cell k hpl'
          have hfz := hraw.frozen k hpl'
          rw [upK_get _ _ hpl] at hcell
          have hcell' : wr.cell? ⟨G, k, none⟩ = some (.int .u8 (t[k].toNat : Int)) := hcell
          clear hcell
          have hc := t[k].toNat_lt
          by_cases h1 : (97 : Int) ≤ t[k].toNat
          · by_cases h2 : (t[k].toNat : Int) ≤ 122
            · have hl : ((up t[k]).toNat : Int) = t[k].toNat - 32 := up_yes _ (by omega) (by omega)
              have hset := hraw.set k (up t[k])
              have hls : (upK (L t) k).set k (up t[k]) = upK (L t) (k + 1) := upK_set (L t) k hpl
              rw [hls, hl] at hset
              have hbs : Below w.heap.size w (wr.setCell ⟨G, k, none⟩ (.int .u8 (t[k].toNat - 32))) := hbel.setCell hGw _
              have HS2 := Lib.hid hset; have HBS := Lib.hid hbs; clear hset hl hls hbs hraw hbel
              go_wp2
              go_roundw
              case rel => exact ⟨k + 1, by go_num, by omega, HS2.out, HBS.out⟩
              case measure => simp [intOf]; omega
            · have hsame := upK_same (L t) k hpl (up_no _ (.inr (by show 122 < (t[k]).toNat; omega)))
              rw [hsame] at hraw
              have HR := Lib.hid hraw; have HB := Lib.hid hbel
              clear hsame hraw hbel
              go_wp2
              go_roundw
              case rel => exact ⟨k + 1, by go_num, by omega, HR.out, HB.out⟩
              case measure => simp [intOf]; omega
          · have hsame := upK_same (L t) k hpl (up_no _ (.inl (by show (t[k]).toNat < 97; omega)))
            rw [hsame] at hraw
            have HR := Lib.hid hraw; have HB := Lib.hid hbel
            clear hsame hraw hbel
            go_wp2
            go_roundw
            case rel => exact ⟨k + 1, by go_num, by omega, HR.out, HB.out⟩
            case measure => simp [intOf]; omega
        · have hfin : upK (L t) k = greatL true (L t) := by
            unfold upK greatL
            rw [List.take_of_length_le (by rw [size_L]; omega), List.drop_eq_nil_of_le (by rw [size_L]; omega), List.append_nil]
            rfl
          rw [hfin] at hraw
          have HR := Lib.hid hraw; have HB := Lib.hid hbel
          clear hfin hraw hbel
          go_wp2
          go_meet
          exact ⟨HR.out, HB.out⟩
  case rest =>
  obtain ⟨hraw, hbel⟩ := hcut
  clear hr0 hb1 hcv
  obtain ⟨m, hm⟩ : ∃ m, greatL g (L t) = m := ⟨_, rfl⟩
  have hml : m.length = t.size := by rw [← hm, greatL_len, size_L]
  have hsch : schemeO m = schemeO (L u) := by
    rw [← hm, great_scheme]
    exact scheme_strip HS.out
  rw [hm] at hraw
  obtain ⟨x, hx⟩ : ∃ x, B m = x := ⟨_, rfl⟩
  have hLx : L x = m := by rw [← hx, L_B]
  have hxs : x.size ≤ 310 := by rw [← size_L, hLx, hml]; exact hts
  obtain ⟨z, hz⟩ : ∃ z : ByteArray, (⟨#[1, 32]⟩ : ByteArray) ++ x ++ ⟨#[32, 31]⟩ = z := ⟨_, rfl⟩
  have q1 : (⟨#[1, 32]⟩ : ByteArray).size = 2 := rfl
  have q2 : (⟨#[32, 31]⟩ : ByteArray).size = 2 := rfl
  have hzl : z.size ≤ 140737488355328 := by rw [← hz, size_append, size_append]; omega
  have hxl : x.size ≤ 140737488355328 := by omega
  have hzs : schemeO (L z) = schemeO (L u) := by
    rw [← hz, L_append, L_append, hLx, ← hsch]
    exact scheme_strip (strip_around m (show ∀ c ∈ L ⟨#[1, 32]⟩, edge c = true by decide) (show ∀ c ∈ L ⟨#[32, 31]⟩, edge c = true by decide))
  obtain ⟨y, hy⟩ : ∃ y, B (schemeL (L u)) = y := ⟨_, rfl⟩
  obtain ⟨q, hq⟩ : ∃ q, hasL (L u) = q := ⟨_, rfl⟩
  obtain ⟨r, hr⟩ : ∃ r, scriptL (L u) = r := ⟨_, rfl⟩
  have hy2 : B (schemeL (L z)) = y := by unfold schemeL; rw [hzs]; exact hy
  have hq2 : hasL (L z) = q := by unfold hasL; rw [hzs]; exact hq
  have hr2 : scriptL (L x) = r := by
    have e : schemeO (L x) = schemeO (L u) := by rw [hLx]; exact hsch
    unfold scriptL schemeL
    rw [e]
    exact hr
  have hst : ∀ w', Raw w' G m → (convert 28 9 (.slice (some ⟨G, 0, none⟩) t.size c1)).run Try.prog w' = .ok (.string x) w' := fun w' h => by
    have k := h.string (c := c1)
    rw [hml, hx] at k
    exact k
  have HY := Lib.hid hy; have HQ := Lib.hid hq; have HR := Lib.hid hr; have HY2 := Lib.hid hy2; have HQ2 := Lib.hid hq2; have HR2 := Lib.hid hr2; have HZ := Lib.hid hz; have HST := Lib.hid hst; have HW := Lib.hid hraw; have HB := Lib.hid hbel
  clear hy hq hr hy2 hq2 hr2 hz hst hraw hbel hm hml hsch hx hLx hzs q1 q2 HS
  have hcv := HST.out _ HW.out
  go_wp2_with fail
  refine (scheme1 u wc hul y q HY.out HQ.out).mono ?_
  rintro e w2 ⟨rfl, b2⟩
  have hw2 := raw_below HW.out b2
  have hcv2 := HST.out _ hw2
  have HB2 := Lib.hid (bt HB.out b2); have HW2 := Lib.hid hw2
  clear hcv b2 hw2
  go_wp2_with fail
  rw [HZ.out]
  refine (scheme1 z w2 hzl y q HY2.out HQ2.out).mono ?_
  rintro e w3 ⟨rfl, b3⟩
  have hw3 := raw_below HW2.out b3
  have HB3 := Lib.hid (bt HB2.out b3); have HW3 := Lib.hid hw3
  clear hcv2 b3 hw3
  have hcv3 := HST.out _ HW3.out
  have HC3 := Lib.hid hcv3; clear hcv3
  go_wp2
  cases q <;> cases r
  all_goals
    go_region_held3 (fun w' => (convert 28 9 (.slice (some ⟨G, 0, none⟩) t.size c1)).run Try.prog w' = .ok (.string x) w') (first | exact c6 | exact c5 | exact c4 | exact HC3.out | exact HST.out _ HW3.out | go_keep) (first
      | (go_at_call 13; refine (fixed9_any w5).mono ?_; rintro e w6 ⟨rfl, b6⟩; have hw6 := raw_below HW5.out b6; have c6 := HST.out _ hw6; have HB6 := Lib.hid (bt HB5.out b6); clear b6 hw6)
      | (go_at_call 18; refine (script1 x w4 hxl _ HR2.out).mono ?_; rintro e w5 ⟨rfl, b5⟩; have hw5 := raw_below HW4.out b5; have c5 := HST.out _ hw5; have HB5 := Lib.hid (bt HB4.out b5); have HW5 := Lib.hid hw5; clear b5 hw5)
      | (go_at_call 18; refine (script1 u _ hul _ HR.out).mono ?_; rintro e w4 ⟨rfl, b4⟩; have hw4 : Raw w4 G m := raw_below HW3.out (show Below w3.heap.size w3 w4 from ⟨b4.os, b4.tape, b4.output, b4.size, b4.block⟩); have c4 := HST.out _ hw4; have HB4 := Lib.hid (show Below w.heap.size w w4 from bt HB3.out ⟨b4.os, b4.tape, b4.output, b4.size, b4.block⟩); have HW4 := Lib.hid hw4; clear b4 hw4))
    all_goals go_wp2
    all_goals go_ret
    all_goals exact ⟨rfl, HB6.out⟩

end Go.Proofs.Ytchholpiikeakaa.Lk
