/-
  Walk of stage 6's law TokenWrites: it returns true. Ahead of it: bound, and the reference's tagged and Write.
-/
import Derived.Test.YtjhhhlomkfnniaaDoorTokLawsB
import Derived.Test.YtjhhhlomkfnniaaDoorTokBoxes
import Derived.Test.YtjhhhlomkfnniaaDoorTokBulk
import Derived.Test.YtjhhhlomkfnniaaDoorRefsWalkJ
import Derived.Test.YtjhhhlomkfnniaaDoorNamesRaw
import Derived.Deep.CutBlock
import Derived.Deep.DeepCutAuto
import Derived.Deep.RegionHeld3
namespace Go.Proofs.YtjhhhlomkfnniaaDoor.To
set_option linter.unusedSimpArgs false
set_option linter.unusedVariables false
open Go.RowKit Ba Fm Fo Tm Sm Nm Na
open Ro (below_new At acells len_acells Sh Ra range2 range5)
open Re (Tab)
open Rm (dec esc)

theorem Ra.take {w : World} {N : Nat} {A : Option Addr} {l : List At} (h : Ra w N A l) (m : Nat) : Ra w N A (l.take m) := fun h0 => by
  rw [List.length_take] at h0
  obtain ⟨b, off, e, hb, hc⟩ := h (by omega)
  refine ⟨b, off, e, hb, fun j hj => ?_⟩
  rw [List.length_take] at hj
  have := hc j (by omega)
  rw [List.getElem_take]
  exact this
theorem bulkA_take (l : List At) (m : Nat) : bulkA (l.take m) ≤ bulkA l := by
  have h : bulkA l = bulkA (l.take m) + bulkA (l.drop m) := by
    unfold bulkA
    rw [← List.sum_append, ← List.map_append, List.take_append_drop]
  omega
/-- A token with its first attributes alone. -/
def cutA (x : Tw) (m : Nat) : Tw := ⟨⟨x.tk.kind, x.tk.name, x.tk.data, x.tk.attrs.take m, x.tk.self⟩, x.A, x.c⟩
theorem Att.cutA {w : World} {N : Nat} {x : Tw} (h : Att w N x) (m : Nat) : Att w N (cutA x m) :=
  ⟨Nat.le_trans (by show (x.tk.attrs.take m).length ≤ x.tk.attrs.length; rw [List.length_take]; omega) h.1, h.2.1, h.2.2.1, Ra.take h.2.2.2.1 m, fun a ha => h.2.2.2.2 a (List.mem_of_mem_take ha)⟩
theorem bulk_cutA (x : Tw) (m : Nat) : bulkT (cutA x m).tk ≤ bulkT x.tk := by
  have h1 := bulkA_take x.tk.attrs m
  have h2 : (x.tk.attrs.take m).length ≤ x.tk.attrs.length := by rw [List.length_take]; omega
  show x.tk.name.size + x.tk.data.size + bulkA (x.tk.attrs.take m) + (x.tk.attrs.take m).length ≤ x.tk.name.size + x.tk.data.size + bulkA x.tk.attrs + x.tk.attrs.length
  omega

theorem bulk_take (l : List Tw) (k : Nat) : bulk (tks (l.take k)) ≤ bulk (tks l) := by
  have h : bulk (tks l) = bulk (tks (l.take k)) + bulk (tks (l.drop k)) := by
    rw [← bulk_append, ← tks_append, List.take_append_drop]
  omega
theorem bound_fin {N k : Nat} {w : World} {v : Value} {l o : List Tw} (ho : Ow N w v o) (hl : o.length ≤ 30) (hb : bulk (tks o) ≤ bulk (tks (l.take k))) : ∃ t, Tv w v t ∧ t.length ≤ 30 ∧ bulk t ≤ bulk (tks l) := by
  obtain ⟨A, c, e, hc, _, _, hr⟩ := ho.form
  exact ⟨tks o, ⟨A, c, o, by rw [len_tks]; exact e, by rw [len_tks]; exact hc, hr, rfl⟩, by rw [len_tks]; exact hl, Nat.le_trans hb (bulk_take l k)⟩

set_option maxRecDepth 100000 in
set_option maxHeartbeats 8000000 in
theorem bound_any (A : Option Addr) (c : Nat) (l : List Tw) (w : World) (hc : l.length ≤ c) (hcm : c ≤ maxLen) (hr : Rr w w.heap.size A l) :
    Calls Tryd.prog 18 #[.slice A l.length c] w fun e w' => ∃ V t, e = .returned V ∧ Tv w' V t ∧ t.length ≤ 30 ∧ bulk t ≤ bulk (tks l) ∧ Below w.heap.size w w' := by
  have hll : l.length ≤ 9223372036854775807 := by unfold maxLen at hcm; omega
  have hmade := Ow.made w
  have hb0 := below_new w (.cells #[] 35)
  have HR := Lib.hid hr; have HM := Lib.hid hmade; have HB0 := Lib.hid hb0; clear hr hmade hb0
  go_enter Tryd.func18, Tryd.ntmps18
  go_wp2_with fail
  go_loopw [3, 4, 5] (fun v3 v4 _ wr => ∃ k o, v4 = .int .i64 ((k : Nat) : Int) ∧ k ≤ l.length ∧ k ≤ 30 ∧ Ow w.heap.size wr v3 o ∧ o.length ≤ k ∧ bulk (tks o) ≤ bulk (tks (l.take k)) ∧ Below w.heap.size w wr) (fun _ v4 _ _ => 30 - (intOf v4).toNat)
  case atStart => exact ⟨0, [], rfl, Nat.zero_le _, Nat.zero_le _, HM.out, Nat.le_refl _, Nat.le_refl _, HB0.out⟩
  case round =>
    clear HM HB0
    obtain ⟨k, o, rfl, hkl, hk30, ho, hol, hbk, hb⟩ := hrel
    by_cases hp : k < l.length
    · have hlt : decide ((k : Int) < l.length) = true := decide_eq_true (by omega)
      by_cases hp3 : k < 30
      · have hlt3 : decide ((k : Int) < 30) = true := decide_eq_true (by omega)
        obtain ⟨bb, off, x, hA, hbN, hdrop, hrange, hatt, _⟩ := (HR.out.below hb).at_ k hp
        obtain ⟨f0, f1, f2, f3, f4⟩ := range5 hrange
        obtain ⟨m, hm1, hm2, hm3, -⟩ := min_any x.tk.attrs.length 6 6 rfl w
        have hmin : ∀ W ts t, (Builtin.min_ ts t #[.int .i64 x.tk.attrs.length, .int .i64 6]).run Tryd.prog W = .ok (.int .i64 m) W := fun W ts t => by
          obtain ⟨m', _, _, hm', h⟩ := min_any x.tk.attrs.length 6 6 rfl W
          obtain rfl : m' = m := by omega
          exact h ts t
        subst hA
        have hac := hatt.1
        have hat0 := hatt.cutA m
        have hbl0 := bulk_cutA x m
        obtain ⟨ys, hys⟩ : ∃ ys, x.tk.attrs.take m = ys := ⟨_, rfl⟩
        obtain rfl : m = ys.length := by rw [← hys, List.length_take]; omega
        have hat1 : Att wr w.heap.size ⟨⟨x.tk.kind, x.tk.name, x.tk.data, ys, x.tk.self⟩, x.A, x.c⟩ := by rw [← hys]; exact hat0
        have hbl1 : bulkT (⟨x.tk.kind, x.tk.name, x.tk.data, ys, x.tk.self⟩ : Tk) ≤ bulkT x.tk := by rw [← hys]; exact hbl0
        have i1 : (0 : Int) ≤ (ys.length : Int) := by omega
        have i2 : (ys.length : Int) ≤ (x.c : Int) := by omega
        have hx5 : Tb (wr.alloc (.cells #[.int .i64 x.tk.kind, .string x.tk.name, .string x.tk.data, .slice x.A ys.length x.c, .bool x.tk.self] 35)) wr.heap.size ⟨⟨x.tk.kind, x.tk.name, x.tk.data, ys, x.tk.self⟩, x.A, x.c⟩ := Tb.new wr ⟨⟨x.tk.kind, x.tk.name, x.tk.data, ys, x.tk.self⟩, x.A, x.c⟩
        have hb5 := below_new wr (.cells #[.int .i64 x.tk.kind, .string x.tk.name, .string x.tk.data, .slice x.A ys.length x.c, .bool x.tk.self] 35)
        have ho5 := ho.below hb5
        have hat5 : Att (wr.alloc (.cells #[.int .i64 x.tk.kind, .string x.tk.name, .string x.tk.data, .slice x.A ys.length x.c, .bool x.tk.self] 35)) w.heap.size ⟨⟨x.tk.kind, x.tk.name, x.tk.data, ys, x.tk.self⟩, x.A, x.c⟩ := hat1.below hb5 hb.size
        have hbw5 := bt hb hb5
        have hol2 : o.length ≤ 4000000000 := by omega
        have htk : bulk (tks (l.take (k + 1))) = bulk (tks (l.take k)) + bulkT x.tk := by
          have hgk : l[k]? = some x := Ro.getElem_of_drop hdrop
          have : l.take (k + 1) = l.take k ++ [x] := by
            rw [List.take_succ_eq_append_getElem hp]
            congr 2
            rw [List.getElem?_eq_getElem hp] at hgk
            exact Option.some.inj hgk
          rw [this, tks_append]
          unfold bulk
          rw [List.map_append, List.sum_append]
          simp [tks]
        have HO := Lib.hid ho5; have HBK := Lib.hid hbk; have HB := Lib.hid hbw5; have HX5 := Lib.hid hx5; have HAT5 := Lib.hid hat5; have HBL := Lib.hid hbl1; have HTK := Lib.hid htk
        clear ho hbk hb hatt hdrop hrange hm3 hat0 hbl0 hys hat1 hbl1 hx5 hb5 ho5 hat5 hbw5 htk
        obtain ⟨q0, q1, q2, q3, q4⟩ := HX5.out.c
        go_upto_region 7 with fail
        generalize wr.alloc (.cells #[.int .i64 x.tk.kind, .string x.tk.name, .string x.tk.data, .slice x.A ys.length x.c, .bool x.tk.self] 35) = W5 at *
        have hZ5 : w.heap.size ≤ W5.heap.size := HB.out.size
        go_wp2_with (at_builtin; go_loud (refine app_tok2 W5 rfl (.tmp 29) (.tmp 31) rfl w.heap.size u3 o ⟨⟨x.tk.kind, x.tk.name, x.tk.data, ys, x.tk.self⟩, x.A, x.c⟩ rfl HO.out (HAT5.out.more hZ5) (HAT5.out.apart) W5.heap.size rfl rfl hol2 hZ5 ?_); intro v6 w6 how hk hf hg; obtain ⟨A6, c6, rfl⟩ := form1 how; have HK6 := Lib.hid hk; have HO6 := Lib.hid how; clear hk hf hg how q0 q1 q2 q3 q4)
        go_roundw
        case rel =>
          refine ⟨k + 1, _, by go_num, by omega, by omega, HO6.out, by rw [List.length_append]; simp only [List.length_cons, List.length_nil]; omega, ?_, HK6.out _ HB.out⟩
          rw [HTK.out, tks_append, bulk_append, show tks [(⟨⟨x.tk.kind, x.tk.name, x.tk.data, ys, x.tk.self⟩, x.A, x.c⟩ : Tw)] = [⟨x.tk.kind, x.tk.name, x.tk.data, ys, x.tk.self⟩] from rfl, bulk_one]
          exact Nat.add_le_add HBK.out HBL.out
        case measure => simp [intOf]; omega
      · have hlt3 : decide ((k : Int) < 30) = false := decide_eq_false (by omega)
        have hfin : ∃ t, Tv wr u3 t ∧ t.length ≤ 30 ∧ bulk t ≤ bulk (tks l) := bound_fin ho (by omega) hbk
        have HF := Lib.hid hfin; have HB := Lib.hid hb; clear ho hb hbk hfin
        go_wp2
        go_ret
        obtain ⟨t, h1, h2, h3⟩ := HF.out
        exact ⟨_, t, rfl, h1, h2, h3, HB.out⟩
    · have hlt : decide ((k : Int) < l.length) = false := decide_eq_false (by omega)
      have hfin : ∃ t, Tv wr u3 t ∧ t.length ≤ 30 ∧ bulk t ≤ bulk (tks l) := bound_fin ho (by omega) hbk
      have HF := Lib.hid hfin; have HB := Lib.hid hb; clear ho hb hbk hfin
      go_wp2
      go_ret
      obtain ⟨t, h1, h2, h3⟩ := HF.out
      exact ⟨_, t, rfl, h1, h2, h3, HB.out⟩

end Go.Proofs.YtjhhhlomkfnniaaDoor.To

namespace Go.Proofs.YtjhhhlomkfnniaaDoor.To
set_option linter.unusedSimpArgs false
set_option linter.unusedVariables false
open Go.RowKit Ba Fm Fo Tm Sm Nm Na
open Ro (below_new At acells len_acells Sh Ra range2 range5)
open Re (Tab write_true write_false)
open Rm (dec esc)

set_option maxRecDepth 100000 in
set_option maxHeartbeats 8000000 in
theorem tagged_any (op : ByteArray) (x : Tw) (N : Nat) (w : World) (hx : Att w N x) (hN : N ≤ w.heap.size) (hk : bulkT x.tk ≤ 10000000) (hop : op.size ≤ 10) (W : List UInt8)
    (hW : L op ++ (L x.tk.name ++ (x.tk.attrs.flatMap wAttr ++ ((if x.tk.self = true then [32, 47] else []) ++ [62]))) = W) :
    Calls Tryd.prog 40 #[.string op, tokV x] w fun e w' => e = .returned (.string (B W)) ∧ Below w.heap.size w w' := by
  have hk1 : x.tk.name.size ≤ 10000000 := by unfold bulkT at hk; omega
  have hk2 : bulkA x.tk.attrs ≤ 10000000 := by unfold bulkT at hk; omega
  have hk3 : x.tk.attrs.length ≤ 10000000 := by unfold bulkT at hk; omega
  have hk4 := len_wAttrs x.tk.attrs
  have ht := Tb.new w x
  have hb := below_new w (tokO x)
  have hlen : (x.tk.attrs.flatMap wAttr).length ≤ 100000000 := by omega
  have HX := Lib.hid hx; have HT := Lib.hid ht; have HB := Lib.hid hb; have HW := Lib.hid hW
  obtain ⟨y0, y1, y2, y3, y4⟩ := ht.c
  clear hx ht hb hW
  go_enter Tryd.func40, Tryd.ntmps40
  go_wp2_with fail
  obtain ⟨g, hg⟩ : ∃ g, w.heap.size = g := ⟨_, rfl⟩
  rw [hg] at HT ⊢
  clear y0 y1 y2 y3 y4
  go_loopw [5, 6] (fun v5 v6 wr => ∃ k u, v5 = .string u ∧ v6 = .int .i64 ((k : Nat) : Int) ∧ k ≤ x.tk.attrs.length ∧ L u = L op ++ (L x.tk.name ++ (x.tk.attrs.take k).flatMap wAttr) ∧ Tb wr g x ∧ Below w.heap.size w wr) (fun _ v6 _ => x.tk.attrs.length - (intOf v6).toNat)
  case atStart => exact ⟨0, op ++ x.tk.name, rfl, rfl, Nat.zero_le _, by rw [L_append]; simp, HT.out, HB.out⟩
  case round =>
    clear HT HB
    obtain ⟨k, u, rfl, rfl, hkl, hu, ht, hb⟩ := hrel
    obtain ⟨y0, y1, y2, y3, y4⟩ := ht.c
    by_cases hp : k < x.tk.attrs.length
    · have hlt : decide ((k : Int) < x.tk.attrs.length) = true := decide_eq_true (by omega)
      obtain ⟨b0, off0, y, hA, hb0, hdy, hry, hym⟩ := Ro.Ra.at_ (Ro.Ra.below (Ro.Ra.more HX.out.2.2.2.1 hN) hb) k hp
      rw [hA] at y3
      have hy : x.tk.attrs[k] = y := by
        rw [List.drop_eq_getElem_cons hp] at hdy
        injection hdy
      obtain ⟨f0, f1⟩ := range2 hry
      have hsl := sum_le x.tk.attrs k hp
      have hat := attr_take x.tk.attrs k hp
      have hbk := bulk_at x.tk.attrs k hp
      rw [hy] at hsl hat hbk
      have hus : u.size ≤ 200000000 := by
        have := congrArg List.length hu
        rw [size_L, List.length_append, List.length_append, size_L, size_L] at this
        omega
      have hys : y.value.size ≤ 10000000 := by omega
      have hyn : y.name.size ≤ 10000000 := by omega
      have hes := (Rm.len_esc true (L y.value)).2.1
      rw [size_L] at hes
      have hb0w : b0 < wr.heap.size := Nat.lt_of_lt_of_le hb0 hb.size
      have hbe : (B (esc true (L y.value))).size ≤ 60000000 := by rw [size_B]; omega
      have s1 : ¬ 9223372036854775807 < 1 + y.name.size := by omega
      have s2 : ¬ 9223372036854775807 < 1 + y.name.size + 2 := by omega
      have s3 : ¬ 9223372036854775807 < 1 + y.name.size + 2 + (B (esc true (L y.value))).size := by omega
      have s4 : ¬ 9223372036854775807 < 1 + y.name.size + 2 + (B (esc true (L y.value))).size + 1 := by omega
      have s5 : ¬ 9223372036854775807 < u.size + (1 + y.name.size + 2 + (B (esc true (L y.value))).size + 1) := by omega
      have HA := Lib.hid hA
      have HU := Lib.hid hu; have HTB := Lib.hid ht; have HB := Lib.hid hb; have HAT := Lib.hid hat; clear hu ht hb hat hdy hry hym hy hsl hbk hA y0 y1 y2 y4
      go_upto_region 5 with fail
      go_region_held3 (fun w' => w'.cell? ⟨g, 3, none⟩ = some (.slice (some ⟨b0, off0, none⟩) x.tk.attrs.length x.c) ∧ w'.cell? ⟨b0, off0 + k * 2, none⟩ = some (.string y.name) ∧ w'.cell? ⟨b0, off0 + k * 2 + 1, none⟩ = some (.string y.value)) (first | exact ⟨d0, d1, d2⟩ | exact ⟨y3, f0, f1⟩ | go_keep) (first
        | (go_at_call 39; refine (write_true y.value wr.drew hys).mono ?_; rintro e w4 ⟨rfl, hb4⟩; have hx4 := (show Tb wr.drew g x from HTB.out).below hb4; have d0 := hx4.c.2.2.2.1; rw [HA.out] at d0; have d1 := (hb4.cell (p := ⟨b0, off0 + k * 2, none⟩) hb0w).trans f0; have d2 := (hb4.cell (p := ⟨b0, off0 + k * 2 + 1, none⟩) hb0w).trans f1; have HX4 := Lib.hid hx4; have HB4 := Lib.hid hb4; clear hx4 hb4))
      go_wp2
      go_roundw
      case rel =>
        refine ⟨k + 1, _, rfl, by go_num, by omega, ?_, HX4.out, bt HB.out (show Below wr.heap.size wr w4 from ⟨HB4.out.os, HB4.out.tape, HB4.out.output, HB4.out.size, HB4.out.block⟩)⟩
        rw [HAT.out, L_append, HU.out, L_append, L_append, L_append, L_append, L_B]
        show _ ++ ([32] ++ L y.name ++ [61, 34] ++ esc true (L y.value) ++ [34]) = _ ++ (_ ++ (_ ++ ([32] ++ (L y.name ++ ([61, 34] ++ (esc true (L y.value) ++ [34]))))))
        simp only [List.append_assoc]
      case measure => simp [intOf]; omega
    · have hlt : decide ((k : Int) < x.tk.attrs.length) = false := decide_eq_false (by omega)
      rw [List.take_of_length_le (by omega)] at hu
      have hus : u.size ≤ 200000000 := by
        have := congrArg List.length hu
        rw [size_L, List.length_append, List.length_append, size_L, size_L] at this
        omega
      have HU := Lib.hid hu; have HB := Lib.hid hb; clear hu hb
      cases hself : x.tk.self with
      | true =>
        rw [hself] at y4
        have hfin : u ++ ⟨#[32, 47]⟩ ++ ⟨#[62]⟩ = B W := by
          refine B_of ?_
          rw [← HW.out, L_append, L_append, HU.out, hself, if_pos rfl]
          show _ ++ [32, 47] ++ [62] = _
          simp only [List.append_assoc]
        have HF := Lib.hid hfin; clear hfin hself
        go_wp2
        go_ret
        exact ⟨ret_str HF.out, HB.out⟩
      | false =>
        rw [hself] at y4
        have hfin : u ++ ⟨#[62]⟩ = B W := by
          refine B_of ?_
          rw [← HW.out, L_append, HU.out, hself, if_neg (by simp)]
          show _ ++ [62] = _
          simp only [List.append_assoc]
          rfl
        have HF := Lib.hid hfin; clear hfin hself
        go_wp2
        go_ret
        exact ⟨ret_str HF.out, HB.out⟩

end Go.Proofs.YtjhhhlomkfnniaaDoor.To

namespace Go.Proofs.YtjhhhlomkfnniaaDoor.To
set_option linter.unusedSimpArgs false
set_option linter.unusedVariables false
open Go.RowKit Ba Fm Fo Tm Sm Nm Na
open Ro (below_new At acells len_acells Sh Ra range2 range5)
open Re (Tab write_true write_false)
open Rm (dec esc)

/-- Is the token ahead of a place a start tag of an element with text as it stands? -/
def rawAt (l : List Tw) : Nat → Bool
  | 0 => false
  | k + 1 => match l[k]? with
    | some x => rawT x.tk
    | none => false
theorem rawAt_next {l : List Tw} {k : Nat} {x : Tw} (h : l[k]? = some x) : rawAt l (k + 1) = rawT x.tk := by
  show (match l[k]? with | some x => rawT x.tk | none => false) = _
  rw [h]
theorem w1_len (raw : Bool) (t : Tk) (h : bulkT t ≤ 10000000) : (w1 raw t).length ≤ 60000014 := by
  have := len_w1 raw t
  omega

set_option maxRecDepth 100000 in
set_option maxHeartbeats 16000000 in
theorem refWrite_any (A : Option Addr) (c : Nat) (l : List Tw) (w : World) (hr : Rr w w.heap.size A l) (hb : bulk (tks l) ≤ 10000000) (hl : l.length ≤ 1000) (W : List UInt8) (hW : wAll false (tks l) = W) :
    Calls Tryd.prog 20 #[.slice A l.length c] w fun e w' => e = .returned (.string (B W)) ∧ Below w.heap.size w w' := by
  have hwl : W.length ≤ 100000000 := by
    have := len_wAll (tks l) false
    rw [hW, len_tks] at this
    omega
  have HR := Lib.hid hr; have HW := Lib.hid hW; have HBK := Lib.hid hb; clear hr hW hb
  go_enter Tryd.func20, Tryd.ntmps20
  go_wp2_with fail
  go_loopw [3, 4, 5] (fun v3 v4 _ wr => ∃ k u, v3 = .string u ∧ v4 = .int .i64 ((k : Nat) : Int) ∧ k ≤ l.length ∧ L u ++ wAll (rawAt l k) (tks (l.drop k)) = W ∧ Below w.heap.size w wr) (fun _ v4 _ _ => l.length - (intOf v4).toNat)
  case atStart => exact ⟨0, ⟨#[]⟩, rfl, rfl, Nat.zero_le _, by rw [List.drop_zero]; exact HW.out, Below.refl _ _⟩
  case round =>
    obtain ⟨k, u, rfl, rfl, hkl, hu, hbw⟩ := hrel
    have hus : u.size ≤ 100000000 := by
      have := congrArg List.length hu
      rw [List.length_append, size_L] at this
      omega
    by_cases hp : k < l.length
    · have hlt : decide ((k : Int) < l.length) = true := decide_eq_true (by omega)
      have hRw := (HR.out.below hbw).more hbw.size
      have hRw0 := HR.out.below hbw
      obtain ⟨bb, off, x, hA, hbN, hdrop, hrange, hatt, hmem⟩ := hRw0.at_ k hp
      have hgx : l[k]? = some x := Ro.getElem_of_drop hdrop
      have hbx : bulkT x.tk ≤ 10000000 := by
        obtain ⟨j, hj, e⟩ := List.getElem_of_mem hmem
        have : x.tk ∈ tks l := by rw [← e]; exact List.mem_map.2 ⟨l[j], List.getElem_mem _, rfl⟩
        exact Nat.le_trans (bulk_mem this) HBK.out
      have hstep : L u ++ (w1 (rawAt l k) x.tk ++ wAll (rawAt l (k + 1)) (tks (l.drop (k + 1)))) = W := by
        rw [rawAt_next hgx, ← hu, hdrop]
        rfl
      have hus2 : (L u).length + (w1 (rawAt l k) x.tk).length ≤ 100000000 := by
        have := congrArg List.length hstep
        rw [List.length_append, List.length_append] at this
        omega
      subst hA
      obtain ⟨f0, f1, f2, f3, f4⟩ := range5 hrange
      have hpx : 0 < k → ∃ z, l[k - 1]? = some z ∧ wr.cell? ⟨bb, off + (k - 1) * 5, none⟩ = some (.int .i64 z.tk.kind) ∧ wr.cell? ⟨bb, off + (k - 1) * 5 + 1, none⟩ = some (.string z.tk.name) := fun h0 => by
        obtain ⟨b2, o2, z, hA2, _, hd2, hr2, _, _⟩ := hRw0.at_ (k - 1) (by omega)
        injection hA2 with hA2
        injection hA2 with e1 e2 _
        subst e1
        subst e2
        obtain ⟨g0, g1, _, _, _⟩ := range5 hr2
        exact ⟨z, Ro.getElem_of_drop hd2, g0, g1⟩
      obtain ⟨R, hR⟩ : ∃ R, rawAt l k = R := ⟨_, rfl⟩
      have hRdef : ∀ z, 0 < k → l[k - 1]? = some z → R = rawT z.tk := fun z h0 hz => by
        rw [← hR]
        obtain ⟨j, rfl⟩ : ∃ j, k = j + 1 := ⟨k - 1, by omega⟩
        exact rawAt_next (by simpa using hz)
      have hR0 : k = 0 → R = false := fun h => by rw [← hR, h]; rfl
      rw [hR] at hstep hus2
      have hatt' := hatt
      have HST := Lib.hid hstep; have HPX := Lib.hid hpx; have HRD := Lib.hid hRdef; have HR0 := Lib.hid hR0; have HATT := Lib.hid hatt'; have HBW := Lib.hid hbw; have HL2 := Lib.hid hus2
      clear hstep hpx hRdef hR0 hatt hatt' hdrop hrange hmem hgx hRw hRw0 hu hR hbw hus2
      obtain ⟨⟨K, nm, d, ats, sf⟩, XA, Xc⟩ := x
      have hd : d.size ≤ 10000000 := by
        have : bulkT (⟨K, nm, d, ats, sf⟩ : Tk) ≤ 10000000 := hbx
        unfold bulkT at this
        have e : (⟨K, nm, d, ats, sf⟩ : Tk).data.size = d.size := rfl
        omega
      have hnms : nm.size ≤ 10000000 := by
        have : bulkT (⟨K, nm, d, ats, sf⟩ : Tk) ≤ 10000000 := hbx
        unfold bulkT at this
        have e : (⟨K, nm, d, ats, sf⟩ : Tk).name.size = nm.size := rfl
        omega
      have hbox : Tb (wr.alloc (.cells #[.int .i64 K, .string nm, .string d, .slice XA ats.length Xc, .bool sf] 35)) wr.heap.size ⟨⟨K, nm, d, ats, sf⟩, XA, Xc⟩ := Tb.new wr ⟨⟨K, nm, d, ats, sf⟩, XA, Xc⟩
      have hb1 := below_new wr (.cells #[.int .i64 K, .string nm, .string d, .slice XA ats.length Xc, .bool sf] 35)
      have HBX := Lib.hid hbox; have HB1 := Lib.hid hb1; clear hbox hb1
      go_upto_region 6 with fail
      clear f0 f1 f2 f3 f4
      generalize wr.alloc (.cells #[.int .i64 K, .string nm, .string d, .slice XA ats.length Xc, .bool sf] 35) = W1 at *
      obtain ⟨g5, hg5⟩ : ∃ g, wr.heap.size = g := ⟨_, rfl⟩
      rw [hg5] at HBX ⊢
      obtain ⟨y0, y1, y2, y3, y4⟩ := (show Tb W1 g5 ⟨⟨K, nm, d, ats, sf⟩, XA, Xc⟩ from HBX.out).c
      go_cut [41] from 6 to 87 (fun v wx => v = .bool ((K == 0) && R) ∧ Below W1.heap.size W1 wx)
      case first =>
        by_cases hK : K = 0
        · subst hK
          by_cases h0 : 0 < k
          · obtain ⟨z, hz, z0, z1⟩ := HPX.out h0
            have hRz := HRD.out z h0 hz
            obtain ⟨j, rfl⟩ : ∃ j, k = j + 1 := ⟨k - 1, by omega⟩
            rw [Nat.add_sub_cancel] at z0 z1
            have hk0 : decide (((j + 1 : Nat) : Int) > 0) = true := decide_eq_true (by omega)
            have hk1 : decide ((j : Int) + 1 > 0) = true := decide_eq_true (by omega)
            have hbz : bb < wr.heap.size := Nat.lt_of_lt_of_le hbN HBW.out.size
            have c0 := (HB1.out.cell (p := ⟨bb, off + j * 5, none⟩) hbz).trans z0
            have c1 := (HB1.out.cell (p := ⟨bb, off + j * 5 + 1, none⟩) hbz).trans z1
            have j0 : (0 : Int) ≤ (j : Int) := by omega
            have j1 : (j : Int) < (l.length : Int) := by omega
            have j3 : IntKind.i64.wrap (j : Int) = (j : Int) := IntWalk.i64_in _ (by omega)
            obtain ⟨ZK, hZK⟩ : ∃ n, z.tk.kind = n := ⟨_, rfl⟩
            obtain ⟨ZN, hZN⟩ : ∃ n, z.tk.name = n := ⟨_, rfl⟩
            rw [hZK] at c0
            rw [hZN] at c1
            have hRv : R = (ZK == 1 && isIn ZN rawL) := by rw [hRz]; unfold rawT; rw [hZK, hZN]
            have HRV := Lib.hid hRv; clear hRz hRv hz z0 z1 hZK hZN
            by_cases hz1 : ZK = 1
            · subst hz1
              have hlw : g5 < W1.heap.size := HBX.out.lt
              have hbW1 : bb < W1.heap.size := Nat.lt_of_lt_of_le hbz HB1.out.size
              go_region_held3 (fun w' => w'.cell? ⟨g5, 0, none⟩ = some (.int .i64 0) ∧ w'.cell? ⟨bb, off + j * 5, none⟩ = some (.int .i64 1) ∧ w'.cell? ⟨bb, off + j * 5 + 1, none⟩ = some (.string ZN)) (first | exact ⟨d0, d1, d2⟩ | exact ⟨y0, c0, c1⟩ | go_keep) (first
                | (go_at_call 38; refine (refRaw_any W1.drew).mono ?_; rintro e w4 ⟨v4, rfl, ho4, hb4⟩; have d0 := (hb4.cell (p := ⟨g5, 0, none⟩) hlw).trans y0; have d1 := (hb4.cell (p := ⟨bb, off + j * 5, none⟩) hbW1).trans c0; have d2 := (hb4.cell (p := ⟨bb, off + j * 5 + 1, none⟩) hbW1).trans c1; have HO4 := Lib.hid ho4; have HB4 := Lib.hid hb4; clear ho4 hb4)
                | (go_at_call 37; refine (hasS w4 v4 rawL ZN (sv_own HO4.out) (by decide)).mono ?_; rintro e w' ⟨rfl, rfl⟩))
              go_wp2_with fail
              go_meet
              exact ⟨by rw [HRV.out]; rfl, ⟨HB4.out.os, HB4.out.tape, HB4.out.output, HB4.out.size, HB4.out.block⟩⟩
            · have hzb : (ZK == 1) = false := by simpa using hz1
              have hRf : R = false := by rw [HRV.out, hzb]; rfl
              have HRF := Lib.hid hRf; clear hRf hz1
              go_quiet (fail)
              go_wp2_with fail
              go_meet
              exact ⟨by rw [HRF.out]; rfl, below_dN (Below.refl _ _) _⟩
          · have hk0 : decide ((k : Int) > 0) = false := decide_eq_false (by omega)
            have hRf : R = false := HR0.out (by omega)
            have HRF := Lib.hid hRf; clear hRf
            go_quiet (fail)
            go_wp2_with fail
            go_meet
            exact ⟨by rw [HRF.out]; rfl, below_dN (Below.refl _ _) _⟩
        · have hKb : (K == 0) = false := by simpa using hK
          clear hK
          go_quiet (fail)
          go_wp2_with fail
          go_meet
          exact ⟨by rw [hKb]; rfl, below_dN (Below.refl _ _) _⟩
      case rest =>
        obtain ⟨rfl, hbx⟩ := hcut
        obtain ⟨wm, hwm⟩ : ∃ z, z = wc := ⟨_, rfl⟩
        subst hwm
        have hx2 := (show Tb W1 g5 ⟨⟨K, nm, d, ats, sf⟩, XA, Xc⟩ from HBX.out).below hbx
        have hbw2 := bt HBW.out (bt HB1.out hbx)
        have hat2 := (HATT.out.below (bt HB1.out hbx) HBW.out.size)
        clear y0 y1 y2 y3 y4
        obtain ⟨y0, y1, y2, y3, y4⟩ := hx2.c
        have HBW2 := Lib.hid hbw2; have HAT2 := Lib.hid hat2; clear hx2 hbw2 hat2 hbx HBX HB1 HPX HRD HR0 HATT HBW
        by_cases hK0 : K = 0
        · subst hK0
          cases R with
          | true =>
            go_wp2
            go_roundw
            case rel =>
              refine ⟨k + 1, _, rfl, by go_num, by omega, ?_, HBW2.out⟩
              rw [L_append, ← HST.out]
              show (L u ++ L d) ++ _ = L u ++ (L d ++ _)
              rw [List.append_assoc]
            case measure => simp [intOf]; omega
          | false =>
            go_wp2_with fail
            refine (write_false d wm hd).mono ?_
            rintro e w4 ⟨rfl, hb4⟩
            have hes := (Rm.len_esc false (L d)).2.1
            rw [size_L] at hes
            have hbe : (B (esc false (L d))).size ≤ 60000000 := by rw [size_B]; omega
            clear hes
            go_wp2
            go_roundw
            case rel =>
              refine ⟨k + 1, _, rfl, by go_num, by omega, ?_, bt HBW2.out hb4⟩
              rw [L_append, L_B, ← HST.out]
              show (L u ++ esc false (L d)) ++ _ = L u ++ (esc false (L d) ++ _)
              rw [List.append_assoc]
            case measure => simp [intOf]; omega
        by_cases hK1 : K = 1
        · subst hK1
          clear hK0
          rw [show ((1 : Int) == 0 && R) = false from rfl]
          obtain ⟨S, hS⟩ : ∃ S, L ⟨#[60]⟩ ++ (L nm ++ (ats.flatMap wAttr ++ ((if sf = true then [32, 47] else []) ++ [62]))) = S := ⟨_, rfl⟩
          have hw1 : w1 R ⟨1, nm, d, ats, sf⟩ = S := by
            rw [← hS]
            show wStart ⟨1, nm, d, ats, sf⟩ = _
            unfold wStart
            show [60] ++ L nm ++ ats.flatMap wAttr ++ (if sf = true then [32, 47] else []) ++ [62] = [60] ++ _
            simp only [List.append_assoc]
          have hsl : S.length ≤ 100000000 := by
            have h : (L u).length + (w1 R ⟨1, nm, d, ats, sf⟩).length ≤ 100000000 := HL2.out
            rw [hw1] at h
            omega
          have hbs : (B S).size ≤ 100000000 := by rw [size_B]; exact hsl
          have HW1 := Lib.hid hw1; have HS := Lib.hid hS; clear hw1 hS hsl
          go_wp2_with fail
          refine (tagged_any ⟨#[60]⟩ ⟨⟨1, nm, d, ats, sf⟩, XA, Xc⟩ w.heap.size wm HAT2.out HBW2.out.size hbx (by decide) S HS.out).mono ?_
          rintro e w4 ⟨rfl, hb4⟩
          go_wp2
          go_roundw
          case rel =>
            refine ⟨k + 1, _, rfl, by go_num, by omega, ?_, bt HBW2.out hb4⟩
            rw [L_append, L_B, ← HST.out, HW1.out, List.append_assoc]
          case measure => simp [intOf]; omega
        by_cases hK2 : K = 2
        · subst hK2
          clear hK0 hK1
          rw [show ((2 : Int) == 0 && R) = false from rfl]
          go_wp2
          go_roundw
          case rel =>
            refine ⟨k + 1, _, rfl, by go_num, by omega, ?_, HBW2.out⟩
            rw [L_append, L_append, L_append, ← HST.out]
            show (L u ++ ([60, 47] ++ L nm ++ [62])) ++ _ = L u ++ (([60, 47] ++ L nm ++ [62]) ++ _)
            rw [List.append_assoc]
          case measure => simp [intOf]; omega
        by_cases hK3 : K = 3
        · subst hK3
          clear hK0 hK1 hK2
          rw [show ((3 : Int) == 0 && R) = false from rfl]
          go_wp2
          go_roundw
          case rel =>
            refine ⟨k + 1, _, rfl, by go_num, by omega, ?_, HBW2.out⟩
            rw [L_append, L_append, L_append, ← HST.out]
            show (L u ++ ([60, 33, 45, 45] ++ L d ++ [45, 45, 62])) ++ _ = L u ++ (([60, 33, 45, 45] ++ L d ++ [45, 45, 62]) ++ _)
            rw [List.append_assoc]
          case measure => simp [intOf]; omega
        by_cases hK4 : K = 4
        · subst hK4
          clear hK0 hK1 hK2 hK3
          rw [show ((4 : Int) == 0 && R) = false from rfl]
          go_wp2
          go_roundw
          case rel =>
            refine ⟨k + 1, _, rfl, by go_num, by omega, ?_, HBW2.out⟩
            rw [L_append, L_append, L_append, ← HST.out]
            show (L u ++ ([60, 33, 100, 111, 99, 116, 121, 112, 101, 32] ++ L d ++ [62])) ++ _ = L u ++ (([60, 33, 100, 111, 99, 116, 121, 112, 101, 32] ++ L d ++ [62]) ++ _)
            rw [List.append_assoc]
          case measure => simp [intOf]; omega
        have hw0 : w1 R ⟨K, nm, d, ats, sf⟩ = [] := by
          unfold w1
          rw [if_neg hK0, if_neg hK1, if_neg hK2, if_neg hK3, if_neg hK4]
        have b0 : (K == 0) = false := by simpa using hK0
        have b1 : (K == 1) = false := by simpa using hK1
        have b2 : (K == 2) = false := by simpa using hK2
        have b3 : (K == 3) = false := by simpa using hK3
        have b4 : (K == 4) = false := by simpa using hK4
        rw [show (K == 0 && R) = false by rw [b0]; rfl]
        have HW0 := Lib.hid hw0; clear hw0 hK0 hK1 hK2 hK3 hK4
        go_wp2
        go_roundw
        case rel =>
          refine ⟨k + 1, u, rfl, by go_num, by omega, ?_, HBW2.out⟩
          have h := HST.out
          rw [HW0.out, List.nil_append] at h
          exact h
        case measure => simp [intOf]; omega
    · have hlt : decide ((k : Int) < l.length) = false := decide_eq_false (by omega)
      have hfin : u = B W := by
        refine B_of ?_
        rw [← hu, List.drop_eq_nil_of_le (by omega)]
        show _ = L u ++ []
        rw [List.append_nil]
      have HF := Lib.hid hfin; have HB := Lib.hid hbw; clear hu hbw hfin
      go_wp2
      go_ret
      exact ⟨ret_str HF.out, HB.out⟩

set_option maxRecDepth 100000 in
set_option maxHeartbeats 8000000 in
theorem law_writes (A : Option Addr) (c : Nat) (l : List Tw) (w : World) (hlc : l.length ≤ c) (hcm : c ≤ maxLen) (hr : Rr w w.heap.size A l) (hbk : bulk (tks l) ≤ 1048576) (hT : Tab w) :
    Calls Tryd.prog 5 #[.slice A l.length c] w fun e w' => e = .returned (.bool true) ∧ Below w.heap.size w w' := by
  have HT := Lib.hid hT; have HR := Lib.hid hr; have HBK := Lib.hid hbk; clear hT hr hbk
  go_enter Tryd.func5, Tryd.ntmps5
  go_wp2_with fail
  refine (bound_any A c l w hlc hcm HR.out).mono ?_
  rintro e w1 ⟨V, t, rfl, htv, htl, htb, b1⟩
  obtain ⟨A1, c1, l1, rfl, hc1, hr1, hl1⟩ := htv
  have hll : l1.length = t.length := by rw [← len_tks, hl1]
  obtain ⟨u, hu⟩ : ∃ u, wAll false t = u := ⟨_, rfl⟩
  have hbt : bulk t ≤ 10000000 := by have := HBK.out; omega
  have HR1 := Lib.hid hr1; have HL1 := Lib.hid hl1; have HLL := Lib.hid hll; have HU := Lib.hid hu; have B1 := Lib.hid b1; have HBT := Lib.hid hbt
  clear hr1 hl1 hll hu b1 hbt htb
  go_wp2_with fail
  refine (fixed_any _ (HT.out.below B1.out)).mono ?_
  rintro e w2 ⟨rfl, b2⟩
  have HTV := Lib.hid (show Tv w2 (.slice A1 t.length c1) t from ⟨A1, c1, l1, rfl, hc1, (HR1.out.below b2).more b2.size, HL1.out⟩)
  have HR2 := Lib.hid ((HR1.out.below b2).more b2.size); have B2 := Lib.hid (bt B1.out b2); clear b2
  go_wp2_with fail
  refine (writeT HTV.out HBT.out (by omega) u HU.out).mono ?_
  rintro e w3 ⟨rfl, b3⟩
  have HR3 := Lib.hid ((HR2.out.below b3).more b3.size); have B3 := Lib.hid (bt B2.out b3); clear b3
  go_wp2_with fail
  rw [← HLL.out]
  refine (refWrite_any A1 c1 l1 w3 HR3.out (by rw [HL1.out]; exact HBT.out) (by have := HLL.out; omega) u (by rw [HL1.out]; exact HU.out)).mono ?_
  rintro e w4 ⟨rfl, b4⟩
  have heq : ((B u).toList == (B u).toList) = true := by simp
  go_wp2
  go_ret
  exact ⟨by first | rfl | simp, bt B3.out b4⟩

end Go.Proofs.YtjhhhlomkfnniaaDoor.To
