/-
  Walks of stage 8: appendAll, appendTag, holds, appendNode.
  Walks of stage 8: appendNode.
  Walks of stage 8: the closure that writes what a node has.
  Walks of stage 8: the closure that writes what a node has, walked.
  Walks of stage 8: Inside, Rows.
  Tokens of documents that are written out: the same functions by steps that are counted, so that they can be reckoned.
  Stage 7, in plain words: trees of given bytes, reckoned; nothing of the program.
  Stage 8, in plain words: the samples that the document fixes.
  Stage 8: the law's bound: forty rows of six attributes; arguments that are rows, and their bulk.
  Stage 8, in plain words: trees behind trees, written; how long what is written is.
  Walks of stage 6: boltingref06.Same.
  Stage 6: slices that read as tokens; the calls whose answers the document fixes.
  Small laws for the statements' own texts: min of a length, a mask of an int, a cut's size. For every stage from 5 on.
  Walks of stage 6's laws TokenEnds: it returns true.
  Walks of stage 6's laws TokenComments, TokenRaw: each returns true.
  Tokens in boxes, attributes of the call's own beside them.
  Walks of stage 5: names.inElement, inAttr, every, Attr, Right.
  Walk of stage 6's law TokenBack: it returns true. Ahead of it: what a start tag of names that may be, an end tag, and texts around a tag come back as.
  Stage 8, in plain words: legal trees are such as come back.
  Walks of stage 5: bolting/names.Closes: what an element closes, and what ends the search.
  Walks of stage 5: bolting/names.Walls: what an element closes, and what ends the search.
-/
import Derived.Test.YtgjlfcamgkeibaaGreatDoorCk03
import Derived.Test.YtgjlfcamgkeibaaGreatDoorCk06
import Derived.Test.YtgjlfcamgkeibaaGreatDoorCk01
import Derived.Test.YtgjlfcamgkeibaaGreatDoorCk05
import Derived.Deep.CutBlock
import Derived.Deep.DeepCutAuto
import Derived.Deep.RegionHeld3
import Derived.Laws.EntriesVeiled
import Derived.Test.YtgjlfcamgkeibaaGreatDoorCk02
import Derived.Deep.CutRange
namespace Go.Proofs.YtgjlfcamgkeibaaGreatDoor.Wr
set_option maxRecDepth 100000
set_option linter.unusedSimpArgs false
set_option linter.unusedVariables false
open Go.RowKit Ba Fm Fo Nm Wm
open Ro (At Ro Cw ros rowO rowV acells len_acells below_new Sh Ra acells_one info_attr range2 range5)
open Tm (bulkA)
open To (Kb Ls Bx app_strk flat2 flat3 flat5 flat_le flat_take bulk_at)
open Rm (dec esc)
theorem app_bytek {ops : Array Oper} {rest : List Oper} {o : Oper} {a : Act} {Q : Exit → Act → World → Prop} (w : World) (hgd : o.guard = none) (s x : Operand)
    (ho : o.op = .call { callee := .builtin .append, args := #[s, x], argTypes := #[88, 88] })
    (N : Nat) (v : Value) (l : List UInt8) (y : UInt8) (hs : a.eval s = v) (hown : OwnB N w v l) (hx : a.eval x = .slice (some ⟨w.heap.size, 0, none⟩) 1 1)
    (hl : l.length + 1 ≤ 140737488355328) (hN : N ≤ w.heap.size)
    (h : ∀ v' w', OwnB N w' v' (l ++ [y]) → Below N w w' → Kb w w' → wpList Tryz.prog ops Q rest (a.put o.dst v') w') :
    wpList Tryz.prog ops Q (o :: rest) a (w.alloc (.cells #[.int .u8 y.toNat] 5)) := by
  obtain ⟨i0, hi, hz0, hz1, hz2⟩ := info_parts info_u8
  have hown' : OwnB N (w.alloc (.cells #[.int .u8 y.toNat] 5)) v l := hown.alloc _
  have hsz : (w.alloc (.cells #[.int .u8 y.toNat] 5)).heap.size = w.heap.size + 1 := by simp
  refine wpList_append_own _ hgd s x 88 ho N 5 i0 (.int .u8 0) 1 1 Tryz.underlying88 hi hz0 hz1 hz2 rfl (by decide) v l.length (l.map bc) hs hown' ⟨w.heap.size, 0, none⟩ 1 1 [.int .u8 y.toNat] hx rfl (cell_one_new _ _ _) (by intro u hu; simp at hu; subst hu; rfl) (by unfold maxLen; omega) (by omega) (by omega) ?_
  intro v' w' ho2 hg2 _
  exact h v' w' (OwnB.appended (m := [y]) ho2 rfl) (hown'.below hg2 ((Below.refl N w).alloc hN _) (by omega)) ((Kb.below (below_new w _)).trans (Kb.grown hown' hg2))

def Rb (w : World) (g : Nat) (x : Cw) : Prop := w.heap[g]? = some (rowO x)
theorem Rb.new (w : World) (x : Cw) : Rb (w.alloc (rowO x)) w.heap.size x := (MapKept.heap_alloc w _).1
theorem Rb.c {w : World} {g : Nat} {x : Cw} (h : Rb w g x) : w.cell? ⟨g, 0, none⟩ = some (.int .i64 x.ro.depth) ∧ w.cell? ⟨g, 1, none⟩ = some (.int .i64 x.ro.kind) ∧ w.cell? ⟨g, 2, none⟩ = some (.string x.ro.name) ∧ w.cell? ⟨g, 3, none⟩ = some (.string x.ro.data) ∧ w.cell? ⟨g, 4, none⟩ = some (.slice x.A x.ro.attrs.length x.c) := by
  refine ⟨?_, ?_, ?_, ?_, ?_⟩
  · rw [cell_of_row w g 0 _ _ _ h]; rfl
  · rw [cell_of_row w g 1 _ _ _ h]; rfl
  · rw [cell_of_row w g 2 _ _ _ h]; rfl
  · rw [cell_of_row w g 3 _ _ _ h]; rfl
  · rw [cell_of_row w g 4 _ _ _ h]; rfl
theorem Rb.kb {w w' : World} {g : Nat} {x : Cw} (h : Rb w g x) (k : Kb w w') : Rb w' g x := (k.2 g _ _ _ h (by decide)).trans h
theorem Rb.lt {w : World} {g : Nat} {x : Cw} (h : Rb w g x) : g < w.heap.size := (Array.getElem?_eq_some_iff.1 h).1
theorem kb_alloc (w : World) (o : Obj) : Kb w (w.alloc o) := Kb.below (below_new w o)
theorem bx_kb {w w' : World} {g : Nat} {x y : ByteArray} (h : Bx w g x y) (k : Kb w w') : Bx w' g x y := (k.2 g _ _ _ h (by decide)).trans h

set_option maxRecDepth 100000 in
set_option maxHeartbeats 2000000 in
theorem appendAll_any (N g c : Nat) (v : Value) (acc : List UInt8) (l : List ByteArray) (w : World) (ho : OwnB N w v acc) (hN : N ≤ w.heap.size) (hg : Ls w g l) (hl : l.length ≤ 100) (hz : acc.length + (l.flatMap L).length ≤ 140737488355328) :
    Calls Tryz.prog 82 #[v, .slice (some ⟨g, 0, none⟩) l.length c] w fun e w' => ∃ v', e = .returned v' ∧ OwnB N w' v' (acc ++ l.flatMap L) ∧ Below N w w' ∧ Kb w w' := by
  go_enter Tryz.func82, Tryz.ntmps82
  go_wp2
  go_loopw [0, 9] (fun u i wr => ∃ k : Nat, i = .int .i64 k ∧ k ≤ l.length ∧ OwnB N wr u (acc ++ (l.take k).flatMap L) ∧ Below N w wr ∧ Kb w wr) (fun _ i _ => l.length - (intOf i).toNat)
  case atStart => exact ⟨0, rfl, Nat.zero_le _, by simpa using ho, Below.refl _ _, Kb.refl _⟩
  case round =>
    obtain ⟨k, rfl, hk, hown, hb, hkb⟩ := hrel
    by_cases hp : k < l.length
    · have hcell := (hg.kb hkb).cell k hp
      have hle := flat_le l k hp
      have hft := flat_take l k hp
      have hlen : (acc ++ (l.take k).flatMap L).length + l[k].size ≤ 140737488355328 := by rw [List.length_append]; omega
      have hNr : N ≤ wr.heap.size := Nat.le_trans hN hb.size
      have HO := Lib.hid hown; have HB := Lib.hid hb; have HK := Lib.hid hkb; have HF := Lib.hid hft; clear hown hb hkb hft hle
      go_wp2_with (at_builtin; refine app_strk wr rfl (.tmp 13) (.tmp 14) rfl N _ _ l[k] rfl HO.out rfl hlen hNr ?_; intro v4 w4 hown4 hb4 hk4)
      go_roundw
      case rel => exact ⟨k + 1, by go_num, by omega, by rw [HF.out, ← List.append_assoc]; exact hown4, HB.out.trans hb4, HK.out.trans hk4⟩
      case measure => simp [intOf]; omega
    · rw [List.take_of_length_le (by omega)] at hown
      have HO := Lib.hid hown; have HB := Lib.hid hb; have HK := Lib.hid hkb; clear hown hb hkb
      go_wp2
      go_ret
      exact ⟨_, rfl, HO.out, HB.out, HK.out⟩
theorem appendAll1 (N g c n : Nat) (v : Value) (acc out : List UInt8) (l : List ByteArray) (w : World) (ho : OwnB N w v acc) (hN : N ≤ w.heap.size) (hg : Ls w g l) (hl : l.length ≤ 100) (hz : acc.length + (l.flatMap L).length ≤ 140737488355328) (hn : l.length = n) (hout : l.flatMap L = out) :
    Calls Tryz.prog 82 #[v, .slice (some ⟨g, 0, none⟩) n c] w fun e w' => ∃ v', e = .returned v' ∧ OwnB N w' v' (acc ++ out) ∧ Below N w w' ∧ Kb w w' := by
  subst hn hout
  exact appendAll_any N g c v acc l w ho hN hg hl hz
theorem lit_app3 (N : Nat) (u : Value) (AC : List UInt8) (t1 t2 t3 : ByteArray) (wr : World) (ho : OwnB N wr u AC) (hN : N ≤ wr.heap.size) (hlen : AC.length + (t1.size + (t2.size + t3.size)) ≤ 140737488355328) :
    Calls Tryz.prog 82 #[u, .slice (some ⟨wr.heap.size, 0, none⟩) 3 3] (wr.alloc (.cells #[.string t1, .string t2, .string t3] 9)) fun e w' => ∃ v', e = .returned v' ∧ OwnB N w' v' (AC ++ (L t1 ++ (L t2 ++ L t3))) ∧ Below N wr w' ∧ Kb wr w' := by
  refine (appendAll1 N wr.heap.size 3 3 u AC (L t1 ++ (L t2 ++ L t3)) [t1, t2, t3] _ (ho.alloc _) (by simp; omega) (Ls.new wr [t1, t2, t3]) (by simp) (by rw [flat3, List.length_append, List.length_append, size_L, size_L, size_L]; exact hlen) rfl (flat3 _ _ _)).mono ?_
  rintro e w6 ⟨v6, he, ho6, hb6, hk6⟩
  exact ⟨v6, he, ho6, ((Below.refl N wr).alloc hN _).trans hb6, (kb_alloc wr _).trans hk6⟩
theorem attr_app (N : Nat) (u : Value) (AC : List UInt8) (y : At) (wr w4 : World) (ho : OwnB N wr u AC) (hN : N ≤ wr.heap.size)
    (hb : Below (wr.alloc (.cells #[.string y.name, .string y.value] 51)).drew.heap.size (wr.alloc (.cells #[.string y.name, .string y.value] 51)).drew w4) (hlen : AC.length + (wA y).length ≤ 140737488355328) :
    Calls Tryz.prog 82 #[u, .slice (some ⟨w4.heap.size, 0, none⟩) 5 5] (w4.alloc (.cells #[.string ⟨#[32]⟩, .string y.name, .string ⟨#[61, 34]⟩, .string (B (esc true (L y.value))), .string ⟨#[34]⟩] 9)) fun e w' => ∃ v', e = .returned v' ∧ OwnB N w' v' (AC ++ wA y) ∧ Below N wr w' ∧ Kb wr w' ∧ Bx w' wr.heap.size y.name y.value := by
  have hx4 := (show Bx (wr.alloc (.cells #[.string y.name, .string y.value] 51)).drew wr.heap.size y.name y.value from Bx.new wr y.name y.value).below hb
  have hb4 : Below wr.heap.size wr w4 := bt (below_new wr _) ⟨hb.os, hb.tape, hb.output, hb.size, hb.block⟩
  have hn4 : N ≤ w4.heap.size := Nat.le_trans hN hb4.size
  have hls := Ls.new w4 [⟨#[32]⟩, y.name, ⟨#[61, 34]⟩, B (esc true (L y.value)), ⟨#[34]⟩]
  have hfl : [⟨#[32]⟩, y.name, ⟨#[61, 34]⟩, B (esc true (L y.value)), ⟨#[34]⟩].flatMap L = wA y := by
    rw [flat5, L_B]; rfl
  refine (appendAll1 N w4.heap.size 5 5 u AC (wA y) [⟨#[32]⟩, y.name, ⟨#[61, 34]⟩, B (esc true (L y.value)), ⟨#[34]⟩] _ ((OwnB.keep ho hb4).alloc _) (by simp; omega) hls (by simp) (by rw [hfl]; exact hlen) rfl hfl).mono ?_
  rintro e w6 ⟨v6, he, ho6, hb6, hk6⟩
  refine ⟨v6, he, ho6, (hb4.mono hN).trans (((Below.refl N w4).alloc hn4 _).trans hb6), (Kb.below hb4).trans ((kb_alloc w4 _).trans hk6), bx_kb (hx4.below (below_new w4 _)) hk6⟩

def rb (x : Ro) : Nat := x.name.size + x.data.size + bulkA x.attrs + x.attrs.length
theorem sum_le (l : List At) (k : Nat) (h : k < l.length) : ((l.take k).flatMap wA).length + (wA l[k]).length ≤ (l.flatMap wA).length := by
  have e : l.flatMap wA = (l.take (k + 1)).flatMap wA ++ (l.drop (k + 1)).flatMap wA := by rw [← List.flatMap_append, List.take_append_drop]
  rw [e, List.take_succ_eq_append_getElem h, List.flatMap_append, List.length_append, List.length_append]
  simp
theorem attr_take (l : List At) (k : Nat) (h : k < l.length) : (l.take (k + 1)).flatMap wA = (l.take k).flatMap wA ++ wA l[k] := by
  rw [List.take_succ_eq_append_getElem h, List.flatMap_append]
  simp
theorem len_wAs (l : List At) : (l.flatMap wA).length ≤ 6 * bulkA l + 4 * l.length := Tm.len_wAttrs l

set_option maxRecDepth 100000 in
set_option maxHeartbeats 4000000 in
theorem appendTag_any (N M : Nat) (v : Value) (acc : List UInt8) (x : Cw) (w : World) (ho : OwnB N w v acc) (hN : N ≤ w.heap.size) (hx : Ro.Att w M x) (hM : M ≤ N) (hk : rb x.ro ≤ 10000000) (hz : acc.length ≤ 70000000000000) :
    Calls Tryz.prog 128 #[v, rowV x] w fun e w' => ∃ v', e = .returned v' ∧ OwnB N w' v' (acc ++ tagW x.ro) ∧ Below N w w' ∧ Kb w w' := by
  have hk1 : x.ro.name.size ≤ 10000000 := by unfold rb at hk; omega
  have hk2 : bulkA x.ro.attrs ≤ 10000000 := by unfold rb at hk; omega
  have hk3 : x.ro.attrs.length ≤ 10000000 := by unfold rb at hk; omega
  have hk4 := len_wAs x.ro.attrs
  have hacc : acc.length + (1 + x.ro.name.size) ≤ 140737488355328 := by omega
  have hz1 : (w.alloc (rowO x)).heap.size = w.heap.size + 1 := by simp
  have hls : Ls ((w.alloc (rowO x)).alloc (.cells #[.string ⟨#[60]⟩, .string x.ro.name] 9)) (w.heap.size + 1) [⟨#[60]⟩, x.ro.name] := hz1 ▸ Ls.new (w.alloc (rowO x)) [⟨#[60]⟩, x.ro.name]
  have hNa : N ≤ ((w.alloc (rowO x)).alloc (.cells #[.string ⟨#[60]⟩, .string x.ro.name] 9)).heap.size := by simp; omega
  have hba : Below N w ((w.alloc (rowO x)).alloc (.cells #[.string ⟨#[60]⟩, .string x.ro.name] 9)) := ((Below.refl N w).alloc hN _).alloc (by rw [hz1]; omega) _
  have hka : Kb w ((w.alloc (rowO x)).alloc (.cells #[.string ⟨#[60]⟩, .string x.ro.name] 9)) := (kb_alloc w _).trans (kb_alloc _ _)
  have hta : Rb ((w.alloc (rowO x)).alloc (.cells #[.string ⟨#[60]⟩, .string x.ro.name] 9)) w.heap.size x := (Rb.new w x).kb (kb_alloc _ _)
  have HLS := Lib.hid hls; have HNA := Lib.hid hNa; have HBA := Lib.hid hba; have HKA := Lib.hid hka; have HTA := Lib.hid hta; have HO := Lib.hid ho; have HX := Lib.hid hx
  clear hz1 hls hNa hba hka hta ho hx
  go_enter Tryz.func128, Tryz.ntmps128
  go_wp2_with fail
  refine (appendAll1 N (w.heap.size + 1) 2 2 v acc ([60] ++ L x.ro.name) [⟨#[60]⟩, x.ro.name] _ ((HO.out.alloc _).alloc _) HNA.out HLS.out (by simp) (by rw [flat2, List.length_append, size_L, size_L]; exact hacc) rfl (by rw [flat2])).mono ?_
  rintro e w2 ⟨v2, rfl, ho2, hb2, hk2'⟩
  obtain ⟨g, hg⟩ : ∃ g, w.heap.size = g := ⟨_, rfl⟩
  have ht2 := HTA.out.kb hk2'
  have hB2 := HBA.out.trans hb2
  have hK2 := HKA.out.trans hk2'
  rw [hg] at ht2 ⊢
  obtain ⟨c0, c1, c2, c3, c4⟩ := ht2.c
  have HG := Lib.hid hg
  clear hb2 hk2' hg HLS HNA HBA HKA HTA HO c0 c1 c2 c3
  have HO2 := Lib.hid ho2; have HB2 := Lib.hid hB2; have HK2 := Lib.hid hK2; have HT2 := Lib.hid ht2; clear ho2 hB2 hK2 ht2
  have hra := HX.out.2.2.2.1
  have HRA := Lib.hid (Ro.Ra.more hra hM); clear hra
  go_wp2
  clear c4
  go_loopw [0, 15] (fun u i wr => ∃ k : Nat, i = .int .i64 k ∧ k ≤ x.ro.attrs.length ∧ OwnB N wr u ((acc ++ ([60] ++ L x.ro.name)) ++ (x.ro.attrs.take k).flatMap wA) ∧ Below N w wr ∧ Kb w wr) (fun _ i _ => x.ro.attrs.length - (intOf i).toNat)
  case atStart => exact ⟨0, rfl, Nat.zero_le _, by simpa using HO2.out, HB2.out, HK2.out⟩
  case round =>
    obtain ⟨k, rfl, hk, hown, hb, hkb⟩ := hrel
    by_cases hp : k < x.ro.attrs.length
    · obtain ⟨b0, off0, y, hA, hb0, hdy, hry, hym⟩ := Ro.Ra.at_ (Ro.Ra.below HRA.out hb) k hp
      rw [hA]
      have hy : x.ro.attrs[k] = y := by
        rw [List.drop_eq_getElem_cons hp] at hdy
        injection hdy
      obtain ⟨f0, f1⟩ := range2 hry
      have hsl := sum_le x.ro.attrs k hp
      have hat := attr_take x.ro.attrs k hp
      have hbk := bulk_at x.ro.attrs k hp
      rw [hy] at hsl hat hbk
      obtain ⟨AC, hAC⟩ : ∃ AC, (acc ++ ([60] ++ L x.ro.name)) ++ (x.ro.attrs.take k).flatMap wA = AC := ⟨_, rfl⟩
      have hlen : AC.length + (wA y).length ≤ 140737488355328 := by
        rw [← hAC]
        simp only [List.length_append, List.length_cons, List.length_nil, size_L]
        omega
      rw [hAC] at hown
      have hys : y.value.size ≤ 10000000 := by omega
      have hNr : N ≤ wr.heap.size := Nat.le_trans hN hb.size
      have HO := Lib.hid hown; have HB := Lib.hid hb; have HK := Lib.hid hkb; have HAT := Lib.hid hat; have HAC := Lib.hid hAC
      have hbx := Bx.new wr y.name y.value
      have HBX := Lib.hid hbx
      clear hown hb hkb hat hdy hry hym hy hsl hbk hAC hbx hk4 hacc hk1 hk2
      go_upto_region 5 with (fail)
      go_region_held3 (fun w' => w'.cell? ⟨wr.heap.size, 0, none⟩ = some (.string y.name) ∧ w'.cell? ⟨wr.heap.size, 1, none⟩ = some (.string y.value)) (first | exact ⟨e0, e1⟩ | exact ⟨d0, d1⟩ | go_keep) (first
        | (go_at_call 82; refine (attr_app N _ AC y wr w4 HO.out hNr HB4.out hlen).mono ?_; rintro e w6 ⟨v6, rfl, ho6, hb6, hk6, hx6⟩; have e0 := hx6.c0; have e1 := hx6.c1; have HO6 := Lib.hid ho6; have HB6 := Lib.hid hb6; have HK6 := Lib.hid hk6; clear ho6 hb6 hk6 hx6)
        | (go_at_call 183; refine (Re.valueOf_any y.value (wr.alloc (.cells #[.string y.name, .string y.value] 51)).drew hys).mono ?_; rintro e w4 ⟨rfl, hb4⟩; have hx4 := (show Bx (wr.alloc (.cells #[.string y.name, .string y.value] 51)).drew wr.heap.size y.name y.value from HBX.out).below hb4; have d0 := hx4.c0; have d1 := hx4.c1; have HX4 := Lib.hid hx4; have HB4 := Lib.hid hb4; clear hx4 hb4))
      go_wp2
      go_roundw
      case rel =>
        have hK2 := HK.out.trans HK6.out
        refine ⟨k + 1, by go_num, by omega, ?_, HB.out.trans HB6.out, hK2⟩
        rw [HAT.out, ← List.append_assoc, HAC.out]
        exact HO6.out
      case measure => simp [intOf]; omega
    · rw [List.take_of_length_le (by omega)] at hown
      have hNr : N ≤ wr.heap.size := Nat.le_trans hN hb.size
      obtain ⟨AC, hAC⟩ : ∃ AC, (acc ++ ([60] ++ L x.ro.name)) ++ x.ro.attrs.flatMap wA = AC := ⟨_, rfl⟩
      have hlen : AC.length + 1 ≤ 140737488355328 := by
        rw [← hAC]
        simp only [List.length_append, List.length_cons, List.length_nil, size_L]
        omega
      rw [hAC] at hown
      have hfin : acc ++ tagW x.ro = AC ++ [62] := by rw [← hAC]; unfold tagW; simp only [List.append_assoc]
      have HO := Lib.hid hown; have HB := Lib.hid hb; have HK := Lib.hid hkb; have HF := Lib.hid hfin; clear hown hb hkb hAC hfin
      go_wp2_with (at_builtin; refine app_bytek wr rfl (.tmp 28) (.tmp 29) rfl N _ AC 62 rfl HO.out rfl hlen hNr ?_; intro v4 w4 hown4 hb4 hk4')
      go_ret
      exact ⟨v4, rfl, by rw [HF.out]; exact hown4, HB.out.trans hb4, HK.out.trans hk4'⟩

theorem holds_any (x : Cw) (w : World) :
    Calls Tryz.prog 77 #[rowV x] w fun e w' => e = .returned (.bool (holds x.ro)) ∧ Below w.heap.size w w' := by
  have hb1 := below_new w (rowO x)
  have ht1 := Rb.new w x
  obtain ⟨c0, c1, c2, c3, c4⟩ := ht1.c
  have HB1 := Lib.hid hb1
  clear hb1 ht1
  cases hk : x.ro.kind == 0 with
  | false =>
    have HH := Lib.hid (show holds x.ro = false by unfold holds; rw [hk]; rfl)
    go_enter Tryz.func77, Tryz.ntmps77
    go_wp2
    go_ret
    rw [HH.out]
    exact ⟨rfl, HB1.out⟩
  | true =>
    have HH := Lib.hid (show holds x.ro = !isIn x.ro.name voidL by unfold holds; rw [hk]; rfl)
    go_enter Tryz.func77, Tryz.ntmps77
    go_wp2_with fail
    refine (Na.void_any _ _).mono ?_
    rintro e w2 ⟨rfl, b2⟩
    have HB2 := Lib.hid (bt HB1.out b2)
    clear b2
    go_wp2
    go_ret
    rw [HH.out]
    exact ⟨rfl, HB2.out⟩

end Go.Proofs.YtgjlfcamgkeibaaGreatDoor.Wr

namespace Go.Proofs.YtgjlfcamgkeibaaGreatDoor.Wr
set_option maxRecDepth 100000
set_option linter.unusedSimpArgs false
set_option linter.unusedVariables false
open Go.RowKit Ba Fm Fo Nm Wm
open Ro (At Ro Cw ros rowO rowV acells len_acells below_new Sh Ra acells_one info_attr range2 range5)
open Tm (bulkA)
open To (Kb Ls Bx app_strk flat2 flat3 flat5 flat_le flat_take bulk_at)
open Rm (dec esc)
set_option maxRecDepth 100000 in
set_option maxHeartbeats 1000000 in
theorem appendNode_any (N M : Nat) (v : Value) (acc : List UInt8) (x : Cw) (raw : Bool) (w : World) (ho : OwnB N w v acc) (hN : N ≤ w.heap.size) (hx : Ro.Att w M x) (hM : M ≤ N) (hk : rb x.ro ≤ 10000000) (hz : acc.length ≤ 70000000000000) :
    Calls Tryz.prog 80 #[v, rowV x, .bool raw] w fun e w' => ∃ v', e = .returned v' ∧ OwnB N w' v' (acc ++ node raw x.ro) ∧ Below N w w' ∧ Kb w w' := by
  have hds : x.ro.data.size ≤ 10000000 := by unfold rb at hk; omega
  have hel := (Rm.len_esc false (L x.ro.data)).2.1
  rw [size_L] at hel
  have hz1 : (w.alloc (rowO x)).heap.size = w.heap.size + 1 := by simp
  have hN1 : N ≤ (w.alloc (rowO x)).heap.size := by omega
  have ho1 : OwnB N (w.alloc (rowO x)) v acc := ho.alloc _
  have hB1 : Below N w (w.alloc (rowO x)) := (Below.refl N w).alloc hN _
  have hK1 := kb_alloc w (rowO x)
  have hx1 : Ro.Att (w.alloc (rowO x)) M x := hx.below hB1 hM
  obtain ⟨c0, c1, c2, c3, c4⟩ := (Rb.new w x).c
  have HO := Lib.hid ho1; have HB := Lib.hid hB1; have HK := Lib.hid hK1; have HX := Lib.hid hx1
  clear ho1 hB1 hK1 hx1 hz1 hx ho
  by_cases h0 : x.ro.kind = 0
  · have g0 : (x.ro.kind == 0) = true := beq_iff_eq.2 h0
    have HN := Lib.hid (show node raw x.ro = tagW x.ro by unfold node; rw [if_pos h0])
    clear h0
    go_enter Tryz.func80, Tryz.ntmps80
    go_wp2_with fail
    refine (appendTag_any N M v acc x (w.alloc (rowO x)) HO.out hN1 HX.out hM hk hz).mono ?_
    rintro e w2 ⟨v2, rfl, ho2, hb2, hk2⟩
    have HO2 := Lib.hid ho2; have HB2 := Lib.hid (HB.out.trans hb2); have HK2 := Lib.hid (HK.out.trans hk2)
    clear ho2 hb2 hk2
    go_wp2
    go_ret
    exact ⟨v2, rfl, by rw [HN.out]; exact HO2.out, HB2.out, HK2.out⟩
  have g0 : (x.ro.kind == 0) = false := beq_eq_false_iff_ne.2 h0
  by_cases h1 : x.ro.kind = 1
  · have g1 : (x.ro.kind == 1) = true := beq_iff_eq.2 h1
    cases raw with
    | true =>
      have HN := Lib.hid (show node true x.ro = L x.ro.data by unfold node; rw [if_neg h0, if_pos h1, if_pos rfl])
      clear h0 h1
      go_enter Tryz.func80, Tryz.ntmps80
      go_wp2_with (at_builtin; refine app_strk (w.alloc (rowO x)) rfl (.tmp 17) (.tmp 19) rfl N _ acc x.ro.data rfl HO.out rfl (by omega) hN1 ?_; intro v4 w4 hown4 hb4 hk4)
      go_ret
      exact ⟨v4, rfl, by rw [HN.out]; exact hown4, HB.out.trans hb4, HK.out.trans hk4⟩
    | false =>
      have HN := Lib.hid (show node false x.ro = esc false (L x.ro.data) by unfold node; rw [if_neg h0, if_pos h1, if_neg (by simp)])
      clear h0 h1
      go_enter Tryz.func80, Tryz.ntmps80
      go_wp2_with fail
      refine (Re.text_any x.ro.data (w.alloc (rowO x)) hds).mono ?_
      rintro e w2 ⟨rfl, b2⟩
      have HO2 := Lib.hid (OwnB.keep HO.out b2); have HB2 := Lib.hid (HB.out.trans (b2.mono hN1)); have HK2 := Lib.hid (HK.out.trans (Kb.below b2))
      have hN2 : N ≤ w2.heap.size := Nat.le_trans hN1 b2.size
      clear b2
      go_wp2_with (at_builtin; refine app_strk w2 rfl (.tmp 21) (.tmp 24) rfl N _ acc (B (esc false (L x.ro.data))) rfl HO2.out rfl (by rw [size_B]; omega) hN2 ?_; intro v4 w4 hown4 hb4 hk4)
      rw [L_B] at hown4
      go_ret
      exact ⟨v4, rfl, by rw [HN.out]; exact hown4, HB2.out.trans hb4, HK2.out.trans hk4⟩
  have g1 : (x.ro.kind == 1) = false := beq_eq_false_iff_ne.2 h1
  by_cases h2 : x.ro.kind = 2
  · have g2 : (x.ro.kind == 2) = true := beq_iff_eq.2 h2
    have HN := Lib.hid (show node raw x.ro = L ⟨#[60, 33, 45, 45]⟩ ++ (L x.ro.data ++ L ⟨#[45, 45, 62]⟩) by unfold node; rw [if_neg h0, if_neg h1, if_pos h2, List.append_assoc])
    clear h0 h1 h2
    go_enter Tryz.func80, Tryz.ntmps80
    go_wp2_with fail
    rw [← show (w.alloc (rowO x)).heap.size = w.heap.size + 1 from by simp]
    refine (lit_app3 N v acc ⟨#[60, 33, 45, 45]⟩ x.ro.data ⟨#[45, 45, 62]⟩ (w.alloc (rowO x)) HO.out hN1 (by show acc.length + (4 + (_ + 3)) ≤ _; omega)).mono ?_
    rintro e w2 ⟨v2, rfl, ho2, hb2, hk2⟩
    rw [← HN.out] at ho2
    have HO2 := Lib.hid ho2; have HB2 := Lib.hid (HB.out.trans hb2); have HK2 := Lib.hid (HK.out.trans hk2)
    clear ho2 hb2 hk2
    go_wp2
    go_ret
    exact ⟨v2, rfl, HO2.out, HB2.out, HK2.out⟩
  · have g2 : (x.ro.kind == 2) = false := beq_eq_false_iff_ne.2 h2
    have HN := Lib.hid (show node raw x.ro = [] by unfold node; rw [if_neg h0, if_neg h1, if_neg h2])
    clear h0 h1 h2
    go_enter Tryz.func80, Tryz.ntmps80
    go_wp2
    go_ret
    exact ⟨v, rfl, by rw [HN.out, List.append_nil]; exact HO.out, HB.out, HK.out⟩

end Go.Proofs.YtgjlfcamgkeibaaGreatDoor.Wr

namespace Go.Proofs.YtgjlfcamgkeibaaGreatDoor.Wr
set_option linter.unusedSimpArgs false
set_option linter.unusedVariables false
open Go.RowKit Ba Fm Fo Nm Wm
open Ro (At Ro Cw ros rowO rowV below_new range5)
open To (Kb)
def K2 (w w' : World) : Prop := w.heap.size ≤ w'.heap.size ∧ ∀ (i : Nat) (cs : Array Value) (t : TypeId) (fr : Nat × Nat), w.heap[i]? = some (.cells cs t fr) → t ≠ 5 → t ≠ 88 → w'.heap[i]? = w.heap[i]?
theorem K2.refl (w : World) : K2 w w := ⟨Nat.le_refl _, fun _ _ _ _ _ _ _ => rfl⟩
theorem K2.trans {a b c : World} (h : K2 a b) (k : K2 b c) : K2 a c := ⟨Nat.le_trans h.1 k.1, fun i cs t fr hi ht hu => by
  have h1 := h.2 i cs t fr hi ht hu
  exact (k.2 i cs t fr (h1.trans hi) ht hu).trans h1⟩
theorem K2.kb {w w' : World} (h : Kb w w') : K2 w w' := ⟨h.1, fun i cs t fr hi ht _ => h.2 i cs t fr hi ht⟩
theorem K2.below {w w' : World} (h : Below w.heap.size w w') : K2 w w' := K2.kb (Kb.below h)
theorem grown_set (w : World) (b j : Nat) (u : Value) : w.grownBy (w.setCell ⟨b, j, none⟩ u) (some b) :=
  ⟨rfl, rfl, rfl, by simp [World.setCell], fun k _ hk => Below.heap_setCell _ _ _ _ (fun e => hk (by simp [e]))⟩
theorem K2.set {w : World} {b : Nat} {cs : Array Value} {fr : Nat × Nat} (h : w.heap[b]? = some (.cells cs 88 fr)) (u : Value) : K2 w (w.setCell ⟨b, 0, none⟩ u) :=
  ⟨(grown_set w b 0 u).size, fun i cs' t fr' hi _ hu => (grown_set w b 0 u).block i (Array.getElem?_eq_some_iff.1 hi).1 fun e => by
    injection e with e
    subst e
    rw [h] at hi
    injection hi with hi
    injection hi with _ h2
    exact hu h2.symm⟩
theorem Rb.k2 {w w' : World} {g : Nat} {x : Cw} (h : Rb w g x) (k : K2 w w') : Rb w' g x := (k.2 g _ _ _ h (by decide) (by decide)).trans h

abbrev Fv (bl bo bk : Nat) : Value := .func (.func 78) #[] #[.pointer (some ⟨bl, 0, none⟩), .pointer (some ⟨bo, 0, none⟩), .pointer (some ⟨bk, 0, none⟩)]
structure Cl (N : Nat) (w : World) (bl bo bk : Nat) (A : Option Addr) (c : Nat) (l : List Cw) (acc : List UInt8) : Prop where
  l_ : w.heap[bl]? = some (.cells #[.slice A l.length c] 22)
  o_ : ∃ vo, w.heap[bo]? = some (.cells #[vo] 88) ∧ OwnB N w vo acc
  k_ : w.heap[bk]? = some (.cells #[Fv bl bo bk] 89)
  rows : Ro.Rr w N A l
  base : N ≤ bo
  cap : l.length ≤ c
section
variable {N bl bo bk c : Nat} {A : Option Addr} {l : List Cw} {acc acc' : List UInt8} {w w1 : World}
theorem Cl.size (h : Cl N w bl bo bk A c l acc) : N ≤ w.heap.size := by
  obtain ⟨vo, ho, _⟩ := h.o_
  exact Nat.le_trans h.base (Nat.le_of_lt (Array.getElem?_eq_some_iff.1 ho).1)
theorem Cl.below (h : Cl N w bl bo bk A c l acc) (hb : Below w.heap.size w w1) : Cl N w1 bl bo bk A c l acc := by
  obtain ⟨vo, ho, hown⟩ := h.o_
  exact ⟨(hb.block _ (Array.getElem?_eq_some_iff.1 h.l_).1).trans h.l_, ⟨vo, (hb.block _ (Array.getElem?_eq_some_iff.1 ho).1).trans ho, OwnB.keep hown hb⟩, (hb.block _ (Array.getElem?_eq_some_iff.1 h.k_).1).trans h.k_, h.rows.below hb h.size, h.base, h.cap⟩
theorem Cl.cl (h : Cl N w bl bo bk A c l acc) : w.cell? ⟨bl, 0, none⟩ = some (.slice A l.length c) := by rw [cell_of_row w bl 0 _ _ _ h.l_]; rfl
theorem Cl.ck (h : Cl N w bl bo bk A c l acc) : w.cell? ⟨bk, 0, none⟩ = some (Fv bl bo bk) := by rw [cell_of_row w bk 0 _ _ _ h.k_]; rfl
theorem Cl.co (h : Cl N w bl bo bk A c l acc) : ∃ vo, w.cell? ⟨bo, 0, none⟩ = some vo ∧ OwnB N w vo acc := by
  obtain ⟨vo, ho, hown⟩ := h.o_
  exact ⟨vo, by rw [cell_of_row w bo 0 _ _ _ ho]; rfl, hown⟩
theorem Cl.mid (h : Cl N w bl bo bk A c l acc) (hk : Kb w w1) : (∃ u, w1.cell? ⟨bo, 0, none⟩ = some u) ∧ w1.frozen? ⟨bo, 0, none⟩ = false := by
  obtain ⟨vo, ho, _⟩ := h.o_
  have h1 := (hk.2 bo _ _ _ ho (by decide)).trans ho
  exact ⟨⟨vo, by rw [cell_of_row w1 bo 0 _ _ _ h1]; rfl⟩, by simp [World.frozen?, h1]⟩
theorem Cl.put (h : Cl N w bl bo bk A c l acc) (hb : Below N w w1) (hk : Kb w w1) {v : Value} (ho : OwnB N w1 v acc') :
    Cl N (w1.setCell ⟨bo, 0, none⟩ v) bl bo bk A c l acc' ∧ Below N w (w1.setCell ⟨bo, 0, none⟩ v) ∧ K2 w (w1.setCell ⟨bo, 0, none⟩ v) := by
  obtain ⟨vo, ho0, _⟩ := h.o_
  have h1 := (hk.2 bo _ _ _ ho0 (by decide)).trans ho0
  have hg := grown_set w1 bo 0 v
  have hbw : Below N w (w1.setCell ⟨bo, 0, none⟩ v) := hb.setCell h.base v
  have hk2 : K2 w (w1.setCell ⟨bo, 0, none⟩ v) := (K2.kb hk).trans (K2.set h1 v)
  refine ⟨⟨(hk2.2 bl _ _ _ h.l_ (by decide) (by decide)).trans h.l_, ⟨v, ?_, ?_⟩, (hk2.2 bk _ _ _ h.k_ (by decide) (by decide)).trans h.k_, h.rows.below hbw (Nat.le_refl _), h.base, h.cap⟩, hbw, hk2⟩
  · simp [World.setCell, Array.getElem?_modify, h1]
  · exact World.ownsRow.kept ho hg (.inr (To.own_ne ho h1 (by decide)))
end

def rest (l : List Ro) (D : Int) (s : Nat) : List Ro := (l.drop s).takeWhile (deep D)
theorem tw_tw {α : Type} (p q : α → Bool) (h : ∀ x, p x = true → q x = true) : ∀ l : List α, (l.takeWhile q).takeWhile p = l.takeWhile p
  | [] => rfl
  | a :: l => by
    cases hq : q a with
    | true => rw [List.takeWhile_cons, if_pos hq, List.takeWhile_cons, List.takeWhile_cons, tw_tw p q h l]
    | false =>
      have hp : p a = false := by cases hp : p a with | false => rfl | true => rw [h a hp] at hq; cases hq
      rw [List.takeWhile_cons, if_neg (by rw [hq]; simp), List.takeWhile_cons, if_neg (by rw [hp]; simp)]; rfl
theorem dw_tw {α : Type} (p q : α → Bool) (h : ∀ x, p x = true → q x = true) : ∀ l : List α, (l.takeWhile q).dropWhile p = (l.dropWhile p).takeWhile q
  | [] => rfl
  | a :: l => by
    cases hp : p a with
    | true => rw [List.takeWhile_cons, if_pos (h a hp), List.dropWhile_cons, if_pos hp, List.dropWhile_cons, if_pos hp, dw_tw p q h l]
    | false =>
      rw [List.dropWhile_cons (p := p) (x := a) (xs := l), if_neg (by rw [hp]; simp)]
      cases hq : q a with
      | true => rw [List.takeWhile_cons, if_pos hq, List.dropWhile_cons, if_neg (by rw [hp]; simp)]
      | false => rw [List.takeWhile_cons, if_neg (by rw [hq]; simp)]; rfl
theorem dw_drop {α : Type} (p : α → Bool) : ∀ l : List α, l.dropWhile p = l.drop (l.takeWhile p).length
  | [] => rfl
  | a :: l => by
    cases hp : p a with
    | true => rw [List.dropWhile_cons, if_pos hp, List.takeWhile_cons, if_pos hp, List.length_cons, List.drop_succ_cons, dw_drop p l]
    | false => rw [List.dropWhile_cons, if_neg (by rw [hp]; simp), List.takeWhile_cons, if_neg (by rw [hp]; simp)]; rfl
theorem rest_stop {l : List Ro} {D : Int} {s : Nat} (h : ∀ x, l[s]? = some x → ¬ D < x.depth) : rest l D s = [] := by
  unfold rest
  cases hd : l.drop s with
  | nil => rfl
  | cons x r =>
    have hx : l[s]? = some x := by
      have := congrArg List.head? hd
      rw [List.head?_drop] at this
      exact this
    rw [List.takeWhile_cons, if_neg (by unfold deep; simpa using h x hx)]
theorem rest_go {l : List Ro} {D : Int} {s : Nat} {x : Ro} (hx : l[s]? = some x) (h : D < x.depth) :
    rest l D s = x :: rest l D (s + 1) ∧ inn x (rest l D (s + 1)) = rest l x.depth (s + 1) ∧ beh x (rest l D (s + 1)) = rest l D (s + 1 + (rest l x.depth (s + 1)).length) := by
  have hlt : s < l.length := (List.getElem?_eq_some_iff.1 hx).1
  have hd : l.drop s = x :: l.drop (s + 1) := by
    rw [List.drop_eq_getElem_cons hlt]
    rw [List.getElem?_eq_getElem hlt] at hx
    injection hx with hx
    rw [hx]
  have himp : ∀ y : Ro, deep x.depth y = true → deep D y = true := fun y hy => by
    unfold deep at hy ⊢
    rw [decide_eq_true_iff] at hy ⊢
    omega
  refine ⟨?_, tw_tw _ _ himp _, ?_⟩
  · unfold rest
    rw [hd, List.takeWhile_cons, if_pos (by unfold deep; exact decide_eq_true h)]
  · unfold beh rest
    rw [dw_tw _ _ himp, dw_drop, List.drop_drop]
theorem wr_rest {raw : Bool} {l : List Ro} {D : Int} {s : Nat} {x : Ro} (hx : l[s]? = some x) (h : D < x.depth) :
    Wm.wr raw (rest l D s) = node raw x ++ ((if holds x = true then Wm.wr (isIn x.name rawL) (rest l x.depth (s + 1)) ++ endW x else []) ++ Wm.wr raw (rest l D (s + 1 + (rest l x.depth (s + 1)).length))) := by
  obtain ⟨h1, h2, h3⟩ := rest_go hx h
  rw [h1, Wm.wr_cons, h2, h3]
theorem len_rest {l : List Ro} {D : Int} {s : Nat} {x : Ro} (hx : l[s]? = some x) (h : D < x.depth) :
    s + (rest l D s).length = (s + 1 + (rest l x.depth (s + 1)).length) + (rest l D (s + 1 + (rest l x.depth (s + 1)).length)).length := by
  obtain ⟨h1, h2, h3⟩ := rest_go hx h
  have := len_parts x (rest l D (s + 1))
  rw [h2, h3] at this
  rw [h1, List.length_cons]
  omega
theorem rest_le {l : List Ro} {D : Int} {s : Nat} (hs : s ≤ l.length) : s + (rest l D s).length ≤ l.length := by
  have := (List.takeWhile_sublist (deep D) (l := l.drop s)).length_le
  unfold rest
  rw [List.length_drop] at this
  omega
theorem end_rest {l : List Ro} {k : Nat} {x : Ro} (hx : l[k]? = some x) : Ro.endAt l (k : Int) = k + 1 + (rest l x.depth (k + 1)).length := by
  have hlt : k < l.length := (List.getElem?_eq_some_iff.1 hx).1
  have h1 : Ro.hasRow l (k : Int) = true := by unfold Ro.hasRow; exact decide_eq_true ⟨by omega, by omega⟩
  unfold Ro.endAt
  rw [h1, if_pos rfl]
  unfold Ro.endOf Ro.below rest
  rw [Ro.dep_at hx, show ((k : Int) + 1).toNat = k + 1 by omega]
  rfl

end Go.Proofs.YtgjlfcamgkeibaaGreatDoor.Wr

namespace Go.Proofs.YtgjlfcamgkeibaaGreatDoor.Wr
set_option maxRecDepth 100000
set_option linter.unusedSimpArgs false
set_option linter.unusedVariables false
open Go.RowKit Ba Fm Fo Nm Wm
open Ro (At Ro Cw ros rowO rowV below_new range5 cells)
open To (Kb)
def Par (l : List Ro) (p D : Int) (s : Nat) (raw : Bool) : Prop :=
  (p = -1 ∧ D = -1 ∧ s = 0 ∧ raw = false) ∨ ∃ k x, p = ((k : Nat) : Int) ∧ l[k]? = some x ∧ D = x.depth ∧ s = k + 1 ∧ raw = isIn x.name rawL
def KSays (N bl bo bk : Nat) (A : Option Addr) (c : Nat) (l : List Cw) (w : World) (acc : List UInt8) (D : Int) (s : Nat) (raw : Bool) (e : Ending) (w' : World) : Prop :=
  e = .returned (.int .i64 ((s + (rest (ros l) D s).length : Nat) : Int)) ∧ Cl N w' bl bo bk A c l (acc ++ Wm.wr raw (rest (ros l) D s)) ∧ Below N w w' ∧ K2 w w'
structure KL (N bl bo bk : Nat) (A : Option Addr) (c : Nat) (l : List Cw) (w : World) (acc : List UInt8) (D : Int) (s : Nat) (raw : Bool) (t : Nat) (pre : List UInt8) (wr : World) : Prop where
  cl : Cl N wr bl bo bk A c l (acc ++ pre)
  wrt : pre ++ Wm.wr raw (rest (ros l) D t) = Wm.wr raw (rest (ros l) D s)
  len : t + (rest (ros l) D t).length = s + (rest (ros l) D s).length
  below : Below N w wr
  k2 : K2 w wr
  le : s ≤ t
def KR (N bl bo bk : Nat) (A : Option Addr) (c : Nat) (l : List Cw) (w : World) (acc : List UInt8) (D : Int) (s : Nat) (raw : Bool) (t : Nat) (wr : World) : Prop := ∃ pre, KL N bl bo bk A c l w acc D s raw t pre wr

theorem ros_get {l : List Cw} {k : Nat} {x : Cw} (h : l.drop k = x :: l.drop (k + 1)) : (ros l)[k]? = some x.ro := by
  have := congrArg List.head? h
  rw [List.head?_drop] at this
  unfold ros
  rw [List.getElem?_map, this]; rfl
theorem own_slice {N : Nat} {w : World} {v : Value} {l : List UInt8} (h : OwnB N w v l) : ∃ A n c, v = .slice A n c := by
  rcases h.2 with ⟨rfl, _⟩ | ⟨g, cap, cur, rfl, _⟩
  · exact ⟨_, _, _, rfl⟩
  · exact ⟨_, _, _, rfl⟩
set_option maxRecDepth 100000 in
set_option maxHeartbeats 4000000 in
theorem kids_step (N bl bo bk c n : Nat) (A : Option Addr) (l : List Cw) (hl : l.length ≤ 1000000) (hrb : ∀ x ∈ l, rb x.ro ≤ 10000000)
    (ih : ∀ (acc : List UInt8) (p D : Int) (s : Nat) (raw : Bool) (w : World), Cl N w bl bo bk A c l acc → Par (ros l) p D s raw → s ≤ l.length → (rest (ros l) D s).length < n → acc.length + (Wm.wr raw (rest (ros l) D s)).length ≤ 70000000000000 →
      Calls Tryz.prog 78 #[.int .i64 p, .pointer (some ⟨bl, 0, none⟩), .pointer (some ⟨bo, 0, none⟩), .pointer (some ⟨bk, 0, none⟩)] w fun e w' => KSays N bl bo bk A c l w acc D s raw e w')
    (acc : List UInt8) (p D : Int) (s : Nat) (raw : Bool) (w : World) (hcl : Cl N w bl bo bk A c l acc) (hp : Par (ros l) p D s raw) (hs : s ≤ l.length) (hn : (rest (ros l) D s).length < n + 1) (hz : acc.length + (Wm.wr raw (rest (ros l) D s)).length ≤ 70000000000000) :
    Calls Tryz.prog 78 #[.int .i64 p, .pointer (some ⟨bl, 0, none⟩), .pointer (some ⟨bo, 0, none⟩), .pointer (some ⟨bk, 0, none⟩)] w fun e w' => KSays N bl bo bk A c l w acc D s raw e w' := by
  have IH := Lib.hid ih
  have HCL := Lib.hid hcl
  have HP := Lib.hid hp
  have HZ := Lib.hid hz
  have HN := Lib.hid hn
  have HRB := Lib.hid hrb
  have cl0 := hcl.cl
  clear ih hcl hz hn hrb
  have hsp : p = (s : Int) - 1 := by
    rcases hp with ⟨h1, _, h3, _⟩ | ⟨k, x, h1, _, _, h4, _⟩
    · rw [h1, h3]; rfl
    · rw [h1, h4]; omega
  have hp1 : (-1 : Int) ≤ p := by omega
  have hp2 : p ≤ 1000000 := by omega
  have HSP := Lib.hid hsp
  clear hp hsp
  go_enter Tryz.func78, Tryz.ntmps78
  go_upto_if 11 with (fail)
  go_cut [6, 7] from 12 to 22 (fun s6 s7 wx => s6 = .int .i64 D ∧ s7 = .bool raw ∧ Below w.heap.size w wx)
  case first =>
    rcases HP.out with ⟨h1, h2, h3, h4⟩ | ⟨k, x, h1, h2, h3, h4, h5⟩
    · subst h1 h2 h4
      go_wp2
      go_meet
      exact ⟨rfl, rfl, Below.refl _ _⟩
    · subst h1 h3 h5
      have hk : k < l.length := by
        have := (List.getElem?_eq_some_iff.1 h2).1
        rwa [Ro.len_ros] at this
      obtain ⟨b, off, y, rfl, hb, hdx, hx, hxa, hxm⟩ := Ro.Rr.at_ HCL.out.rows k hk
      have hy : y.ro = x := by
        have := ros_get hdx
        rw [h2] at this
        injection this with this
        exact this.symm
      subst hy
      have hcc := HCL.out.cap
      obtain ⟨x0, x1, x2, x3, x4⟩ := range5 hx
      have HX0 := Lib.hid x0; have HX2 := Lib.hid x2; have HC0 := Lib.hid cl0
      have hbl : bl < w.heap.size := (Array.getElem?_eq_some_iff.1 HCL.out.l_).1
      have hbw : b < w.heap.size := Nat.lt_of_lt_of_le hb HCL.out.size
      clear h2 h4 hdx hx hxa hxm x1 x3 x4 hb
      go_upto_region 3 with (fail)
      go_region_held3 (fun w' => w'.cell? ⟨bl, 0, none⟩ = some (.slice (some ⟨b, off, none⟩) l.length c) ∧ w'.cell? ⟨b, off + k * 5, none⟩ = some (.int .i64 y.ro.depth) ∧ w'.cell? ⟨b, off + k * 5 + 2, none⟩ = some (.string y.ro.name)) (first | exact ⟨e0, e1, e2⟩ | exact ⟨HC0.out, HX0.out, HX2.out⟩ | go_keep) (first
        | (go_at_call 79; refine (Na.raw_any y.ro.name w.drew).mono ?_; rintro e w2 ⟨rfl, hb2⟩; have e0 := (hb2.cell (p := ⟨bl, 0, none⟩) hbl).trans HC0.out; have e1 := (hb2.cell (p := ⟨b, off + k * 5, none⟩) hbw).trans HX0.out; have e2 := (hb2.cell (p := ⟨b, off + k * 5 + 2, none⟩) hbw).trans HX2.out; have HB2 := Lib.hid hb2; clear hb2))
      all_goals go_wp2
      all_goals go_meet
      all_goals exact ⟨rfl, rfl, ⟨HB2.out.os, HB2.out.tape, HB2.out.output, HB2.out.size, HB2.out.block⟩⟩
  case rest =>
    obtain ⟨rfl, rfl, hbx⟩ := hcut
    have HS0 := Lib.hid (show KR N bl bo bk A c l w acc D s raw s wc from ⟨[], ⟨by rw [List.append_nil]; exact HCL.out.below hbx, rfl, rfl, hbx.mono HCL.out.size, K2.below hbx, Nat.le_refl _⟩⟩)
    have hps : p + 1 = (s : Int) := by have := HSP.out; omega
    clear hbx cl0
    go_wp2
    go_loopw [8] (fun i wr => ∃ t : Nat, i = .int .i64 t ∧ t ≤ l.length ∧ ∃ pre, KL N bl bo bk A c l w acc D s raw t pre wr) (fun i _ => l.length - (intOf i).toNat)
    case atStart => exact ⟨s, by first | rfl | rw [hps], hs, HS0.out⟩
    case round =>
      obtain ⟨t, rfl, ht, pre, hkl⟩ := hrel
      have cl1 := hkl.cl.cl
      have hcp := hkl.cl.cap
      have hbN := hkl.below
      have hNw := hkl.cl.size
      by_cases hp : t < l.length
      · obtain ⟨b, off, x, rfl, hb, hdx, hx, hxa, hxm⟩ := Ro.Rr.at_ hkl.cl.rows t hp
        have hget := ros_get hdx
        obtain ⟨x0, x1, x2, x3, x4⟩ := range5 hx
        have HKL := Lib.hid hkl; have HG := Lib.hid hget; have HXA := Lib.hid hxa; have HXM := Lib.hid hxm; have HBN := Lib.hid hbN
        clear hkl hget hxa hxm hdx hbN
        by_cases hD : D < x.ro.depth
        · clear x1 x2 x3 x4
          have hR1 := Lib.hid (wr_rest (raw := raw) HG.out hD)
          have hR2 := Lib.hid (len_rest HG.out hD)
          go_upto_region 7 with (refine wpList_load_mid rfl 47 (.tmp 40) rfl b (off + t * 5) rfl _ _ hx Tryz.underlying47 rfl Ro.size_row ?_)
          obtain ⟨W1, hW1⟩ : ∃ W1, wr.alloc (rowO x) = W1 := ⟨_, rfl⟩
          have hrb1 : Rb W1 wr.heap.size x := by rw [← hW1]; exact Rb.new wr x
          have hbl1 : Below wr.heap.size wr W1 := by rw [← hW1]; exact below_new wr _
          rw [hW1]
          obtain ⟨g, hg⟩ : ∃ g, wr.heap.size = g := ⟨_, rfl⟩
          rw [hg] at hrb1 ⊢
          clear x0 hx cl1 hb hW1
          have hcl1 := HKL.out.cl.below hbl1
          have hN1 := hcl1.size
          obtain ⟨vo, hco, hown⟩ := hcl1.co
          have hz1 : (acc ++ pre).length + (Wm.wr raw (rest (ros l) D t)).length ≤ 70000000000000 := by
            have h1 := congrArg List.length HKL.out.wrt
            rw [List.length_append] at h1 ⊢
            have := HZ.out
            omega
          have hz2 : (acc ++ pre).length ≤ 70000000000000 := by omega
          have hrx := HRB.out x HXM.out
          have hxa1 : Ro.Att W1 N x := HXA.out.below (hbl1.mono (by omega))
          have HCL1 := Lib.hid hcl1; have HRB1 := Lib.hid hrb1; have HBL1 := Lib.hid hbl1; have HOWN := Lib.hid hown; have HZ1 := Lib.hid hz1; have HXA1 := Lib.hid hxa1; have HGG := Lib.hid hg
          obtain ⟨c0, c1, c2, c3, c4⟩ := hrb1.c
          clear hcl1 hrb1 hbl1 hown hz1 hxa1 hg
          go_wp2_with fail
          refine (appendNode_any N N vo (acc ++ pre) x raw W1 HOWN.out hN1 HXA1.out (Nat.le_refl _) hrx hz2).mono ?_
          rintro e w2 ⟨v2, rfl, ho2, hb2, hk2⟩
          obtain ⟨⟨u, hu⟩, hfr⟩ := HCL1.out.mid hk2
          have HP2 := Lib.hid (HCL1.out.put hb2 hk2 ho2)
          obtain ⟨A2, m2, d2, rfl⟩ : ∃ A n c, v2 = .slice A n c := own_slice ho2
          clear ho2 hb2 hk2 c0 c1 c2 c3 c4 hco
          go_upto_region 8 with (fail)
          obtain ⟨W2, hW2⟩ : ∃ W2, w2.setCell ⟨bo, 0, none⟩ (.slice A2 m2 d2) = W2 := ⟨_, rfl⟩
          have hp2 := HP2.out
          rw [hW2] at hp2 ⊢
          obtain ⟨hcl2, hb2, hk2⟩ := hp2
          have hrb2 := HRB1.out.k2 hk2
          obtain ⟨c0, c1, c2, c3, c4⟩ := hrb2.c
          have cl2 := hcl2.cl
          have ck2 := hcl2.ck
          have hN2 := hcl2.size
          have HCL2 := Lib.hid hcl2; have HB2 := Lib.hid hb2; have HK2 := Lib.hid hk2; have HRB2 := Lib.hid hrb2
          clear HP2 hW2 hcl2 hb2 hk2 hrb2 hu hfr
          obtain ⟨q, hq⟩ : ∃ q, holds x.ro = q := ⟨_, rfl⟩
          have HQ := Lib.hid hq
          clear hq
          go_wp2_with fail
          refine (holds_any x W2).mono ?_
          rw [HQ.out]
          rintro e w3 ⟨rfl, hb3⟩
          have hcl3 := HCL2.out.below hb3
          have hrb3 := HRB2.out.k2 (K2.below hb3)
          have hB3 := HBL1.out.mono (show N ≤ wr.heap.size from hNw) |>.trans (HB2.out.trans (hb3.mono hN2))
          have hK3 := (K2.below HBL1.out).trans (HK2.out.trans (K2.below hb3))
          have cl3 := hcl3.cl
          have ck3 := hcl3.ck
          have hr3 := hcl3.rows.more hcl3.size
          have HCL3 := Lib.hid hcl3; have HB3 := Lib.hid hB3; have HK3 := Lib.hid hK3; have HRB3 := Lib.hid hrb3; have HR3 := Lib.hid hr3
          clear hb3 hcl3 hB3 hK3 hrb3 hr3 cl2 ck2 c0 c1 c2 c3 c4
          have he := end_rest HG.out
          have HE := Lib.hid he
          clear he
          cases q with
          | false =>
            go_wp2_with fail
            refine (Ro.End_any (some ⟨b, off, none⟩) c l (t : Int) w3 HR3.out hcp hl).mono ?_
            rw [HE.out]
            rintro e w4 ⟨rfl, rfl⟩
            go_wp2
            go_roundw
            case rel =>
              have h1 := hR1.out
              rw [HQ.out, if_neg (by simp), List.nil_append] at h1
              refine ⟨t + 1 + (rest (ros l) x.ro.depth (t + 1)).length, rfl, ?_, pre ++ node raw x.ro, ⟨by rw [← List.append_assoc]; exact HCL3.out, ?_, ?_, HBN.out.trans HB3.out, HKL.out.k2.trans HK3.out, by have := HKL.out.le; omega⟩⟩
              · have := rest_le (l := ros l) (D := x.ro.depth) (s := t + 1) (by rw [Ro.len_ros]; omega)
                rw [Ro.len_ros] at this
                exact this
              · rw [List.append_assoc, ← h1]; exact HKL.out.wrt
              · rw [← hR2.out]; exact HKL.out.len
            case measure => simp [intOf]; omega
          | true =>
            have h1 := hR1.out
            rw [HQ.out, if_pos rfl] at h1
            have hlt : (rest (ros l) x.ro.depth (t + 1)).length < n := by
              have e1 := hR2.out; have e2 := HKL.out.len; have e3 := HKL.out.le; have e4 := HN.out
              omega
            have hzz : (acc ++ pre ++ node raw x.ro).length + (Wm.wr (isIn x.ro.name rawL) (rest (ros l) x.ro.depth (t + 1))).length + (endW x.ro).length ≤ 70000000000000 := by
              have e1 := HZ1.out
              rw [h1] at e1
              simp only [List.length_append] at e1 ⊢
              omega
            have H1 := Lib.hid h1; have HLT := Lib.hid hlt; have HZZ := Lib.hid hzz
            clear h1 hlt hzz
            go_wp2_with fail
            refine (IH.out (acc ++ pre ++ node raw x.ro) (t : Int) x.ro.depth (t + 1) (isIn x.ro.name rawL) w3 HCL3.out (.inr ⟨t, x.ro, rfl, HG.out, rfl, rfl, rfl⟩) hp HLT.out (by have := HZZ.out; omega)).mono ?_
            rintro e w4 ⟨rfl, hcl4, hb4, hk4⟩
            obtain ⟨vo4, hco4, hown4⟩ := hcl4.co
            have hrb4 := HRB3.out.k2 hk4
            obtain ⟨c0, c1, c2, c3, c4⟩ := hrb4.c
            have hN4 := hcl4.size
            have hlen4 : (acc ++ pre ++ node raw x.ro ++ Wm.wr (isIn x.ro.name rawL) (rest (ros l) x.ro.depth (t + 1))).length + (2 + (x.ro.name.size + 1)) ≤ 140737488355328 := by
              have e1 := HZZ.out
              unfold rb at hrx
              rw [List.length_append]
              omega
            have HCL4 := Lib.hid hcl4; have HB4 := Lib.hid hb4; have HK4 := Lib.hid hk4; have HO4 := Lib.hid hown4; have HL4 := Lib.hid hlen4
            clear hcl4 hb4 hk4 hown4 hrb4 hlen4 c0 c1 c3 c4 cl3 ck3
            go_wp2_with fail
            refine (lit_app3 N vo4 _ ⟨#[60, 47]⟩ x.ro.name ⟨#[62]⟩ w4 HO4.out hN4 HL4.out).mono ?_
            rintro e w5 ⟨v5, rfl, ho5, hb5, hk5⟩
            obtain ⟨⟨u5', hu5⟩, hfr5⟩ := HCL4.out.mid hk5
            have HP5 := Lib.hid (HCL4.out.put hb5 hk5 ho5)
            obtain ⟨A5, m5, d5, rfl⟩ : ∃ A n c, v5 = .slice A n c := own_slice ho5
            clear ho5 hb5 hk5 c2 hco4
            go_wp2
            go_roundw
            case rel =>
              obtain ⟨hcl5, hb5, hk5⟩ := HP5.out
              refine ⟨t + 1 + (rest (ros l) x.ro.depth (t + 1)).length, rfl, ?_, pre ++ node raw x.ro ++ (Wm.wr (isIn x.ro.name rawL) (rest (ros l) x.ro.depth (t + 1)) ++ endW x.ro), ⟨?_, ?_, ?_, HBN.out.trans (HB3.out.trans (HB4.out.trans hb5)), HKL.out.k2.trans (HK3.out.trans (HK4.out.trans hk5)), by have := HKL.out.le; omega⟩⟩
              · have := rest_le (l := ros l) (D := x.ro.depth) (s := t + 1) (by rw [Ro.len_ros]; omega)
                rw [Ro.len_ros] at this
                exact this
              · have e : acc ++ (pre ++ node raw x.ro ++ (Wm.wr (isIn x.ro.name rawL) (rest (ros l) x.ro.depth (t + 1)) ++ endW x.ro)) = acc ++ pre ++ node raw x.ro ++ Wm.wr (isIn x.ro.name rawL) (rest (ros l) x.ro.depth (t + 1)) ++ (L ⟨#[60, 47]⟩ ++ (L x.ro.name ++ L ⟨#[62]⟩)) := by
                  unfold endW
                  show _ = _ ++ ([60, 47] ++ (L x.ro.name ++ [62]))
                  simp only [List.append_assoc]
                rw [e]; exact hcl5
              · have e := HKL.out.wrt
                rw [H1.out] at e
                rw [← e]
                simp only [List.append_assoc]
              · rw [← hR2.out]; exact HKL.out.len
            case measure => simp [intOf]; omega
        · have hR := rest_stop (l := ros l) (D := D) (s := t) (fun y hy => by rw [HG.out] at hy; injection hy with hy; rw [← hy]; exact hD)
          have HRS := Lib.hid hR
          clear hR x1 x2 x3 x4 hx
          go_wp2
          go_ret
          have h1 := HKL.out.wrt; have h2 := HKL.out.len; have h3 := HKL.out.cl
          rw [HRS.out] at h1 h2
          rw [Wm.wr_nil, List.append_nil] at h1
          rw [h1] at h3
          simp only [List.length_nil, Nat.add_zero] at h2
          exact ⟨by rw [h2]; rfl, h3, HBN.out, HKL.out.k2⟩
      · have hR := rest_stop (l := ros l) (D := D) (s := t) (fun y hy => by have := (List.getElem?_eq_some_iff.1 hy).1; rw [Ro.len_ros] at this; omega)
        have HRS := Lib.hid hR; have HKL := Lib.hid hkl; have HBN := Lib.hid hbN
        clear hR hkl hbN
        go_wp2
        go_ret
        have h1 := HKL.out.wrt; have h2 := HKL.out.len; have h3 := HKL.out.cl
        rw [HRS.out] at h1 h2
        rw [Wm.wr_nil, List.append_nil] at h1
        rw [h1] at h3
        simp only [List.length_nil, Nat.add_zero] at h2
        exact ⟨by rw [h2]; rfl, h3, HBN.out, HKL.out.k2⟩

theorem kids_all (N bl bo bk c : Nat) (A : Option Addr) (l : List Cw) (hl : l.length ≤ 1000000) (hrb : ∀ x ∈ l, rb x.ro ≤ 10000000) : ∀ (n : Nat) (acc : List UInt8) (p D : Int) (s : Nat) (raw : Bool) (w : World), Cl N w bl bo bk A c l acc → Par (ros l) p D s raw → s ≤ l.length → (rest (ros l) D s).length < n → acc.length + (Wm.wr raw (rest (ros l) D s)).length ≤ 70000000000000 →
      Calls Tryz.prog 78 #[.int .i64 p, .pointer (some ⟨bl, 0, none⟩), .pointer (some ⟨bo, 0, none⟩), .pointer (some ⟨bk, 0, none⟩)] w fun e w' => KSays N bl bo bk A c l w acc D s raw e w'
  | 0 => fun _ _ _ _ _ _ _ _ _ h _ => absurd h (Nat.not_lt_zero _)
  | n + 1 => kids_step N bl bo bk c n A l hl hrb (kids_all N bl bo bk c A l hl hrb n)
theorem kids_any (N bl bo bk c : Nat) (A : Option Addr) (l : List Cw) (acc : List UInt8) (p D : Int) (s : Nat) (raw : Bool) (w : World) (hl : l.length ≤ 1000000) (hrb : ∀ x ∈ l, rb x.ro ≤ 10000000) (h : Cl N w bl bo bk A c l acc) (hp : Par (ros l) p D s raw) (hs : s ≤ l.length) (hz : acc.length + (Wm.wr raw (rest (ros l) D s)).length ≤ 70000000000000) :
      Calls Tryz.prog 78 #[.int .i64 p, .pointer (some ⟨bl, 0, none⟩), .pointer (some ⟨bo, 0, none⟩), .pointer (some ⟨bk, 0, none⟩)] w fun e w' => KSays N bl bo bk A c l w acc D s raw e w' :=
  kids_all N bl bo bk c A l hl hrb _ acc p D s raw w h hp hs (Nat.lt_succ_self _) hz

end Go.Proofs.YtgjlfcamgkeibaaGreatDoor.Wr

namespace Go.Proofs.YtgjlfcamgkeibaaGreatDoor.Wr
set_option maxRecDepth 100000
set_option linter.unusedSimpArgs false
set_option linter.unusedVariables false
open Go.RowKit Ba Fm Fo Nm Wm
open Ro (At Ro Cw ros rowO rowV below_new range5 cells)
open To (Kb)
def insideB (l : List Ro) (i : Int) : List UInt8 :=
  if i = -1 then Wm.wr false (rest l (-1) 0)
  else if 0 ≤ i then (match l[i.toNat]? with | some x => if holds x = true then Wm.wr (isIn x.name rawL) (rest l x.depth (i.toNat + 1)) else [] | none => [])
  else []
def goes (l : List Ro) (i : Int) : Bool :=
  decide (i = -1) || (decide (0 ≤ i) && (match l[i.toNat]? with | some x => holds x | none => false))

theorem goes_no {l : List Ro} {i : Int} (h : goes l i = false) : insideB l i = [] := by
  unfold goes at h
  unfold insideB
  rw [Bool.or_eq_false_iff, decide_eq_false_iff_not] at h
  rw [if_neg h.1]
  split
  · rename_i h0
    have h2 := h.2
    rw [decide_eq_true h0, Bool.true_and] at h2
    split
    · rename_i x hx
      rw [hx] at h2
      have h2 : holds x = false := h2
      rw [h2, if_neg (by simp)]
    · rfl
  · rfl
theorem goes_yes {l : List Ro} {i : Int} (h : goes l i = true) : ∃ D s raw, Par l i D s raw ∧ s ≤ l.length ∧ insideB l i = Wm.wr raw (rest l D s) := by
  unfold goes at h
  unfold insideB
  by_cases h1 : i = -1
  · rw [if_pos h1]
    exact ⟨-1, 0, false, .inl ⟨h1, rfl, rfl, rfl⟩, Nat.zero_le _, rfl⟩
  · rw [decide_eq_false h1, Bool.false_or, Bool.and_eq_true, decide_eq_true_iff] at h
    rw [if_neg h1, if_pos h.1]
    have h2 := h.2
    cases hx : l[i.toNat]? with
    | none => rw [hx] at h2; cases h2
    | some x =>
      rw [hx] at h2
      have h2 : holds x = true := h2
      have hlt := (List.getElem?_eq_some_iff.1 hx).1
      refine ⟨x.depth, i.toNat + 1, isIn x.name rawL, .inr ⟨i.toNat, x, by omega, hx, rfl, rfl, rfl⟩, by omega, ?_⟩
      show (if holds x = true then _ else _) = _
      rw [if_pos h2]
theorem goes_in {l : List Ro} {k : Nat} {x : Ro} (hx : l[k]? = some x) : goes l (k : Int) = holds x := by
  unfold goes
  rw [decide_eq_false (by omega), decide_eq_true (by omega), Bool.false_or, Bool.true_and, Int.toNat_natCast, hx]
theorem goes_out {l : List Ro} {i : Int} (h1 : ¬ i = -1) (h2 : ¬ (0 ≤ i ∧ i < l.length)) : goes l i = false := by
  unfold goes
  rw [decide_eq_false h1, Bool.false_or]
  by_cases h0 : 0 ≤ i
  · have : l[i.toNat]? = none := List.getElem?_eq_none (by omega)
    rw [this, Bool.and_false]
  · rw [decide_eq_false h0, Bool.false_and]

theorem ng_no {a n : Bool} (h : a = !n) (h2 : a = false) : n = true := by subst h2; cases n with | false => cases h | true => rfl
theorem ng_yes {a n : Bool} (h : a = !n) (h2 : a = true) : n = false := by subst h2; cases n with | false => rfl | true => cases h

set_option maxRecDepth 100000 in
set_option maxHeartbeats 4000000 in
theorem Inside_any (A : Option Addr) (c : Nat) (l : List Cw) (i : Int) (w : World) (hr : Ro.Rr w w.heap.size A l) (hc : l.length ≤ c) (hl : l.length ≤ 1000000) (hrb : ∀ x ∈ l, rb x.ro ≤ 10000000) (hz : (insideB (ros l) i).length ≤ 70000000000000) :
    Calls Tryz.prog 41 #[.slice A l.length c, .int .i64 i] w fun e w' => e = .returned (.string (B (insideB (ros l) i))) ∧ Below w.heap.size w w' := by
  have HR := Lib.hid hr; have HRB := Lib.hid hrb; have HZ := Lib.hid hz
  clear hr hrb hz
  have hmf : ∀ (fn : Fn) (first cap : Array Value) (w : World), (Instr.makeFunc fn first cap).run Tryz.prog w = .ok (.func fn first cap) w := fun _ _ _ _ => rfl
  go_enter Tryz.func41, Tryz.ntmps41
  go_upto_region 1 with (fail)
  obtain ⟨W1, hW1⟩ : ∃ W1, w.alloc (.cells #[.slice A l.length c] 22) = W1 := ⟨_, rfl⟩
  obtain ⟨bl, hbl⟩ : ∃ bl, w.heap.size = bl := ⟨_, rfl⟩
  have hb1 : Below w.heap.size w W1 := by rw [← hW1]; exact below_new w _
  have hl1 : W1.heap[bl]? = some (.cells #[.slice A l.length c] 22) := by rw [← hW1, ← hbl]; exact heap_alloc_new w _
  have hlt1 : bl < W1.heap.size := (Array.getElem?_eq_some_iff.1 hl1).1
  have hc1 : W1.cell? ⟨bl, 0, none⟩ = some (.slice A l.length c) := by rw [cell_of_row W1 bl 0 _ _ _ hl1]; rfl
  rw [hW1, hbl]
  have HB1 := Lib.hid hb1; have HL1 := Lib.hid hl1; have HBL := Lib.hid hbl
  clear hW1 hb1 hl1 hbl
  obtain ⟨ng, hng⟩ : ∃ ng, goes (ros l) i = !ng := ⟨!goes (ros l) i, by simp⟩
  have HNG := Lib.hid hng
  clear hng
  go_cut [26] from 7 to 26 (fun s26 wx => s26 = .bool ng ∧ Below W1.heap.size W1 wx)
  case first =>
    by_cases h1 : i = -1
    · subst h1
      go_wp2
      go_meet
      exact ⟨by rw [ng_yes HNG.out (by unfold goes; simp)] <;> rfl, Below.refl _ _⟩
    by_cases h2 : 0 ≤ i
    · obtain ⟨k, rfl⟩ : ∃ k : Nat, i = (k : Int) := ⟨i.toNat, by omega⟩
      by_cases h3 : k < l.length
      · obtain ⟨b, off, x, rfl, hb, hdx, hx, hxa, hxm⟩ := Ro.Rr.at_ (HR.out.below HB1.out) k h3
        have hg := goes_in (ros_get hdx)
        obtain ⟨q, hq⟩ : ∃ q, holds x.ro = q := ⟨_, rfl⟩
        have HG := Lib.hid hg; have HQ := Lib.hid hq
        obtain ⟨x0, x1, x2, x3, x4⟩ := range5 hx
        clear hdx hg hq hxa hxm hx
        go_wp2_with fail
        refine (holds_any x W1).mono ?_
        rw [HQ.out]
        rintro e w2 ⟨rfl, hb2⟩
        have HB2 := Lib.hid hb2
        clear hb2
        cases q with
        | true =>
          go_wp2
          go_meet
          exact ⟨by rw [ng_yes HNG.out (HG.out.trans HQ.out)] <;> first | rfl | simp [h1], HB2.out⟩
        | false =>
          go_wp2
          go_meet
          exact ⟨by rw [ng_no HNG.out (HG.out.trans HQ.out)] <;> first | rfl | simp [h1], HB2.out⟩
      · have hg := goes_out (l := ros l) h1 (by rw [Ro.len_ros]; omega)
        have HG := Lib.hid hg
        clear hg
        go_wp2
        go_meet
        exact ⟨by rw [ng_no HNG.out HG.out] <;> first | rfl | simp [h1], Below.refl _ _⟩
    · have hg := goes_out (l := ros l) h1 (by omega)
      have HG := Lib.hid hg
      clear hg
      go_wp2
      go_meet
      exact ⟨by rw [ng_no HNG.out HG.out] <;> first | rfl | simp [h1], Below.refl _ _⟩
  case rest =>
    obtain ⟨rfl, hb2⟩ := hcut
    have HB2 := Lib.hid hb2
    clear hb2 hc1
    cases ng with
    | true =>
      have hno := goes_no HNG.out
      have HN := Lib.hid hno
      clear hno
      go_wp2
      go_ret
      exact ⟨by rw [HN.out]; rfl, HB1.out.trans (HB2.out.mono HB1.out.size)⟩
    | false =>
      obtain ⟨D, s, raw, hp, hs, hins⟩ := goes_yes HNG.out
      rw [Ro.len_ros] at hs
      have HP := Lib.hid hp; have HI := Lib.hid hins
      clear hp hins
      go_upto_region 6 with (fail)
      obtain ⟨W2, hW2⟩ : ∃ W2, wc.alloc (.cells #[.slice none 0 0] 88) = W2 := ⟨_, rfl⟩
      obtain ⟨g, hg⟩ : ∃ g, wc.heap.size = g := ⟨_, rfl⟩
      have hz2 : W2.heap.size = g + 1 := by rw [← hW2, ← hg]; simp
      obtain ⟨W3, hW3⟩ : ∃ W3, W2.alloc (.cells #[Fv bl g (g + 1)] 89) = W3 := ⟨_, rfl⟩
      have hb2 : Below wc.heap.size wc W2 := by rw [← hW2]; exact below_new wc _
      have hb3 : Below W2.heap.size W2 W3 := by rw [← hW3]; exact below_new W2 _
      have ho2 : W2.heap[g]? = some (.cells #[.slice none 0 0] 88) := by rw [← hW2, ← hg]; exact heap_alloc_new wc _
      have ho3 : W3.heap[g]? = some (.cells #[.slice none 0 0] 88) := (hb3.block g (by omega)).trans ho2
      have hk3 : W3.heap[g + 1]? = some (.cells #[Fv bl g (g + 1)] 89) := by rw [← hW3, ← hz2]; exact heap_alloc_new W2 _
      have hb13 : Below W1.heap.size W1 W3 := bt HB2.out (bt hb2 hb3)
      have hl3 : W3.heap[bl]? = some (.cells #[.slice A l.length c] 22) := (hb13.block bl hlt1).trans HL1.out
      have hb03 : Below w.heap.size w W3 := bt HB1.out hb13
      have hgN : w.heap.size ≤ g := by
        rw [← hg]
        exact Nat.le_trans HB1.out.size HB2.out.size
      have hcl : Cl w.heap.size W3 bl g (g + 1) A c l [] := ⟨hl3, ⟨_, ho3, OwnB.nil _ _⟩, hk3, HR.out.below hb03, hgN, hc⟩
      have ck3 := hcl.ck
      rw [hW2, hg, hW3]
      have HCL := Lib.hid hcl; have HB3 := Lib.hid hb03
      clear hW2 hW3 hg hz2 hb2 hb3 ho2 ho3 hk3 hb13 hl3 hb03 hcl hlt1
      have hz0 : ([] : List UInt8).length + (Wm.wr raw (rest (ros l) D s)).length ≤ 70000000000000 := by
        rw [← HI.out]
        have := HZ.out
        simp only [List.length_nil]; omega
      have HZ0 := Lib.hid hz0
      clear hz0
      go_wp2_with fail
      refine (kids_any w.heap.size bl g (g + 1) c A l [] i D s raw W3 hl HRB.out HCL.out HP.out hs HZ0.out).mono ?_
      rintro e w4 ⟨rfl, hcl4, hb4, hk4⟩
      obtain ⟨vo, hco, hown⟩ := hcl4.co
      have hcv := hown.string
      rw [List.nil_append, ← HI.out] at hcv
      have HB4 := Lib.hid (HB3.out.trans hb4)
      clear hcl4 hb4 hk4 hown ck3
      go_wp2
      go_ret
      exact ⟨rfl, HB4.out⟩

theorem Rows_any (A : Option Addr) (c : Nat) (l : List Cw) (w : World) (hr : Ro.Rr w w.heap.size A l) (hc : l.length ≤ c) (hl : l.length ≤ 1000000) (hrb : ∀ x ∈ l, rb x.ro ≤ 10000000) (hz : (insideB (ros l) (-1)).length ≤ 70000000000000) :
    Calls Tryz.prog 22 #[.slice A l.length c] w fun e w' => e = .returned (.string (B (insideB (ros l) (-1)))) ∧ Below w.heap.size w w' := by
  have HR := Lib.hid hr; have HRB := Lib.hid hrb; have HZ := Lib.hid hz
  clear hr hrb hz
  go_enter Tryz.func22, Tryz.ntmps22
  go_wp2_with fail
  refine (Inside_any A c l (-1) w HR.out hc hl HRB.out HZ.out).mono ?_
  rintro e w2 ⟨rfl, hb2⟩
  have HB2 := Lib.hid hb2
  clear hb2
  go_wp2
  go_ret
  exact ⟨rfl, HB2.out⟩

end Go.Proofs.YtgjlfcamgkeibaaGreatDoor.Wr

namespace Go.Proofs.YtgjlfcamgkeibaaGreatDoor.Tm
set_option linter.unusedVariables false
set_option linter.unusedSimpArgs false
open Ba Fm Rm Nm
open Ro (At)
def runF (f : List UInt8 → List UInt8 × Nat) : Nat → List UInt8 → List UInt8
  | 0, _ => []
  | n + 1, l => if l.isEmpty = true then [] else (f l).1 ++ runF f n (l.drop ((f l).2 - 1 + 1))
theorem run_eval (f : List UInt8 → List UInt8 × Nat) : ∀ (n : Nat) (l : List UInt8), l.length ≤ n → run f l = runF f n l
  | 0, l, h => by
    have : l = [] := List.eq_nil_of_length_eq_zero (by omega)
    rw [this, run_nil]
    rfl
  | n + 1, l, h => by
    by_cases he : l = []
    · rw [he, run_nil]; rfl
    · rw [run, dif_neg he]
      have hi : l.isEmpty = false := by simpa using he
      show _ = if l.isEmpty = true then [] else _
      rw [if_neg (by rw [hi]; simp), run_eval f n]
      have : 0 < l.length := List.length_pos_iff.2 he
      rw [List.length_drop]
      omega
def decF (l : List UInt8) : List UInt8 := runF fst l.length l
def escF (q : Bool) (l : List UInt8) : List UInt8 := runF (est q) l.length l
theorem dec_eval : dec = decF := funext fun l => run_eval fst l.length l (Nat.le_refl _)
theorem esc_eval (q : Bool) : esc q = escF q := funext fun l => run_eval (est q) l.length l (Nat.le_refl _)

def valuedF (l : List UInt8) : List UInt8 × List UInt8 :=
  if l.head? = some 61 then (decF (value (trimS (l.drop 1))).1, (value (trimS (l.drop 1))).2) else ([], l)
theorem valued_eval : valued = valuedF := by funext l; unfold valued valuedF; rw [dec_eval]
def attrF (c : UInt8) (r : List UInt8) : At × List UInt8 :=
  (⟨B (lowL (c :: upTo ea r)), B (valuedF (trimS (from_ ea r))).1⟩, (valuedF (trimS (from_ ea r))).2)
theorem attr_eval : attr = attrF := by funext c r; unfold attr attrF; rw [valued_eval]
def attrsF : Nat → Bool → List At → List UInt8 → Option (List At × Bool × List UInt8)
  | 0, _, _, _ => none
  | _ + 1, _, _, [] => none
  | n + 1, self, acc, c :: r => if c = 62 then some (acc, self, r) else if c = 47 ∨ sp c = true then attrsF n (c == 47) acc r else attrsF n false (put acc (attrF c r).1) (attrF c r).2
theorem attrs_eval : ∀ (n : Nat) (self : Bool) (acc : List At) (l : List UInt8), l.length < n → attrs self acc l = attrsF n self acc l
  | 0, _, _, _, h => absurd h (by omega)
  | n + 1, self, acc, [], _ => attrs_nil self acc
  | n + 1, self, acc, c :: r, h => by
    simp only [List.length_cons] at h
    have h3 := len_attr c r
    rw [attrs]
    show _ = if c = 62 then some (acc, self, r) else if c = 47 ∨ sp c = true then attrsF n (c == 47) acc r else attrsF n false (put acc (attrF c r).1) (attrF c r).2
    rw [attrs_eval n _ _ r (by omega), attrs_eval n _ _ (attr c r).2 (by omega), attr_eval]
def contF (n : List UInt8) (l : List UInt8) : List Tk × List UInt8 :=
  if rawB n = true then (txt (lead (isEnd n) l), trail (isEnd n) l)
  else if softB n = true then (txt (decF (lead (isEnd n) l)), trail (isEnd n) l)
  else ([], l)
theorem cont_eval : cont = contF := by funext n l; unfold cont contF; rw [dec_eval]
def startF (l : List UInt8) : List Tk × List UInt8 := match attrsF ((from_ en l).length + 1) false [] (from_ en l) with
  | none => ([], [])
  | some (bs, self, r) => (⟨1, B (lowL (upTo en l)), B [], bs, self⟩ :: (contF (lowL (upTo en l)) r).1, (contF (lowL (upTo en l)) r).2)
def endF (l : List UInt8) : List Tk × List UInt8 := match attrsF ((from_ en l).length + 1) false [] (from_ en l) with
  | none => ([], [])
  | some (bs, self, r) => ([⟨2, B (lowL (upTo en l)), B [], [], false⟩], r)
theorem start_eval : startTag = startF := by funext l; unfold startTag startF; rw [attrs_eval ((from_ en l).length + 1) _ _ _ (Nat.lt_succ_self _), cont_eval]; rfl
theorem end_eval : endTag = endF := by funext l; unfold endTag endF; rw [attrs_eval ((from_ en l).length + 1) _ _ _ (Nat.lt_succ_self _)]; rfl
def mkF (l : List UInt8) : List Tk × List UInt8 :=
  if begun l = 1 then startF (l.drop 1)
  else if begun l = 2 then endF (l.drop 2)
  else if begun l = 3 then ([], l.drop 3)
  else if begun l = 4 then ([⟨3, B [], B (comm (l.drop 4)).1, [], false⟩], (comm (l.drop 4)).2)
  else if begun l = 5 then ([⟨4, B [], B (trimL (closed (l.drop 9)).1), [], false⟩], (closed (l.drop 9)).2)
  else if begun l = 6 then ([⟨3, B [], B (closed (marks (l.drop 1))).1, [], false⟩], (closed (marks (l.drop 1))).2)
  else ([], l)
theorem mk_eval : mk = mkF := by funext l; unfold mk mkF; rw [start_eval, end_eval]
def turnF (l : List UInt8) : List Tk × List UInt8 := (txt (decF (lead bg l)) ++ (mkF (trail bg l)).1, (mkF (trail bg l)).2)
theorem turn_eval : turn = turnF := by funext l; unfold turn turnF; rw [dec_eval, mk_eval]
def cutF : Nat → List UInt8 → List Tk
  | 0, _ => []
  | n + 1, l => if l.isEmpty = true then [] else (turnF l).1 ++ cutF n (turnF l).2
theorem cut_eval : ∀ (n : Nat) (l : List UInt8), l.length ≤ n → cut l = cutF n l
  | 0, l, h => by
    have : l = [] := List.eq_nil_of_length_eq_zero (by omega)
    rw [this]
    exact To.cut_nil
  | n + 1, l, h => by
    by_cases he : l = []
    · rw [he]; exact To.cut_nil
    · have hi : l.isEmpty = false := by simpa using he
      have hl := To.len_turn he
      show _ = if l.isEmpty = true then [] else _
      rw [if_neg (by rw [hi]; simp), To.cut_step he, cut_eval n _ (by omega), turn_eval]
def withinF (n l : List UInt8) : List Tk := (contF n l).1 ++ cutF l.length (contF n l).2
theorem within_eval (n l : List UInt8) : within n l = withinF n l := by
  unfold within withinF
  rw [cut_eval l.length _ (To.len_cont n l), cont_eval]
end Go.Proofs.YtgjlfcamgkeibaaGreatDoor.Tm

namespace Go.Proofs.YtgjlfcamgkeibaaGreatDoor.Bm
set_option linter.unusedVariables false
set_option linter.unusedSimpArgs false
open Ba Fm Nm
open Ro (At Ro)
open Tm (Tk put tx)
def closedF (ns ws : List ByteArray) : Nat → List ByteArray → List ByteArray
  | 0, s => s
  | k + 1, s => match findS ns ws s with
    | none => s
    | some r => closedF ns ws k r
theorem closed_eval (ns ws : List ByteArray) : ∀ (k : Nat) (s : List ByteArray), s.length ≤ k → closedS ns ws s = closedF ns ws k s
  | 0, s, h => by
    obtain rfl : s = [] := List.eq_nil_of_length_eq_zero (by omega)
    rw [closedS_no rfl]
    rfl
  | k + 1, s, h => by
    unfold closedF
    cases hf : findS ns ws s with
    | none => rw [closedS_no hf]
    | some r =>
      rw [closedS_yes hf]
      exact closed_eval ns ws k r (by have := findS_len hf; omega)
def openedF (n : ByteArray) (s : List ByteArray) : List ByteArray :=
  if para n = true then closedF [n_p] (wallsL n_p) s.length (closedF (closesL n) (wallsL n) s.length s) else closedF (closesL n) (wallsL n) s.length s
theorem opened_eval (n : ByteArray) (s : List ByteArray) : openedS n s = openedF n s := by
  unfold openedS openedF
  rw [← closed_eval _ _ s.length s (Nat.le_refl _), ← closed_eval _ _ s.length _ (closedS_end _ _ _).2.length_le]
def stepF (st : St) (t : Tk) : St :=
  if t.kind = 0 then (if t.data = ⟨#[]⟩ then st else ⟨st.stk, addText st.out st.stk.length t.data⟩)
  else if t.kind = 3 then ⟨st.stk, st.out ++ [⟨st.stk.length, 2, ⟨#[]⟩, t.data, []⟩]⟩
  else if t.kind = 1 then (if noName t.name = true then st else ⟨if isIn t.name voidL = true then openedF t.name st.stk else t.name :: openedF t.name st.stk, st.out ++ [⟨(openedF t.name st.stk).length, 0, t.name, ⟨#[]⟩, once t.attrs⟩]⟩)
  else if t.kind = 2 then (if noName t.name = true ∨ isIn t.name voidL = true then st else
    match findS [t.name] (endWalls t.name) st.stk with
    | some r => ⟨r, st.out⟩
    | none => if t.name = n_p then ⟨st.stk, st.out ++ [⟨st.stk.length, 0, n_p, ⟨#[]⟩, []⟩]⟩ else st)
  else st
theorem step_eval (st : St) (t : Tk) : stepB st t = stepF st t := by
  unfold stepB stepF
  rw [← opened_eval]
  rfl
def treeF (st : St) : List Tk → Option (List Ro)
  | [] => some st.out
  | t :: r => if tooBig (stepF st t).out = true then none else treeF (stepF st t) r
theorem tree_eval : ∀ (l : List Tk) (st : St), treeB st l = treeF st l
  | [], st => rfl
  | t :: r, st => by
    show (if tooBig (stepB st t).out = true then none else treeB (stepB st t) r) = (if tooBig (stepF st t).out = true then none else treeF (stepF st t) r)
    rw [step_eval, tree_eval r]
abbrev rE (d : Int) (n : List UInt8) : Ro := ⟨d, 0, B n, ⟨#[]⟩, []⟩
abbrev rT (d : Int) (s : List UInt8) : Ro := ⟨d, 1, ⟨#[]⟩, B s, []⟩
abbrev t1 (n : List UInt8) : Tk := ⟨1, B n, B [], [], false⟩
abbrev t2 (n : List UInt8) : Tk := ⟨2, B n, B [], [], false⟩
end Go.Proofs.YtgjlfcamgkeibaaGreatDoor.Bm

namespace Go.Proofs.YtgjlfcamgkeibaaGreatDoor.Wm
set_option linter.unusedVariables false
set_option linter.unusedSimpArgs false
open Ba Fm Rm Nm Bm
open Ro (At Ro)
open Tm (pre)
open Wr (insideB rest)
def oneR (n s : ByteArray) : List Ro := [⟨0, 0, n, ⟨#[]⟩, []⟩, ⟨1, 1, ⟨#[]⟩, s, []⟩]
theorem in_one (n s : ByteArray) (raw : Bool) : Wm.wr raw [⟨1, 1, ⟨#[]⟩, s, []⟩] = if raw = true then L s else esc false (L s) := by
  rw [wr_cons]
  have : beh (⟨1, 1, ⟨#[]⟩, s, []⟩ : Ro) [] = [] := rfl
  rw [this, wr_nil, holds_no (by decide : (1 : Int) ≠ 0), if_neg (by simp), List.append_nil, List.append_nil]
  unfold node
  rw [if_neg (by decide : ¬ (1 : Int) = 0), if_pos rfl]
theorem wr_one (n s : ByteArray) (hv : isIn n voidL = false) : insideB (oneR n s) (-1) = [60] ++ L n ++ [62] ++ ((if isIn n rawL = true then L s else esc false (L s)) ++ ([60, 47] ++ L n ++ [62])) := by
  unfold insideB
  rw [if_pos rfl]
  have hr : rest (oneR n s) (-1) 0 = oneR n s := rfl
  rw [hr]
  unfold oneR
  rw [wr_cons]
  have h1 : inn (⟨0, 0, n, ⟨#[]⟩, []⟩ : Ro) [⟨1, 1, ⟨#[]⟩, s, []⟩] = [⟨1, 1, ⟨#[]⟩, s, []⟩] := rfl
  have h2 : beh (⟨0, 0, n, ⟨#[]⟩, []⟩ : Ro) [⟨1, 1, ⟨#[]⟩, s, []⟩] = [] := rfl
  have h3 : holds (⟨0, 0, n, ⟨#[]⟩, []⟩ : Ro) = true := by unfold holds; rw [hv]; rfl
  rw [h1, h2, h3, if_pos rfl, wr_nil, List.append_nil, in_one n s]
  unfold node tagW endW
  rw [if_pos rfl, List.flatMap_nil, List.append_nil]
def ppR : List Ro := [⟨0, 0, n_p, ⟨#[]⟩, []⟩, ⟨1, 0, n_p, ⟨#[]⟩, []⟩]
end Go.Proofs.YtgjlfcamgkeibaaGreatDoor.Wm

namespace Go.Proofs.YtgjlfcamgkeibaaGreatDoor.Wr
set_option linter.unusedVariables false
set_option linter.unusedSimpArgs false
open Go.RowKit Ba Ro Wm
open Tm (bulkA)
theorem AttW.cut {w : World} {N : Nat} {x : Cw} (h : Att w N x) : Att w N (cut x (x.ro.attrs.take 6)) :=
  ⟨Nat.le_trans (List.length_take_le' _ _) h.1, h.2.1, h.2.2.1, h.2.2.2.1.take 6, fun a ha => h.2.2.2.2 a (List.mem_of_mem_take ha)⟩
def rsum (l : List Ro) : Nat := (l.map rb).sum
end Go.Proofs.YtgjlfcamgkeibaaGreatDoor.Wr

namespace Go.Proofs.YtgjlfcamgkeibaaGreatDoor.Wm
set_option linter.unusedVariables false
set_option linter.unusedSimpArgs false
open Ba Fm Rm Nm Bm
open Ro (At Ro)
open Wr (insideB rest rsum rb)
theorem rsum_append (a b : List Ro) : rsum (a ++ b) = rsum a + rsum b := by
  unfold rsum
  rw [List.map_append, List.sum_append]
theorem len_node (raw : Bool) (x : Ro) : (node raw x).length + (endW x).length ≤ 6 * rb x + 10 + (if holds x = true then 0 else (endW x).length) := by
  have h1 := Wr.len_wAs x.attrs
  have h2 := (len_esc false (L x.data)).2.1
  rw [size_L] at h2
  have he : (endW x).length = x.name.size + 3 := by
    unfold endW
    simp only [List.length_append, List.length_cons, List.length_nil, size_L]
    omega
  rw [he]
  unfold rb
  unfold node tagW
  by_cases h0 : x.kind = 0
  · rw [if_pos h0]
    simp only [List.length_append, List.length_cons, List.length_nil, size_L]
    split <;> omega
  · have hh : holds x = false := holds_no h0
    rw [if_neg h0]
    have hif : (if holds x = true then 0 else x.name.size + 3) = x.name.size + 3 := by rw [hh]; rfl
    rw [hif]
    by_cases h1 : x.kind = 1
    · rw [if_pos h1]
      cases raw with
      | true => rw [if_pos rfl, size_L]; omega
      | false => rw [if_neg (by simp)]; omega
    · rw [if_neg h1]
      by_cases h2 : x.kind = 2
      · rw [if_pos h2]
        simp only [List.length_append, List.length_cons, List.length_nil, size_L]; omega
      · rw [if_neg h2]
        simp only [List.length_nil]; omega
theorem len_wr (n : Nat) : ∀ (l : List Ro) (raw : Bool), l.length ≤ n → (wr raw l).length ≤ 6 * rsum l + 10 * l.length := by
  induction n with
  | zero =>
    intro l raw h
    obtain rfl : l = [] := List.eq_nil_of_length_eq_zero (by omega)
    rw [wr_nil]; exact Nat.zero_le _
  | succ n ih =>
    intro l raw h
    cases l with
    | nil => rw [wr_nil]; exact Nat.zero_le _
    | cons x r =>
      rw [wr_cons, List.length_append, List.length_append]
      have hp := len_parts x r
      rw [List.length_cons] at h ⊢
      have h1 := ih (inn x r) (isIn x.name rawL) (by omega)
      have h2 := ih (beh x r) raw (by omega)
      have h3 := len_node raw x
      have h4 : rsum (x :: r) = rb x + (rsum (inn x r) + rsum (beh x r)) := by
        rw [← rsum_append, inn_beh]
        unfold rsum
        rw [List.map_cons, List.sum_cons]
      rw [h4]
      cases hh : holds x with
      | true =>
        rw [hh] at h3
        rw [if_pos rfl] at h3 ⊢
        rw [List.length_append]
        omega
      | false =>
        rw [hh] at h3
        rw [if_neg (by simp)] at h3 ⊢
        simp only [List.length_nil]
        omega
theorem rest_rsum (l : List Ro) (D : Int) (s : Nat) : rsum (rest l D s) ≤ rsum l ∧ (rest l D s).length ≤ l.length := by
  have h1 := rsum_append ((l.drop s).takeWhile (deep D)) ((l.drop s).dropWhile (deep D))
  rw [List.takeWhile_append_dropWhile] at h1
  have h2 := rsum_append (l.take s) (l.drop s)
  rw [List.take_append_drop] at h2
  refine ⟨by unfold rest; omega, ?_⟩
  unfold rest
  have := (List.takeWhile_sublist (deep D) (l := l.drop s)).length_le
  rw [List.length_drop] at this
  omega
theorem len_inside (l : List Ro) (i : Int) : (insideB l i).length ≤ 6 * rsum l + 10 * l.length := by
  unfold insideB
  split
  · have h1 := len_wr _ (rest l (-1) 0) false (Nat.le_refl _)
    have h2 := rest_rsum l (-1) 0
    omega
  · split
    · split
      · rename_i x hx
        split
        · have h1 := len_wr _ (rest l x.depth (i.toNat + 1)) (isIn x.name rawL) (Nat.le_refl _)
          have h2 := rest_rsum l x.depth (i.toNat + 1)
          omega
        · exact Nat.zero_le _
      · exact Nat.zero_le _
    · exact Nat.zero_le _

theorem rest_all {l : List Ro} (h : ∀ x ∈ l, 0 ≤ x.depth) : rest l (-1) 0 = l := by
  unfold rest
  rw [List.drop_zero]
  induction l with
  | nil => rfl
  | cons x r ih =>
    rw [List.takeWhile_cons, if_pos (by unfold deep; exact decide_eq_true (by have := h x List.mem_cons_self; omega)), ih fun y hy => h y (List.mem_cons_of_mem _ hy)]
theorem inside_all {l : List Ro} (h : ∀ x ∈ l, 0 ≤ x.depth) : insideB l (-1) = wr false l := by
  unfold insideB
  rw [if_pos rfl, rest_all h]

end Go.Proofs.YtgjlfcamgkeibaaGreatDoor.Wm

namespace Go.Proofs.YtgjlfcamgkeibaaGreatDoor.To
set_option linter.unusedSimpArgs false
set_option linter.unusedVariables false
open Go.RowKit Ba Fm Fo Tm
open Ro (At acells len_acells below_new Sh Ra acells_one info_attr range2 range5)
end Go.Proofs.YtgjlfcamgkeibaaGreatDoor.To

namespace Go.Proofs.YtgjlfcamgkeibaaGreatDoor.To
set_option maxRecDepth 100000
set_option linter.unusedSimpArgs false
set_option linter.unusedVariables false
open Go.RowKit Ba Fm Fo Tm
open Ro (At acells len_acells below_new Sh Ra acells_one info_attr range2 range5 flat_at flat_len)
open Re (Tab)
def Tv (w : World) (V : Value) (t : List Tk) : Prop := ∃ A c l, V = .slice A t.length c ∧ t.length ≤ c ∧ Rr w w.heap.size A l ∧ tks l = t
theorem Tv.below {w w' : World} {V : Value} {t : List Tk} (h : Tv w V t) (hb : Below w.heap.size w w') : Tv w' V t := by
  obtain ⟨A, c, l, e, hc, hr, ht⟩ := h
  exact ⟨A, c, l, e, hc, (hr.below hb).more hb.size, ht⟩
theorem Tv.lit (w : World) (l : List Tw) (h : ∀ x ∈ l, Att w w.heap.size x) : Tv (w.alloc (.cells (l.flatMap cells).toArray 104)) (.slice (some ⟨w.heap.size, 0, none⟩) l.length l.length) (tks l) := by
  refine ⟨_, _, l, by rw [len_tks], by rw [len_tks]; exact Nat.le_refl _, ⟨fun h0 => ⟨w.heap.size, 0, rfl, by simp, fun j hj i u hu => ?_⟩, fun x hx => (h x hx).boxed (Below.refl _ _) _⟩, rfl⟩
  have hi : i < 5 := (List.getElem?_eq_some_iff.1 hu).1
  rw [World.cell?_alloc_mark]
  rw [show 0 + j * 5 + i = j * 5 + i from by omega]
  simp only [List.getElem?_toArray]
  rw [flat_at cells 5 len_cells _ _ _ hj hi]
  exact hu

end Go.Proofs.YtgjlfcamgkeibaaGreatDoor.To

namespace Go.Proofs.YtgjlfcamgkeibaaGreatDoor.Sm
set_option maxRecDepth 100000
set_option linter.unusedSimpArgs false
set_option linter.unusedVariables false
open Go.RowKit Ba
end Go.Proofs.YtgjlfcamgkeibaaGreatDoor.Sm

namespace Go.Proofs.YtgjlfcamgkeibaaGreatDoor.To
set_option linter.unusedSimpArgs false
set_option linter.unusedVariables false
open Go.RowKit Ba Fm Fo Tm
open Re (Tab)
end Go.Proofs.YtgjlfcamgkeibaaGreatDoor.To

namespace Go.Proofs.YtgjlfcamgkeibaaGreatDoor.To
set_option linter.unusedSimpArgs false
set_option linter.unusedVariables false
open Go.RowKit Ba Fm Fo Tm
open Ro (range5)
open Re (Tab)
theorem Tv.one {w : World} {V : Value} {t : Tk} (h : Tv w V [t]) : ∃ b off c x, V = .slice (some ⟨b, off, none⟩) 1 c ∧ 1 ≤ c ∧ x.tk = t ∧ b < w.heap.size ∧ w.rangeAt b off (cells x) := by
  obtain ⟨A, c, l, rfl, hc, hr, ht⟩ := h
  have hl : l.length = 1 := by rw [← len_tks, ht]; rfl
  obtain ⟨b, off, e, hb, hcells⟩ := hr.1 (by omega)
  match l, hl with
  | [x], _ =>
    refine ⟨b, off, c, x, by rw [e]; rfl, hc, by injection ht, hb, ?_⟩
    have := hcells 0 (by simp)
    simpa using this

end Go.Proofs.YtgjlfcamgkeibaaGreatDoor.To

namespace Go.Proofs.YtgjlfcamgkeibaaGreatDoor.To
set_option linter.unusedSimpArgs false
set_option linter.unusedVariables false
open Go.RowKit Ba Fm Fo Tm
open Ro (below_new At acells len_acells Sh Ra range2)
theorem Tb.f {w : World} {g : Nat} {x : Tw} (h : Tb w g x) (j : Nat) : w.frozen? ⟨g, j, none⟩ = false := by
  unfold Tb at h
  simp [World.frozen?, h]
theorem Tb.lt {w : World} {g : Nat} {x : Tw} (h : Tb w g x) : g < w.heap.size := (Array.getElem?_eq_some_iff.1 h).1
theorem Tb.below {w w' : World} {g : Nat} {x : Tw} (h : Tb w g x) (hb : Below w.heap.size w w') : Tb w' g x := (hb.block g h.lt).trans h
theorem Tb.kept {w w' : World} {g b : Nat} {x : Tw} (h : Tb w g x) (hg : w.grownBy w' (some b)) (hne : g ≠ b) : Tb w' g x := (hg.block g h.lt (by simpa using hne)).trans h
theorem Tb.other {w : World} {g b j : Nat} {x : Tw} (h : Tb w g x) (hne : g ≠ b) (u : Value) : Tb (w.setCell ⟨b, j, none⟩ u) g x := h.kept (g_set w b j u) hne
theorem Tb.set2 {w : World} {g : Nat} {x : Tw} (h : Tb w g x) (d : ByteArray) : Tb (w.setCell ⟨g, 2, none⟩ (.string d)) g ⟨⟨x.tk.kind, x.tk.name, d, x.tk.attrs, x.tk.self⟩, x.A, x.c⟩ := by
  unfold Tb at h ⊢
  simp [World.setCell, Array.getElem?_modify, h]
theorem Tb.set0 {w : World} {g : Nat} {x : Tw} (h : Tb w g x) (k : Int) : Tb (w.setCell ⟨g, 0, none⟩ (.int .i64 k)) g ⟨⟨k, x.tk.name, x.tk.data, x.tk.attrs, x.tk.self⟩, x.A, x.c⟩ := by
  unfold Tb at h ⊢
  simp [World.setCell, Array.getElem?_modify, h]
theorem Tb.set3 {w : World} {g : Nat} {x : Tw} (h : Tb w g x) (A : Option Addr) (c : Nat) (l : List At) : Tb (w.setCell ⟨g, 3, none⟩ (.slice A l.length c)) g ⟨⟨x.tk.kind, x.tk.name, x.tk.data, l, x.tk.self⟩, A, c⟩ := by
  unfold Tb at h ⊢
  simp [World.setCell, Array.getElem?_modify, h]
theorem Tb.over {w : World} {g : Nat} {y : Tw} (h : Tb w g y) (x : Tw) : Tb (((((w.setCell ⟨g, 0, none⟩ (.int .i64 x.tk.kind)).setCell ⟨g, 1, none⟩ (.string x.tk.name)).setCell ⟨g, 2, none⟩ (.string x.tk.data)).setCell ⟨g, 3, none⟩ (.slice x.A x.tk.attrs.length x.c)).setCell ⟨g, 4, none⟩ (.bool x.tk.self)) g x := by
  unfold Tb at h ⊢
  simp [World.setCell, Array.getElem?_modify, h]
abbrev T0 (k : Int) (d : ByteArray) : Tw := ⟨⟨k, ⟨#[]⟩, d, [], false⟩, none, 0⟩
theorem Tb.z {w : World} {g : Nat} {k : Int} {d : ByteArray} (h : Tb w g (T0 k d)) : w.cell? ⟨g, 0, none⟩ = some (.int .i64 k) ∧ w.cell? ⟨g, 1, none⟩ = some (.string ⟨#[]⟩) ∧ w.cell? ⟨g, 2, none⟩ = some (.string d) ∧ w.cell? ⟨g, 3, none⟩ = some (.slice none 0 0) ∧ w.cell? ⟨g, 4, none⟩ = some (.bool false) := h.c

theorem Tb.off {w w' : World} {g N : Nat} {x : Tw} {v : Value} {l : List At} (h : Tb w g x) (hv : Aw N w v l) (hg : w.grownBy w' v.ownBlock) : Tb w' g x :=
  (hg.block g h.lt (fun e => hv.ne h (by decide) e.symm)).trans h
theorem Aw.below {N : Nat} {w w' : World} {A : Option Addr} {c : Nat} {l : List At} (h : Aw N w (.slice A l.length c) l) (hb : Below w.heap.size w w') : Aw N w' (.slice A l.length c) l := Fr.below (h.fr 0 ⟨#[]⟩ ⟨#[]⟩ false) hb
theorem Tb.t {w : World} {g : Nat} {nm : ByteArray} {l : List At} {sf : Bool} {A : Option Addr} {c : Nat} (h : Tb w g ⟨⟨0, nm, ⟨#[]⟩, l, sf⟩, A, c⟩) : w.cell? ⟨g, 0, none⟩ = some (.int .i64 0) ∧ w.cell? ⟨g, 1, none⟩ = some (.string nm) ∧ w.cell? ⟨g, 2, none⟩ = some (.string ⟨#[]⟩) ∧ w.cell? ⟨g, 3, none⟩ = some (.slice A l.length c) ∧ w.cell? ⟨g, 4, none⟩ = some (.bool sf) := h.c
theorem Aw.boxes {N : Nat} {w : World} {v : Value} {l : List At} {g j : Nat} {x : Tw} (h : Aw N w v l) (hb : Tb w g x) (u : Value) : Aw N (w.setCell ⟨g, j, none⟩ u) v l := h.kept (g_set w g j u) (.inr (h.ne hb (by decide)))
theorem Aw.over {N : Nat} {w : World} {v : Value} {l : List At} {g : Nat} {y : Tw} (h : Aw N w v l) (hb : Tb w g y) (nm : ByteArray) (l' : List At) (sf : Bool) (A : Option Addr) (c : Nat) : Aw N (((((w.setCell ⟨g, 0, none⟩ (.int .i64 0)).setCell ⟨g, 1, none⟩ (.string nm)).setCell ⟨g, 2, none⟩ (.string ⟨#[]⟩)).setCell ⟨g, 3, none⟩ (.slice A l'.length c)).setCell ⟨g, 4, none⟩ (.bool sf)) v l := by
  have h1 := h.boxes hb (j := 0) (.int .i64 0)
  have b1 := hb.set0 0
  have h2 := h1.boxes b1 (j := 1) (.string nm)
  have b2 : Tb ((w.setCell ⟨g, 0, none⟩ (.int .i64 0)).setCell ⟨g, 1, none⟩ (.string nm)) g ⟨⟨0, nm, y.tk.data, y.tk.attrs, y.tk.self⟩, y.A, y.c⟩ := by
    unfold Tb at hb ⊢
    simp [World.setCell, Array.getElem?_modify, hb]
  have h3 := h2.boxes b2 (j := 2) (.string ⟨#[]⟩)
  have b3 := b2.set2 ⟨#[]⟩
  have h4 := h3.boxes b3 (j := 3) (.slice A l'.length c)
  have b4 := b3.set3 A c l'
  exact h4.boxes b4 (j := 4) (.bool sf)

end Go.Proofs.YtgjlfcamgkeibaaGreatDoor.To

namespace Go.Proofs.YtgjlfcamgkeibaaGreatDoor.Na
set_option maxRecDepth 100000
set_option linter.unusedSimpArgs false
set_option linter.unusedVariables false
open Go.RowKit Ba Fm Fo Nm
theorem u8_range {c : UInt8} : (decide ((65 : UInt8) ≤ c) && decide (c ≤ 90)) = (decide ((65 : Int) ≤ c.toNat) && decide ((c.toNat : Int) ≤ 90)) := by
  rw [Bool.eq_iff_iff]
  simp only [Bool.and_eq_true, decide_eq_true_eq, UInt8.le_iff_toNat_le]
  have e65 : (65 : UInt8).toNat = 65 := rfl
  have e90 : (90 : UInt8).toNat = 90 := rfl
  rw [e65, e90]
  omega
theorem u8_small {c : UInt8} : small c = (decide ((97 : Int) ≤ c.toNat) && decide ((c.toNat : Int) ≤ 122)) := by
  unfold small
  rw [Bool.eq_iff_iff]
  simp only [Bool.and_eq_true, decide_eq_true_eq, UInt8.le_iff_toNat_le]
  have e65 : (97 : UInt8).toNat = 97 := rfl
  have e90 : (122 : UInt8).toNat = 122 := rfl
  rw [e65, e90]
  omega

def elBAll (s : ByteArray) : Bool := (L s).all elB
def atBAll (s : ByteArray) : Bool := (L s).all atB
theorem all_snoc (p : UInt8 → Bool) (s : ByteArray) (k : Nat) (h : k < s.size) : ((L s).take (k + 1)).all p = (((L s).take k).all p && p s[k]) := by
  rw [take_snoc s k h, List.all_append]; simp
theorem all_no (p : UInt8 → Bool) (s : ByteArray) (k : Nat) (h : k < s.size) (hb : p s[k] = false) : (L s).all p = false := by
  rw [List.all_eq_false]
  exact ⟨s[k], List.getElem_mem (by rw [size_L]; exact h), by simp [hb]⟩

set_option maxHeartbeats 1000000 in
theorem inElement_any (c : UInt8) (w : World) :
    Calls Tryz.prog 191 #[.int .u8 c.toNat] w fun e w' => e = .returned (.bool (elB c)) ∧ w = w' := by
  have e0 : ((c.toNat : Int) == 0) = (c == 0) := u8_eq (b := 0)
  have e47 : ((c.toNat : Int) == 47) = (c == 47) := u8_eq (b := 47)
  have e62 : ((c.toNat : Int) == 62) = (c == 62) := u8_eq (b := 62)
  have hr := u8_range (c := c)
  have he : elB c = !(sp c || (decide ((65 : UInt8) ≤ c) && decide (c ≤ 90)) || c == 0 || c == 47 || c == 62) := rfl
  rw [hr] at he
  obtain ⟨q, hq⟩ : ∃ q, elB c = q := ⟨_, rfl⟩
  rw [hq] at he ⊢
  clear hr hq
  cases h0 : (c == 0) <;> cases h47 : (c == 47) <;> cases h62 : (c == 62)
  all_goals
    rw [h0] at e0
    rw [h47] at e47
    rw [h62] at e62
    rw [h0, h47, h62] at he
    clear h0 h47 h62
  case false.false.false =>
    cases hs : sp c <;> by_cases h1 : (65 : Int) ≤ c.toNat <;> by_cases h2 : (c.toNat : Int) ≤ 90
    all_goals
      have HE := Lib.hid he; have HS := Lib.hid hs
      clear he hs
      first
      | omega
      | (go_enter Tryz.func191, Tryz.ntmps191
         go_wp2_with (go_at_call 220; refine (space_any c _).mono ?_; rw [HS.out]; rintro e w' ⟨rfl, rfl⟩)
         go_ret
         exact ⟨ret_bool (by rw [HE.out, HS.out]; simp [h1, h2]), rfl⟩)
  all_goals
    have HE := Lib.hid he
    clear he
    go_enter Tryz.func191, Tryz.ntmps191
    go_wp2
    go_ret
    exact ⟨ret_bool (by rw [HE.out]; simp), rfl⟩

set_option maxHeartbeats 1000000 in
theorem inAttr_any (c : UInt8) (w : World) :
    Calls Tryz.prog 192 #[.int .u8 c.toNat] w fun e w' => e = .returned (.bool (atB c)) ∧ w = w' := by
  have e34 : ((c.toNat : Int) == 34) = (c == 34) := u8_eq (b := 34)
  have e39 : ((c.toNat : Int) == 39) = (c == 39) := u8_eq (b := 39)
  have e60 : ((c.toNat : Int) == 60) = (c == 60) := u8_eq (b := 60)
  have e61 : ((c.toNat : Int) == 61) = (c == 61) := u8_eq (b := 61)
  have he : atB c = (elB c && !(c == 34 || c == 39 || c == 60 || c == 61)) := rfl
  obtain ⟨q, hq⟩ : ∃ q, atB c = q := ⟨_, rfl⟩
  rw [hq] at he ⊢
  clear hq
  cases h34 : (c == 34) <;> cases h39 : (c == 39) <;> cases h60 : (c == 60) <;> cases h61 : (c == 61)
  all_goals
    rw [h34] at e34
    rw [h39] at e39
    rw [h60] at e60
    rw [h61] at e61
    rw [h34, h39, h60, h61] at he
    clear h34 h39 h60 h61
    have HE := Lib.hid he
    clear he
    go_enter Tryz.func192, Tryz.ntmps192
    go_wp2_with (go_at_call 191; refine (inElement_any c _).mono ?_; rintro e w' ⟨rfl, rfl⟩)
    go_ret
    exact ⟨ret_bool (by rw [HE.out]; simp), rfl⟩

set_option maxHeartbeats 1000000 in
theorem every_el (s : ByteArray) (w : World) (hs : s.size ≤ 140737488355328) :
    Calls Tryz.prog 190 #[.string s, .func (.func 191) #[] #[]] w fun e w' => e = .returned (.bool (elBAll s)) ∧ w = w' := by
  go_enter Tryz.func190, Tryz.ntmps190
  go_wp2
  go_loop [8] (fun i => ∃ k : Nat, i = .int .i64 k ∧ k ≤ s.size ∧ ((L s).take k).all elB = true) (fun i => s.size - (intOf i).toNat)
  case atStart => exact ⟨0, rfl, Nat.zero_le _, by simp⟩
  case round =>
    obtain ⟨k, rfl, hks, hn⟩ := hrel
    by_cases hp : k < s.size
    · have hsn := all_snoc elB s k hp
      rw [hn] at hsn
      cases hb : elB s[k] with
      | true =>
        rw [hb] at hsn
        have HB := Lib.hid hb; have HS := Lib.hid hsn; clear hb hsn hn
        go_wp2_with (go_at_call 191; refine (inElement_any s[k] _).mono ?_; rw [HB.out]; rintro e w' ⟨rfl, rfl⟩)
        go_round
        case rel => exact ⟨k + 1, by go_num, by omega, HS.out⟩
        case measure => simp [intOf]; omega
      | false =>
        have hno : elBAll s = false := all_no elB s k hp hb
        have HB := Lib.hid hb; have HN := Lib.hid hno; clear hb hsn hn hno
        go_wp2_with (go_at_call 191; refine (inElement_any s[k] _).mono ?_; rw [HB.out]; rintro e w' ⟨rfl, rfl⟩)
        go_ret
        exact ⟨ret_bool HN.out.symm, rfl⟩
    · rw [List.take_of_length_le (by rw [size_L]; omega)] at hn
      have hn : elBAll s = true := hn
      have HN := Lib.hid hn; clear hn
      go_wp2
      go_ret
      exact ⟨ret_bool HN.out.symm, rfl⟩
set_option maxHeartbeats 1000000 in
theorem every_at (s : ByteArray) (w : World) (hs : s.size ≤ 140737488355328) :
    Calls Tryz.prog 190 #[.string s, .func (.func 192) #[] #[]] w fun e w' => e = .returned (.bool (atBAll s)) ∧ w = w' := by
  go_enter Tryz.func190, Tryz.ntmps190
  go_wp2
  go_loop [8] (fun i => ∃ k : Nat, i = .int .i64 k ∧ k ≤ s.size ∧ ((L s).take k).all atB = true) (fun i => s.size - (intOf i).toNat)
  case atStart => exact ⟨0, rfl, Nat.zero_le _, by simp⟩
  case round =>
    obtain ⟨k, rfl, hks, hn⟩ := hrel
    by_cases hp : k < s.size
    · have hsn := all_snoc atB s k hp
      rw [hn] at hsn
      cases hb : atB s[k] with
      | true =>
        rw [hb] at hsn
        have HB := Lib.hid hb; have HS := Lib.hid hsn; clear hb hsn hn
        go_wp2_with (go_at_call 192; refine (inAttr_any s[k] _).mono ?_; rw [HB.out]; rintro e w' ⟨rfl, rfl⟩)
        go_round
        case rel => exact ⟨k + 1, by go_num, by omega, HS.out⟩
        case measure => simp [intOf]; omega
      | false =>
        have hno : atBAll s = false := all_no atB s k hp hb
        have HB := Lib.hid hb; have HN := Lib.hid hno; clear hb hsn hn hno
        go_wp2_with (go_at_call 192; refine (inAttr_any s[k] _).mono ?_; rw [HB.out]; rintro e w' ⟨rfl, rfl⟩)
        go_ret
        exact ⟨ret_bool HN.out.symm, rfl⟩
    · rw [List.take_of_length_le (by rw [size_L]; omega)] at hn
      have hn : atBAll s = true := hn
      have HN := Lib.hid hn; clear hn
      go_wp2
      go_ret
      exact ⟨ret_bool HN.out.symm, rfl⟩

theorem nil_size {s : ByteArray} (h : s.toList = []) : s.size = 0 := by
  rw [toList_L] at h
  rw [← size_L, h]; rfl
theorem not_nil {s : ByteArray} (h : ¬ s.size = 0) : ¬ s.toList = [] := fun e => h (nil_size e)
theorem nil_of {s : ByteArray} (h : s.size = 0) : s.toList = [] := by
  rw [toList_L]
  exact List.eq_nil_of_length_eq_zero (by rw [size_L]; exact h)
theorem attrB_nil {s : ByteArray} (h : s.size = 0) : attrB s = false := by
  unfold attrB
  rw [← toList_L, nil_of h]; rfl
theorem rightB_nil {s : ByteArray} (h : s.size = 0) : rightB s = false := by
  unfold rightB
  rw [← toList_L, nil_of h]; rfl
theorem attrB_cons {s : ByteArray} (h : ¬ s.size = 0) : attrB s = atBAll s := by
  unfold attrB atBAll
  have := drop_cons s 0 (by omega)
  rw [List.drop_zero] at this
  rw [this]; rfl
theorem rightB_cons {s : ByteArray} (h : 0 < s.size) : rightB s = (small s[0] && elBAll s) := by
  unfold rightB elBAll
  have := drop_cons s 0 h
  rw [List.drop_zero] at this
  rw [this]; rfl

set_option maxHeartbeats 1000000 in
theorem attr_any (s : ByteArray) (w : World) (hs : s.size ≤ 140737488355328) :
    Calls Tryz.prog 143 #[.string s] w fun e w' => e = .returned (.bool (attrB s)) ∧ w = w' := by
  by_cases h0 : s.size = 0
  · rw [attrB_nil h0]
    have hn := nil_of h0
    clear h0
    go_enter Tryz.func143, Tryz.ntmps143
    go_wp2
    go_ret
    exact ⟨rfl, rfl⟩
  · rw [attrB_cons h0]
    have hn := not_nil h0
    clear h0
    go_enter Tryz.func143, Tryz.ntmps143
    go_wp2_with fail
    refine (every_at s w hs).mono ?_
    rintro e w' ⟨rfl, rfl⟩
    go_wp2
    go_ret
    exact ⟨ret_bool (by simp [hn]), rfl⟩
set_option maxHeartbeats 1000000 in
theorem right_any (s : ByteArray) (w : World) (hs : s.size ≤ 140737488355328) :
    Calls Tryz.prog 142 #[.string s] w fun e w' => e = .returned (.bool (rightB s)) ∧ w = w' := by
  by_cases h0 : s.size = 0
  · rw [rightB_nil h0]
    have hn := nil_of h0
    clear h0
    go_enter Tryz.func142, Tryz.ntmps142
    go_wp2
    go_ret
    exact ⟨rfl, rfl⟩
  · have hp : 0 < s.size := by omega
    have he := rightB_cons hp
    rw [u8_small] at he
    obtain ⟨q, hq⟩ : ∃ q, rightB s = q := ⟨_, rfl⟩
    rw [hq] at he ⊢
    have hn := not_nil h0
    clear h0 hq
    have HE := Lib.hid he
    clear he
    by_cases h1 : (97 : Int) ≤ s[0].toNat <;> by_cases h2 : (s[0].toNat : Int) ≤ 122
    all_goals
      go_enter Tryz.func142, Tryz.ntmps142
      go_wp2_with (go_at_call 190; refine (every_el s _ hs).mono ?_; rintro e w' ⟨rfl, rfl⟩)
      go_ret
      refine ⟨ret_bool ?_, rfl⟩
      rw [HE.out]
      by_cases g1 : (97 : Int) ≤ s[0].toNat
      · by_cases g2 : (s[0].toNat : Int) ≤ 122
        · rw [decide_eq_true g1, decide_eq_true g2]
          first | rfl | (simp [hn]; done) | (exfalso; omega)
        · rw [decide_eq_false g2, decide_eq_true g1]
          first | rfl | (exfalso; omega)
      · rw [decide_eq_false g1]
        first | rfl | (exfalso; omega)

end Go.Proofs.YtgjlfcamgkeibaaGreatDoor.Na

namespace Go.Proofs.YtgjlfcamgkeibaaGreatDoor.Tm
set_option linter.unusedVariables false
set_option linter.unusedSimpArgs false
open Ba Fm Rm Nm
open Ro (At)
end Go.Proofs.YtgjlfcamgkeibaaGreatDoor.Tm

namespace Go.Proofs.YtgjlfcamgkeibaaGreatDoor.To
set_option linter.unusedSimpArgs false
set_option linter.unusedVariables false
open Go.RowKit Ba Fm Fo Tm Nm
open Ro (below_new At acells len_acells Sh Ra range2)
open Re (Tab)
structure Bl (w wr : World) (x : Tw) (g2 g5 k : Nat) (A : Option Addr) (c : Nat) (al : List At) : Prop where
  k_le : k ≤ x.tk.attrs.length
  k6 : k ≤ 6
  b2 : Tb wr g2 x
  b5 : Tb wr g5 ⟨⟨1, x.tk.name, ⟨#[]⟩, al, x.tk.self⟩, A, c⟩
  own : Aw w.heap.size wr (.slice A al.length c) al
  bel : Below w.heap.size w wr
  len : al.length = k
  att : ∀ a ∈ al, attrB a.name = true ∧ a.name.size ≤ 1048576 ∧ a.value.size ≤ 200
  pw : al.Pairwise fun a b => a.name ≠ b.name
theorem Bl.below {w wr w' : World} {x : Tw} {g2 g5 k c : Nat} {A : Option Addr} {al : List At} (h : Bl w wr x g2 g5 k A c al) (hb : Below wr.heap.size wr w') : Bl w w' x g2 g5 k A c al :=
  ⟨h.k_le, h.k6, h.b2.below hb, h.b5.below hb, h.own.below hb, h.bel.trans (hb.mono h.bel.size), h.len, h.att, h.pw⟩
theorem Bl.drew {w wr : World} {x : Tw} {g2 g5 k c : Nat} {A : Option Addr} {al : List At} (h : Bl w wr x g2 g5 k A c al) (n : Nat) : Bl w (wr.drewN n) x g2 g5 k A c al :=
  ⟨h.k_le, h.k6, h.b2, h.b5, h.own, below_dN h.bel n, h.len, h.att, h.pw⟩
end Go.Proofs.YtgjlfcamgkeibaaGreatDoor.To

namespace Go.Proofs.YtgjlfcamgkeibaaGreatDoor.Wm
set_option linter.unusedVariables false
set_option linter.unusedSimpArgs false
open Ba Fm Rm Nm Bm
open Ro (At Ro)
open Tm (pre comm cend lead trail isEnd nmOk asOk softOr rawB softB)
end Go.Proofs.YtgjlfcamgkeibaaGreatDoor.Wm

namespace Go.Proofs.YtgjlfcamgkeibaaGreatDoor.Na
set_option maxRecDepth 100000
set_option linter.unusedSimpArgs false
set_option linter.unusedVariables false
open Go.RowKit Ba Fm Fo Nm
set_option maxRecDepth 100000 in
set_option maxHeartbeats 4000000 in
theorem closes_any (s : ByteArray) (w : World) : Calls Tryz.prog 251 #[.string s] w fun e w' => ∃ v, e = .returned v ∧ Sown w.heap.size w' v (closesL s) ∧ Below w.heap.size w w' := by
  by_cases h0 : s = n_li
  · obtain ⟨⟨f0, f1, f2, f3, f4, f5, f6, f7, f8, f9, f10⟩, hcl, hwl, htb, hbl⟩ := own_li h0
    rw [hcl]
    have hb := below_one w (.cells ([n_li].map sc).toArray 9)
    have hs := sown_lit w [n_li] (by decide)
    have HX := Lib.hid h0; have HTB := Lib.hid htb
    clear h0 hcl hwl htb hbl
    go_enter Tryz.func251, Tryz.ntmps251
    go_wp2
    go_ret
    exact ⟨_, rfl, hs, hb⟩
  by_cases h1 : s = n_dd
  · obtain ⟨⟨f0, f1, f2, f3, f4, f5, f6, f7, f8, f9, f10⟩, hcl, hwl, htb, hbl⟩ := own_dd h1
    rw [hcl]
    have hb := below_one w (.cells ([n_dd, n_dt].map sc).toArray 9)
    have hs := sown_lit w [n_dd, n_dt] (by decide)
    have HX := Lib.hid h1; have HTB := Lib.hid htb
    clear h0 h1 hcl hwl htb hbl
    go_enter Tryz.func251, Tryz.ntmps251
    go_wp2
    go_ret
    exact ⟨_, rfl, hs, hb⟩
  by_cases h2 : s = n_dt
  · obtain ⟨⟨f0, f1, f2, f3, f4, f5, f6, f7, f8, f9, f10⟩, hcl, hwl, htb, hbl⟩ := own_dt h2
    rw [hcl]
    have hb := below_one w (.cells ([n_dd, n_dt].map sc).toArray 9)
    have hs := sown_lit w [n_dd, n_dt] (by decide)
    have HX := Lib.hid h2; have HTB := Lib.hid htb
    clear h0 h1 h2 hcl hwl htb hbl
    go_enter Tryz.func251, Tryz.ntmps251
    go_wp2
    go_ret
    exact ⟨_, rfl, hs, hb⟩
  by_cases h3 : s = n_option
  · obtain ⟨⟨f0, f1, f2, f3, f4, f5, f6, f7, f8, f9, f10⟩, hcl, hwl, htb, hbl⟩ := own_option h3
    rw [hcl]
    have hb := below_one w (.cells ([n_option].map sc).toArray 9)
    have hs := sown_lit w [n_option] (by decide)
    have HX := Lib.hid h3; have HTB := Lib.hid htb
    clear h0 h1 h2 h3 hcl hwl htb hbl
    go_enter Tryz.func251, Tryz.ntmps251
    go_wp2
    go_ret
    exact ⟨_, rfl, hs, hb⟩
  by_cases h4 : s = n_optgroup
  · obtain ⟨⟨f0, f1, f2, f3, f4, f5, f6, f7, f8, f9, f10⟩, hcl, hwl, htb, hbl⟩ := own_optgroup h4
    rw [hcl]
    have hb := below_one w (.cells ([n_optgroup, n_option].map sc).toArray 9)
    have hs := sown_lit w [n_optgroup, n_option] (by decide)
    have HX := Lib.hid h4; have HTB := Lib.hid htb
    clear h0 h1 h2 h3 h4 hcl hwl htb hbl
    go_enter Tryz.func251, Tryz.ntmps251
    go_wp2
    go_ret
    exact ⟨_, rfl, hs, hb⟩
  by_cases h5 : s = n_tr
  · obtain ⟨⟨f0, f1, f2, f3, f4, f5, f6, f7, f8, f9, f10⟩, hcl, hwl, htb, hbl⟩ := own_tr h5
    rw [hcl]
    have hb := below_one w (.cells ([n_td, n_th, n_tr].map sc).toArray 9)
    have hs := sown_lit w [n_td, n_th, n_tr] (by decide)
    have HX := Lib.hid h5; have HTB := Lib.hid htb
    clear h0 h1 h2 h3 h4 h5 hcl hwl htb hbl
    go_enter Tryz.func251, Tryz.ntmps251
    go_wp2
    go_ret
    exact ⟨_, rfl, hs, hb⟩
  by_cases h6 : s = n_td
  · obtain ⟨⟨f0, f1, f2, f3, f4, f5, f6, f7, f8, f9, f10⟩, hcl, hwl, htb, hbl⟩ := own_td h6
    rw [hcl]
    have hb := below_one w (.cells ([n_td, n_th].map sc).toArray 9)
    have hs := sown_lit w [n_td, n_th] (by decide)
    have HX := Lib.hid h6; have HTB := Lib.hid htb
    clear h0 h1 h2 h3 h4 h5 h6 hcl hwl htb hbl
    go_enter Tryz.func251, Tryz.ntmps251
    go_wp2
    go_ret
    exact ⟨_, rfl, hs, hb⟩
  by_cases h7 : s = n_th
  · obtain ⟨⟨f0, f1, f2, f3, f4, f5, f6, f7, f8, f9, f10⟩, hcl, hwl, htb, hbl⟩ := own_th h7
    rw [hcl]
    have hb := below_one w (.cells ([n_td, n_th].map sc).toArray 9)
    have hs := sown_lit w [n_td, n_th] (by decide)
    have HX := Lib.hid h7; have HTB := Lib.hid htb
    clear h0 h1 h2 h3 h4 h5 h6 h7 hcl hwl htb hbl
    go_enter Tryz.func251, Tryz.ntmps251
    go_wp2
    go_ret
    exact ⟨_, rfl, hs, hb⟩
  by_cases h8 : s = n_tbody
  · obtain ⟨⟨f0, f1, f2, f3, f4, f5, f6, f7, f8, f9, f10⟩, hcl, hwl, htb, hbl⟩ := own_tbody h8
    rw [hcl]
    have hb := below_one w (.cells ([n_tbody, n_td, n_tfoot, n_th, n_thead, n_tr].map sc).toArray 9)
    have hs := sown_lit w [n_tbody, n_td, n_tfoot, n_th, n_thead, n_tr] (by decide)
    have HX := Lib.hid h8; have HTB := Lib.hid htb
    clear h0 h1 h2 h3 h4 h5 h6 h7 h8 hcl hwl htb hbl
    go_enter Tryz.func251, Tryz.ntmps251
    go_wp2
    go_ret
    exact ⟨_, rfl, hs, hb⟩
  by_cases h9 : s = n_tfoot
  · obtain ⟨⟨f0, f1, f2, f3, f4, f5, f6, f7, f8, f9, f10⟩, hcl, hwl, htb, hbl⟩ := own_tfoot h9
    rw [hcl]
    have hb := below_one w (.cells ([n_tbody, n_td, n_tfoot, n_th, n_thead, n_tr].map sc).toArray 9)
    have hs := sown_lit w [n_tbody, n_td, n_tfoot, n_th, n_thead, n_tr] (by decide)
    have HX := Lib.hid h9; have HTB := Lib.hid htb
    clear h0 h1 h2 h3 h4 h5 h6 h7 h8 h9 hcl hwl htb hbl
    go_enter Tryz.func251, Tryz.ntmps251
    go_wp2
    go_ret
    exact ⟨_, rfl, hs, hb⟩
  by_cases h10 : s = n_thead
  · obtain ⟨⟨f0, f1, f2, f3, f4, f5, f6, f7, f8, f9, f10⟩, hcl, hwl, htb, hbl⟩ := own_thead h10
    rw [hcl]
    have hb := below_one w (.cells ([n_tbody, n_td, n_tfoot, n_th, n_thead, n_tr].map sc).toArray 9)
    have hs := sown_lit w [n_tbody, n_td, n_tfoot, n_th, n_thead, n_tr] (by decide)
    have HX := Lib.hid h10; have HTB := Lib.hid htb
    clear h0 h1 h2 h3 h4 h5 h6 h7 h8 h9 h10 hcl hwl htb hbl
    go_enter Tryz.func251, Tryz.ntmps251
    go_wp2
    go_ret
    exact ⟨_, rfl, hs, hb⟩
  obtain ⟨⟨f0, f1, f2, f3, f4, f5, f6, f7, f8, f9, f10⟩, hcl, hwl, htb⟩ := own_none h0 h1 h2 h3 h4 h5 h6 h7 h8 h9 h10
  clear h0 h1 h2 h3 h4 h5 h6 h7 h8 h9 h10
  rw [hcl]
  have HTB := Lib.hid htb
  clear htb
  clear hcl hwl
  obtain ⟨q, hq⟩ : ∃ q, isIn s blockL = q := ⟨_, rfl⟩
  rw [hq]
  have HQ := Lib.hid hq
  clear hq
  cases q with
  | true =>
    rw [if_pos rfl]
    go_enter Tryz.func251, Tryz.ntmps251
    go_wp2_with fail
    refine (block_any s w).mono ?_
    rintro e w1 ⟨rfl, hb12⟩
    rw [HQ.out]
    have hb3 := below_one w1 (.cells ([n_p].map sc).toArray 9)
    have hs3 := sown_lit w1 [n_p] (by decide)
    go_wp2
    go_ret
    exact ⟨_, rfl, hs3.mono hb12.size, bt hb12 hb3⟩
    | false =>
    rw [if_neg (by decide)]
    go_enter Tryz.func251, Tryz.ntmps251
    go_wp2_with fail
    refine (block_any s w).mono ?_
    rintro e w1 ⟨rfl, hb12⟩
    rw [HQ.out]
    go_wp2
    go_ret
    exact ⟨_, rfl, Sown.nil _ _, hb12⟩

end Go.Proofs.YtgjlfcamgkeibaaGreatDoor.Na

namespace Go.Proofs.YtgjlfcamgkeibaaGreatDoor.Na
set_option maxRecDepth 100000
set_option linter.unusedSimpArgs false
set_option linter.unusedVariables false
open Go.RowKit Ba Fm Fo Nm
set_option maxRecDepth 100000 in
set_option maxHeartbeats 4000000 in
theorem walls_any (s : ByteArray) (w : World) : Calls Tryz.prog 236 #[.string s] w fun e w' => ∃ v, e = .returned v ∧ Sown w.heap.size w' v (wallsL s) ∧ Below w.heap.size w w' := by
  by_cases h0 : s = n_li
  · obtain ⟨⟨f0, f1, f2, f3, f4, f5, f6, f7, f8, f9, f10⟩, hcl, hwl, htb, hbl⟩ := own_li h0
    rw [hwl]
    have hb := below_one w (.cells ([n_menu, n_ol, n_template, n_ul].map sc).toArray 9)
    have hs := sown_lit w [n_menu, n_ol, n_template, n_ul] (by decide)
    have HX := Lib.hid h0; have HTB := Lib.hid htb
    clear h0 hcl hwl htb hbl
    go_enter Tryz.func236, Tryz.ntmps236
    go_wp2
    go_ret
    exact ⟨_, rfl, hs, hb⟩
  by_cases h1 : s = n_dd
  · obtain ⟨⟨f0, f1, f2, f3, f4, f5, f6, f7, f8, f9, f10⟩, hcl, hwl, htb, hbl⟩ := own_dd h1
    rw [hwl]
    have hb := below_one w (.cells ([n_dl, n_template].map sc).toArray 9)
    have hs := sown_lit w [n_dl, n_template] (by decide)
    have HX := Lib.hid h1; have HTB := Lib.hid htb
    clear h0 h1 hcl hwl htb hbl
    go_enter Tryz.func236, Tryz.ntmps236
    go_wp2
    go_ret
    exact ⟨_, rfl, hs, hb⟩
  by_cases h2 : s = n_dt
  · obtain ⟨⟨f0, f1, f2, f3, f4, f5, f6, f7, f8, f9, f10⟩, hcl, hwl, htb, hbl⟩ := own_dt h2
    rw [hwl]
    have hb := below_one w (.cells ([n_dl, n_template].map sc).toArray 9)
    have hs := sown_lit w [n_dl, n_template] (by decide)
    have HX := Lib.hid h2; have HTB := Lib.hid htb
    clear h0 h1 h2 hcl hwl htb hbl
    go_enter Tryz.func236, Tryz.ntmps236
    go_wp2
    go_ret
    exact ⟨_, rfl, hs, hb⟩
  by_cases h3 : s = n_option
  · obtain ⟨⟨f0, f1, f2, f3, f4, f5, f6, f7, f8, f9, f10⟩, hcl, hwl, htb, hbl⟩ := own_option h3
    rw [hwl]
    have hb := below_one w (.cells ([n_select, n_template].map sc).toArray 9)
    have hs := sown_lit w [n_select, n_template] (by decide)
    have HX := Lib.hid h3; have HTB := Lib.hid htb
    clear h0 h1 h2 h3 hcl hwl htb hbl
    go_enter Tryz.func236, Tryz.ntmps236
    go_wp2
    go_ret
    exact ⟨_, rfl, hs, hb⟩
  by_cases h4 : s = n_optgroup
  · obtain ⟨⟨f0, f1, f2, f3, f4, f5, f6, f7, f8, f9, f10⟩, hcl, hwl, htb, hbl⟩ := own_optgroup h4
    rw [hwl]
    have hb := below_one w (.cells ([n_select, n_template].map sc).toArray 9)
    have hs := sown_lit w [n_select, n_template] (by decide)
    have HX := Lib.hid h4; have HTB := Lib.hid htb
    clear h0 h1 h2 h3 h4 hcl hwl htb hbl
    go_enter Tryz.func236, Tryz.ntmps236
    go_wp2
    go_ret
    exact ⟨_, rfl, hs, hb⟩
  by_cases h5 : s = n_tr
  · obtain ⟨⟨f0, f1, f2, f3, f4, f5, f6, f7, f8, f9, f10⟩, hcl, hwl, htb, hbl⟩ := own_tr h5
    rw [hwl]
    have hb := below_one w (.cells ([n_table, n_template].map sc).toArray 9)
    have hs := sown_lit w [n_table, n_template] (by decide)
    have HX := Lib.hid h5; have HTB := Lib.hid htb
    clear h0 h1 h2 h3 h4 h5 hcl hwl htb hbl
    go_enter Tryz.func236, Tryz.ntmps236
    go_wp2
    go_ret
    exact ⟨_, rfl, hs, hb⟩
  by_cases h6 : s = n_td
  · obtain ⟨⟨f0, f1, f2, f3, f4, f5, f6, f7, f8, f9, f10⟩, hcl, hwl, htb, hbl⟩ := own_td h6
    rw [hwl]
    have hb := below_one w (.cells ([n_table, n_template].map sc).toArray 9)
    have hs := sown_lit w [n_table, n_template] (by decide)
    have HX := Lib.hid h6; have HTB := Lib.hid htb
    clear h0 h1 h2 h3 h4 h5 h6 hcl hwl htb hbl
    go_enter Tryz.func236, Tryz.ntmps236
    go_wp2
    go_ret
    exact ⟨_, rfl, hs, hb⟩
  by_cases h7 : s = n_th
  · obtain ⟨⟨f0, f1, f2, f3, f4, f5, f6, f7, f8, f9, f10⟩, hcl, hwl, htb, hbl⟩ := own_th h7
    rw [hwl]
    have hb := below_one w (.cells ([n_table, n_template].map sc).toArray 9)
    have hs := sown_lit w [n_table, n_template] (by decide)
    have HX := Lib.hid h7; have HTB := Lib.hid htb
    clear h0 h1 h2 h3 h4 h5 h6 h7 hcl hwl htb hbl
    go_enter Tryz.func236, Tryz.ntmps236
    go_wp2
    go_ret
    exact ⟨_, rfl, hs, hb⟩
  by_cases h8 : s = n_tbody
  · obtain ⟨⟨f0, f1, f2, f3, f4, f5, f6, f7, f8, f9, f10⟩, hcl, hwl, htb, hbl⟩ := own_tbody h8
    rw [hwl]
    have hb := below_one w (.cells ([n_table, n_template].map sc).toArray 9)
    have hs := sown_lit w [n_table, n_template] (by decide)
    have HX := Lib.hid h8; have HTB := Lib.hid htb
    clear h0 h1 h2 h3 h4 h5 h6 h7 h8 hcl hwl htb hbl
    go_enter Tryz.func236, Tryz.ntmps236
    go_wp2
    go_ret
    exact ⟨_, rfl, hs, hb⟩
  by_cases h9 : s = n_tfoot
  · obtain ⟨⟨f0, f1, f2, f3, f4, f5, f6, f7, f8, f9, f10⟩, hcl, hwl, htb, hbl⟩ := own_tfoot h9
    rw [hwl]
    have hb := below_one w (.cells ([n_table, n_template].map sc).toArray 9)
    have hs := sown_lit w [n_table, n_template] (by decide)
    have HX := Lib.hid h9; have HTB := Lib.hid htb
    clear h0 h1 h2 h3 h4 h5 h6 h7 h8 h9 hcl hwl htb hbl
    go_enter Tryz.func236, Tryz.ntmps236
    go_wp2
    go_ret
    exact ⟨_, rfl, hs, hb⟩
  by_cases h10 : s = n_thead
  · obtain ⟨⟨f0, f1, f2, f3, f4, f5, f6, f7, f8, f9, f10⟩, hcl, hwl, htb, hbl⟩ := own_thead h10
    rw [hwl]
    have hb := below_one w (.cells ([n_table, n_template].map sc).toArray 9)
    have hs := sown_lit w [n_table, n_template] (by decide)
    have HX := Lib.hid h10; have HTB := Lib.hid htb
    clear h0 h1 h2 h3 h4 h5 h6 h7 h8 h9 h10 hcl hwl htb hbl
    go_enter Tryz.func236, Tryz.ntmps236
    go_wp2
    go_ret
    exact ⟨_, rfl, hs, hb⟩
  obtain ⟨⟨f0, f1, f2, f3, f4, f5, f6, f7, f8, f9, f10⟩, hcl, hwl, htb⟩ := own_none h0 h1 h2 h3 h4 h5 h6 h7 h8 h9 h10
  clear h0 h1 h2 h3 h4 h5 h6 h7 h8 h9 h10
  rw [hwl]
  clear hcl hwl htb
  have hb3 := below_one w (.cells ([n_button, n_caption, n_table, n_td, n_template, n_th].map sc).toArray 9)
  have hs3 := sown_lit w [n_button, n_caption, n_table, n_td, n_template, n_th] (by decide)
  go_enter Tryz.func236, Tryz.ntmps236
  go_wp2
  go_ret
  exact ⟨_, rfl, hs3, hb3⟩

end Go.Proofs.YtgjlfcamgkeibaaGreatDoor.Na
