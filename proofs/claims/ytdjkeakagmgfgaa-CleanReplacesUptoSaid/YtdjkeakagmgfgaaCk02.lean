/-
  Walks of stage 4: boltinglaw04.bound, boltingref04.Join; append of rows onto rows.
  The text of rows, and rows with their texts joined, in plain words.
  Slices of bytes of the call's own: what they hold, the string of them. For every stage.
  Walks of stage 4: joined, Text, textsEnd; boltingref04.Text.
  Walks of stage 4: textsEnd, Normal.
  Walks of stage 4: boltingref04.Normal.
  Walks of stage 4: sameAttrs, sameRow, Same; boltingref04.Attrs, Same.
  Walks of stage 4: sameRow, Same; boltingref04.Same.
  Walks of stage 4: boltingref04.Same.
  Walks of stage 4: placeOf.
  Walks of stage 4: nums; Kids and its reference out of range; Take, Drop.
  Walks of stage 4: Put and its reference.
  Walks of stage 4: the reference's Put.
  A value that reads as rows (Rv), and the contracts of Check, Same, Normal over it.
  Walks of stage 4: the fixed rows.
  Walks of stage 4: the fixed samples.
  Stage 4, plain: what right rows are; the parent in two ways.
  Arguments that are slices of structs, or structs, as a statement's row reads them: for rows, tokens and whatever has attributes.
  Stage 4: arguments that are rows, as the statement's row reads them.
  The laws of stage 4, walked: Checks.
  Stage 4: the contracts, over values that read as rows (Rv).
  The laws of stage 4, walked: Normal.
  Stage 4, plain: texts joined: right rows stay right, the same text, joined again they stay.
  Stage 4, plain: a node's tree alone, and the rows without it.
  Stage 4, plain: kids, one behind the other; each row is the kid of its parent alone.
-/
import Derived.Test.YtdjkeakagmgfgaaCk01
import Derived.StillTailTactics
import Derived.Deep.RegionHeld3
import Derived.Deep.CutRange
import Derived.Laws.StructEq
import Derived.Deep.RegionWith
import Derived.Shelf.RegionOpen
import Derived.Laws.MakeOwn
import Derived.Deep.DeepCutAuto
import Derived.Test.YtdjkeakagmgfgaaRows
import Derived.Deep.Slices
import Derived.Deep.Fields
import Derived.ChangeSame
import Derived.ProofKit
import Derived.Carry
import Derived.Lib.SmallJoins
namespace Go.Proofs.Ytdjkeakagmgfgaa.Ro
set_option maxRecDepth 100000
set_option linter.unusedVariables false
set_option linter.unusedSimpArgs false
open Go.RowKit Ba
theorem Ra.take {w : World} {N : Nat} {A : Option Addr} {l : List At} (h : Ra w N A l) (k : Nat) : Ra w N A (l.take k) := fun h0 => by
  rw [List.length_take] at h0
  obtain ⟨b, off, e, hb, hc⟩ := h (by omega)
  refine ⟨b, off, e, hb, fun j hj => ?_⟩
  rw [List.length_take] at hj
  rw [List.getElem_take]
  exact hc j (by omega)
abbrev cut (x : Cw) (ys : List At) : Cw := ⟨⟨x.ro.depth, x.ro.kind, x.ro.name, x.ro.data, ys⟩, x.A, x.c⟩
theorem Att.cut {w : World} {N : Nat} {x : Cw} (h : Att w N x) : Att w N (cut x (x.ro.attrs.take 8)) :=
  ⟨Nat.le_trans (List.length_take_le' _ _) h.1, h.2.1, h.2.2.1, h.2.2.2.1.take 8, fun a ha => h.2.2.2.2 a (List.mem_of_mem_take ha)⟩
theorem min_any (x : Nat) (m : Nat) (M : Int) (hM : M = m) (y : Nat) (hy : y = min x m) (w : World) : ∀ ts t, (Builtin.min_ ts t #[.int .i64 x, .int .i64 M]).run Try.prog w = .ok (.int .i64 y) w := by
  intro ts t
  rw [run_min_int2, hy]
  congr 2
  split <;> omega

set_option maxRecDepth 100000 in
set_option maxHeartbeats 1000000 in
theorem Join_any (A B : Option Addr) (ca cb : Nat) (a b : List Cw) (w : World) (hra : Rr w w.heap.size A a) (hrb : Rr w w.heap.size B b) (hca : a.length ≤ ca) (hcb : b.length ≤ cb) (hma : a.length ≤ 1000000) (hmb : b.length ≤ 1000000) (hfa : Few (ros a)) (hfb : Few (ros b)) (hda : Held (ros a)) (hdb : Held (ros b)) :
    Calls Try.prog 28 #[.slice A a.length ca, .slice B b.length cb] w fun e w' => ∃ v l', e = .returned v ∧ Ow w.heap.size w' v l' ∧ (∀ x ∈ l', Fr w.heap.size w' x) ∧ ros l' = ros a ++ ros b ∧ Below w.heap.size w w' := by
  go_enter Try.func28, Try.ntmps28
  go_wp2_with fail
  refine (Moved_any A ca a 0 w hra hca hma hfa hda.fits).mono ?_
  rintro e w1 ⟨v1, l1, rfl, ho1, hf1, hr1, hb1⟩
  rw [deeper_zero] at hr1
  have HO1 := Lib.hid ho1; have HF1 := Lib.hid hf1; have HR1 := Lib.hid hr1; have HB1 := Lib.hid hb1
  have hl1 : l1.length ≤ 1000000 := by rw [← len_ros, hr1, len_ros]; exact hma
  clear ho1 hf1 hr1 hb1
  go_wp2_with fail
  refine (Moved_any B cb b 0 w1 ((hrb.below HB1.out).more HB1.out.size) hcb hmb hfb hdb.fits).mono ?_
  rintro e w2 ⟨v2, l2, rfl, ho2, hf2, hr2, hb2⟩
  rw [deeper_zero] at hr2
  have hl2 : l2.length ≤ 1000000 := by rw [← len_ros, hr2, len_ros]; exact hmb
  obtain ⟨A2, c2, rfl, hc2, _, hn2, hrr2⟩ := ho2.form
  have HO2 := Lib.hid ho2; have HF2 := Lib.hid hf2; have HR2 := Lib.hid hr2; have HB2 := Lib.hid hb2; have HRR := Lib.hid hrr2; have HN := Lib.hid hn2
  clear ho2 hf2 hr2 hb2 hrr2 hn2
  go_wp2_with (at_builtin; refine app_rows w2 rfl (.tmp 8) (.tmp 10) rfl w.heap.size _ l1 l2 A2 c2 rfl (HO1.out.below HB2.out) rfl HN.out HRR.out (fun y hy => ((HF2.out y hy).mono HB1.out.size).ap) (by omega) (bt HB1.out HB2.out).size ?_; intro v3 w3 ho3 hk3 hf3)
  go_ret
  refine ⟨v3, l1 ++ l2, rfl, ho3, fun z hz => ?_, by rw [ros_append, HR1.out, HR2.out], hk3 w (bt HB1.out HB2.out)⟩
  rcases List.mem_append.1 hz with h | h
  · exact hf3 z ((HF1.out z h).below HB2.out)
  · exact hf3 z ((HF2.out z h).mono HB1.out.size)

end Go.Proofs.Ytdjkeakagmgfgaa.Ro

namespace Go.Proofs.Ytdjkeakagmgfgaa.Ro
set_option linter.unusedVariables false
set_option linter.unusedSimpArgs false
open Ba
/-- The data of all texts, one after the other. -/
def txt : List Ro → List UInt8
  | [] => []
  | x :: r => (if x.kind = 1 then L x.data else []) ++ txt r
theorem txt_append (a b : List Ro) : txt (a ++ b) = txt a ++ txt b := by
  induction a with
  | nil => rfl
  | cons x r ih => rw [List.cons_append, txt, ih, txt, List.append_assoc]
theorem txt_one (x : Ro) : txt [x] = if x.kind = 1 then L x.data else [] := by rw [txt, txt, List.append_nil]
theorem txt_text {x : Ro} (h : x.kind = 1) : txt [x] = L x.data := by rw [txt_one, if_pos h]
theorem txt_other {x : Ro} (h : ¬ x.kind = 1) : txt [x] = [] := by rw [txt_one, if_neg h]
theorem txt_take (l : List Ro) (k : Nat) : (txt (l.take k)).length ≤ (txt l).length := by
  have h := txt_append (l.take k) (l.drop k)
  rw [List.take_append_drop] at h
  rw [h, List.length_append]
  omega
theorem txt_drop (l : List Ro) (k : Nat) : (txt (l.drop k)).length ≤ (txt l).length := by
  have h := txt_append (l.take k) (l.drop k)
  rw [List.take_append_drop] at h
  rw [h, List.length_append]
  omega
/-- The text of row i; of -1 that of all rows. -/
def textAt (l : List Ro) (i : Int) : List UInt8 := if i = -1 then txt l else if hasRow l i then txt ((l.take (endOf l i)).drop i.toNat) else []
/-- How many texts at this depth come next. -/
def nexts (d : Int) (l : List Ro) : Nat := (l.takeWhile fun y => y.kind == 1 && y.depth == d).length
/-- The rows with each text joined to the one before it, and without empty ones. -/
def normal : List Ro → List Ro
  | [] => []
  | x :: r =>
    if x.kind = 1 then
      (if txt (x :: r.take (nexts x.depth r)) = [] then [] else [⟨x.depth, 1, .empty, B (txt (x :: r.take (nexts x.depth r))), []⟩]) ++ normal (r.drop (nexts x.depth r))
    else x :: normal r
termination_by l => l.length
decreasing_by all_goals (simp [List.length_drop]; try omega)

end Go.Proofs.Ytdjkeakagmgfgaa.Ro

namespace Go.Proofs.Ytdjkeakagmgfgaa.Ba
set_option maxRecDepth 100000
set_option linter.unusedSimpArgs false
set_option linter.unusedVariables false
open Go.RowKit
def bc (b : UInt8) : Value := .int .u8 b.toNat
/-- v is a slice of bytes of the call's own that holds l. -/
def OwnB (N : Nat) (w : World) (v : Value) (l : List UInt8) : Prop := w.ownsRow N 5 1 v l.length (l.map bc)
theorem info_u8 : (Try.prog.info? 5).map (fun i => (i.zero, i.size, i.bytes)) = some (some (.int .u8 0), 1, 1) := by kernel_rfl
theorem OwnB.alloc {N : Nat} {w : World} {v : Value} {l : List UInt8} (h : OwnB N w v l) (o : Obj) : OwnB N (w.alloc o) v l := World.ownsRow.alloc h o
theorem OwnB.below {N : Nat} {w0 w w' : World} {v : Value} {l : List UInt8} (h : OwnB N w v l) (hg : w.grownBy w' v.ownBlock) (hb : Below N w0 w) (hN : N ≤ w.heap.size) : Below N w0 w' :=
  hb.grown hg hN fun k hk => (h.lt k hk).1
theorem OwnB.keep {N M : Nat} {w w' : World} {v : Value} {l : List UInt8} (h : OwnB N w v l) (hb : Below M w w') (hM : w.heap.size ≤ M := by exact Nat.le_refl _) : OwnB N w' v l := by
  refine ⟨h.1, ?_⟩
  rcases h.2 with hn | ⟨g, cap, cur, hv, hg, hh, rest⟩
  · exact .inl hn
  · refine .inr ⟨g, cap, cur, hv, hg, ?_, rest⟩
    have hlt : g < w.heap.size := (Array.getElem?_eq_some_iff.1 hh).1
    rw [hb.block g (by omega)]
    exact hh
theorem OwnB.made (w : World) : OwnB w.heap.size (w.alloc (.cells #[] 5)) (.slice (some ⟨w.heap.size, 0, none⟩) 0 0) [] :=
  World.ownsRow_made w #[] 0 (Nat.le_refl _) (Nat.zero_le _) rfl
theorem OwnB.string {N : Nat} {w : World} {v : Value} {l : List UInt8} (h : OwnB N w v l) : (convert 95 9 v).run Try.prog w = .ok (.string (B l)) w := by
  rcases h.2 with ⟨hv, hl⟩ | ⟨g, cap, cur, hv, hb, hgg, rest⟩
  · have : l = [] := List.eq_nil_of_length_eq_zero hl
    subst this hv
    rw [run_convert_bytes_string w _ _ _ none 0 0 Try.underlying95 Try.underlying5 Try.underlying9]
    rfl
  · subst hv
    exact run_convert_bytes_back w _ _ _ ⟨g, 0, none⟩ cap l Try.underlying95 Try.underlying5 Try.underlying9 fun j hj => World.ownsRow.cells h rfl j _ (by simp [bc, hj])
theorem OwnB.appended {N : Nat} {w : World} {v : Value} {l m : List UInt8} {n : Nat} (h : w.ownsRow N 5 1 v n (l.map bc ++ m.map bc)) (hn : n = l.length + m.length) : OwnB N w v (l ++ m) := by
  unfold OwnB
  rw [List.map_append, List.length_append, ← hn]
  exact h
/-- append of one byte, in a block of its own. -/
theorem app_byte {ops : Array Oper} {rest : List Oper} {o : Oper} {a : Act} {Q : Exit → Act → World → Prop} (w : World) (hgd : o.guard = none) (s x : Operand)
    (ho : o.op = .call { callee := .builtin .append, args := #[s, x], argTypes := #[95, 95] })
    (N : Nat) (v : Value) (l : List UInt8) (y : UInt8) (hs : a.eval s = v) (hown : OwnB N w v l) (hx : a.eval x = .slice (some ⟨w.heap.size, 0, none⟩) 1 1)
    (hl : l.length + 1 ≤ 140737488355328) (hN : N ≤ w.heap.size)
    (h : ∀ v' w', OwnB N w' v' (l ++ [y]) → (∀ w0, Below N w0 w → Below N w0 w') → wpList Try.prog ops Q rest (a.put o.dst v') w') :
    wpList Try.prog ops Q (o :: rest) a (w.alloc (.cells #[.int .u8 y.toNat] 5)) := by
  obtain ⟨i0, hi, hz0, hz1, hz2⟩ := info_parts info_u8
  have hown' : OwnB N (w.alloc (.cells #[.int .u8 y.toNat] 5)) v l := hown.alloc _
  have hsz : (w.alloc (.cells #[.int .u8 y.toNat] 5)).heap.size = w.heap.size + 1 := by simp
  refine wpList_append_own _ hgd s x 95 ho N 5 i0 (.int .u8 0) 1 1 Try.underlying95 hi hz0 hz1 hz2 rfl (by decide) v l.length (l.map bc) hs hown' ⟨w.heap.size, 0, none⟩ 1 1 [.int .u8 y.toNat] hx rfl (cell_one_new _ _ _) (by intro u hu; simp at hu; subst hu; rfl) (by unfold maxLen; omega) (by omega) (by omega) ?_
  intro v' w' ho2 hg2 _
  exact h v' w' (OwnB.appended (m := [y]) ho2 rfl) fun w0 hb => hown'.below hg2 (hb.alloc hN _) (by omega)

theorem strCells_b (s : ByteArray) : Lib.strCells s = (L s).map bc := rfl
/-- append of a string's bytes onto bytes of the call's own. -/
theorem app_strb {ops : Array Oper} {rest : List Oper} {o : Oper} {a : Act} {Q : Exit → Act → World → Prop} (w : World) (hgd : o.guard = none) (s x : Operand)
    (ho : o.op = .call { callee := .builtin .append, args := #[s, x], argTypes := #[95, 9] })
    (N : Nat) (v : Value) (l : List UInt8) (t : ByteArray) (hs : a.eval s = v) (hown : OwnB N w v l) (hx : a.eval x = .string t)
    (hl : l.length + t.size ≤ 140737488355328) (hN : N ≤ w.heap.size)
    (h : ∀ v' w', OwnB N w' v' (l ++ L t) → (∀ w0, Below N w0 w → Below N w0 w') → wpList Try.prog ops Q rest (a.put o.dst v') w') :
    wpList Try.prog ops Q (o :: rest) a w := by
  obtain ⟨i0, hi, hz0, hz1, hz2⟩ := info_parts info_u8
  refine Lib.wpList_append_own_string _ hgd s x 95 9 ho N 5 i0 Try.underlying95 Try.underlying9 hi hz0 hz1 hz2 v l.length (l.map bc) hs hown t hx (by unfold maxLen; omega) hl hN ?_
  intro v2 w2 hown2 hgrow2 _
  refine h v2 w2 ?_ fun w0 hb => hown.below hgrow2 hb hN
  rw [strCells_b] at hown2
  exact OwnB.appended hown2 (by rw [size_L])
theorem OwnB.nil (N : Nat) (w : World) : OwnB N w (.slice none 0 0) [] := World.ownsRow_nil w N _ 1

end Go.Proofs.Ytdjkeakagmgfgaa.Ba

namespace Go.Proofs.Ytdjkeakagmgfgaa.Ro
set_option maxRecDepth 100000
set_option linter.unusedVariables false
set_option linter.unusedSimpArgs false
open Go.RowKit Ba
theorem txt_at {l : List Cw} {k : Nat} {x : Cw} (h : l.drop k = x :: l.drop (k + 1)) : txt (ros (l.take (k + 1))) = txt (ros (l.take k)) ++ txt [x.ro] := by
  rw [take_at h, ros_append, txt_append]
  rfl

set_option maxRecDepth 100000 in
theorem joined_any (A : Option Addr) (c : Nat) (l : List Cw) (w : World) (hr : Rr w w.heap.size A l) (hc : l.length ≤ c) (hm : l.length ≤ 1000000) (ht : (txt (ros l)).length ≤ 1000000000) :
    Calls Try.prog 64 #[.slice A l.length c] w fun e w' => e = .returned (.string (B (txt (ros l)))) ∧ Below w.heap.size w w' := by
  go_enter Try.func64, Try.ntmps64
  go_wp2
  go_loopw [3, 8] (fun v i wr => ∃ k : Nat, i = .int .i64 k ∧ k ≤ l.length ∧ OwnB w.heap.size wr v (txt (ros (l.take k))) ∧ Below w.heap.size w wr) (fun _ i _ => l.length - (intOf i).toNat)
  case atStart => exact ⟨0, rfl, by omega, OwnB.nil _ _, Below.refl _ _⟩
  case round =>
    obtain ⟨k, rfl, hk, hown, hbel⟩ := hrel
    have hsz := hbel.size
    by_cases hp : k < l.length
    · obtain ⟨b, off, x, rfl, hb, hdx, hx, _, _⟩ := (hr.below hbel).at_ k hp
      have htx := txt_at hdx
      have hb1 := hbel.alloc hsz (rowO x)
      cases h1 : x.ro.kind == 1 with
      | true =>
        rw [txt_text (beq_iff_eq.1 h1)] at htx
        have hl2 := congrArg List.length htx
        rw [List.length_append, size_L] at hl2
        have hl3 := txt_take (ros l) (k + 1)
        rw [ros_take] at hl3
        have hle : (txt (ros (l.take k))).length + x.ro.data.size ≤ 140737488355328 := by omega
        have HT := Lib.hid htx; have HO := Lib.hid hown; have HB := Lib.hid hb1; have HL := Lib.hid hle
        clear htx hdx hown hb1 hl2 hl3 hle
        go_wp2_with (first
          | (refine wpList_load_mid rfl 36 (.tmp 10) rfl b (off + k * 5) rfl _ _ hx Try.underlying36 rfl size_row ?_)
          | (at_builtin; refine app_strb _ rfl (.tmp 15) (.tmp 17) rfl w.heap.size _ _ x.ro.data rfl (HO.out.alloc _) rfl HL.out (by simp; omega) ?_; intro v3 w3 ho3 hk3))
        go_roundw
        case rel => exact ⟨k + 1, by go_num, by omega, by rw [HT.out]; exact ho3, hk3 w HB.out⟩
        case measure => simp [intOf]; omega
      | false =>
        rw [txt_other (beq_eq_false_iff_ne.1 h1), List.append_nil] at htx
        have HT := Lib.hid htx; have HO := Lib.hid hown; have HB := Lib.hid hb1
        clear htx hdx hown hb1
        go_wp2_with (refine wpList_load_mid rfl 36 (.tmp 10) rfl b (off + k * 5) rfl _ _ hx Try.underlying36 rfl size_row ?_)
        go_roundw
        case rel => exact ⟨k + 1, by go_num, by omega, by rw [HT.out]; exact HO.out.alloc _, HB.out⟩
        case measure => simp [intOf]; omega
    · rw [List.take_of_length_le (by omega)] at hown
      have hstr := hown.string
      go_wp2
      go_ret
      exact ⟨rfl, hbel⟩

theorem txt_step {l : List Cw} {f k : Nat} {x : Cw} (hf : f ≤ k) (h : l.drop k = x :: l.drop (k + 1)) : txt (ros ((l.take (k + 1)).drop f)) = txt (ros ((l.take k).drop f)) ++ txt [x.ro] := by
  have hk : k < l.length := by
    rcases Nat.lt_or_ge k l.length with h1 | h1
    · exact h1
    · rw [List.drop_eq_nil_of_le h1] at h; cases h
  rw [take_at h, List.drop_append_of_le_length (by rw [List.length_take]; omega), ros_append, txt_append]
  rfl
theorem txt_part (l : List Ro) (f k : Nat) : (txt ((l.take k).drop f)).length ≤ (txt l).length := Nat.le_trans (txt_drop _ _) (txt_take _ _)
theorem B_step (a : List UInt8) (s : ByteArray) : B a ++ s = B (a ++ L s) := by
  have := B_append a (L s)
  rwa [B_L] at this

set_option maxRecDepth 100000 in
set_option maxHeartbeats 1000000 in
theorem refText_any (A : Option Addr) (c : Nat) (l : List Cw) (i : Int) (w : World) (hr : Rr w w.heap.size A l) (hc : l.length ≤ c) (hm : l.length ≤ 1000000) (ht : (txt (ros l)).length ≤ 1000000000) :
    Calls Try.prog 25 #[.slice A l.length c, .int .i64 i] w fun e w' => e = .returned (.string (B (textAt (ros l) i))) ∧ Below w.heap.size w w' := by
  by_cases h1 : i < -1
  · have e : textAt (ros l) i = [] := by rw [textAt, if_neg (by omega), hasRow_no (by omega), if_neg (by decide)]
    rw [e]
    have h2 : decide (0 ≤ i) = false := decide_eq_false (by omega)
    have h3 : decide (-1 ≤ i) = false := decide_eq_false (by omega)
    clear e
    go_enter Try.func25, Try.ntmps25
    go_wp2
    go_loop [5, 8] (fun s v => s = .string ⟨#[]⟩ ∧ v = .int .i64 0) (fun _ _ => 0)
    case atStart => exact ⟨rfl, rfl⟩
    case round =>
      obtain ⟨rfl, rfl⟩ := hrel
      go_wp2
      all_goals (go_ret; exact ⟨rfl, Below.refl _ _⟩)
  · have h1' : -1 ≤ i := by omega
    by_cases h2 : i = -1
    · subst h2
      have e : textAt (ros l) (-1) = txt (ros l) := rfl
      rw [e]
      clear e
      go_enter Try.func25, Try.ntmps25
      go_wp2
      go_loop [5, 8] (fun s v => ∃ k : Nat, v = .int .i64 k ∧ k ≤ l.length ∧ s = .string (B (txt (ros ((l.take k).drop 0))))) (fun _ v => l.length - (intOf v).toNat)
      case atStart => exact ⟨0, rfl, by omega, rfl⟩
      case round =>
        obtain ⟨k, rfl, hk, rfl⟩ := hrel
        by_cases hp : k < l.length
        · obtain ⟨b, off, x, rfl, hb, hdx, hx, _, _⟩ := hr.at_ k hp
          have g1 := (range5 hx).2.1
          have g3 := (range5 hx).2.2.2.1
          have htx := txt_step (Nat.zero_le k) hdx
          have hl3 := txt_part (ros l) 0 (k + 1)
          rw [← ros_part, htx, List.length_append] at hl3
          cases h3 : x.ro.kind == 1 with
          | true =>
            rw [txt_text (beq_iff_eq.1 h3)] at htx hl3
            have htx2 : B (txt (ros ((l.take k).drop 0))) ++ x.ro.data = B (txt (ros ((l.take (k + 1)).drop 0))) := by rw [B_step, htx]
            have hsz : (B (txt (ros ((l.take k).drop 0)))).size + x.ro.data.size ≤ 140737488351232 := by rw [size_B, ← size_L x.ro.data]; omega
            obtain ⟨S, hS⟩ : ∃ S, B (txt (ros ((l.take k).drop 0))) = S := ⟨_, rfl⟩
            rw [hS] at htx2 hsz ⊢
            have HT := Lib.hid htx2
            clear htx htx2 hdx hx hl3 hS
            go_wp2
            go_round
            case rel => exact ⟨k + 1, by go_num, by omega, by rw [HT.out]⟩
            case measure => simp [intOf]; omega
          | false =>
            rw [txt_other (beq_eq_false_iff_ne.1 h3), List.append_nil] at htx
            have HT := Lib.hid htx
            clear htx hdx hx hl3
            go_wp2
            go_round
            case rel => exact ⟨k + 1, by go_num, by omega, by rw [HT.out]⟩
            case measure => simp [intOf]; omega
        · go_wp2
          go_ret
          exact ⟨ret_str (by rw [List.take_of_length_le (by omega)]), Below.refl _ _⟩
    · have h0 : 0 ≤ i := by omega
      obtain ⟨j, rfl⟩ := Int.eq_ofNat_of_zero_le h0
      clear h2 h1 h1'
      have hmin := fun w => min_any j l.length (l.length : Int) rfl (min j l.length) rfl w
      by_cases h3 : j < l.length
      · have e1 := endOf_le (ros l) j (by rw [len_ros]; omega)
        have e2 := endOf_ge (ros l) j
        rw [len_ros] at e1
        have e3 : textAt (ros l) j = txt (ros ((l.take (endOf (ros l) j)).drop j)) := by
          rw [textAt, if_neg (by omega), hasRow_yes (by omega) (by omega), if_pos rfl, ros_part]
          rfl
        rw [e3]
        have hE0 := endAt_yes (l := l) (i := j) (by omega) (by omega)
        obtain ⟨E, hE⟩ : ∃ E, endOf (ros l) j = E := ⟨_, rfl⟩
        rw [hE] at e1 e2 hE0 ⊢
        rw [Nat.min_eq_left (Nat.le_of_lt h3)] at hmin
        have HE := Lib.hid hE0
        clear hE e3 hE0
        have e4 : j ≤ E := by omega
        go_enter Try.func25, Try.ntmps25
        go_wp2_with fail
        refine (refEnd_any A c l j w hr hc hm).mono ?_
        rintro e w1 ⟨rfl, n, rfl⟩
        rw [HE.out]
        clear hmin
        go_wp2
        go_loop [5, 8] (fun s v => ∃ k : Nat, v = .int .i64 k ∧ j ≤ k ∧ k ≤ E ∧ s = .string (B (txt (ros ((l.take k).drop j))))) (fun _ v => E - (intOf v).toNat)
        case atStart => exact ⟨j, rfl, by omega, e4, by rw [List.drop_eq_nil_of_le (by rw [List.length_take]; omega)]; rfl⟩
        case round =>
          obtain ⟨k, rfl, hjk, hk, rfl⟩ := hrel
          by_cases hp : k < E
          · obtain ⟨b, off, x, rfl, hb, hdx, hx, _, _⟩ := (hr.drewN n).at_ k (by omega)
            have g1 := (range5 hx).2.1
            have g3 := (range5 hx).2.2.2.1
            have htx := txt_step hjk hdx
            have hl3 := txt_part (ros l) j (k + 1)
            rw [← ros_part, htx, List.length_append] at hl3
            cases h5 : x.ro.kind == 1 with
            | true =>
              rw [txt_text (beq_iff_eq.1 h5)] at htx hl3
              have htx2 : B (txt (ros ((l.take k).drop j))) ++ x.ro.data = B (txt (ros ((l.take (k + 1)).drop j))) := by rw [B_step, htx]
              have hsz : (B (txt (ros ((l.take k).drop j)))).size + x.ro.data.size ≤ 140737488351232 := by rw [size_B, ← size_L x.ro.data]; omega
              obtain ⟨S, hS⟩ : ∃ S, B (txt (ros ((l.take k).drop j))) = S := ⟨_, rfl⟩
              rw [hS] at htx2 hsz ⊢
              have HT := Lib.hid htx2
              clear htx htx2 hdx hx hl3 hS
              go_wp2
              go_round
              case rel => exact ⟨k + 1, by go_num, by omega, by omega, by rw [HT.out]⟩
              case measure => simp [intOf]; omega
            | false =>
              rw [txt_other (beq_eq_false_iff_ne.1 h5), List.append_nil] at htx
              have HT := Lib.hid htx
              clear htx hdx hx hl3
              go_wp2
              go_round
              case rel => exact ⟨k + 1, by go_num, by omega, by omega, by rw [HT.out]⟩
              case measure => simp [intOf]; omega
          · obtain rfl : k = E := by omega
            go_wp2
            go_ret
            exact ⟨rfl, below_dN (Below.refl _ _) n⟩
      · have e3 : textAt (ros l) j = [] := by rw [textAt, if_neg (by omega), hasRow_no (by omega), if_neg (by decide)]
        rw [e3]
        have hE0 := endAt_no (l := l) (i := j) (by omega)
        rw [Nat.min_eq_right (by omega)] at hmin
        have HE := Lib.hid hE0
        clear e3 hE0
        go_enter Try.func25, Try.ntmps25
        go_wp2_with fail
        refine (refEnd_any A c l j w hr hc hm).mono ?_
        rintro e w1 ⟨rfl, n, rfl⟩
        rw [HE.out]
        clear hmin
        go_wp2
        go_loop [5, 8] (fun s v => s = .string ⟨#[]⟩ ∧ v = .int .i64 l.length) (fun _ _ => 0)
        case atStart => exact ⟨rfl, rfl⟩
        case round =>
          obtain ⟨rfl, rfl⟩ := hrel
          go_wp2
          all_goals (go_ret; exact ⟨rfl, below_dN (Below.refl _ _) n⟩)

end Go.Proofs.Ytdjkeakagmgfgaa.Ro

namespace Go.Proofs.Ytdjkeakagmgfgaa.Ro
set_option maxRecDepth 100000
set_option linter.unusedVariables false
set_option linter.unusedSimpArgs false
open Go.RowKit Ba
/-- The place behind so many more texts. -/
def j1 (n k : Nat) : Nat := k + 1 + n

set_option maxRecDepth 100000 in
set_option maxHeartbeats 1000000 in
theorem textsEnd_any (A : Option Addr) (c : Nat) (l : List Cw) (j : Nat) (x : Cw) (w : World) (hr : Rr w w.heap.size A l) (hc : l.length ≤ c) (hm : l.length ≤ 1000000) (hx : l.drop j = x :: l.drop (j + 1)) (hj : j < l.length) :
    Calls Try.prog 63 #[.slice A l.length c, .int .i64 j] w fun e w' => e = .returned (.int .i64 (j1 (nexts x.ro.depth (ros (l.drop (j + 1)))) j : Nat)) ∧ ∃ n, w' = w.drewN n := by
  obtain ⟨E, hE⟩ : ∃ E, j1 (nexts x.ro.depth (ros (l.drop (j + 1)))) j = E := ⟨_, rfl⟩
  rw [hE]
  obtain ⟨b, off, y, rfl, hb, hdy, hy, _, _⟩ := hr.at_ j hj
  obtain rfl : y = x := by
    rw [hx] at hdy
    injection hdy with e
    exact e.symm
  have hg0 := (range5 hy).1
  have HE := Lib.hid hE
  clear hE hy hdy hx
  go_enter Try.func63, Try.ntmps63
  go_wp2
  go_loopw [5] (fun v wr => ∃ k : Nat, v = .int .i64 k ∧ k ≤ l.length ∧ k + nexts y.ro.depth (ros (l.drop k)) = E ∧ ∃ n, wr = w.drewN n) (fun v _ => l.length - (intOf v).toNat)
  case atStart => exact ⟨j + 1, by go_num, by omega, HE.out, 0, rfl⟩
  case round =>
    clear HE
    obtain ⟨k, rfl, hk, hv, n, rfl⟩ := hrel
    by_cases hp : k < l.length
    · obtain ⟨b', off', z, e, _, hdz, hz, _, _⟩ := hr.at_ k hp
      injection e with e
      injection e with e1 e2
      subst e1 e2
      have hz0 := (range5 hz).1
      have hz1 := (range5 hz).2.1
      cases h1 : z.ro.kind == 1 with
      | true =>
        cases h2 : z.ro.depth == y.ro.depth with
        | true =>
          have h3 : nexts y.ro.depth (ros (l.drop k)) = nexts y.ro.depth (ros (l.drop (k + 1))) + 1 := take_step hdz (by rw [h1, h2]; rfl)
          rw [h3] at hv
          have HV := Lib.hid hv
          clear hv hz hdz h3
          go_wp2
          go_quiet (fail)
          go_wp2
          go_roundw
          case rel => exact ⟨k + 1, by go_num, by omega, by have := HV.out; omega, _, rfl⟩
          case measure => simp [intOf]; omega
        | false =>
          have h3 : nexts y.ro.depth (ros (l.drop k)) = 0 := take_stop hdz (by rw [h1, h2]; rfl)
          rw [h3] at hv
          have HV := Lib.hid hv
          clear hv hz hdz h3
          go_wp2
          go_quiet (fail)
          go_wp2
          go_ret
          exact ⟨ret_int (by rw [← HV.out]; rfl), _, World.drewN_drewN _ _ _⟩
      | false =>
        have h3 : nexts y.ro.depth (ros (l.drop k)) = 0 := take_stop hdz (by rw [h1]; rfl)
        rw [h3] at hv
        have HV := Lib.hid hv
        clear hv hz hdz h3
        go_wp2
        go_quiet (fail)
        go_wp2
        go_ret
        exact ⟨ret_int (by rw [← HV.out]; rfl), _, World.drewN_drewN _ _ _⟩
    · have hp' : decide (k < l.length) = false := decide_eq_false hp
      rw [List.drop_eq_nil_of_le (by omega)] at hv
      have HV := Lib.hid hv
      clear hv
      go_wp2
      go_quiet (fail)
      go_wp2
      go_ret
      exact ⟨ret_int (by rw [← HV.out]; rfl), _, World.drewN_drewN _ _ _⟩

theorem normal_text {x : Ro} {r : List Ro} (h : x.kind = 1) : normal (x :: r) = (if txt (x :: r.take (nexts x.depth r)) = [] then [] else [⟨x.depth, 1, .empty, B (txt (x :: r.take (nexts x.depth r))), []⟩]) ++ normal (r.drop (nexts x.depth r)) := by
  rw [normal, if_pos h]
theorem normal_other {x : Ro} {r : List Ro} (h : ¬ x.kind = 1) : normal (x :: r) = x :: normal r := by
  rw [normal, if_neg h]
theorem normal_nil : normal [] = [] := by rw [normal]
theorem len_nexts (d : Int) (l : List Ro) : nexts d l ≤ l.length := (List.takeWhile_sublist _).length_le

theorem part_cons {l : List Cw} {k n : Nat} {x : Cw} (h : l.drop k = x :: l.drop (k + 1)) : (l.take (k + 1 + n)).drop k = x :: (l.drop (k + 1)).take n := by
  rw [List.drop_take, h, show k + 1 + n - k = n + 1 from by omega, List.take_succ_cons]
theorem Rr.mids {w : World} {N b off : Nat} {l : List Cw} (h : Rr w N (some ⟨b, off, none⟩) l) (i j cap : Nat) (hij : i ≤ j) (hj : j ≤ l.length) (hc : l.length ≤ cap) (hne : i < cap) :
    Rr w N (some ⟨b, off + i * 5, none⟩) ((l.take j).drop i) := by
  have := h.mid i j cap hij hj hc hne
  rw [Option.map_some, WideShapes.add_plain] at this
  exact this
theorem fr_none (N : Nat) (w : World) (r : Ro) (h : r.attrs = []) : Fr N w ⟨r, none, 0⟩ := by
  refine ⟨?_, by rw [h]; exact fun _ hx => by simp at hx⟩
  show w.ownsRow N _ 2 (.slice none r.attrs.length 0) r.attrs.length (r.attrs.flatMap acells)
  rw [h]
  exact World.ownsRow_nil w N _ 2
abbrev textRow (d : Int) (D : ByteArray) : Cw := ⟨⟨d, 1, .empty, D, []⟩, none, 0⟩

set_option maxRecDepth 100000 in
set_option maxHeartbeats 1000000 in
theorem Normal_any (A : Option Addr) (c : Nat) (l : List Cw) (w : World) (hr : Rr w w.heap.size A l) (hc : l.length ≤ c) (hm : l.length ≤ 1000000) (ht : (txt (ros l)).length ≤ 1000000000) (hf : Few (ros l)) (hh : Held (ros l)) :
    Calls Try.prog 33 #[.slice A l.length c] w fun e w' => ∃ v l', e = .returned v ∧ Ow w.heap.size w' v l' ∧ (∀ x ∈ l', Fr w.heap.size w' x) ∧ ros l' = normal (ros l) ∧ Below w.heap.size w w' := by
  obtain ⟨V, hV⟩ : ∃ V, normal (ros l) = V := ⟨_, rfl⟩
  rw [hV]
  have HV := Lib.hid hV
  clear hV
  go_enter Try.func33, Try.ntmps33
  go_wp2
  go_loopw [3, 4] (fun v i wr => ∃ (k : Nat) (acc : List Cw), i = .int .i64 k ∧ k ≤ l.length ∧ acc.length ≤ k ∧ Ow w.heap.size wr v acc ∧ (∀ x ∈ acc, Fr w.heap.size wr x) ∧ ros acc ++ normal (ros (l.drop k)) = V ∧ Below w.heap.size w wr) (fun _ i _ => l.length - (intOf i).toNat)
  case atStart => exact ⟨0, [], rfl, by omega, by simp, Ow.nil _ _, fun _ h => by simp at h, HV.out, Below.refl _ _⟩
  case round =>
    clear HV
    obtain ⟨k, acc, rfl, hk, hal, hown, hfr, hros, hbel⟩ := hrel
    have hsz := hbel.size
    have hrw := hr.below hbel
    by_cases hp : k < l.length
    · obtain ⟨b, off, x, hA, hb, hdx, hx, hxa, hxm⟩ := hrw.at_ k hp
      have g0 := (range5 hx).1
      have g1 := (range5 hx).2.1
      rw [hdx, ros_cons] at hros
      subst hA
      cases h1 : x.ro.kind == 1 with
      | false =>
        have h1' : (x.ro.kind != 1) = true := by rw [bne, h1]; rfl
        rw [normal_other (beq_eq_false_iff_ne.1 h1)] at hros
        have hpart := hrw.mids k (k + 1) c (by omega) (by omega) hc (by omega)
        have e : (l.take (k + 1)).drop k = [x] := by rw [show k + 1 = k + 1 + 0 from rfl, part_cons hdx]; rfl
        rw [e] at hpart
        have HP := Lib.hid hpart; have HO := Lib.hid hown; have HF := Lib.hid hfr; have HR := Lib.hid hros
        have hfx : Few (ros [x]) := fun z hz => by
          obtain rfl := List.mem_singleton.1 hz
          exact hf.at_ hxm
        have hhx : Held (ros [x]) := fun z hz => by
          obtain rfl := List.mem_singleton.1 hz
          exact hh _ (List.mem_map.2 ⟨x, hxm, rfl⟩)
        clear hpart hown hfr hros hrw e hdx hx hxa
        have HFX := Lib.hid hfx; have HHX := Lib.hid hhx
        clear hfx hhx
        have hal2 : acc.length ≤ 1000000 := by omega
        go_wp2_with fail
        refine (appendMoved_any w.heap.size _ acc _ (c - k) [x] 0 wr hsz HO.out HF.out hal2 HP.out (by simp; omega) (by simp) HFX.out HHX.out.fits).mono ?_
        rintro e w2 ⟨v2, l2, rfl, ho2, hf2, hr2, hb2⟩
        rw [deeper_zero] at hr2
        have HO2 := Lib.hid ho2; have HF2 := Lib.hid hf2; have HR2 := Lib.hid hr2; have HB2 := Lib.hid hb2
        clear ho2 hf2 hr2 hb2
        go_wp2
        go_roundw
        case rel =>
          have hl2 : l2.length = acc.length + 1 := by rw [← len_ros, HR2.out, List.length_append, len_ros]; rfl
          exact ⟨k + 1, l2, by go_num, by omega, by omega, HO2.out, HF2.out, by rw [HR2.out, List.append_assoc]; exact HR.out, hbel.trans HB2.out⟩
        case measure => simp [intOf]; omega
      | true =>
        have h1' : (x.ro.kind != 1) = false := by rw [bne, h1]; rfl
        rw [normal_text (beq_iff_eq.1 h1)] at hros
        obtain ⟨n, hn⟩ : ∃ n, nexts x.ro.depth (ros (l.drop (k + 1))) = n := ⟨_, rfl⟩
        have hnl := len_nexts x.ro.depth (ros (l.drop (k + 1)))
        rw [hn, len_ros, List.length_drop] at hnl
        rw [hn] at hros
        obtain ⟨E, hE⟩ : ∃ E, k + 1 + n = E := ⟨_, rfl⟩
        have hEl : E ≤ l.length := by omega
        have hEk : k < E := by omega
        have hpart := hrw.mids k E c (by omega) hEl hc (by omega)
        have hlen := len_part l k E hEl
        have hpr : ros ((l.take E).drop k) = x.ro :: (ros (l.drop (k + 1))).take n := by rw [← hE, part_cons hdx, ros_cons, ros_take]
        have hte : (txt (ros ((l.take E).drop k))).length ≤ 1000000000 := by rw [ros_part]; exact Nat.le_trans (txt_part _ _ _) ht
        rw [← hpr, ros_drop, List.drop_drop, hE] at hros
        have hee : j1 (nexts x.ro.depth (ros (l.drop (k + 1)))) k = E := by rw [hn, ← hE]; rfl
        obtain ⟨m, hm1⟩ : ∃ m, (l.take E).drop k = m := ⟨_, rfl⟩
        rw [hm1] at hpart hlen hte hros
        obtain ⟨D, hD⟩ : ∃ D, B (txt (ros m)) = D := ⟨_, rfl⟩
        rw [hD] at hros
        have HP := Lib.hid hpart; have HO := Lib.hid hown; have HF := Lib.hid hfr; have HL := Lib.hid hlen; have HD := Lib.hid hD; have HTE := Lib.hid hte; have HEE := Lib.hid hee; have HRW := Lib.hid hrw; have HDX := Lib.hid hdx
        have hal2 : acc.length ≤ 1000000 := by omega
        have hmc : m.length ≤ c - k := by omega
        have hmm : m.length ≤ 1000000 := by omega
        cases hte0 : txt (ros m) with
        | nil =>
          rw [if_pos hte0, List.nil_append] at hros
          have hDl : D.toList = [] := by rw [← hD, toList_B, hte0]
          have hDe : D.toList.isEmpty = true := by rw [hDl]; rfl
          have HR := Lib.hid hros
          clear hpart hown hfr hlen hte hee hrw hdx hm1 hE hn hx hxa hros hte0 hD hpr
          go_wp2_with fail
          refine (textsEnd_any _ c l k x wr (HRW.out.more hsz) hc hm HDX.out hp).mono ?_
          rintro e w1 ⟨rfl, nd, rfl⟩
          rw [HEE.out]
          go_wp2_with fail
          rw [← HL.out]
          refine (joined_any _ (c - k) m (wr.drewN nd) (by exact HP.out.more hsz) hmc hmm HTE.out).mono ?_
          rintro e w2 ⟨rfl, hb2⟩
          rw [HD.out]
          have HB2 : Hid (Below wr.heap.size wr w2) := Lib.hid ((below_dN (Below.refl _ wr) nd).trans hb2)
          clear hb2
          go_wp2
          go_roundw
          case rel => exact ⟨E, acc, rfl, by omega, by omega, HO.out.below HB2.out, fun z hz => (HF.out z hz).below HB2.out, HR.out, hbel.trans (HB2.out.mono hsz)⟩
          case measure => simp [intOf]; omega
        | cons u us =>
          rw [if_neg (by rw [hte0]; exact fun h => by cases h)] at hros
          have hDl : ¬ D.toList = [] := by rw [← hD, toList_B, hte0]; exact fun h => by cases h
          have hDe : D.toList.isEmpty = false := by rw [← hD, toList_B, hte0]; rfl
          have HR := Lib.hid hros
          clear hpart hown hfr hlen hte hee hrw hdx hm1 hE hn hx hxa hros hte0 hD hpr
          go_wp2_with fail
          refine (textsEnd_any _ c l k x wr (HRW.out.more hsz) hc hm HDX.out hp).mono ?_
          rintro e w1 ⟨rfl, nd, rfl⟩
          rw [HEE.out]
          go_wp2_with fail
          rw [← HL.out]
          refine (joined_any _ (c - k) m (wr.drewN nd) (by exact HP.out.more hsz) hmc hmm HTE.out).mono ?_
          rintro e w2 ⟨rfl, hb2⟩
          rw [HD.out]
          have HB2 : Hid (Below wr.heap.size wr w2) := Lib.hid ((below_dN (Below.refl _ wr) nd).trans hb2)
          clear hb2
          have hgd : w2.cell? ⟨b, off + k * 5, none⟩ = some (.int .i64 x.ro.depth) := (HB2.out.cell (p := ⟨b, off + k * 5, none⟩) (Nat.lt_of_lt_of_le hb hsz)).trans g0
          have hsz2 := Nat.le_trans hsz HB2.out.size
          have HFN : Hid (Fr w.heap.size w2 (textRow x.ro.depth D)) := Lib.hid (fr_none _ _ _ rfl)
          have hal3 : acc.length ≤ 2000000 := by omega
          go_wp2_with (at_builtin; refine app_row w2 rfl (.tmp 36) (.tmp 44) rfl w.heap.size _ acc (textRow x.ro.depth D) rfl (HO.out.below HB2.out) HFN.out.att HFN.out.ap w2.heap.size rfl rfl hal3 hsz2 ?_; intro v3 w3 ho3 hk3 hf3)
          go_roundw
          case rel =>
            refine ⟨E, acc ++ [textRow x.ro.depth D], rfl, by omega, by simp; omega, ho3, fun z hz => ?_, by rw [ros_append, List.append_assoc]; exact HR.out, hk3 w (hbel.trans (HB2.out.mono hsz))⟩
            rcases List.mem_append.1 hz with h | h
            · exact hf3 z ((HF.out z h).below HB2.out)
            · obtain rfl := List.mem_singleton.1 h
              exact fr_none _ _ _ rfl
          case measure => simp [intOf]; omega
    · rw [List.drop_eq_nil_of_le (by omega)] at hros
      have HR := Lib.hid hros
      clear hros hrw
      go_wp2
      go_ret
      exact ⟨_, acc, rfl, hown, hfr, by rw [← HR.out, show ros [] = [] from rfl, normal_nil, List.append_nil], hbel⟩

end Go.Proofs.Ytdjkeakagmgfgaa.Ro

namespace Go.Proofs.Ytdjkeakagmgfgaa.Ro
set_option maxRecDepth 100000
set_option linter.unusedVariables false
set_option linter.unusedSimpArgs false
open Go.RowKit Ba
def sets (xs : List Value) : Nat → List Value → List Value
  | _, [] => xs
  | o, v :: r => sets (xs.set o v) (o + 1) r
theorem Ow.there {N g cap : Nat} {w : World} {init : List Cw} {y : Cw} (h : Ow N w (.slice (some ⟨g, 0, none⟩) (init.length + 1) cap) (init ++ [y])) : w.there g (init.length * 5) 5 := by
  obtain ⟨h1, _⟩ := h
  rw [List.length_append, List.flatMap_append] at h1
  have h1 : w.ownsRow N 36 5 (.slice (some ⟨g, 0, none⟩) (init.length + 1) cap) (init.length + 1) (init.flatMap cells ++ cells y) := by simpa using h1
  intro j hj
  refine ⟨?_, h1.frozenAt _⟩
  rw [h1.cellAt _ (by omega), List.getElem?_eq_getElem (by rw [List.length_append, flat_len cells 5 len_cells, len_cells]; omega)]
  rfl

end Go.Proofs.Ytdjkeakagmgfgaa.Ro

namespace Go.Proofs.Ytdjkeakagmgfgaa.Ro
set_option maxRecDepth 100000
set_option linter.unusedVariables false
set_option linter.unusedSimpArgs false
open Go.RowKit Ba
theorem At.eta (a b : At) (h : ¬ a = b) : ¬ a.name = b.name ∨ (a.name = b.name ∧ ¬ a.value = b.value) := by
  by_cases hn : a.name = b.name
  · exact .inr ⟨hn, fun hv => h (by cases a; cases b; simp_all)⟩
  · exact .inl hn
theorem neq_L {a b : ByteArray} (h : ¬ a = b) : ¬ a.toList = b.toList := fun e => h (L_inj (by rw [← toList_L, ← toList_L, e]))
theorem dec_cons {α : Type} [DecidableEq α] {x y : α} {r s : List α} {V : Bool} (h : decide (x :: r = y :: s) = V) : (x = y → decide (r = s) = V) ∧ (¬ x = y → V = false) := by
  constructor
  · intro e
    rw [← h, e]
    simp
  · intro e
    rw [← h]
    exact decide_eq_false fun e2 => e (by injection e2)

set_option maxRecDepth 100000 in
set_option maxHeartbeats 1000000 in
theorem refAttrs_any (A B : Option Addr) (ca cb : Nat) (xs ys : List At) (w : World) (hra : Ra w w.heap.size A xs) (hrb : Ra w w.heap.size B ys) (hca : xs.length ≤ ca) (hcb : ys.length ≤ cb) (hma : ca ≤ maxLen) (hmb : cb ≤ maxLen) :
    Calls Try.prog 16 #[.slice A xs.length ca, .slice B ys.length cb] w fun e w' => e = .returned (.bool (decide (xs = ys))) ∧ ∃ n, w' = w.drewN n := by
  unfold maxLen at hma hmb
  by_cases hlen : xs.length = ys.length
  · obtain ⟨V, hV⟩ : ∃ V, decide (xs = ys) = V := ⟨_, rfl⟩
    rw [hV]
    have hne : ((xs.length : Int) != (ys.length : Int)) = false := by rw [hlen]; simp
    have HV := Lib.hid hV; have HL := Lib.hid hlen
    clear hV hlen
    go_enter Try.func16, Try.ntmps16
    go_wp2
    go_loopw [5] (fun i wr => ∃ k : Nat, i = .int .i64 k ∧ k ≤ xs.length ∧ decide (xs.drop k = ys.drop k) = V ∧ ∃ n, wr = w.drewN n) (fun i _ => xs.length - (intOf i).toNat)
    case atStart => exact ⟨0, rfl, by omega, HV.out, 0, rfl⟩
    case round =>
      clear HV
      obtain ⟨k, rfl, hk, hv, n, rfl⟩ := hrel
      by_cases hp : k < xs.length
      · obtain ⟨b1, o1, x, rfl, _, hdx, hx, _⟩ := hra.at_ k hp
        have hp2 : k < ys.length := by have := HL.out; omega
        obtain ⟨b2, o2, y, rfl, _, hdy, hy, _⟩ := hrb.at_ k hp2
        rw [hdx, hdy] at hv
        obtain ⟨v1, v2⟩ := dec_cons hv
        clear hv hdx hdy
        by_cases hxy : x = y
        · subst hxy
          have HV := Lib.hid (v1 rfl)
          clear v1 v2
          obtain ⟨f1, f2⟩ := range2 hx
          obtain ⟨f3, f4⟩ := range2 hy
          clear hx hy
          go_wp2
          go_quiet (fail)
          go_wp2
          go_roundw
          case rel => exact ⟨k + 1, by go_num, by omega, HV.out, _, rfl⟩
          case measure => simp [intOf]; omega
        · obtain rfl := v2 hxy
          clear v1 v2
          rcases At.eta x y hxy with h | ⟨h, h'⟩
          · have h1 := neq_L h
            clear h hxy
            obtain ⟨f1, f2⟩ := range2 hx
            obtain ⟨f3, f4⟩ := range2 hy
            clear hx hy
            go_wp2
            go_quiet (fail)
            go_wp2
            go_ret
            exact ⟨rfl, _, World.drewN_drewN _ _ _⟩
          · have h1 := neq_L h'
            have h2 : y.name = x.name := h.symm
            rw [h2] at hy
            clear h h' hxy h2
            obtain ⟨f1, f2⟩ := range2 hx
            obtain ⟨f3, f4⟩ := range2 hy
            clear hx hy
            go_wp2
            go_quiet (fail)
            go_wp2
            go_ret
            exact ⟨rfl, _, World.drewN_drewN _ _ _⟩
      · rw [List.drop_eq_nil_of_le (by omega), List.drop_eq_nil_of_le (by have := HL.out; omega)] at hv
        have HV := Lib.hid hv
        clear hv
        go_wp2
        go_ret
        exact ⟨ret_bool (by rw [← HV.out]; rfl), _, rfl⟩
  · have e : decide (xs = ys) = false := decide_eq_false fun e => hlen (by rw [e])
    rw [e]
    have hne : ((xs.length : Int) != (ys.length : Int)) = true := by rw [bne_iff_ne]; omega
    clear e hlen
    go_enter Try.func16, Try.ntmps16
    go_wp2
    go_ret
    exact ⟨rfl, 0, rfl⟩

end Go.Proofs.Ytdjkeakagmgfgaa.Ro

namespace Go.Proofs.Ytdjkeakagmgfgaa.Ro
set_option linter.unusedVariables false
set_option linter.unusedSimpArgs false
open Go.RowKit Ba
theorem ro_eq (x y : Ro) : decide (x = y) = ((x.depth == y.depth) && ((x.kind == y.kind) && ((x.name.toList == y.name.toList) && ((x.data.toList == y.data.toList) && decide (x.attrs = y.attrs))))) := by
  rw [eq_of_toList, eq_of_toList, Bool.eq_iff_iff]
  cases x
  cases y
  simp

theorem ros_drop_eq {l r : List Cw} {k : Nat} {x y : Cw} {V : Bool} (hx : l.drop k = x :: l.drop (k + 1)) (hy : r.drop k = y :: r.drop (k + 1)) (h : decide (ros (l.drop k) = ros (r.drop k)) = V) :
    (x.ro = y.ro → decide (ros (l.drop (k + 1)) = ros (r.drop (k + 1))) = V) ∧ (¬ x.ro = y.ro → V = false) := by
  rw [hx, hy, ros_cons, ros_cons] at h
  exact dec_cons h

end Go.Proofs.Ytdjkeakagmgfgaa.Ro

namespace Go.Proofs.Ytdjkeakagmgfgaa.Ro
set_option maxRecDepth 100000
set_option linter.unusedVariables false
set_option linter.unusedSimpArgs false
open Go.RowKit Ba
theorem two_boxes (w : World) (x y : Cw) : ((w.alloc (rowO x)).alloc (rowO y)).drew.rangeAt w.heap.size 0 (cells x) ∧ ((w.alloc (rowO x)).alloc (rowO y)).drew.rangeAt (w.heap.size + 1) 0 (cells y) ∧ Below w.heap.size w ((w.alloc (rowO x)).alloc (rowO y)).drew := by
  have hb : Below w.heap.size w ((w.alloc (rowO x)).alloc (rowO y)) := (below_new w (rowO x)).alloc (by simp) _
  refine ⟨fun j v hv => ?_, fun j v hv => ?_, below_dN hb 1⟩
  · rw [Nat.zero_add]
    refine Eq.trans ?_ hv
    exact (World.cell?_alloc_lt _ _ ⟨w.heap.size, j, none⟩ (by simp)).trans (box_at w x j)
  · rw [Nat.zero_add]
    refine Eq.trans ?_ hv
    have e : w.heap.size + 1 = (w.alloc (rowO x)).heap.size := by simp
    rw [e]
    exact box_at (w.alloc (rowO x)) y j
theorem range5z {w : World} {b : Nat} {x : Cw} (h : w.rangeAt b 0 (cells x)) : w.cell? ⟨b, 0, none⟩ = some (.int .i64 x.ro.depth) ∧ w.cell? ⟨b, 1, none⟩ = some (.int .i64 x.ro.kind) ∧ w.cell? ⟨b, 2, none⟩ = some (.string x.ro.name) ∧ w.cell? ⟨b, 3, none⟩ = some (.string x.ro.data) ∧ w.cell? ⟨b, 4, none⟩ = some (.slice x.A x.ro.attrs.length x.c) :=
  ⟨h 0 _ rfl, h 1 _ rfl, h 2 _ rfl, h 3 _ rfl, h 4 _ rfl⟩

set_option maxRecDepth 100000 in
set_option maxHeartbeats 1000000 in
theorem refSame_any (A B : Option Addr) (ca cb : Nat) (l r : List Cw) (w : World) (hl : Rr w w.heap.size A l) (hr : Rr w w.heap.size B r) (hca : l.length ≤ ca) (hcb : r.length ≤ cb) (hml : l.length ≤ 1000000) (hmr : r.length ≤ 1000000) :
    Calls Try.prog 15 #[.slice A l.length ca, .slice B r.length cb] w fun e w' => e = .returned (.bool (decide (ros l = ros r))) ∧ Below w.heap.size w w' := by
  by_cases hlen : l.length = r.length
  · obtain ⟨V, hV⟩ : ∃ V, decide (ros l = ros r) = V := ⟨_, rfl⟩
    rw [hV]
    have hne : ((l.length : Int) != (r.length : Int)) = false := by rw [hlen]; simp
    have HV := Lib.hid hV; have HL := Lib.hid hlen
    clear hV hlen
    go_enter Try.func15, Try.ntmps15
    go_wp2
    go_loopw [5] (fun i wr => ∃ k : Nat, i = .int .i64 k ∧ k ≤ l.length ∧ decide (ros (l.drop k) = ros (r.drop k)) = V ∧ Below w.heap.size w wr) (fun i _ => l.length - (intOf i).toNat)
    case atStart => exact ⟨0, rfl, by omega, HV.out, Below.refl _ _⟩
    case round =>
      clear HV
      obtain ⟨k, rfl, hk, hv, hbel⟩ := hrel
      have hsz := hbel.size
      by_cases hp : k < l.length
      · obtain ⟨b1, o1, x, rfl, _, hdx, hx, hxa, _⟩ := (hl.below hbel).at_ k hp
        have hp2 : k < r.length := by have := HL.out; omega
        obtain ⟨b2, o2, y, rfl, _, hdy, hy, hya, _⟩ := (hr.below hbel).at_ k hp2
        obtain ⟨v1, v2⟩ := ros_drop_eq hdx hdy hv
        have HXA := Lib.hid (hxa.more hsz); have HYA := Lib.hid (hya.more hsz)
        have V1 := Lib.hid v1; have V2 := Lib.hid v2
        obtain ⟨f0, f1, f2, f3, f4⟩ := range5 hx
        obtain ⟨g0, g1, g2, g3, g4⟩ := range5 hy
        clear hv hdx hdy hxa hya v1 v2 hx hy
        have ef0 := World.new_ne wr _ f0
        have eg0 := World.new_ne wr _ g0
        go_upto_region 6 with (fail)
        go_cut [6, 7] from 13 to 60 (fun s6 s7 wx => ∃ g h, s6 = .pointer (some ⟨g, 0, none⟩) ∧ s7 = .pointer (some ⟨h, 0, none⟩) ∧ wx.rangeAt g 0 (cells x) ∧ wx.rangeAt h 0 (cells y) ∧ Below wr.heap.size wr wx)
        case first =>
          go_region_held3 (fun w' => w'.cell? ⟨b1, o1 + k * 5, none⟩ = some (.int .i64 x.ro.depth) ∧ w'.cell? ⟨b1, o1 + k * 5 + 1, none⟩ = some (.int .i64 x.ro.kind) ∧ w'.cell? ⟨b1, o1 + k * 5 + 2, none⟩ = some (.string x.ro.name) ∧ w'.cell? ⟨b1, o1 + k * 5 + 3, none⟩ = some (.string x.ro.data) ∧ w'.cell? ⟨b1, o1 + k * 5 + 4, none⟩ = some (.slice x.A x.ro.attrs.length x.c) ∧ w'.cell? ⟨b2, o2 + k * 5, none⟩ = some (.int .i64 y.ro.depth) ∧ w'.cell? ⟨b2, o2 + k * 5 + 1, none⟩ = some (.int .i64 y.ro.kind) ∧ w'.cell? ⟨b2, o2 + k * 5 + 2, none⟩ = some (.string y.ro.name) ∧ w'.cell? ⟨b2, o2 + k * 5 + 3, none⟩ = some (.string y.ro.data) ∧ w'.cell? ⟨b2, o2 + k * 5 + 4, none⟩ = some (.slice y.A y.ro.attrs.length y.c)) (go_keep) (first | fail)
          all_goals go_wp2_with fail
          all_goals go_meet
          · obtain ⟨q1, q2, q3⟩ := two_boxes wr x y
            exact ⟨_, _, rfl, rfl, q1, q2, q3⟩
          · obtain ⟨q1, q2, q3⟩ := two_boxes wr y x
            exact ⟨_, _, rfl, rfl, q2, q1, q3⟩
        case rest =>
          obtain ⟨g, h, rfl, rfl, hg, hh, hb2⟩ := hcut
          have HX := Lib.hid ((HXA.out.2.2.2.1.below hb2).more hb2.size); have HY := Lib.hid ((HYA.out.2.2.2.1.below hb2).more hb2.size); have HB := Lib.hid (hbel.trans (hb2.mono hsz))
          have a1 := HXA.out.1; have a2 := HXA.out.2.2.1; have a3 := HYA.out.1; have a4 := HYA.out.2.2.1
          obtain ⟨c0, c1, c2, c3, c4⟩ := range5z hg
          obtain ⟨d0, d1, d2, d3, d4⟩ := range5z hh
          clear hg hh hb2 f0 f1 f2 f3 f4 g0 g1 g2 g3 g4 ef0 eg0
          cases h1 : x.ro.depth == y.ro.depth with
          | false =>
            obtain rfl := V2.out (fun e => by rw [e] at h1; simp at h1)
            have n1 : (x.ro.depth != y.ro.depth) = true := by rw [bne, h1]; rfl
            go_wp2
            go_ret
            exact ⟨rfl, HB.out⟩
          | true =>
          have n1 : (x.ro.depth != y.ro.depth) = false := by rw [bne, h1]; rfl
          cases h2 : x.ro.kind == y.ro.kind with
          | false =>
            obtain rfl := V2.out (fun e => by rw [e] at h2; simp at h2)
            have n2 : (x.ro.kind != y.ro.kind) = true := by rw [bne, h2]; rfl
            go_wp2
            go_ret
            exact ⟨rfl, HB.out⟩
          | true =>
          have n2 : (x.ro.kind != y.ro.kind) = false := by rw [bne, h2]; rfl
          cases h3 : x.ro.name.toList == y.ro.name.toList with
          | false =>
            obtain rfl := V2.out (fun e => by rw [e] at h3; simp at h3)
            go_wp2
            go_ret
            exact ⟨rfl, HB.out⟩
          | true =>
          cases h4 : x.ro.data.toList == y.ro.data.toList with
          | false =>
            obtain rfl := V2.out (fun e => by rw [e] at h4; simp at h4)
            go_wp2
            go_ret
            exact ⟨rfl, HB.out⟩
          | true =>
          by_cases h5 : x.ro.attrs = y.ro.attrs
          · have hxy : x.ro = y.ro := of_decide_eq_true (by rw [ro_eq, h1, h2, h3, h4, decide_eq_true h5]; rfl)
            have HV := Lib.hid (V1.out hxy)
            have H5 := Lib.hid h5
            clear hxy h5
            go_wp2_with fail
            refine (refAttrs_any x.A y.A x.c y.c x.ro.attrs y.ro.attrs wc HX.out HY.out a1 a3 a2 a4).mono ?_
            rintro e w3 ⟨rfl, n, rfl⟩
            rw [decide_eq_true H5.out]
            go_wp2
            go_roundw
            case rel => exact ⟨k + 1, by go_num, by omega, HV.out, below_dN HB.out _⟩
            case measure => simp [intOf]; omega
          · obtain rfl := V2.out (fun e => h5 (by rw [e]))
            have H5 := Lib.hid h5
            clear h5
            go_wp2_with fail
            refine (refAttrs_any x.A y.A x.c y.c x.ro.attrs y.ro.attrs wc HX.out HY.out a1 a3 a2 a4).mono ?_
            rintro e w3 ⟨rfl, n, rfl⟩
            rw [decide_eq_false H5.out]
            go_wp2
            go_ret
            exact ⟨rfl, below_dN HB.out _⟩
      · rw [List.drop_eq_nil_of_le (by omega), List.drop_eq_nil_of_le (by have := HL.out; omega)] at hv
        have HV := Lib.hid hv
        clear hv
        go_wp2
        go_ret
        exact ⟨ret_bool (by rw [← HV.out]; rfl), hbel⟩
  · have e : decide (ros l = ros r) = false := decide_eq_false fun e => hlen (by rw [← len_ros, e, len_ros])
    rw [e]
    have hne : ((l.length : Int) != (r.length : Int)) = true := by rw [bne_iff_ne]; omega
    clear e hlen
    go_enter Try.func15, Try.ntmps15
    go_wp2
    go_ret
    exact ⟨rfl, Below.refl _ _⟩

end Go.Proofs.Ytdjkeakagmgfgaa.Ro

namespace Go.Proofs.Ytdjkeakagmgfgaa.Ro
set_option linter.unusedVariables false
set_option linter.unusedSimpArgs false
open Go.RowKit Ba Go.Shelf
attribute [local go_sem] Oper.semAt_some

theorem box_own {W W' : World} {B n : Nat} {t : TypeId} {v : Value} {row : Option Nat} (h : Boxed W B t v) (hg : W.grownBy W' row) (hr : ∀ r, row = some r → n ≤ r ∧ ∃ o : Obj, W.heap[r]? = some o ∧ o.isCells = false) : Boxed W' B t v :=
  h.kept hg fun e => by
    obtain ⟨_, o, ho, hc⟩ := hr B e.symm
    rw [show W.heap[B]? = _ from h] at ho
    cases ho
    cases hc

/-- Where the kid of that number stands, or the next one behind all kids would. -/
def placeAt (l : List Ro) (i at_ : Int) : Int × Bool :=
  if 0 ≤ at_ ∧ at_ < (kids l i).length then (((kids l i)[at_.toNat]?.getD 0 : Nat), true) else (endOf l i, decide (((kids l i).length : Int) = at_))

/-- What the rounds leave: the boxes of the number that is sought, the results, and the count. -/
def Pl (w : World) (at_ : Int) (pre : List Nat) (W : World) : Prop :=
  Boxed W (w.heap.size) 3 (.int .i64 at_) ∧ Boxed W (w.heap.size + 1) 3 (.int .i64 0) ∧ Boxed W (w.heap.size + 1 + 1) 4 (.bool false) ∧ Boxed W (w.heap.size + 1 + 1 + 1) 3 (.int .i64 (pre.length : Nat)) ∧ Below w.heap.size w W ∧ w.heap.size + 1 + 1 + 1 + 1 + 1 + 1 ≤ W.heap.size ∧ ¬ (0 ≤ at_ ∧ at_ < pre.length)
def Px (w : World) (at_ : Int) (c : Code) (pre : List Nat) (W : World) : Prop :=
  c = .ret ∧ ∃ q x, pre = q ++ [x] ∧ at_ = (q.length : Nat) ∧ Boxed W (w.heap.size + 1) 3 (.int .i64 (x : Nat)) ∧ Boxed W (w.heap.size + 1 + 1) 4 (.bool true) ∧ Below w.heap.size w W
theorem Pl.own (w : World) (at_ : Int) (n : Nat) (hn : w.heap.size ≤ n) : OwnFrom n (Pl w at_) := fun s W W' row hs hg hr =>
  ⟨box_own hs.1 hg hr, box_own hs.2.1 hg hr, box_own hs.2.2.1 hg hr, box_own hs.2.2.2.1 hg hr, hs.2.2.2.2.1.grown hg hs.2.2.2.2.1.size (fun k hk => Nat.le_trans hn (hr k hk).1), Nat.le_trans hs.2.2.2.2.2.1 hg.size, hs.2.2.2.2.2.2⟩
theorem Px.own (w : World) (at_ : Int) (c : Code) (n : Nat) (hn : w.heap.size ≤ n) : OwnFrom n (Px w at_ c) := fun s W W' row hs hg hr => by
  obtain ⟨hc, q, x, e1, e2, h1, h2, h3⟩ := hs
  exact ⟨hc, q, x, e1, e2, box_own h1 hg hr, box_own h2 hg hr, h3.grown hg h3.size (fun k hk => Nat.le_trans hn (hr k hk).1)⟩
end Go.Proofs.Ytdjkeakagmgfgaa.Ro

namespace Go.Proofs.Ytdjkeakagmgfgaa.Ro
set_option maxRecDepth 100000
set_option linter.unusedVariables false
set_option linter.unusedSimpArgs false
open Go.RowKit Ba
theorem Rn.at_ {w : World} {N : Nat} {A : Option Addr} {l : List Nat} (h : Rn w N A l) (k : Nat) (hk : k < l.length) :
    ∃ b off x, A = some ⟨b, off, none⟩ ∧ b < N ∧ l.drop k = x :: l.drop (k + 1) ∧ w.cell? ⟨b, off + k, none⟩ = some (.int .i64 (x : Nat)) := by
  obtain ⟨b, off, e, hb, hc⟩ := h (by omega)
  exact ⟨b, off, l[k], e, hb, List.drop_eq_getElem_cons hk, hc k hk⟩

end Go.Proofs.Ytdjkeakagmgfgaa.Ro

namespace Go.Proofs.Ytdjkeakagmgfgaa.Ro
set_option maxRecDepth 100000
set_option linter.unusedVariables false
set_option linter.unusedSimpArgs false
open Go.RowKit Ba
/-- Is it what has the roots, or an element? -/
def elemAt (l : List Ro) (p : Int) : Bool := decide (p = -1) || (decide (0 ≤ p ∧ p < l.length) && decide (((l[p.toNat]?).map (·.kind)).getD 1 = 0))
def put (l : List Ro) (p at_ : Int) (sub : List Ro) : Int × List Ro :=
  if elemAt l p = false then (41, [])
  else if (placeAt l p at_).2 = false then (1, [])
  else if right sub = false then (40, [])
  else if exceeds sub (4096 - l.length) (60 - (dep l p + 1)) = true then (2, [])
  else (0, l.take (placeAt l p at_).1.toNat ++ deeper (dep l p + 1) sub ++ l.drop (placeAt l p at_).1.toNat)

theorem Rr.take {w : World} {N : Nat} {A : Option Addr} {l : List Cw} (h : Rr w N A l) (k : Nat) : Rr w N A (l.take k) := by
  refine ⟨fun h0 => ?_, fun x hx => h.2 x (List.mem_of_mem_take hx)⟩
  rw [List.length_take] at h0
  obtain ⟨b, off, e, hb, hcc⟩ := h.1 (by omega)
  refine ⟨b, off, e, hb, fun j hj => ?_⟩
  rw [List.length_take] at hj
  rw [List.getElem_take]
  exact hcc j (by omega)
theorem Rr.rest {w : World} {N : Nat} {A : Option Addr} {l : List Cw} (h : Rr w N A l) (k cap : Nat) (hk : k ≤ l.length) (hc : l.length ≤ cap) : Rr w N (if cap = k then A else A.map (·.add (k * 5))) (l.drop k) := by
  have := h.part k l.length cap hk (Nat.le_refl _) hc
  rwa [List.take_length] at this
end Go.Proofs.Ytdjkeakagmgfgaa.Ro

namespace Go.Proofs.Ytdjkeakagmgfgaa.Ro
set_option maxRecDepth 100000
set_option linter.unusedVariables false
set_option linter.unusedSimpArgs false
open Go.RowKit Ba
theorem Deep.held {l : List Ro} (h : Deep l) : Held l := fun x hx => by have := h x hx; omega

end Go.Proofs.Ytdjkeakagmgfgaa.Ro

namespace Go.Proofs.Ytdjkeakagmgfgaa.Ro
set_option maxRecDepth 100000
set_option linter.unusedVariables false
set_option linter.unusedSimpArgs false
open Go.RowKit Ba
/-- A value reads as rows. -/
def Rv (w : World) (v : Value) (l : List Cw) : Prop := ∃ A c, v = .slice A l.length c ∧ l.length ≤ c ∧ c ≤ maxLen ∧ Rr w w.heap.size A l ∧ Held (ros l)
theorem Rv.below {w w' : World} {v : Value} {l : List Cw} (h : Rv w v l) (hb : Below w.heap.size w w') : Rv w' v l := by
  obtain ⟨A, c, e, h1, h2, h3, h4⟩ := h
  exact ⟨A, c, e, h1, h2, (h3.below hb).more hb.size, h4⟩
theorem Ow.rv {N : Nat} {w : World} {v : Value} {l : List Cw} (h : Ow N w v l) (hh : Held (ros l)) : Rv w v l := by
  obtain ⟨A, c, e, h1, h2, _, h3⟩ := h.form
  exact ⟨A, c, e, h1, h2, h3, hh⟩
theorem check1 (v : Value) (x : List Cw) (w : World) (q : Int) (h : Rv w v x) (hl : x.length ≤ 1000000) (hq : check (ros x) = q) :
    Calls Try.prog 32 #[v] w fun e w' => e = .returned (.int .i64 q) ∧ Below w.heap.size w w' := by
  obtain ⟨A, c, rfl, hc, hm, hr, hh⟩ := h
  subst hq
  exact Check_any A c x w hr hc (by omega)
theorem refSame1 (a b : Value) (x y : List Cw) (w : World) (q : Bool) (ha : Rv w a x) (hb : Rv w b y) (hx : x.length ≤ 1000000) (hy : y.length ≤ 1000000) (hq : decide (ros x = ros y) = q) :
    Calls Try.prog 15 #[a, b] w fun e w' => e = .returned (.bool q) ∧ Below w.heap.size w w' := by
  obtain ⟨A, c, rfl, hc, hm, hr, _⟩ := ha
  obtain ⟨B, d, rfl, hd, hm2, hr2, _⟩ := hb
  subst hq
  exact refSame_any A B c d x y w hr hr2 hc hd (by omega) (by omega)
theorem normal1 (v : Value) (x : List Cw) (w : World) (q : List Ro) (h : Rv w v x) (hl : x.length ≤ 1000000) (hf : Few (ros x)) (ht : (txt (ros x)).length ≤ 1000000000) (hq : normal (ros x) = q) (hhq : Held q) :
    Calls Try.prog 33 #[v] w fun e w' => ∃ u y, e = .returned u ∧ Ow w.heap.size w' u y ∧ (∀ z ∈ y, Fr w.heap.size w' z) ∧ ros y = q ∧ Rv w' u y ∧ Below w.heap.size w w' := by
  obtain ⟨A, c, rfl, hc, hm, hr, hh⟩ := h
  refine (Normal_any A c x w hr hc (by omega) ht hf hh).mono ?_
  rintro e w1 ⟨u, y, rfl, ho, hfr, hy, hb⟩
  rw [hq] at hy
  exact ⟨u, y, rfl, ho, hfr, hy, ho.rv (by rw [hy]; exact hhq), hb⟩

/-- A row that has no attributes. -/
def bare (r : Ro) : Cw := ⟨r, none, 0⟩
theorem bare_att (w : World) (N : Nat) {r : Ro} (h : r.attrs = []) : Att w N (bare r) := by
  refine ⟨?_, fun _ => rfl, Nat.zero_le _, ?_, ?_⟩
  · show r.attrs.length ≤ 0
    rw [h]; exact Nat.le_refl _
  · show Ra w N none r.attrs
    rw [h]; exact fun h => absurd h (by simp)
  · show Sh r.attrs
    rw [h]; exact fun _ hx => by simp at hx
theorem bare_ap (w : World) (N : Nat) {r : Ro} (h : r.attrs = []) : Ap w N (bare r) := fun h0 => by
  have h0 : 0 < r.attrs.length := h0
  rw [h] at h0
  exact absurd h0 (by simp)
/-- Rows without attributes, freshly written down. -/
theorem rows_new (w : World) (l : List Cw) (cs : Array Value) (n : Nat) (hn : l.length = n) (hm : n ≤ maxLen) (hcs : cs.toList = l.flatMap cells) (hl : ∀ x ∈ l, ∃ r : Ro, x = bare r ∧ r.attrs = []) :
    Ow w.heap.size (w.alloc (.cells cs 36)) (.slice (some ⟨w.heap.size, 0, none⟩) n n) l := by
  have hfl : (l.flatMap cells).length = n * 5 := by
    rw [← hn]
    clear hcs hl hn
    induction l with
    | nil => rfl
    | cons x r ih => rw [List.flatMap_cons, List.length_append, ih, List.length_cons]; simp [cells]; omega
  have hsz : cs.size = n * 5 := by rw [← Array.length_toList, hcs, hfl]
  refine ⟨⟨by rw [hn, hfl], .inr ⟨w.heap.size, n, cs, by rw [hn], Nat.le_refl _, heap_alloc_new w _, by rw [hn]; exact Nat.le_refl _, hm, hsz, ?_⟩⟩, fun x hx => ?_⟩
  · rw [hn, hcs, ← hfl, List.take_length]
  · obtain ⟨r, rfl, h⟩ := hl x hx
    exact ⟨bare_att _ _ h, bare_ap _ _ h⟩

end Go.Proofs.Ytdjkeakagmgfgaa.Ro

namespace Go.Proofs.Ytdjkeakagmgfgaa.Ro
set_option linter.unusedVariables false
set_option linter.unusedSimpArgs false
open Go.RowKit Ba
def sc : ByteArray := { data := #[99] }
end Go.Proofs.Ytdjkeakagmgfgaa.Ro

namespace Go.Proofs.Ytdjkeakagmgfgaa.Ro
set_option maxRecDepth 100000
set_option linter.unusedVariables false
set_option linter.unusedSimpArgs false
open Go.RowKit Ba
end Go.Proofs.Ytdjkeakagmgfgaa.Ro

namespace Go.Proofs.Ytdjkeakagmgfgaa.Ro
set_option linter.unusedVariables false
set_option linter.unusedSimpArgs false
open Go.RowKit Ba
theorem empty_name {s : ByteArray} (h : s.toList.isEmpty = true) : s = .empty := by
  rw [List.isEmpty_iff, toList_L] at h
  rw [← B_L s, h]
  rfl
theorem text_form {x : Ro} (h : okRow x = true) (hk : x.kind = 1) : x = ⟨x.depth, 1, .empty, x.data, []⟩ := by
  rw [okRow, if_neg (by rw [hk]; decide)] at h
  simp only [Bool.and_eq_true] at h
  have h1 := empty_name h.1.2
  have h2 := h.2
  obtain ⟨d, k, n, t, a⟩ := x
  simp only at hk h1 h2 ⊢
  subst hk
  subst h1
  cases a with
  | nil => rfl
  | cons u r =>
    exfalso
    rw [beq_iff_eq, List.length_cons] at h2
    omega

theorem right_same (d : Int) : ∀ (n : Nat) (r : List Ro), rightFrom d r = true → (∀ x ∈ r.take n, x.kind = 1 ∧ x.depth = d) → rightFrom d (r.drop n) = true
  | 0, r, h, _ => h
  | n + 1, [], h, _ => h
  | n + 1, x :: r, h, ht => by
    rw [rightFrom] at h
    simp only [Bool.and_eq_true, decide_eq_true_eq] at h
    have hx := ht x (by simp)
    have h2 := h.2
    rw [if_neg (by rw [hx.1]; decide), hx.2] at h2
    exact right_same d n r h2 fun y hy => ht y (by rw [List.take_succ_cons]; exact List.mem_cons_of_mem _ hy)
theorem stops (p : Ro → Bool) : ∀ (l : List Ro) (z : Ro), (l.drop (l.takeWhile p).length).head? = some z → p z = false
  | [], z, h => by simp at h
  | x :: r, z, h => by
    by_cases hp : p x = true
    · rw [List.takeWhile_cons_of_pos hp, List.length_cons, List.drop_succ_cons] at h
      exact stops p r z h
    · rw [List.takeWhile_cons_of_neg hp] at h
      obtain rfl : x = z := by simpa using h
      simpa using hp
theorem takes (p : Ro → Bool) : ∀ (l : List Ro), ∀ x ∈ l.take (l.takeWhile p).length, p x = true
  | [], x, h => by simp at h
  | y :: r, x, h => by
    by_cases hp : p y = true
    · rw [List.takeWhile_cons_of_pos hp, List.length_cons, List.take_succ_cons] at h
      rcases List.mem_cons.1 h with rfl | h
      · exact hp
      · exact takes p r x h
    · rw [List.takeWhile_cons_of_neg hp] at h
      simp at h
theorem right_ok : ∀ (l : List Ro) (m : Int), rightFrom m l = true → ∀ x ∈ l, okRow x = true
  | [], _, _, x, h => by cases h
  | y :: r, m, h, x, hx => by
    rw [rightFrom] at h
    simp only [Bool.and_eq_true, decide_eq_true_eq] at h
    rcases List.mem_cons.1 hx with rfl | hx
    · exact h.1.2
    · exact right_ok r _ h.2 x hx

theorem exceeds_iff (l : List Ro) (n d : Int) : exceeds l n d = true ↔ n < l.length ∨ ∃ x ∈ l, d ≤ x.depth := by
  rw [exceeds, Bool.or_eq_true, decide_eq_true_eq, List.any_eq_true]
  simp only [decide_eq_true_eq]
end Go.Proofs.Ytdjkeakagmgfgaa.Ro

namespace Go.Proofs.Ytdjkeakagmgfgaa.Ro
set_option maxRecDepth 100000
set_option linter.unusedVariables false
set_option linter.unusedSimpArgs false
open Go.RowKit Ba Go.ChangeShapes Go.WideShapes Go.Deep
section
variable {H : Type} {enc : TypeId × Value → H} {P : Program} {w : World} {base : Nat} {spare : Nat → Bool} {held : Bool}
/-- A slice of structs of one-cell fields: its parts. -/
theorem open_rows_of {t e : TypeId} {fs : Array Field} {fuel : Nat} {cs : List Value} {x : DataW H × List MemPlace} (ht : P.underlying t = some (.slice e)) (he : P.underlying e = some (.struct fs))
    (hone : oneCellFields P fs = true) (hC : P.cellsOf e = fs.size) (h : DataW.trod enc P w base spare held fuel t cs = some x) :
    cs = [.slice none 0 0] ∨
    ∃ (a : Addr) (len cap m : Nat) (Pl : Nat → List MemPlace), cs = [.slice (some a) len cap] ∧ len ≤ cap ∧ cap ≤ maxLen ∧ m = (if spare a.block then cap else len) ∧
      x.2 = MemPlace.row a (m * fs.size) ++ (List.range m).flatMap Pl ∧
      ∀ i, i < m → ∀ (j : Nat) (f : Field), fs[j]? = some f → ∃ (v : Value) (y : DataW H × List MemPlace) (n : Nat), w.cell? (a.add (i * fs.size + j)) = some v ∧ (∀ z ∈ y.2, z ∈ Pl i) ∧ DataW.trod enc P w base spare held n f.type [v] = some y := by
  rcases open_slice ht h with ⟨h0, _⟩ | ⟨a, len, cap, m, n, D, Pl, hcs, hb, hl, hm, hmm, hx, hi⟩
  · exact .inl h0
  · refine .inr ⟨a, len, cap, m, Pl, hcs, hl, hm, hmm, by rw [hx, hC], fun i him j f hj => ?_⟩
    obtain ⟨cs', hc, ht'⟩ := hi i him
    rw [hC] at hc
    obtain ⟨ys, n', hn', hy, hlen, hyl, hf⟩ := DataW.trod_struct he ht'
    obtain ⟨_, hcl, hat⟩ := World.cells?_some hc
    simp only [Prod.mk.injEq] at hy
    obtain ⟨ho, hk⟩ := hone_of hone j f hj
    have hjl : j < fs.size := (Array.getElem?_eq_some_iff.1 hj).1
    have hcell := hat j hjl
    have hv : cs'[j]? = some (cs'[j]'(by omega)) := List.getElem?_eq_getElem (by omega)
    have h1 := hf j f hj
    rw [ho, hk] at h1
    have hone' : (cs'.drop j).take 1 = [cs'[j]'(by omega)] := by
      rw [List.drop_eq_getElem_cons (by omega)]
      rfl
    rw [hone'] at h1
    have hys : ys[j]? = some (ys[j]'(by omega)) := List.getElem?_eq_getElem (by omega)
    refine ⟨_, _, n', ?_, fun z hz => ?_, h1.trans hys⟩
    · rw [← Go.Deep.add_add, hcell, hv]
    · rw [hy.2]
      exact List.mem_flatMap.2 ⟨_, List.getElem_mem _, hz⟩
end

theorem list_of {α : Type} (Q : Nat → α → Prop) : ∀ n : Nat, (∀ i < n, ∃ x, Q i x) → ∃ l : List α, l.length = n ∧ ∀ i (h : i < l.length), Q i l[i]
  | 0, _ => ⟨[], rfl, fun i h => absurd h (by simp)⟩
  | n + 1, h => by
    obtain ⟨l, hl, hq⟩ := list_of Q n fun i hi => h i (by omega)
    obtain ⟨x, hx⟩ := h n (by omega)
    refine ⟨l ++ [x], by rw [List.length_append, hl]; rfl, fun i hi => ?_⟩
    rw [List.length_append, List.length_singleton] at hi
    by_cases e : i < l.length
    · rw [List.getElem_append_left e]
      exact hq i e
    · have : i = l.length := by omega
      subst this
      rw [List.getElem_append_right (Nat.le_refl _)]
      simp only [Nat.sub_self, List.getElem_cons_zero]
      rw [hl]; exact hx

section
variable {H : Type} {enc : TypeId × Value → H} {w : World} {base : Nat}
theorem open_attrs {fuel : Nat} {v : Value} {x : DataW H × List MemPlace} (h : DataW.trod enc Try.prog w base (fun _ => true) true fuel 34 [v] = some x) (N : Nat) (hlt : ∀ z ∈ x.2, z.block < N) :
    ∃ A c l, v = .slice A l.length c ∧ l.length ≤ c ∧ (A = none → c = 0) ∧ c ≤ maxLen ∧ Ra w N A l ∧ Sh l := by
  rcases open_rows_of Try.underlying34 Try.underlying40 (by kernel_rfl) (by kernel_rfl) h with hcs | ⟨a, len, cap, m, Pl, hcs, hl, hm, hmm, hx, hi⟩
  · obtain rfl : v = .slice none 0 0 := by simpa using hcs
    exact ⟨none, 0, [], rfl, Nat.le_refl _, fun _ => rfl, Nat.zero_le _, fun h => absurd h (by simp), fun _ h => by simp at h⟩
  · obtain rfl : v = .slice (some a) len cap := by simpa using hcs
    simp only [if_true] at hmm
    subst hmm
    obtain ⟨b, off, spot⟩ := a
    have hrow : ∀ i < len, ∃ t : At, w.cell? ((⟨b, off, spot⟩ : Addr).add (i * 2)) = some (.string t.name) ∧ w.cell? ((⟨b, off, spot⟩ : Addr).add (i * 2 + 1)) = some (.string t.value) ∧ t.name.size ≤ maxLen := fun i hil => by
      obtain ⟨v0, y0, n0, hc0, _, ht0⟩ := hi i (by omega) 0 _ rfl
      obtain ⟨v1, y1, n1, hc1, _, ht1⟩ := hi i (by omega) 1 _ rfl
      obtain ⟨s0, e0, _, hs0⟩ := DataW.trod_string Try.underlying9 ht0
      obtain ⟨s1, e1, _, _⟩ := DataW.trod_string Try.underlying9 ht1
      obtain rfl : v0 = .string s0 := by simpa using e0
      obtain rfl : v1 = .string s1 := by simpa using e1
      exact ⟨⟨s0, s1⟩, hc0, hc1, hs0⟩
    obtain ⟨l, hll, hq⟩ := list_of _ len hrow
    refine ⟨some ⟨b, off, spot⟩, m, l, by rw [hll], by omega, (fun e => by cases e), hm, fun h0 => ?_, fun t ht => ?_⟩
    · have hspot : spot = none := by
        have := World.cell?_spot (hq 0 h0).1
        simpa [Addr.add] using this
      subst hspot
      refine ⟨b, off, rfl, hlt (.cell b off) (by rw [hx]; exact List.mem_append_left _ (MemPlace.mem_row.2 ⟨0, by show 0 < m * 2; omega, by simp⟩)), fun j hj => ?_⟩
      obtain ⟨h1, h2, _⟩ := hq j hj
      rw [add_plain] at h1 h2
      intro k u hu
      match k, hu with
      | 0, hu => exact h1.trans hu
      | 1, hu => exact (show w.cell? ⟨b, off + j * 2 + 1, none⟩ = _ from h2).trans hu
      | k + 2, hu => exact absurd hu (by simp [acells])
    · obtain ⟨j, hj, rfl⟩ := List.getElem_of_mem ht
      exact (hq j hj).2.2
theorem int_range {n : Int} (h : (Lit.int .i64 n).wf = true) : -9223372036854775808 ≤ n ∧ n ≤ 9223372036854775807 := by
  have h1 : IntKind.i64.min = -9223372036854775808 := by decide
  have h2 : IntKind.i64.max = 9223372036854775807 := by decide
  simp [Lit.wf, h1, h2] at h
  omega
end

section
variable {H : Type} {enc : TypeId × Value → H} {P : Program} {w : World} {base : Nat} {spare : Nat → Bool} {held : Bool}
theorem open_rows_parts {t e : TypeId} {fs : Array Field} {fuel : Nat} {cs : List Value} {x : DataW H × List MemPlace} (ht : P.underlying t = some (.slice e)) (he : P.underlying e = some (.struct fs))
    (hone : oneCellFields P fs = true) (hC : P.cellsOf e = fs.size) (h : DataW.trod enc P w base spare held fuel t cs = some x) :
    cs = [.slice none 0 0] ∨
    ∃ (a : Addr) (len cap : Nat) (D : Nat → DataW H) (sp : List (DataW H)), cs = [.slice (some a) len cap] ∧ x.1 = .slice ((List.range len).map D) sp ∧
      ∀ i, i < len → ∀ (j : Nat) (f : Field), fs[j]? = some f → ∃ (v : Value) (y : DataW H × List MemPlace) (n : Nat) (parts : List (DataW H)), w.cell? (a.add (i * fs.size + j)) = some v ∧ D i = .agg parts ∧ parts[j]? = some y.1 ∧ DataW.trod enc P w base spare held n f.type [v] = some y := by
  rcases open_slice ht h with ⟨h0, _⟩ | ⟨a, len, cap, m, n, D, Pl, hcs, hb, hl, hm, hmm, hx, hi⟩
  · exact .inl h0
  · refine .inr ⟨a, len, cap, D, _, hcs, by rw [hx], fun i hil j f hj => ?_⟩
    have him : i < m := by rw [hmm]; split <;> omega
    obtain ⟨cs', hc, ht'⟩ := hi i him
    rw [hC] at hc
    obtain ⟨ys, n', hn', hy, hlen, hyl, hf⟩ := DataW.trod_struct he ht'
    obtain ⟨_, hcl, hat⟩ := World.cells?_some hc
    simp only [Prod.mk.injEq] at hy
    obtain ⟨ho, hk⟩ := hone_of hone j f hj
    have hjl : j < fs.size := (Array.getElem?_eq_some_iff.1 hj).1
    have hcell := hat j hjl
    have hv : cs'[j]? = some (cs'[j]'(by omega)) := List.getElem?_eq_getElem (by omega)
    have h1 := hf j f hj
    rw [ho, hk] at h1
    have hone' : (cs'.drop j).take 1 = [cs'[j]'(by omega)] := by
      rw [List.drop_eq_getElem_cons (by omega)]
      rfl
    rw [hone'] at h1
    have hys : ys[j]? = some (ys[j]'(by omega)) := List.getElem?_eq_getElem (by omega)
    refine ⟨_, _, n', _, ?_, hy.1, by rw [List.getElem?_map, hys]; rfl, h1.trans hys⟩
    rw [← Go.Deep.add_add, hcell, hv]
end

section
variable {H : Type} {enc : TypeId × Value → H} {P : Program} {w : World} {base : Nat} {spare : Nat → Bool} {held : Bool}
/-- A struct of one-cell fields: its parts. -/
theorem open_agg_any {r : Reach} {b0 : Nat} {t : TypeId} {fs : Array Field} {v : Value} {d : DataW H} {p : List MemPlace} (hs : P.underlying t = some (.struct fs)) (hone : oneCellFields P fs = true) (hC : P.cellsOf t = fs.size)
    (hv : Value.okWide P w r b0 t v) (h : DataW.Trod enc P w base spare held t v d p) :
    ∃ (cs : Array Value) (ys : List (DataW H × List MemPlace)) (n : Nat), v = .agg cs ∧ cs.size = fs.size ∧ d = .agg (ys.map (·.1)) ∧ p = ys.flatMap (·.2) ∧
      ∀ (j : Nat) (f : Field), fs[j]? = some f → ∃ (u : Value) (y : DataW H × List MemPlace), cs[j]? = some u ∧ ys[j]? = some y ∧ DataW.trod enc P w base spare held n f.type [u] = some y := by
  obtain ⟨cs, rfl, hsz⟩ := okWide_struct hs hv
  obtain ⟨fuel, hf⟩ := h
  obtain ⟨ys, n', hn', hy, hlen, hyl, hat⟩ := DataW.trod_struct hs hf
  simp only [Prod.mk.injEq] at hy
  refine ⟨cs, ys, n', rfl, hsz.trans hC, hy.1, hy.2, fun j f hj => ?_⟩
  obtain ⟨ho, hk⟩ := hone_of hone j f hj
  have hjl : j < fs.size := (Array.getElem?_eq_some_iff.1 hj).1
  have hjc : j < cs.size := by rw [hsz, hC]; exact hjl
  have h1 := hat j f hj
  rw [ho, hk] at h1
  have hcl : ((Value.agg cs).cells.toList) = cs.toList := rfl
  have hone' : (((Value.agg cs).cells.toList).drop j).take 1 = [cs[j]] := by
    rw [hcl, List.drop_eq_getElem_cons (by rw [Array.length_toList]; exact hjc)]
    simp
  rw [hone'] at h1
  have hys : ys[j]? = some (ys[j]'(by omega)) := List.getElem?_eq_getElem (by omega)
  exact ⟨cs[j], _, Array.getElem?_eq_getElem hjc, hys, h1.trans hys⟩
end

theorem mem_bulk {H : Type} {d : DataW H} : ∀ {ds : List (DataW H)}, d ∈ ds → Rows.uptoBulk d ≤ Rows.uptoBulkAll ds
  | [], h => by cases h
  | e :: r, h => by
    rw [Rows.uptoBulkAll]
    rcases List.mem_cons.1 h with rfl | h
    · omega
    · have := mem_bulk h
      omega
section
variable {H : Type} {enc : TypeId × Value → H} {w : World}
end

end Go.Proofs.Ytdjkeakagmgfgaa.Ro

namespace Go.Proofs.Ytdjkeakagmgfgaa.Ro
set_option maxRecDepth 100000
set_option linter.unusedVariables false
set_option linter.unusedSimpArgs false
open Go.RowKit Ba Go.ChangeShapes Go.WideShapes Go.Deep
section
variable {H : Type} {enc : TypeId × Value → H} {w : World} {base : Nat}
/-- An argument []api.Row, as the statement's row reads it. -/
theorem open_ros {v : Value} {d : DataW H} {p : List MemPlace} (hv : Value.okWide Try.prog w .any base 22 v)
    (h : ∃ fuel, DataW.trod enc Try.prog w 0 (fun _ => true) true fuel 22 v.cells.toList = some (d, p)) (hlt : ∀ z ∈ p, z.block < w.heap.size) :
    ∃ A c l, v = .slice A l.length c ∧ l.length ≤ c ∧ c ≤ maxLen ∧ Rr w w.heap.size A l ∧ Held (ros l) := by
  obtain ⟨a0, len, cap, rfl⟩ := okWide_slice Try.underlying22 hv
  obtain ⟨fuel, hf⟩ := h
  rcases open_rows_of Try.underlying22 Try.underlying36 (by kernel_rfl) (by kernel_rfl) hf with hcs | ⟨a, len', cap', m, Pl, hcs, hl, hm, hmm, hx, hi⟩
  · simp [Value.cells] at hcs
    obtain ⟨rfl, rfl, rfl⟩ := hcs
    exact ⟨none, 0, [], rfl, Nat.le_refl _, Nat.zero_le _, Rr.nil _ _ _, fun _ h => by simp [ros] at h⟩
  · simp [Value.cells] at hcs
    obtain ⟨rfl, rfl, rfl⟩ := hcs
    simp only [if_true] at hmm
    subst hmm
    obtain ⟨b, off, spot⟩ := a
    have hx : p = _ := hx
    have hrow : ∀ i < len, ∃ r : Cw, (∀ (j : Nat) (u : Value), (cells r)[j]? = some u → w.cell? ((⟨b, off, spot⟩ : Addr).add (i * 5 + j)) = some u) ∧ Att w w.heap.size r ∧ (-9223372036854775808 ≤ r.ro.depth ∧ r.ro.depth ≤ 9223372036854775807) := fun i hil => by
      obtain ⟨v0, y0, n0, hc0, _, ht0⟩ := hi i (by omega) 0 _ rfl
      obtain ⟨v1, y1, n1, hc1, _, ht1⟩ := hi i (by omega) 1 _ rfl
      obtain ⟨v2, y2, n2, hc2, _, ht2⟩ := hi i (by omega) 2 _ rfl
      obtain ⟨v3, y3, n3, hc3, _, ht3⟩ := hi i (by omega) 3 _ rfl
      obtain ⟨v4, y4, n4, hc4, hp4, ht4⟩ := hi i (by omega) 4 _ rfl
      obtain ⟨s0, e0, _, hs0⟩ := DataW.trod_int Try.underlying3 ht0
      obtain ⟨s1, e1, _, _⟩ := DataW.trod_int Try.underlying3 ht1
      obtain ⟨s2, e2, _, _⟩ := DataW.trod_string Try.underlying9 ht2
      obtain ⟨s3, e3, _, _⟩ := DataW.trod_string Try.underlying9 ht3
      obtain rfl : v0 = .int .i64 s0 := by simpa using e0
      obtain rfl : v1 = .int .i64 s1 := by simpa using e1
      obtain rfl : v2 = .string s2 := by simpa using e2
      obtain rfl : v3 = .string s3 := by simpa using e3
      obtain ⟨A, c, al, rfl, hac, hA, hcm, hra, hsh⟩ := open_attrs ht4 w.heap.size fun z hz => hlt z (by
        rw [hx]
        exact List.mem_append_right _ (List.mem_flatMap.2 ⟨i, List.mem_range.2 (by omega), hp4 z hz⟩))
      refine ⟨⟨⟨s0, s1, s2, s3, al⟩, A, c⟩, fun j u hu => ?_, ⟨hac, hA, hcm, hra, hsh⟩, int_range hs0⟩
      match j, hu with
      | 0, hu => exact hc0.trans hu
      | 1, hu => exact hc1.trans hu
      | 2, hu => exact hc2.trans hu
      | 3, hu => exact hc3.trans hu
      | 4, hu => exact hc4.trans hu
      | j + 5, hu => exact absurd hu (by simp [cells])
    obtain ⟨l, hll, hq⟩ := list_of _ len hrow
    refine ⟨some ⟨b, off, spot⟩, _, l, by rw [hll], by omega, hm, ⟨fun h0 => ?_, fun r hr => ?_⟩, fun r hr => ?_⟩
    · have hspot : spot = none := by
        have := World.cell?_spot ((hq 0 h0).1 0 _ rfl)
        simpa [Addr.add] using this
      subst hspot
      refine ⟨b, off, rfl, hlt (.cell b off) (by rw [hx]; exact List.mem_append_left _ (MemPlace.mem_row.2 ⟨0, by show 0 < _ * 5; omega, by simp⟩)), fun j hj k u hu => ?_⟩
      have := (hq j hj).1 k u hu
      rw [add_plain] at this
      rw [show off + j * 5 + k = off + (j * 5 + k) by omega]
      exact this
    · obtain ⟨j, hj, rfl⟩ := List.getElem_of_mem hr
      exact (hq j hj).2.1
    · obtain ⟨z, hz, rfl⟩ := List.mem_map.1 hr
      obtain ⟨j, hj, rfl⟩ := List.getElem_of_mem hz
      exact (hq j hj).2.2
theorem laidOut : laidOutB Try.prog = true := by kernel_rfl
theorem open_rv {v : Value} {d : DataW H} {p : List MemPlace} (hv : Value.okWide Try.prog w .any base 22 v)
    (h : ∃ fuel, DataW.trod enc Try.prog w 0 (fun _ => true) true fuel 22 v.cells.toList = some (d, p)) (hlt : ∀ z ∈ p, z.block < w.heap.size) : ∃ l, Rv w v l ∧ True := by
  obtain ⟨A, c, l, h⟩ := open_ros hv h hlt
  exact ⟨l, ⟨A, c, h⟩, trivial⟩
end

end Go.Proofs.Ytdjkeakagmgfgaa.Ro

namespace Go.Proofs.Ytdjkeakagmgfgaa.Ro
set_option linter.unusedVariables false
set_option linter.unusedSimpArgs false
open Go.RowKit Ba
end Go.Proofs.Ytdjkeakagmgfgaa.Ro

namespace Go.Proofs.Ytdjkeakagmgfgaa.Ro
set_option maxRecDepth 100000
set_option linter.unusedVariables false
set_option linter.unusedSimpArgs false
open Go.RowKit Ba
theorem refCheck1 (v : Value) (x : List Cw) (w : World) (q : Int) (h : Rv w v x) (hl : x.length ≤ 1000) (hq : check (ros x) = q) :
    Calls Try.prog 21 #[v] w fun e w' => e = .returned (.int .i64 q) ∧ Below w.heap.size w w' := by
  obtain ⟨A, c, rfl, hc, hm, hr, hh⟩ := h
  subst hq
  exact refCheck_any A c x w hr hc (by omega)
theorem Nw.nil (N : Nat) (w : World) : Nw N w (.slice none 0 0) [] := World.ownsRow_nil w N _ 1
theorem refText1 (v : Value) (x : List Cw) (i : Int) (w : World) (q : ByteArray) (h : Rv w v x) (hl : x.length ≤ 1000) (ht : (txt (ros x)).length ≤ 1000000000) (hq : B (textAt (ros x) i) = q) :
    Calls Try.prog 25 #[v, .int .i64 i] w fun e w' => e = .returned (.string q) ∧ Below w.heap.size w w' := by
  obtain ⟨A, c, rfl, hc, hm, hrr, hh⟩ := h
  subst hq
  exact refText_any A c x i w hrr hc (by omega) ht
end Go.Proofs.Ytdjkeakagmgfgaa.Ro

namespace Go.Proofs.Ytdjkeakagmgfgaa.Ro
set_option linter.unusedVariables false
set_option linter.unusedSimpArgs false
open Go.RowKit Ba
theorem normal_from : ∀ (n : Nat) (l : List Ro), l.length ≤ n → (normal l).length ≤ l.length ∧ ∀ y ∈ normal l, ∃ x ∈ l, y.depth = x.depth ∧ (y.kind = 1 → x.kind = 1)
  | _, [], _ => by rw [normal_nil]; simp
  | 0, _ :: _, h => absurd h (by simp)
  | n + 1, x :: r, h => by
    rw [List.length_cons] at h
    by_cases hk : x.kind = 1
    · rw [normal_text hk]
      obtain ⟨h1, h2⟩ := normal_from n (r.drop (nexts x.depth r)) (by rw [List.length_drop]; omega)
      rw [List.length_drop] at h1
      constructor
      · rw [List.length_append, List.length_cons]
        split
        · simp; omega
        · simp; omega
      · intro y hy
        rcases List.mem_append.1 hy with hy | hy
        · split at hy
          · cases hy
          · obtain rfl := List.mem_singleton.1 hy
            exact ⟨x, List.mem_cons_self, rfl, fun _ => hk⟩
        · obtain ⟨z, hz, e⟩ := h2 y hy
          exact ⟨z, List.mem_cons_of_mem _ (List.mem_of_mem_drop hz), e⟩
    · rw [normal_other hk]
      obtain ⟨h1, h2⟩ := normal_from n r (by omega)
      constructor
      · rw [List.length_cons, List.length_cons]; omega
      · intro y hy
        rcases List.mem_cons.1 hy with rfl | hy
        · exact ⟨y, List.mem_cons_self, rfl, fun e => e⟩
        · obtain ⟨z, hz, e⟩ := h2 y hy
          exact ⟨z, List.mem_cons_of_mem _ hz, e⟩
end Go.Proofs.Ytdjkeakagmgfgaa.Ro

namespace Go.Proofs.Ytdjkeakagmgfgaa.Ro
set_option linter.unusedVariables false
set_option linter.unusedSimpArgs false
open Go.RowKit Ba
theorem right_mono {m k : Int} (h : m ≤ k) : ∀ {l : List Ro}, rightFrom m l = true → rightFrom k l = true
  | [], _ => rfl
  | x :: r, hr => by
    rw [rightFrom] at hr ⊢
    simp only [Bool.and_eq_true, decide_eq_true_eq] at hr ⊢
    exact ⟨⟨⟨hr.1.1.1, by omega⟩, hr.1.2⟩, hr.2⟩

theorem ok_text (d : Int) (t : List UInt8) : okRow ⟨d, 1, .empty, B t, []⟩ = true := by
  have e : ByteArray.empty.toList.isEmpty = true := by kernel_rfl
  show (if ((1 : Int) == 0) = true then _ else ((1 : Int) == 1 || (1 : Int) == 2) && ByteArray.empty.toList.isEmpty && ((0 : Nat) : Int) == 0) = true
  rw [if_neg (by decide), e]
  rfl

/-- What group follows a text. -/
theorem group {x : Ro} {r : List Ro} {m : Int} (h : rightFrom m (x :: r) = true) (hk : x.kind = 1) :
    0 ≤ x.depth ∧ x.depth ≤ m ∧ okRow x = true ∧ rightFrom x.depth (r.drop (nexts x.depth r)) = true ∧ (∀ z, (r.drop (nexts x.depth r)).head? = some z → z.kind = 1 → z.depth < x.depth) ∧ (∀ y ∈ r.take (nexts x.depth r), y.kind = 1 ∧ y.depth = x.depth) := by
  rw [rightFrom] at h
  simp only [Bool.and_eq_true, decide_eq_true_eq] at h
  have h2 := h.2
  rw [if_neg (by rw [hk]; decide)] at h2
  obtain ⟨k, hkk⟩ : ∃ k, nexts x.depth r = k := ⟨_, rfl⟩
  rw [hkk]
  have htk : ∀ y ∈ r.take k, y.kind = 1 ∧ y.depth = x.depth := fun y hy => by
    rw [← hkk] at hy
    have := takes _ r y hy
    simpa using this
  have hst : ∀ z, (r.drop k).head? = some z → z.kind = 1 → z.depth ≠ x.depth := fun z hz e1 e2 => by
    rw [← hkk] at hz
    have := stops _ r z hz
    simp [e1, e2] at this
  have hrd := right_same x.depth k r h2 htk
  refine ⟨h.1.1.1, h.1.1.2, h.1.2, hrd, fun z hz e => ?_, htk⟩
  have h1 := hst z hz e
  have h3 : z.depth ≤ x.depth := by
    cases hdk : r.drop k with
    | nil => rw [hdk] at hz; simp at hz
    | cons a t =>
      rw [hdk] at hz hrd
      obtain rfl : a = z := by simpa using hz
      rw [rightFrom] at hrd
      simp only [Bool.and_eq_true, decide_eq_true_eq] at hrd
      exact hrd.1.1.2
  omega

theorem right_normal : ∀ (n : Nat) (l : List Ro) (m : Int), l.length ≤ n → rightFrom m l = true → rightFrom m (normal l) = true
  | _, [], _, _, _ => by rw [normal_nil]; rfl
  | 0, _ :: _, _, h, _ => absurd h (by simp)
  | n + 1, x :: r, m, hn, hr => by
    rw [List.length_cons] at hn
    by_cases hk : x.kind = 1
    · obtain ⟨h0, h1, h2, h3, _, _⟩ := group hr hk
      have ih := right_normal n (r.drop (nexts x.depth r)) x.depth (by rw [List.length_drop]; omega) h3
      rw [normal_text hk]
      split
      · rw [List.nil_append]; exact right_mono h1 ih
      · rw [List.singleton_append, rightFrom]
        simp only [Bool.and_eq_true, decide_eq_true_eq]
        exact ⟨⟨⟨h0, h1⟩, ok_text _ _⟩, by rw [if_neg (by decide)]; exact ih⟩
    · rw [normal_other hk]
      rw [rightFrom] at hr ⊢
      simp only [Bool.and_eq_true] at hr ⊢
      exact ⟨hr.1, right_normal n r _ (by omega) hr.2⟩

theorem txt_normal : ∀ (n : Nat) (l : List Ro), l.length ≤ n → txt (normal l) = txt l
  | _, [], _ => by rw [normal_nil]
  | 0, _ :: _, h => absurd h (by simp)
  | n + 1, x :: r, hn => by
    rw [List.length_cons] at hn
    by_cases hk : x.kind = 1
    · rw [normal_text hk, txt_append, txt_normal n (r.drop (nexts x.depth r)) (by rw [List.length_drop]; omega)]
      have e : x :: r = (x :: r.take (nexts x.depth r)) ++ r.drop (nexts x.depth r) := by rw [List.cons_append, List.take_append_drop]
      rw [e, txt_append]
      congr 1
      split
      · rename_i h; rw [← e] at *; rw [h]; rfl
      · rw [txt_text rfl, L_B]
    · rw [normal_other hk, txt, txt, txt_normal n r (by omega)]

/-- Texts are not empty, and no two stand side by side at one depth. -/
def Nrm : List Ro → Prop
  | [] => True
  | x :: r => (x.kind = 1 → x.data.toList ≠ [] ∧ ∀ z, r.head? = some z → z.kind = 1 → z.depth ≠ x.depth) ∧ Nrm r
theorem head_text : ∀ (n : Nat) (l : List Ro) (m : Int), l.length ≤ n → rightFrom m l = true → (∀ z, l.head? = some z → z.kind = 1 → z.depth < m) → ∀ z, (normal l).head? = some z → z.kind = 1 → z.depth < m
  | _, [], _, _, _, _, z, hz, _ => by rw [normal_nil] at hz; simp at hz
  | 0, _ :: _, _, h, _, _, _, _, _ => absurd h (by simp)
  | n + 1, x :: r, m, hn, hr, hh, z, hz, hzk => by
    rw [List.length_cons] at hn
    by_cases hk : x.kind = 1
    · have hx := hh x rfl hk
      obtain ⟨h0, h1, h2, h3, h4, _⟩ := group hr hk
      rw [normal_text hk] at hz
      split at hz
      · rw [List.nil_append] at hz
        have := head_text n (r.drop (nexts x.depth r)) x.depth (by rw [List.length_drop]; omega) h3 h4 z hz hzk
        omega
      · rw [List.singleton_append] at hz
        obtain rfl := Option.some.inj hz
        exact hx
    · rw [normal_other hk] at hz
      obtain rfl : x = z := by simpa using hz
      exact absurd hzk hk
theorem normal_nrm : ∀ (l : List Ro) (m : Int), rightFrom m l = true → Nrm l → normal l = l
  | [], _, _, _ => normal_nil
  | x :: r, m, hr, h => by
    have hr' := hr
    rw [rightFrom] at hr'
    simp only [Bool.and_eq_true] at hr'
    by_cases hk : x.kind = 1
    · obtain ⟨h1, h2⟩ := h.1 hk
      have hn : nexts x.depth r = 0 := by
        cases r with
        | nil => rfl
        | cons y t =>
          unfold nexts
          rw [List.takeWhile_cons, if_neg]
          · rfl
          · intro e
            simp only [Bool.and_eq_true, beq_iff_eq] at e
            exact h2 y rfl e.1 e.2
      have hx := text_form hr'.1.2 hk
      rw [normal_text hk, hn, List.take_zero, List.drop_zero, normal_nrm r _ hr'.2 h.2, txt_text hk, if_neg (by rw [← toList_L]; exact h1), List.singleton_append, B_L, ← hx]
    · rw [normal_other hk, normal_nrm r _ hr'.2 h.2]
theorem check_parts {l : List Ro} (h : check l = 0) : exceeds l 4096 60 = false ∧ right l = true := by
  unfold check at h
  split at h
  · cases h
  · rename_i h1
    split at h
    · rename_i h2; exact ⟨by simpa using h1, h2⟩
    · cases h
theorem check_of {l : List Ro} (h1 : exceeds l 4096 60 = false) (h2 : right l = true) : check l = 0 := by
  unfold check; rw [h1, h2]; rfl
theorem exceeds_less {l m : List Ro} (h : exceeds l 4096 60 = false) (h1 : m.length ≤ l.length) (h2 : ∀ y ∈ m, ∃ x ∈ l, y.depth ≤ x.depth) : exceeds m 4096 60 = false := by
  cases he : exceeds m 4096 60 with
  | false => rfl
  | true =>
    have hn : ¬ (exceeds l 4096 60 = true) := by rw [h]; decide
    rw [exceeds_iff] at he hn
    exfalso
    apply hn
    rcases he with he | ⟨y, hy, hd⟩
    · exact .inl (by omega)
    · obtain ⟨x, hx, hxy⟩ := h2 y hy
      exact .inr ⟨x, hx, by omega⟩
theorem few_from : ∀ (n : Nat) (l : List Ro), l.length ≤ n → ∀ y ∈ normal l, y.attrs = [] ∨ y ∈ l
  | _, [], _, y, h => by rw [normal_nil] at h; cases h
  | 0, _ :: _, h, _, _ => absurd h (by simp)
  | n + 1, x :: r, hn, y, hy => by
    rw [List.length_cons] at hn
    by_cases hk : x.kind = 1
    · rw [normal_text hk] at hy
      rcases List.mem_append.1 hy with hy | hy
      · split at hy
        · cases hy
        · obtain rfl := List.mem_singleton.1 hy
          exact .inl rfl
      · rcases few_from n (r.drop (nexts x.depth r)) (by rw [List.length_drop]; omega) y hy with h | h
        · exact .inl h
        · exact .inr (List.mem_cons_of_mem _ (List.mem_of_mem_drop h))
    · rw [normal_other hk] at hy
      rcases List.mem_cons.1 hy with rfl | hy
      · exact .inr List.mem_cons_self
      · rcases few_from n r (by omega) y hy with h | h
        · exact .inl h
        · exact .inr (List.mem_cons_of_mem _ h)
theorem few_normal {l : List Ro} (hf : Few l) {y : Ro} (hy : y ∈ normal l) : y.attrs.length ≤ 1000000 := by
  rcases few_from l.length l (Nat.le_refl _) y hy with h | h
  · rw [h]; simp
  · exact hf y h

end Go.Proofs.Ytdjkeakagmgfgaa.Ro

namespace Go.Proofs.Ytdjkeakagmgfgaa.Ro
set_option linter.unusedVariables false
set_option linter.unusedSimpArgs false
open Go.RowKit Ba
/-- How deep a row may stand behind these. -/
def after (m : Int) : List Ro → Int
  | [] => m
  | x :: r => after (if x.kind = 0 then x.depth + 1 else x.depth) r
theorem right_append : ∀ (a b : List Ro) (m : Int), rightFrom m (a ++ b) = (rightFrom m a && rightFrom (after m a) b)
  | [], b, m => by rw [List.nil_append, rightFrom, after, Bool.true_and]
  | x :: r, b, m => by rw [List.cons_append, rightFrom, rightFrom, after, right_append r b]; simp only [Bool.and_assoc]
theorem right_head {m k : Int} {b : List Ro} (h : rightFrom m b = true) (hk : ∀ y, b.head? = some y → y.depth ≤ k) : rightFrom k b = true := by
  cases b with
  | nil => rfl
  | cons y t =>
    have := hk y rfl
    rw [rightFrom] at h ⊢
    simp only [Bool.and_eq_true, decide_eq_true_eq] at h ⊢
    exact ⟨⟨⟨h.1.1.1, this⟩, h.1.2⟩, h.2⟩
theorem ok_deeper (x : Ro) (d : Int) : okRow { x with depth := x.depth + d } = okRow x := rfl
theorem right_deeper (D : Int) : ∀ (a : List Ro) (m : Int), rightFrom m a = true → (∀ y ∈ a, 0 ≤ y.depth + D) → rightFrom (m + D) (deeper D a) = true
  | [], _, _, _ => rfl
  | x :: r, m, h, hd => by
    rw [rightFrom] at h
    simp only [Bool.and_eq_true, decide_eq_true_eq] at h
    have h0 := hd x List.mem_cons_self
    have ih := right_deeper D r _ h.2 fun y hy => hd y (List.mem_cons_of_mem _ hy)
    show rightFrom (m + D) ({ x with depth := x.depth + D } :: deeper D r) = true
    rw [rightFrom]
    simp only [Bool.and_eq_true, decide_eq_true_eq]
    refine ⟨⟨⟨h0, by show x.depth + D ≤ m + D; omega⟩, ?_⟩, ?_⟩
    · rw [ok_deeper]; exact h.1.2
    · by_cases hk : x.kind = 0
      · rw [if_pos hk] at ih ⊢
        rw [show x.depth + D + 1 = x.depth + 1 + D by omega]
        exact ih
      · rw [if_neg hk] at ih ⊢
        exact ih
theorem txt_deeper (D : Int) : ∀ a : List Ro, txt (deeper D a) = txt a
  | [] => rfl
  | x :: r => by
    show txt ({ x with depth := x.depth + D } :: deeper D r) = _
    rw [txt, txt, txt_deeper D r]
theorem takeWhile_split {α : Type} (p : α → Bool) : ∀ l : List α, l = l.takeWhile p ++ l.drop (l.takeWhile p).length
  | [] => rfl
  | x :: r => by
    by_cases hp : p x = true
    · rw [List.takeWhile_cons_of_pos hp, List.length_cons, List.drop_succ_cons, List.cons_append, ← takeWhile_split p r]
    · rw [List.takeWhile_cons_of_neg hp]; rfl
theorem mem_takeWhile {α : Type} (p : α → Bool) : ∀ (l : List α), ∀ x ∈ l.takeWhile p, p x = true
  | [], x, h => by cases h
  | y :: r, x, h => by
    by_cases hp : p y = true
    · rw [List.takeWhile_cons_of_pos hp] at h
      rcases List.mem_cons.1 h with rfl | h
      · exact hp
      · exact mem_takeWhile p r x h
    · rw [List.takeWhile_cons_of_neg hp] at h; cases h

/-- A row, what is below it, and the rest. -/
theorem tree_split {l : List Ro} {k : Nat} (hk : k < l.length) :
    l.drop k = (l[k] :: below l k) ++ l.drop (endOf l k) ∧ (∀ y ∈ below l k, l[k].depth < y.depth) ∧ (∀ y, (l.drop (endOf l k)).head? = some y → y.depth ≤ l[k].depth) ∧ dep l k = l[k].depth ∧ endOf l k = k + 1 + (below l k).length := by
  have hd : dep l k = l[k].depth := dep_at (List.getElem?_eq_getElem hk)
  have he : endOf l k = k + 1 + (below l k).length := by
    unfold endOf; rw [show ((k : Int) + 1).toNat = k + 1 by omega]
  have hb : below l k = (l.drop (k + 1)).takeWhile fun x => decide (l[k].depth < x.depth) := by
    unfold below; rw [hd, show ((k : Int) + 1).toNat = k + 1 by omega]
  have hsp := takeWhile_split (fun x : Ro => decide (l[k].depth < x.depth)) (l.drop (k + 1))
  rw [← hb] at hsp
  have hdd : (l.drop (k + 1)).drop (below l k).length = l.drop (endOf l k) := by rw [List.drop_drop, he]
  rw [hdd] at hsp
  refine ⟨?_, fun y hy => ?_, fun y hy => ?_, hd, he⟩
  · rw [List.drop_eq_getElem_cons hk, List.cons_append]
    rw [← hsp]
  · rw [hb] at hy
    have := mem_takeWhile _ _ y hy
    simpa using this
  · have := stops (fun x : Ro => decide (l[k].depth < x.depth)) (l.drop (k + 1)) y (by rw [← hb, hdd]; exact hy)
    simp at this
    exact this
theorem end_le {l : List Ro} {k : Nat} (hk : k < l.length) : k < endOf l k ∧ endOf l k ≤ l.length := by
  obtain ⟨h1, _, _, _, h5⟩ := tree_split hk
  have := congrArg List.length h1
  rw [List.length_drop, List.length_append, List.length_cons, List.length_drop] at this
  omega
theorem endAt_of {l : List Ro} {k : Nat} (hk : k < l.length) : endAt l k = endOf l k := by
  have h1 : hasRow l k = true := by unfold hasRow; exact decide_eq_true ⟨by omega, by omega⟩
  unfold endAt
  rw [h1, if_pos rfl]

end Go.Proofs.Ytdjkeakagmgfgaa.Ro

namespace Go.Proofs.Ytdjkeakagmgfgaa.Ro
set_option linter.unusedVariables false
set_option linter.unusedSimpArgs false
open Go.RowKit Ba
/-- How many rows the first tree has besides its root. -/
def more (d : Int) (r : List Ro) : Nat := (r.takeWhile fun y => decide (d < y.depth)).length
theorem takeWhile_append_stop {p : Ro → Bool} : ∀ (a b : List Ro), (∀ y, b.head? = some y → p y = false) → (a ++ b).takeWhile p = a.takeWhile p
  | [], b, h => by
    cases b with
    | nil => rfl
    | cons y t => rw [List.nil_append, List.takeWhile_cons_of_neg (by rw [h y rfl]; decide)]; rfl
  | x :: r, b, h => by
    rw [List.cons_append, List.takeWhile_cons, List.takeWhile_cons, takeWhile_append_stop r b h]

end Go.Proofs.Ytdjkeakagmgfgaa.Ro
