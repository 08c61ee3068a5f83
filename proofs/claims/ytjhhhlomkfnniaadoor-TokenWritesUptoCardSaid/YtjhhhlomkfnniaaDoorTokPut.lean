/-
  Tokens written out, in plain words. Walks of stage 6: appendAll, appendStart, appendToken: bytes of the call's own. Walks of stage 6: appendStart. Walks of stage 6: appendToken, token.Write.
-/
import Derived.Test.YtjhhhlomkfnniaaDoorTokMath
import Derived.Test.YtjhhhlomkfnniaaDoorTokAdd
import Derived.Test.YtjhhhlomkfnniaaDoorRefsWalkI
namespace Go.Proofs.YtjhhhlomkfnniaaDoor.Tm
set_option linter.unusedVariables false
set_option linter.unusedSimpArgs false
open Ba Fm Rm Nm
open Ro (At)

/-- An element of this start tag has its text as it stands. -/
def rawT (t : Tk) : Bool := t.kind == 1 && isIn t.name rawL
def wAttr (a : At) : List UInt8 := [32] ++ (L a.name ++ ([61, 34] ++ (esc true (L a.value) ++ [34])))
def wStart (t : Tk) : List UInt8 := [60] ++ L t.name ++ t.attrs.flatMap wAttr ++ (if t.self = true then [32, 47] else []) ++ [62]
def w1 (raw : Bool) (t : Tk) : List UInt8 :=
  if t.kind = 0 then (if raw = true then L t.data else esc false (L t.data))
  else if t.kind = 1 then wStart t
  else if t.kind = 2 then [60, 47] ++ L t.name ++ [62]
  else if t.kind = 3 then [60, 33, 45, 45] ++ L t.data ++ [45, 45, 62]
  else if t.kind = 4 then [60, 33, 100, 111, 99, 116, 121, 112, 101, 32] ++ L t.data ++ [62]
  else []
/-- The tokens, written; raw: the one ahead was such a start tag. -/
def wAll (raw : Bool) : List Tk → List UInt8
  | [] => []
  | t :: r => w1 raw t ++ wAll (rawT t) r

theorem len_wAttr (a : At) : (wAttr a).length ≤ a.name.size + 6 * a.value.size + 4 := by
  have := (len_esc true (L a.value)).2.1
  unfold wAttr
  simp only [List.length_append, List.length_cons, List.length_nil, size_L]
  rw [size_L] at this
  omega
def bulkA (l : List At) : Nat := (l.map fun a => a.name.size + a.value.size).sum
theorem len_wAttrs : ∀ l : List At, (l.flatMap wAttr).length ≤ 6 * bulkA l + 4 * l.length
  | [] => by simp [bulkA]
  | a :: l => by
    have h1 := len_wAttr a
    have h2 := len_wAttrs l
    rw [List.flatMap_cons, List.length_append]
    unfold bulkA at h2 ⊢
    simp only [List.map_cons, List.sum_cons, List.length_cons]
    omega
/-- How much a token has. -/
def bulkT (t : Tk) : Nat := t.name.size + t.data.size + bulkA t.attrs + t.attrs.length
theorem len_w1 (raw : Bool) (t : Tk) : (w1 raw t).length ≤ 6 * bulkT t + 14 := by
  have h1 := (len_esc false (L t.data)).2.1
  rw [size_L] at h1
  have h2 := len_wAttrs t.attrs
  unfold w1 bulkT
  split
  · split
    · rw [size_L]; omega
    · omega
  · split
    · unfold wStart
      simp only [List.length_append, List.length_cons, List.length_nil, size_L]
      split
      · simp only [List.length_cons, List.length_nil]; omega
      · simp only [List.length_nil]; omega
    · split
      · simp only [List.length_append, List.length_cons, List.length_nil, size_L]; omega
      · split
        · simp only [List.length_append, List.length_cons, List.length_nil, size_L]; omega
        · split
          · simp only [List.length_append, List.length_cons, List.length_nil, size_L]; omega
          · simp
def bulk (l : List Tk) : Nat := (l.map bulkT).sum
theorem len_wAll : ∀ (l : List Tk) (raw : Bool), (wAll raw l).length ≤ 6 * bulk l + 14 * l.length
  | [], _ => by simp [wAll, bulk]
  | t :: r, raw => by
    have h1 := len_w1 raw t
    have h2 := len_wAll r (rawT t)
    show (w1 raw t ++ wAll (rawT t) r).length ≤ _
    rw [List.length_append]
    unfold bulk at h2 ⊢
    simp only [List.map_cons, List.sum_cons, List.length_cons]
    omega

end Go.Proofs.YtjhhhlomkfnniaaDoor.Tm

namespace Go.Proofs.YtjhhhlomkfnniaaDoor.To
set_option linter.unusedSimpArgs false
set_option linter.unusedVariables false
open Go.RowKit Ba Fm Fo Tm Nm
open Ro (At acells len_acells below_new Sh Ra acells_one info_attr)
open Re (Tab)
open Rm (dec esc)

/-- All blocks are kept that hold no bytes. -/
def Kb (w w' : World) : Prop := w.heap.size ≤ w'.heap.size ∧ ∀ (i : Nat) (cs : Array Value) (t : TypeId) (fr : Nat × Nat), w.heap[i]? = some (.cells cs t fr) → t ≠ 5 → w'.heap[i]? = w.heap[i]?
theorem Kb.refl (w : World) : Kb w w := ⟨Nat.le_refl _, fun _ _ _ _ _ _ => rfl⟩
theorem Kb.trans {a b c : World} (h : Kb a b) (k : Kb b c) : Kb a c := ⟨Nat.le_trans h.1 k.1, fun i cs t fr hi ht => by
  have h1 := h.2 i cs t fr hi ht
  exact (k.2 i cs t fr (h1.trans hi) ht).trans h1⟩
theorem Kb.below {w w' : World} (h : Below w.heap.size w w') : Kb w w' := ⟨h.size, fun i cs t fr hi _ => h.block i (Array.getElem?_eq_some_iff.1 hi).1⟩
theorem own_ne {N b : Nat} {w : World} {v : Value} {l : List UInt8} (h : Own N w v l) {cs : Array Value} {t : TypeId} {fr : Nat × Nat} (hb : w.heap[b]? = some (.cells cs t fr)) (ht : t ≠ 5) : v.ownBlock ≠ some b := by
  rcases h.2 with ⟨rfl, _⟩ | ⟨g, cap, cur, rfl, _, hh, _⟩
  · simp [Value.ownBlock]
  · intro e
    have e : g = b := by simpa [Value.ownBlock] using e
    subst e
    rw [hb] at hh
    injection hh with hh
    injection hh with _ h2
    exact ht h2
theorem Kb.grown {N : Nat} {w w' : World} {v : Value} {l : List UInt8} (h : Own N w v l) (hg : w.grownBy w' v.ownBlock) : Kb w w' :=
  ⟨hg.size, fun i cs t fr hi ht => hg.block i (Array.getElem?_eq_some_iff.1 hi).1 fun e => own_ne h hi ht e.symm⟩
/-- append of a string's bytes onto bytes of the call's own: what is kept. -/
theorem app_strk {ops : Array Oper} {rest : List Oper} {o : Oper} {a : Act} {Q : Exit → Act → World → Prop} (w : World) (hgd : o.guard = none) (s x : Operand)
    (ho : o.op = .call { callee := .builtin .append, args := #[s, x], argTypes := #[51, 9] })
    (N : Nat) (v : Value) (l : List UInt8) (t : ByteArray) (hs : a.eval s = v) (hown : Own N w v l) (hx : a.eval x = .string t)
    (hl : l.length + t.size ≤ 140737488355328) (hN : N ≤ w.heap.size)
    (h : ∀ v' w', Own N w' v' (l ++ L t) → Below N w w' → Kb w w' → wpList Tryd.prog ops Q rest (a.put o.dst v') w') :
    wpList Tryd.prog ops Q (o :: rest) a w := by
  obtain ⟨i0, hi, hz0, hz1, hz2⟩ := info_parts info_u8
  refine Lib.wpList_append_own_string _ hgd s x 51 9 ho N 5 i0 Tryd.underlying51 Tryd.underlying9 hi hz0 hz1 hz2 v l.length (l.map bc) hs hown t hx (by unfold maxLen; omega) hl hN ?_
  intro v2 w2 hown2 hgrow2 _
  rw [strCells_b] at hown2
  exact h v2 w2 (Own.appended hown2 (by rw [size_L])) (hown.below hgrow2 (Below.refl _ _) hN) (Kb.grown hown hgrow2)

/-- Block g holds these strings. -/
def Ls (w : World) (g : Nat) (l : List ByteArray) : Prop := w.heap[g]? = some (.cells (l.map sc).toArray 9)
theorem Ls.new (w : World) (l : List ByteArray) : Ls (w.alloc (.cells (l.map sc).toArray 9)) w.heap.size l := (MapKept.heap_alloc w _).1
theorem Ls.kb {w w' : World} {g : Nat} {l : List ByteArray} (h : Ls w g l) (k : Kb w w') : Ls w' g l := (k.2 g _ _ _ h (by decide)).trans h
theorem Ls.cell {w : World} {g : Nat} {l : List ByteArray} (h : Ls w g l) (j : Nat) (hj : j < l.length) : w.cell? ⟨g, j, none⟩ = some (.string l[j]) := by
  rw [cell_of_row w g j _ _ _ h]
  simp [sc, hj]

theorem flat_take (l : List ByteArray) (k : Nat) (h : k < l.length) : (l.take (k + 1)).flatMap L = (l.take k).flatMap L ++ L l[k] := by
  rw [List.take_succ_eq_append_getElem h, List.flatMap_append]
  simp
theorem flat_le (l : List ByteArray) (k : Nat) (h : k < l.length) : ((l.take k).flatMap L).length + l[k].size ≤ (l.flatMap L).length := by
  have e : l.flatMap L = (l.take (k + 1)).flatMap L ++ (l.drop (k + 1)).flatMap L := by rw [← List.flatMap_append, List.take_append_drop]
  rw [e, flat_take l k h, List.length_append, List.length_append, size_L]
  omega
set_option maxRecDepth 100000 in
set_option maxHeartbeats 2000000 in
theorem appendAll_any (N g c : Nat) (v : Value) (acc : List UInt8) (l : List ByteArray) (w : World) (ho : Own N w v acc) (hN : N ≤ w.heap.size) (hg : Ls w g l) (hl : l.length ≤ 100) (hz : acc.length + (l.flatMap L).length ≤ 140737488355328) :
    Calls Tryd.prog 69 #[v, .slice (some ⟨g, 0, none⟩) l.length c] w fun e w' => ∃ v', e = .returned v' ∧ Own N w' v' (acc ++ l.flatMap L) ∧ Below N w w' ∧ Kb w w' := by
  go_enter Tryd.func69, Tryd.ntmps69
  go_wp2
  go_loopw [0, 9] (fun u i wr => ∃ k : Nat, i = .int .i64 k ∧ k ≤ l.length ∧ Own N wr u (acc ++ (l.take k).flatMap L) ∧ Below N w wr ∧ Kb w wr) (fun _ i _ => l.length - (intOf i).toNat)
  case atStart => exact ⟨0, rfl, Nat.zero_le _, by simpa using ho, Below.refl _ _, Kb.refl _⟩
  case round =>
    obtain ⟨k, rfl, hk, hown, hb, hkb⟩ := hrel
    by_cases hp : k < l.length
    · have hcell := (hg.kb hkb).cell k hp
      have hle := flat_le l k hp
      have hft := flat_take l k hp
      have hlen : (acc ++ (l.take k).flatMap L).length + l[k].size ≤ 140737488355328 := by rw [List.length_append]; omega
      have hNr : N ≤ wr.heap.size := Nat.le_trans hN hb.size
      have HO := Lib.hid hown; have HB := Lib.hid hb; have HK := Lib.hid hkb; have HF := Lib.hid hft; clear hown hb hkb hft hle
      go_wp2_with (at_builtin; refine app_strk wr rfl (.tmp 13) (.tmp 14) rfl N _ _ l[k] rfl HO.out rfl hlen hNr ?_; intro v4 w4 hown4 hb4 hk4)
      go_roundw
      case rel => exact ⟨k + 1, by go_num, by omega, by rw [HF.out, ← List.append_assoc]; exact hown4, HB.out.trans hb4, HK.out.trans hk4⟩
      case measure => simp [intOf]; omega
    · rw [List.take_of_length_le (by omega)] at hown
      have HO := Lib.hid hown; have HB := Lib.hid hb; have HK := Lib.hid hkb; clear hown hb hkb
      go_wp2
      go_ret
      exact ⟨_, rfl, HO.out, HB.out, HK.out⟩

end Go.Proofs.YtjhhhlomkfnniaaDoor.To

namespace Go.Proofs.YtjhhhlomkfnniaaDoor.To
set_option linter.unusedSimpArgs false
set_option linter.unusedVariables false
open Go.RowKit Ba Fm Fo Tm Nm
open Ro (At acells len_acells below_new Sh Ra acells_one info_attr range2)
open Re (Tab)
open Rm (dec esc)

/-- Block g is a token in a box. -/
def Tb (w : World) (g : Nat) (x : Tw) : Prop := w.heap[g]? = some (tokO x)
theorem Tb.new (w : World) (x : Tw) : Tb (w.alloc (tokO x)) w.heap.size x := (MapKept.heap_alloc w _).1
theorem Tb.c {w : World} {g : Nat} {x : Tw} (h : Tb w g x) : w.cell? ⟨g, 0, none⟩ = some (.int .i64 x.tk.kind) ∧ w.cell? ⟨g, 1, none⟩ = some (.string x.tk.name) ∧ w.cell? ⟨g, 2, none⟩ = some (.string x.tk.data) ∧ w.cell? ⟨g, 3, none⟩ = some (.slice x.A x.tk.attrs.length x.c) ∧ w.cell? ⟨g, 4, none⟩ = some (.bool x.tk.self) := by
  refine ⟨?_, ?_, ?_, ?_, ?_⟩
  · rw [cell_of_row w g 0 _ _ _ h]; rfl
  · rw [cell_of_row w g 1 _ _ _ h]; rfl
  · rw [cell_of_row w g 2 _ _ _ h]; rfl
  · rw [cell_of_row w g 3 _ _ _ h]; rfl
  · rw [cell_of_row w g 4 _ _ _ h]; rfl
theorem Tb.kb {w w' : World} {g : Nat} {x : Tw} (h : Tb w g x) (k : Kb w w') : Tb w' g x := (k.2 g _ _ _ h (by decide)).trans h
theorem Bx.kb {w w' : World} {g : Nat} {x y : ByteArray} (h : Bx w g x y) (k : Kb w w') : Bx w' g x y := (k.2 g _ _ _ h (by decide)).trans h
theorem Kb.alloc (w : World) (o : Obj) : Kb w (w.alloc o) := Kb.below (below_new w o)
theorem Ra.bl {w w' : World} {N M : Nat} {A : Option Addr} {l : List At} (h : Ra w N A l) (hb : Below M w w') (hN : N ≤ M) : Ra w' N A l := Ro.Ra.below h hb hN

theorem appendAll1 (N g c n : Nat) (v : Value) (acc out : List UInt8) (l : List ByteArray) (w : World) (ho : Own N w v acc) (hN : N ≤ w.heap.size) (hg : Ls w g l) (hl : l.length ≤ 100) (hz : acc.length + (l.flatMap L).length ≤ 140737488355328) (hn : l.length = n) (hout : l.flatMap L = out) :
    Calls Tryd.prog 69 #[v, .slice (some ⟨g, 0, none⟩) n c] w fun e w' => ∃ v', e = .returned v' ∧ Own N w' v' (acc ++ out) ∧ Below N w w' ∧ Kb w w' := by
  subst hn hout
  exact appendAll_any N g c v acc l w ho hN hg hl hz
theorem flat2 (a b : ByteArray) : [a, b].flatMap L = L a ++ L b := by rw [List.flatMap_cons, List.flatMap_cons, List.flatMap_nil, List.append_nil]
theorem flat3 (a b c : ByteArray) : [a, b, c].flatMap L = L a ++ (L b ++ L c) := by rw [List.flatMap_cons, flat2]
theorem flat5 (a b c d e : ByteArray) : [a, b, c, d, e].flatMap L = L a ++ (L b ++ (L c ++ (L d ++ L e))) := by rw [List.flatMap_cons, List.flatMap_cons, flat3]
theorem sum_le (l : List At) (k : Nat) (h : k < l.length) : ((l.take k).flatMap wAttr).length + (wAttr l[k]).length ≤ (l.flatMap wAttr).length := by
  have e : l.flatMap wAttr = (l.take (k + 1)).flatMap wAttr ++ (l.drop (k + 1)).flatMap wAttr := by rw [← List.flatMap_append, List.take_append_drop]
  rw [e, List.take_succ_eq_append_getElem h, List.flatMap_append, List.length_append, List.length_append]
  simp
theorem attr_take (l : List At) (k : Nat) (h : k < l.length) : (l.take (k + 1)).flatMap wAttr = (l.take k).flatMap wAttr ++ wAttr l[k] := by
  rw [List.take_succ_eq_append_getElem h, List.flatMap_append]
  simp
theorem bulk_at (l : List At) (k : Nat) (h : k < l.length) : l[k].name.size + l[k].value.size ≤ bulkA l := by
  induction l generalizing k with
  | nil => simp at h
  | cons a r ih =>
    unfold bulkA at ih ⊢
    simp only [List.map_cons, List.sum_cons]
    cases k with
    | zero => simp
    | succ k =>
      have := ih k (by simpa using h)
      have e : (a :: r)[k + 1] = r[k]'(by simpa using h) := rfl
      rw [e]
      omega

theorem lit_app (N : Nat) (u : Value) (AC : List UInt8) (t : ByteArray) (wr : World) (ho : Own N wr u AC) (hN : N ≤ wr.heap.size) (hlen : AC.length + t.size ≤ 140737488355328) :
    Calls Tryd.prog 69 #[u, .slice (some ⟨wr.heap.size, 0, none⟩) 1 1] (wr.alloc (.cells #[.string t] 9)) fun e w' => ∃ v', e = .returned v' ∧ Own N w' v' (AC ++ L t) ∧ Below N wr w' ∧ Kb wr w' := by
  have hfl : [t].flatMap L = L t := by rw [List.flatMap_cons, List.flatMap_nil, List.append_nil]
  refine (appendAll1 N wr.heap.size 1 1 u AC (L t) [t] _ (ho.alloc _) (by simp; omega) (Ls.new wr [t]) (by simp) (by rw [hfl, size_L]; exact hlen) rfl hfl).mono ?_
  rintro e w6 ⟨v6, he, ho6, hb6, hk6⟩
  exact ⟨v6, he, ho6, ((Below.refl N wr).alloc hN _).trans hb6, (Kb.alloc wr _).trans hk6⟩
theorem lit_app3 (N : Nat) (u : Value) (AC : List UInt8) (t1 t2 t3 : ByteArray) (wr : World) (ho : Own N wr u AC) (hN : N ≤ wr.heap.size) (hlen : AC.length + (t1.size + (t2.size + t3.size)) ≤ 140737488355328) :
    Calls Tryd.prog 69 #[u, .slice (some ⟨wr.heap.size, 0, none⟩) 3 3] (wr.alloc (.cells #[.string t1, .string t2, .string t3] 9)) fun e w' => ∃ v', e = .returned v' ∧ Own N w' v' (AC ++ (L t1 ++ (L t2 ++ L t3))) ∧ Below N wr w' ∧ Kb wr w' := by
  refine (appendAll1 N wr.heap.size 3 3 u AC (L t1 ++ (L t2 ++ L t3)) [t1, t2, t3] _ (ho.alloc _) (by simp; omega) (Ls.new wr [t1, t2, t3]) (by simp) (by rw [flat3, List.length_append, List.length_append, size_L, size_L, size_L]; exact hlen) rfl (flat3 _ _ _)).mono ?_
  rintro e w6 ⟨v6, he, ho6, hb6, hk6⟩
  exact ⟨v6, he, ho6, ((Below.refl N wr).alloc hN _).trans hb6, (Kb.alloc wr _).trans hk6⟩
theorem attr_app (N : Nat) (u : Value) (AC : List UInt8) (y : At) (wr w4 : World) (ho : Own N wr u AC) (hN : N ≤ wr.heap.size)
    (hb : Below (wr.alloc (.cells #[.string y.name, .string y.value] 37)).drew.heap.size (wr.alloc (.cells #[.string y.name, .string y.value] 37)).drew w4) (hlen : AC.length + (wAttr y).length ≤ 140737488355328) :
    Calls Tryd.prog 69 #[u, .slice (some ⟨w4.heap.size, 0, none⟩) 5 5] (w4.alloc (.cells #[.string ⟨#[32]⟩, .string y.name, .string ⟨#[61, 34]⟩, .string (B (esc true (L y.value))), .string ⟨#[34]⟩] 9)) fun e w' => ∃ v', e = .returned v' ∧ Own N w' v' (AC ++ wAttr y) ∧ Below N wr w' ∧ Kb wr w' ∧ Bx w' wr.heap.size y.name y.value := by
  have hx4 := (show Bx (wr.alloc (.cells #[.string y.name, .string y.value] 37)).drew wr.heap.size y.name y.value from Bx.new wr y.name y.value).below hb
  have hb4 : Below wr.heap.size wr w4 := bt (below_new wr _) ⟨hb.os, hb.tape, hb.output, hb.size, hb.block⟩
  have hn4 : N ≤ w4.heap.size := Nat.le_trans hN hb4.size
  have hls := Ls.new w4 [⟨#[32]⟩, y.name, ⟨#[61, 34]⟩, B (esc true (L y.value)), ⟨#[34]⟩]
  have hfl : [⟨#[32]⟩, y.name, ⟨#[61, 34]⟩, B (esc true (L y.value)), ⟨#[34]⟩].flatMap L = wAttr y := by
    rw [flat5, L_B]; rfl
  refine (appendAll1 N w4.heap.size 5 5 u AC (wAttr y) [⟨#[32]⟩, y.name, ⟨#[61, 34]⟩, B (esc true (L y.value)), ⟨#[34]⟩] _ ((Own.keep ho hb4).alloc _) (by simp; omega) hls (by simp) (by rw [hfl]; exact hlen) rfl hfl).mono ?_
  rintro e w6 ⟨v6, he, ho6, hb6, hk6⟩
  refine ⟨v6, he, ho6, (hb4.mono hN).trans (((Below.refl N w4).alloc hn4 _).trans hb6), (Kb.below hb4).trans ((Kb.alloc w4 _).trans hk6), (hx4.below (below_new w4 _)).kb hk6⟩

set_option maxRecDepth 100000 in
set_option maxHeartbeats 4000000 in
theorem appendStart_any (N M : Nat) (v : Value) (acc : List UInt8) (x : Tw) (w : World) (ho : Own N w v acc) (hN : N ≤ w.heap.size) (hx : Att w M x) (hM : M ≤ N) (hk : bulkT x.tk ≤ 10000000) (hz : acc.length ≤ 70000000000000) :
    Calls Tryd.prog 68 #[v, tokV x] w fun e w' => ∃ v', e = .returned v' ∧ Own N w' v' (acc ++ wStart x.tk) ∧ Below N w w' ∧ Kb w w' := by
  have hk1 : x.tk.name.size ≤ 10000000 := by unfold bulkT at hk; omega
  have hk2 : bulkA x.tk.attrs ≤ 10000000 := by unfold bulkT at hk; omega
  have hk3 : x.tk.attrs.length ≤ 10000000 := by unfold bulkT at hk; omega
  have hk4 := len_wAttrs x.tk.attrs
  have hacc : acc.length + (1 + x.tk.name.size) ≤ 140737488355328 := by omega
  have hz1 : (w.alloc (tokO x)).heap.size = w.heap.size + 1 := by simp
  have hls : Ls ((w.alloc (tokO x)).alloc (.cells #[.string ⟨#[60]⟩, .string x.tk.name] 9)) (w.heap.size + 1) [⟨#[60]⟩, x.tk.name] := hz1 ▸ Ls.new (w.alloc (tokO x)) [⟨#[60]⟩, x.tk.name]
  have hNa : N ≤ ((w.alloc (tokO x)).alloc (.cells #[.string ⟨#[60]⟩, .string x.tk.name] 9)).heap.size := by simp; omega
  have hba : Below N w ((w.alloc (tokO x)).alloc (.cells #[.string ⟨#[60]⟩, .string x.tk.name] 9)) := ((Below.refl N w).alloc hN _).alloc (by rw [hz1]; omega) _
  have hka : Kb w ((w.alloc (tokO x)).alloc (.cells #[.string ⟨#[60]⟩, .string x.tk.name] 9)) := (Kb.alloc w _).trans (Kb.alloc _ _)
  have hta : Tb ((w.alloc (tokO x)).alloc (.cells #[.string ⟨#[60]⟩, .string x.tk.name] 9)) w.heap.size x := (Tb.new w x).kb (Kb.alloc _ _)
  have HLS := Lib.hid hls; have HNA := Lib.hid hNa; have HBA := Lib.hid hba; have HKA := Lib.hid hka; have HTA := Lib.hid hta; have HO := Lib.hid ho; have HX := Lib.hid hx
  clear hz1 hls hNa hba hka hta ho hx
  go_enter Tryd.func68, Tryd.ntmps68
  go_wp2_with fail
  refine (appendAll1 N (w.heap.size + 1) 2 2 v acc ([60] ++ L x.tk.name) [⟨#[60]⟩, x.tk.name] _ ((HO.out.alloc _).alloc _) HNA.out HLS.out (by simp) (by rw [flat2, List.length_append, size_L, size_L]; exact hacc) rfl (by rw [flat2])).mono ?_
  rintro e w2 ⟨v2, rfl, ho2, hb2, hk2'⟩
  obtain ⟨g, hg⟩ : ∃ g, w.heap.size = g := ⟨_, rfl⟩
  have ht2 := HTA.out.kb hk2'
  have hB2 := HBA.out.trans hb2
  have hK2 := HKA.out.trans hk2'
  rw [hg] at ht2 ⊢
  obtain ⟨c0, c1, c2, c3, c4⟩ := ht2.c
  have HG := Lib.hid hg
  clear hb2 hk2' hg HLS HNA HBA HKA HTA HO c0 c1 c2 c4
  have HO2 := Lib.hid ho2; have HB2 := Lib.hid hB2; have HK2 := Lib.hid hK2; have HT2 := Lib.hid ht2; clear ho2 hB2 hK2 ht2
  have hra := HX.out.2.2.2.1
  have HRA := Lib.hid (Ro.Ra.more hra hM); clear hra
  go_wp2
  clear c3
  go_loopw [0, 15] (fun u i wr => ∃ k : Nat, i = .int .i64 k ∧ k ≤ x.tk.attrs.length ∧ Own N wr u ((acc ++ ([60] ++ L x.tk.name)) ++ (x.tk.attrs.take k).flatMap wAttr) ∧ Below N w wr ∧ Kb w wr ∧ Tb wr g x) (fun _ i _ => x.tk.attrs.length - (intOf i).toNat)
  case atStart => exact ⟨0, rfl, Nat.zero_le _, by simpa using HO2.out, HB2.out, HK2.out, HT2.out⟩
  case round =>
    obtain ⟨k, rfl, hk, hown, hb, hkb, ht⟩ := hrel
    by_cases hp : k < x.tk.attrs.length
    · obtain ⟨b0, off0, y, hA, hb0, hdy, hry, hym⟩ := Ro.Ra.at_ (Ro.Ra.below HRA.out hb) k hp
      rw [hA]
      have hy : x.tk.attrs[k] = y := by
        rw [List.drop_eq_getElem_cons hp] at hdy
        injection hdy
      obtain ⟨f0, f1⟩ := range2 hry
      have hsl := sum_le x.tk.attrs k hp
      have hat := attr_take x.tk.attrs k hp
      have hbk := bulk_at x.tk.attrs k hp
      rw [hy] at hsl hat hbk
      obtain ⟨AC, hAC⟩ : ∃ AC, (acc ++ ([60] ++ L x.tk.name)) ++ (x.tk.attrs.take k).flatMap wAttr = AC := ⟨_, rfl⟩
      have hlen : AC.length + (wAttr y).length ≤ 140737488355328 := by
        rw [← hAC]
        simp only [List.length_append, List.length_cons, List.length_nil, size_L]
        omega
      rw [hAC] at hown
      have hys : y.value.size ≤ 10000000 := by omega
      have hNr : N ≤ wr.heap.size := Nat.le_trans hN hb.size
      have HO := Lib.hid hown; have HB := Lib.hid hb; have HK := Lib.hid hkb; have HT := Lib.hid ht; have HAT := Lib.hid hat; have HAC := Lib.hid hAC
      have hbx := Bx.new wr y.name y.value
      have HBX := Lib.hid hbx
      clear hown hb hkb ht hat hdy hry hym hy hsl hbk hAC hbx hk4 hacc hk1 hk2
      go_upto_region 5 with (fail)
      go_region_held3 (fun w' => w'.cell? ⟨wr.heap.size, 0, none⟩ = some (.string y.name) ∧ w'.cell? ⟨wr.heap.size, 1, none⟩ = some (.string y.value)) (first | exact ⟨e0, e1⟩ | exact ⟨d0, d1⟩ | go_keep) (first
        | (go_at_call 69; refine (attr_app N _ AC y wr w4 HO.out hNr HB4.out hlen).mono ?_; rintro e w6 ⟨v6, rfl, ho6, hb6, hk6, hx6⟩; have e0 := hx6.c0; have e1 := hx6.c1; have HO6 := Lib.hid ho6; have HB6 := Lib.hid hb6; have HK6 := Lib.hid hk6; clear ho6 hb6 hk6 hx6)
        | (go_at_call 87; refine (Re.valueOf_any y.value (wr.alloc (.cells #[.string y.name, .string y.value] 37)).drew hys).mono ?_; rintro e w4 ⟨rfl, hb4⟩; have hx4 := (show Bx (wr.alloc (.cells #[.string y.name, .string y.value] 37)).drew wr.heap.size y.name y.value from HBX.out).below hb4; have d0 := hx4.c0; have d1 := hx4.c1; have HX4 := Lib.hid hx4; have HB4 := Lib.hid hb4; clear hx4 hb4))
      go_wp2
      go_roundw
      case rel =>
        have hK2 := HK.out.trans HK6.out
        refine ⟨k + 1, by go_num, by omega, ?_, HB.out.trans HB6.out, hK2, HT.out.kb HK6.out⟩
        rw [HAT.out, ← List.append_assoc, HAC.out]
        exact HO6.out
      case measure => simp [intOf]; omega
    · rw [List.take_of_length_le (by omega)] at hown
      have c4 := ht.c.2.2.2.2
      have hNr : N ≤ wr.heap.size := Nat.le_trans hN hb.size
      have hst : wStart x.tk = [60] ++ L x.tk.name ++ x.tk.attrs.flatMap wAttr ++ (if x.tk.self = true then [32, 47] else []) ++ [62] := rfl
      obtain ⟨AC, hAC⟩ : ∃ AC, (acc ++ ([60] ++ L x.tk.name)) ++ x.tk.attrs.flatMap wAttr = AC := ⟨_, rfl⟩
      have hlen : AC.length + 3 ≤ 140737488355328 := by
        rw [← hAC]
        simp only [List.length_append, List.length_cons, List.length_nil, size_L]
        omega
      rw [hAC] at hown
      cases hself : x.tk.self with
      | true =>
        rw [hself] at c4
        have hfin : acc ++ wStart x.tk = AC ++ [32, 47] ++ [62] := by rw [hst, hself, if_pos rfl, ← hAC]; simp only [List.append_assoc]
        have HO := Lib.hid hown; have HB := Lib.hid hb; have HK := Lib.hid hkb; have HF := Lib.hid hfin; clear hown hb hkb ht hst hAC hfin hself
        go_wp2_with fail
        refine (lit_app N _ AC ⟨#[32, 47]⟩ wr HO.out hNr (by show AC.length + 2 ≤ _; omega)).mono ?_
        rintro e w3 ⟨v3, rfl, ho3, hb3, hk3⟩
        have hN3 : N ≤ w3.heap.size := Nat.le_trans hNr hb3.size
        go_wp2_with fail
        refine (lit_app N _ _ ⟨#[62]⟩ w3 ho3 hN3 (by rw [List.length_append]; show AC.length + 2 + 1 ≤ _; omega)).mono ?_
        rintro e w4 ⟨v4, rfl, ho4, hb4, hk4'⟩
        go_wp2
        go_ret
        exact ⟨v4, rfl, by rw [HF.out]; exact ho4, (HB.out.trans hb3).trans hb4, (HK.out.trans hk3).trans hk4'⟩
      | false =>
        rw [hself] at c4
        have hfin : acc ++ wStart x.tk = AC ++ [62] := by rw [hst, hself, if_neg (by simp), ← hAC, List.append_nil]; simp only [List.append_assoc]
        have HO := Lib.hid hown; have HB := Lib.hid hb; have HK := Lib.hid hkb; have HF := Lib.hid hfin; clear hown hb hkb ht hst hAC hfin hself
        go_wp2_with fail
        refine (lit_app N _ AC ⟨#[62]⟩ wr HO.out hNr (by show AC.length + 1 ≤ _; omega)).mono ?_
        rintro e w4 ⟨v4, rfl, ho4, hb4, hk4'⟩
        go_wp2
        go_ret
        exact ⟨v4, rfl, by rw [HF.out]; exact ho4, HB.out.trans hb4, HK.out.trans hk4'⟩

end Go.Proofs.YtjhhhlomkfnniaaDoor.To

namespace Go.Proofs.YtjhhhlomkfnniaaDoor.To
set_option linter.unusedSimpArgs false
set_option linter.unusedVariables false
open Go.RowKit Ba Fm Fo Tm Nm
open Ro (At acells len_acells below_new Sh Ra acells_one info_attr range2 range5)
open Re (Tab)
open Rm (dec esc)

theorem app_box (N : Nat) (v : Value) (acc : List UInt8) (x : Tw) (w : World) (ho : Own N w v acc) (hN : N ≤ w.heap.size) : Own N (w.alloc (tokO x)) v acc ∧ N ≤ (w.alloc (tokO x)).heap.size ∧ Below N w (w.alloc (tokO x)) ∧ Kb w (w.alloc (tokO x)) :=
  ⟨ho.alloc _, by simp; omega, (Below.refl N w).alloc hN _, Kb.alloc w _⟩

set_option maxRecDepth 100000 in
set_option maxHeartbeats 2000000 in
theorem appTok_raw (N M : Nat) (v : Value) (acc : List UInt8) (x : Tw) (raw : Bool) (w : World) (ho : Own N w v acc) (hN : N ≤ w.heap.size) (hx : Att w M x) (hM : M ≤ N) (hk : bulkT x.tk ≤ 10000000) (hz : acc.length ≤ 70000000000000) (hkd : x.tk.kind = 0) (hr : raw = true) :
    Calls Tryd.prog 35 #[v, tokV x, .bool raw] w fun e w' => ∃ v', e = .returned v' ∧ Own N w' v' (acc ++ w1 raw x.tk) ∧ Below N w w' ∧ Kb w w' := by
  have hds : x.tk.data.size ≤ 10000000 := by unfold bulkT at hk; omega
  have hns : x.tk.name.size ≤ 10000000 := by unfold bulkT at hk; omega
  obtain ⟨b1, b2, b3, b4⟩ := app_box N v acc x w ho hN
  have HO := Lib.hid b1; have HB := Lib.hid b3; have HK := Lib.hid b4; clear b1 b3 b4 ho
  have k0 : (x.tk.kind == 0) = true := by rw [hkd]; rfl
  have hw : w1 raw x.tk = L x.tk.data := by unfold w1; rw [if_pos hkd, if_pos hr]
  subst hr
  have HW := Lib.hid hw; clear hw hkd hx
  go_enter Tryd.func35, Tryd.ntmps35
  go_wp2_with (at_builtin; refine app_strk (w.alloc (tokO x)) rfl (.tmp 12) (.tmp 14) rfl N v acc x.tk.data rfl HO.out rfl (by omega) b2 ?_; intro v4 w4 ho4 hb4 hk4)
  go_ret
  exact ⟨v4, rfl, by rw [HW.out]; exact ho4, HB.out.trans hb4, HK.out.trans hk4⟩

set_option maxRecDepth 100000 in
set_option maxHeartbeats 2000000 in
theorem appTok_text (N M : Nat) (v : Value) (acc : List UInt8) (x : Tw) (raw : Bool) (w : World) (ho : Own N w v acc) (hN : N ≤ w.heap.size) (hx : Att w M x) (hM : M ≤ N) (hk : bulkT x.tk ≤ 10000000) (hz : acc.length ≤ 70000000000000) (hkd : x.tk.kind = 0) (hr : raw = false) :
    Calls Tryd.prog 35 #[v, tokV x, .bool raw] w fun e w' => ∃ v', e = .returned v' ∧ Own N w' v' (acc ++ w1 raw x.tk) ∧ Below N w w' ∧ Kb w w' := by
  have hds : x.tk.data.size ≤ 10000000 := by unfold bulkT at hk; omega
  have hns : x.tk.name.size ≤ 10000000 := by unfold bulkT at hk; omega
  obtain ⟨b1, b2, b3, b4⟩ := app_box N v acc x w ho hN
  have HO := Lib.hid b1; have HB := Lib.hid b3; have HK := Lib.hid b4; clear b1 b3 b4 ho
  have k0 : (x.tk.kind == 0) = true := by rw [hkd]; rfl
  have hw : w1 raw x.tk = esc false (L x.tk.data) := by unfold w1; rw [if_pos hkd, if_neg (by rw [hr]; simp)]
  have hel := (Rm.len_esc false (L x.tk.data)).2.1
  rw [size_L] at hel
  have hes : (B (esc false (L x.tk.data))).size ≤ 60000000 := by rw [size_B]; omega
  subst hr
  have HW := Lib.hid hw; clear hw hkd hx hel
  go_enter Tryd.func35, Tryd.ntmps35
  go_wp2_with fail
  refine (Re.text_any x.tk.data (w.alloc (tokO x)) hds).mono ?_
  rintro e w2 ⟨rfl, hb2⟩
  have ho2 := Own.keep HO.out hb2
  have hn2 : N ≤ w2.heap.size := Nat.le_trans b2 hb2.size
  have HO2 := Lib.hid ho2; have HB2 := Lib.hid (hb2.mono b2); have HK2 := Lib.hid (Kb.below hb2); clear ho2 hb2
  go_wp2_with (at_builtin; refine app_strk w2 rfl (.tmp 16) (.tmp 19) rfl N v acc _ rfl HO2.out rfl (by omega) hn2 ?_; intro v4 w4 ho4 hb4 hk4)
  go_ret
  rw [L_B] at ho4
  exact ⟨v4, rfl, by rw [HW.out]; exact ho4, (HB.out.trans HB2.out).trans hb4, (HK.out.trans HK2.out).trans hk4⟩

set_option maxRecDepth 100000 in
set_option maxHeartbeats 2000000 in
theorem appTok_start (N M : Nat) (v : Value) (acc : List UInt8) (x : Tw) (raw : Bool) (w : World) (ho : Own N w v acc) (hN : N ≤ w.heap.size) (hx : Att w M x) (hM : M ≤ N) (hk : bulkT x.tk ≤ 10000000) (hz : acc.length ≤ 70000000000000) (hkd : x.tk.kind = 1) :
    Calls Tryd.prog 35 #[v, tokV x, .bool raw] w fun e w' => ∃ v', e = .returned v' ∧ Own N w' v' (acc ++ w1 raw x.tk) ∧ Below N w w' ∧ Kb w w' := by
  have hds : x.tk.data.size ≤ 10000000 := by unfold bulkT at hk; omega
  have hns : x.tk.name.size ≤ 10000000 := by unfold bulkT at hk; omega
  obtain ⟨b1, b2, b3, b4⟩ := app_box N v acc x w ho hN
  have HO := Lib.hid b1; have HB := Lib.hid b3; have HK := Lib.hid b4; clear b1 b3 b4 ho
  have k0 : (x.tk.kind == 0) = false := by rw [hkd]; rfl
  have k1 : (x.tk.kind == 1) = true := by rw [hkd]; rfl
  have hw : w1 raw x.tk = wStart x.tk := by unfold w1; rw [if_neg (by rw [hkd]; decide), if_pos hkd]
  have hxa : Att (w.alloc (tokO x)) M x := Att.below hx HB.out hM
  have HW := Lib.hid hw; have HX := Lib.hid hxa; clear hw hkd hx hxa
  go_enter Tryd.func35, Tryd.ntmps35
  go_wp2_with fail
  refine (appendStart_any N M v acc x (w.alloc (tokO x)) HO.out b2 HX.out hM hk hz).mono ?_
  rintro e w4 ⟨v4, rfl, ho4, hb4, hk4⟩
  go_wp2
  go_ret
  exact ⟨v4, rfl, by rw [HW.out]; exact ho4, HB.out.trans hb4, HK.out.trans hk4⟩

set_option maxRecDepth 100000 in
set_option maxHeartbeats 2000000 in
theorem appTok_end (N M : Nat) (v : Value) (acc : List UInt8) (x : Tw) (raw : Bool) (w : World) (ho : Own N w v acc) (hN : N ≤ w.heap.size) (hx : Att w M x) (hM : M ≤ N) (hk : bulkT x.tk ≤ 10000000) (hz : acc.length ≤ 70000000000000) (hkd : x.tk.kind = 2) :
    Calls Tryd.prog 35 #[v, tokV x, .bool raw] w fun e w' => ∃ v', e = .returned v' ∧ Own N w' v' (acc ++ w1 raw x.tk) ∧ Below N w w' ∧ Kb w w' := by
  have hds : x.tk.data.size ≤ 10000000 := by unfold bulkT at hk; omega
  have hns : x.tk.name.size ≤ 10000000 := by unfold bulkT at hk; omega
  obtain ⟨b1, b2, b3, b4⟩ := app_box N v acc x w ho hN
  have HO := Lib.hid b1; have HB := Lib.hid b3; have HK := Lib.hid b4; clear b1 b3 b4 ho
  have k0 : (x.tk.kind == 0) = false := by rw [hkd]; rfl
  have k1 : (x.tk.kind == 1) = false := by rw [hkd]; rfl
  have k2 : (x.tk.kind == 2) = true := by rw [hkd]; rfl
  have hw : w1 raw x.tk = L ⟨#[60, 47]⟩ ++ (L x.tk.name ++ L ⟨#[62]⟩) := by unfold w1; rw [if_neg (by rw [hkd]; decide), if_neg (by rw [hkd]; decide), if_pos hkd, List.append_assoc]
  have HW := Lib.hid hw; clear hw hkd hx
  go_enter Tryd.func35, Tryd.ntmps35
  go_wp2_with fail
  rw [← show (w.alloc (tokO x)).heap.size = w.heap.size + 1 from by simp]
  refine (lit_app3 N v acc ⟨#[60, 47]⟩ x.tk.name ⟨#[62]⟩ (w.alloc (tokO x)) HO.out b2 (by show acc.length + (2 + (_ + 1)) ≤ _; omega)).mono ?_
  rintro e w4 ⟨v4, rfl, ho4, hb4, hk4⟩
  go_wp2
  go_ret
  exact ⟨v4, rfl, by rw [HW.out]; exact ho4, HB.out.trans hb4, HK.out.trans hk4⟩

set_option maxRecDepth 100000 in
set_option maxHeartbeats 2000000 in
theorem appTok_comment (N M : Nat) (v : Value) (acc : List UInt8) (x : Tw) (raw : Bool) (w : World) (ho : Own N w v acc) (hN : N ≤ w.heap.size) (hx : Att w M x) (hM : M ≤ N) (hk : bulkT x.tk ≤ 10000000) (hz : acc.length ≤ 70000000000000) (hkd : x.tk.kind = 3) :
    Calls Tryd.prog 35 #[v, tokV x, .bool raw] w fun e w' => ∃ v', e = .returned v' ∧ Own N w' v' (acc ++ w1 raw x.tk) ∧ Below N w w' ∧ Kb w w' := by
  have hds : x.tk.data.size ≤ 10000000 := by unfold bulkT at hk; omega
  have hns : x.tk.name.size ≤ 10000000 := by unfold bulkT at hk; omega
  obtain ⟨b1, b2, b3, b4⟩ := app_box N v acc x w ho hN
  have HO := Lib.hid b1; have HB := Lib.hid b3; have HK := Lib.hid b4; clear b1 b3 b4 ho
  have k0 : (x.tk.kind == 0) = false := by rw [hkd]; rfl
  have k1 : (x.tk.kind == 1) = false := by rw [hkd]; rfl
  have k2 : (x.tk.kind == 2) = false := by rw [hkd]; rfl
  have k3 : (x.tk.kind == 3) = true := by rw [hkd]; rfl
  have hw : w1 raw x.tk = L ⟨#[60, 33, 45, 45]⟩ ++ (L x.tk.data ++ L ⟨#[45, 45, 62]⟩) := by unfold w1; rw [if_neg (by rw [hkd]; decide), if_neg (by rw [hkd]; decide), if_neg (by rw [hkd]; decide), if_pos hkd, List.append_assoc]
  have HW := Lib.hid hw; clear hw hkd hx
  go_enter Tryd.func35, Tryd.ntmps35
  go_wp2_with fail
  rw [← show (w.alloc (tokO x)).heap.size = w.heap.size + 1 from by simp]
  refine (lit_app3 N v acc ⟨#[60, 33, 45, 45]⟩ x.tk.data ⟨#[45, 45, 62]⟩ (w.alloc (tokO x)) HO.out b2 (by show acc.length + (4 + (_ + 3)) ≤ _; omega)).mono ?_
  rintro e w4 ⟨v4, rfl, ho4, hb4, hk4⟩
  go_wp2
  go_ret
  exact ⟨v4, rfl, by rw [HW.out]; exact ho4, HB.out.trans hb4, HK.out.trans hk4⟩

set_option maxRecDepth 100000 in
set_option maxHeartbeats 2000000 in
theorem appTok_doctype (N M : Nat) (v : Value) (acc : List UInt8) (x : Tw) (raw : Bool) (w : World) (ho : Own N w v acc) (hN : N ≤ w.heap.size) (hx : Att w M x) (hM : M ≤ N) (hk : bulkT x.tk ≤ 10000000) (hz : acc.length ≤ 70000000000000) (hkd : x.tk.kind = 4) :
    Calls Tryd.prog 35 #[v, tokV x, .bool raw] w fun e w' => ∃ v', e = .returned v' ∧ Own N w' v' (acc ++ w1 raw x.tk) ∧ Below N w w' ∧ Kb w w' := by
  have hds : x.tk.data.size ≤ 10000000 := by unfold bulkT at hk; omega
  have hns : x.tk.name.size ≤ 10000000 := by unfold bulkT at hk; omega
  obtain ⟨b1, b2, b3, b4⟩ := app_box N v acc x w ho hN
  have HO := Lib.hid b1; have HB := Lib.hid b3; have HK := Lib.hid b4; clear b1 b3 b4 ho
  have k0 : (x.tk.kind == 0) = false := by rw [hkd]; rfl
  have k1 : (x.tk.kind == 1) = false := by rw [hkd]; rfl
  have k2 : (x.tk.kind == 2) = false := by rw [hkd]; rfl
  have k3 : (x.tk.kind == 3) = false := by rw [hkd]; rfl
  have k4 : (x.tk.kind == 4) = true := by rw [hkd]; rfl
  have hw : w1 raw x.tk = L ⟨#[60, 33, 100, 111, 99, 116, 121, 112, 101, 32]⟩ ++ (L x.tk.data ++ L ⟨#[62]⟩) := by unfold w1; rw [if_neg (by rw [hkd]; decide), if_neg (by rw [hkd]; decide), if_neg (by rw [hkd]; decide), if_neg (by rw [hkd]; decide), if_pos hkd, List.append_assoc]
  have HW := Lib.hid hw; clear hw hkd hx
  go_enter Tryd.func35, Tryd.ntmps35
  go_wp2_with fail
  rw [← show (w.alloc (tokO x)).heap.size = w.heap.size + 1 from by simp]
  refine (lit_app3 N v acc ⟨#[60, 33, 100, 111, 99, 116, 121, 112, 101, 32]⟩ x.tk.data ⟨#[62]⟩ (w.alloc (tokO x)) HO.out b2 (by show acc.length + (10 + (_ + 1)) ≤ _; omega)).mono ?_
  rintro e w4 ⟨v4, rfl, ho4, hb4, hk4⟩
  go_wp2
  go_ret
  exact ⟨v4, rfl, by rw [HW.out]; exact ho4, HB.out.trans hb4, HK.out.trans hk4⟩

set_option maxRecDepth 100000 in
set_option maxHeartbeats 2000000 in
theorem appTok_none (N M : Nat) (v : Value) (acc : List UInt8) (x : Tw) (raw : Bool) (w : World) (ho : Own N w v acc) (hN : N ≤ w.heap.size) (hx : Att w M x) (hM : M ≤ N) (hk : bulkT x.tk ≤ 10000000) (hz : acc.length ≤ 70000000000000) (h0 : x.tk.kind ≠ 0) (h1 : x.tk.kind ≠ 1) (h2 : x.tk.kind ≠ 2) (h3 : x.tk.kind ≠ 3) (h4 : x.tk.kind ≠ 4) :
    Calls Tryd.prog 35 #[v, tokV x, .bool raw] w fun e w' => ∃ v', e = .returned v' ∧ Own N w' v' (acc ++ w1 raw x.tk) ∧ Below N w w' ∧ Kb w w' := by
  have hds : x.tk.data.size ≤ 10000000 := by unfold bulkT at hk; omega
  have hns : x.tk.name.size ≤ 10000000 := by unfold bulkT at hk; omega
  obtain ⟨b1, b2, b3, b4⟩ := app_box N v acc x w ho hN
  have HO := Lib.hid b1; have HB := Lib.hid b3; have HK := Lib.hid b4; clear b1 b3 b4 ho
  have k0 : (x.tk.kind == 0) = false := by simpa using h0
  have k1 : (x.tk.kind == 1) = false := by simpa using h1
  have k2 : (x.tk.kind == 2) = false := by simpa using h2
  have k3 : (x.tk.kind == 3) = false := by simpa using h3
  have k4 : (x.tk.kind == 4) = false := by simpa using h4
  have hw : w1 raw x.tk = [] := by unfold w1; rw [if_neg h0, if_neg h1, if_neg h2, if_neg h3, if_neg h4]
  have HW := Lib.hid hw; clear hw hx h0 h1 h2 h3 h4
  go_enter Tryd.func35, Tryd.ntmps35
  go_wp2
  go_ret
  exact ⟨v, rfl, by rw [HW.out, List.append_nil]; exact HO.out, HB.out, HK.out⟩

theorem appTok_any (N M : Nat) (v : Value) (acc : List UInt8) (x : Tw) (raw : Bool) (w : World) (ho : Own N w v acc) (hN : N ≤ w.heap.size) (hx : Att w M x) (hM : M ≤ N) (hk : bulkT x.tk ≤ 10000000) (hz : acc.length ≤ 70000000000000) :
    Calls Tryd.prog 35 #[v, tokV x, .bool raw] w fun e w' => ∃ v', e = .returned v' ∧ Own N w' v' (acc ++ w1 raw x.tk) ∧ Below N w w' ∧ Kb w w' := by
  by_cases h0 : x.tk.kind = 0
  · cases hr : raw with
    | true => exact hr ▸ appTok_raw N M v acc x raw w ho hN hx hM hk hz h0 hr
    | false => exact hr ▸ appTok_text N M v acc x raw w ho hN hx hM hk hz h0 hr
  by_cases h1 : x.tk.kind = 1
  · exact appTok_start N M v acc x raw w ho hN hx hM hk hz h1
  by_cases h2 : x.tk.kind = 2
  · exact appTok_end N M v acc x raw w ho hN hx hM hk hz h2
  by_cases h3 : x.tk.kind = 3
  · exact appTok_comment N M v acc x raw w ho hN hx hM hk hz h3
  by_cases h4 : x.tk.kind = 4
  · exact appTok_doctype N M v acc x raw w ho hN hx hM hk hz h4
  · exact appTok_none N M v acc x raw w ho hN hx hM hk hz h0 h1 h2 h3 h4

theorem bulk_cons (t : Tk) (l : List Tk) : bulk (t :: l) = bulkT t + bulk l := by simp [bulk]
set_option maxRecDepth 100000 in
set_option maxHeartbeats 4000000 in
theorem Write_any (M : Nat) (A : Option Addr) (c : Nat) (l : List Tw) (w : World) (hr : Rr w M A l) (hM : M ≤ w.heap.size) (hb : bulk (tks l) ≤ 10000000) (hl : l.length ≤ 1000000) :
    Calls Tryd.prog 19 #[.slice A l.length c] w fun e w' => e = .returned (.string (B (wAll false (tks l)))) ∧ Below w.heap.size w w' := by
  have hlen := len_wAll (tks l) false
  rw [len_tks] at hlen
  obtain ⟨W, hW⟩ : ∃ W, wAll false (tks l) = W := ⟨_, rfl⟩
  rw [hW] at hlen ⊢
  have HW := Lib.hid hW; clear hW
  have ho0 := Own.nil w.heap.size w
  go_enter Tryd.func19, Tryd.ntmps19
  go_wp2
  go_loopw [3, 4, 9] (fun v rw_ i wr => ∃ (k : Nat) (acc : List UInt8) (q : Bool), i = .int .i64 k ∧ rw_ = .bool q ∧ k ≤ l.length ∧ Own w.heap.size wr v acc ∧ acc ++ wAll q ((tks l).drop k) = W ∧ bulk ((tks l).drop k) ≤ 10000000 ∧ Below w.heap.size w wr) (fun _ _ i _ => l.length - (intOf i).toNat)
  case atStart => exact ⟨0, [], false, rfl, rfl, Nat.zero_le _, ho0, by rw [List.nil_append, List.drop_zero]; exact HW.out, by rw [List.drop_zero]; exact hb, Below.refl _ _⟩
  case round =>
    clear ho0
    obtain ⟨k, acc, q, rfl, rfl, hk, hown, hc, hbk, hbel⟩ := hrel
    have hz := hbel.size
    by_cases hp : k < l.length
    · obtain ⟨b1, o1, x, hA, _, hdx, hx, hxa, _⟩ := (hr.below hbel hM).at_ k hp
      rw [hA]
      have hdt : (tks l).drop k = x.tk :: (tks l).drop (k + 1) := by rw [tks_drop, hdx, tks_cons, ← tks_drop]
      rw [hdt, bulk_cons] at hbk
      rw [hdt] at hc
      obtain ⟨f0, f1, f2, f3, f4⟩ := range5 hx
      have hxt : bulkT x.tk ≤ 10000000 := by omega
      have hal : acc.length ≤ 70000000000000 := by
        have := congrArg List.length hc
        rw [List.length_append] at this
        omega
      have ho1 := hown.alloc (tokO x)
      have hb1 : Below w.heap.size w (wr.alloc (tokO x)) := hbel.alloc hz _
      have hx1 : Att (wr.alloc (tokO x)) M x := Att.below (Att.below hxa (below_new wr (tokO x)) (by omega)) (Below.refl _ _) (Nat.le_refl _)
      have ht1 := Tb.new wr x
      have hz1 : w.heap.size ≤ (wr.alloc (tokO x)).heap.size := hb1.size
      have HO := Lib.hid ho1; have HB := Lib.hid hb1; have HX := Lib.hid hx1; have HT := Lib.hid ht1; have HC := Lib.hid hc; have HBK := Lib.hid hbk
      clear hown hbel hdx hx hxa hdt hc hbk ho1 hb1 hx1 ht1 hlen
      go_wp2_with fail
      refine (appTok_any w.heap.size M _ acc x q (wr.alloc (tokO x)) HO.out hz1 HX.out hM hxt hal).mono ?_
      rintro e w3 ⟨v3, rfl, ho3, hb3, hk3⟩
      have ht3 := HT.out.kb hk3
      obtain ⟨c0, c1, _⟩ := ht3.c
      have hB3 := HB.out.trans hb3
      have hz3 := hB3.size
      have HO3 := Lib.hid ho3; have HB3 := Lib.hid hB3; clear ho3 hb3 hk3 ht3 hB3 f0 f1 f2 f3 f4
      cases hk1 : (x.tk.kind == 1) with
      | true =>
        have hraw : rawT x.tk = isIn x.tk.name rawL := by unfold rawT; rw [hk1]; rfl
        have HR := Lib.hid hraw; clear hraw
        go_wp2_with fail
        refine (Na.raw_any x.tk.name w3).mono ?_
        rintro e w4 ⟨rfl, hb4⟩
        have ho4 := Own.keep HO3.out hb4
        have hB4 := HB3.out.trans (hb4.mono hz3)
        have HO4 := Lib.hid ho4; have HB4 := Lib.hid hB4; clear ho4 hB4 hb4
        go_wp2
        go_roundw
        case rel => exact ⟨k + 1, _, isIn x.tk.name rawL, by go_num, rfl, by omega, HO4.out, by have := HC.out; rw [wAll, ← List.append_assoc, HR.out] at this; exact this, by have := HBK.out; omega, HB4.out⟩
        case measure => simp [intOf]; omega
      | false =>
        have hraw : rawT x.tk = false := by unfold rawT; rw [hk1]; rfl
        have HR := Lib.hid hraw; clear hraw
        go_wp2
        go_roundw
        case rel => exact ⟨k + 1, _, false, by go_num, rfl, by omega, HO3.out, by have := HC.out; rw [wAll, ← List.append_assoc, HR.out] at this; exact this, by have := HBK.out; omega, HB3.out⟩
        case measure => simp [intOf]; omega
    · rw [List.drop_eq_nil_of_le (by rw [len_tks]; omega)] at hc
      have hcv := hown.string
      have hacc : acc = W := by rw [← hc]; simp [wAll]
      rw [hacc] at hcv
      have HB := Lib.hid hbel; clear hown hbel hc hacc hlen HW
      go_wp2
      go_ret
      exact ⟨rfl, HB.out⟩

end Go.Proofs.YtjhhhlomkfnniaaDoor.To
