/-
  Walks of stage 6: the reader in memory; pass, skipSpaces. Walks of stage 6: what ends a name or a value, starts, upTo, quoted, value. Walks of stage 6: quoted, value, attr of the reader. Walks of stage 6: attr of the reader.
  Walks of stage 6: attrs of the reader: a tag's attributes, in a loop with a label, the names seen kept in a map. Walks of stage 6: attrs of the reader: the loop.
  Rows in memory: what a slice of rows reads as, their attributes, a row loaded, a row in a box.
  Walks of stage 4: has, depthOf, exceeds, Big.
  Walks of stage 4: where a tree ends, its parent (rows.endOf, End, Parent; boltingref04.End, Parent).
  A set of names tells whether two attributes have the same name.
  Walks of stage 4: repeated, validRow, valid, Check.
  Walks of stage 7: firsts: of attributes with one name the first one, the names seen kept in a map.
  Stage 7: walks of the reference: once.
-/
import Derived.Test.YtdplbcchkjpcdaaGreatDoorCk03
import Derived.Test.YtdplbcchkjpcdaaGreatDoorCk04
import Derived.StillTailTactics
import Derived.Deep.CutRange
import Derived.Deep.RegionHeld3
import Derived.Maps.OwnSet
import Derived.StringKeys
import Derived.WalkMore
import Derived.Deep.MidRow
import Derived.BigQuiet
import Derived.Deep.QuietTactic
import Derived.Test.YtdplbcchkjpcdaaGreatDoorCk01
import Derived.Test.YtdplbcchkjpcdaaGreatDoorCk02
namespace Go.Proofs.YtdplbcchkjpcdaaGreatDoor.To
set_option maxRecDepth 100000
set_option linter.unusedSimpArgs false
set_option linter.unusedVariables false
open Go.RowKit Ba Fm Fo Tm
/-- Block b is a reader: its text, its place, what it has so far. -/
def Rc (w : World) (b : Nat) (s : ByteArray) (k : Nat) (v : Value) : Prop := w.heap[b]? = some (.cells #[.string s, .int .i64 k, v] 48)
theorem Rc.c0 {w : World} {b k : Nat} {s : ByteArray} {v : Value} (h : Rc w b s k v) : w.cell? ⟨b, 0, none⟩ = some (.string s) := by rw [cell_of_row w b 0 _ _ _ h]; rfl
theorem Rc.c1 {w : World} {b k : Nat} {s : ByteArray} {v : Value} (h : Rc w b s k v) : w.cell? ⟨b, 1, none⟩ = some (.int .i64 k) := by rw [cell_of_row w b 1 _ _ _ h]; rfl
theorem Rc.c2 {w : World} {b k : Nat} {s : ByteArray} {v : Value} (h : Rc w b s k v) : w.cell? ⟨b, 2, none⟩ = some v := by rw [cell_of_row w b 2 _ _ _ h]; rfl
theorem Rc.f {w : World} {b k : Nat} {s : ByteArray} {v : Value} (h : Rc w b s k v) (j : Nat) : w.frozen? ⟨b, j, none⟩ = false := by
  unfold Rc at h
  simp [World.frozen?, h]
theorem Rc.lt {w : World} {b k : Nat} {s : ByteArray} {v : Value} (h : Rc w b s k v) : b < w.heap.size := (Array.getElem?_eq_some_iff.1 h).1
theorem Rc.set1 {w : World} {b k : Nat} {s : ByteArray} {v : Value} (h : Rc w b s k v) (m : Nat) : Rc (w.setCell ⟨b, 1, none⟩ (.int .i64 m)) b s m v := by
  unfold Rc at h ⊢
  simp [World.setCell, Array.getElem?_modify, h]
theorem Rc.set2 {w : World} {b k : Nat} {s : ByteArray} {v : Value} (h : Rc w b s k v) (u : Value) : Rc (w.setCell ⟨b, 2, none⟩ u) b s k u := by
  unfold Rc at h ⊢
  simp [World.setCell, Array.getElem?_modify, h]
theorem Rc.drew {w : World} {b k : Nat} {s : ByteArray} {v : Value} (h : Rc w b s k v) (n : Nat) : Rc (w.drewN n) b s k v := h
theorem Rc.below {w w' : World} {b k : Nat} {s : ByteArray} {v : Value} (h : Rc w b s k v) (hb : Below w.heap.size w w') : Rc w' b s k v := (hb.block b h.lt).trans h
abbrev rp (b : Nat) : Value := .pointer (some ⟨b, 0, none⟩)

theorem g_dN (w : World) (n : Nat) (row : Option Nat) : w.grownBy (w.drewN n) row := ⟨rfl, rfl, rfl, Nat.le_refl _, fun _ _ _ => rfl⟩
theorem g_set (w : World) (b j : Nat) (u : Value) : w.grownBy (w.setCell ⟨b, j, none⟩ u) (some b) :=
  ⟨rfl, rfl, rfl, by simp [World.setCell], fun k _ hk => Below.heap_setCell _ _ _ _ (fun e => hk (by simp [e]))⟩

/-- A callee that only reads, within a region that draws. -/
theorem quietB {P : Program} {f : FuncId} {args : Array Value} {w : World} {n : Nat} {u v : Bool}
    (h : Calls P f args (w.drewN n) fun e w' => e = .returned (.bool u) ∧ w.drewN n = w') (hu : u = v) : Calls P f args (w.drewN n) fun e w'' => e = .returned (.bool v) ∧ ∃ m, w'' = w.drewN m :=
  h.mono fun _ _ ⟨he, hm⟩ => ⟨by rw [he, hu], n, hm.symm⟩

/-- Does the rest begin with this byte? -/
def hd (c : UInt8) (l : List UInt8) : Bool := by1 (is c) l

set_option maxHeartbeats 1000000 in
theorem pass_any (b k : Nat) (s : ByteArray) (v : Value) (c : UInt8) (w : World) (h : Rc w b s k v) (hk : k ≤ s.size) (hs : s.size ≤ 140737488355328) :
    Calls Tryz.prog 62 #[rp b, .int .u8 c.toNat] w fun e w' => e = .returned (.bool (hd c ((L s).drop k))) ∧ Rc w' b s (k + (hd c ((L s).drop k)).toNat) v ∧ w.grownBy w' (some b) := by
  have c0 := h.c0; have c1 := h.c1; have f1 := h.f 1
  by_cases hp : k < s.size
  · rw [drop_cons s k hp]
    have hlt : decide ((k : Int) < s.size) = true := decide_eq_true (by omega)
    have he := u8_eq (a := s[k]) (b := c)
    cases hq : (s[k] == c) with
    | true =>
      rw [hq] at he
      have hr : hd c (s[k] :: (L s).drop (k + 1)) = true := hq
      rw [hr]
      have H := Lib.hid h; clear h hr hq
      go_enter Tryz.func62, Tryz.ntmps62
      go_wp2
      go_quiet (fail)
      go_wp2
      go_ret
      exact ⟨rfl, H.out.set1 (k + 1), (g_dN _ _ _).trans (g_set _ _ _ _)⟩
    | false =>
      rw [hq] at he
      have hr : hd c (s[k] :: (L s).drop (k + 1)) = false := hq
      rw [hr]
      have H := Lib.hid h; clear h hr hq
      go_enter Tryz.func62, Tryz.ntmps62
      go_wp2
      go_quiet (fail)
      go_wp2
      go_ret
      exact ⟨rfl, H.out, g_dN _ _ _⟩
  · have hlt : decide ((k : Int) < s.size) = false := decide_eq_false (by omega)
    rw [drop_nil s k hp]
    have H := Lib.hid h; clear h
    go_enter Tryz.func62, Tryz.ntmps62
    go_wp2
    go_quiet (fail)
    go_wp2
    go_ret
    exact ⟨rfl, H.out, g_dN _ _ _⟩

/-- Where the reader in block b stands. -/
def posOf (w : World) (b : Nat) : Nat := match w.cell? ⟨b, 1, none⟩ with | some v => (intOf v).toNat | none => 0
theorem Rc.pos {w : World} {b k : Nat} {s : ByteArray} {v : Value} (h : Rc w b s k v) : posOf w b = k := by
  unfold posOf
  rw [h.c1]
  simp [intOf]

set_option maxHeartbeats 1000000 in
theorem skip_any (b k : Nat) (s : ByteArray) (v : Value) (w : World) (h : Rc w b s k v) (hk : k ≤ s.size) (hs : s.size ≤ 140737488355328) :
    Calls Tryz.prog 129 #[rp b] w fun e w' => e = .returned (.tuple #[]) ∧ ∃ m, m ≤ s.size ∧ (L s).drop m = trimS ((L s).drop k) ∧ Rc w' b s m v ∧ w.grownBy w' (some b) := by
  go_enter Tryz.func129, Tryz.ntmps129
  go_wp2
  go_loopw [] (fun wr => ∃ m : Nat, m ≤ s.size ∧ trimS ((L s).drop m) = trimS ((L s).drop k) ∧ Rc wr b s m v ∧ w.grownBy wr (some b)) (fun wr => s.size - posOf wr b)
  case atStart => exact ⟨k, hk, rfl, h, World.grownBy.refl _ _⟩
  case round =>
    clear h
    obtain ⟨m, hm, ht, h, hg⟩ := hrel
    have c0 := h.c0; have c1 := h.c1; have f1 := h.f 1
    have hpos := h.pos
    by_cases hp : m < s.size
    · rw [drop_cons s m hp] at ht
      have hlt : decide ((m : Int) < s.size) = true := decide_eq_true (by omega)
      cases hsp : sp s[m] with
      | true =>
        rw [trimS_sp _ hsp] at ht
        have H := Lib.hid h; have HT := Lib.hid ht; have HS := Lib.hid hsp; have HP := Lib.hid hpos; have HG := Lib.hid hg; clear h ht hsp hpos hg
        go_wp2
        go_quiet (exact quietB (space_any s[m] _) HS.out)
        go_wp2
        go_roundw
        case rel => exact ⟨m + 1, by omega, HT.out, H.out.set1 (m + 1), (HG.out.trans (g_dN _ _ _)).trans (g_set _ _ _ _)⟩
        case measure =>
          rw [show posOf ((wr.drewN nq).setCell ⟨b, 1, none⟩ (.int .i64 (m + 1))) b = m + 1 from ((H.out.drew nq).set1 (m + 1)).pos, HP.out]
          omega
      | false =>
        rw [trimS_no _ hsp, ← drop_cons s m hp] at ht
        have H := Lib.hid h; have HT := Lib.hid ht; have HS := Lib.hid hsp; have HG := Lib.hid hg; clear h ht hsp hpos hg
        go_wp2
        go_quiet (exact quietB (space_any s[m] _) HS.out)
        go_wp2
        go_end0
        exact ⟨rfl, m, hm, HT.out, H.out, HG.out.trans (g_dN _ _ _)⟩
    · have hlt : decide ((m : Int) < s.size) = false := decide_eq_false (by omega)
      rw [drop_nil s m hp, trimS_nil] at ht
      have H := Lib.hid h; have HT := Lib.hid ht; have HG := Lib.hid hg; clear h ht hpos hg
      go_wp2
      go_quiet (fail)
      go_wp2
      go_end0
      exact ⟨rfl, m, hm, by rw [← HT.out, drop_nil s m hp], H.out, HG.out.trans (g_dN _ _ _)⟩

end Go.Proofs.YtdplbcchkjpcdaaGreatDoor.To

namespace Go.Proofs.YtdplbcchkjpcdaaGreatDoor.To
set_option maxRecDepth 100000
set_option linter.unusedSimpArgs false
set_option linter.unusedVariables false
open Go.RowKit Ba Fm Fo Tm
theorem closes_any (c : UInt8) (w : World) : Calls Tryz.prog 61 #[.int .u8 c.toNat] w fun e w' => e = .returned (.bool (gt c)) ∧ w = w' := by
  have e62 : ((c.toNat : Int) == 62) = (c == 62) := u8_eq (b := 62)
  obtain ⟨q, hq⟩ : ∃ q, (c == 62) = q := ⟨_, rfl⟩
  rw [hq] at e62
  have hg : gt c = q := hq
  have HG := Lib.hid hg; clear hg hq
  go_enter Tryz.func61, Tryz.ntmps61
  go_wp2
  go_ret
  exact ⟨ret_bool HG.out.symm, rfl⟩

theorem endsValue_any (c : UInt8) (w : World) : Calls Tryz.prog 119 #[.int .u8 c.toNat] w fun e w' => e = .returned (.bool (ev c)) ∧ w = w' := by
  have e0 : ((c.toNat : Int) == 62) = (c == 62) := u8_eq (b := 62)
  cases hq : (c == 62) with
  | true =>
    rw [hq] at e0
    have hg : ev c = true := by unfold ev; rw [hq]; rfl
    have HG := Lib.hid hg; clear hg hq
    go_enter Tryz.func119, Tryz.ntmps119
    go_wp2
    go_ret
    exact ⟨ret_bool HG.out.symm, rfl⟩
  | false =>
    rw [hq] at e0
    have hg : ev c = sp c := by unfold ev; rw [hq]; rfl
    have HG := Lib.hid hg; clear hg hq
    go_enter Tryz.func119, Tryz.ntmps119
    go_wp2_with (go_at_call 101; refine (space_any c _).mono ?_; rintro e w' ⟨rfl, rfl⟩)
    go_ret
    exact ⟨ret_bool HG.out.symm, rfl⟩

theorem endsName_any (c : UInt8) (w : World) : Calls Tryz.prog 98 #[.int .u8 c.toNat] w fun e w' => e = .returned (.bool (en c)) ∧ w = w' := by
  have e0 : ((c.toNat : Int) == 47) = (c == 47) := u8_eq (b := 47)
  cases hq : (c == 47) with
  | true =>
    rw [hq] at e0
    have hg : en c = true := by unfold en; rw [hq]; rfl
    have HG := Lib.hid hg; clear hg hq
    go_enter Tryz.func98, Tryz.ntmps98
    go_wp2
    go_ret
    exact ⟨ret_bool HG.out.symm, rfl⟩
  | false =>
    rw [hq] at e0
    have hg : en c = ev c := by unfold en; rw [hq]; rfl
    have HG := Lib.hid hg; clear hg hq
    go_enter Tryz.func98, Tryz.ntmps98
    go_wp2_with (go_at_call 119; refine (endsValue_any c _).mono ?_; rintro e w' ⟨rfl, rfl⟩)
    go_ret
    exact ⟨ret_bool HG.out.symm, rfl⟩

theorem endsAttr_any (c : UInt8) (w : World) : Calls Tryz.prog 128 #[.int .u8 c.toNat] w fun e w' => e = .returned (.bool (ea c)) ∧ w = w' := by
  have e0 : ((c.toNat : Int) == 61) = (c == 61) := u8_eq (b := 61)
  cases hq : (c == 61) with
  | true =>
    rw [hq] at e0
    have hg : ea c = true := by unfold ea; rw [hq]; rfl
    have HG := Lib.hid hg; clear hg hq
    go_enter Tryz.func128, Tryz.ntmps128
    go_wp2
    go_ret
    exact ⟨ret_bool HG.out.symm, rfl⟩
  | false =>
    rw [hq] at e0
    have hg : ea c = en c := by unfold ea; rw [hq]; rfl
    have HG := Lib.hid hg; clear hg hq
    go_enter Tryz.func128, Tryz.ntmps128
    go_wp2_with (go_at_call 98; refine (endsName_any c _).mono ?_; rintro e w' ⟨rfl, rfl⟩)
    go_ret
    exact ⟨ret_bool HG.out.symm, rfl⟩

theorem quote_any (c q : UInt8) (g : Nat) (w : World) (h : w.cell? ⟨g, 0, none⟩ = some (.int .u8 q.toNat)) :
    Calls Tryz.prog 136 #[.int .u8 c.toNat, .pointer (some ⟨g, 0, none⟩)] w fun e w' => e = .returned (.bool (is q c)) ∧ w = w' := by
  have e0 : ((c.toNat : Int) == (q.toNat : Int)) = is q c := u8_eq
  obtain ⟨u, hu⟩ : ∃ u, is q c = u := ⟨_, rfl⟩
  rw [hu] at e0
  have HU := Lib.hid hu; clear hu
  go_enter Tryz.func136, Tryz.ntmps136
  go_wp2
  go_ret
  exact ⟨ret_bool HU.out.symm, rfl⟩

theorem pre_yes (s t : ByteArray) : ((s.extract 0 t.size).toList == t.toList) = pre (L t) (L s) := by
  rw [eq_of_toList]
  unfold pre
  refine decide_eq_decide.2 ?_
  rw [size_L]
  constructor
  · intro e
    have := congrArg L e
    rwa [L_extract, Nat.sub_zero, List.drop_zero] at this
  · intro e
    apply L_inj
    rwa [L_extract, Nat.sub_zero, List.drop_zero]
theorem pre_short (s t : ByteArray) (h : ¬ t.size ≤ s.size) : pre (L t) (L s) = false := by
  unfold pre
  refine decide_eq_false fun e => ?_
  have := congrArg List.length e
  rw [List.length_take, size_L, size_L] at this
  omega
set_option maxHeartbeats 1000000 in
theorem starts_any (s t : ByteArray) (w : World) (hs : s.size ≤ 140737488355328) (ht : t.size ≤ 140737488355328) :
    Calls Tryz.prog 113 #[.string s, .string t] w fun e w' => e = .returned (.bool (pre (L t) (L s))) ∧ w = w' := by
  by_cases hp : t.size ≤ s.size
  · have hd : decide ((t.size : Int) ≤ s.size) = true := decide_eq_true (by omega)
    have he := pre_yes s t
    obtain ⟨q, hq⟩ : ∃ q, pre (L t) (L s) = q := ⟨_, rfl⟩
    rw [hq] at he
    have HQ := Lib.hid hq; clear hq
    go_enter Tryz.func113, Tryz.ntmps113
    go_wp2
    go_ret
    exact ⟨ret_bool HQ.out.symm, rfl⟩
  · have hd : decide ((t.size : Int) ≤ s.size) = false := decide_eq_false (by omega)
    have hq := pre_short s t hp
    have HQ := Lib.hid hq; clear hq
    go_enter Tryz.func113, Tryz.ntmps113
    go_wp2
    go_ret
    exact ⟨ret_bool HQ.out.symm, rfl⟩

theorem by1_at (q : UInt8 → Bool) (s : ByteArray) (k : Nat) (h : k < s.size) (b : Bool) (hb : q s[k] = b) : by1 q ((L s).drop k) = b := by
  rw [drop_cons s k h]
  exact hb
theorem lead_at {p : List UInt8 → Bool} {s : ByteArray} {k : Nat} (h : k < s.size) (hp : p ((L s).drop k) = false) : lead p ((L s).drop k) = s[k] :: lead p ((L s).drop (k + 1)) ∧ trail p ((L s).drop k) = trail p ((L s).drop (k + 1)) := by
  rw [drop_cons s k h] at hp ⊢
  exact ⟨lead_no hp, trail_no hp⟩
theorem lead_end {p : List UInt8 → Bool} {s : ByteArray} {k : Nat} (hp : p ((L s).drop k) = true ∨ ¬ k < s.size) : lead p ((L s).drop k) = [] ∧ trail p ((L s).drop k) = (L s).drop k := by
  by_cases h : k < s.size
  · have hp := hp.resolve_right (by omega)
    rw [drop_cons s k h] at hp ⊢
    exact ⟨lead_yes hp, trail_yes hp⟩
  · rw [drop_nil s k h]
    exact ⟨rfl, rfl⟩
/-- How far a search has come. -/
def Far (p : List UInt8 → Bool) (s : ByteArray) (k m : Nat) : Prop := k ≤ m ∧ m ≤ s.size ∧ lead p ((L s).drop k) = ((L s).drop k).take (m - k) ++ lead p ((L s).drop m) ∧ trail p ((L s).drop k) = trail p ((L s).drop m)
theorem Far.start {p : List UInt8 → Bool} {s : ByteArray} {k : Nat} (h : k ≤ s.size) : Far p s k k := ⟨Nat.le_refl _, h, by simp, rfl⟩
theorem Far.next {p : List UInt8 → Bool} {s : ByteArray} {k m : Nat} (h : Far p s k m) (hm : m < s.size) (hp : p ((L s).drop m) = false) : Far p s k (m + 1) := by
  obtain ⟨h1, h2, h3, h4⟩ := h
  obtain ⟨a1, a2⟩ := lead_at hm hp
  refine ⟨by omega, by omega, ?_, h4.trans a2⟩
  rw [h3, a1]
  have e : ((L s).drop k).take (m + 1 - k) = ((L s).drop k).take (m - k) ++ [s[m]] := by
    rw [show m + 1 - k = (m - k) + 1 from by omega, List.take_succ_eq_append_getElem (by rw [List.length_drop, size_L]; omega)]
    congr 2
    rw [List.getElem_drop]
    simp [show k + (m - k) = m from by omega]
    rfl
  rw [e, List.append_assoc]
  rfl
/-- Where a search ends. -/
theorem Far.done {p : List UInt8 → Bool} {s : ByteArray} {k m : Nat} (h : Far p s k m) (hp : p ((L s).drop m) = true ∨ ¬ m < s.size) : s.extract k m = B (lead p ((L s).drop k)) ∧ (L s).drop m = trail p ((L s).drop k) := by
  obtain ⟨h1, h2, h3, h4⟩ := h
  obtain ⟨a1, a2⟩ := lead_end hp
  refine ⟨B_of ?_, (h4.trans a2).symm⟩
  rw [L_extract, h3, a1, List.append_nil]

set_option maxHeartbeats 1000000 in
theorem upTo_gt (b k : Nat) (s : ByteArray) (v : Value) (w : World) (h : Rc w b s k v) (hk : k ≤ s.size) (hs : s.size ≤ 140737488355328) :
    Calls Tryz.prog 60 #[rp b, .func (.func 61) #[] #[]] w fun e w' => e = .returned (.string (B (upTo (gt) ((L s).drop k)))) ∧ ∃ m, m ≤ s.size ∧ (L s).drop m = from_ (gt) ((L s).drop k) ∧ Rc w' b s m v ∧ w.grownBy w' (some b) := by
  have c1 := h.c1
  go_enter Tryz.func60, Tryz.ntmps60
  go_wp2
  clear c1
  go_loopw [] (fun wr => ∃ m : Nat, Far (by1 (gt)) s k m ∧ Rc wr b s m v ∧ w.grownBy wr (some b)) (fun wr => s.size - posOf wr b)
  case atStart => exact ⟨k, .start hk, h, World.grownBy.refl _ _⟩
  case round =>
    clear h
    obtain ⟨m, hf, h, hg⟩ := hrel
    have hm := hf.2.1
    have hkm := hf.1
    have c0 := h.c0; have c1 := h.c1; have f1 := h.f 1
    have hpos := h.pos
    
    by_cases hp : m < s.size
    · have hlt : decide ((m : Int) < s.size) = true := decide_eq_true (by omega)
      cases hsp : (gt) s[m] with
      | false =>
        have hf := hf.next hp (by1_at _ s m hp false hsp)
        have H := Lib.hid h; have HF := Lib.hid hf; have HS := Lib.hid hsp; have HP := Lib.hid hpos; have HG := Lib.hid hg; clear h hf hsp hpos hg
        go_wp2
        go_quiet (exact quietB (closes_any s[m] _) HS.out)
        go_wp2
        go_roundw
        case rel => exact ⟨m + 1, HF.out, H.out.set1 (m + 1), (HG.out.trans (g_dN _ _ _)).trans (g_set _ _ _ _)⟩
        case measure =>
          rw [show posOf ((wr.drewN nq).setCell ⟨b, 1, none⟩ (.int .i64 (m + 1))) b = m + 1 from ((H.out.drew nq).set1 (m + 1)).pos, HP.out]
          omega
      | true =>
        have hd := hf.done (.inl (by1_at _ s m hp true hsp))
        have H := Lib.hid h; have HD := Lib.hid hd; have HS := Lib.hid hsp; have HG := Lib.hid hg; clear h hf hsp hpos hg hd
        go_wp2
        go_quiet (exact quietB (closes_any s[m] _) HS.out)
        go_wp2
        go_quiet (fail)
        go_wp2
        go_ret
        exact ⟨ret_str HD.out.1, m, hm, HD.out.2, H.out, (HG.out.trans (g_dN _ _ _)).trans (g_dN _ _ _)⟩
    · have hlt : decide ((m : Int) < s.size) = false := decide_eq_false (by omega)
      have hd := hf.done (.inr hp)
      have H := Lib.hid h; have HD := Lib.hid hd; have HG := Lib.hid hg; clear h hf hpos hg hd
      go_wp2
      go_quiet (fail)
      go_wp2
      go_quiet (fail)
      go_wp2
      go_ret
      exact ⟨ret_str HD.out.1, m, hm, HD.out.2, H.out, (HG.out.trans (g_dN _ _ _)).trans (g_dN _ _ _)⟩

set_option maxHeartbeats 1000000 in
theorem upTo_en (b k : Nat) (s : ByteArray) (v : Value) (w : World) (h : Rc w b s k v) (hk : k ≤ s.size) (hs : s.size ≤ 140737488355328) :
    Calls Tryz.prog 60 #[rp b, .func (.func 98) #[] #[]] w fun e w' => e = .returned (.string (B (upTo (en) ((L s).drop k)))) ∧ ∃ m, m ≤ s.size ∧ (L s).drop m = from_ (en) ((L s).drop k) ∧ Rc w' b s m v ∧ w.grownBy w' (some b) := by
  have c1 := h.c1
  go_enter Tryz.func60, Tryz.ntmps60
  go_wp2
  clear c1
  go_loopw [] (fun wr => ∃ m : Nat, Far (by1 (en)) s k m ∧ Rc wr b s m v ∧ w.grownBy wr (some b)) (fun wr => s.size - posOf wr b)
  case atStart => exact ⟨k, .start hk, h, World.grownBy.refl _ _⟩
  case round =>
    clear h
    obtain ⟨m, hf, h, hg⟩ := hrel
    have hm := hf.2.1
    have hkm := hf.1
    have c0 := h.c0; have c1 := h.c1; have f1 := h.f 1
    have hpos := h.pos
    
    by_cases hp : m < s.size
    · have hlt : decide ((m : Int) < s.size) = true := decide_eq_true (by omega)
      cases hsp : (en) s[m] with
      | false =>
        have hf := hf.next hp (by1_at _ s m hp false hsp)
        have H := Lib.hid h; have HF := Lib.hid hf; have HS := Lib.hid hsp; have HP := Lib.hid hpos; have HG := Lib.hid hg; clear h hf hsp hpos hg
        go_wp2
        go_quiet (exact quietB (endsName_any s[m] _) HS.out)
        go_wp2
        go_roundw
        case rel => exact ⟨m + 1, HF.out, H.out.set1 (m + 1), (HG.out.trans (g_dN _ _ _)).trans (g_set _ _ _ _)⟩
        case measure =>
          rw [show posOf ((wr.drewN nq).setCell ⟨b, 1, none⟩ (.int .i64 (m + 1))) b = m + 1 from ((H.out.drew nq).set1 (m + 1)).pos, HP.out]
          omega
      | true =>
        have hd := hf.done (.inl (by1_at _ s m hp true hsp))
        have H := Lib.hid h; have HD := Lib.hid hd; have HS := Lib.hid hsp; have HG := Lib.hid hg; clear h hf hsp hpos hg hd
        go_wp2
        go_quiet (exact quietB (endsName_any s[m] _) HS.out)
        go_wp2
        go_quiet (fail)
        go_wp2
        go_ret
        exact ⟨ret_str HD.out.1, m, hm, HD.out.2, H.out, (HG.out.trans (g_dN _ _ _)).trans (g_dN _ _ _)⟩
    · have hlt : decide ((m : Int) < s.size) = false := decide_eq_false (by omega)
      have hd := hf.done (.inr hp)
      have H := Lib.hid h; have HD := Lib.hid hd; have HG := Lib.hid hg; clear h hf hpos hg hd
      go_wp2
      go_quiet (fail)
      go_wp2
      go_quiet (fail)
      go_wp2
      go_ret
      exact ⟨ret_str HD.out.1, m, hm, HD.out.2, H.out, (HG.out.trans (g_dN _ _ _)).trans (g_dN _ _ _)⟩

set_option maxHeartbeats 1000000 in
theorem upTo_ea (b k : Nat) (s : ByteArray) (v : Value) (w : World) (h : Rc w b s k v) (hk : k ≤ s.size) (hs : s.size ≤ 140737488355328) :
    Calls Tryz.prog 60 #[rp b, .func (.func 128) #[] #[]] w fun e w' => e = .returned (.string (B (upTo (ea) ((L s).drop k)))) ∧ ∃ m, m ≤ s.size ∧ (L s).drop m = from_ (ea) ((L s).drop k) ∧ Rc w' b s m v ∧ w.grownBy w' (some b) := by
  have c1 := h.c1
  go_enter Tryz.func60, Tryz.ntmps60
  go_wp2
  clear c1
  go_loopw [] (fun wr => ∃ m : Nat, Far (by1 (ea)) s k m ∧ Rc wr b s m v ∧ w.grownBy wr (some b)) (fun wr => s.size - posOf wr b)
  case atStart => exact ⟨k, .start hk, h, World.grownBy.refl _ _⟩
  case round =>
    clear h
    obtain ⟨m, hf, h, hg⟩ := hrel
    have hm := hf.2.1
    have hkm := hf.1
    have c0 := h.c0; have c1 := h.c1; have f1 := h.f 1
    have hpos := h.pos
    
    by_cases hp : m < s.size
    · have hlt : decide ((m : Int) < s.size) = true := decide_eq_true (by omega)
      cases hsp : (ea) s[m] with
      | false =>
        have hf := hf.next hp (by1_at _ s m hp false hsp)
        have H := Lib.hid h; have HF := Lib.hid hf; have HS := Lib.hid hsp; have HP := Lib.hid hpos; have HG := Lib.hid hg; clear h hf hsp hpos hg
        go_wp2
        go_quiet (exact quietB (endsAttr_any s[m] _) HS.out)
        go_wp2
        go_roundw
        case rel => exact ⟨m + 1, HF.out, H.out.set1 (m + 1), (HG.out.trans (g_dN _ _ _)).trans (g_set _ _ _ _)⟩
        case measure =>
          rw [show posOf ((wr.drewN nq).setCell ⟨b, 1, none⟩ (.int .i64 (m + 1))) b = m + 1 from ((H.out.drew nq).set1 (m + 1)).pos, HP.out]
          omega
      | true =>
        have hd := hf.done (.inl (by1_at _ s m hp true hsp))
        have H := Lib.hid h; have HD := Lib.hid hd; have HS := Lib.hid hsp; have HG := Lib.hid hg; clear h hf hsp hpos hg hd
        go_wp2
        go_quiet (exact quietB (endsAttr_any s[m] _) HS.out)
        go_wp2
        go_quiet (fail)
        go_wp2
        go_ret
        exact ⟨ret_str HD.out.1, m, hm, HD.out.2, H.out, (HG.out.trans (g_dN _ _ _)).trans (g_dN _ _ _)⟩
    · have hlt : decide ((m : Int) < s.size) = false := decide_eq_false (by omega)
      have hd := hf.done (.inr hp)
      have H := Lib.hid h; have HD := Lib.hid hd; have HG := Lib.hid hg; clear h hf hpos hg hd
      go_wp2
      go_quiet (fail)
      go_wp2
      go_quiet (fail)
      go_wp2
      go_ret
      exact ⟨ret_str HD.out.1, m, hm, HD.out.2, H.out, (HG.out.trans (g_dN _ _ _)).trans (g_dN _ _ _)⟩

set_option maxHeartbeats 1000000 in
theorem upTo_ev (b k : Nat) (s : ByteArray) (v : Value) (w : World) (h : Rc w b s k v) (hk : k ≤ s.size) (hs : s.size ≤ 140737488355328) :
    Calls Tryz.prog 60 #[rp b, .func (.func 119) #[] #[]] w fun e w' => e = .returned (.string (B (upTo (ev) ((L s).drop k)))) ∧ ∃ m, m ≤ s.size ∧ (L s).drop m = from_ (ev) ((L s).drop k) ∧ Rc w' b s m v ∧ w.grownBy w' (some b) := by
  have c1 := h.c1
  go_enter Tryz.func60, Tryz.ntmps60
  go_wp2
  clear c1
  go_loopw [] (fun wr => ∃ m : Nat, Far (by1 (ev)) s k m ∧ Rc wr b s m v ∧ w.grownBy wr (some b)) (fun wr => s.size - posOf wr b)
  case atStart => exact ⟨k, .start hk, h, World.grownBy.refl _ _⟩
  case round =>
    clear h
    obtain ⟨m, hf, h, hg⟩ := hrel
    have hm := hf.2.1
    have hkm := hf.1
    have c0 := h.c0; have c1 := h.c1; have f1 := h.f 1
    have hpos := h.pos
    
    by_cases hp : m < s.size
    · have hlt : decide ((m : Int) < s.size) = true := decide_eq_true (by omega)
      cases hsp : (ev) s[m] with
      | false =>
        have hf := hf.next hp (by1_at _ s m hp false hsp)
        have H := Lib.hid h; have HF := Lib.hid hf; have HS := Lib.hid hsp; have HP := Lib.hid hpos; have HG := Lib.hid hg; clear h hf hsp hpos hg
        go_wp2
        go_quiet (exact quietB (endsValue_any s[m] _) HS.out)
        go_wp2
        go_roundw
        case rel => exact ⟨m + 1, HF.out, H.out.set1 (m + 1), (HG.out.trans (g_dN _ _ _)).trans (g_set _ _ _ _)⟩
        case measure =>
          rw [show posOf ((wr.drewN nq).setCell ⟨b, 1, none⟩ (.int .i64 (m + 1))) b = m + 1 from ((H.out.drew nq).set1 (m + 1)).pos, HP.out]
          omega
      | true =>
        have hd := hf.done (.inl (by1_at _ s m hp true hsp))
        have H := Lib.hid h; have HD := Lib.hid hd; have HS := Lib.hid hsp; have HG := Lib.hid hg; clear h hf hsp hpos hg hd
        go_wp2
        go_quiet (exact quietB (endsValue_any s[m] _) HS.out)
        go_wp2
        go_quiet (fail)
        go_wp2
        go_ret
        exact ⟨ret_str HD.out.1, m, hm, HD.out.2, H.out, (HG.out.trans (g_dN _ _ _)).trans (g_dN _ _ _)⟩
    · have hlt : decide ((m : Int) < s.size) = false := decide_eq_false (by omega)
      have hd := hf.done (.inr hp)
      have H := Lib.hid h; have HD := Lib.hid hd; have HG := Lib.hid hg; clear h hf hpos hg hd
      go_wp2
      go_quiet (fail)
      go_wp2
      go_quiet (fail)
      go_wp2
      go_ret
      exact ⟨ret_str HD.out.1, m, hm, HD.out.2, H.out, (HG.out.trans (g_dN _ _ _)).trans (g_dN _ _ _)⟩

set_option maxHeartbeats 1000000 in
theorem upTo_is (b k : Nat) (s : ByteArray) (v : Value) (w : World) (h : Rc w b s k v) (hk : k ≤ s.size) (hs : s.size ≤ 140737488355328) (q : UInt8) (g : Nat) (hgb : g ≠ b) (hgl : g < w.heap.size) (hq : w.cell? ⟨g, 0, none⟩ = some (.int .u8 q.toNat)) :
    Calls Tryz.prog 60 #[rp b, .func (.func 136) #[] #[.pointer (some ⟨g, 0, none⟩)]] w fun e w' => e = .returned (.string (B (upTo (is q) ((L s).drop k)))) ∧ ∃ m, m ≤ s.size ∧ (L s).drop m = from_ (is q) ((L s).drop k) ∧ Rc w' b s m v ∧ w.grownBy w' (some b) := by
  have c1 := h.c1
  go_enter Tryz.func60, Tryz.ntmps60
  go_wp2
  clear c1
  go_loopw [] (fun wr => ∃ m : Nat, Far (by1 (is q)) s k m ∧ Rc wr b s m v ∧ w.grownBy wr (some b)) (fun wr => s.size - posOf wr b)
  case atStart => exact ⟨k, .start hk, h, World.grownBy.refl _ _⟩
  case round =>
    clear h
    obtain ⟨m, hf, h, hg⟩ := hrel
    have hm := hf.2.1
    have hkm := hf.1
    have c0 := h.c0; have c1 := h.c1; have f1 := h.f 1
    have hpos := h.pos
    have hq : wr.cell? ⟨g, 0, none⟩ = some (.int .u8 q.toNat) := hg.cell hq (by simpa using hgb)
    by_cases hp : m < s.size
    · have hlt : decide ((m : Int) < s.size) = true := decide_eq_true (by omega)
      cases hsp : (is q) s[m] with
      | false =>
        have hf := hf.next hp (by1_at _ s m hp false hsp)
        have H := Lib.hid h; have HF := Lib.hid hf; have HS := Lib.hid hsp; have HP := Lib.hid hpos; have HG := Lib.hid hg; clear h hf hsp hpos hg
        go_wp2
        go_quiet (exact quietB (quote_any s[m] q g _ hq) HS.out)
        go_wp2
        go_roundw
        case rel => exact ⟨m + 1, HF.out, H.out.set1 (m + 1), (HG.out.trans (g_dN _ _ _)).trans (g_set _ _ _ _)⟩
        case measure =>
          rw [show posOf ((wr.drewN nq).setCell ⟨b, 1, none⟩ (.int .i64 (m + 1))) b = m + 1 from ((H.out.drew nq).set1 (m + 1)).pos, HP.out]
          omega
      | true =>
        have hd := hf.done (.inl (by1_at _ s m hp true hsp))
        have H := Lib.hid h; have HD := Lib.hid hd; have HS := Lib.hid hsp; have HG := Lib.hid hg; clear h hf hsp hpos hg hd
        go_wp2
        go_quiet (exact quietB (quote_any s[m] q g _ hq) HS.out)
        go_wp2
        go_quiet (fail)
        go_wp2
        go_ret
        exact ⟨ret_str HD.out.1, m, hm, HD.out.2, H.out, (HG.out.trans (g_dN _ _ _)).trans (g_dN _ _ _)⟩
    · have hlt : decide ((m : Int) < s.size) = false := decide_eq_false (by omega)
      have hd := hf.done (.inr hp)
      have H := Lib.hid h; have HD := Lib.hid hd; have HG := Lib.hid hg; clear h hf hpos hg hd
      go_wp2
      go_quiet (fail)
      go_wp2
      go_quiet (fail)
      go_wp2
      go_ret
      exact ⟨ret_str HD.out.1, m, hm, HD.out.2, H.out, (HG.out.trans (g_dN _ _ _)).trans (g_dN _ _ _)⟩

end Go.Proofs.YtdplbcchkjpcdaaGreatDoor.To

namespace Go.Proofs.YtdplbcchkjpcdaaGreatDoor.To
set_option maxRecDepth 100000
set_option linter.unusedSimpArgs false
set_option linter.unusedVariables false
open Go.RowKit Ba Fm Fo Tm
open Ro (At acells len_acells below_new)
open Re (Tab)
theorem g_below {w0 w w' : World} {row : Option Nat} (h : w0.grownBy w row) (hb : Below w.heap.size w w') : w0.grownBy w' row :=
  ⟨hb.os.trans h.os, hb.tape.trans h.tape, hb.output.trans h.output, Nat.le_trans h.size hb.size, fun i hi hne => (hb.block i (Nat.lt_of_lt_of_le hi h.size)).trans (h.block i hi hne)⟩
theorem g_alloc (w : World) (o : Obj) (row : Option Nat) : w.grownBy (w.alloc o) row := World.grownBy_alloc w o row
theorem tab_kept {w w' : World} {b : Nat} (h : Tab w) (hg : w.grownBy w' (some b)) (hb : 0 < b) : Tab w' := by
  refine ⟨fun j v hv => ?_, Nat.lt_of_lt_of_le h.2 hg.size⟩
  exact hg.cell (a := ⟨0, 0 + j, none⟩) (h.1 j v hv) (by simp; omega)

theorem pass1 (b k : Nat) (s : ByteArray) (v : Value) (c : UInt8) (n : Int) (q : Bool) (w : World) (h : Rc w b s k v) (hk : k ≤ s.size) (hs : s.size ≤ 140737488355328) (hn : (c.toNat : Int) = n) (hq : hd c ((L s).drop k) = q) :
    Calls Tryz.prog 62 #[rp b, .int .u8 n] w fun e w' => e = .returned (.bool q) ∧ Rc w' b s (k + q.toNat) v ∧ w.grownBy w' (some b) := by
  have := pass_any b k s v c w h hk hs
  rwa [hn, hq] at this
theorem hd_drop {c : UInt8} {s : ByteArray} {k : Nat} (hk : k ≤ s.size) {q : Bool} (h : hd c ((L s).drop k) = q) : k + q.toNat ≤ s.size ∧ (L s).drop (k + q.toNat) = if q = true then ((L s).drop k).drop 1 else (L s).drop k := by
  cases q with
  | false => exact ⟨hk, rfl⟩
  | true =>
    refine ⟨?_, by simp⟩
    by_cases hp : k < s.size
    · show k + 1 ≤ _
      omega
    · rw [drop_nil s k hp] at h
      cases h
theorem hd_head {c : UInt8} {l : List UInt8} : hd c l = true ↔ l.head? = some c := by
  cases l with
  | nil => simp [hd, by1]
  | cons a r => simp [hd, by1, is]
theorem hd_no {c : UInt8} {l : List UInt8} (h : hd c l = false) : ¬ l.head? = some c := fun e => by rw [hd_head.2 e] at h; cases h
theorem from_drop {q : UInt8} {l : List UInt8} : (if hd q (from_ (is q) l) = true then (from_ (is q) l).drop 1 else from_ (is q) l) = (from_ (is q) l).drop 1 := by
  show (if hd q (trail (by1 (is q)) l) = true then (trail (by1 (is q)) l).drop 1 else trail (by1 (is q)) l) = (trail (by1 (is q)) l).drop 1
  rcases trail_cases (by1 (is q)) l with h | h
  · rw [h]; rfl
  · rw [if_pos (show hd q (trail (by1 (is q)) l) = true from h)]

set_option maxHeartbeats 1000000 in
theorem quoted_any (b k : Nat) (s : ByteArray) (v : Value) (q : UInt8) (n : Int) (w : World) (h : Rc w b s k v) (hk : k ≤ s.size) (hs : s.size ≤ 140737488351232) (hn : (q.toNat : Int) = n) :
    Calls Tryz.prog 135 #[rp b, .int .u8 n] w fun e w' => e = .returned (.string (B (quo q ((L s).drop k)).1)) ∧ ∃ m, m ≤ s.size ∧ (L s).drop m = (quo q ((L s).drop k)).2 ∧ Rc w' b s m v ∧ w.grownBy w' (some b) := by
  have hmf : ∀ (fn : Fn) (first cap : Array Value) (w : World), (Instr.makeFunc fn first cap).run Tryz.prog w = .ok (.func fn first cap) w := fun _ _ _ _ => rfl
  subst hn
  obtain ⟨w1, hw1⟩ : ∃ w1, w.alloc (.cells #[.int .u8 q.toNat] 5) = w1 := ⟨_, rfl⟩
  have h1 : Rc w1 b s k v := hw1 ▸ h.below (below_new w _)
  have hg1 : w.grownBy w1 (some b) := hw1 ▸ g_alloc w _ _
  have hc1 : w1.cell? ⟨w.heap.size, 0, none⟩ = some (.int .u8 q.toNat) := by
    rw [← hw1, World.cell?_alloc_at _ _ _ _ rfl]; rfl
  have hz1 : w.heap.size < w1.heap.size := by rw [← hw1]; simp
  have hne : w.heap.size ≠ b := by have := h.lt; omega
  have HW := Lib.hid hw1; clear hw1
  go_enter Tryz.func135, Tryz.ntmps135
  go_wp2_with fail
  clear hmf
  rw [HW.out]
  refine (upTo_is b k s v w1 h1 hk (by omega) q _ hne hz1 hc1).mono ?_
  rintro e w2 ⟨rfl, m, hm, hd2, h2, hg2⟩
  have hc2 : w2.cell? ⟨w.heap.size, 0, none⟩ = some (.int .u8 q.toNat) := hg2.cell hc1 (by simpa using hne)
  obtain ⟨u, hu⟩ : ∃ u, hd q ((L s).drop m) = u := ⟨_, rfl⟩
  have hdr := hd_drop hm hu
  have HD := Lib.hid hdr; have H2 := Lib.hid hd2; have HU := Lib.hid hu; clear hdr hd2 hu
  go_wp2_with fail
  refine (pass1 b m s v q _ u w2 h2 hm (by omega) rfl HU.out).mono ?_
  rintro e w3 ⟨rfl, h3, hg3⟩
  go_wp2
  go_ret
  refine ⟨rfl, m + u.toNat, HD.out.1, ?_, h3, (hg1.trans hg2).trans hg3⟩
  rw [HD.out.2, ← HU.out, H2.out]
  exact from_drop

theorem value_34 {l : List UInt8} (h : hd 34 l = true) : value l = quo 34 (l.drop 1) := by unfold value; rw [if_pos (hd_head.1 h)]
theorem value_39 {l : List UInt8} (h : hd 34 l = false) (h' : hd 39 l = true) : value l = quo 39 (l.drop 1) := by unfold value; rw [if_neg (hd_no h), if_pos (hd_head.1 h')]
theorem value_no {l : List UInt8} (h : hd 34 l = false) (h' : hd 39 l = false) : value l = (upTo ev l, from_ ev l) := by unfold value; rw [if_neg (hd_no h), if_neg (hd_no h')]
set_option maxHeartbeats 1000000 in
theorem value_any (b k : Nat) (s : ByteArray) (v : Value) (w : World) (h : Rc w b s k v) (hk : k ≤ s.size) (hs : s.size ≤ 140737488351232) :
    Calls Tryz.prog 130 #[rp b] w fun e w' => e = .returned (.string (B (value ((L s).drop k)).1)) ∧ ∃ m, m ≤ s.size ∧ (L s).drop m = (value ((L s).drop k)).2 ∧ Rc w' b s m v ∧ w.grownBy w' (some b) := by
  have hs' : s.size ≤ 140737488355328 := by omega
  cases h34 : hd 34 ((L s).drop k) with
  | true =>
    have hv := value_34 h34
    have hdr := hd_drop hk h34
    rw [hv]
    rw [if_pos rfl] at hdr
    rw [← hdr.2]
    have HH := Lib.hid h34; have HD := Lib.hid hdr.1; clear h34 hv hdr
    go_enter Tryz.func130, Tryz.ntmps130
    go_wp2_with fail
    refine (pass1 b k s v 34 _ true w h hk hs' rfl HH.out).mono ?_
    rintro e w2 ⟨rfl, h2, hg2⟩
    go_wp2_with fail
    refine (quoted_any b _ s v 34 _ w2 h2 HD.out hs rfl).mono ?_
    rintro e w3 ⟨rfl, m, hm, hd3, h3, hg3⟩
    go_wp2
    go_ret
    exact ⟨rfl, m, hm, hd3, h3, hg2.trans hg3⟩
  | false =>
    cases h39 : hd 39 ((L s).drop k) with
    | true =>
      have hv := value_39 h34 h39
      have hdr := hd_drop hk h39
      rw [hv]
      rw [if_pos rfl] at hdr
      rw [← hdr.2]
      have HH := Lib.hid h34; have HQ := Lib.hid h39; have HD := Lib.hid hdr.1; clear h34 h39 hv hdr
      go_enter Tryz.func130, Tryz.ntmps130
      go_wp2_with fail
      refine (pass1 b k s v 34 _ false w h hk hs' rfl HH.out).mono ?_
      rintro e w2 ⟨rfl, h2, hg2⟩
      go_wp2_with fail
      refine (pass1 b k s v 39 _ true w2 h2 hk hs' rfl HQ.out).mono ?_
      rintro e w4 ⟨rfl, h4, hg4⟩
      go_wp2_with fail
      refine (quoted_any b _ s v 39 _ w4 h4 HD.out hs rfl).mono ?_
      rintro e w3 ⟨rfl, m, hm, hd3, h3, hg3⟩
      go_wp2
      go_ret
      exact ⟨rfl, m, hm, hd3, h3, (hg2.trans hg4).trans hg3⟩
    | false =>
      have hv := value_no h34 h39
      rw [hv]
      have HH := Lib.hid h34; have HQ := Lib.hid h39; clear h34 h39 hv
      go_enter Tryz.func130, Tryz.ntmps130
      go_wp2_with fail
      refine (pass1 b k s v 34 _ false w h hk hs' rfl HH.out).mono ?_
      rintro e w2 ⟨rfl, h2, hg2⟩
      go_wp2_with fail
      refine (pass1 b k s v 39 _ false w2 h2 hk hs' rfl HQ.out).mono ?_
      rintro e w4 ⟨rfl, h4, hg4⟩
      go_wp2_with fail
      refine (upTo_ev b _ s v w4 h4 hk hs').mono ?_
      rintro e w3 ⟨rfl, m, hm, hd3, h3, hg3⟩
      go_wp2
      go_ret
      exact ⟨rfl, m, hm, hd3, h3, (hg2.trans hg4).trans hg3⟩

end Go.Proofs.YtdplbcchkjpcdaaGreatDoor.To

namespace Go.Proofs.YtdplbcchkjpcdaaGreatDoor.To
set_option maxRecDepth 100000
set_option linter.unusedSimpArgs false
set_option linter.unusedVariables false
open Go.RowKit Ba Fm Fo Tm
open Ro (At acells len_acells below_new)
open Re (Tab)
open Rm (dec)
theorem len_value1 (l : List UInt8) : (value l).1.length ≤ l.length := by
  unfold value quo
  have h1 := len_lead (by1 (is 34)) (l.drop 1)
  have h2 := len_lead (by1 (is 39)) (l.drop 1)
  have h3 := len_lead (by1 ev) l
  rw [List.length_drop] at h1 h2
  split
  · show (lead _ _).length ≤ _
    omega
  · split
    · show (lead _ _).length ≤ _
      omega
    · exact h3
/-- Block g is an attribute in a box. -/
def Bx (w : World) (g : Nat) (x y : ByteArray) : Prop := w.heap[g]? = some (.cells #[.string x, .string y] 66)
theorem Bx.c0 {w : World} {g : Nat} {x y : ByteArray} (h : Bx w g x y) : w.cell? ⟨g, 0, none⟩ = some (.string x) := by rw [cell_of_row w g 0 _ _ _ h]; rfl
theorem Bx.c1 {w : World} {g : Nat} {x y : ByteArray} (h : Bx w g x y) : w.cell? ⟨g, 1, none⟩ = some (.string y) := by rw [cell_of_row w g 1 _ _ _ h]; rfl
theorem Bx.f {w : World} {g : Nat} {x y : ByteArray} (h : Bx w g x y) (j : Nat) : w.frozen? ⟨g, j, none⟩ = false := by
  unfold Bx at h
  simp [World.frozen?, h]
theorem Bx.lt {w : World} {g : Nat} {x y : ByteArray} (h : Bx w g x y) : g < w.heap.size := (Array.getElem?_eq_some_iff.1 h).1
theorem Bx.set0 {w : World} {g : Nat} {x y : ByteArray} (h : Bx w g x y) (u : ByteArray) : Bx (w.setCell ⟨g, 0, none⟩ (.string u)) g u y := by
  unfold Bx at h ⊢
  simp [World.setCell, Array.getElem?_modify, h]
theorem Bx.set1 {w : World} {g : Nat} {x y : ByteArray} (h : Bx w g x y) (u : ByteArray) : Bx (w.setCell ⟨g, 1, none⟩ (.string u)) g x u := by
  unfold Bx at h ⊢
  simp [World.setCell, Array.getElem?_modify, h]
theorem Bx.kept {w w' : World} {g b : Nat} {x y : ByteArray} (h : Bx w g x y) (hg : w.grownBy w' (some b)) (hne : g ≠ b) : Bx w' g x y := (hg.block g h.lt (by simpa using hne)).trans h
theorem Bx.below {w w' : World} {g : Nat} {x y : ByteArray} (h : Bx w g x y) (hb : Below w.heap.size w w') : Bx w' g x y := (hb.block g h.lt).trans h
theorem Bx.new (w : World) (x y : ByteArray) : Bx (w.alloc (.cells #[.string x, .string y] 66)) w.heap.size x y := by
  exact (MapKept.heap_alloc w _).1
theorem Rc.other {w : World} {b k g j : Nat} {s : ByteArray} {v : Value} (h : Rc w b s k v) (hne : g ≠ b) (u : Value) : Rc (w.setCell ⟨g, j, none⟩ u) b s k v := ((g_set w g j u).block b h.lt (by simpa using Ne.symm hne)).trans h

theorem Bx.other {w : World} {g b j : Nat} {x y : ByteArray} (h : Bx w g x y) (hne : g ≠ b) (u : Value) : Bx (w.setCell ⟨b, j, none⟩ u) g x y := h.kept (g_set w b j u) hne
/-- Where a search has come to, and what it passed. -/
theorem span_of {p : List UInt8 → Bool} {s : ByteArray} {k m : Nat} (hk : k ≤ s.size) (hm : m ≤ s.size) (h : (L s).drop m = trail p ((L s).drop k)) : k ≤ m ∧ ((L s).drop k).take (m - k) = lead p ((L s).drop k) := by
  have h1 := congrArg List.length (lead_trail p ((L s).drop k))
  have h2 := congrArg List.length h
  rw [List.length_append, List.length_drop, size_L] at h1
  rw [List.length_drop, size_L] at h2
  refine ⟨by omega, ?_⟩
  have h3 := lead_trail p ((L s).drop k)
  rw [show m - k = (lead p ((L s).drop k)).length from by omega]
  have h4 : (lead p ((L s).drop k) ++ trail p ((L s).drop k)).take (lead p ((L s).drop k)).length = lead p ((L s).drop k) := by simp
  rwa [h3] at h4
theorem span_one {p : List UInt8 → Bool} {s : ByteArray} {k m : Nat} (hk : k < s.size) (hm : m ≤ s.size) (h : (L s).drop m = trail p ((L s).drop (k + 1))) : k + 1 ≤ m ∧ L (s.extract k m) = s[k] :: lead p ((L s).drop (k + 1)) := by
  obtain ⟨h1, h2⟩ := span_of (by omega) hm h
  refine ⟨h1, ?_⟩
  rw [L_extract, drop_cons s k hk, show m - k = (m - (k + 1)) + 1 from by omega, List.take_succ_cons, h2]

theorem attr_eq (c : UInt8) (r : List UInt8) : attr c r = (⟨B (lowL (c :: upTo ea r)), B (valued (trimS (from_ ea r))).1⟩, (valued (trimS (from_ ea r))).2) := rfl
theorem valued_yes {l : List UInt8} (h : hd 61 l = true) : valued l = (dec (value (trimS (l.drop 1))).1, (value (trimS (l.drop 1))).2) := by unfold valued; rw [if_pos (hd_head.1 h)]
theorem valued_no {l : List UInt8} (h : hd 61 l = false) : valued l = ([], l) := by unfold valued; rw [if_neg (hd_no h)]

theorem box_first (w3 w4 : World) (hb : Below (w3.alloc (.cells #[.string ⟨#[]⟩, .string ⟨#[]⟩] 66)).drew.heap.size (w3.alloc (.cells #[.string ⟨#[]⟩, .string ⟨#[]⟩] 66)).drew w4) :
    Bx w4 w3.heap.size ⟨#[]⟩ ⟨#[]⟩ ∧ Below w3.heap.size w3 w4 := by
  refine ⟨(show Bx (w3.alloc (.cells #[.string ⟨#[]⟩, .string ⟨#[]⟩] 66)).drew w3.heap.size _ _ from Bx.new w3 _ _).below hb, ?_⟩
  exact bt (below_new w3 _) ⟨hb.os, hb.tape, hb.output, hb.size, hb.block⟩
theorem box_next (w3 w4 : World) (hb : Below w3.drew.heap.size w3.drew w4) : Below w3.heap.size w3 w4 := ⟨hb.os, hb.tape, hb.output, hb.size, hb.block⟩

theorem g_far {w w' : World} {row : Option Nat} (h : w.grownBy w' row) {g : Nat} (hg : w.heap.size ≤ g) (j : Nat) (u : Value) : w.grownBy (w'.setCell ⟨g, j, none⟩ u) row := by
  have hs := g_set w' g j u
  refine ⟨hs.os.trans h.os, hs.tape.trans h.tape, hs.output.trans h.output, Nat.le_trans h.size hs.size, fun i hi hne => ?_⟩
  exact (hs.block i (Nat.lt_of_lt_of_le hi h.size) (by simp; omega)).trans (h.block i hi hne)

/-- What stands behind the region in which an attribute is begun. -/
def Beg (w wx : World) (b m g0 : Nat) (s : ByteArray) (v : Value) (x : ByteArray) (u : Value) : Prop :=
  ∃ g1, u = .pointer (some ⟨g1, 0, none⟩) ∧ w.heap.size ≤ g1 ∧ g1 ≠ b ∧ g1 ≠ g0 ∧ Bx wx g1 x ⟨#[]⟩ ∧ Bx wx g0 ⟨#[]⟩ ⟨#[]⟩ ∧ Rc wx b s m v ∧ w.grownBy wx (some b) ∧ Tab wx
theorem beg_after {w w3 w4 : World} {b m g0 : Nat} {s : ByteArray} {v : Value} (x : ByteArray) (hb : Below w3.heap.size w3 w4) (hx : Bx w3 g0 ⟨#[]⟩ ⟨#[]⟩) (h : Rc w3 b s m v) (hg : w.grownBy w3 (some b)) (hT : Tab w3) :
    Beg w (w4.alloc (.cells #[.string x, .string ⟨#[]⟩] 66)) b m g0 s v x (.pointer (some ⟨w4.heap.size, 0, none⟩)) := by
  have hz := hb.size
  have hz2 := hg.size
  have h1 := h.lt
  have h2 := hx.lt
  have hb2 : Below w3.heap.size w3 (w4.alloc (.cells #[.string x, .string ⟨#[]⟩] 66)) := bt hb (below_new w4 _)
  exact ⟨_, rfl, by omega, by omega, by omega, Bx.new w4 _ _, hx.below hb2, h.below hb2, g_below hg hb2, hT.below hb2⟩
theorem beg_first {w w3 w4 : World} {b m g0 : Nat} {s : ByteArray} {v : Value} (x : ByteArray) (hb : Below w3.heap.size w3 w4) (hx : Bx w3 g0 ⟨#[]⟩ ⟨#[]⟩) (h : Rc w3 b s m v) (hg : w.grownBy w3 (some b)) (hT : Tab w3) (hy : Bx w4 w3.heap.size ⟨#[]⟩ ⟨#[]⟩) :
    Beg w ((w4.setCell ⟨w3.heap.size, 0, none⟩ (.string x)).setCell ⟨w3.heap.size, 1, none⟩ (.string ⟨#[]⟩)) b m g0 s v x (.pointer (some ⟨w3.heap.size, 0, none⟩)) := by
  have hz := hb.size
  have hz2 := hg.size
  have h1 := h.lt
  have h2 := hx.lt
  have hb2 : Below w3.heap.size w3 ((w4.setCell ⟨w3.heap.size, 0, none⟩ (.string x)).setCell ⟨w3.heap.size, 1, none⟩ (.string ⟨#[]⟩)) := (hb.setCell (Nat.le_refl _) _).setCell (Nat.le_refl _) _
  exact ⟨_, rfl, by omega, by omega, by omega, (hy.set0 x).set1 _, hx.below hb2, h.below hb2, g_below hg hb2, hT.below hb2⟩

set_option maxHeartbeats 4000000 in
theorem attr_any (b k : Nat) (s : ByteArray) (v : Value) (w : World) (h : Rc w b s k v) (hk : k < s.size) (hs : s.size ≤ 140737488351232) (hT : Tab w) (hb0 : 0 < b) :
    Calls Tryz.prog 120 #[rp b] w fun e w' => e = .returned (.agg #[.string (attr s[k] ((L s).drop (k + 1))).1.name, .string (attr s[k] ((L s).drop (k + 1))).1.value]) ∧ ∃ m, m ≤ s.size ∧ (L s).drop m = (attr s[k] ((L s).drop (k + 1))).2 ∧ Rc w' b s m v ∧ w.grownBy w' (some b) := by
  have hs' : s.size ≤ 140737488355328 := by omega
  have hbx : Bx (w.alloc (.cells #[.string ⟨#[]⟩, .string ⟨#[]⟩] 66)) w.heap.size ⟨#[]⟩ ⟨#[]⟩ := Bx.new w _ _
  have h1 : Rc (w.alloc (.cells #[.string ⟨#[]⟩, .string ⟨#[]⟩] 66)) b s k v := h.below (below_new w _)
  have hg1 : w.grownBy (w.alloc (.cells #[.string ⟨#[]⟩, .string ⟨#[]⟩] 66)) (some b) := g_alloc w _ _
  have hne : w.heap.size ≠ b := by have := h.lt; omega
  have c1 := h1.c1; have f1 := h1.f 1
  have HX := Lib.hid hbx; have H1 := Lib.hid h1; have HG1 := Lib.hid hg1; clear hbx h1 hg1
  go_enter Tryz.func120, Tryz.ntmps120
  go_wp2_with fail
  refine (upTo_ea b (k + 1) s v _ (H1.out.set1 (k + 1)) (by omega) hs').mono ?_
  rintro e w3 ⟨rfl, m, hm, hd3, h3, hg3⟩
  have hx3 := (HX.out.other hne (j := 1) _).kept hg3 hne
  have hg3' := HG1.out.trans ((g_set _ b 1 _).trans hg3)
  clear hg3 HX H1 HG1 c1 f1 h
  have hT3 := tab_kept hT hg3' hb0
  obtain ⟨g0, hg0⟩ : ∃ g0, w.heap.size = g0 := ⟨_, rfl⟩
  rw [hg0] at hx3 hne ⊢
  obtain ⟨hkm, hex⟩ := span_one hk hm hd3
  have c0 := h3.c0; have c1 := h3.c1
  have HX := Lib.hid hx3; have H3 := Lib.hid h3; have HG := Lib.hid hg3'; have HD3 := Lib.hid hd3; have HE := Lib.hid hex; have HT3 := Lib.hid hT3; have HG0 := Lib.hid hg0; clear hx3 h3 hg3' hd3 hex hT3 hg0
  have i0 : (0 : Int) ≤ (k : Int) := by omega
  have i1 : (k : Int) ≤ (m : Int) := by omega
  have i2 : (m : Int) ≤ (s.size : Int) := by omega
  have i3 : (0 : Int) ≤ (m : Int) := by omega
  go_upto_region 4 with (fail)
  go_cut [4] from 18 to 29 (fun s4 wx => Beg w wx b m g0 s v (B (lowL (L (s.extract k m)))) s4)
  case first =>
    have hlb := H3.out.lt
    have en0 := World.new_ne w3 _ c0
    have en1 := World.new_ne w3 _ c1
    have hsx : (s.extract k m).size ≤ 140737488355328 := Nat.le_trans (size_extract _ _ _) hs'
    go_region_held3 (fun w' => w'.cell? ⟨b, 0, none⟩ = some (.string s) ∧ w'.cell? ⟨b, 1, none⟩ = some (.int .i64 m)) (first | exact ⟨d0, d1⟩ | exact ⟨c0, c1⟩ | go_keep) (first
      | (go_at_call 97; refine (lower_any _ (w3.alloc (.cells #[.string ⟨#[]⟩, .string ⟨#[]⟩] 66)).drew hsx).mono ?_; rintro e w4 ⟨rfl, hb4⟩; obtain ⟨hx4, hb4'⟩ := box_first w3 w4 hb4; have d0 := (hb4'.cell (p := ⟨b, 0, none⟩) hlb).trans c0; have d1 := (hb4'.cell (p := ⟨b, 1, none⟩) hlb).trans c1; have y0 := hx4.c0; have y1 := hx4.c1; have z0 := hx4.f 0; have z1 := hx4.f 1; have HX4 := Lib.hid hx4; have HB4 := Lib.hid hb4'; clear hx4 hb4' hb4)
      | (go_at_call 97; refine (lower_any _ w3.drew hsx).mono ?_; rintro e w4 ⟨rfl, hb4⟩; have hb4' := box_next w3 w4 hb4; have d0 := (hb4'.cell (p := ⟨b, 0, none⟩) hlb).trans c0; have d1 := (hb4'.cell (p := ⟨b, 1, none⟩) hlb).trans c1; have en2 := World.new_ne w4 _ d0; have en3 := World.new_ne w4 _ d1; have HB4 := Lib.hid hb4'; clear hb4' hb4))
    all_goals go_wp2_with fail
    all_goals go_meet
    · exact beg_after _ HB4.out HX.out H3.out HG.out HT3.out
    · exact beg_first _ HB4.out HX.out H3.out HG.out HT3.out HX4.out
  case rest =>
    obtain ⟨g1, rfl, hn0, hn1, hn2, hx1, hx0, h4, hg4, hT4⟩ := hcut
    clear c0 c1 HX H3 HG HT3
    have he := HE.out
    rw [he] at hx1
    go_wp2_with fail
    refine (skip_any b m s v _ h4 hm hs').mono ?_
    rintro e w5 ⟨rfl, m5, hm5, hd5, h5, hg5⟩
    have hx15 := hx1.kept hg5 hn1; have hx05 := hx0.kept hg5 hne; have hg5' := hg4.trans hg5; have hT5 := tab_kept hT4 hg5 hb0
    clear hx1 hx0 h4 hg4 hT4 hg5
    have hd5' : (L s).drop m5 = trimS (from_ ea ((L s).drop (k + 1))) := by rw [hd5, HD3.out]
    cases h61 : hd 61 ((L s).drop m5) with
    | false =>
      have hv := valued_no h61
      have HV := Lib.hid hv; have H61 := Lib.hid h61; have HD5 := Lib.hid hd5'; clear hv h61 hd5 hd5'
      go_wp2_with fail
      refine (pass1 b m5 s v 61 _ false w5 h5 hm5 hs' rfl H61.out).mono ?_
      rintro e w6 ⟨rfl, h6, hg6⟩
      have hx16 := hx15.kept hg6 hn1; have hx06 := hx05.kept hg6 hne
      have k0 := hx16.c0; have k1 := hx16.c1; have r0 := hx06.c0; have r1 := hx06.c1; have q0 := hx06.f 0; have q1 := hx06.f 1
      have HX0 := Lib.hid hx06; have H6 := Lib.hid h6; have HG6 := Lib.hid (hg5'.trans hg6)
      clear hx15 hx05 hx16 hx06 hg5' hg6 h5 h6 hT5
      go_wp2
      refine bodyPost_ret (v := .agg #[.string (B (lowL (s[k] :: upTo ea ((L s).drop (k + 1))))), .string ⟨#[]⟩]) ?_ rfl ⟨?_, m5, hm5, ?_, (H6.out.other hne _).other hne _, ?_⟩
      · have hf := (HX0.out.set0 (B (lowL (s[k] :: upTo ea ((L s).drop (k + 1)))))).set1 ⟨#[]⟩
        have z0 := hf.c0; have z1 := hf.c1
        simp [results, Tryz.results120, go_sem, z0, z1]
      · rw [attr_eq, ← HD5.out, HV.out]; rfl
      · rw [attr_eq, ← HD5.out, HV.out]
      · exact g_far (g_far HG6.out (by rw [HG0.out]; exact Nat.le_refl _) _ _) (by rw [HG0.out]; exact Nat.le_refl _) _ _
    | true =>
      have hv := valued_yes h61
      have hdr := hd_drop hm5 h61
      rw [if_pos rfl] at hdr
      have HV := Lib.hid hv; have H61 := Lib.hid h61; have HD5 := Lib.hid hd5'; have HDR := Lib.hid hdr; clear hv h61 hd5 hd5' hdr
      go_wp2_with fail
      refine (pass1 b m5 s v 61 _ true w5 h5 hm5 hs' rfl H61.out).mono ?_
      rintro e w6 ⟨rfl, h6, hg6⟩
      have hx16 := hx15.kept hg6 hn1; have hx06 := hx05.kept hg6 hne; have hg6' := hg5'.trans hg6; have hT6 := tab_kept hT5 hg6 hb0
      clear hx15 hx05 hg5' hg6 h5 hT5
      go_wp2_with fail
      refine (skip_any b _ s v w6 h6 HDR.out.1 hs').mono ?_
      rintro e w7 ⟨rfl, m7, hm7, hd7, h7, hg7⟩
      have hx17 := hx16.kept hg7 hn1; have hx07 := hx06.kept hg7 hne; have hg7' := hg6'.trans hg7; have hT7 := tab_kept hT6 hg7 hb0
      have HD7 := Lib.hid hd7
      clear hx16 hx06 hg6' hg7 h6 hT6 hd7
      go_wp2_with fail
      refine (value_any b _ s v w7 h7 hm7 hs).mono ?_
      rintro e w8 ⟨rfl, m8, hm8, hd8, h8, hg8⟩
      have hx18 := hx17.kept hg8 hn1; have hx08 := hx07.kept hg8 hne; have hg8' := hg7'.trans hg8; have hT8 := tab_kept hT7 hg8 hb0
      have HD8 := Lib.hid hd8
      clear hx17 hx07 hg7' hg8 h7 hT7 hd8
      go_wp2_with fail
      have hvs : (B (value ((L s).drop m7)).1).size ≤ 140737488351232 := by
        rw [size_B]
        have := len_value1 ((L s).drop m7)
        rw [List.length_drop, size_L] at this
        omega
      refine (Re.decode_any _ w8 hT8 hvs).mono ?_
      rintro e w9 ⟨rfl, hb9⟩
      have hx19 := hx18.below hb9; have hx09 := hx08.below hb9
      have k0 := hx19.c0; have k1 := hx19.c1; have r0 := hx09.c0; have r1 := hx09.c1; have q0 := hx09.f 0; have q1 := hx09.f 1; have p1 := hx19.f 1
      have hn2' : g0 ≠ g1 := fun e => hn2 e.symm
      have HX1 := Lib.hid hx19; have HX0 := Lib.hid hx09; have H9 := Lib.hid (h8.below hb9); have HG9 := Lib.hid (g_below hg8' hb9)
      clear hx18 hx08 hx19 hx09 hg8' hb9 h8 hT8
      go_wp2
      refine bodyPost_ret (v := .agg #[.string (B (lowL (s[k] :: upTo ea ((L s).drop (k + 1))))), .string (B (dec (L (B (value ((L s).drop m7)).1))))]) ?_ rfl ⟨?_, m8, hm8, ?_, ((H9.out.other hn1 _).other hne _).other hne _, ?_⟩
      · have hf := ((HX0.out.other hn2' (b := g1) (j := 1) (.string (B (dec (L (B (value ((L s).drop m7)).1)))))).set0 (B (lowL (s[k] :: upTo ea ((L s).drop (k + 1)))))).set1 (B (dec (L (B (value ((L s).drop m7)).1))))
        have z0 := hf.c0; have z1 := hf.c1
        simp [results, Tryz.results120, go_sem, z0, z1]
      · rw [attr_eq, ← HD5.out, HV.out, ← HDR.out.2, ← HD7.out, L_B]
      · rw [attr_eq, ← HD5.out, HV.out, ← HDR.out.2, ← HD7.out]; exact HD8.out
      · exact g_far (g_far (g_far HG9.out hn0 _ _) (by rw [HG0.out]; exact Nat.le_refl _) _ _) (by rw [HG0.out]; exact Nat.le_refl _) _ _

end Go.Proofs.YtdplbcchkjpcdaaGreatDoor.To

namespace Go.Proofs.YtdplbcchkjpcdaaGreatDoor.To
set_option maxRecDepth 100000
set_option linter.unusedSimpArgs false
set_option linter.unusedVariables false
open Go.RowKit Ba Fm Fo Tm
open Ro (At acells len_acells below_new Sh Ra acells_one info_attr)
open Re (Tab)
open Rm (dec)
/-- Attributes of the call's own. -/
def Aw (N : Nat) (w : World) (v : Value) (l : List At) : Prop := w.ownsRow N 66 2 v l.length (l.flatMap acells) ∧ Sh l
theorem Aw.nil (N : Nat) (w : World) : Aw N w (.slice none 0 0) [] := ⟨World.ownsRow_nil w N _ 2, fun _ h => by simp at h⟩
/-- A block that is none of attributes is not theirs. -/
theorem Aw.ne {N b : Nat} {w : World} {v : Value} {l : List At} (h : Aw N w v l) {cs : Array Value} {t : TypeId} {fr : Nat × Nat} (hb : w.heap[b]? = some (.cells cs t fr)) (ht : t ≠ 66) : v.ownBlock ≠ some b := by
  rcases h.1.2 with ⟨rfl, _⟩ | ⟨g, cap, cur, rfl, _, hh, _⟩
  · simp [Value.ownBlock]
  · intro e
    have e : g = b := by simpa [Value.ownBlock] using e
    subst e
    rw [hb] at hh
    injection hh with hh
    injection hh with _ h2
    exact ht h2
theorem Aw.low {N b : Nat} {w : World} {v : Value} {l : List At} (h : Aw N w v l) (hb : b < N) : v.ownBlock ≠ some b := fun e => by
  have := (World.ownsRow.lt h.1 b e).1
  omega
theorem Aw.kept {N : Nat} {w w' : World} {v : Value} {l : List At} {row : Option Nat} (h : Aw N w v l) (hg : w.grownBy w' row) (hne : v.ownBlock = none ∨ v.ownBlock ≠ row) : Aw N w' v l := ⟨World.ownsRow.kept h.1 hg hne, h.2⟩
theorem Aw.alloc {N : Nat} {w : World} {v : Value} {l : List At} (h : Aw N w v l) (o : Obj) : Aw N (w.alloc o) v l := ⟨World.ownsRow.alloc h.1 o, h.2⟩
theorem Aw.form {N : Nat} {w : World} {v : Value} {l : List At} (h : Aw N w v l) : ∃ A c, v = .slice A l.length c := by
  rcases h.1.2 with ⟨hv, hl⟩ | ⟨g, cap, cur, hv, _⟩
  · exact ⟨none, 0, by rw [hl]; exact hv⟩
  · exact ⟨_, _, hv⟩

theorem attr_cells_new (w : World) (x : At) : ∀ j u, (acells x)[j]? = some u → (w.alloc (.cells #[.string x.name, .string x.value] 66)).cell? ((⟨w.heap.size, 0, none⟩ : Addr).add j) = some u := fun j u hu => by
  rw [WideShapes.add_plain, Nat.zero_add]
  have h := Bx.new w x.name x.value
  match j with
  | 0 => exact h.c0.trans hu
  | 1 => exact h.c1.trans hu
  | j + 2 => simp [acells] at hu
/-- append of one attribute, in a block of its own, onto attributes of the call's own. -/
theorem app_attr {ops : Array Oper} {rest : List Oper} {o : Oper} {a : Act} {Q : Exit → Act → World → Prop} (w : World) (hgd : o.guard = none) (s x : Operand)
    (ho : o.op = .call { callee := .builtin .append, args := #[s, x], argTypes := #[34, 34] })
    (N : Nat) (v : Value) (l : List At) (y : At) (hs : a.eval s = v) (hown : Aw N w v l) (hy : y.name.size ≤ maxLen) (g : Nat) (hgz : g = w.heap.size) (hx : a.eval x = .slice (some ⟨g, 0, none⟩) 1 1)
    (hl : l.length ≤ 4000000000) (hN : N ≤ w.heap.size)
    (h : ∀ v' w', Aw N w' v' (l ++ [y]) → w.grownBy w' v.ownBlock → wpList Tryz.prog ops Q rest (a.put o.dst v') w') :
    wpList Tryz.prog ops Q (o :: rest) a (w.alloc (.cells #[.string y.name, .string y.value] 66)) := by
  subst hgz
  obtain ⟨i0, hi, hz0, hz1, hz2⟩ := info_parts info_attr
  have hown' : Aw N (w.alloc (.cells #[.string y.name, .string y.value] 66)) v l := hown.alloc _
  have hsz : (w.alloc (.cells #[.string y.name, .string y.value] 66)).heap.size = w.heap.size + 1 := by simp
  refine wpList_append_own _ hgd s x 34 ho N 66 i0 _ 2 32 Tryz.underlying34 hi hz0 hz1 hz2 rfl (by decide) v l.length (l.flatMap acells) hs hown'.1 ⟨w.heap.size, 0, none⟩ 1 1 (acells y) hx rfl (attr_cells_new w y) (by have := acells_one [y]; simpa using this) (by unfold maxLen; omega) (by omega) (by omega) ?_
  intro v' w' ho2 hg2 _
  refine h v' w' ⟨?_, fun z hz => ?_⟩ ((World.grownBy_alloc w _ _).trans hg2)
  · rw [List.length_append, List.flatMap_append]
    simpa using ho2
  · rcases List.mem_append.1 hz with hz | hz
    · exact hown.2 z hz
    · rw [List.mem_singleton.1 hz]; exact hy

/-- The names that were seen, as a set. -/
def keys (l : List At) : List Lit := l.map fun a => .string (L a.name)
def Sn (l : List At) : DataW Unit := Maps.setOf (.agg []) (keys l)
theorem has_Sn (l : List At) (n : ByteArray) : Maps.has (Sn l) (.string (L n)) = known l n := by
  unfold Sn
  rw [Maps.has_setOf _ _ _ (fun x hx => by
    unfold keys at hx
    obtain ⟨a, _, rfl⟩ := List.mem_map.1 hx
    simp [WideAt.IsKeyLit])]
  unfold keys known
  rw [List.any_map]
  congr 1
  funext a
  show (Lit.string (L a.name)).sameKey (.string (L n)) = decide (a.name = n)
  rw [Bool.eq_iff_iff, WideAt.sameKey_iff (by simp [WideAt.IsKeyLit]), decide_eq_true_iff]
  constructor
  · intro e
    injection e with e
    exact L_inj e
  · intro e
    rw [e]
theorem Sn_snoc (l : List At) (a : At) : Sn (l ++ [a]) = (Sn l).put (.string (L a.name)) (.agg []) := by
  unfold Sn keys
  rw [List.map_append]
  exact Maps.setOf_snoc _ _ _
theorem keyed_str : Maps.Keyed Tryz.prog 9 := Maps.string_keyed Tryz.underlying9
theorem zero_unit (w : World) : (zeroValue 99).run Tryz.prog w = .ok (.agg #[]) w := by kernel_rfl
end Go.Proofs.YtdplbcchkjpcdaaGreatDoor.To

namespace Go.Proofs.YtdplbcchkjpcdaaGreatDoor.To
set_option maxRecDepth 100000
set_option linter.unusedSimpArgs false
set_option linter.unusedVariables false
open Go.RowKit Ba Fm Fo Tm
open Ro (At acells len_acells below_new Sh Ra acells_one info_attr)
open Re (Tab)
open Rm (dec)
/-- What the loop over a tag's attributes has come to. -/
structure Al (w wr : World) (b k g0 : Nat) (s : ByteArray) (V v : Value) (sf : Bool) (m : Nat) (l : List At) : Prop where
  m_le : m ≤ s.size
  k_le : k ≤ m
  rc : Rc wr b s m V
  map : wr.ownsMap Tryz.prog 9 unitElem g0 l.length (Sn l)
  own : Aw (g0 + 1) wr v l
  g : w.grownBy wr (some b)
  eq : attrs false [] ((L s).drop k) = attrs sf l ((L s).drop m)
  few : l.length ≤ m - k
  lo : w.heap.size ≤ g0
  hi : g0 < wr.heap.size

theorem Al.drew {w wr : World} {b k g0 m : Nat} {s : ByteArray} {V v : Value} {sf : Bool} {l : List At} (h : Al w wr b k g0 s V v sf m l) (n : Nat) : Al w (wr.drewN n) b k g0 s V v sf m l :=
  ⟨h.m_le, h.k_le, h.rc, h.map, h.own, h.g.trans (g_dN _ _ _), h.eq, h.few, h.lo, h.hi⟩
theorem Aw.drew {N : Nat} {w : World} {v : Value} {l : List At} (h : Aw N w v l) (n : Nat) : Aw N (w.drewN n) v l := h

theorem le2 {w : World} {g : Nat} {o o' : Obj} (h : g < w.heap.size) : g + 1 ≤ ((w.alloc o).alloc o').heap.size := by simp; omega
theorem g_row {w w' w'' : World} {row row2 : Option Nat} (h : w.grownBy w' row) (hg : w'.grownBy w'' row2) (hr : ∀ j, row2 = some j → w.heap.size ≤ j) : w.grownBy w'' row :=
  ⟨hg.os.trans h.os, hg.tape.trans h.tape, hg.output.trans h.output, Nat.le_trans h.size hg.size, fun i hi hne => (hg.block i (Nat.lt_of_lt_of_le hi h.size) (fun e => by have := hr i e.symm; omega)).trans (h.block i hi hne)⟩
theorem lt_eq {a b c : Nat} (h : a = b) (h2 : b < c) : a < c := h ▸ h2
theorem map_ne {w : World} {b k g n : Nat} {s : ByteArray} {V : Value} {l : DataW Unit} (h : Rc w b s k V) (hm : w.ownsMap Tryz.prog 9 unitElem g n l) : g ≠ b := by
  obtain ⟨es, clock, hb, _⟩ := hm
  intro e
  subst e
  unfold Rc at h
  rw [h] at hb
  cases hb
/-- A place further on. -/
theorem Al.moved {w wr : World} {b k g0 m : Nat} {s : ByteArray} {V v : Value} {sf : Bool} {l : List At} (h : Al w wr b k g0 s V v sf m l) (x u : Nat) :
    Rc ((wr.drewN x).setCell ⟨b, 1, none⟩ (.int .i64 u)) b s u V ∧ w.grownBy ((wr.drewN x).setCell ⟨b, 1, none⟩ (.int .i64 u)) (some b) ∧ Aw (g0 + 1) ((wr.drewN x).setCell ⟨b, 1, none⟩ (.int .i64 u)) v l ∧
      ((wr.drewN x).setCell ⟨b, 1, none⟩ (.int .i64 u)).ownsMap Tryz.prog 9 unitElem g0 l.length (Sn l) ∧ g0 < ((wr.drewN x).setCell ⟨b, 1, none⟩ (.int .i64 u)).heap.size := by
  have hg := g_set (wr.drewN x) b 1 (.int .i64 u)
  have hrc : Rc (wr.drewN x) b s m V := h.rc
  refine ⟨hrc.set1 u, (h.g.trans (g_dN _ _ _)).trans hg, ?_, ?_, Nat.lt_of_lt_of_le h.hi hg.size⟩
  · exact Aw.kept (show Aw (g0 + 1) (wr.drewN x) v l from h.own) hg (.inr (h.own.ne (show wr.heap[b]? = _ from h.rc) (by decide)))
  · exact World.ownsMap.kept (show (wr.drewN x).ownsMap Tryz.prog 9 unitElem g0 l.length (Sn l) from h.map) hg (by have := map_ne h.rc h.map; simpa using this)
/-- Behind an attribute that was read. -/
theorem Al.read {w wr w2 : World} {b k g0 m m2 : Nat} {s : ByteArray} {V v : Value} {sf : Bool} {l : List At} (h : Al w wr b k g0 s V v sf m l) (x : Nat) (hg : (wr.drewN x).grownBy w2 (some b)) (h2 : Rc w2 b s m2 V) :
    w.grownBy w2 (some b) ∧ Aw (g0 + 1) w2 v l ∧ w2.ownsMap Tryz.prog 9 unitElem g0 l.length (Sn l) ∧ g0 < w2.heap.size := by
  refine ⟨(h.g.trans (g_dN _ _ _)).trans hg, ?_, ?_, Nat.lt_of_lt_of_le h.hi hg.size⟩
  · exact Aw.kept (show Aw (g0 + 1) (wr.drewN x) v l from h.own) hg (.inr (h.own.ne (show wr.heap[b]? = _ from h.rc) (by decide)))
  · exact World.ownsMap.kept (show (wr.drewN x).ownsMap Tryz.prog 9 unitElem g0 l.length (Sn l) from h.map) hg (by have := map_ne h.rc h.map; simpa using this)
theorem len_name (c : UInt8) (r : List UInt8) : (attr c r).1.name.size ≤ r.length + 1 := by
  show (B (lowL (c :: upTo ea r))).size ≤ _
  rw [size_B, len_lowL, List.length_cons]
  have := len_lead (by1 ea) r
  show (lead (by1 ea) r).length + 1 ≤ _
  omega
theorem Aw.mono {N N' : Nat} {w : World} {v : Value} {l : List At} (h : Aw N w v l) (hN : N' ≤ N) : Aw N' w v l := ⟨World.ownsRow.mono h.1 hN, h.2⟩

set_option maxRecDepth 100000 in
set_option maxHeartbeats 8000000 in
theorem attrs_any (b k : Nat) (s : ByteArray) (V : Value) (w : World) (h : Rc w b s k V) (hk : k ≤ s.size) (hs : s.size ≤ 1000000000) (hT : Tab w) (hb0 : 0 < b) :
    Calls Tryz.prog 99 #[rp b] w fun e w' => ∃ v sf en m l, e = .returned (.tuple #[v, .bool sf, .bool en]) ∧ Aw w.heap.size w' v l ∧ m ≤ s.size ∧ l.length ≤ s.size ∧ Rc w' b s m V ∧ w.grownBy w' (some b) ∧
      attrs false [] ((L s).drop k) = (if en = true then some (l, sf, (L s).drop m) else none) ∧ (en = false → m = s.size) := by
  have hmm := @run_makeMap Tryz.prog
  have hs' : s.size ≤ 140737488355328 := by omega
  have h0 : Al w (w.alloc (.map #[] 0)) b k w.heap.size s V (.slice none 0 0) false k [] :=
    ⟨hk, Nat.le_refl _, h.below (below_new w _), by exact World.ownsMap_made _ _ _ _, Aw.nil _ _, g_alloc w _ _, rfl, by simp, Nat.le_refl _, by simp⟩
  have HT := Lib.hid hT
  clear h hT
  go_enter Tryz.func99, Tryz.ntmps99
  go_wp2
  go_step3
  go_wp2
  go_step3
  go_wp2
  clear hmm
  generalize hg0 : w.heap.size = g0 at *
  go_loopw [2, 3, 4] (fun v2 v3 v4 wr => ∃ sf m l, v3 = .bool sf ∧ v4 = .bool false ∧ Al w wr b k g0 s V v2 sf m l) (fun _ _ _ wr => s.size - posOf wr b)
  case atStart => exact ⟨false, k, [], rfl, rfl, h0⟩
  case round =>
    clear h0
    obtain ⟨sf, m, l, rfl, rfl, hal⟩ := hrel
    have hm := hal.m_le
    have c0 := hal.rc.c0; have c1 := hal.rc.c1; have f1 := hal.rc.f 1
    have hpos := hal.rc.pos
    by_cases hp : m < s.size
    · have hlt : decide ((m : Int) < s.size) = true := decide_eq_true (by omega)
      have hcon := drop_cons s m hp
      have e62 : ((s[m].toNat : Int) == 62) = (s[m] == 62) := u8_eq (b := 62)
      have e47 : ((s[m].toNat : Int) == 47) = (s[m] == 47) := u8_eq (b := 47)
      by_cases h62 : s[m] = 62
      · have hb : (s[m] == 62) = true := by rw [h62]; rfl
        rw [hb] at e62
        have heq := hal.eq
        rw [hcon, h62, attrs_end] at heq
        have HA := Lib.hid hal; have HE := Lib.hid heq; clear hal hpos heq hcon h62 hb e47
        go_wp2
        go_quiet (fail)
        go_wp2
        go_quiet (fail)
        go_wp2
        rw [Exit.noGoto_ret]
        go_ret3
        obtain ⟨r1, r2, r3, _⟩ := HA.out.moved _ (m + 1)
        exact ⟨_, _, _, m + 1, l, rfl, r3.mono (by omega), by omega, by have := HA.out.few; omega, r1, r2, by rw [if_pos rfl]; exact HE.out, fun h => by cases h⟩
      by_cases h47 : s[m] = 47
      · have hb : (s[m] == 62) = false := by rw [h47]; rfl
        have hb2 : (s[m] == 47) = true := by rw [h47]; rfl
        rw [hb] at e62
        rw [hb2] at e47
        have heq := hal.eq
        rw [hcon, attrs_skip _ _ _ h62 (.inl h47), hb2] at heq
        have HA := Lib.hid hal; have HE := Lib.hid heq; have HP := Lib.hid hpos; clear hal hpos heq hcon h62 h47 hb hb2
        go_wp2
        go_quiet (fail)
        go_wp2
        go_quiet (fail)
        go_wp2
        go_roundw
        case rel =>
          obtain ⟨r1, r2, r3, r4, r5⟩ := HA.out.moved _ (m + 1)
          have hf := HA.out.few
          have hk2 := HA.out.k_le
          exact ⟨true, m + 1, l, rfl, rfl, by omega, by omega, r1, r4, r3, r2, HE.out, by omega, HA.out.lo, r5⟩
        case measure =>
          obtain ⟨r1, _⟩ := HA.out.moved _ (m + 1)
          rw [HP.out]
          exact lt_eq (congrArg (fun z => s.size - z) r1.pos) (by omega)
      have hb : (s[m] == 62) = false := by simpa using h62
      have hb2 : (s[m] == 47) = false := by simpa using h47
      rw [hb] at e62
      rw [hb2] at e47
      cases hsp : sp s[m] with
      | true =>
        have heq := hal.eq
        rw [hcon, attrs_skip _ _ _ h62 (.inr hsp), hb2] at heq
        have HA := Lib.hid hal; have HE := Lib.hid heq; have HP := Lib.hid hpos; have HS := Lib.hid hsp; clear hal hpos heq hcon h62 h47 hb hb2 hsp
        go_wp2
        go_quiet (fail)
        go_wp2
        go_quiet (fail)
        go_wp2_with (go_at_call 101; refine (space_any s[m] _).mono ?_; rw [HS.out]; rintro e w' ⟨rfl, rfl⟩)
        go_roundw
        case rel =>
          obtain ⟨r1, r2, r3, r4, r5⟩ := HA.out.moved _ (m + 1)
          have hf := HA.out.few
          have hk2 := HA.out.k_le
          exact ⟨false, m + 1, l, rfl, rfl, by omega, by omega, r1, r4, r3, r2, HE.out, by omega, HA.out.lo, r5⟩
        case measure =>
          obtain ⟨r1, _⟩ := HA.out.moved _ (m + 1)
          rw [HP.out]
          exact lt_eq (congrArg (fun z => s.size - z) r1.pos) (by omega)
      | false =>
        have heq := hal.eq
        rw [hcon, attrs_attr _ _ _ h62 (by rw [hsp]; simpa using h47)] at heq
        have hpl := len_attr s[m] ((L s).drop (m + 1))
        have HA := Lib.hid hal; have HE := Lib.hid heq; have HP := Lib.hid hpos; have HS := Lib.hid hsp; have HL := Lib.hid hpl; clear hal hpos heq hcon h62 h47 hb hb2 hsp hpl
        go_wp2
        go_quiet (fail)
        go_wp2
        go_quiet (fail)
        go_wp2_with (go_at_call 101; refine (space_any s[m] _).mono ?_; rw [HS.out]; rintro e w' ⟨rfl, rfl⟩)
        refine (attr_any b m s V _ (HA.out.rc.drew _) hp (by omega) (tab_kept HT.out (HA.out.g.trans (g_dN _ _ _)) hb0) hb0).mono ?_
        rintro e w2 ⟨rfl, m2, hm2, hd2, h2, hg2⟩
        obtain ⟨r1, r2, r3, r4⟩ := HA.out.read _ hg2 h2
        have hns := len_name s[m] ((L s).drop (m + 1))
        have heq := HE.out
        have hln := HL.out
        rw [← hd2] at heq hln
        obtain ⟨a, ha⟩ : ∃ a, (attr s[m] ((L s).drop (m + 1))).1 = a := ⟨_, rfl⟩
        rw [ha] at heq hns ⊢
        rw [List.length_drop, size_L] at hns
        rw [List.length_drop, List.length_drop, size_L] at hln
        have hmm2 : m + 1 ≤ m2 := by omega
        have hnm : a.name.size ≤ maxLen := by unfold maxLen; omega
        have hkey : keyOf Tryz.prog 9 (.string a.name) = some (.string (L a.name)) := WideMaps.keyOf_string_mk Tryz.underlying9 hnm
        have hbx := Bx.new w2 a.name a.value
        have HB := Lib.hid hbx; have HG2 := Lib.hid r1; have HW := Lib.hid r2; have HM := Lib.hid r3; have H2 := Lib.hid h2; have HI := Lib.hid r4; have HLN := Lib.hid hln; have HNM := Lib.hid hnm
        clear hbx r1 r2 r3 r4 h2 hg2 hd2 ha hns hln hnm HL HE
        cases hq : known l a.name with
        | true =>
          have hp2 : put l a = l := by unfold put; rw [if_pos hq]
          rw [hp2] at heq
          have hhas := has_Sn l a.name
          rw [hq] at hhas
          have HE := Lib.hid heq; have HH := Lib.hid hhas; clear heq hhas hp2 hq
          go_wp2_with (at_lookup; refine wpList_lookup_own_unit _ rfl _ _ 98 rfl 9 99 keyed_str Tryz.underlying98 (zero_unit _) g0 l.length (Sn l) rfl (HM.out.alloc _) _ _ rfl hkey ?_; rw [HH.out])
          go_roundw
          case rel =>
            have h3 := (((H2.out.below (below_new w2 (.cells #[.string a.name, .string a.value] 66)))).below (below_new _ (.cells #[] 99)))
            have hf := HA.out.few
            have hk2 := HA.out.k_le
            exact ⟨false, m2, l, rfl, rfl, hm2, by omega, h3, (HM.out.alloc _).alloc _, (HW.out.alloc _).alloc _, (HG2.out.trans (g_alloc _ _ _)).trans (g_alloc _ _ _), HE.out, by omega, HA.out.lo, by have := HI.out; simp; omega⟩
          case measure =>
            have h3 := (((H2.out.below (below_new w2 (.cells #[.string a.name, .string a.value] 66)))).below (below_new _ (.cells #[] 99)))
            rw [HP.out]
            exact lt_eq (congrArg (fun z => s.size - z) h3.pos) (by omega)
        | false =>
          have hp2 : put l a = l ++ [a] := by unfold put; rw [if_neg (by rw [hq]; simp)]
          rw [hp2] at heq
          have hhas := has_Sn l a.name
          rw [hq] at hhas
          have hlen : l.length < maxLen := by have := HA.out.few; unfold maxLen; omega
          have hl4 : l.length ≤ 4000000000 := by have := HA.out.few; omega
          have HE := Lib.hid heq; have HH := Lib.hid hhas; clear heq hhas hp2 hq
          have hne1 : g0 ≠ w2.heap.size := by have := HI.out; omega
          have hbb := H2.out.lt
          go_wp2_with (first
            | (at_lookup; refine wpList_lookup_own_unit _ rfl _ _ 98 rfl 9 99 keyed_str Tryz.underlying98 (zero_unit _) g0 l.length (Sn l) rfl (HM.out.alloc _) _ _ rfl hkey ?_; rw [HH.out])
            | (at_mapUpdate; refine wpList_mapUpdate_own _ rfl _ _ _ 98 rfl 9 99 keyed_str Tryz.underlying98 (unitElem (H := Unit)) g0 l.length (Sn l) rfl ((HM.out.alloc _).alloc _) hlen _ _ _ rfl rfl hkey _ [] unitElem_mk ?_; intro w5 hown5 hgrow5; have hx5 := ((HB.out).below (below_new _ (.cells #[] 99))).kept hgrow5 hne1.symm; have y0 := hx5.c0; have y1 := hx5.c1; have hw5 := (((HW.out.alloc (.cells #[.string a.name, .string a.value] 66)).alloc (.cells #[] 99)).kept hgrow5 (.inr (HW.out.low (Nat.lt_succ_self _)))); have hz5 : g0 + 1 ≤ w5.heap.size := Nat.le_trans (le2 HI.out) hgrow5.size; have HO5 := Lib.hid hown5; have HG5 := Lib.hid hgrow5; have HW5 := Lib.hid hw5; have HZ5 := Lib.hid hz5; clear hx5 hw5 hz5 hown5 hgrow5)
            | (at_builtin; go_loud (refine app_attr w5 rfl (.tmp 44) (.tmp 46) rfl (g0 + 1) u2 l a rfl HW5.out HNM.out w5.heap.size rfl rfl hl4 HZ5.out ?_); intro v7 w7 hw7 hg7))
          have h3 := (((H2.out.below (below_new w2 (.cells #[.string a.name, .string a.value] 66)))).below (below_new _ (.cells #[] 99)))
          have hgb := map_ne H2.out HM.out
          have h5 : Rc w5 b s m2 V := (HG5.out.block b h3.lt (by simpa using Ne.symm hgb)).trans h3
          have h7 : Rc w7 b s m2 V := (hg7.block b h5.lt (fun e => HW5.out.ne h5 (by decide) e.symm)).trans h5
          have hm7 := World.ownsMap.kept HO5.out hg7 (fun e => HW5.out.low (Nat.lt_succ_self _) e.symm)
          rw [← Sn_snoc] at hm7
          have hlo := HA.out.lo
          have hgw : w.grownBy w7 (some b) := g_row (g_row ((HG2.out.trans (g_alloc _ _ _)).trans (g_alloc _ _ _)) HG5.out (fun j hj => by injection hj with hj; omega)) hg7 (fun j hj => by have := (World.ownsRow.lt HW5.out.1 j hj).1; omega)
          have hz7 : g0 < w7.heap.size := Nat.lt_of_lt_of_le (show g0 < w5.heap.size from HZ5.out) hg7.size
          go_roundw
          case rel =>
            have hf := HA.out.few
            have hk2 := HA.out.k_le
            exact ⟨false, m2, l ++ [a], rfl, rfl, hm2, by omega, h7, by rw [List.length_append]; exact hm7, hw7, hgw, HE.out, by rw [List.length_append]; simp; omega, hlo, hz7⟩
          case measure =>
            rw [HP.out]
            exact lt_eq (congrArg (fun z => s.size - z) h7.pos) (by omega)
    · have hlt : decide ((m : Int) < s.size) = false := decide_eq_false (by omega)
      have heq := hal.eq
      rw [drop_nil s m hp, attrs_nil] at heq
      have HA := Lib.hid hal; have HE := Lib.hid heq; clear hal hpos heq
      go_wp2
      go_quiet (fail)
      go_wp2
      rw [Exit.noGoto_ret]
      go_ret3
      exact ⟨_, _, _, m, l, rfl, (HA.out.drew _).own.mono (by omega), hm, by have := HA.out.few; omega, HA.out.rc, HA.out.g.trans (g_dN _ _ _), by rw [if_neg (by simp)]; exact HE.out, fun _ => by omega⟩

end Go.Proofs.YtdplbcchkjpcdaaGreatDoor.To

namespace Go.Proofs.YtdplbcchkjpcdaaGreatDoor.Ro
set_option maxRecDepth 100000
set_option linter.unusedVariables false
set_option linter.unusedSimpArgs false
open Go.RowKit Ba
/-- A row as it lies: where its attributes are, and how much room is there. -/
structure Cw where
  ro : Ro
  A : Option Addr
  c : Nat

def cells (x : Cw) : List Value := [.int .i64 x.ro.depth, .int .i64 x.ro.kind, .string x.ro.name, .string x.ro.data, .slice x.A x.ro.attrs.length x.c]
theorem len_cells (x : Cw) : (cells x).length = 5 := rfl
def Att (w : World) (N : Nat) (x : Cw) : Prop := x.ro.attrs.length ≤ x.c ∧ (x.A = none → x.c = 0) ∧ x.c ≤ maxLen ∧ Ra w N x.A x.ro.attrs ∧ Sh x.ro.attrs
/-- These rows lie at A, below block N, and their attributes. -/
def Rr (w : World) (N : Nat) (A : Option Addr) (l : List Cw) : Prop :=
  (0 < l.length → ∃ b off, A = some ⟨b, off, none⟩ ∧ b < N ∧ ∀ j (h : j < l.length), w.rangeAt b (off + j * 5) (cells l[j])) ∧ ∀ x ∈ l, Att w N x
/-- A row as a value. -/
abbrev rowV (x : Cw) : Value := .agg #[.int .i64 x.ro.depth, .int .i64 x.ro.kind, .string x.ro.name, .string x.ro.data, .slice x.A x.ro.attrs.length x.c]
def ros (l : List Cw) : List Ro := l.map Cw.ro
theorem len_ros (l : List Cw) : (ros l).length = l.length := List.length_map _
theorem ros_drop (l : List Cw) (k : Nat) : (ros l).drop k = ros (l.drop k) := by simp [ros, List.map_drop]
theorem ros_take (l : List Cw) (k : Nat) : (ros l).take k = ros (l.take k) := by simp [ros, List.map_take]
theorem ros_append (a b : List Cw) : ros (a ++ b) = ros a ++ ros b := by simp [ros]
theorem ros_cons (a : Cw) (b : List Cw) : ros (a :: b) = a.ro :: ros b := rfl

theorem Att.keep {w w' : World} {N : Nat} {x : Cw} (h : Att w N x) (hk : ∀ b o, b < N → w'.cell? ⟨b, o, none⟩ = w.cell? ⟨b, o, none⟩) : Att w' N x := ⟨h.1, h.2.1, h.2.2.1, h.2.2.2.1.keep hk, h.2.2.2.2⟩
theorem Att.more {w : World} {N M : Nat} {x : Cw} (h : Att w N x) (hN : N ≤ M) : Att w M x := ⟨h.1, h.2.1, h.2.2.1, h.2.2.2.1.more hN, h.2.2.2.2⟩
theorem Att.below {w w' : World} {N M : Nat} {x : Cw} (h : Att w N x) (hb : Below M w w') (hN : N ≤ M := by exact Nat.le_refl _) : Att w' N x := h.keep fun b o hbN => hb.cell (p := ⟨b, o, none⟩) (show b < M by omega)
theorem Rr.keep {w w' : World} {N : Nat} {A : Option Addr} {l : List Cw} (h : Rr w N A l) (hk : ∀ b o, b < N → w'.cell? ⟨b, o, none⟩ = w.cell? ⟨b, o, none⟩) : Rr w' N A l :=
  ⟨fun h0 => by
    obtain ⟨b, off, e, hb, hc⟩ := h.1 h0
    exact ⟨b, off, e, hb, fun j hj => range_keep (hc j hj) fun o => hk b o hb⟩, fun x hx => (h.2 x hx).keep hk⟩
theorem Rr.more {w : World} {N M : Nat} {A : Option Addr} {l : List Cw} (h : Rr w N A l) (hN : N ≤ M) : Rr w M A l :=
  ⟨fun h0 => by
    obtain ⟨b, off, e, hb, hc⟩ := h.1 h0
    exact ⟨b, off, e, by omega, hc⟩, fun x hx => (h.2 x hx).more hN⟩
theorem Rr.below {w w' : World} {N M : Nat} {A : Option Addr} {l : List Cw} (h : Rr w N A l) (hb : Below M w w') (hN : N ≤ M := by exact Nat.le_refl _) : Rr w' N A l := h.keep fun b o hbN => hb.cell (p := ⟨b, o, none⟩) (show b < M by omega)
theorem Rr.nil (w : World) (N : Nat) (A : Option Addr) : Rr w N A [] := ⟨fun h => absurd h (by simp), fun _ h => by simp at h⟩
/-- A part of it: what the model makes of l[i:j]. -/
theorem Rr.part {w : World} {N : Nat} {A : Option Addr} {l : List Cw} (h : Rr w N A l) (i j cap : Nat) (hij : i ≤ j) (hj : j ≤ l.length) (hc : l.length ≤ cap) :
    Rr w N (if cap = i then A else A.map (·.add (i * 5))) ((l.take j).drop i) := by
  refine ⟨fun h0 => ?_, fun x hx => h.2 x (List.mem_of_mem_take (List.mem_of_mem_drop hx))⟩
  rw [List.length_drop, List.length_take] at h0
  obtain ⟨b, off, e, hb, hcc⟩ := h.1 (by omega)
  rw [if_neg (by omega), e]
  refine ⟨b, off + i * 5, by simp [WideShapes.add_plain], hb, fun k hk => ?_⟩
  rw [List.length_drop, List.length_take] at hk
  have := hcc (i + k) (by omega)
  rw [show off + i * 5 + k * 5 = off + (i + k) * 5 from by omega]
  simpa using this

theorem info_row : (Tryz.prog.info? 36).map (fun i => (i.zero, i.size, i.bytes)) = some (some (.agg #[.int .i64 0, .int .i64 0, .string .empty, .string .empty, .slice none 0 0]), 5, 72) := by kernel_rfl
theorem size_row : (Tryz.prog.info? 36).map (·.size) = some 5 := by kernel_rfl
/-- The row at k. -/
theorem Rr.at_ {w : World} {N : Nat} {A : Option Addr} {l : List Cw} (h : Rr w N A l) (k : Nat) (hk : k < l.length) :
    ∃ b off x, A = some ⟨b, off, none⟩ ∧ b < N ∧ l.drop k = x :: l.drop (k + 1) ∧ w.rangeAt b (off + k * 5) [.int .i64 x.ro.depth, .int .i64 x.ro.kind, .string x.ro.name, .string x.ro.data, .slice x.A x.ro.attrs.length x.c] ∧ Att w N x ∧ x ∈ l := by
  obtain ⟨b, off, e, hb, hc⟩ := h.1 (by omega)
  exact ⟨b, off, l[k], e, hb, List.drop_eq_getElem_cons hk, hc k hk, h.2 _ (List.getElem_mem _), List.getElem_mem _⟩
/-- A row in a box of its own. -/
abbrev rowO (x : Cw) : Obj := .cells #[.int .i64 x.ro.depth, .int .i64 x.ro.kind, .string x.ro.name, .string x.ro.data, .slice x.A x.ro.attrs.length x.c] 36
theorem box_at (w : World) (x : Cw) (j : Nat) : (w.alloc (rowO x)).cell? ⟨w.heap.size, j, none⟩ = (cells x)[j]? := by
  rw [World.cell?_alloc_mark]
  match j with
  | 0 | 1 | 2 | 3 | 4 => rfl
  | j + 5 => simp [cells]
theorem box_kept {w w3 : World} {x : Cw} (hb : Below (w.alloc (rowO x)).heap.size (w.alloc (rowO x)) w3) (j : Nat) : w3.cell? ⟨w.heap.size, j, none⟩ = (cells x)[j]? :=
  (hb.cell (p := ⟨w.heap.size, j, none⟩) (by simp)).trans (box_at w x j)
theorem Att.boxed {w w0 : World} {x : Cw} (h : Att w w0.heap.size x) (hb : Below w0.heap.size w0 w) (o : Obj) : Att (w.alloc o) (w.alloc o).heap.size x :=
  ((h.more hb.size).below (below_new w o)).more (by simp)
/-- l[i:j] where i is ahead of the room's end. -/
theorem Rr.mid {w : World} {N : Nat} {A : Option Addr} {l : List Cw} (h : Rr w N A l) (i j cap : Nat) (hij : i ≤ j) (hj : j ≤ l.length) (hc : l.length ≤ cap) (hne : i < cap) :
    Rr w N (Option.map (fun x => x.add (i * 5)) A) ((l.take j).drop i) := by
  have := h.part i j cap hij hj hc
  rwa [if_neg (by omega)] at this
theorem ros_part (l : List Cw) (i j : Nat) : ros ((l.take j).drop i) = ((ros l).take j).drop i := by rw [← ros_drop, ← ros_take]

end Go.Proofs.YtdplbcchkjpcdaaGreatDoor.Ro

namespace Go.Proofs.YtdplbcchkjpcdaaGreatDoor.Ro
set_option linter.unusedVariables false
set_option linter.unusedSimpArgs false
open Go.RowKit Ba
end Go.Proofs.YtdplbcchkjpcdaaGreatDoor.Ro

namespace Go.Proofs.YtdplbcchkjpcdaaGreatDoor.Ro
set_option linter.unusedVariables false
set_option linter.unusedSimpArgs false
open Go.RowKit Ba
theorem Rr.drewN {w : World} {N : Nat} {A : Option Addr} {l : List Cw} (h : Rr w N A l) (k : Nat) : Rr (w.drewN k) N A l := h

theorem take_step {l : List Cw} {e : Nat} {x : Cw} {p : Ro → Bool} (hd : l.drop e = x :: l.drop (e + 1)) (h : p x.ro = true) : ((ros (l.drop e)).takeWhile p).length = ((ros (l.drop (e + 1))).takeWhile p).length + 1 := by
  rw [hd, ros_cons, List.takeWhile_cons, if_pos h, List.length_cons]
theorem take_stop {l : List Cw} {e : Nat} {x : Cw} {p : Ro → Bool} (hd : l.drop e = x :: l.drop (e + 1)) (h : p x.ro = false) : ((ros (l.drop e)).takeWhile p).length = 0 := by
  rw [hd, ros_cons, List.takeWhile_cons, if_neg (by rw [h]; decide)]
  rfl
/-- Depths that do not wrap. -/
def Deep (l : List Ro) : Prop := ∀ x ∈ l, 0 ≤ x.depth ∧ x.depth ≤ 1000000
theorem Deep.at_ {l : List Cw} (h : Deep (ros l)) {x : Cw} (hx : x ∈ l) : 0 ≤ x.ro.depth ∧ x.ro.depth ≤ 1000000 := h _ (List.mem_map.2 ⟨x, hx, rfl⟩)
end Go.Proofs.YtdplbcchkjpcdaaGreatDoor.Ro

namespace Go.Proofs.YtdplbcchkjpcdaaGreatDoor.Ro
set_option linter.unusedVariables false
set_option linter.unusedSimpArgs false
open Go.RowKit Ba Go.Maps
def key (a : At) : Lit := .string a.name.data.toList
def names {H : Type} (l : List At) : DataW H := setOf (.agg []) (l.map key)
end Go.Proofs.YtdplbcchkjpcdaaGreatDoor.Ro

namespace Go.Proofs.YtdplbcchkjpcdaaGreatDoor.Ro
set_option maxRecDepth 100000
set_option linter.unusedVariables false
set_option linter.unusedSimpArgs false
open Go.RowKit Ba Go.Maps Go.WideMaps
theorem run_makeMap_hint {P : Program} {t k e : TypeId} (ht : P.underlying t = some (.map k e)) (q : IntKind) (n : Int) (w : World) : (Instr.makeMap t (some (.int q n))).run P w = .ok (.map (some w.heap.size)) (w.alloc (.map #[] 0)) := by
  simp [Instr.makeMap, run_underlying ht, asInt, asIntOf]

end Go.Proofs.YtdplbcchkjpcdaaGreatDoor.Ro

namespace Go.Proofs.YtdplbcchkjpcdaaGreatDoor.Bu
set_option maxRecDepth 100000
set_option linter.unusedVariables false
set_option linter.unusedSimpArgs false
open Go.RowKit Ba Fm Fo Nm Bm
open Ro (At Ra Sh acells len_acells below_new getElem_of_drop range2 run_makeMap_hint)
open Tm (put known)
open To (Aw app_attr Sn has_Sn Sn_snoc keyed_str zero_unit)
theorem once_take {l : List At} {k : Nat} {x : At} {r : List At} (h : l.drop k = x :: r) : once (l.take (k + 1)) = put (once (l.take k)) x := by
  have htk : l.take (k + 1) = l.take k ++ [x] := by
    rw [List.take_add_one, getElem_of_drop h]
    rfl
  rw [htk]
  unfold once
  rw [List.foldl_append]
  rfl

set_option maxRecDepth 100000 in
set_option maxHeartbeats 4000000 in
theorem firsts_any (A : Option Addr) (c : Nat) (l : List At) (w : World) (hr : Ra w w.heap.size A l) (hsh : Sh l) (hc : l.length ≤ c) (hl : l.length ≤ 1000000) :
    Calls Tryz.prog 86 #[.slice A l.length c] w fun e w' => ∃ v, e = .returned v ∧ Aw w.heap.size w' v (once l) ∧ Below w.heap.size w w' := by
  have hmm := fun q n w => run_makeMap_hint Tryz.underlying98 q n w
  go_enter Tryz.func86, Tryz.ntmps86
  go_wp2
  go_loopw [3, 14] (fun v i wr => ∃ k : Nat, i = .int .i64 k ∧ k ≤ l.length ∧ wr.ownsMap Tryz.prog 9 (unitElem (H := Unit)) w.heap.size (once (l.take k)).length (Sn (once (l.take k))) ∧ Aw (w.heap.size + 1) wr v (once (l.take k)) ∧ Below w.heap.size w wr ∧ w.heap.size + 1 ≤ wr.heap.size ∧ (once (l.take k)).length ≤ k) (fun _ i _ => l.length - (intOf i).toNat)
  case atStart => exact ⟨0, rfl, by omega, World.ownsMap_made _ _ _ _, Aw.nil _ _, (Below.refl _ _).alloc (Nat.le_refl _) _, by simp, Nat.le_refl _⟩
  case round =>
    clear hmm
    obtain ⟨k, rfl, hk, hown, haw, hbel, hwz, hkl⟩ := hrel
    have hsz := hbel.size
    by_cases hp : k < l.length
    · obtain ⟨b, off, a, rfl, hb, hd, hx, hxm⟩ := (hr.below hbel).at_ k hp
      obtain ⟨x0, x1⟩ := range2 hx
      have hot := once_take hd
      have hnm := hsh a hxm
      have hkey : keyOf Tryz.prog 9 (.string a.name) = some (.string (L a.name)) := WideMaps.keyOf_string_mk Tryz.underlying9 hnm
      obtain ⟨ac, hac⟩ : ∃ ac, once (l.take k) = ac := ⟨_, rfl⟩
      rw [hac] at hot hown haw hkl
      have hbw : b < wr.heap.size := by omega
      cases hq : known ac a.name with
      | true =>
        have hp2 : put ac a = ac := by unfold put; rw [if_pos hq]
        rw [hp2] at hot
        have hhas := has_Sn ac a.name
        rw [hq] at hhas
        have HT := Lib.hid hot; have HH := Lib.hid hhas; have HM := Lib.hid hown; have HW := Lib.hid haw; have HB := Lib.hid hbel
        clear hd hot hx hhas hq hp2 hac hown haw hbel
        go_wp2_with (at_lookup; refine wpList_lookup_own_unit _ rfl _ _ 98 rfl 9 99 keyed_str Tryz.underlying98 (zero_unit _) w.heap.size ac.length (Sn ac) rfl (HM.out.alloc _) _ _ rfl hkey ?_; rw [HH.out])
        go_roundw
        case rel => exact ⟨k + 1, by go_num, by omega, by rw [HT.out]; exact (HM.out.alloc _).alloc _, by rw [HT.out]; exact (HW.out.alloc _).alloc _, (HB.out.alloc hsz _).alloc (by simp; omega) _, by simp; omega, by rw [HT.out]; omega⟩
        case measure => simp [intOf]; omega
      | false =>
        have hp2 : put ac a = ac ++ [a] := by unfold put; rw [if_neg (by rw [hq]; simp)]
        rw [hp2] at hot
        have hhas := has_Sn ac a.name
        rw [hq] at hhas
        have hlen : ac.length < maxLen := by unfold maxLen; omega
        have hl4 : ac.length ≤ 4000000000 := by omega
        have HT := Lib.hid hot; have HH := Lib.hid hhas; have HM := Lib.hid hown; have HW := Lib.hid haw; have HB := Lib.hid hbel; have HBX := Lib.hid (To.Bx.new wr a.name a.value)
        clear hd hot hx hhas hq hp2 hac hown haw hbel
        have hne1 : w.heap.size ≠ wr.heap.size := by omega
        go_wp2_with (first
          | (at_lookup; refine wpList_lookup_own_unit _ rfl _ _ 98 rfl 9 99 keyed_str Tryz.underlying98 (zero_unit _) w.heap.size ac.length (Sn ac) rfl (HM.out.alloc _) _ _ rfl hkey ?_; rw [HH.out])
          | (at_mapUpdate; refine wpList_mapUpdate_own _ rfl _ _ _ 98 rfl 9 99 keyed_str Tryz.underlying98 (unitElem (H := Unit)) w.heap.size ac.length (Sn ac) rfl ((HM.out.alloc _).alloc _) hlen _ _ _ rfl rfl hkey _ [] unitElem_mk ?_; intro w5 hown5 hgrow5; have hx5 := ((HBX.out).below (below_new _ (.cells #[] 99))).kept hgrow5 hne1.symm; have y0 := hx5.c0; have y1 := hx5.c1; have hw5 := (((HW.out.alloc (.cells #[.string a.name, .string a.value] 66)).alloc (.cells #[] 99)).kept hgrow5 (.inr (HW.out.low (Nat.lt_succ_self _)))); have hz5 : w.heap.size + 1 ≤ w5.heap.size := Nat.le_trans (by simp; omega) hgrow5.size; have HO5 := Lib.hid hown5; have HG5 := Lib.hid hgrow5; have HW5 := Lib.hid hw5; have HZ5 := Lib.hid hz5; clear hx5 hw5 hz5 hown5 hgrow5)
          | (at_builtin; go_loud (refine app_attr w5 rfl (.tmp 30) (.tmp 32) rfl (w.heap.size + 1) _ ac a rfl HW5.out hnm w5.heap.size rfl rfl hl4 HZ5.out ?_); intro v7 w7 hw7 hg7))
        have hm7 := World.ownsMap.kept HO5.out hg7 (fun e => HW5.out.low (Nat.lt_succ_self _) e.symm)
        rw [← Sn_snoc] at hm7
        have hb5 : Below w.heap.size w w5 := ((HB.out.alloc hsz _).alloc (by simp; omega) _).grown HG5.out (by simp; omega) (fun j hj => by injection hj with hj; omega)
        have hb7 : Below w.heap.size w w7 := hb5.grown hg7 (by have := HZ5.out; omega) (fun j hj => by have := (World.ownsRow.lt HW5.out.1 j hj).1; omega)
        have hz7 : w.heap.size + 1 ≤ w7.heap.size := Nat.le_trans HZ5.out hg7.size
        go_roundw
        case rel => exact ⟨k + 1, by go_num, by omega, by rw [HT.out, List.length_append]; exact hm7, by rw [HT.out]; exact hw7, hb7, hz7, by rw [HT.out, List.length_append]; simp; omega⟩
        case measure => simp [intOf]; omega
    · rw [List.take_of_length_le (by omega)] at haw
      go_wp2
      go_ret
      exact ⟨_, rfl, ⟨World.ownsRow.mono haw.1 (by omega), haw.2⟩, hbel⟩

end Go.Proofs.YtdplbcchkjpcdaaGreatDoor.Bu

namespace Go.Proofs.YtdplbcchkjpcdaaGreatDoor.Bu
set_option maxRecDepth 100000
set_option linter.unusedVariables false
set_option linter.unusedSimpArgs false
open Go.RowKit Ba Fm Fo Nm Bm
open Ro (At Ra Sh acells len_acells below_new getElem_of_drop range2)
open Tm (put known)
open To (Aw app_attr)
theorem Aw.made (w : World) : Aw w.heap.size (w.alloc (.cells #[] 66)) (.slice (some ⟨w.heap.size, 0, none⟩) 0 0) [] :=
  ⟨World.ownsRow_made w #[] 0 (Nat.le_refl _) (Nat.zero_le _) rfl, fun _ h => by simp at h⟩
theorem aw_below {N M : Nat} {w w' : World} {v : Value} {l : List At} (h : Aw N w v l) (hb : Below M w w') (hM : w.heap.size ≤ M := by exact Nat.le_refl _) : Aw N w' v l := by
  refine ⟨⟨h.1.1, ?_⟩, h.2⟩
  rcases h.1.2 with hn | ⟨g, cap, cur, hv, hg, hh, rest⟩
  · exact .inl hn
  · refine .inr ⟨g, cap, cur, hv, hg, ?_, rest⟩
    have hlt : g < w.heap.size := (Array.getElem?_eq_some_iff.1 hh).1
    rw [hb.block g (by omega)]
    exact hh
theorem has_snoc {l : List At} {j : Nat} {x : At} (h : l[j]? = some x) (n : ByteArray) : has (l.take (j + 1)) n = (has (l.take j) n || decide (x.name = n)) := by
  unfold has
  rw [List.take_add_one, h, Option.toList_some, List.any_append, List.any_cons, List.any_nil, Bool.or_false]
set_option maxRecDepth 100000 in
set_option maxHeartbeats 4000000 in
theorem refOnce_any (A : Option Addr) (c : Nat) (l : List At) (w : World) (hr : Ra w w.heap.size A l) (hsh : Sh l) (hc : l.length ≤ c) (hl : l.length ≤ 1000000) :
    Calls Tryz.prog 32 #[.slice A l.length c] w fun e w' => ∃ v, e = .returned v ∧ Aw w.heap.size w' v (once l) ∧ Below w.heap.size w w' := by
  have HR := Lib.hid hr; have HSH := Lib.hid hsh; have HM := Lib.hid (Aw.made w)
  clear hr hsh
  go_enter Tryz.func32, Tryz.ntmps32
  go_wp2
  go_loopw [3, 4] (fun v i wr => ∃ k : Nat, i = .int .i64 k ∧ k ≤ l.length ∧ Aw w.heap.size wr v (once (l.take k)) ∧ (once (l.take k)).length ≤ k ∧ Below w.heap.size w wr) (fun _ i _ => l.length - (intOf i).toNat)
  case atStart => exact ⟨0, rfl, Nat.zero_le _, HM.out, Nat.le_refl _, below_one w _⟩
  case round =>
    obtain ⟨k, rfl, hk, haw, hkl, hbel⟩ := hrel
    by_cases hp : k < l.length
    · obtain ⟨b, off, a, rfl, hb, hd, hx, hxm⟩ := (HR.out.below hbel).at_ k hp
      obtain ⟨x0, x1⟩ := range2 hx
      have hot := once_take hd
      have hnm := HSH.out a hxm
      have hla := getElem_of_drop hd
      have HRW := Lib.hid (HR.out.below hbel); have HOT := Lib.hid hot; have HAW := Lib.hid haw; have HBE := Lib.hid hbel; have HNM := Lib.hid hnm; have HKL := Lib.hid hkl; have HBB := Lib.hid (show b < wr.heap.size from Nat.lt_of_lt_of_le hb hbel.size)
      clear hd hx hot haw hbel hb hnm hla hkl hxm
      have hlt : decide ((k : Int) < (l.length : Int)) = true := decide_eq_true (by omega)
      go_wp2
      go_loopw [5, 6] (fun f x wi => ∃ (j : Nat) (q : Bool), f = .bool q ∧ x = .int .i64 j ∧ j ≤ k ∧ has (l.take j) a.name = !q ∧ Below wr.heap.size wr wi) (fun _ x _ => k - (intOf x).toNat)
      case atStart => exact ⟨0, true, rfl, rfl, Nat.zero_le _, rfl, Below.refl _ _⟩
      case round =>
        obtain ⟨j, q, rfl, rfl, hj, hq, hbi⟩ := hrel
        have HBI := Lib.hid hbi; have HAI := Lib.hid (aw_below HAW.out hbi); have HBW := Lib.hid (bt HBE.out hbi)
        have z0 := (hbi.cell (p := ⟨b, off + k * 2, none⟩) HBB.out).trans x0
        have z1 := (hbi.cell (p := ⟨b, off + k * 2 + 1, none⟩) HBB.out).trans x1
        have HX0 := Lib.hid x0; have HX1 := Lib.hid x1
        clear x0 x1
        by_cases hjk : j < k
        · have hjl : j < l.length := by omega
          have hjlt : decide ((j : Int) < (k : Int)) = true := decide_eq_true (by omega)
          obtain ⟨b2, off2, a2, e2, hb2, hd2, hx2, _⟩ := (HRW.out.below hbi HBE.out.size).at_ j hjl
          injection e2 with e2
          injection e2 with e3 e4
          subst e3 e4
          obtain ⟨y0, y1⟩ := range2 hx2
          have hs := has_snoc (getElem_of_drop hd2) a.name
          rw [hq] at hs
          obtain ⟨q2, hq2⟩ : ∃ q2, decide (a2.name = a.name) = q2 := ⟨_, rfl⟩
          rw [hq2] at hs
          have heq : (a2.name.toList == a.name.toList) = q2 := by rw [eq_of_toList, hq2]
          have HS := Lib.hid hs
          clear hs hq hd2 hx2 hb2 hq2 hbi
          cases q with
          | false =>
            clear heq y0 y1 z0 z1
            go_wp2
            go_region
            all_goals go_wp2
            go_roundw
            case rel => exact ⟨j + 1, false, rfl, by go_num, by omega, by rw [HS.out]; rfl, by first | exact below_dN HBI.out 1 | exact HBI.out | exact HBI.out.trans ((below_drewN _ 1).mono HBI.out.size)⟩
            case measure => simp [intOf]; omega
          | true =>
            go_wp2
            go_region
            all_goals go_wp2
            go_roundw
            case rel => exact ⟨j + 1, !q2, rfl, by go_num, by omega, by rw [HS.out]; simp, by first | exact below_dN HBI.out 1 | exact HBI.out | exact HBI.out.trans ((below_drewN _ 1).mono HBI.out.size)⟩
            case measure => simp [intOf]; omega
        · obtain rfl : j = k := by omega
          have hjlt : decide ((j : Int) < (j : Int)) = false := decide_eq_false (by omega)
          have hkn := known_once (l.take j) a.name
          rw [hq] at hkn
          have hput : put (once (l.take j)) a = if (!q) = true then once (l.take j) else once (l.take j) ++ [a] := by unfold put; rw [hkn]
          have HPU := Lib.hid (HOT.out.trans hput)
          clear hq hkn hput hbi
          cases q with
          | false =>
            go_wp2
            go_roundw
            case rel => exact ⟨j + 1, by go_num, by omega, by rw [HPU.out]; exact HAI.out, by rw [HPU.out]; exact Nat.le_succ_of_le HKL.out, HBW.out⟩
            case measure => simp [intOf]; omega
          | true =>
            rename_i wi
            go_wp2_with (at_builtin; refine app_attr _ rfl (.tmp 34) (.tmp 39) rfl w.heap.size _ (once (l.take j)) a rfl HAI.out HNM.out _ rfl rfl (by have := HKL.out; omega) HBW.out.size ?_; intro v7 w7 hw7 hg7)
            have hb7 := HBW.out.grown hg7 HBW.out.size (fun i hi => (World.ownsRow.lt HAI.out.1 i hi).1)
            go_roundw
            case rel => exact ⟨j + 1, by go_num, by omega, by rw [HPU.out]; exact hw7, by rw [HPU.out]; have := HKL.out; simp; omega, hb7⟩
            case measure => simp [intOf]; omega
    · have hlt : decide ((k : Int) < (l.length : Int)) = false := decide_eq_false (by omega)
      rw [List.take_of_length_le (by omega)] at haw
      have HAW := Lib.hid haw; have HBE := Lib.hid hbel
      clear haw hbel hkl
      go_wp2
      go_ret
      exact ⟨_, rfl, HAW.out, HBE.out⟩

end Go.Proofs.YtdplbcchkjpcdaaGreatDoor.Bu
